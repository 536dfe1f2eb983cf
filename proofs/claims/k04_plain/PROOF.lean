import PyProof.Rows.All
import Wide.All
import OpenK.AllK
import Wide.FinOn
import HandS.ForMost
import HandS.IsInst
import HandS.TupAny
import HandS.More
import KE.KeyNested
import KE.DataMinMax
import HandS.SortKw
import HandS.Star
import HandS.Zip
import HandS.Conv
import HandS.Deep
import HandS.TryOnly
import HandS.FStr
import HandS.Rev
import HandS.Exc
import HandS.ExcOwn
import HandS.WordsExc
import HandS.RaiseMore
import HandS.CallLocal
import HandS.Flow
import PySem.Challenge.RW_quotehall_k04_plain
set_option Elab.async false
set_option autoImplicit false
set_option maxRecDepth 100000
/-! ## One layer for all laws of the program: terms as data, how the heap bears them, the laws' own helpers -/
namespace Q
open PySem L2
def topS (i : Nat) : Stmt := PySem.Challenge.pw_quotehall_k04_plain.main.body.getD i (.Pass ⟨0, 0, 0, 0⟩)

/-! ### a def that keeps a promise, as its callers need it -/
structure Cal (P : Program) (w : World) (K : PySem.W.Frag) (mg : Str → Option Value) (base : Heap) (x : Str) (ps : List Str) (k : Nat) (sp : Sp) (f : Addr) (fd : FuncData) : Prop where
  ok : FnOk P w K mg base CX0 k f fd ps sp
  m : mg x = some (.ref f)
  kp : PySem.W.keepIn K (.ref f) = true
  b : Binds K fd ps []

/-- a method that keeps a promise -/
structure CalM (P : Program) (w : World) (K : PySem.W.Frag) (mg : Str → Option Value) (base : Heap) (C : Addr) (x : Str) (ps : List Str) (k : Nat) (sp : Sp) (f : Addr) (fd : FuncData) : Prop where
  ok : FnOk P w K mg base CX0 k f fd ps sp
  m : Meth K C x f
  b : Binds K fd ps []
/-- a class whose objects are made -/
structure CalC (P : Program) (w : World) (K : PySem.W.Frag) (mg : Str → Option Value) (base : Heap) (x : Str) (C : Addr) (ps : List Str) (k : Nat) (sp : Sp) (f : Addr) (fd : FuncData) : Prop where
  mkr : Mk K C f
  ok : FnOk P w K mg base CX0 k f fd ps sp
  m : mg x = some (.ref C)
  b : Binds K fd ps []

/-! ### the built-ins that the text calls -/
structure Txt (mg : Str → Option Value) : Prop where
  bool : mg "bool" = none
  dict : mg "dict" = none
  int : mg "int" = none
  isinstance : mg "isinstance" = none
  len : mg "len" = none
  max : mg "max" = none
  range : mg "range" = none
  reversed : mg "reversed" = none
  sum : mg "sum" = none
  tuple : mg "tuple" = none
  g_RECKONED_BY : ∃ t, mg "RECKONED_BY" = some (.int 1000003 t)
  g_MOST_TERMS : ∃ t, mg "MOST_TERMS" = some (.int 2000 t)
  g_DEEPEST : ∃ t, mg "DEEPEST" = some (.int 30 t)

/-! ### heaps -/
theorem same_new {H : Hp} {p : Addr} (h : H p = none) (o : HO) : Same H (upd H p o) := fun b u q => by rw [upd_ne (ne_of_none q h)]; exact q
/-- all that was tracked but the object at st is as it was -/
def But (st : Addr) (H H' : Hp) : Prop := ∀ b o, b ≠ st → H b = some o → H' b = some o
theorem But.refl (st : Addr) (H : Hp) : But st H H := fun _ _ _ h => h
theorem But.trans {st : Addr} {H H1 H2 : Hp} (a : But st H H1) (b : But st H1 H2) : But st H H2 := fun c o n h => b c o n (a c o n h)
theorem But.of_same {st : Addr} {H H' : Hp} (h : Same H H') : But st H H' := fun b o _ q => h b o q
theorem But.put (st : Addr) (H : Hp) (o : HO) : But st H (upd H st o) := fun b u n q => by rw [upd_ne n]; exact q
theorem But.new {st : Addr} {H H' : Hp} {p : Addr} {o : HO} (h : But st H H') (n : H' p = none) : But st H (upd H' p o) := h.trans (.of_same (same_new n o))
theorem But.seqL {K : PySem.W.Frag} {st : Addr} {H H' : Hp} {a : Addr} {xs : List V} (e : But st H H') (n : a ≠ st) (h : SqL K H a xs) : SqL K H' a xs := by
  rcases h with (h | ⟨o, h⟩) | h
  · exact .inl (.inl (e _ _ n h))
  · exact .inl (.inr ⟨o, e _ _ n h⟩)
  · exact .inr h
theorem small {n : Nat} (h : n ≤ 1000) : n ≤ sizeLine := Nat.le_of_lt (small1000 h)
theorem atI_n {α : Type} {xs : List α} {k : Int} {n : Nat} {v : α} (e : k = (n : Int)) (h : xs[n]? = some v) : atI xs k = some v := by
  subst e
  exact atI_nat h

/-! ### what a test, an expression, a statement leaves, said once -/
section
variable {X : Cx}
def tKt (t : TT) : TT := fun σ H Q => ∃ R : Bool → Hp → Prop, t σ H R ∧ ∀ b H', R b H' → Q b H'
theorem pt_k {e : Expr} {t : TT} (h : PT X e t) : PT X e (tKt t) := ⟨fun pins s σ H Q I ⟨R, q, m⟩ => thn (h.run pins s σ H R I q) fun _ _ ⟨H', I', r⟩ => ⟨H', I', m _ _ r⟩⟩
def tKe (t : TE) : TE := fun σ H Q => ∃ R : V → Hp → Prop, t σ H R ∧ ∀ v H', R v H' → Q v H'
theorem pe_k {e : Expr} {t : TE} (h : PE X e t) : PE X e (tKe t) := ⟨fun pins s σ H Q I ⟨R, q, m⟩ => thn (h.run pins s σ H R I q) fun _ _ ⟨v, H', I', rv, r⟩ => ⟨v, H', I', rv, m _ _ r⟩⟩
def tCut (t u : TS) : TS := fun D σ H => ∃ Mid : L2.St → Hp → Prop, t { D with nx := Mid } σ H ∧ ∀ σ' H', Mid σ' H' → u D σ' H'
theorem pss_cut {st : Stmt} {rest : List Stmt} {t u : TS} (h1 : PS X st t) (h2 : PSs X rest u) : PSs X (st :: rest) (tCut t u) := by
  refine ⟨fun pins s σ H D I h => ?_⟩
  obtain ⟨Mid, hm, hu⟩ := h
  refine wpAny_execs_cons (thn (h1.run pins s σ H { D with nx := Mid } I hm) fun f s1 q => ?_)
  cases f with
  | next =>
    obtain ⟨σ', H', I', q⟩ := q
    exact h2.run pins s1 σ' H' D I' (hu σ' H' q)
  | ret v => exact q
  | brk => exact q
  | cont => exact q
end

/-! ### cells, draws -/
/-- the script: a list of ints that nobody writes -/
def Ints (K : PySem.W.Frag) (H : Hp) (a : Addr) : Prop := ∃ ns : List Int, ns.length ≤ 63 ∧ ((∃ o, H a = some (.frz o (.lst (ns.map V.int)))) ∨
  ∃ (o : Obj) (its : Array Value) (n : Nat), K.lookup a = some o ∧ o.cls = .type "list" ∧ o.dict = none ∧ o.data = .seq its n ∧ its.size ≤ sizeLine ∧ Vals (ns.map V.int) its.toList)
theorem Ints.sq {K : PySem.W.Frag} {H : Hp} {a : Addr} (h : Ints K H a) : ∃ ns : List Int, SqL K H a (ns.map V.int) ∧ ns.length ≤ 63 := by
  obtain ⟨ns, h63, ⟨o, h⟩ | h⟩ := h
  · exact ⟨ns, .inl (.inr ⟨o, h⟩), h63⟩
  · exact ⟨ns, .inr h, h63⟩
theorem Ints.same {K : PySem.W.Frag} {H H' : Hp} {a : Addr} (h : Ints K H a) (e : Same H H') : Ints K H' a := by
  obtain ⟨ns, h63, ⟨o, h⟩ | h⟩ := h
  · exact ⟨ns, h63, .inl ⟨o, e _ _ h⟩⟩
  · exact ⟨ns, h63, .inr h⟩
theorem Ints.but {K : PySem.W.Frag} {H H' : Hp} {a st : Addr} {ys : List V} (h : Ints K H a) (hs : H st = some (.lst ys)) (e : But st H H') : Ints K H' a := by
  obtain ⟨ns, h63, ⟨o, h⟩ | h⟩ := h
  · exact ⟨ns, h63, .inl ⟨o, e _ _ (ne_of h hs (by intro z; cases z)) h⟩⟩
  · exact ⟨ns, h63, .inr h⟩
theorem Ints.of {K : PySem.W.Frag} {H : Hp} {a : Addr} {ns : List Int} (hO : Only H) (h : SqL K H a (ns.map V.int)) (h63 : ns.length ≤ 63) : Ints K H a := by
  rcases h with (h | ⟨o, h⟩) | h
  · rcases hO a with z | ⟨o, xs, z⟩
    · rw [z] at h
      cases h
    · rw [z] at h
      cases h
  · exact ⟨ns, h63, .inl ⟨o, h⟩⟩
  · exact ⟨ns, h63, .inr h⟩
def spCellAt (K : PySem.W.Frag) : Sp := fun vs H Q _ => ∃ (a : Addr) (k : Int), vs = [.ref a, .int k] ∧ Ints K H a ∧ 0 ≤ k ∧ ∀ c : Int, Q (.int c) H
def spMixed (K : PySem.W.Frag) : Sp := fun vs H Q _ => ∃ (a : Addr) (k : Int), vs = [.ref a, .int k] ∧ Ints K H a ∧ 0 ≤ k ∧ ∀ c : Int, 0 ≤ c → c < 2147483629 → Q (.int c) H
abbrev s_cell_at : Stmt := topS 41
theorem sc_cell_at : FnScope ["_law_script", "_law_k"] ["_law_script", "_law_k"] (defScope s_cell_at) := ⟨rfl, rfl, rfl, by decide +kernel, rfl, by decide +kernel, by decide +kernel⟩
abbrev s_mixed : Stmt := topS 42
theorem sc_mixed : FnScope ["_law_script", "_law_k", "_law_number_here"] ["_law_script", "_law_k"] (defScope s_mixed) := ⟨rfl, rfl, rfl, by decide +kernel, rfl, by decide +kernel, by decide +kernel⟩
section
variable {P : Program} {w : World} {K : PySem.W.Frag} {mg : Str → Option Value} {base : Heap} {f f1 f2 f3 f4 f5 f6 f7 f8 : Addr} {fd fd1 fd2 fd3 fd4 fd5 fd6 fd7 fd8 : FuncData}
theorem ok_cell_at (F : Fun K "_law_cell_at" "_law_cell_at" s_cell_at f fd) (T : Txt mg) : FnOk P w K mg base CX0 1 f fd ["_law_script", "_law_k"] (spCellAt K) := by
  refine F.ok sc_cell_at (fun vs H Q E h => ?_) (fun cdv A outer s H vs Q E hr h => ?_)
  · obtain ⟨a, k, rfl, _⟩ := h
    rfl
  obtain ⟨a, k, rfl, hI, h0, q⟩ := h
  obtain ⟨ns, hS, h63⟩ := hI.sq
  refine ⟨_, (pss_cons (ps_if (pt_cmpR op_lt (pv 1) (pe_callB call_len_seq (by rfl) T.len PySem.boot_len (pa_cons (pv 0) pa_nil)) (nomark _)) (pss_one (ps_ret (pe_ix ix_list (pv 0) (pv 1) (fun _ _ => rfl)))) pss_nil)
      (pss_one (ps_ret pe_int))), ?_⟩
  refine ⟨_, rfl, _, rfl, a, _, rfl, .inl hS, _, _, rfl, rfl, _, rfl, ?_⟩
  refine ite2 (fun c => ?_) (fun c => ?_)
  · have c' : k < (((ns.map V.int).length : Nat) : Int) := of_decide_eq_true c
    rw [List.length_map] at c'
    have hk : k.toNat < ns.length := by omega
    exact ⟨_, rfl, _, rfl, a, _, _, .int (ns[k.toNat]), rfl, rfl, hS, atI_n (n := k.toNat) (by omega) (by rw [List.getElem?_map, List.getElem?_eq_getElem hk]; rfl), q _⟩
  · exact q 0
theorem mixed_lt (x : Int) : 0 ≤ x % 2147483629 ∧ x % 2147483629 < 2147483629 := ⟨Int.emod_nonneg _ (by decide), Int.emod_lt_of_pos _ (by decide)⟩
theorem mixed_lt2 (x : Int) : 0 ≤ x % 2147483647 ∧ x % 2147483647 < 2147483647 := ⟨Int.emod_nonneg _ (by decide), Int.emod_lt_of_pos _ (by decide)⟩
theorem ok_mixed (F : Fun K "_law_mixed" "_law_mixed" s_mixed f fd) (T : Txt mg) (C_law_cell_at : Cal P w K mg base "_law_cell_at" ["_law_script", "_law_k"] 1 (spCellAt K) f1 fd1) : FnOk P w K mg base CX0 2 f fd ["_law_script", "_law_k"] (spMixed K) := by
  refine F.ok sc_mixed (fun vs H Q E h => ?_) (fun cdv A outer s H vs Q E hr h => ?_)
  · obtain ⟨a, k, rfl, _⟩ := h
    rfl
  obtain ⟨a, k, rfl, hS, h0, q⟩ := h
  refine ⟨_, (pss_cons (ps_set (i := 2) sc_mixed.nd rfl (Or.inl rfl) (pe_op op_mod (pe_op op_mul (pe_op op_add (pe_call C_law_cell_at.ok (hr.mono (by first | decide | omega)) rfl C_law_cell_at.m C_law_cell_at.kp C_law_cell_at.b .nil pass0 (pa_cons (pv 0) (pa_cons (pv 1) pa_nil))) (pe_op op_mul pe_int (pv 1))) pe_int) pe_int))
      (pss_one (ps_ret (pe_op op_mod (pe_op op_add (pe_op op_add (pe_op op_mul (pv 2) (pv 2)) (pe_op op_mul pe_int (pv 2))) (pv 1)) pe_int)))), ?_⟩
  refine ⟨_, rfl, _, rfl, a, k, rfl, hS, h0, fun c => ?_⟩
  refine ⟨_, rfl, _, _, rfl, rfl, .inl ⟨by decide, by decide⟩, _, _, rfl, rfl, _, _, rfl, rfl, .inr ⟨by decide, by decide⟩, _, _, rfl, rfl, (by show (0 : Int) < _; decide), ?_⟩
  have b := mixed_lt2 ((c + 7919 * k) * 48271)
  generalize (c + 7919 * k) * 48271 % 2147483647 = n at b ⊢
  refine ⟨_, rfl, _, rfl, _, _, rfl, rfl, .inl ⟨by omega, by omega⟩, _, rfl, _, _, rfl, rfl, .inl ⟨by decide, by decide⟩, _, _, rfl, rfl, _, rfl, _, _, rfl, rfl, _, _, rfl, rfl, (by show (0 : Int) < _; decide), ?_⟩
  exact q _ (mixed_lt _).1 (mixed_lt _).2
end

def Drawn : List Int → List Int → Prop
  | [], [] => True
  | x :: xs, s :: ss => (0 ≤ x ∧ x < s) ∧ Drawn xs ss
  | _, _ => False
theorem Drawn.snoc : ∀ {xs ss : List Int} {x s : Int}, Drawn xs ss → 0 ≤ x → x < s → Drawn (xs ++ [x]) (ss ++ [s])
  | [], [], _, _, _, h0, h1 => ⟨⟨h0, h1⟩, True.intro⟩
  | _ :: _, _ :: _, _, _, ⟨h, t⟩, h0, h1 => ⟨h, Drawn.snoc t h0 h1⟩
  | [], _ :: _, _, _, h, _, _ => h.elim
  | _ :: _, [], _, _, h, _, _ => h.elim
theorem Drawn.len : ∀ {xs ss : List Int}, Drawn xs ss → xs.length = ss.length
  | [], [], _ => rfl
  | _ :: _, _ :: _, ⟨_, t⟩ => congrArg (· + 1) (Drawn.len t)
  | [], _ :: _, h => h.elim
  | _ :: _, [], h => h.elim
/-- an int of a list of ints by its place -/
theorem at_int {ys : List Int} {j : Int} (h0 : 0 ≤ j) (h1 : j < (ys.length : Int)) : ∃ c, c ∈ ys ∧ atI (ys.map V.int) j = some (.int c) := by
  have hk : j.toNat < ys.length := by omega
  exact ⟨ys[j.toNat], List.getElem_mem hk, atI_n (k := j) (n := j.toNat) (by omega) (by rw [List.getElem?_map, List.getElem?_eq_getElem hk]; rfl)⟩
theorem at_str {ys : List Str} {j : Int} (h0 : 0 ≤ j) (h1 : j < (ys.length : Int)) : ∃ c, c ∈ ys ∧ atI (ys.map V.str) j = some (.str c) := by
  have hk : j.toNat < ys.length := by omega
  exact ⟨ys[j.toNat], List.getElem_mem hk, atI_n (k := j) (n := j.toNat) (by omega) (by rw [List.getElem?_map, List.getElem?_eq_getElem hk]; rfl)⟩
theorem at_any {ys : List V} {j : Int} (h0 : 0 ≤ j) (h1 : j < (ys.length : Int)) : ∃ c, c ∈ ys ∧ atI ys j = some c := by
  have hk : j.toNat < ys.length := by omega
  exact ⟨ys[j.toNat], List.getElem_mem hk, atI_n (k := j) (n := j.toNat) (by omega) (List.getElem?_eq_getElem hk)⟩
theorem at_cod {ys : List Nat} {j : Int} (h0 : 0 ≤ j) (h1 : j < (ys.length : Int)) : ∃ c, c ∈ ys ∧ atI ys j = some c := by
  have hk : j.toNat < ys.length := by omega
  exact ⟨ys[j.toNat], List.getElem_mem hk, atI_n (k := j) (n := j.toNat) (by omega) (List.getElem?_eq_getElem hk)⟩
theorem ixN_lt {n : Nat} {j : Int} (h0 : 0 ≤ j) (h1 : j < (n : Int)) : ixN n j = some j.toNat := by
  unfold ixN
  rw [if_pos h0, if_pos h1]
theorem mod_in (x : Int) {n : Int} (h : 0 < n) : 0 ≤ x % n ∧ x % n < n := ⟨Int.emod_nonneg _ (by omega), Int.emod_lt_of_pos _ h⟩
def spDrawn (K : PySem.W.Frag) : Sp := fun vs H Q _ => ∃ (n : Int) (a : Addr) (ss : List Int), vs = [.int n, .ref a] ∧ SqL K H a (ss.map V.int) ∧ ss.length ≤ 63 ∧ (∀ s ∈ ss, 0 < s ∧ s < 1073741824) ∧
  ∀ (xs : List Int) (r : Addr) (H' : Hp), Drawn xs ss → H r = none → Same H H' → H' r = some (.lst (xs.map V.int)) → Q (.ref r) H'
abbrev s_drawn : Stmt := topS 43
theorem sc_drawn : FnScope ["_law_number_here", "_law_sizes", "_law_some", "_law_size"] ["_law_number_here", "_law_sizes"] (defScope s_drawn) := ⟨rfl, rfl, rfl, by decide +kernel, rfl, by decide +kernel, by decide +kernel⟩
/-- the state's first number is the place of the next draw -/
def spNext (K : PySem.W.Frag) : Sp := fun vs H Q _ => ∃ (a st : Addr) (c : Int) (r : List V), vs = [.ref a, .ref st] ∧ Ints K H a ∧ H st = some (.lst (.int c :: r)) ∧ 0 ≤ c ∧
  ∀ n : Int, 0 ≤ n → n < 2147483629 → Q (.int n) (upd H st (.lst (.int (c + 1) :: r)))
abbrev s_next : Stmt := topS 46
theorem sc_next : FnScope ["_law_script", "_law_state"] ["_law_script", "_law_state"] (defScope s_next) := ⟨rfl, rfl, rfl, by decide +kernel, rfl, by decide +kernel, by decide +kernel⟩
def spNumber : Sp := fun vs H Q _ => ∃ n : Int, vs = [.int n] ∧ 0 ≤ n ∧ n < 2147483629 ∧ ∀ (c : Int) (H' : Hp), Same H H' → c.natAbs ≤ 10 ^ 20 → Q (.int c) H'
abbrev s_number : Stmt := topS 47
theorem sc_number : FnScope ["_law_number_here", "_law_some"] ["_law_number_here"] (defScope s_number) := ⟨rfl, rfl, rfl, by decide +kernel, rfl, by decide +kernel, by decide +kernel⟩
section
variable {P : Program} {w : World} {K : PySem.W.Frag} {mg : Str → Option Value} {base : Heap} {f f1 f2 f3 f4 f5 f6 f7 f8 : Addr} {fd fd1 fd2 fd3 fd4 fd5 fd6 fd7 fd8 : FuncData}
theorem ok_drawn (F : Fun K "_law_drawn" "_law_drawn" s_drawn f fd) (T : Txt mg) : FnOk P w K mg base CX0 1 f fd ["_law_number_here", "_law_sizes"] (spDrawn K) := by
  refine F.ok sc_drawn (fun vs H Q E h => ?_) (fun cdv A outer s H vs Q E hr h => ?_)
  · obtain ⟨n, a, ss, rfl, _⟩ := h
    rfl
  obtain ⟨n, a, ss, rfl, hS, h63, hp, q⟩ := h
  refine ⟨_, (pss_cons (ps_set (i := 2) sc_drawn.nd rfl (Or.inl rfl) (pe_lst pa_nil))
      (pss_cons (ps_for PassesOwn.never rfl (pi_list (pv 1)) (pg_name (i := 3) sc_drawn.nd rfl (Or.inl rfl)) (pss_cons (ps_expr (pe_bm PySem.F.plainAttrs_list PySem.F.slot_list_append PySem.F.type_list_append mt_append (pv 2) (pa_cons (pe_op op_mod (pv 0) (pv 3)) pa_nil)))
      (pss_one (ps_set (i := 0) sc_drawn.nd rfl (Or.inl rfl) (pe_op op_fdiv (pv 0) (pv 3))))))
      (pss_one (ps_ret (pv 2))))), ?_⟩
  refine ⟨Nat.zero_le _, fun r hr => ?_⟩
  refine ⟨_, rfl, a, rfl, ⟨_, (same_new hr _).seq hS⟩, for_list (K := K) (a := a) (xs := ss.map V.int) (fun i σ H' => ∃ (m : Int) (xs : List Int) (v : Option V), σ = [some (.int m), some (.ref a), some (.ref r), v] ∧ Same H H' ∧ H' r = some (.lst (xs.map V.int)) ∧ Drawn xs (ss.take i))
    ⟨n, [], none, rfl, same_new hr _, upd_same, by rw [List.take_zero]; exact True.intro⟩ (fun i σ H' _ ⟨_, _, _, _, g, _⟩ => g.seq hS) ?_ ?_⟩
  · rintro i y σ H' hi ⟨m, xs, v, rfl, g, hx, hd⟩
    have hil : i < ss.length := by
      have z := (List.getElem?_eq_some_iff.mp hi).1
      rw [List.length_map] at z
      exact z
    rw [List.getElem?_map, List.getElem?_eq_getElem hil] at hi
    cases hi
    have hs := hp ss[i] (List.getElem_mem hil)
    have hlen : xs.length ≤ 63 := by
      have z := hd.len
      rw [List.length_take] at z
      omega
    refine ⟨_, rfl, .inl ⟨rfl, _, SqL.of hx⟩, _, rfl, _, rfl, _, _, rfl, rfl, hs.1, r, _, _, rfl, rfl, hx, small1000 (by rw [List.length_map]; omega), ?_⟩
    refine ⟨_, rfl, _, rfl, _, _, rfl, rfl, ⟨hs.1, hs.2⟩, ?_⟩
    have h0 := mod_in m hs.1
    refine ⟨m / ss[i], xs ++ [m % ss[i]], _, rfl, fun b o e => ?_, ?_, ?_⟩
    · have nb : b ≠ r := ne_of_none e hr
      rw [upd_ne nb]
      exact g b o e
    · rw [upd_same, List.map_append]
      rfl
    · rw [List.take_succ_eq_append_getElem hil]
      exact hd.snoc h0.1 h0.2
  · rintro σ H' ⟨m, xs, v, rfl, g, hx, hd⟩
    refine ⟨_, rfl, q xs r H' ?_ hr g hx⟩
    rw [List.length_map, List.take_length] at hd
    exact hd
theorem ok_next (F : Fun K "_law_next" "_law_next" s_next f fd) (C_law_mixed : Cal P w K mg base "_law_mixed" ["_law_script", "_law_k"] 2 (spMixed K) f1 fd1) : FnOk P w K mg base CX0 3 f fd ["_law_script", "_law_state"] (spNext K) := by
  refine F.ok sc_next (fun vs H Q E h => ?_) (fun cdv A outer s H vs Q E hr h => ?_)
  · obtain ⟨a, st, c, r, rfl, _⟩ := h
    rfl
  obtain ⟨a, st, c, r, rfl, hI, hst, h0, q⟩ := h
  refine ⟨_, (pss_cons (ps_asg (pe_op op_add (pe_ix ix_list (pv 1) pe_int (fun _ _ => rfl)) pe_int) (pg_sub (pv 1) pe_int set_list))
      (pss_one (ps_ret (pe_call C_law_mixed.ok (hr.mono (by first | decide | omega)) rfl C_law_mixed.m C_law_mixed.kp C_law_mixed.b .nil pass0 (pa_cons (pv 0) (pa_cons (pe_ix ix_list (pv 1) pe_int (fun _ _ => rfl)) pa_nil)))))), ?_⟩
  refine ⟨_, rfl, st, _, _, _, rfl, rfl, SqL.of hst, atI_n (n := 0) rfl rfl, _, _, rfl, rfl, _, rfl, st, _, _, 0, rfl, rfl, hst, ixN_lt (Int.le_refl 0) (by show (0 : Int) < ((r.length + 1 : Nat) : Int); omega), ?_⟩
  refine ⟨_, rfl, _, rfl, st, _, _, _, rfl, rfl, SqL.of upd_same, atI_n (n := 0) rfl rfl, a, c + 1, rfl, hI.but hst (.put _ _ _), by omega, q⟩
theorem ok_number (F : Fun K "_law_number" "_law_number" s_number f fd) : FnOk P w K mg base CX0 1 f fd ["_law_number_here"] spNumber := by
  refine F.ok sc_number (fun vs H Q E h => ?_) (fun cdv A outer s H vs Q E hr h => ?_)
  · obtain ⟨n, rfl, _⟩ := h
    rfl
  obtain ⟨n, rfl, h0, h1, q⟩ := h
  refine ⟨_, (pss_cons (ps_set (i := 1) sc_number.nd rfl (Or.inl rfl) (pe_lst (pa_cons (pe_op op_mod (pv 0) pe_int) (pa_cons (pe_op op_mod (pv 0) pe_int) (pa_cons (pe_op op_sub (pe_un un_neg pe_int) (pe_op op_mod (pv 0) pe_int)) (pa_cons (pe_op op_add (pe_op op_mul pe_int (pe_op op_mod (pv 0) pe_int)) (pe_op op_mod (pv 0) pe_int)) (pa_cons (pe_op op_pow pe_int pe_int) pa_nil)))))))
      (pss_one (ps_ret (pe_ix ix_list (pe_op op_cat (pv 1) (pe_lst (pa_cons (pe_un un_neg (pv 0)) pa_nil))) (pe_op op_mod (pe_op op_fdiv (pv 0) pe_int) pe_int) (fun _ _ => rfl))))), ?_⟩
  refine ⟨_, rfl, _, _, rfl, rfl, (by show (0 : Int) < _; decide), _, rfl, _, _, rfl, rfl, (by show (0 : Int) < _; decide), _, rfl, _, rfl, _, _, rfl, rfl, (by show (0 : Int) < _; decide), _, _, rfl, rfl, ?_⟩
  refine ⟨_, rfl, _, _, rfl, rfl, (by show (0 : Int) < _; decide), _, _, rfl, rfl, .inl ⟨by decide, by decide⟩, _, rfl, _, _, rfl, rfl, (by show (0 : Int) < _; decide), _, _, rfl, rfl, _, _, rfl, rfl, ⟨by decide, by decide, by decide⟩, ?_⟩
  refine ⟨by show 5 ≤ sizeLine; decide, fun p1 hp1 => ?_⟩
  refine ⟨_, rfl, _, rfl, _, rfl, by show 1 ≤ sizeLine; decide, fun p2 hp2 => ?_⟩
  have g1 := same_new hp1 (.lst [V.int (n % 3), .int (n % 1000), .int (-1 - n % 9), .int (1000003 * (n % 2) + n % 5), .int (10 ^ 20)])
  refine ⟨p1, p2, _, _, rfl, rfl, same_new hp2 _ _ _ upd_same, upd_same, by show 6 ≤ sizeLine; decide, fun p3 hp3 => ?_⟩
  refine ⟨_, rfl, _, _, rfl, rfl, ⟨by decide, by decide⟩, _, _, rfl, rfl, (by show (0 : Int) < _; decide), ?_⟩
  have hj := mod_in (n / 1000) (n := 6) (by decide)
  have e3 := mod_in n (n := 3) (by decide)
  have e1 := mod_in n (n := 1000) (by decide)
  have e9 := mod_in n (n := 9) (by decide)
  have e2 := mod_in n (n := 2) (by decide)
  have e5 := mod_in n (n := 5) (by decide)
  obtain ⟨c, hc, ha⟩ := at_int (ys := [n % 3, n % 1000, -1 - n % 9, 1000003 * (n % 2) + n % 5, 10 ^ 20, -n]) hj.1 hj.2
  refine ⟨p3, _, _, _, rfl, rfl, SqL.of upd_same, ha, q c _ (g1.trans ((same_new hp2 _).trans (same_new hp3 _))) ?_⟩
  simp only [List.mem_cons, List.not_mem_nil, or_false] at hc
  rcases hc with rfl | rfl | rfl | rfl | rfl | rfl <;> omega
end

def spName (K : PySem.W.Frag) : Sp := fun vs H Q _ => ∃ (a : Addr) (k : Int), vs = [.ref a, .int k] ∧ Ints K H a ∧ ∀ (x : Str) (H' : Hp), Same H H' → PyData.strOk x = true → Q (.str x) H'
abbrev s_name : Stmt := topS 45
theorem sc_name : FnScope ["_law_script", "_law_which", "_law_letters", "_law_number_here", "_law_some", "_law_size", "_law_at", "_law_k"] ["_law_script", "_law_which"] (defScope s_name) := ⟨rfl, rfl, rfl, by decide +kernel, rfl, by decide +kernel, by decide +kernel⟩
section
variable {P : Program} {w : World} {K : PySem.W.Frag} {mg : Str → Option Value} {base : Heap} {f f1 f2 f3 f4 f5 f6 f7 f8 : Addr} {fd fd1 fd2 fd3 fd4 fd5 fd6 fd7 fd8 : FuncData}
theorem abc_len : (("abcdefghijklmnopqrstuvwxyz" : Str).cps.toList.length : Int) = 26 := by decide +kernel
theorem abc_line : ("abcdefghijklmnopqrstuvwxyz" : Str).length ≤ sizeLine := by decide +kernel
theorem abc_ok : ∀ c ∈ ("abcdefghijklmnopqrstuvwxyz" : Str).cps.toList, PyData.strOk ⟨#[c]⟩ = true := by decide +kernel
theorem abc_at (x : Int) : ∃ c, PyData.strOk ⟨#[c]⟩ = true ∧ atI ("abcdefghijklmnopqrstuvwxyz" : Str).cps.toList (x % 26) = some c := by
  have h := mod_in x (n := 26) (by decide)
  obtain ⟨c, hc, e⟩ := at_cod (ys := ("abcdefghijklmnopqrstuvwxyz" : Str).cps.toList) h.1 (by rw [abc_len]; exact h.2)
  exact ⟨c, abc_ok c hc, e⟩
theorem ok_app {x y : Str} (hx : PyData.strOk x = true) (hy : PyData.strOk y = true) : PyData.strOk (x ++ y) = true := by
  unfold PyData.strOk at hx hy ⊢
  show (x.cps ++ y.cps).all _ = true
  rw [Array.all_append, hx, hy]
  rfl
theorem ok_join {y : Str} (hy : PyData.strOk y = true) : ∀ xs : List Str, (∀ x ∈ xs, PyData.strOk x = true) → PyData.strOk (Txt.join y xs) = true := by
  have main : ∀ xs : List Str, (∀ x ∈ xs, PyData.strOk x = true) → PyData.strOk (Str.join y xs) = true := by
    intro xs
    induction xs with
    | nil => intro _; exact (show PyData.strOk Str.empty = true by decide +kernel)
    | cons a r ih =>
      intro h
      cases r with
      | nil => exact h a List.mem_cons_self
      | cons b r => exact ok_app (ok_app (h a List.mem_cons_self) hy) (ih fun x hx => h x (List.mem_cons_of_mem _ hx))
  intro xs h
  rw [TL.join_eq]
  exact main xs h
theorem words_ok : ∀ y ∈ (["num", "name", "let", "quote", "hole", "run", "use", "lift"] : List Str), PyData.strOk y = true := by decide +kernel
theorem sum_ones : ∀ ys : List Str, (∀ y ∈ ys, y.length = 1) → (ys.map (·.length)).sum = ys.length
  | [], _ => rfl
  | y :: r, h => by
    rw [List.map_cons, List.sum_cons, sum_ones r fun z hz => h z (List.mem_cons_of_mem _ hz), h y List.mem_cons_self, List.length_cons]
    omega
theorem ok_name (F : Fun K "_law_name" "_law_name" s_name f fd) (T : Txt mg) (C_law_mixed : Cal P w K mg base "_law_mixed" ["_law_script", "_law_k"] 2 (spMixed K) f1 fd1) : FnOk P w K mg base CX0 3 f fd ["_law_script", "_law_which"] (spName K) := by
  refine F.ok sc_name (fun vs H Q E h => ?_) (fun cdv A outer s H vs Q E hr h => ?_)
  · obtain ⟨a, k, rfl, _⟩ := h
    rfl
  obtain ⟨a, k, rfl, hI, q⟩ := h
  refine ⟨_, (pss_cons (ps_set (i := 2) sc_name.nd rfl (Or.inr rfl) pe_str)
      (pss_cons (ps_set (i := 3) sc_name.nd rfl (Or.inr rfl) (pe_call C_law_mixed.ok (hr.mono (by first | decide | omega)) rfl C_law_mixed.m C_law_mixed.kp C_law_mixed.b .nil pass0 (pa_cons (pv 0) (pa_cons pe_int pa_nil))))
      (pss_cons (ps_if (pt_k (PW.pt (pw_and (pt_cmpR op_eq (pe_op op_mod (pv 3) pe_int) pe_int (nomark _)) (pw_and1 (pt_cmpR op_eq (pe_op op_mod (pe_op op_fdiv (pv 3) pe_int) pe_int) pe_int (nomark _)))))) (pss_cons (ps_set (i := 4) sc_name.nd rfl (Or.inl rfl) (pe_lst (pa_cons pe_str (pa_cons pe_str (pa_cons pe_str (pa_cons pe_str (pa_cons pe_str (pa_cons pe_str (pa_cons pe_str (pa_cons pe_str pa_nil))))))))))
      (pss_one (ps_ret (pe_ix ix_list (pv 4) (pe_op op_mod (pe_op op_add (pe_op op_fdiv (pv 3) pe_int) (pv 1)) pe_int) (fun _ _ => rfl))))) pss_nil)
      (pss_cons (ps_set (i := 5) sc_name.nd rfl (Or.inl rfl) (pe_op op_add pe_int (pe_op op_mod (pv 3) pe_int)))
      (pss_cons (ps_setLc (i := 4) (own := [("_law_k", 7)]) (g := (gName 7)) (tt := tYes) (by rfl) sc_name.nd rfl rfl (sw_true rfl rfl rfl (by decide +kernel)) (pi_range1 (by rfl) T.range (pa_cons (pv 5) pa_nil)) (blkOk_by (own := [("_law_k", 7)]) (N := ["_law_script", "_law_which", "_law_letters", "_law_number_here", "_law_some", "_law_size", "_law_at", "_law_k"]) (sc := defScope s_name) (by decide +kernel)) (fun _ _ _ _ _ => (pg_name (i := 7) sc_name.nd rfl (Or.inl rfl))) (fun _ _ _ _ _ => pts_nil) (fun _ _ _ _ _ => (pe_ix ix_str (pv 2) (pe_op op_mod (pe_op op_add (pe_op op_fdiv (pv 3) pe_int) (pe_op op_mul pe_int (pv 7))) pe_int) (fun _ _ => rfl))))
      (pss_cons (ps_set (i := 6) sc_name.nd rfl (Or.inl rfl) (pe_op op_mod (pe_op op_fdiv (pv 3) pe_int) (pv 5)))
      (pss_cons (ps_asg (pe_ix ix_str (pv 2) (pe_op op_mod (pe_op op_add (pe_op op_add (pe_op op_fdiv (pv 3) pe_int) (pe_op op_mul pe_int (pv 6))) (pv 1)) pe_int) (fun _ _ => rfl)) (pg_sub (pv 4) (pv 6) set_list))
      (pss_one (ps_ret (pe_join pe_str (pv 4))))))))))), ?_⟩
  refine ⟨_, rfl, a, 0, rfl, hI, Int.le_refl 0, fun n h0 h1 => ?_⟩
  refine ⟨fun _ H' => H = H', ?_, ?_⟩
  · refine ⟨_, rfl, _, _, rfl, rfl, (by show (0 : Int) < _; decide), rfl, _, rfl, ?_⟩
    exact ite2 (fun _ => ⟨_, rfl, _, _, rfl, rfl, ⟨by decide, by decide⟩, _, _, rfl, rfl, (by show (0 : Int) < _; decide), rfl, _, rfl, rfl⟩) fun _ => rfl
  rintro b _ rfl
  cases b with
  | true =>
    refine iteT ⟨by show 8 ≤ sizeLine; decide, fun p hp => ?_⟩
    obtain ⟨c, hc, e⟩ := at_str (ys := ["num", "name", "let", "quote", "hole", "run", "use", "lift"]) (mod_in (n / 16 + k) (n := 8) (by decide)).1 (mod_in (n / 16 + k) (n := 8) (by decide)).2
    exact ⟨_, rfl, _, rfl, _, _, rfl, rfl, ⟨by decide, by decide⟩, _, rfl, _, _, rfl, rfl, _, _, rfl, rfl, (by show (0 : Int) < _; decide), p, _, _, _, rfl, rfl, SqL.of upd_same, e, q _ _ (same_new hp _) (words_ok c hc)⟩
  | false =>
    refine iteF ?_
    refine ⟨_, rfl, _, _, rfl, rfl, (by show (0 : Int) < _; decide), _, _, rfl, rfl, ?_⟩
    have h8 := mod_in n (n := 8) (by decide)
    refine ⟨_, rfl, 1 + n % 8, rfl, by omega, by omega, fun D hD => ?_⟩
    refine lc_range (lo := 0) (n := (1 + n % 8).toNat) (fun i H' => Same H H' ∧ ∃ ys : List Str, H' D = some (.lst (ys.map V.str)) ∧ ys.length = i ∧ ∀ y ∈ ys, y.length = 1 ∧ PyData.strOk y = true) ⟨same_new hD _, [], upd_same, rfl, fun _ h => by cases h⟩ ?_ ?_
    · rintro i H' hi ⟨g, ys, hy, hl, h1⟩
      obtain ⟨c, ho, e⟩ := abc_at (n / 64 + 5 * (0 + (i : Int)))
      refine ⟨rfl, ?_⟩
      refine ⟨_, rfl, _, rfl, _, _, rfl, rfl, ⟨by decide, by decide⟩, _, rfl, _, _, rfl, rfl, .inl ⟨by decide, by decide⟩, _, _, rfl, rfl, _, _, rfl, rfl, (by show (0 : Int) < _; decide), _, _, _, rfl, rfl, abc_line, e, ?_⟩
      refine ⟨_, hy, small1000 (by rw [List.length_map]; omega), fun b o q => ?_, ys ++ [⟨#[c]⟩], ?_, by rw [List.length_append, hl]; rfl, fun y hy => ?_⟩
      · rw [upd_ne (ne_of_none q hD)]
        exact g b o q
      · rw [upd_same, List.map_append]
        rfl
      · rcases List.mem_append.mp hy with z | z
        · exact h1 y z
        · rw [List.mem_singleton.mp z]
          exact ⟨rfl, ho⟩
    · rintro H' ⟨g, ys, hy, hl, h1⟩
      refine ⟨_, rfl, _, _, rfl, rfl, ⟨by decide, by decide⟩, _, rfl, _, _, rfl, rfl, (by show (0 : Int) < _; omega), ?_⟩
      have hm := mod_in (n / 8) (n := 1 + n % 8) (by omega)
      obtain ⟨c, ho, e⟩ := abc_at (n / 64 + 5 * (n / 8 % (1 + n % 8)) + k)
      refine ⟨_, rfl, _, rfl, _, _, rfl, rfl, ⟨by decide, by decide⟩, _, rfl, _, _, rfl, rfl, .inl ⟨by decide, by decide⟩, _, _, rfl, rfl, _, rfl, _, _, rfl, rfl, _, _, rfl, rfl, (by show (0 : Int) < _; decide), _, _, _, rfl, rfl, abc_line, e, ?_⟩
      refine ⟨_, rfl, _, rfl, D, _, _, (n / 8 % (1 + n % 8)).toNat, rfl, rfl, hy, ixN_lt hm.1 (by rw [List.length_map]; omega), ?_⟩
      have h2 : ∀ y ∈ ys.set (n / 8 % (1 + n % 8)).toNat ⟨#[c]⟩, y.length = 1 ∧ PyData.strOk y = true := fun y hy => by
        rcases List.mem_or_eq_of_mem_set hy with z | z
        · exact h1 y z
        · rw [z]
          exact ⟨rfl, ho⟩
      refine ⟨⟨_, rfl⟩, _, rfl, _, D, ys.set (n / 8 % (1 + n % 8)).toNat ⟨#[c]⟩, rfl, rfl, .inl (SqL.of (by rw [upd_same, List.map_set])), ?_, q _ _ (fun b o z => by rw [upd_ne (ne_of_none z hD)]; exact g b o z) (ok_join (by decide +kernel) _ fun y hy => (h2 y hy).2)⟩
      rw [sum_ones _ fun y hy => (h2 y hy).1, List.length_set, show ("" : Str).length = 0 by decide +kernel]
      omega
end

/-! ### terms as data -/
inductive Bin where
  | sum | product | less
  deriving DecidableEq
inductive Un where
  | quote | hole | lift | run
  deriving DecidableEq
def Bin.word : Bin → Str
  | .sum => "sum"
  | .product => "product"
  | .less => "less"
def Un.word : Un → Str
  | .quote => "quote"
  | .hole => "hole"
  | .lift => "lift"
  | .run => "run"
/-- number (false), piece (true) -/
def kindS : Bool → Str
  | false => "number"
  | true => "piece"
inductive Tm where
  | num (n : Int)
  | name (x : Str)
  | bin (o : Bin) (a b : Tm)
  | cond (c a b : Tm)
  | letx (x : Str) (a b : Tm)
  | turns (n : Int) (x : Str) (a b : Tm)
  | deff (f x : Str) (k : Bool) (a b : Tm)
  | use (f : Str) (a : Tm)
  | un (o : Un) (a : Tm)
def Tm.head : Tm → List V
  | .num n => [.str "num", .int n]
  | .name x => [.str "name", .str x]
  | .bin o _ _ => [.str o.word]
  | .cond _ _ _ => [.str "when"]
  | .letx x _ _ => [.str "let", .str x]
  | .turns n x _ _ => [.str "turns", .int n, .str x]
  | .deff f x k _ _ => [.str "def", .str f, .str x, .str (kindS k)]
  | .use f _ => [.str "use", .str f]
  | .un o _ => [.str o.word]
def Tm.parts : Tm → List Tm
  | .num _ => []
  | .name _ => []
  | .bin _ a b => [a, b]
  | .cond c a b => [c, a, b]
  | .letx _ a b => [a, b]
  | .turns _ _ a b => [a, b]
  | .deff _ _ _ a b => [a, b]
  | .use _ a => [a]
  | .un _ a => [a]
def Tm.size : Tm → Nat
  | .num _ => 1
  | .name _ => 1
  | .bin _ a b => 1 + (a.size + b.size)
  | .cond c a b => 1 + (c.size + (a.size + b.size))
  | .letx _ a b => 1 + (a.size + b.size)
  | .turns _ _ a b => 1 + (a.size + b.size)
  | .deff _ _ _ a b => 1 + (a.size + b.size)
  | .use _ a => 1 + a.size
  | .un _ a => 1 + a.size
def Tm.deep : Tm → Nat
  | .num _ => 1
  | .name _ => 1
  | .bin _ a b => 1 + max a.deep b.deep
  | .cond c a b => 1 + max c.deep (max a.deep b.deep)
  | .letx _ a b => 1 + max a.deep b.deep
  | .turns _ _ a b => 1 + max a.deep b.deep
  | .deff _ _ _ a b => 1 + max a.deep b.deep
  | .use _ a => 1 + a.deep
  | .un _ a => 1 + a.deep
/-- turns from 0 to 9, names of signs -/
def Tm.Ok : Tm → Prop
  | .num _ => True
  | .name x => PyData.strOk x = true
  | .bin _ a b => a.Ok ∧ b.Ok
  | .cond c a b => c.Ok ∧ a.Ok ∧ b.Ok
  | .letx x a b => PyData.strOk x = true ∧ a.Ok ∧ b.Ok
  | .turns n x a b => ((0 ≤ n ∧ n ≤ 9) ∧ PyData.strOk x = true) ∧ a.Ok ∧ b.Ok
  | .deff f x _ a b => (PyData.strOk f = true ∧ PyData.strOk x = true) ∧ a.Ok ∧ b.Ok
  | .use f a => PyData.strOk f = true ∧ a.Ok
  | .un _ a => a.Ok
/-- the heap bears the term at v -/
def TmAt (H : Hp) : Tm → V → Prop
  | .num n, v => ∃ p, v = .ref p ∧ H p = some (.tup [.str "num", .int n])
  | .name x, v => ∃ p, v = .ref p ∧ H p = some (.tup [.str "name", .str x])
  | .bin o a b, v => ∃ p x y, v = .ref p ∧ H p = some (.tup [.str o.word, x, y]) ∧ TmAt H a x ∧ TmAt H b y
  | .cond c a b, v => ∃ p x y z, v = .ref p ∧ H p = some (.tup [.str "when", x, y, z]) ∧ TmAt H c x ∧ TmAt H a y ∧ TmAt H b z
  | .letx n a b, v => ∃ p x y, v = .ref p ∧ H p = some (.tup [.str "let", .str n, x, y]) ∧ TmAt H a x ∧ TmAt H b y
  | .turns k n a b, v => ∃ p x y, v = .ref p ∧ H p = some (.tup [.str "turns", .int k, .str n, x, y]) ∧ TmAt H a x ∧ TmAt H b y
  | .deff f n k a b, v => ∃ p x y, v = .ref p ∧ H p = some (.tup [.str "def", .str f, .str n, .str (kindS k), x, y]) ∧ TmAt H a x ∧ TmAt H b y
  | .use f a, v => ∃ p x, v = .ref p ∧ H p = some (.tup [.str "use", .str f, x]) ∧ TmAt H a x
  | .un o a, v => ∃ p x, v = .ref p ∧ H p = some (.tup [.str o.word, x]) ∧ TmAt H a x
/-- tuples stay -/
def Tups (H H' : Hp) : Prop := ∀ b xs, H b = some (.tup xs) → H' b = some (.tup xs)
theorem Tups.of_same {H H' : Hp} (h : Same H H') : Tups H H' := fun b _ q => h b _ q
theorem Tups.of_but {H H' : Hp} {st : Addr} {ys : List V} (h : But st H H') (hs : H st = some (.lst ys)) : Tups H H' := fun b _ q => h b _ (ne_of q hs (by intro z; cases z)) q
theorem Tups.trans {H H1 H2 : Hp} (a : Tups H H1) (b : Tups H1 H2) : Tups H H2 := fun c xs h => b c xs (a c xs h)
theorem TmAt.mono {H H' : Hp} (e : Tups H H') : ∀ {t : Tm} {v : V}, TmAt H t v → TmAt H' t v
  | .num _, _, ⟨p, h, q⟩ => ⟨p, h, e _ _ q⟩
  | .name _, _, ⟨p, h, q⟩ => ⟨p, h, e _ _ q⟩
  | .bin _ _ _, _, ⟨p, x, y, h, q, a, b⟩ => ⟨p, x, y, h, e _ _ q, TmAt.mono e a, TmAt.mono e b⟩
  | .cond _ _ _, _, ⟨p, x, y, z, h, q, a, b, c⟩ => ⟨p, x, y, z, h, e _ _ q, TmAt.mono e a, TmAt.mono e b, TmAt.mono e c⟩
  | .letx _ _ _, _, ⟨p, x, y, h, q, a, b⟩ => ⟨p, x, y, h, e _ _ q, TmAt.mono e a, TmAt.mono e b⟩
  | .turns _ _ _ _, _, ⟨p, x, y, h, q, a, b⟩ => ⟨p, x, y, h, e _ _ q, TmAt.mono e a, TmAt.mono e b⟩
  | .deff _ _ _ _ _, _, ⟨p, x, y, h, q, a, b⟩ => ⟨p, x, y, h, e _ _ q, TmAt.mono e a, TmAt.mono e b⟩
  | .use _ _, _, ⟨p, x, h, q, a⟩ => ⟨p, x, h, e _ _ q, TmAt.mono e a⟩
  | .un _ _, _, ⟨p, x, h, q, a⟩ => ⟨p, x, h, e _ _ q, TmAt.mono e a⟩
/-- the parts of a term, one by one -/
def TmsAt (H : Hp) : List Tm → List V → Prop
  | [], [] => True
  | t :: ts, v :: vs => TmAt H t v ∧ TmsAt H ts vs
  | _, _ => False
theorem TmsAt.mono {H H' : Hp} (e : Tups H H') : ∀ {ts : List Tm} {vs : List V}, TmsAt H ts vs → TmsAt H' ts vs
  | [], [], _ => True.intro
  | _ :: _, _ :: _, ⟨h, r⟩ => ⟨h.mono e, TmsAt.mono e r⟩
  | [], _ :: _, h => h.elim
  | _ :: _, [], h => h.elim
theorem TmsAt.len {H : Hp} : ∀ {ts : List Tm} {vs : List V}, TmsAt H ts vs → vs.length = ts.length
  | [], [], _ => rfl
  | _ :: _, _ :: _, ⟨_, r⟩ => congrArg (· + 1) (TmsAt.len r)
  | [], _ :: _, h => h.elim
  | _ :: _, [], h => h.elim
/-- a term as a tuple: its head, then its parts -/
theorem TmAt.open {H : Hp} {t : Tm} {v : V} (h : TmAt H t v) : ∃ p vs, v = .ref p ∧ H p = some (.tup (t.head ++ vs)) ∧ TmsAt H t.parts vs := by
  cases t with
  | num n => obtain ⟨p, e, q⟩ := h; exact ⟨p, [], e, q, True.intro⟩
  | name n => obtain ⟨p, e, q⟩ := h; exact ⟨p, [], e, q, True.intro⟩
  | bin o a b => obtain ⟨p, x, y, e, q, ha, hb⟩ := h; exact ⟨p, [x, y], e, q, ha, hb, True.intro⟩
  | cond c a b => obtain ⟨p, x, y, z, e, q, ha, hb, hc⟩ := h; exact ⟨p, [x, y, z], e, q, ha, hb, hc, True.intro⟩
  | letx n a b => obtain ⟨p, x, y, e, q, ha, hb⟩ := h; exact ⟨p, [x, y], e, q, ha, hb, True.intro⟩
  | turns k n a b => obtain ⟨p, x, y, e, q, ha, hb⟩ := h; exact ⟨p, [x, y], e, q, ha, hb, True.intro⟩
  | deff f n k a b => obtain ⟨p, x, y, e, q, ha, hb⟩ := h; exact ⟨p, [x, y], e, q, ha, hb, True.intro⟩
  | use f a => obtain ⟨p, x, e, q, ha⟩ := h; exact ⟨p, [x], e, q, ha, True.intro⟩
  | un o a => obtain ⟨p, x, e, q, ha⟩ := h; exact ⟨p, [x], e, q, ha, True.intro⟩
theorem TmAt.close {H : Hp} {t : Tm} {p : Addr} {vs : List V} (q : H p = some (.tup (t.head ++ vs))) (h : TmsAt H t.parts vs) : TmAt H t (.ref p) := by
  cases t with
  | num n => match vs, h with | [], _ => exact ⟨p, rfl, q⟩
  | name n => match vs, h with | [], _ => exact ⟨p, rfl, q⟩
  | bin o a b => match vs, h with | [x, y], ⟨ha, hb, _⟩ => exact ⟨p, x, y, rfl, q, ha, hb⟩
  | cond c a b => match vs, h with | [x, y, z], ⟨ha, hb, hc, _⟩ => exact ⟨p, x, y, z, rfl, q, ha, hb, hc⟩
  | letx n a b => match vs, h with | [x, y], ⟨ha, hb, _⟩ => exact ⟨p, x, y, rfl, q, ha, hb⟩
  | turns k n a b => match vs, h with | [x, y], ⟨ha, hb, _⟩ => exact ⟨p, x, y, rfl, q, ha, hb⟩
  | deff f n k a b => match vs, h with | [x, y], ⟨ha, hb, _⟩ => exact ⟨p, x, y, rfl, q, ha, hb⟩
  | use f a => match vs, h with | [x], ⟨ha, _⟩ => exact ⟨p, x, rfl, q, ha⟩
  | un o a => match vs, h with | [x], ⟨ha, _⟩ => exact ⟨p, x, rfl, q, ha⟩
theorem sz (n : Nat) (h : n ≤ 1000 := by decide) : n ≤ sizeLine := small h
theorem Tm.deep_le : ∀ t : Tm, t.deep ≤ t.size
  | .num _ => Nat.le_refl _
  | .name _ => Nat.le_refl _
  | .bin _ a b => by have := Tm.deep_le a; have := Tm.deep_le b; simp only [Tm.deep, Tm.size]; omega
  | .cond c a b => by have := Tm.deep_le c; have := Tm.deep_le a; have := Tm.deep_le b; simp only [Tm.deep, Tm.size]; omega
  | .letx _ a b => by have := Tm.deep_le a; have := Tm.deep_le b; simp only [Tm.deep, Tm.size]; omega
  | .turns _ _ a b => by have := Tm.deep_le a; have := Tm.deep_le b; simp only [Tm.deep, Tm.size]; omega
  | .deff _ _ _ a b => by have := Tm.deep_le a; have := Tm.deep_le b; simp only [Tm.deep, Tm.size]; omega
  | .use _ a => by have := Tm.deep_le a; simp only [Tm.deep, Tm.size]; omega
  | .un _ a => by have := Tm.deep_le a; simp only [Tm.deep, Tm.size]; omega

/-! ### the words -/
inductive W where
  | num | name | sum | product | less | «when» | «let» | turns | «def» | use | quote | hole | lift | run
  deriving DecidableEq
def W.str : W → Str
  | .num => "num"
  | .name => "name"
  | .sum => "sum"
  | .product => "product"
  | .less => "less"
  | .when => "when"
  | .let => "let"
  | .turns => "turns"
  | .def => "def"
  | .use => "use"
  | .quote => "quote"
  | .hole => "hole"
  | .lift => "lift"
  | .run => "run"
theorem W.inj : ∀ {a b : W}, a.str = b.str → a = b := by
  intro a b
  cases a <;> cases b <;> first | (intro _; rfl) | (intro h; exact absurd h (by decide +kernel))
def Bin.w : Bin → W
  | .sum => .sum
  | .product => .product
  | .less => .less
def Un.w : Un → W
  | .quote => .quote
  | .hole => .hole
  | .lift => .lift
  | .run => .run
def Tm.w : Tm → W
  | .num _ => .num
  | .name _ => .name
  | .bin o _ _ => o.w
  | .cond _ _ _ => .when
  | .letx _ _ _ => .let
  | .turns _ _ _ _ => .turns
  | .deff _ _ _ _ _ => .def
  | .use _ _ => .use
  | .un o _ => o.w
theorem Bin.word_eq (o : Bin) : o.word = o.w.str := by cases o <;> rfl
theorem Un.word_eq (o : Un) : o.word = o.w.str := by cases o <;> rfl
theorem Tm.head_eq (t : Tm) : t.head = .str t.w.str :: t.head.tail := by
  cases t with
  | bin o _ _ => show [V.str o.word] = [V.str o.w.str]; rw [o.word_eq]
  | un o _ => show [V.str o.word] = [V.str o.w.str]; rw [o.word_eq]
  | _ => rfl
theorem w_num {t : Tm} (h : t.w = .num) : ∃ n, t = .num n := by
  cases t with
  | num n => exact ⟨_, rfl⟩
  | bin o _ _ => cases o <;> cases h
  | un o _ => cases o <;> cases h
  | _ => cases h
theorem w_name {t : Tm} (h : t.w = .name) : ∃ x, t = .name x := by
  cases t with
  | name x => exact ⟨_, rfl⟩
  | bin o _ _ => cases o <;> cases h
  | un o _ => cases o <;> cases h
  | _ => cases h
theorem w_let {t : Tm} (h : t.w = .let) : ∃ x a b, t = .letx x a b := by
  cases t with
  | letx x a b => exact ⟨_, _, _, rfl⟩
  | bin o _ _ => cases o <;> cases h
  | un o _ => cases o <;> cases h
  | _ => cases h
theorem w_turns {t : Tm} (h : t.w = .turns) : ∃ n x a b, t = .turns n x a b := by
  cases t with
  | turns n x a b => exact ⟨_, _, _, _, rfl⟩
  | bin o _ _ => cases o <;> cases h
  | un o _ => cases o <;> cases h
  | _ => cases h
theorem w_def {t : Tm} (h : t.w = .def) : ∃ f x k a b, t = .deff f x k a b := by
  cases t with
  | deff f x k a b => exact ⟨_, _, _, _, _, rfl⟩
  | bin o _ _ => cases o <;> cases h
  | un o _ => cases o <;> cases h
  | _ => cases h
theorem w_use {t : Tm} (h : t.w = .use) : ∃ f a, t = .use f a := by
  cases t with
  | use f a => exact ⟨_, _, rfl⟩
  | bin o _ _ => cases o <;> cases h
  | un o _ => cases o <;> cases h
  | _ => cases h
theorem w_when {t : Tm} (h : t.w = .when) : ∃ c a b, t = .cond c a b := by
  cases t with
  | cond c a b => exact ⟨_, _, _, rfl⟩
  | bin o _ _ => cases o <;> cases h
  | un o _ => cases o <;> cases h
  | _ => cases h
/-- a word as it is asked for -/
theorem str_w {t : Tm} (u : W) (h : decide (V.str t.w.str = V.str u.str) = true) : t.w = u := W.inj (V.str.inj (of_decide_eq_true h))
theorem str_nw {t : Tm} (u : W) (h : ¬ decide (V.str t.w.str = V.str u.str) = true) : t.w ≠ u := fun e => h (by rw [e]; exact decide_eq_true rfl)
theorem eqV_str (a b : Str) : eqV (.str a) (.str b) = true ↔ a = b := by
  show (a == b) = true ↔ a = b
  exact ⟨fun h => eq_of_beq h, fun h => by rw [h]; exact beq_self_eq_true b⟩
/-- a text among written texts -/
theorem inV_str {x : Str} : ∀ {ys : List Str}, inV (.str x) (ys.map V.str) = true ↔ x ∈ ys
  | [] => by constructor <;> intro h <;> cases h
  | y :: r => by
    have ih := inV_str (x := x) (ys := r)
    unfold inV at ih ⊢
    rw [List.map_cons, List.any_cons, Bool.or_eq_true, ih, eqV_str, List.mem_cons]
    exact ⟨fun h => h.elim (fun e => .inl e.symm) .inr, fun h => h.elim (fun e => .inl e.symm) .inr⟩
/-- t[k:] and t[:k] of a tuple -/
theorem slA_from {K : PySem.W.Frag} {H : Hp} {a : Addr} {xs : List V} {k : Nat} {Q : VK} (h : H a = some (.tup xs)) (hk : k ≤ xs.length) (q : ∀ p H', Same H H' → H' p = some (.tup (xs.drop k)) → Q (.ref p) H') : rSlA K (.ref a) (some (k : Int)) none H Q := by
  have e1 : HT.sIx xs.length 0 (some (k : Int)) = k := by rw [HT.sIx_nat]; exact Nat.min_eq_left hk
  have e2 : HT.sIx xs.length xs.length none = xs.length := rfl
  refine ⟨a, xs, rfl, SqT.of h, fun z => ?_, fun _ p hp => ?_⟩
  · have k0 : k = 0 := by rw [e1] at z; exact z.1
    exact q a H (Same.refl H) (by rw [k0]; exact h)
  · refine q p _ (same_new hp _) ?_
    rw [upd_same]
    unfold cutV
    rw [e1, e2, List.take_of_length_le (by rw [List.length_drop]; omega)]
theorem slA_to {K : PySem.W.Frag} {H : Hp} {a : Addr} {xs : List V} {k : Nat} {Q : VK} (h : H a = some (.tup xs)) (hk : k ≤ xs.length) (q : ∀ p H', Same H H' → H' p = some (.tup (xs.take k)) → Q (.ref p) H') : rSlA K (.ref a) none (some (k : Int)) H Q := by
  have e1 : HT.sIx xs.length xs.length (some (k : Int)) = k := by rw [HT.sIx_nat]; exact Nat.min_eq_left hk
  have e2 : HT.sIx xs.length 0 none = 0 := rfl
  refine ⟨a, xs, rfl, SqT.of h, fun z => ?_, fun _ p hp => ?_⟩
  · have k0 : k = xs.length := by rw [e1] at z; exact z.2
    exact q a H (Same.refl H) (by rw [k0, List.take_length]; exact h)
  · refine q p _ (same_new hp _) ?_
    rw [upd_same]
    unfold cutV
    rw [e1, e2, List.drop_zero, Nat.sub_zero]
theorem sqT_len {K : PySem.W.Frag} {H : Hp} {a : Addr} {xs ys : List V} (e : xs = ys) (h : SqT K H a xs) : SqT K H a ys := e ▸ h
theorem Tm.len_parts (t : Tm) : t.parts.length ≤ 3 := by
  cases t <;> simp only [Tm.parts, List.length_cons, List.length_nil] <;> omega
theorem same_sqT {K : PySem.W.Frag} {H H' : Hp} {a : Addr} {xs : List V} (e : Same H H') (h : SqT K H a xs) : SqT K H' a xs := by
  rcases h with (h | ⟨o, h⟩) | h
  · exact .inl (.inl (e _ _ h))
  · exact .inl (.inr ⟨o, e _ _ h⟩)
  · exact .inr h

/-- a new list of the parts -/
def spParts : Sp := fun vs H Q _ => ∃ (t : Tm) (v : V), vs = [v] ∧ TmAt H t v ∧ ∀ (r : Addr) (ws : List V) (H' : Hp), H r = none → Same H H' → H' r = some (.lst ws) → TmsAt H' t.parts ws → Q (.ref r) H'
abbrev s_parts : Stmt := topS 57
theorem sc_parts : FnScope ["_law_term_here", "_law_part"] ["_law_term_here"] (defScope s_parts) := ⟨rfl, rfl, rfl, by decide +kernel, rfl, by decide +kernel, by decide +kernel⟩
section
variable {P : Program} {w : World} {K : PySem.W.Frag} {mg : Str → Option Value} {base : Heap} {f f1 f2 f3 f4 f5 f6 f7 f8 : Addr} {fd fd1 fd2 fd3 fd4 fd5 fd6 fd7 fd8 : FuncData}
theorem ok_parts (F : Fun K "_law_parts" "_law_parts" s_parts f fd) : FnOk P w K mg base CX0 1 f fd ["_law_term_here"] spParts := by
  refine F.ok sc_parts (fun vs H Q E h => ?_) (fun cdv A outer s H vs Q E hr h => ?_)
  · obtain ⟨t, v, rfl, _⟩ := h
    rfl
  obtain ⟨t, v, rfl, ht, q⟩ := h
  obtain ⟨p, vs, rfl, hp, hvs⟩ := ht.open
  rw [t.head_eq] at hp
  refine ⟨_, (pss_cons (ps_if (pt_cmpR op_in_seq (pe_ix ix_tup (pv 0) pe_int (fun _ _ => rfl)) (pe_tup (pa_cons pe_str (pa_cons pe_str pa_nil))) (by rfl)) (pss_one (ps_ret (pe_lst pa_nil))) pss_nil)
      (pss_cons (ps_if (pt_cmpR op_eq (pe_ix ix_tup (pv 0) pe_int (fun _ _ => rfl)) pe_str (nomark _)) (pss_one (ps_ret (pe_lst (pa_cons (pe_ix ix_tup (pv 0) pe_int (fun _ _ => rfl)) (pa_cons (pe_ix ix_tup (pv 0) pe_int (fun _ _ => rfl)) pa_nil))))) pss_nil)
      (pss_cons (ps_if (pt_cmpR op_eq (pe_ix ix_tup (pv 0) pe_int (fun _ _ => rfl)) pe_str (nomark _)) (pss_one (ps_ret (pe_lst (pa_cons (pe_ix ix_tup (pv 0) pe_int (fun _ _ => rfl)) (pa_cons (pe_ix ix_tup (pv 0) pe_int (fun _ _ => rfl)) pa_nil))))) pss_nil)
      (pss_cons (ps_if (pt_cmpR op_eq (pe_ix ix_tup (pv 0) pe_int (fun _ _ => rfl)) pe_str (nomark _)) (pss_one (ps_ret (pe_lst (pa_cons (pe_ix ix_tup (pv 0) pe_int (fun _ _ => rfl)) (pa_cons (pe_ix ix_tup (pv 0) pe_int (fun _ _ => rfl)) pa_nil))))) pss_nil)
      (pss_cons (ps_if (pt_cmpR op_eq (pe_ix ix_tup (pv 0) pe_int (fun _ _ => rfl)) pe_str (nomark _)) (pss_one (ps_ret (pe_lst (pa_cons (pe_ix ix_tup (pv 0) pe_int (fun _ _ => rfl)) pa_nil)))) pss_nil)
      (pss_one (ps_ret (pe_lc (own := [("_law_part", 1)]) (g := (gName 1)) (tt := tYes) (by rfl) sc_parts.nd (pi_tup (pe_slice sl_tupA (pv 0) (po_some pe_int) po_none)) (blkOk_by (own := [("_law_part", 1)]) (N := ["_law_term_here", "_law_part"]) (sc := defScope s_parts) (by decide +kernel)) (fun _ _ _ _ _ => (pg_name (i := 1) sc_parts.nd rfl (Or.inl rfl))) (fun _ _ _ _ _ => pts_nil) (fun _ _ _ _ _ => (pv 1)))))))))), ?_⟩
  refine ⟨_, rfl, p, _, _, _, rfl, rfl, SqT.of hp, atI_n (n := 0) rfl rfl, sz 2, fun n1 m1 => ?_⟩
  refine ⟨n1, _, rfl, .inr (SqT.of upd_same), rfl, rfl, _, rfl, ?_⟩
  have s1 := same_new m1 (.tup [V.str "num", .str "name"])
  have fresh : ∀ {H' : Hp} {r : Addr}, Same H H' → H' r = none → H r = none := fun e z => e.free z
  refine ite2 (fun c => ?_) (fun c => ?_)
  · have c' := inV_str.mp (show inV (V.str t.w.str) ([W.num.str, W.name.str].map V.str) = true from c)
    refine ⟨Nat.zero_le _, fun r hr => q r [] _ (fresh s1 hr) (s1.trans (same_new hr _)) upd_same ?_⟩
    rcases List.mem_cons.mp c' with e | e
    · obtain ⟨n, rfl⟩ := w_num (W.inj e)
      exact True.intro
    · obtain ⟨n, rfl⟩ := w_name (W.inj (List.mem_singleton.mp e))
      exact True.intro
  have hp1 := s1 _ _ hp
  have mkr : ∀ (ws : List V) (r : Addr) (_ : TmsAt H t.parts ws) (hr : upd H n1 (.tup [V.str "num", .str "name"]) r = none), Q (.ref r) (upd (upd H n1 (.tup [V.str "num", .str "name"])) r (.lst ws)) := fun ws r h hr =>
    q r ws _ (fresh s1 hr) (s1.trans (same_new hr _)) upd_same (h.mono (.of_same (s1.trans (same_new hr _))))
  refine ⟨_, rfl, p, _, _, _, rfl, rfl, SqT.of hp1, atI_n (n := 0) rfl rfl, rfl, _, rfl, ite2 (fun c1 => ?_) fun c1 => ?_⟩
  · obtain ⟨x, a, b, rfl⟩ := w_let (str_w .let c1)
    match vs, hvs, hp1, mkr with
    | [v1, v2], hvs, hp1, mkr =>
    exact ⟨_, rfl, p, _, _, _, rfl, rfl, SqT.of hp1, atI_n (n := 2) rfl rfl, _, rfl, p, _, _, _, rfl, rfl, SqT.of hp1, atI_n (n := 3) rfl rfl, sz 2, fun r hr => mkr _ r hvs hr⟩
  refine ⟨_, rfl, p, _, _, _, rfl, rfl, SqT.of hp1, atI_n (n := 0) rfl rfl, rfl, _, rfl, ite2 (fun c2 => ?_) fun c2 => ?_⟩
  · obtain ⟨n, x, a, b, rfl⟩ := w_turns (str_w .turns c2)
    match vs, hvs, hp1, mkr with
    | [v1, v2], hvs, hp1, mkr =>
    exact ⟨_, rfl, p, _, _, _, rfl, rfl, SqT.of hp1, atI_n (n := 3) rfl rfl, _, rfl, p, _, _, _, rfl, rfl, SqT.of hp1, atI_n (n := 4) rfl rfl, sz 2, fun r hr => mkr _ r hvs hr⟩
  refine ⟨_, rfl, p, _, _, _, rfl, rfl, SqT.of hp1, atI_n (n := 0) rfl rfl, rfl, _, rfl, ite2 (fun c3 => ?_) fun c3 => ?_⟩
  · obtain ⟨g, x, k, a, b, rfl⟩ := w_def (str_w .def c3)
    match vs, hvs, hp1, mkr with
    | [v1, v2], hvs, hp1, mkr =>
    exact ⟨_, rfl, p, _, _, _, rfl, rfl, SqT.of hp1, atI_n (n := 4) rfl rfl, _, rfl, p, _, _, _, rfl, rfl, SqT.of hp1, atI_n (n := 5) rfl rfl, sz 2, fun r hr => mkr _ r hvs hr⟩
  refine ⟨_, rfl, p, _, _, _, rfl, rfl, SqT.of hp1, atI_n (n := 0) rfl rfl, rfl, _, rfl, ite2 (fun c4 => ?_) fun c4 => ?_⟩
  · obtain ⟨g, a, rfl⟩ := w_use (str_w .use c4)
    match vs, hvs, hp1, mkr with
    | [v1], hvs, hp1, mkr =>
    exact ⟨_, rfl, p, _, _, _, rfl, rfl, SqT.of hp1, atI_n (n := 2) rfl rfl, sz 1, fun r hr => mkr _ r hvs hr⟩
  have tl : t.head.tail = [] := by
    cases t with
    | num n => exact absurd ((inV_str (x := W.num.str) (ys := [W.num.str, W.name.str])).mpr List.mem_cons_self) c
    | name n => exact absurd ((inV_str (x := W.name.str) (ys := [W.num.str, W.name.str])).mpr (List.mem_cons_of_mem _ List.mem_cons_self)) c
    | letx x a b => exact absurd rfl (str_nw .let c1)
    | turns n x a b => exact absurd rfl (str_nw .turns c2)
    | deff g x k a b => exact absurd rfl (str_nw .def c3)
    | use g a => exact absurd rfl (str_nw .use c4)
    | _ => rfl
  rw [tl] at hp1
  have hlen := hvs.len
  have h3 := t.len_parts
  refine ⟨_, rfl, 1, rfl, ?_⟩
  unfold tNoPart
  show rSlA K (V.ref p) (some ((1 : Nat) : Int)) none _ _
  refine slA_from (k := 1) hp1 (by show 1 ≤ (V.str t.w.str :: ([] ++ vs)).length; rw [List.length_cons]; omega) fun u H2 e2 hu => ?_
  refine ⟨u, rfl, ⟨_, SqT.of hu⟩, fun D hD => ?_⟩
  refine lc_tup (K := K) (a := u) (xs := vs) (fun i H' => Same H2 H' ∧ H' D = some (.lst (vs.take i))) ⟨same_new hD _, upd_same⟩ (fun i H' _ z => SqT.of (z.1 _ _ hu)) ?_ ?_
  · rintro i x H' hi ⟨g, hd⟩
    have hil : i < vs.length := (List.getElem?_eq_some_iff.mp hi).1
    refine ⟨rfl, _, rfl, _, hd, small1000 (by rw [List.length_take]; omega), fun b o z => ?_, ?_⟩
    · rw [upd_ne (ne_of_none z hD)]
      exact g b o z
    · rw [upd_same, List.take_add_one, hi]
      rfl
  · rintro H' ⟨g, hd⟩
    rw [List.take_length] at hd
    have e := s1.trans (e2.trans g)
    exact q D vs H' (fresh s1 (e2.free hD)) e hd (hvs.mono (.of_same e))
end

/-! ### terms as plain data: == of two of them -/
def kindD (k : Bool) : PyData := .str (kindS k)
def Tm.data : Tm → PyData
  | .num n => .tuple [.str W.num.str, .int n]
  | .name x => .tuple [.str W.name.str, .str x]
  | .bin o a b => .tuple [.str o.w.str, a.data, b.data]
  | .cond c a b => .tuple [.str W.when.str, c.data, a.data, b.data]
  | .letx x a b => .tuple [.str W.let.str, .str x, a.data, b.data]
  | .turns n x a b => .tuple [.str W.turns.str, .int n, .str x, a.data, b.data]
  | .deff f x k a b => .tuple [.str W.def.str, .str f, .str x, .str (kindS k), a.data, b.data]
  | .use f a => .tuple [.str W.use.str, .str f, a.data]
  | .un o a => .tuple [.str o.w.str, a.data]
theorem W.ok : ∀ u : W, PyData.strOk u.str = true := by intro u; cases u <;> decide +kernel
theorem kindS_ok : ∀ k : Bool, PyData.strOk (kindS k) = true := by intro k; cases k <;> decide +kernel
theorem kindS_inj : ∀ {k l : Bool}, kindS k = kindS l → k = l := by
  intro k l
  cases k <;> cases l <;> first | (intro _; rfl) | (intro h; exact absurd h (by decide +kernel))
theorem Tm.data_w (t : Tm) : ∃ r, t.data = .tuple (.str t.w.str :: r) := by
  cases t <;> exact ⟨_, rfl⟩
theorem Tm.data_lay : ∀ t : Tm, t.Ok → t.data.canLay0 = true
  | .num _, _ => by simp only [Tm.data, PyData.canLay0, PyData.canLayAll0, W.ok, Bool.and_self]
  | .name _, h => by simp only [Tm.data, PyData.canLay0, PyData.canLayAll0, W.ok, show PyData.strOk _ = true from h, Bool.and_self]
  | .bin _ a b, h => by simp only [Tm.data, PyData.canLay0, PyData.canLayAll0, W.ok, Tm.data_lay a h.1, Tm.data_lay b h.2, Bool.and_self]
  | .cond c a b, h => by simp only [Tm.data, PyData.canLay0, PyData.canLayAll0, W.ok, Tm.data_lay c h.1, Tm.data_lay a h.2.1, Tm.data_lay b h.2.2, Bool.and_self]
  | .letx _ a b, h => by simp only [Tm.data, PyData.canLay0, PyData.canLayAll0, W.ok, h.1, Tm.data_lay a h.2.1, Tm.data_lay b h.2.2, Bool.and_self]
  | .turns _ _ a b, h => by simp only [Tm.data, PyData.canLay0, PyData.canLayAll0, W.ok, h.1.2, Tm.data_lay a h.2.1, Tm.data_lay b h.2.2, Bool.and_self]
  | .deff _ _ _ a b, h => by simp only [Tm.data, PyData.canLay0, PyData.canLayAll0, W.ok, kindS_ok, h.1.1, h.1.2, Tm.data_lay a h.2.1, Tm.data_lay b h.2.2, Bool.and_self]
  | .use _ a, h => by simp only [Tm.data, PyData.canLay0, PyData.canLayAll0, W.ok, h.1, Tm.data_lay a h.2, Bool.and_self]
  | .un _ a, h => by simp only [Tm.data, PyData.canLay0, PyData.canLayAll0, W.ok, Tm.data_lay a h, Bool.and_self]
theorem Tm.data_deep : ∀ t : Tm, t.data.depth ≤ t.deep
  | .num _ => by simp [Tm.data, Tm.deep, PyData.depth, PyData.depthAll]
  | .name _ => by simp [Tm.data, Tm.deep, PyData.depth, PyData.depthAll]
  | .bin _ a b => by have := Tm.data_deep a; have := Tm.data_deep b; simp only [Tm.data, Tm.deep, PyData.depth, PyData.depthAll]; omega
  | .cond c a b => by have := Tm.data_deep a; have := Tm.data_deep b; have := Tm.data_deep c; simp only [Tm.data, Tm.deep, PyData.depth, PyData.depthAll]; omega
  | .letx _ a b => by have := Tm.data_deep a; have := Tm.data_deep b; simp only [Tm.data, Tm.deep, PyData.depth, PyData.depthAll]; omega
  | .turns _ _ a b => by have := Tm.data_deep a; have := Tm.data_deep b; simp only [Tm.data, Tm.deep, PyData.depth, PyData.depthAll]; omega
  | .deff _ _ _ a b => by have := Tm.data_deep a; have := Tm.data_deep b; simp only [Tm.data, Tm.deep, PyData.depth, PyData.depthAll]; omega
  | .use _ a => by have := Tm.data_deep a; simp only [Tm.data, Tm.deep, PyData.depth, PyData.depthAll]; omega
  | .un _ a => by have := Tm.data_deep a; simp only [Tm.data, Tm.deep, PyData.depth, PyData.depthAll]; omega
theorem w_bin {t : Tm} {o : Bin} (h : t.w = o.w) : ∃ a b, t = .bin o a b := by
  cases t with
  | bin o' a b => cases o <;> cases o' <;> first | exact ⟨_, _, rfl⟩ | cases h
  | un o' _ => cases o <;> cases o' <;> cases h
  | _ => cases o <;> cases h
theorem w_un {t : Tm} {o : Un} (h : t.w = o.w) : ∃ a, t = .un o a := by
  cases t with
  | un o' a => cases o <;> cases o' <;> first | exact ⟨_, rfl⟩ | cases h
  | bin o' _ _ => cases o <;> cases o' <;> cases h
  | _ => cases o <;> cases h
theorem data_weq {t u : Tm} (h : PyData.eqv t.data u.data = true) : t.w = u.w := by
  obtain ⟨r, e⟩ := t.data_w
  obtain ⟨r', e'⟩ := u.data_w
  rw [e, e'] at h
  simp only [PyData.eqv, PyData.eqvAll, Bool.and_eq_true, beq_iff_eq] at h
  exact W.inj h.1
theorem Tm.data_eq : ∀ t u : Tm, PyData.eqv t.data u.data = true → t = u := by
  intro t
  induction t with
  | num n =>
    intro u h
    obtain ⟨m, rfl⟩ := w_num (data_weq h).symm
    simp only [Tm.data, PyData.eqv, PyData.eqvAll, Bool.and_eq_true, beq_iff_eq] at h
    rw [h.2.1]
  | name n =>
    intro u h
    obtain ⟨m, rfl⟩ := w_name (data_weq h).symm
    simp only [Tm.data, PyData.eqv, PyData.eqvAll, Bool.and_eq_true, beq_iff_eq] at h
    rw [h.2.1]
  | bin o a b iha ihb =>
    intro u h
    obtain ⟨a', b', rfl⟩ := w_bin (o := o) (data_weq h).symm
    simp only [Tm.data, PyData.eqv, PyData.eqvAll, Bool.and_eq_true, beq_iff_eq] at h
    rw [iha _ h.2.1, ihb _ h.2.2.1]
  | cond c a b ihc iha ihb =>
    intro u h
    obtain ⟨c', a', b', rfl⟩ := w_when (data_weq h).symm
    simp only [Tm.data, PyData.eqv, PyData.eqvAll, Bool.and_eq_true, beq_iff_eq] at h
    rw [ihc _ h.2.1, iha _ h.2.2.1, ihb _ h.2.2.2.1]
  | letx x a b iha ihb =>
    intro u h
    obtain ⟨x', a', b', rfl⟩ := w_let (data_weq h).symm
    simp only [Tm.data, PyData.eqv, PyData.eqvAll, Bool.and_eq_true, beq_iff_eq] at h
    rw [h.2.1, iha _ h.2.2.1, ihb _ h.2.2.2.1]
  | turns n x a b iha ihb =>
    intro u h
    obtain ⟨n', x', a', b', rfl⟩ := w_turns (data_weq h).symm
    simp only [Tm.data, PyData.eqv, PyData.eqvAll, Bool.and_eq_true, beq_iff_eq] at h
    rw [h.2.1, h.2.2.1, iha _ h.2.2.2.1, ihb _ h.2.2.2.2.1]
  | deff f x k a b iha ihb =>
    intro u h
    obtain ⟨f', x', k', a', b', rfl⟩ := w_def (data_weq h).symm
    simp only [Tm.data, PyData.eqv, PyData.eqvAll, Bool.and_eq_true, beq_iff_eq] at h
    rw [h.2.1, h.2.2.1, kindS_inj h.2.2.2.1, iha _ h.2.2.2.2.1, ihb _ h.2.2.2.2.2.1]
  | use f a iha =>
    intro u h
    obtain ⟨f', a', rfl⟩ := w_use (data_weq h).symm
    simp only [Tm.data, PyData.eqv, PyData.eqvAll, Bool.and_eq_true, beq_iff_eq] at h
    rw [h.2.1, iha _ h.2.2.1]
  | un o a iha =>
    intro u h
    obtain ⟨a', rfl⟩ := w_un (o := o) (data_weq h).symm
    simp only [Tm.data, PyData.eqv, PyData.eqvAll, Bool.and_eq_true, beq_iff_eq] at h
    rw [iha _ h.2.1]
theorem Tm.data_self (t : Tm) (h : t.Ok) : PyData.eqv t.data t.data = true := SeqAt.eqv_refl _ (t.data_lay h)
theorem Tm.shaped {t : Tm} (h : t.Ok) (hd : t.deep ≤ 60) : SeqAt.shaped t.data = true := by
  unfold SeqAt.shaped
  rw [t.data_lay h, decide_eq_true (by have := t.data_deep; omega)]
  rfl
theorem TmAt.dp {K : PySem.W.Frag} {H : Hp} : ∀ {t : Tm} {v : V}, TmAt H t v → Dp K H v t.data
  | .num _, _, ⟨p, e, q⟩ => by rw [e]; exact .tup (SqT.of q) (.cons (.str _) (.cons (.int _) .nil))
  | .name _, _, ⟨p, e, q⟩ => by rw [e]; exact .tup (SqT.of q) (.cons (.str _) (.cons (.str _) .nil))
  | .bin o _ _, _, ⟨p, x, y, e, q, a, b⟩ => by rw [e]; rw [o.word_eq] at q; exact .tup (SqT.of q) (.cons (.str _) (.cons (TmAt.dp a) (.cons (TmAt.dp b) .nil)))
  | .cond _ _ _, _, ⟨p, x, y, z, e, q, a, b, c⟩ => by rw [e]; exact .tup (SqT.of q) (.cons (.str _) (.cons (TmAt.dp a) (.cons (TmAt.dp b) (.cons (TmAt.dp c) .nil))))
  | .letx _ _ _, _, ⟨p, x, y, e, q, a, b⟩ => by rw [e]; exact .tup (SqT.of q) (.cons (.str _) (.cons (.str _) (.cons (TmAt.dp a) (.cons (TmAt.dp b) .nil))))
  | .turns _ _ _ _, _, ⟨p, x, y, e, q, a, b⟩ => by rw [e]; exact .tup (SqT.of q) (.cons (.str _) (.cons (.int _) (.cons (.str _) (.cons (TmAt.dp a) (.cons (TmAt.dp b) .nil)))))
  | .deff _ _ _ _ _, _, ⟨p, x, y, e, q, a, b⟩ => by rw [e]; exact .tup (SqT.of q) (.cons (.str _) (.cons (.str _) (.cons (.str _) (.cons (.str _) (.cons (TmAt.dp a) (.cons (TmAt.dp b) .nil))))))
  | .use _ _, _, ⟨p, x, e, q, a⟩ => by rw [e]; exact .tup (SqT.of q) (.cons (.str _) (.cons (.str _) (.cons (TmAt.dp a) .nil)))
  | .un o _, _, ⟨p, x, e, q, a⟩ => by rw [e]; rw [o.word_eq] at q; exact .tup (SqT.of q) (.cons (.str _) (.cons (TmAt.dp a) .nil))

/-! ### sizes of the parts -/
def sizes : List Tm → Nat
  | [] => 0
  | t :: r => t.size + sizes r
theorem sizes_snoc (t : Tm) : ∀ r : List Tm, sizes (r ++ [t]) = sizes r + t.size
  | [] => by show t.size + 0 = 0 + t.size; omega
  | a :: r => by show a.size + sizes (r ++ [t]) = a.size + sizes r + t.size; rw [sizes_snoc t r]; omega
theorem sizes_take : ∀ (r : List Tm) (i : Nat), sizes (r.take i) ≤ sizes r
  | [], i => by rw [List.take_nil]; exact Nat.le_refl _
  | a :: r, 0 => Nat.zero_le _
  | a :: r, i + 1 => by show a.size + sizes (r.take i) ≤ a.size + sizes r; exact Nat.add_le_add_left (sizes_take r i) _
theorem Tm.size_parts (t : Tm) : t.size = 1 + sizes t.parts := by
  cases t <;> simp only [Tm.size, Tm.parts, sizes] <;> omega
theorem Tm.Ok.part {t u : Tm} (h : t.Ok) (m : u ∈ t.parts) : u.Ok := by
  cases t with
  | num n => cases m
  | name n => cases m
  | bin o a b =>
    simp only [Tm.parts, List.mem_cons, List.not_mem_nil, or_false] at m
    rcases m with rfl | rfl
    · exact h.1
    · exact h.2
  | cond c a b =>
    simp only [Tm.parts, List.mem_cons, List.not_mem_nil, or_false] at m
    rcases m with rfl | rfl | rfl
    · exact h.1
    · exact h.2.1
    · exact h.2.2
  | letx x a b =>
    simp only [Tm.parts, List.mem_cons, List.not_mem_nil, or_false] at m
    rcases m with rfl | rfl
    · exact h.2.1
    · exact h.2.2
  | turns n x a b =>
    simp only [Tm.parts, List.mem_cons, List.not_mem_nil, or_false] at m
    rcases m with rfl | rfl
    · exact h.2.1
    · exact h.2.2
  | deff f x k a b =>
    simp only [Tm.parts, List.mem_cons, List.not_mem_nil, or_false] at m
    rcases m with rfl | rfl
    · exact h.2.1
    · exact h.2.2
  | use f a =>
    simp only [Tm.parts, List.mem_cons, List.not_mem_nil, or_false] at m
    subst m
    exact h.2
  | un o a =>
    simp only [Tm.parts, List.mem_cons, List.not_mem_nil, or_false] at m
    subst m
    exact h
theorem sizes_mem {r : List Tm} {u : Tm} : u ∈ r → u.size ≤ sizes r := by
  intro h
  induction r with
  | nil => cases h
  | cons t r ih =>
    show u.size ≤ t.size + sizes r
    rcases List.mem_cons.mp h with rfl | h
    · omega
    · have := ih h
      omega
theorem Tm.part_size {t u : Tm} (h : u ∈ t.parts) : u.size ≤ t.size := by
  have := sizes_mem h
  have := t.size_parts
  omega
theorem sizes_sum : ∀ r : List Tm, sizes r = (r.map Tm.size).sum
  | [] => rfl
  | t :: r => by show t.size + sizes r = _; rw [sizes_sum r]; rfl
theorem TmsAt.get {H : Hp} : ∀ {ts : List Tm} {vs : List V} {i : Nat} {t : Tm}, TmsAt H ts vs → ts[i]? = some t → ∃ v, vs[i]? = some v ∧ TmAt H t v
  | [], [], _, _, _, e => by simp at e
  | t :: ts, v :: vs, 0, _, ⟨h, _⟩, e => by
    simp only [List.getElem?_cons_zero, Option.some.injEq] at e
    subst e
    exact ⟨v, rfl, h⟩
  | t :: ts, v :: vs, i + 1, _, ⟨_, r⟩, e => by
    simp only [List.getElem?_cons_succ] at e
    obtain ⟨u, h1, h2⟩ := TmsAt.get r e
    exact ⟨u, by simpa using h1, h2⟩
  | [], _ :: _, _, _, h, _ => h.elim
  | _ :: _, [], _, _, h, _ => h.elim
theorem TmsAt.snoc {H : Hp} {t : Tm} {v : V} (h : TmAt H t v) : ∀ {ts : List Tm} {vs : List V}, TmsAt H ts vs → TmsAt H (ts ++ [t]) (vs ++ [v])
  | [], [], _ => ⟨h, True.intro⟩
  | _ :: _, _ :: _, ⟨a, b⟩ => ⟨a, TmsAt.snoc h b⟩
  | [], _ :: _, h => h.elim
  | _ :: _, [], h => h.elim
/-- another list is written: the terms stay -/
theorem Tups.put {H : Hp} {S : Addr} {ys zs : List V} (hS : H S = some (.lst ys)) : Tups H (upd H S (.lst zs)) := fun b xs q => by
  rw [upd_ne (ne_of q hS (by intro z; cases z))]
  exact q
theorem fn_none {P : Program} {w : World} {K : PySem.W.Frag} {mg : Str → Option Value} {base : Heap} {f : Addr} {fd : FuncData} {k : Nat} {ps : List Str} {sp : Sp} (no : ∀ vs H Q E, ¬ sp vs H Q E) : FnOk P w K mg base CX0 k f fd ps sp :=
  ⟨fun vs H Q E h => absurd h (no vs H Q E), fun A outer s H args us vs Q E _ _ _ _ h => absurd h (no vs H Q E)⟩

/-! ### {**d, k: v} -/
section
open PySem PySem.Spec
variable {prog : Program} {w : World} {κ : Type} [DecidableEq κ] {knd : KeyKind prog w κ} {A : Around} {E : Value → Shared → Prop} {s : Shared}
theorem wpAny_dictPut_pairs {d : Addr} {kvs : List (κ × Value)} {k : κ} {key v : Value} {Q : Unit → Shared → Prop} (hkey : knd.is k key = true) (hm : s.heap.DictOf knd d kvs)
    (hQ : ∀ h', h'.DictOf knd d (stored kvs k v) → Heap.SameBut d s.heap h' → Q () { s with heap := h' })
    (hsz : kvs.length ≤ sizeLine) :
    wpAny (model prog w) A (dictPut d (knd.hash k) key v) Q E s := by
  obtain ⟨o, es, ep, ho, hc, hd, hk, hp, hn⟩ := hm
  have hes : es.size ≤ sizeLine := by have e1 := hp.length; have e2 : es.toList.length = es.size := by simp
                                      omega
  unfold dictPut
  refine wpAny_bind (wpAny_dictFind_of hkey ho hd hk ?_)
  have hidx : (es.findIdx? fun e => knd.is k e.key) = kvs.findIdx? fun kv => decide (kv.1 = k) := by
    rw [← hp.findIdx k]; obtain ⟨l⟩ := es; simp
  cases hi : es.findIdx? fun e => knd.is k e.key with
  | some i =>
    refine wpAny_updateDict ho hd (hQ _ ⟨_, _, ep, Heap.get?_update_self _ ho (Obj.isFreed_of_dict (Obj.data_mapDict hd _)),
      hc.mapDict _, Obj.data_mapDict hd _, hk.modify _ _, ?_, ?_⟩ (Heap.SameBut.update ..))
    · rw [stored, if_pos (any_of_findIdx_some (hidx ▸ hi))]
      have hl : (es.toList.findIdx? fun e => knd.is k e.key) = some i := by rw [← hi]; obtain ⟨l⟩ := es; simp
      have := hp.modify hn hl v
      obtain ⟨l⟩ := es
      simpa using this
    · rw [stored, if_pos (any_of_findIdx_some (hidx ▸ hi)), keys_map_store]; exact hn
  | none =>
    have hnot : k ∉ kvs.map (·.1) := not_mem_of_findIdx_none (hidx ▸ hi)
    have hany : ¬ (kvs.any fun kv => decide (kv.1 = k)) = true := by
      rw [List.any_eq_true]; rintro ⟨kv, hkv, he⟩
      exact hnot (List.mem_map.mpr ⟨kv, hkv, of_decide_eq_true he⟩)
    refine wpAny_updateDictKeys (hz := hes) ho hd (hQ _ ⟨_, _, ep + 1, Heap.get?_update_self _ ho (Obj.isFreed_of_dict (Obj.data_mapDictKeys hd _)),
      hc.mapDictKeys _, Obj.data_mapDictKeys hd _, hk.push hkey _, ?_, ?_⟩ (Heap.SameBut.update ..))
    · rw [stored, if_neg hany]
      have := hp.append hkey (knd.hash k) v
      obtain ⟨l⟩ := es
      simpa using this
    · rw [stored, if_neg hany, List.map_append, List.nodup_append]
      refine ⟨hn, by simp, ?_⟩
      intro a ha b hb
      simp only [List.map_cons, List.map_nil, List.mem_singleton] at hb
      subst hb
      exact fun e => hnot (e ▸ ha)
theorem noRefKeys {es : Array DictEntry} (hk : KeysOf knd es) {P : DictEntry → Sem (ForInStep PUnit)} (hP : ∀ e ∈ es.toList, carriedByValue e.key = true → P e = pure (.yield PUnit.unit)) :
    (forIn es PUnit.unit fun e (_ : PUnit) => P e) = pure PUnit.unit := by
  rw [← Array.forIn_toList]
  refine forIn_yield_id _ fun e he c => ?_
  obtain ⟨k, hkey, _⟩ := hk e (Array.mem_toList_iff.mp he)
  exact hP e he (knd.byValue k _ hkey)
set_option pp.maxSteps 100000 in
theorem wpAny_mergeMapping {d o : Addr} {kvs more : List (κ × Value)} {Q : Unit → Shared → Prop} (hdo : d ≠ o) (hoS : (o == sysModules) = false)
    (hd : s.heap.DictOf knd d kvs) (ho : s.heap.DictOf knd o more)
    (hQ : ∀ h', h'.DictOf knd d (merged kvs more) → h'.DictOf knd o more → Heap.SameBut d s.heap h' → Q () { s with heap := h' })
    (hsz : kvs.length + more.length ≤ sizeLine) :
    wpAny (model prog w) A (mergeMapping d (.ref o) false) Q E s := by
  obtain ⟨od, esd, epd, hod, hcd, hdd, hkd, hpd, hnd⟩ := id hd
  obtain ⟨oo, eso, epo, hoo, hco, hdo', hko, hpo, hno⟩ := id ho
  have hlen : more.length = eso.size := by rw [← hpo.length]; simp
  unfold mergeMapping
  refine wpAny_bind (wpAny_isInstance ho.typeIs isSubtype_dict_dict ?_)
  dsimp only
  rw [if_pos rfl]
  refine wpAny_bind (wpAny_specialOf ho.typeIs F.slot_dict_iter.lookup (wpAny_bind (wpAny_pure ?_)))
  simp only [beq_self_eq_true]
  rw [if_neg (by rw [hoS]; exact Bool.false_ne_true)]
  refine wpAny_bind (wpAny_dictEntries hod hdd ?_)
  have pre : ∀ {J : Sem Unit} {P : Array DictEntry → DictEntry → Sem (ForInStep PUnit)}, (∀ e ∈ eso.toList, carriedByValue e.key = true → P eso e = pure (.yield PUnit.unit)) → wpAny (model prog w) A J Q E s →
      wpAny (model prog w) A (if esd.isEmpty = true then (do let es ← dictEntries o; forIn es PUnit.unit fun e (_ : PUnit) => P es e; J) else J) Q E s := fun hP hJ => by
    split
    · refine wpAny_bind (wpAny_dictEntries hoo hdo' (wpAny_bind ?_))
      rw [noRefKeys hko hP]
      exact wpAny_pure hJ
    · exact hJ
  refine pre (fun e he c => ?_) ?_
  · cases h : e.key <;> first | rfl | (rw [h] at c; cases c)
  refine wpAny_bind (wpAny_dictEntries hoo hdo' ?_)
  refine wpAny_bind (wpAny_dictEpoch hoo hdo' ?_)
  refine wpAny_bind ?_
  rw [List.range_eq_range']
  refine wpAny_forIn_list _
    (fun rest _ s' => ∃ h' i, s' = { s with heap := h' } ∧ rest = List.range' i (eso.size - i) ∧ i ≤ eso.size ∧ h'.DictOf knd d (merged kvs (more.take i)) ∧ h'.get? o = some oo ∧ Heap.SameBut d s.heap h')
    _ ?_ ?_ _ _ ⟨s.heap, 0, rfl, by simp, Nat.zero_le _, by simpa [merged] using hd, hoo, Heap.SameBut.refl _ _⟩
  · rintro x rest b s' ⟨h', i, rfl, hr, hi, hd', hoo', hs'⟩
    have hlt : i < eso.size := by
      rcases Nat.lt_or_ge i eso.size with h | h
      · exact h
      · rw [Nat.sub_eq_zero_of_le h] at hr; simp at hr
    obtain ⟨rfl, hrest⟩ : x = i ∧ rest = List.range' (i + 1) (eso.size - (i + 1)) := by
      have e : eso.size - i = (eso.size - (i + 1)) + 1 := by omega
      rw [e, List.range'_succ] at hr
      injection hr with h1 h2
      exact ⟨h1, h2⟩
    refine wpAny_bind (wpAny_dictEntries hoo' hdo' ?_)
    rw [Array.getElem?_eq_getElem hlt]
    obtain ⟨kv, hkv⟩ : ∃ kv, more[x]? = some kv := ⟨more[x]'(by rw [hlen]; exact hlt), List.getElem?_eq_getElem _⟩
    obtain ⟨k, v⟩ := kv
    obtain ⟨hkey, hval⟩ := hpo.get? (e := eso[x]) (by simp [hlt]) hkv
    obtain ⟨k', hkey', hhash⟩ := hko eso[x] (Array.getElem_mem hlt)
    obtain rfl : k' = k := knd.inj _ _ _ hkey' hkey
    have hmx : (merged kvs (more.take x)).length ≤ sizeLine := by
      have e1 := merged_length_le kvs (more.take x)
      have e2 : (more.take x).length ≤ more.length := by rw [List.length_take]; omega
      omega
    refine wpAny_bind (wpAny_holding ?_)
    rw [if_neg Bool.false_ne_true]
    rw [hhash, hval]
    refine wpAny_dictPut_pairs (hsz := hmx) hkey hd' fun h'' hd'' hs'' => ?_
    have hoo'' : h''.get? o = some oo := (hs''.2 o (Ne.symm hdo)).trans hoo'
    refine wpAny_bind (wpAny_dictEpoch hoo'' hdo' ?_)
    rw [if_neg (by simp)]
    exact wpAny_pure ⟨h'', x + 1, rfl, hrest, hlt, by rw [merged_take_succ kvs more x (k', v) hkv]; exact hd'', hoo'', hs'.trans hs''⟩
  · rintro b s' ⟨h', i, rfl, hr, hi, hd', hoo', hs'⟩
    have hin : i = eso.size := by
      rcases Nat.lt_or_ge i eso.size with h | h
      · have e : eso.size - i = (eso.size - (i + 1)) + 1 := by omega
        rw [e, List.range'_succ] at hr; exact nomatch hr
      · exact Nat.le_antisymm hi h
    refine wpAny_pure (hQ h' ?_ ⟨oo, eso, epo, hoo', hco, hdo', hko, hpo, hno⟩ hs')
    rw [hin, ← hlen, List.take_length] at hd'; exact hd'
end
section
open PySem PySem.Spec
variable {X : Cx}
/-- {**m, k: v}: the new dict p is filled from m, then from one more new dict q that holds k alone -/
def tStarD (tm tk tv : TE) : TE := fun σ H Q => ∀ p, H p = none → tm σ (upd H p (.dK [])) fun x H1 => ∃ (a : Addr) (kvs : List (Key × V)), x = .ref a ∧ p ≠ a ∧ H1 a = some (.dK kvs) ∧ H1 p = some (.dK []) ∧ kvs.length < sizeLine ∧
  ∀ q, upd H1 p (.dK kvs) q = none → tk σ (upd (upd H1 p (.dK kvs)) q (.dK [])) fun y H2 => tv σ H2 fun z H3 => H3 p = some (.dK kvs) ∧ H3 q = some (.dK []) ∧ ∃ k, y = kV k ∧ Q (.ref p) (upd (upd H3 q (.dK [(k, z)])) p (.dK (putK kvs k z)))
theorem KV.keys {κ : Type} [DecidableEq κ] {kvs : List (κ × V)} {vs : List (κ × Value)} (r : KV kvs vs) : kvs.map (·.1) = vs.map (·.1) := by
  unfold KV at r
  induction r with
  | nil => rfl
  | cons h t ih => rw [List.map_cons, List.map_cons, ih, h.1]
theorem pe_star {m k v : Expr} {pos : Pos} {tm tk tv : TE} (hm : PE X m tm) (hk : PE X k tk) (hv : PE X v tv) : PE X (.Dict [none, some k] [m, v] pos) (tStarD tm tk tv) := by
  refine ⟨fun pins s σ H Q I q => ?_⟩
  have hn := I.hok.fresh (Nat.le_refl s.heap.objs.size)
  have I1 := I.laid (a := s.heap.objs.size) (o := .dK []) (h' := s.heap.push { cls := .type "dict", data := .dict #[] }) (t' := s.toks) (fun _ _ q => Heap.get?_push_of_some _ q) (Nat.le_refl _) (dk_empty s.heap I.big)
  rw [arm_eval_Dict]
  refine wpAny_bind (wpAny_standAt ?_)
  show wpAny _ _ (dictDisplay [(none, do let x ← eval m X.env; standAt pos; pure x), (some (eval k X.env), do let x ← eval v X.env; standAt pos; pure x)]) _ _ _
  unfold dictDisplay
  dsimp only
  simp only [List.forIn_cons, List.forIn_nil, List.isEmpty_nil, if_true, pure_bind, bind_assoc]
  refine wpAny_bind (wpAny_alloc ?_)
  refine wpAny_bind (wpAny_holding (wpAny_bind (thn (hm.run pins _ σ _ _ I1 (q _ hn)) fun u s1 ⟨x, H1, I2, rx, a, kvs, ex, pa, ha, hp, hz, q2⟩ => wpAny_bind (wpAny_standAt (wpAny_pure ?_)))))
  subst ex
  obtain rfl : u = Value.ref a := rx
  obtain ⟨z0, hsp, vs0, r0, dp⟩ := dk_of I2.hok hp
  cases r0
  obtain ⟨z1, hsa, vs, rel, da⟩ := dk_of I2.hok ha
  have lv : kvs.length = vs.length := by have e := congrArg List.length rel.keys; simpa using e
  have nv : (vs.map (·.1)).Nodup := let ⟨_, _, _, _, _, _, _, _, n⟩ := da; n
  refine wpAny_bind (wpAny_onRaise (wpAny_tryCatch (wpAny_onRaise (wpAny_holding (wpAny_mergeMapping (knd := mixKind X.prog X.w) pa hsa dp da (fun h' dp' _ hs => ?_) (by simp; omega))))))
  rw [merged_nil_of_nodup _ nv] at dp'
  have hex : ∀ {h' : Heap} {b : Addr} {zs : List (Key × Value)}, h'.DictOf (mixKind X.prog X.w) b zs → ∃ q, h'.get? b = some q := fun dd' => let ⟨q, _, _, hq, _⟩ := dd'; ⟨q, hq⟩
  have I3 := d_write (t' := s1.toks) I2 (by rw [hp]; exact True.intro) hs (hex dp') (dk_new z1 hsp rel dp')
  simp only [List.nil_append, List.length_singleton, show ((1 : Nat) == 17) = false from rfl, Bool.false_eq_true, if_false, pure_bind, List.isEmpty_cons]
  have hn3 := I3.hok.fresh (Nat.le_refl _)
  have I4 := I3.laid (a := h'.objs.size) (o := .dK []) (h' := h'.push { cls := .type "dict", data := .dict #[] }) (t' := s1.toks) (fun _ _ q => Heap.get?_push_of_some _ q) (Nat.le_refl _) (dk_empty h' I3.big)
  refine wpAny_bind (wpAny_bind (wpAny_holding (wpAny_subDict (knd := mixKind X.prog X.w) (by simp) (evalPairs_cons (thn (hk.run pins _ σ _ _ I4 (q2 _ hn3)) fun u2 s2 ⟨y, H2, I5, ry, q3⟩ => wpAny_bind (thn (hv.run pins _ σ _ _ I5 q3) fun u3 s3 ⟨z, H3, I6, rz, hp3, hq3, key, ey, q4⟩ => wpAny_bind (wpAny_standAt (wpAny_pure (evalPairs_nil ?_)))))))))
  subst ey
  obtain ⟨_, hsq, vs4, r4, dq⟩ := dk_of I6.hok hq3
  cases r4
  refine ⟨[(key, u3)], ⟨kV_is ry, rfl, True.intro⟩, dq, fun h5 dq' hs5 => ?_⟩
  rw [merged_nil_of_nodup [(key, u3)] (List.nodup_cons.mpr ⟨List.not_mem_nil, List.nodup_nil⟩)] at dq'
  have rel5 : KV [(key, z)] [(key, u3)] := .cons ⟨rfl, rz⟩ .nil
  have I7 := d_write (t' := s3.toks + 1) I6 (by rw [hq3]; exact True.intro) hs5 (hex dq') (dk_new (kvs := [(key, z)]) (small (by show 1 ≤ 1000; decide)) hsq rel5 dq')
  have npq : s.heap.objs.size ≠ h'.objs.size := fun e => by rw [← e, upd_same] at hn3; cases hn3
  have hp7 : upd H3 h'.objs.size (.dK [(key, z)]) s.heap.objs.size = some (.dK kvs) := by rw [upd_ne npq]; exact hp3
  obtain ⟨_, _, vs7, rel7, dp7⟩ := dk_of I7.hok hp7
  have lv7 : kvs.length = vs7.length := by have e := congrArg List.length rel7.keys; simpa using e
  refine wpAny_bind (wpAny_onRaise (wpAny_holding (wpAny_mergeMapping (knd := mixKind X.prog X.w) npq hsq dp7 dq' (fun h8 dp8 _ hs8 => ?_) (by rw [List.length_singleton]; omega))))
  refine wpAny_pure (wpAny_pure ⟨.ref s.heap.objs.size, _, ?_, rfl, q4⟩)
  refine d_write I7 (by rw [hp7]; exact True.intro) hs8 (hex dp8) (dk_new ?_ hsp (rel7.put key rz) dp8)
  have := length_putK kvs key z
  omega
end

/-! ### del xs[i:] -/
section
open PySem PySem.Spec
variable {prog : Program} {w : World} {A : Around} {E : Value → Shared → Prop} {s : Shared}
theorem keepLow {α : Type} (a : Nat) (p : Nat → Bool) : ∀ (xs : List α) (i : Nat), (∀ k, i ≤ k → k < i + xs.length → p k = decide (a ≤ k)) →
    ((xs.zipIdx i).filterMap fun q => if p q.2 = true then none else some q.1) = xs.take (a - i)
  | [], i, _ => by simp
  | x :: r, i, h => by
    have ih := keepLow a p r (i + 1) fun k h1 h2 => h k (by omega) (by rw [List.length_cons]; omega)
    rw [List.zipIdx_cons, List.filterMap_cons]
    have hp := h i (Nat.le_refl _) (by rw [List.length_cons]; omega)
    by_cases c : a ≤ i
    · rw [decide_eq_true c] at hp
      dsimp only
      rw [hp, if_pos rfl, ih, show a - (i + 1) = 0 by omega, show a - i = 0 by omega, List.take_zero, List.take_zero]
    · rw [decide_eq_false c] at hp
      dsimp only
      rw [hp, if_neg Bool.false_ne_true, ih]
      dsimp only
      rw [show a - i = (a - (i + 1)) + 1 by omega, List.take_succ_cons]
theorem bounds_from {a n : Nat} (ha : a ≤ n) : sliceBounds (some (a : Int)) none none n = ((a : Int), (n : Int), 1) := by
  simp only [sliceBounds, Option.getD_none]
  have h1 : ¬ ((a : Int) < 0) := by omega
  simp only [h1, if_false, show (1 : Int) > 0 by decide, if_true]
  congr 1
  omega
theorem delItem_from {l sl : Addr} {items : List Value} {n : Nat} {vl vu : Value} {a : Nat} {Q : Unit → Shared → Prop}
    (e : s.heap.get? l = some { cls := .type "list", data := .seq items.toArray n }) (hs : s.heap.IsSliceOf sl vl vu .none) (pl : IsPart vl (some (a : Int))) (pu : IsPart vu none) (ha : a ≤ items.length)
    (hsz : items.length ≤ sizeLine) (h : ∀ f : Array Value → Array Value, f items.toArray = (items.take a).toArray → Q () { s with heap := s.heap.update l (Obj.mapSeq f) }) :
    wpAny (model prog w) A (delItem (.ref l) (.ref sl)) Q E s := by
  have hl : s.heap.IsList l items.toArray := PySem.IsL.isList e
  obtain ⟨os, hos, hcs, hds⟩ := id hs
  have hTs : s.TypeIs (.ref sl) "slice" := ⟨os, hos, hcs⟩
  have hstep : ¬ ((rawPart none == rawInt 0) = true) := Bool.false_ne_true
  refine wpAny_delItem_slot (T := "list") ⟨_, e, rfl⟩ (by decide) F.slot_list_delitem ?_
  refine wpAny_call_entry F.slot_list_delitem ⟨_, e, rfl⟩ F.entry_list_delitem ?_ (F.args_list_delitem_2 _ _)
  show wpAny _ _ (Builtin.List.listSubscript? (.ref sl) >>= _) _ _ s
  refine wpAny_bind ?_
  unfold Builtin.List.listSubscript?
  refine wpAny_bind (wpAny_specialOf hTs slice_no_index ?_)
  simp only [Option.isNone_none, if_true]
  refine wpAny_pure ?_
  show wpAny _ _ (typeOf (.ref sl) >>= _) _ _ s
  refine wpAny_bind (wpAny_typeOf hTs ?_)
  rw [if_neg (by decide)]
  rw [listSliceParts_eq]
  refine wpAny_bind (wpAny_bind (wpAny_field hos hds (x := .none) rfl (wpAny_bind (wpAny_listPart .none ?_))))
  rw [if_neg hstep]
  refine wpAny_bind (wpAny_field hos hds (x := vl) rfl (wpAny_bind (wpAny_listPart pl ?_)))
  refine wpAny_bind (wpAny_field hos hds (x := vu) rfl (wpAny_bind (wpAny_listPart pu (wpAny_pure ?_))))
  dsimp only
  unfold Builtin.List.listItems
  refine wpAny_bind (wpAny_bind (wpAny_seqItems e rfl (wpAny_pure ?_)))
  refine wpAny_bind (wpAny_of_eq ((sliceIndices_raw (some (a : Int)) none none items.toArray.size (by simp)).trans (congrArg (pure : Int × Int × Int → Sem (Int × Int × Int)) (bounds_from (by rw [List.size_toArray]; exact ha)))) ?_)
  refine wpAny_bind (wpAny_rule ?_)
  unfold Builtin.List.listUpdate
  refine wpAny_bind (wpAny_updateSeq (hz := by rw [List.size_toArray]; exact hsz) (_hz' := ?_) e rfl ?_)
  · refine wpAny_bind (wpAny_letGo ?_)
    refine wpAny_pure ⟨.none, rfl, h _ ?_⟩
    refine congrArg List.toArray ((keepLow a _ items 0 fun k _ hk => ?_).trans (by rw [Nat.sub_zero]))
    rw [Nat.zero_add] at hk
    show (if (1 : Int) > 0 then decide ((a : Int) ≤ (k : Int)) && decide ((k : Int) < ((items.toArray.size : Nat) : Int)) && (((k : Int) - (a : Int)) % 1 == 0) else _) = decide (a ≤ k)
    rw [if_pos (by decide), List.size_toArray, decide_eq_true (show (k : Int) < ((items.length : Nat) : Int) by omega), Int.emod_one]
    by_cases c : a ≤ k
    · rw [decide_eq_true c, decide_eq_true (by omega)]; rfl
    · rw [decide_eq_false c, decide_eq_false (by omega)]; rfl
  · rw [List.size_toArray]
    refine Nat.le_trans (List.length_filterMap_le _ _) ?_
    rw [List.length_zipIdx]
    exact Nat.le_succ_of_le hsz
end
/-- del xs[i:] of a list -/
def tCutFrom (to tl : TE) : TS := fun D σ H => to σ H fun x H1 => tl σ H1 fun y H2 => ∃ (l : Addr) (xs : List V) (k : Nat), x = .ref l ∧ y = .int (k : Int) ∧ H2 l = some (.lst xs) ∧ k ≤ xs.length ∧ D.nx σ (upd H2 l (.lst (xs.take k)))
theorem ps_cutFrom {X : Cx} {o i : Expr} {to ti : TE} {p2 tpos pos : Pos} (ho : PE X o to) (hi : PE X i ti) : PS X (.Delete [.Subscript o (.Slice (some i) none none p2) tpos] pos) (tCutFrom to ti) := by
  refine ⟨fun pins s σ H D I h => ?_⟩
  refine wpAny_Delete (wpAny_deleteEach_cons (wpAny_delete_Subscript (thn (ho.run pins s σ H _ I h) fun u s1 ⟨x, H1, I1, rx, q1⟩ => ?_)))
  refine wpAny_Slice (thn (hi.run pins s1 σ H1 _ I1 q1) fun vl s2 ⟨y, H2, I2, ry, l, xs, k, ex, ey, hl, hk, q2⟩ => ?_)
  refine wpAny_pure (wpAny_pure ?_)
  subst ex ey
  obtain rfl : u = Value.ref l := rx
  obtain ⟨t, rfl⟩ := (show ∃ t, vl = Value.int (k : Int) t from ry)
  have I4 : L2.Inv X pins σ H2 { s2 with heap := s2.heap.push { cls := .type "slice", data := .fields #[.int (k : Int) t, .none, .none] } } := I2.kept (t' := s2.toks) fun b ob q => Heap.get?_push_of_some _ q
  obtain ⟨z, its, n, r, hle, e⟩ := I4.lstM hl
  refine delItem_from (a := k) e (Heap.IsSliceOf.new ..) (.int _ _) .none (by omega) (by omega) fun f hf => wpAny_deleteEach_nil ⟨σ, _, I4.lset (its' := its.take k) (t' := s2.toks) hl e hf (r.take _) ?_, q2⟩
  rw [List.length_take]
  omega

/-! ### the telling as a machine: values, what names mean, steps -/
inductive EV where
  | bad
  | num (i : Int)
  | piece (t : Tm)
  | nm (s : Str)
  | fn (f x : Str) (k : Bool) (a b : Tm) (E : Str → EV)
abbrev Evs := Str → EV
def Evs.set (E : Evs) (x : Str) (v : EV) : Evs := fun y => if y = x then v else E y
def Evs.nil : Evs := fun _ => .bad
inductive Stp where
  | tell (t : Tm) (E : Evs)
  | make (t : Tm) (E : Evs)
  | reckon (o : Bin)
  | choose (c a b : Tm) (E : Evs)
  | goB (x : Str) (a b : Tm) (E : Evs)
  | turn (m : Int) (x : Str) (a b : Tm) (k : Int) (E : Evs)
  | goF (f x : Str) (k : Bool) (a b : Tm) (E : Evs)
  | tooGreat
  | mkNum
  | goPiece
  | put (t : Tm)
/-- the next one first, in both lists -/
structure Cfg where
  K : List Stp
  F : List EV
  n : Nat
def Bin.op : Bin → Int → Int → Int
  | .sum, i, j => (i + j) % 1000003
  | .product, i, j => i * j % 1000003
  | .less, i, j => if i < j then 1 else 0
def vN (n : Nat) : Str := ("v" : Str) ++ (toString (n : Int) : Str)
/-- other parts -/
def Tm.re : Tm → List Tm → Tm
  | .bin o _ _, [a, b] => .bin o a b
  | .cond _ _ _, [c, a, b] => .cond c a b
  | .letx x _ _, [a, b] => .letx x a b
  | .turns m x _ _, [a, b] => .turns m x a b
  | .deff f x k _ _, [a, b] => .deff f x k a b
  | .use f _, [a] => .use f a
  | .un o _, [a] => .un o a
  | t, _ => t
inductive Stp1 : Cfg → Cfg → Prop
  | num {m E K F n} : Stp1 ⟨.tell (.num m) E :: K, F, n⟩ ⟨K, .num (m % 1000003) :: F, n⟩
  | name {x E K F n} : E x ≠ .bad → Stp1 ⟨.tell (.name x) E :: K, F, n⟩ ⟨K, E x :: F, n⟩
  | bin {o a b E K F n} : Stp1 ⟨.tell (.bin o a b) E :: K, F, n⟩ ⟨.tell a E :: .tell b E :: .reckon o :: K, F, n⟩
  | cond {c a b E K F n} : Stp1 ⟨.tell (.cond c a b) E :: K, F, n⟩ ⟨.tell c E :: .choose c a b E :: K, F, n⟩
  | letx {x a b E K F n} : Stp1 ⟨.tell (.letx x a b) E :: K, F, n⟩ ⟨.tell a E :: .goB x a b E :: K, F, n⟩
  | turns {m x a b E K F n} : Stp1 ⟨.tell (.turns m x a b) E :: K, F, n⟩ ⟨.tell a E :: .turn m x a b m E :: K, F, n⟩
  | deff {f x k a b E K F n} : Stp1 ⟨.tell (.deff f x k a b) E :: K, F, n⟩ ⟨.tell b (E.set f (.fn f x k a b E)) :: K, F, n⟩
  | use {f a E K F n f' x k a' b' E'} : E f = .fn f' x k a' b' E' → Stp1 ⟨.tell (.use f a) E :: K, F, n⟩ ⟨.tell a E :: .goF f' x k a' b' E' :: K, F, n⟩
  | quote {a E K F n} : Stp1 ⟨.tell (.un .quote a) E :: K, F, n⟩ ⟨.make a E :: .tooGreat :: K, F, n⟩
  | lift {a E K F n} : Stp1 ⟨.tell (.un .lift a) E :: K, F, n⟩ ⟨.tell a E :: .mkNum :: K, F, n⟩
  | run {a E K F n} : Stp1 ⟨.tell (.un .run a) E :: K, F, n⟩ ⟨.tell a E :: .goPiece :: K, F, n⟩
  | reckon {o i j K F n} : 0 ≤ i → i < 1000003 → Stp1 ⟨.reckon o :: K, .num j :: .num i :: F, n⟩ ⟨K, .num (o.op i j) :: F, n⟩
  | chooseA {c a b E i K F n} : i ≠ 0 → Stp1 ⟨.choose c a b E :: K, .num i :: F, n⟩ ⟨.tell a E :: K, F, n⟩
  | chooseB {c a b E K F n} : Stp1 ⟨.choose c a b E :: K, .num 0 :: F, n⟩ ⟨.tell b E :: K, F, n⟩
  | goB {x a b E v K F n} : v ≠ .bad → Stp1 ⟨.goB x a b E :: K, v :: F, n⟩ ⟨.tell b (E.set x v) :: K, F, n⟩
  | turnN {m x a b k E K F n} : k ≤ 0 → Stp1 ⟨.turn m x a b k E :: K, F, n⟩ ⟨K, F, n⟩
  | turnS {m x a b k E v K F n} : 0 < k → v ≠ .bad → Stp1 ⟨.turn m x a b k E :: K, v :: F, n⟩ ⟨.tell b (E.set x v) :: .turn m x a b (k - 1) E :: K, F, n⟩
  | goF {f x k a b E v K F n} : v ≠ .bad → Stp1 ⟨.goF f x k a b E :: K, v :: F, n⟩ ⟨.tell a (E.set x v) :: K, F, n⟩
  | fits {t K F n} : t.size ≤ 2000 → t.deep ≤ 30 → Stp1 ⟨.tooGreat :: K, .piece t :: F, n⟩ ⟨K, .piece t :: F, n⟩
  | mkNum {i K F n} : Stp1 ⟨.mkNum :: K, .num i :: F, n⟩ ⟨K, .piece (.num i) :: F, n⟩
  | goPiece {t K F n} : t.deep ≤ 60 → Stp1 ⟨.goPiece :: K, .piece t :: F, n⟩ ⟨.tell t .nil :: K, F, n⟩
  | mnum {m E K F n} : Stp1 ⟨.make (.num m) E :: K, F, n⟩ ⟨K, .piece (.num m) :: F, n⟩
  | mname {x s E K F n} : E x = .nm s → Stp1 ⟨.make (.name x) E :: K, F, n⟩ ⟨K, .piece (.name s) :: F, n⟩
  | mbin {o a b E K F n} : Stp1 ⟨.make (.bin o a b) E :: K, F, n⟩ ⟨.make a E :: .make b E :: .put (.bin o a b) :: K, F, n⟩
  | mcond {c a b E K F n} : Stp1 ⟨.make (.cond c a b) E :: K, F, n⟩ ⟨.make c E :: .make a E :: .make b E :: .put (.cond c a b) :: K, F, n⟩
  | mletx {x a b E K F n} : Stp1 ⟨.make (.letx x a b) E :: K, F, n⟩ ⟨.make a E :: .make b (E.set x (.nm (vN (n + 1)))) :: .put (.letx (vN (n + 1)) a b) :: K, F, n + 1⟩
  | mturns {m x a b E K F n} : Stp1 ⟨.make (.turns m x a b) E :: K, F, n⟩ ⟨.make a E :: .make b (E.set x (.nm (vN (n + 1)))) :: .put (.turns m (vN (n + 1)) a b) :: K, F, n + 1⟩
  | mdeff {f x k a b E K F n} : Stp1 ⟨.make (.deff f x k a b) E :: K, F, n⟩ ⟨.make a (E.set x (.nm (vN (n + 2)))) :: .make b (E.set f (.nm (vN (n + 1)))) :: .put (.deff (vN (n + 1)) (vN (n + 2)) k a b) :: K, F, n + 2⟩
  | muse {f s a E K F n} : E f = .nm s → Stp1 ⟨.make (.use f a) E :: K, F, n⟩ ⟨.make a E :: .put (.use s a) :: K, F, n⟩
  | mhole {a E K F n} : Stp1 ⟨.make (.un .hole a) E :: K, F, n⟩ ⟨.tell a E :: K, F, n⟩
  | put {t : Tm} {ps : List Tm} {K F n} : ps.length = t.parts.length → ps ≠ [] → Stp1 ⟨.put t :: K, (ps.map EV.piece).reverse ++ F, n⟩ ⟨K, .piece (t.re ps) :: F, n⟩
inductive Boom : Cfg → Prop
  | mk {t : Tm} {K F n} : (2000 < t.size ∨ 30 < t.deep) → t.size ≤ 1000000000 → Boom ⟨.tooGreat :: K, .piece t :: F, n⟩
/-- no hole is told, no quote, lift or run is made -/
def Stp.Good : Stp → Prop
  | .tell t _ => t.w ≠ .hole
  | .make t _ => t.w ≠ .quote ∧ t.w ≠ .lift ∧ t.w ≠ .run
  | _ => True
def NB : Nat := 2 ^ 1900
structure Cfg.Fit (c : Cfg) : Prop where
  good : ∀ s ∈ c.K, s.Good
  k : c.K.length ≤ 100000
  f : c.F.length ≤ 100000
  n : c.n < NB
/-- after m steps it ends: with what is found, or refused -/
inductive Ends : Nat → Cfg → Option (List EV × Nat) → Prop
  | done {F n} : Ends 0 ⟨[], F, n⟩ (some (F, n))
  | boom {c} : c.Fit → Boom c → Ends 1 c none
  | step {m c c' r} : c.Fit → Stp1 c c' → Ends m c' r → Ends (m + 1) c r
def EndsE (c : Cfg) (r : Option (List EV × Nat)) : Prop := ∃ m, Ends m c r
theorem EndsE.step {c c' : Cfg} {r : Option (List EV × Nat)} (h : Stp1 c c') (f : c.Fit) : EndsE c' r → EndsE c r := fun ⟨_, q⟩ => ⟨_, .step f h q⟩
theorem Ends.good {m : Nat} {c : Cfg} {r : Option (List EV × Nat)} (h : Ends m c r) : ∀ s ∈ c.K, s.Good := by
  cases h with
  | done => exact fun _ h => nomatch h
  | boom f _ => exact f.good
  | step f _ _ => exact f.good
theorem Tm.re_head {t : Tm} {ps : List Tm} (h : ps.length = t.parts.length) : (t.re ps).head = t.head := by
  cases t with
  | num n => rfl
  | name n => rfl
  | bin o a b => match ps, h with | [_, _], _ => rfl
  | cond c a b => match ps, h with | [_, _, _], _ => rfl
  | letx n a b => match ps, h with | [_, _], _ => rfl
  | turns k n a b => match ps, h with | [_, _], _ => rfl
  | deff f n k a b => match ps, h with | [_, _], _ => rfl
  | use f a => match ps, h with | [_], _ => rfl
  | un o a => match ps, h with | [_], _ => rfl
theorem Tm.re_parts {t : Tm} {ps : List Tm} (h : ps.length = t.parts.length) : (t.re ps).parts = ps := by
  cases t with
  | num n => match ps, h with | [], _ => rfl
  | name n => match ps, h with | [], _ => rfl
  | bin o a b => match ps, h with | [_, _], _ => rfl
  | cond c a b => match ps, h with | [_, _, _], _ => rfl
  | letx n a b => match ps, h with | [_, _], _ => rfl
  | turns k n a b => match ps, h with | [_, _], _ => rfl
  | deff f n k a b => match ps, h with | [_, _], _ => rfl
  | use f a => match ps, h with | [_], _ => rfl
  | un o a => match ps, h with | [_], _ => rfl

/-! ### the value of a plain term -/
inductive PD where
  | val (i : Int)
  | fn (φ : Int → Int)
abbrev PDs := Str → PD
def PDs.set (ρ : PDs) (x : Str) (v : PD) : PDs := fun y => if y = x then v else ρ y
def PD.int : PD → Int
  | .val i => i
  | .fn _ => 0
def PD.app : PD → Int → Int
  | .val _ => fun _ => 0
  | .fn φ => φ
def iter (g : Int → Int) : Nat → Int → Int
  | 0, i => i
  | k + 1, i => iter g k (g i)
/-- by names and their values; quotes, holes, lifts and runs are passed over -/
def vl : Tm → PDs → Int
  | .num m, _ => m % 1000003
  | .name x, ρ => (ρ x).int
  | .bin o a b, ρ => o.op (vl a ρ) (vl b ρ)
  | .cond c a b, ρ => if vl c ρ = 0 then vl b ρ else vl a ρ
  | .letx x a b, ρ => vl b (ρ.set x (.val (vl a ρ)))
  | .turns m x a b, ρ => iter (fun i => vl b (ρ.set x (.val i))) m.toNat (vl a ρ)
  | .deff f x _ a b, ρ => vl b (ρ.set f (.fn fun i => vl a (ρ.set x (.val i))))
  | .use f a, ρ => (ρ f).app (vl a ρ)
  | .un _ a, ρ => vl a ρ
/-- names in force: values (false) and functions (true) -/
abbrev Sco := Str → Option Bool
def Sco.set (Γ : Sco) (x : Str) (b : Bool) : Sco := fun y => if y = x then some b else Γ y
def Sco.nil : Sco := fun _ => none
def Scp (Γ : Sco) : Tm → Prop
  | .num _ => True
  | .name x => Γ x = some false
  | .bin _ a b => Scp Γ a ∧ Scp Γ b
  | .cond c a b => Scp Γ c ∧ Scp Γ a ∧ Scp Γ b
  | .letx x a b => Scp Γ a ∧ Scp (Γ.set x false) b
  | .turns _ x a b => Scp Γ a ∧ Scp (Γ.set x false) b
  | .deff f x _ a b => Scp (Γ.set x false) a ∧ Scp (Γ.set f true) b
  | .use f a => Γ f = some true ∧ Scp Γ a
  | .un _ a => Scp Γ a
def Plain : Tm → Prop
  | .num _ => True
  | .name _ => True
  | .bin _ a b => Plain a ∧ Plain b
  | .cond c a b => Plain c ∧ Plain a ∧ Plain b
  | .letx _ a b => Plain a ∧ Plain b
  | .turns _ _ a b => Plain a ∧ Plain b
  | .deff _ _ _ a b => Plain a ∧ Plain b
  | .use _ a => Plain a
  | .un _ _ => False
def In (i : Int) : Prop := 0 ≤ i ∧ i < 1000003
theorem In.mod (i : Int) : In (i % 1000003) := ⟨Int.emod_nonneg _ (by decide), Int.emod_lt_of_pos _ (by decide)⟩
theorem In.op (o : Bin) (i j : Int) : In (o.op i j) := by
  cases o with
  | sum => exact .mod _
  | product => exact .mod _
  | less => show In (if i < j then 1 else 0); split <;> exact ⟨by decide, by decide⟩
theorem In.iter {g : Int → Int} (h : ∀ i, In i → In (g i)) : ∀ (k : Nat) {i : Int}, In i → In (iter g k i)
  | 0, _, q => q
  | k + 1, _, q => In.iter h k (h _ q)
/-- how high the two lists may grow; what a function's a asks is told by its name -/
abbrev Hts := Str → Nat
def Hts.set (δ : Hts) (x : Str) (v : Nat) : Hts := fun y => if y = x then v else δ y
def hgt : Tm → Hts → Nat
  | .num _, _ => 1
  | .name _, _ => 1
  | .bin _ a b, δ => 1 + max (hgt a δ) (hgt b δ)
  | .cond c a b, δ => 1 + max (hgt c δ) (max (hgt a δ) (hgt b δ))
  | .letx x a b, δ => 1 + max (hgt a δ) (hgt b (δ.set x 0))
  | .turns _ x a b, δ => 1 + max (hgt a δ) (hgt b (δ.set x 0))
  | .deff f x _ a b, δ => 1 + max (hgt a (δ.set x 0)) (hgt b (δ.set f (hgt a (δ.set x 0))))
  | .use f a, δ => 1 + max (hgt a δ) (δ f)
  | .un .run a, δ => 1 + max (hgt a δ) 2000
  | .un _ a, δ => 1 + hgt a δ
theorem hgt_pos (t : Tm) (δ : Hts) : 1 ≤ hgt t δ := by
  cases t with
  | un o a => cases o <;> simp only [hgt] <;> omega
  | _ => simp only [hgt] <;> omega
structure Hi (K : List Stp) (F : List EV) (n h : Nat) : Prop where
  good : ∀ s ∈ K, s.Good
  k : K.length + 3 * h ≤ 100000
  f : F.length + 3 * h ≤ 100000
  n : n < NB
theorem Hi.fit {L : List Stp} {G : List EV} {K : List Stp} {F : List EV} {n h : Nat} (q : Hi K F n h) (hL : ∀ s ∈ L, s.Good) (h1 : L.length ≤ 3 * h) (h2 : G.length ≤ 3 * h) : Cfg.Fit ⟨L ++ K, G ++ F, n⟩ :=
  ⟨fun s m => (List.mem_append.mp m).elim (hL s) (q.good s), by show (L ++ K).length ≤ _; rw [List.length_append]; have := q.k; omega, by show (G ++ F).length ≤ _; rw [List.length_append]; have := q.f; omega, q.n⟩
theorem Hi.sub {L : List Stp} {G : List EV} {K : List Stp} {F : List EV} {n h h' : Nat} (q : Hi K F n h) (hL : ∀ s ∈ L, s.Good) (h1 : L.length + 3 * h' ≤ 3 * h) (h2 : G.length + 3 * h' ≤ 3 * h) : Hi (L ++ K) (G ++ F) n h' :=
  ⟨fun s m => (List.mem_append.mp m).elim (hL s) (q.good s), by rw [List.length_append]; have := q.k; omega, by rw [List.length_append]; have := q.f; omega, q.n⟩
theorem Hi.le {K : List Stp} {F : List EV} {n h h' : Nat} (q : Hi K F n h) (l : h' ≤ h) : Hi K F n h' := ⟨q.good, by have := q.k; omega, by have := q.f; omega, q.n⟩
theorem goods1 {s : Stp} (h : s.Good) : ∀ z ∈ [s], z.Good := fun z m => by rw [List.mem_singleton.mp m]; exact h
theorem goods2 {s u : Stp} (h : s.Good) (k : u.Good) : ∀ z ∈ [s, u], z.Good := fun z m => (List.mem_cons.mp m).elim (fun e => by rw [e]; exact h) (goods1 k z)
theorem goods3 {s u v : Stp} (h : s.Good) (k : u.Good) (l : v.Good) : ∀ z ∈ [s, u, v], z.Good := fun z m => (List.mem_cons.mp m).elim (fun e => by rw [e]; exact h) (goods2 k l z)
theorem Plain.good {t : Tm} (h : Plain t) (E : Evs) : (Stp.tell t E).Good := by
  show t.w ≠ .hole
  cases t with
  | un o a => exact h.elim
  | bin o a b => cases o <;> exact fun z => nomatch z
  | _ => exact fun z => nomatch z
structure FnR (φ : Int → Int) (x : Str) (a : Tm) (E : Evs) (h : Nat) : Prop where
  val : ∀ i, In i → In (φ i)
  run : ∀ (i : Int) (K : List Stp) (F : List EV) (n : Nat) (r : Option (List EV × Nat)), In i → Hi K F n h → EndsE ⟨K, .num (φ i) :: F, n⟩ r → EndsE ⟨.tell a (E.set x (.num i)) :: K, F, n⟩ r
/-- what names mean: to the machine and as values -/
structure Rel0 (Γ : Sco) (E : Evs) (ρ : PDs) (δ : Hts) : Prop where
  v : ∀ x, Γ x = some false → ∃ i, E x = .num i ∧ ρ x = .val i ∧ In i
  f : ∀ x, Γ x = some true → ∃ f y k a b E' φ, E x = .fn f y k a b E' ∧ ρ x = .fn φ ∧ FnR φ y a E' (δ x)
theorem Rel0.nil {E : Evs} {ρ : PDs} {δ : Hts} : Rel0 .nil E ρ δ := ⟨fun _ h => (by cases h), fun _ h => (by cases h)⟩
theorem Rel0.setv {Γ : Sco} {E : Evs} {ρ : PDs} {δ : Hts} (h : Rel0 Γ E ρ δ) (x : Str) {i : Int} (q : In i) (c : Nat) : Rel0 (Γ.set x false) (E.set x (.num i)) (ρ.set x (.val i)) (δ.set x c) := by
  refine ⟨fun y hy => ?_, fun y hy => ?_⟩
  · by_cases e : y = x
    · exact ⟨i, if_pos e, if_pos e, q⟩
    · unfold Sco.set at hy
      rw [if_neg e] at hy
      obtain ⟨j, a, b, c⟩ := h.v y hy
      exact ⟨j, (if_neg e).trans a, (if_neg e).trans b, c⟩
  · by_cases e : y = x
    · unfold Sco.set at hy
      rw [if_pos e] at hy
      cases hy
    · unfold Sco.set at hy
      rw [if_neg e] at hy
      obtain ⟨f, z, k, a, b, E', φ, p1, p2, p3⟩ := h.f y hy
      exact ⟨f, z, k, a, b, E', φ, (if_neg e).trans p1, (if_neg e).trans p2, by show FnR φ z a E' (if y = x then c else δ y); rw [if_neg e]; exact p3⟩
theorem Rel0.setf {Γ : Sco} {E : Evs} {ρ : PDs} {δ : Hts} (h : Rel0 Γ E ρ δ) (g : Str) {f x : Str} {k : Bool} {a b : Tm} {E' : Evs} {φ : Int → Int} {c : Nat} (q : FnR φ x a E' c) : Rel0 (Γ.set g true) (E.set g (.fn f x k a b E')) (ρ.set g (.fn φ)) (δ.set g c) := by
  refine ⟨fun y hy => ?_, fun y hy => ?_⟩
  · by_cases e : y = g
    · unfold Sco.set at hy
      rw [if_pos e] at hy
      cases hy
    · unfold Sco.set at hy
      rw [if_neg e] at hy
      obtain ⟨j, a, b, c⟩ := h.v y hy
      exact ⟨j, (if_neg e).trans a, (if_neg e).trans b, c⟩
  · by_cases e : y = g
    · exact ⟨f, x, k, a, b, E', φ, if_pos e, if_pos e, by show FnR φ x a E' (if y = g then c else δ y); rw [if_pos e]; exact q⟩
    · unfold Sco.set at hy
      rw [if_neg e] at hy
      obtain ⟨f', z, k', a', b', E2, φ', p1, p2, p3⟩ := h.f y hy
      exact ⟨f', z, k', a', b', E2, φ', (if_neg e).trans p1, (if_neg e).trans p2, by show FnR φ' z a' E2 (if y = g then c else δ y); rw [if_neg e]; exact p3⟩
theorem nb_num (i : Int) : EV.num i ≠ .bad := fun h => nomatch h
theorem turn_run {m : Int} {x : Str} {a b : Tm} {E : Evs} {g : Int → Int} {h : Nat} {K : List Stp} {F : List EV} {n : Nat} {r : Option (List EV × Nat)} (hg : ∀ i, In i → In (g i)) (hi : Hi K F n (1 + h))
    (step : ∀ (i : Int) (K' : List Stp) (F' : List EV), In i → Hi K' F' n h → EndsE ⟨K', .num (g i) :: F', n⟩ r → EndsE ⟨.tell b (E.set x (.num i)) :: K', F', n⟩ r) :
    ∀ (k : Nat) (i : Int), In i → EndsE ⟨K, .num (iter g k i) :: F, n⟩ r → EndsE ⟨.turn m x a b (k : Int) E :: K, .num i :: F, n⟩ r
  | 0, i, _, q => .step (.turnN (by omega)) (hi.fit (L := [_]) (G := [_]) (goods1 trivial) (by show 1 ≤ _; omega) (by show 1 ≤ _; omega)) q
  | k + 1, i, hin, q => by
    refine .step (.turnS (by omega) (nb_num i)) (hi.fit (L := [_]) (G := [_]) (goods1 trivial) (by show 1 ≤ _; omega) (by show 1 ≤ _; omega)) ?_
    refine step i _ F hin (hi.sub (L := [_]) (G := []) (goods1 trivial) (by show 1 + _ ≤ _; omega) (by show 0 + _ ≤ _; omega)) ?_
    rw [show ((k + 1 : Nat) : Int) - 1 = (k : Int) by omega]
    exact turn_run hg hi step k (g i) (hg i hin) q
/-- one step ahead of a plain term's -/
theorem adq0 : ∀ (t : Tm) {Γ : Sco} {E : Evs} {ρ : PDs} {δ : Hts}, Plain t → Scp Γ t → Rel0 Γ E ρ δ → In (vl t ρ) ∧
    ∀ (K : List Stp) (F : List EV) (n : Nat) (r : Option (List EV × Nat)), Hi K F n (hgt t δ) → EndsE ⟨K, .num (vl t ρ) :: F, n⟩ r → EndsE ⟨.tell t E :: K, F, n⟩ r := by
  have first : ∀ {t : Tm} {E : Evs} {K : List Stp} {F : List EV} {n : Nat} {δ : Hts}, Plain t → Hi K F n (hgt t δ) → Cfg.Fit ⟨.tell t E :: K, F, n⟩ := fun {t E K F n δ} hp hi =>
    hi.fit (L := [_]) (G := []) (goods1 (hp.good E)) (by have := hgt_pos t δ; show 1 ≤ _; omega) (Nat.zero_le _)
  intro t
  induction t with
  | num m => exact fun hp _ _ => ⟨.mod _, fun K F n r hi q => .step .num (first hp hi) q⟩
  | name x =>
    intro Γ E ρ δ hp hs hr
    obtain ⟨i, e1, e2, hin⟩ := hr.v x hs
    have e3 : vl (.name x) ρ = i := by show (ρ x).int = i; rw [e2]; rfl
    rw [e3]
    refine ⟨hin, fun K F n r hi q => .step (.name (by rw [e1]; exact nb_num i)) (first hp hi) ?_⟩
    rw [e1]
    exact q
  | bin o a b iha ihb =>
    intro Γ E ρ δ hp hs hr
    refine ⟨.op _ _ _, fun K F n r hi q => .step .bin (first hp hi) ?_⟩
    simp only [hgt] at hi
    refine (iha hp.1 hs.1 hr).2 _ F n r (hi.sub (L := [_, _]) (G := []) (goods2 (hp.2.good E) trivial) (by show 2 + _ ≤ _; omega) (by show 0 + _ ≤ _; omega)) ?_
    refine (ihb hp.2 hs.2 hr).2 _ _ n r (hi.sub (L := [_]) (G := [_]) (goods1 trivial) (by show 1 + _ ≤ _; omega) (by show 1 + _ ≤ _; omega)) ?_
    have h0 := (iha hp.1 hs.1 hr).1
    exact .step (.reckon h0.1 h0.2) (hi.fit (L := [_]) (G := [_, _]) (goods1 trivial) (by show 1 ≤ _; omega) (by show 2 ≤ _; omega)) q
  | cond c a b ihc iha ihb =>
    intro Γ E ρ δ hp hs hr
    refine ⟨?_, fun K F n r hi q => .step .cond (first hp hi) ?_⟩
    · show In (if vl c ρ = 0 then vl b ρ else vl a ρ)
      split
      · exact (ihb hp.2.2 hs.2.2 hr).1
      · exact (iha hp.2.1 hs.2.1 hr).1
    simp only [hgt] at hi
    refine (ihc hp.1 hs.1 hr).2 _ F n r (hi.sub (L := [_]) (G := []) (goods1 trivial) (by show 1 + _ ≤ _; omega) (by show 0 + _ ≤ _; omega)) ?_
    have q' : EndsE ⟨K, .num (if vl c ρ = 0 then vl b ρ else vl a ρ) :: F, n⟩ r := q
    have f : Cfg.Fit ⟨.choose c a b E :: K, .num (vl c ρ) :: F, n⟩ := hi.fit (L := [_]) (G := [_]) (goods1 trivial) (by show 1 ≤ _; omega) (by show 1 ≤ _; omega)
    by_cases z : vl c ρ = 0
    · rw [if_pos z] at q'
      rw [z] at f ⊢
      exact .step .chooseB f ((ihb hp.2.2 hs.2.2 hr).2 K F n r (hi.le (by omega)) q')
    · rw [if_neg z] at q'
      exact .step (.chooseA z) f ((iha hp.2.1 hs.2.1 hr).2 K F n r (hi.le (by omega)) q')
  | letx x a b iha ihb =>
    intro Γ E ρ δ hp hs hr
    have ha := iha hp.1 hs.1 hr
    have hb := ihb hp.2 hs.2 (hr.setv x ha.1 0)
    refine ⟨hb.1, fun K F n r hi q => .step .letx (first hp hi) ?_⟩
    simp only [hgt] at hi
    refine ha.2 _ F n r (hi.sub (L := [_]) (G := []) (goods1 trivial) (by show 1 + _ ≤ _; omega) (by show 0 + _ ≤ _; omega)) ?_
    refine .step (.goB (nb_num _)) (hi.fit (L := [_]) (G := [_]) (goods1 trivial) (by show 1 ≤ _; omega) (by show 1 ≤ _; omega)) ?_
    exact hb.2 K F n r (hi.le (by omega)) q
  | turns m x a b iha ihb =>
    intro Γ E ρ δ hp hs hr
    have ha := iha hp.1 hs.1 hr
    have hb : ∀ i, In i → _ := fun i hi => ihb hp.2 hs.2 (hr.setv x hi 0)
    refine ⟨.iter (fun i hi => (hb i hi).1) _ ha.1, fun K F n r hi q => .step .turns (first hp hi) ?_⟩
    simp only [hgt] at hi
    refine ha.2 _ F n r (hi.sub (L := [_]) (G := []) (goods1 trivial) (by show 1 + _ ≤ _; omega) (by show 0 + _ ≤ _; omega)) ?_
    by_cases z : m ≤ 0
    · have e : m.toNat = 0 := by omega
      have q' : EndsE ⟨K, .num (iter (fun i => vl b (ρ.set x (.val i))) m.toNat (vl a ρ)) :: F, n⟩ r := q
      rw [e] at q'
      exact .step (.turnN z) (hi.fit (L := [_]) (G := [_]) (goods1 trivial) (by show 1 ≤ _; omega) (by show 1 ≤ _; omega)) q'
    · have t := turn_run (m := m) (x := x) (a := a) (b := b) (E := E) (h := hgt b (δ.set x 0)) (K := K) (F := F) (n := n) (r := r) (fun i hi => (hb i hi).1) (hi.le (by omega)) (fun i K' F' hin hi' q' => (hb i hin).2 K' F' n r hi' q') m.toNat (vl a ρ) ha.1 q
      rw [show ((m.toNat : Nat) : Int) = m by omega] at t
      exact t
  | deff f x k a b iha ihb =>
    intro Γ E ρ δ hp hs hr
    have ha : ∀ i, In i → _ := fun i hi => iha hp.1 hs.1 (hr.setv x hi 0)
    have hb := ihb hp.2 hs.2 (hr.setf (f := f) (k := k) (b := b) (φ := fun i => vl a (ρ.set x (.val i))) f (c := hgt a (δ.set x 0)) ⟨fun i hi => (ha i hi).1, fun i K F n r hin hi q => (ha i hin).2 K F n r hi q⟩)
    refine ⟨hb.1, fun K F n r hi q => .step .deff (first hp hi) ?_⟩
    simp only [hgt] at hi
    exact hb.2 K F n r (hi.le (by omega)) q
  | use f a iha =>
    intro Γ E ρ δ hp hs hr
    obtain ⟨f', y, k, a', b', E', φ, e1, e2, hφ⟩ := hr.f f hs.1
    have ha := iha hp hs.2 hr
    have e3 : vl (.use f a) ρ = φ (vl a ρ) := by show (ρ f).app _ = _; rw [e2]; rfl
    rw [e3]
    refine ⟨hφ.val _ ha.1, fun K F n r hi q => .step (.use e1) (first hp hi) ?_⟩
    simp only [hgt] at hi
    refine ha.2 _ F n r (hi.sub (L := [_]) (G := []) (goods1 trivial) (by show 1 + _ ≤ _; omega) (by show 0 + _ ≤ _; omega)) ?_
    refine .step (.goF (nb_num _)) (hi.fit (L := [_]) (G := [_]) (goods1 trivial) (by show 1 ≤ _; omega) (by show 1 ≤ _; omega)) ?_
    exact hφ.run _ K F n r ha.1 (hi.le (by omega)) q
  | un o a _ => intro Γ E ρ δ hp; exact hp.elim

/-! ### how the heap bears the machine -/
theorem pe_gint {X : Cx} {x : Str} {n : Int} {pos : Pos} (h : ∃ t, X.mg x = some (.int n t)) (hg : Gl X x) (hd : (x == ("__debug__" : Str)) = false := by decide) : PE X (.Name x pos) (tC (.int n)) := by
  obtain ⟨t, e⟩ := h
  exact pe_glob hg e ⟨t, rfl⟩ hd
inductive Sf where
  | t (u : W) | m (u : W) | reckon | choose | goB | turn | goF | tooGreat | mkNum | goPiece | put
def Stp.code : Stp → Sf
  | .tell t _ => .t t.w
  | .make t _ => .m t.w
  | .reckon _ => .reckon
  | .choose _ _ _ _ => .choose
  | .goB _ _ _ _ => .goB
  | .turn _ _ _ _ _ _ => .turn
  | .goF _ _ _ _ _ _ => .goF
  | .tooGreat => .tooGreat
  | .mkNum => .mkNum
  | .goPiece => .goPiece
  | .put _ => .put
def Each {α β : Type} (R : α → β → Prop) : List α → List β → Prop
  | [], [] => True
  | a :: as, b :: bs => R a b ∧ Each R as bs
  | _, _ => False
section
variable {α β : Type} {R S : α → β → Prop}
theorem Each.imp (f : ∀ a b, R a b → S a b) : ∀ {as : List α} {bs : List β}, Each R as bs → Each S as bs
  | [], [], _ => True.intro
  | _ :: _, _ :: _, ⟨h, t⟩ => ⟨f _ _ h, Each.imp f t⟩
  | [], _ :: _, h => h.elim
  | _ :: _, [], h => h.elim
theorem Each.len : ∀ {as : List α} {bs : List β}, Each R as bs → bs.length = as.length
  | [], [], _ => rfl
  | _ :: _, _ :: _, ⟨_, t⟩ => congrArg (· + 1) (Each.len t)
  | [], _ :: _, h => h.elim
  | _ :: _, [], h => h.elim
theorem Each.consL {a : α} {as : List α} : ∀ {bs : List β}, Each R (a :: as) bs → ∃ b bs', bs = b :: bs' ∧ R a b ∧ Each R as bs'
  | b :: bs, ⟨h, t⟩ => ⟨b, bs, rfl, h, t⟩
  | [], h => h.elim
theorem Each.nilL : ∀ {bs : List β}, Each R [] bs → bs = []
  | [], _ => rfl
  | _ :: _, h => h.elim
theorem Each.app : ∀ {as as' : List α} {bs bs' : List β}, Each R as bs → Each R as' bs' → Each R (as ++ as') (bs ++ bs')
  | [], _, [], _, _, q => q
  | _ :: _, _, _ :: _, _, ⟨h, t⟩, q => ⟨h, Each.app t q⟩
  | [], _, _ :: _, _, h, _ => h.elim
  | _ :: _, _, [], _, h, _ => h.elim
theorem Each.split : ∀ {as as' : List α} {bs : List β}, Each R (as ++ as') bs → ∃ b1 b2, bs = b1 ++ b2 ∧ Each R as b1 ∧ Each R as' b2
  | [], _, bs, h => ⟨[], bs, rfl, True.intro, h⟩
  | a :: as, as', b :: bs, ⟨h, t⟩ => by
    obtain ⟨b1, b2, e, h1, h2⟩ := Each.split (as := as) t
    exact ⟨b :: b1, b2, by rw [e]; rfl, ⟨h, h1⟩, h2⟩
  | a :: as, _, [], h => h.elim
theorem Each.rev : ∀ {as : List α} {bs : List β}, Each R as bs → Each R as.reverse bs.reverse
  | [], [], _ => True.intro
  | a :: as, b :: bs, ⟨h, t⟩ => by
    rw [List.reverse_cons, List.reverse_cons]
    exact Each.app (Each.rev t) ⟨h, True.intro⟩
  | [], _ :: _, h => h.elim
  | _ :: _, [], h => h.elim
theorem Each.map {γ : Type} (g : γ → α) : ∀ {cs : List γ} {bs : List β}, Each R (cs.map g) bs → Each (fun c b => R (g c) b) cs bs
  | [], [], _ => True.intro
  | _ :: _, _ :: _, ⟨h, t⟩ => ⟨h, Each.map g t⟩
  | [], _ :: _, h => h.elim
  | _ :: _, [], h => h.elim
end
theorem fd_ts : ¬ (("term" : Str) = "size") := by decide +kernel
theorem fd_td : ¬ (("term" : Str) = "depth") := by decide +kernel
theorem fd_sd : ¬ (("size" : Str) = "depth") := by decide +kernel
theorem fd_sf : ¬ (("steps" : Str) = "found") := by decide +kernel
theorem fd_sn : ¬ (("steps" : Str) = "named") := by decide +kernel
theorem fd_fn : ¬ (("found" : Str) = "named") := by decide +kernel
def pcF (tv : V) (t : Tm) : List (Str × V) := putF "depth" (.int (t.deep : Int)) (putF "size" (.int (t.size : Int)) (putF "term" tv []))
theorem pcF_term (tv : V) (t : Tm) : (pcF tv t).lookup ("term" : Str) = some tv := by
  unfold pcF
  rw [lookup_putF, if_neg fd_td, lookup_putF, if_neg fd_ts, lookup_putF, if_pos rfl]
theorem pcF_size (tv : V) (t : Tm) : (pcF tv t).lookup ("size" : Str) = some (.int (t.size : Int)) := by
  unfold pcF
  rw [lookup_putF, if_neg fd_sd, lookup_putF, if_pos rfl]
theorem pcF_depth (tv : V) (t : Tm) : (pcF tv t).lookup ("depth" : Str) = some (.int (t.deep : Int)) := by
  unfold pcF
  rw [lookup_putF, if_pos rfl]
def tlF (S F : Addr) (n : Nat) : List (Str × V) := putF "named" (.int (n : Int)) (putF "found" (.ref F) (putF "steps" (.ref S) []))
theorem tlF_steps (S F : Addr) (n : Nat) : (tlF S F n).lookup ("steps" : Str) = some (.ref S) := by
  unfold tlF
  rw [lookup_putF, if_neg fd_sn, lookup_putF, if_neg fd_sf, lookup_putF, if_pos rfl]
theorem tlF_found (S F : Addr) (n : Nat) : (tlF S F n).lookup ("found" : Str) = some (.ref F) := by
  unfold tlF
  rw [lookup_putF, if_neg fd_fn, lookup_putF, if_pos rfl]
theorem tlF_named (S F : Addr) (n : Nat) : (tlF S F n).lookup ("named" : Str) = some (.int (n : Int)) := by
  unfold tlF
  rw [lookup_putF, if_pos rfl]
theorem tlF_no (S F : Addr) (n : Nat) {m : Str} (h1 : ¬ m = "named") (h2 : ¬ m = "found") (h3 : ¬ m = "steps") : (tlF S F n).lookup m = none := by
  unfold tlF
  rw [lookup_putF, if_neg h1, lookup_putF, if_neg h2, lookup_putF, if_neg h3]
  rfl
inductive EVAt (CP : Addr) (H : Hp) : EV → V → Prop
  | num (i : Int) : EVAt CP H (.num i) (.int i)
  | nm (s : Str) : EVAt CP H (.nm s) (.str s)
  | piece {t : Tm} {q dx : Addr} {tv : V} : H q = some (.ins CP dx (pcF tv t)) → TmAt H t tv → EVAt CP H (.piece t) (.ref q)
  | fn {f x : Str} {k : Bool} {a b : Tm} {E : Str → EV} {q e : Addr} {dv : V} {c : Nat} {kvs : List (Key × V)} (vf : Str → V) : H q = some (.tup [dv, .ref e]) → TmAt H (.deff f x k a b) dv → H e = some (.dK kvs) → kvs.length ≤ c → c + (Tm.deff f x k a b).deep ≤ 1000 →
      (∀ y, E y ≠ .bad → valV kvs (.inr y) = some (vf y)) → (∀ y, E y ≠ .bad → EVAt CP H (E y) (vf y)) → EVAt CP H (.fn f x k a b E) (.ref q)
/-- tuples, dicts and pieces stay -/
def Kp (CP : Addr) (H H' : Hp) : Prop := ∀ b o, H b = some o → ((∃ xs, o = .tup xs) ∨ (∃ kvs, o = .dK kvs) ∨ ∃ dx fs, o = .ins CP dx fs) → H' b = some o
theorem Kp.tups {CP : Addr} {H H' : Hp} (h : Kp CP H H') : Tups H H' := fun b xs q => h b _ q (.inl ⟨_, rfl⟩)
theorem Kp.of_same {CP : Addr} {H H' : Hp} (h : Same H H') : Kp CP H H' := fun b o q _ => h b o q
theorem Kp.trans {CP : Addr} {H H1 H2 : Hp} (a : Kp CP H H1) (b : Kp CP H1 H2) : Kp CP H H2 := fun c o h k => b c o (a c o h k) k
theorem EVAt.mono {CP : Addr} {H H' : Hp} (e : Kp CP H H') {v : EV} {u : V} (h : EVAt CP H v u) : EVAt CP H' v u := by
  induction h with
  | num i => exact .num i
  | nm s => exact .nm s
  | piece a b => exact .piece (e _ _ a (.inr (.inr ⟨_, _, rfl⟩))) (b.mono e.tups)
  | fn vf a b c d f g _ ih => exact .fn vf (e.tups _ _ a) (b.mono e.tups) (e _ _ c (.inr (.inl ⟨_, rfl⟩))) d f g ih
def EnvAt (CP : Addr) (H : Hp) (E : Evs) (e : Addr) (c : Nat) : Prop := ∃ kvs, H e = some (.dK kvs) ∧ kvs.length ≤ c ∧ ∀ y, E y ≠ .bad → ∃ v, valV kvs (.inr y) = some v ∧ EVAt CP H (E y) v
theorem EnvAt.mono {CP : Addr} {H H' : Hp} (k : Kp CP H H') {E : Evs} {e : Addr} {c : Nat} : EnvAt CP H E e c → EnvAt CP H' E e c := fun ⟨kvs, a, b, d⟩ =>
  ⟨kvs, k _ _ a (.inr (.inl ⟨_, rfl⟩)), b, fun y hy => let ⟨v, p, q⟩ := d y hy; ⟨v, p, q.mono k⟩⟩
theorem EnvAt.fn {CP : Addr} {H : Hp} {f x : Str} {k : Bool} {a b : Tm} {E : Evs} {q e : Addr} {dv : V} {c : Nat} (h1 : H q = some (.tup [dv, .ref e])) (h2 : TmAt H (.deff f x k a b) dv) (h3 : EnvAt CP H E e c) (h4 : c + (Tm.deff f x k a b).deep ≤ 1000) : EVAt CP H (.fn f x k a b E) (.ref q) := by
  classical
  obtain ⟨kvs, p1, p2, p3⟩ := h3
  refine .fn (fun y => if hy : E y ≠ .bad then Classical.choose (p3 y hy) else .non) h1 h2 p1 p2 h4 (fun y hy => ?_) fun y hy => ?_
  · rw [dif_pos hy]
    exact (Classical.choose_spec (p3 y hy)).1
  · rw [dif_pos hy]
    exact (Classical.choose_spec (p3 y hy)).2
theorem EVAt.unfn {CP : Addr} {H : Hp} {f x : Str} {k : Bool} {a b : Tm} {E : Evs} {v : V} (h : EVAt CP H (.fn f x k a b E) v) : ∃ q dv e c, v = .ref q ∧ H q = some (.tup [dv, .ref e]) ∧ TmAt H (.deff f x k a b) dv ∧ EnvAt CP H E e c ∧ c + (Tm.deff f x k a b).deep ≤ 1000 := by
  cases h with
  | fn vf h1 h2 h3 h4 h5 h6 h7 => exact ⟨_, _, _, _, rfl, h1, h2, ⟨_, h3, h4, fun y hy => ⟨_, h6 y hy, h7 y hy⟩⟩, h5⟩
/-- a name more -/
theorem EnvAt.set {CP : Addr} {H H' : Hp} {E : Evs} {e p : Addr} {c : Nat} {x : Str} {v : EV} {z : V} {kvs : List (Key × V)} (k : Kp CP H H') (h1 : H e = some (.dK kvs)) (h : EnvAt CP H E e c) (hp : H' p = some (.dK (putK kvs (.inr x) z))) (hv : EVAt CP H' v z) : EnvAt CP H' (E.set x v) p (c + 1) := by
  obtain ⟨kvs', a1, a2, a3⟩ := h
  rw [h1] at a1
  cases a1
  refine ⟨_, hp, by have := length_putK kvs (.inr x) z; omega, fun y hy => ?_⟩
  unfold Evs.set at hy ⊢
  rw [valV_put]
  by_cases c1 : y = x
  · rw [if_pos c1, if_pos (by rw [c1])]
    exact ⟨z, rfl, hv⟩
  · rw [if_neg c1] at hy ⊢
    rw [if_neg (fun q => c1 (Sum.inr.inj q))]
    obtain ⟨u, b1, b2⟩ := a3 y hy
    exact ⟨u, b1, b2.mono k⟩
theorem EnvAt.nil {CP : Addr} {H : Hp} {e : Addr} (h : H e = some (.dK [])) : EnvAt CP H .nil e 0 := ⟨[], h, Nat.le_refl _, fun _ hy => absurd rfl hy⟩
/-- what a step is about -/
def Args (CP : Addr) (H : Hp) : Stp → V → V → Prop
  | .tell t E, a, nn => ∃ e c, TmAt H t a ∧ nn = .ref e ∧ EnvAt CP H E e c ∧ c + t.deep ≤ 1000
  | .make t E, a, nn => ∃ e c, TmAt H t a ∧ nn = .ref e ∧ EnvAt CP H E e c ∧ c + t.deep ≤ 1000
  | .reckon o, a, _ => a = .str o.word
  | .choose c a b E, v, nn => ∃ e m, TmAt H (.cond c a b) v ∧ nn = .ref e ∧ EnvAt CP H E e m ∧ m + (Tm.cond c a b).deep ≤ 1000
  | .goB x a b E, v, nn => ∃ e m, TmAt H (.letx x a b) v ∧ nn = .ref e ∧ EnvAt CP H E e m ∧ m + (Tm.letx x a b).deep ≤ 1000
  | .turn k x a b j E, v, nn => ∃ p tv e m, v = .ref p ∧ H p = some (.tup [tv, .int j]) ∧ TmAt H (.turns k x a b) tv ∧ nn = .ref e ∧ EnvAt CP H E e m ∧ m + (Tm.turns k x a b).deep ≤ 1000
  | .goF f x k a b E, v, nn => ∃ e m, TmAt H (.deff f x k a b) v ∧ nn = .ref e ∧ EnvAt CP H E e m ∧ m + (Tm.deff f x k a b).deep ≤ 1000
  | .tooGreat, _, _ => True
  | .mkNum, _, _ => True
  | .goPiece, _, _ => True
  | .put t, h, m => ∃ p, h = .ref p ∧ H p = some (.tup t.head) ∧ m = .int (t.parts.length : Int)
theorem Args.mono {CP : Addr} {H H' : Hp} (k : Kp CP H H') : ∀ {s : Stp} {a b : V}, Args CP H s a b → Args CP H' s a b
  | .tell _ _, _, _, ⟨e, c, h1, h2, h3, h4⟩ => ⟨e, c, h1.mono k.tups, h2, h3.mono k, h4⟩
  | .make _ _, _, _, ⟨e, c, h1, h2, h3, h4⟩ => ⟨e, c, h1.mono k.tups, h2, h3.mono k, h4⟩
  | .reckon _, _, _, h => h
  | .choose _ _ _ _, _, _, ⟨e, c, h1, h2, h3, h4⟩ => ⟨e, c, h1.mono k.tups, h2, h3.mono k, h4⟩
  | .goB _ _ _ _, _, _, ⟨e, c, h1, h2, h3, h4⟩ => ⟨e, c, h1.mono k.tups, h2, h3.mono k, h4⟩
  | .turn _ _ _ _ _ _, _, _, ⟨p, tv, e, c, h0, h1, h2, h3, h4, h5⟩ => ⟨p, tv, e, c, h0, k.tups _ _ h1, h2.mono k.tups, h3, h4.mono k, h5⟩
  | .goF _ _ _ _ _ _, _, _, ⟨e, c, h1, h2, h3, h4⟩ => ⟨e, c, h1.mono k.tups, h2, h3.mono k, h4⟩
  | .tooGreat, _, _, h => h
  | .mkNum, _, _, h => h
  | .goPiece, _, _, h => h
  | .put _, _, _, ⟨p, h1, h2, h3⟩ => ⟨p, h1, k.tups _ _ h2, h3⟩
def StpAt (CP : Addr) (FA : Sf → Addr) (H : Hp) (s : Stp) (v : V) : Prop := ∃ p a b, v = .ref p ∧ H p = some (.tup [.ref (FA s.code), a, b]) ∧ Args CP H s a b
theorem StpAt.mono {CP : Addr} {FA : Sf → Addr} {H H' : Hp} (k : Kp CP H H') {s : Stp} {v : V} : StpAt CP FA H s v → StpAt CP FA H' s v := fun ⟨p, a, b, h1, h2, h3⟩ => ⟨p, a, b, h1, k.tups _ _ h2, h3.mono k⟩
structure TelAt (CT CP : Addr) (FA : Sf → Addr) (H : Hp) (tl S Fl : Addr) (c : Cfg) : Prop where
  ins : ∃ dx, H tl = some (.ins CT dx (tlF S Fl c.n))
  steps : ∃ ss, H S = some (.lst ss.reverse) ∧ Each (StpAt CP FA H) c.K ss
  found : ∃ fs, H Fl = some (.lst fs.reverse) ∧ Each (EVAt CP H) c.F fs
  ne : S ≠ Fl
  cls : CT ≠ CP
/-- all but the telling's own three stays -/
def Frm (tl S Fl : Addr) (H H' : Hp) : Prop := ∀ b o, b ≠ tl → b ≠ S → b ≠ Fl → H b = some o → H' b = some o
section
variable {CT CP tl S Fl : Addr} {FA : Sf → Addr} {H H' H1 : Hp} {c : Cfg}
theorem Frm.refl : Frm tl S Fl H H := fun _ _ _ _ _ h => h
theorem Frm.trans (a : Frm tl S Fl H H1) (b : Frm tl S Fl H1 H') : Frm tl S Fl H H' := fun c o n1 n2 n3 h => b c o n1 n2 n3 (a c o n1 n2 n3 h)
theorem Frm.of_same (h : Same H H') : Frm tl S Fl H H' := fun b o _ _ _ q => h b o q
theorem Frm.putS (o : HO) : Frm tl S Fl H (upd H S o) := fun b _ _ n _ h => by rw [upd_ne n]; exact h
theorem Frm.putF (o : HO) : Frm tl S Fl H (upd H Fl o) := fun b _ _ _ n h => by rw [upd_ne n]; exact h
theorem Frm.putT (o : HO) : Frm tl S Fl H (upd H tl o) := fun b _ n _ _ h => by rw [upd_ne n]; exact h
theorem TelAt.kp (T : TelAt CT CP FA H tl S Fl c) (f : Frm tl S Fl H H') : Kp CP H H' := by
  obtain ⟨⟨dx, h1⟩, ⟨ss, h2, _⟩, ⟨fs, h3, _⟩, _, hc⟩ := T
  intro b o h k
  have nn : b ≠ tl ∧ b ≠ S ∧ b ≠ Fl := by
    rcases k with ⟨xs, rfl⟩ | ⟨kvs, rfl⟩ | ⟨d, fs', rfl⟩
    · exact ⟨ne_of h h1 (by intro z; cases z), ne_of h h2 (by intro z; cases z), ne_of h h3 (by intro z; cases z)⟩
    · exact ⟨ne_of h h1 (by intro z; cases z), ne_of h h2 (by intro z; cases z), ne_of h h3 (by intro z; cases z)⟩
    · refine ⟨fun z => ?_, ne_of h h2 (by intro z; cases z), ne_of h h3 (by intro z; cases z)⟩
      rw [z, h1] at h
      cases h
      exact hc rfl
  exact f b o nn.1 nn.2.1 nn.2.2 h
theorem TelAt.nS (T : TelAt CT CP FA H tl S Fl c) : tl ≠ S ∧ tl ≠ Fl := by
  obtain ⟨⟨dx, h1⟩, ⟨ss, h2, _⟩, ⟨fs, h3, _⟩, _, _⟩ := T
  exact ⟨ne_of h1 h2 (by intro z; cases z), ne_of h1 h3 (by intro z; cases z)⟩
/-- the same, other things are new -/
theorem TelAt.same (T : TelAt CT CP FA H tl S Fl c) (e : Same H H') : TelAt CT CP FA H' tl S Fl c := by
  have k : Kp CP H H' := .of_same e
  obtain ⟨⟨dx, h1⟩, ⟨ss, h2, h3⟩, ⟨fs, h4, h5⟩, hn, hc⟩ := T
  exact ⟨⟨dx, e _ _ h1⟩, ⟨ss, e _ _ h2, h3.imp fun _ _ z => z.mono k⟩, ⟨fs, e _ _ h4, h5.imp fun _ _ z => z.mono k⟩, hn, hc⟩
theorem TelAt.pushS (T : TelAt CT CP FA H tl S Fl c) {s : Stp} {p : Addr} {a b : V} {ss : List V} (hS : H S = some (.lst ss)) (hp : H p = some (.tup [.ref (FA s.code), a, b])) (ha : Args CP H s a b) :
    TelAt CT CP FA (upd H S (.lst (ss ++ [.ref p]))) tl S Fl ⟨s :: c.K, c.F, c.n⟩ := by
  have k := T.kp (.putS (.lst (ss ++ [.ref p])))
  have n1 := T.nS
  obtain ⟨⟨dx, h1⟩, ⟨ss', h2, h3⟩, ⟨fs, h4, h5⟩, hn, hc⟩ := T
  rw [hS] at h2
  cases h2
  refine ⟨⟨dx, by rw [upd_ne n1.1]; exact h1⟩, ⟨.ref p :: ss', by rw [upd_same, List.reverse_cons], ⟨p, a, b, rfl, k.tups _ _ hp, ha.mono k⟩, h3.imp fun _ _ z => z.mono k⟩, ⟨fs, by rw [upd_ne hn.symm]; exact h4, h5.imp fun _ _ z => z.mono k⟩, hn, hc⟩
theorem TelAt.pushF (T : TelAt CT CP FA H tl S Fl c) {v : EV} {u : V} {fs : List V} (hF : H Fl = some (.lst fs)) (hv : EVAt CP H v u) : TelAt CT CP FA (upd H Fl (.lst (fs ++ [u]))) tl S Fl ⟨c.K, v :: c.F, c.n⟩ := by
  have k := T.kp (.putF (.lst (fs ++ [u])))
  have n1 := T.nS
  obtain ⟨⟨dx, h1⟩, ⟨ss, h2, h3⟩, ⟨fs', h4, h5⟩, hn, hc⟩ := T
  rw [hF] at h4
  cases h4
  exact ⟨⟨dx, by rw [upd_ne n1.2]; exact h1⟩, ⟨ss, by rw [upd_ne hn]; exact h2, h3.imp fun _ _ z => z.mono k⟩, ⟨u :: fs', by rw [upd_same, List.reverse_cons], hv.mono k, h5.imp fun _ _ z => z.mono k⟩, hn, hc⟩
theorem rev_last {x : V} {xs : List V} : (x :: xs).reverse[(x :: xs).reverse.length - 1]? = some x := by
  rw [List.reverse_cons, List.length_append, List.length_singleton, Nat.add_sub_cancel, List.getElem?_append_right (Nat.le_refl _), Nat.sub_self]
  rfl
theorem rev_dropLast {x : V} {xs : List V} : (x :: xs).reverse.dropLast = xs.reverse := by rw [List.reverse_cons, List.dropLast_concat]
/-- pop of what was found -/
theorem TelAt.popF {v : EV} {K : List Stp} {F : List EV} {n : Nat} (T : TelAt CT CP FA H tl S Fl ⟨K, v :: F, n⟩) : ∃ fs u, H Fl = some (.lst (u :: fs).reverse) ∧ EVAt CP H v u ∧ TelAt CT CP FA (upd H Fl (.lst fs.reverse)) tl S Fl ⟨K, F, n⟩ := by
  have k := fun ys : List V => T.kp (H' := upd H Fl (.lst ys)) (.putF _)
  have n1 := T.nS
  obtain ⟨⟨dx, h1⟩, ⟨ss, h2, h3⟩, ⟨fs, h4, h5⟩, hn, hc⟩ := T
  obtain ⟨u, fs', rfl, hu, ht⟩ := h5.consL
  refine ⟨fs', u, h4, hu, ⟨dx, by rw [upd_ne n1.2]; exact h1⟩, ⟨ss, by rw [upd_ne hn]; exact h2, h3.imp fun _ _ z => z.mono (k _)⟩, ⟨fs', upd_same, ht.imp fun _ _ z => z.mono (k _)⟩, hn, hc⟩
theorem TelAt.popS {s : Stp} {K : List Stp} {F : List EV} {n : Nat} (T : TelAt CT CP FA H tl S Fl ⟨s :: K, F, n⟩) : ∃ ss u, H S = some (.lst (u :: ss).reverse) ∧ StpAt CP FA H s u ∧ TelAt CT CP FA (upd H S (.lst ss.reverse)) tl S Fl ⟨K, F, n⟩ := by
  have k := fun ys : List V => T.kp (H' := upd H S (.lst ys)) (.putS _)
  have n1 := T.nS
  obtain ⟨⟨dx, h1⟩, ⟨ss, h2, h3⟩, ⟨fs, h4, h5⟩, hn, hc⟩ := T
  obtain ⟨u, ss', rfl, hu, ht⟩ := h3.consL
  refine ⟨ss', u, h2, hu, ⟨dx, by rw [upd_ne n1.1]; exact h1⟩, ⟨ss', upd_same, ht.imp fun _ _ z => z.mono (k _)⟩, ⟨fs, by rw [upd_ne hn.symm]; exact h4, h5.imp fun _ _ z => z.mono (k _)⟩, hn, hc⟩
end

/-! ### the telling's own methods -/
structure TcT (K : PySem.W.Frag) (C : Addr) : Prop where
  cl : Cls K C
  nS : NoAttr K C "steps"
  nF : NoAttr K C "found"
  nN : NoAttr K C "named"
structure TcP (K : PySem.W.Frag) (C : Addr) : Prop where
  cl : Cls K C
  nT : NoAttr K C "term"
  nS : NoAttr K C "size"
  nD : NoAttr K C "depth"
structure Tl (K : PySem.W.Frag) (w : World) (mg : Str → Option Value) (FA : Sf → Addr) (DT DM : Addr) : Prop where
  tellers : mg "TELLERS" = some (.ref DT)
  makers : mg "MAKERS" = some (.ref DM)
  tw : ∀ u : W, u ≠ .hole → KDct K w DT u.str (.ref (FA (.t u)))
  mw : ∀ u : W, u ≠ .quote → u ≠ .lift → u ≠ .run → KDct K w DM u.str (.ref (FA (.m u)))
  reckon : mg "reckon" = some (.ref (FA .reckon))
  choose : mg "choose" = some (.ref (FA .choose))
  goB : mg "go_on_with_b" = some (.ref (FA .goB))
  turn : mg "turn" = some (.ref (FA .turn))
  goF : mg "go_on_with_function" = some (.ref (FA .goF))
  tooGreat : mg "refuse_too_great" = some (.ref (FA .tooGreat))
  mkNum : mg "make_num" = some (.ref (FA .mkNum))
  goPiece : mg "go_on_with_piece" = some (.ref (FA .goPiece))
  put : mg "put_together" = some (.ref (FA .put))
def spTelInit (CT CP : Addr) (FA : Sf → Addr) : Sp := fun vs H Q _ => ∃ (p dx : Addr), vs = [.ref p] ∧ H p = some (.ins CT dx []) ∧ CT ≠ CP ∧
  ∀ (S Fl : Addr) (H' : Hp), (∀ b o, b ≠ p → H b = some o → H' b = some o) → H S = none → H Fl = none → TelAt CT CP FA H' p S Fl ⟨[], [], 0⟩ → Q .non H'
def spPcInit (CP : Addr) : Sp := fun vs H Q _ => ∃ (p dx : Addr) (tv : V) (i j : Int), vs = [.ref p, tv, .int i, .int j] ∧ H p = some (.ins CP dx []) ∧
  ∀ H', (∀ b, b ≠ p → H' b = H b) → H' p = some (.ins CP dx (putF "depth" (.int j) (putF "size" (.int i) (putF "term" tv [])))) → Q .non H'
def spLater (CT CP : Addr) (FA : Sf → Addr) : Sp := fun vs H Q _ => ∃ (tl S Fl : Addr) (s : Stp) (K : List Stp) (F : List EV) (n : Nat) (a b : V), vs = [.ref tl, .ref (FA s.code), a, b] ∧ Args CP H s a b ∧ TelAt CT CP FA H tl S Fl ⟨K, F, n⟩ ∧ K.length ≤ 200000 ∧
  ∀ H', Frm tl S Fl H H' → TelAt CT CP FA H' tl S Fl ⟨s :: K, F, n⟩ → Q .non H'
def spTell (CT CP : Addr) (FA : Sf → Addr) : Sp := fun vs H Q _ => ∃ (tl S Fl : Addr) (t : Tm) (E : Evs) (K : List Stp) (F : List EV) (n : Nat) (a b : V), vs = [.ref tl, a, b] ∧ Args CP H (.tell t E) a b ∧ t.w ≠ .hole ∧ TelAt CT CP FA H tl S Fl ⟨K, F, n⟩ ∧ K.length ≤ 200000 ∧
  ∀ H', Frm tl S Fl H H' → TelAt CT CP FA H' tl S Fl ⟨.tell t E :: K, F, n⟩ → Q .non H'
def spMakeT (CT CP : Addr) (FA : Sf → Addr) : Sp := fun vs H Q _ => ∃ (tl S Fl : Addr) (t : Tm) (E : Evs) (K : List Stp) (F : List EV) (n : Nat) (a b : V), vs = [.ref tl, a, b] ∧ Args CP H (.make t E) a b ∧ (t.w ≠ .quote ∧ t.w ≠ .lift ∧ t.w ≠ .run) ∧ TelAt CT CP FA H tl S Fl ⟨K, F, n⟩ ∧ K.length ≤ 200000 ∧
  ∀ H', Frm tl S Fl H H' → TelAt CT CP FA H' tl S Fl ⟨.make t E :: K, F, n⟩ → Q .non H'
/-- the parts, each with what its names mean -/
def PartAt (CP : Addr) (H : Hp) (q : Tm × Evs) (v : V) : Prop := ∃ p a b, v = .ref p ∧ H p = some (.tup [a, b]) ∧ Args CP H (.make q.1 q.2) a b
def spMakeOf (CT CP : Addr) (FA : Sf → Addr) : Sp := fun vs H Q _ => ∃ (tl S Fl : Addr) (t : Tm) (qs : List (Tm × Evs)) (K : List Stp) (F : List EV) (n : Nat) (h l : Addr) (us : List V), vs = [.ref tl, .ref h, .ref l] ∧ H h = some (.tup t.head) ∧ H l = some (.lst us) ∧ l ≠ S ∧ l ≠ Fl ∧ Each (PartAt CP H) qs us ∧
  qs.length = t.parts.length ∧ (∀ q ∈ qs, q.1.w ≠ .quote ∧ q.1.w ≠ .lift ∧ q.1.w ≠ .run) ∧ TelAt CT CP FA H tl S Fl ⟨K, F, n⟩ ∧ K.length ≤ 100000 ∧
  ∀ H', Frm tl S Fl H H' → TelAt CT CP FA H' tl S Fl ⟨qs.map (fun q => .make q.1 q.2) ++ .put t :: K, F, n⟩ → Q .non H'
def spNewName (CT CP : Addr) (FA : Sf → Addr) : Sp := fun vs H Q _ => ∃ (tl S Fl : Addr) (c : Cfg), vs = [.ref tl] ∧ TelAt CT CP FA H tl S Fl c ∧ c.n + 1 ≤ NB + 5 ∧
  ∀ H', Frm tl S Fl H H' → TelAt CT CP FA H' tl S Fl ⟨c.K, c.F, c.n + 1⟩ → Q (.str (vN (c.n + 1))) H'
abbrev s_Telling_init : Stmt := inClass (topS 9) 0
theorem sc_Telling_init : FnScope ["self"] ["self"] (defScope s_Telling_init) := ⟨rfl, rfl, rfl, by decide +kernel, rfl, by decide +kernel, by decide +kernel⟩
abbrev s_Piece_init : Stmt := inClass (topS 8) 0
theorem sc_Piece_init : FnScope ["self", "term", "size", "depth"] ["self", "term", "size", "depth"] (defScope s_Piece_init) := ⟨rfl, rfl, rfl, by decide +kernel, rfl, by decide +kernel, by decide +kernel⟩
abbrev s_Telling_later : Stmt := inClass (topS 9) 2
theorem sc_Telling_later : FnScope ["self", "step", "about", "names"] ["self", "step", "about", "names"] (defScope s_Telling_later) := ⟨rfl, rfl, rfl, by decide +kernel, rfl, by decide +kernel, by decide +kernel⟩
abbrev s_Telling_tell : Stmt := inClass (topS 9) 3
theorem sc_Telling_tell : FnScope ["self", "term", "names", "step"] ["self", "term", "names"] (defScope s_Telling_tell) := ⟨rfl, rfl, rfl, by decide +kernel, rfl, by decide +kernel, by decide +kernel⟩
abbrev s_Telling_make : Stmt := inClass (topS 9) 4
theorem sc_Telling_make : FnScope ["self", "term", "names", "step"] ["self", "term", "names"] (defScope s_Telling_make) := ⟨rfl, rfl, rfl, by decide +kernel, rfl, by decide +kernel, by decide +kernel⟩
abbrev s_Telling_make_of : Stmt := inClass (topS 9) 5
theorem sc_Telling_make_of : FnScope ["self", "head", "parts", "part", "names"] ["self", "head", "parts"] (defScope s_Telling_make_of) := ⟨rfl, rfl, rfl, by decide +kernel, rfl, by decide +kernel, by decide +kernel⟩
abbrev s_Telling_new_name : Stmt := inClass (topS 9) 6
theorem sc_Telling_new_name : FnScope ["self"] ["self"] (defScope s_Telling_new_name) := ⟨rfl, rfl, rfl, by decide +kernel, rfl, by decide +kernel, by decide +kernel⟩
theorem putF_len (f : Str) (v : V) (fs : List (Str × V)) : (putF f v fs).length ≤ fs.length + 1 := length_putF f v fs
theorem putF_two (f : Str) (v u : V) : ∀ fs : List (Str × V), putF f v (putF f u fs) = putF f v fs
  | [] => by simp [putF]
  | (g, x) :: r => by
    by_cases e : g = f
    · simp [putF, e]
    · simp [putF, e, putF_two f v u r]
theorem tlF_put (S F : Addr) (n : Nat) : putF "named" (.int ((n : Int) + 1)) (tlF S F n) = tlF S F (n + 1) := putF_two _ _ _ _
theorem putF_few {f : Str} {v : V} {fs : List (Str × V)} {n : Nat} (h : fs.length ≤ n) (l : n + 1 < 1000 := by decide) : (putF f v fs).length < 1000 := by have := putF_len f v fs; omega
theorem tlF_few (S F : Addr) (n : Nat) : (tlF S F n).length < 1000 := putF_few (n := 2) (Nat.le_trans (putF_len _ _ _) (Nat.succ_le_succ (putF_len _ _ _)))
theorem szK {n : Nat} (h : n ≤ 900000) : n < sizeLine := Nat.lt_of_le_of_lt h (by decide)
theorem szI {n : Nat} (h : n ≤ NB + 5) : ((n : Nat) : Int).natAbs.log2 < 1920 := by
  rw [Int.natAbs_natCast]
  by_cases z : n = 0
  · rw [z]; decide
  · rw [Nat.log2_lt z]
    have h1 : 2 ^ 1900 < 2 ^ 1901 := Nat.pow_lt_pow_right (by decide) (by decide)
    have h2 : 2 ^ 1901 < 2 ^ 1920 := Nat.pow_lt_pow_right (by decide) (by decide)
    have h3 : 2 ^ (1900 + 1) = 2 ^ 1900 * 2 := Nat.pow_succ ..
    rw [show 1900 + 1 = 1901 from rfl] at h3
    have h4 : 2 ^ 3 < 2 ^ 1900 := Nat.pow_lt_pow_right (by decide) (by decide)
    unfold NB at h
    generalize 2 ^ 1900 = a at h h1 h3 h4
    generalize 2 ^ 1901 = b at h1 h2 h3
    generalize 2 ^ 1920 = c at h2 ⊢
    omega
theorem vN_line {n : Nat} (h : n + 1 ≤ NB + 5) : (vN (n + 1)).length ≤ sizeLine := by
  have e := int_text_length_le (a := ((n + 1 : Nat) : Int)) (k := 1920) (by decide) (szI h)
  show (("v" : Str).cps ++ (Str.ofString (toString ((n + 1 : Nat) : Int))).cps).size ≤ sizeLine
  rw [Array.size_append]
  have e2 : (Str.ofString (toString ((n + 1 : Nat) : Int))).cps.size = (toString ((n + 1 : Nat) : Int)).length := ofString_length _
  have e3 : ("v" : Str).cps.size = 1 := by decide +kernel
  rw [e2, e3, sizeLine_eq]
  omega
section
variable {P : Program} {w : World} {K : PySem.W.Frag} {mg : Str → Option Value} {base : Heap} {CT CP DT DM : Addr} {FA : Sf → Addr} {f f1 f2 f3 f4 f5 f6 f7 f8 : Addr} {fd fd1 fd2 fd3 fd4 fd5 fd6 fd7 fd8 : FuncData}
theorem ok_tel_init (F : Fun K "__init__" "Telling.__init__" s_Telling_init f fd) (TC_Telling : TcT K CT) : FnOk P w K mg base CX0 1 f fd ["self"] (spTelInit CT CP FA) := by
  refine F.ok sc_Telling_init (fun vs H Q E h => ?_) (fun cdv A outer s H vs Q E hr h => ?_)
  · obtain ⟨p, dx, rfl, _⟩ := h
    rfl
  obtain ⟨p, dx, rfl, hp, hne, q⟩ := h
  refine ⟨_, (pss_cons (ps_fld (pv 0) (pe_lst pa_nil) rfl)
      (pss_cons (ps_fld (pv 0) (pe_lst pa_nil) rfl)
      (pss_one (ps_fld (pv 0) pe_int rfl)))), ?_⟩
  refine ⟨Nat.zero_le _, fun S nS => ?_⟩
  have pS : p ≠ S := fun z => by rw [← z, hp] at nS; cases nS
  refine ⟨_, rfl, p, CT, dx, _, rfl, by rw [upd_ne pS]; exact hp, TC_Telling.cl, TC_Telling.nS, by show 0 < 1000; decide, ?_⟩
  refine ⟨Nat.zero_le _, fun Fl nF => ?_⟩
  have pF : p ≠ Fl := fun z => by rw [← z, upd_same] at nF; cases nF
  have SF : S ≠ Fl := fun z => by rw [← z, upd_ne pS.symm, upd_same] at nF; cases nF
  refine ⟨_, rfl, p, CT, dx, _, rfl, by rw [upd_ne pF, upd_same], TC_Telling.cl, TC_Telling.nF, putF_few (n := 0) (Nat.le_refl _), ?_⟩
  refine ⟨_, rfl, p, CT, dx, _, rfl, upd_same, TC_Telling.cl, TC_Telling.nN, putF_few (n := 1) (putF_len _ _ _), ?_⟩
  refine q S Fl _ (fun b o n h => ?_) nS ?_ ?_
  · have bS : b ≠ S := ne_of_none h nS
    have bF : b ≠ Fl := by
      refine ne_of_none (H := upd (upd H S (.lst [])) p (.ins CT dx (putF "steps" (.ref S) []))) (o := o) ?_ nF
      rw [upd_ne n, upd_ne bS]
      exact h
    rw [upd_ne n, upd_ne n, upd_ne bF, upd_ne n, upd_ne bS]
    exact h
  · rw [upd_ne pF.symm, upd_ne SF.symm] at nF
    exact nF
  · refine ⟨⟨dx, upd_same⟩, ⟨[], ?_, True.intro⟩, ⟨[], ?_, True.intro⟩, SF, hne⟩
    · rw [upd_ne pS.symm, upd_ne pS.symm, upd_ne SF, upd_ne pS.symm, upd_same]; rfl
    · rw [upd_ne pF.symm, upd_ne pF.symm, upd_same]; rfl
theorem ok_pc_init (F : Fun K "__init__" "Piece.__init__" s_Piece_init f fd) (TC_Piece : TcP K CP) : FnOk P w K mg base CX0 1 f fd ["self", "term", "size", "depth"] (spPcInit CP) := by
  refine F.ok sc_Piece_init (fun vs H Q E h => ?_) (fun cdv A outer s H vs Q E hr h => ?_)
  · obtain ⟨p, dx, tv, i, j, rfl, _⟩ := h
    rfl
  obtain ⟨p, dx, tv, i, j, rfl, hp, q⟩ := h
  refine ⟨_, (pss_cons (ps_fld (pv 0) (pv 1) rfl)
      (pss_cons (ps_fld (pv 0) (pv 2) rfl)
      (pss_one (ps_fld (pv 0) (pv 3) rfl)))), ?_⟩
  refine ⟨_, rfl, _, rfl, p, CP, dx, _, rfl, hp, TC_Piece.cl, TC_Piece.nT, by show 0 < 1000; decide, ?_⟩
  refine ⟨_, rfl, _, rfl, p, CP, dx, _, rfl, upd_same, TC_Piece.cl, TC_Piece.nS, putF_few (n := 0) (Nat.le_refl _), ?_⟩
  refine ⟨_, rfl, _, rfl, p, CP, dx, _, rfl, upd_same, TC_Piece.cl, TC_Piece.nD, putF_few (n := 1) (putF_len _ _ _), ?_⟩
  exact q _ (fun b n => by rw [upd_ne n, upd_ne n, upd_ne n]) upd_same
theorem ok_later (F : Fun K "later" "Telling.later" s_Telling_later f fd) (TC_Telling : TcT K CT) : FnOk P w K mg base CX0 1 f fd ["self", "step", "about", "names"] (spLater CT CP FA) := by
  refine F.ok sc_Telling_later (fun vs H Q E h => ?_) (fun cdv A outer s H vs Q E hr h => ?_)
  · obtain ⟨tl, S, Fl, s, K, F, n, a, b, rfl, _⟩ := h
    rfl
  obtain ⟨tl, S, Fl, s, Ks, Fs, n, a, b, rfl, ha, T, hl, q⟩ := h
  refine ⟨_, (pss_one (ps_expr (pe_bm PySem.F.plainAttrs_list PySem.F.slot_list_append PySem.F.type_list_append mt_append (pe_fld (pv 0) rfl) (pa_cons (pe_tup (pa_cons (pv 1) (pa_cons (pv 2) (pa_cons (pv 3) pa_nil)))) pa_nil)))), ?_⟩
  obtain ⟨dx, ht⟩ := T.ins
  obtain ⟨ss, hS, es⟩ := T.steps
  have sl := es.len
  refine ⟨_, rfl, tl, CT, dx, _, _, rfl, ht, TC_Telling.cl, TC_Telling.nS, tlF_steps _ _ _, .inl ⟨rfl, _, SqL.of hS⟩, _, rfl, _, rfl, _, rfl, sz 3, fun p np => ?_⟩
  have g := same_new np (.tup [.ref (FA s.code), a, b])
  have T1 := T.same g
  refine ⟨S, _, _, rfl, rfl, g _ _ hS, szK (by rw [List.length_reverse, sl]; show Ks.length ≤ _; omega), ?_⟩
  exact q _ ((Frm.of_same g).trans (.putS _)) (T1.pushS (s := s) (g _ _ hS) upd_same (ha.mono (.of_same g)))
theorem ok_tell (F : Fun K "tell" "Telling.tell" s_Telling_tell f fd) (TC_Telling : TcT K CT) (TL : Tl K w mg FA DT DM) (C_later : CalM P w K mg base CT "later" ["self", "step", "about", "names"] 1 (spLater CT CP FA) f1 fd1) : FnOk P w K mg base CX0 2 f fd ["self", "term", "names"] (spTell CT CP FA) := by
  refine F.ok sc_Telling_tell (fun vs H Q E h => ?_) (fun cdv A outer s H vs Q E hr h => ?_)
  · obtain ⟨tl, S, Fl, t, E, K, F, n, a, b, rfl, _⟩ := h
    rfl
  obtain ⟨tl, S, Fl, t, Ev, Ks, Fs, n, a, b, rfl, ha, hw, T, hl, q⟩ := h
  refine ⟨_, (pss_cons (ps_set (i := 3) sc_Telling_tell.nd rfl (Or.inl rfl) (pe_ix ix_kdict (pe_glob (v := V.ref _) rfl TL.tellers rfl) (pe_ix ix_tup (pv 1) pe_int (fun _ _ => rfl)) (fun _ _ => rfl)))
      (pss_one (ps_expr (pe_meth (pv 0) TC_Telling.cl C_later.m C_later.ok (hr.mono (by first | decide | omega)) C_later.b .nil pass0 (pa_cons (pv 3) (pa_cons (pv 1) (pa_cons (pv 2) pa_nil))))))), ?_⟩
  obtain ⟨e, c, tm, _⟩ := id ha
  obtain ⟨p, vs, rfl, hp, _⟩ := tm.open
  rw [t.head_eq] at hp
  obtain ⟨dx, ht⟩ := T.ins
  refine ⟨_, rfl, p, _, _, _, rfl, rfl, SqT.of hp, atI_n (n := 0) rfl rfl, DT, _, _, rfl, rfl, TL.tw t.w hw, ?_⟩
  refine ⟨_, rfl, tl, dx, _, rfl, ht, tlF_no _ _ _ (by decide +kernel) (by decide +kernel) (by decide +kernel), _, rfl, _, rfl, _, rfl, tl, S, Fl, .tell t Ev, Ks, Fs, n, _, _, rfl, ha, T, hl, q⟩
theorem ok_makeT (F : Fun K "make" "Telling.make" s_Telling_make f fd) (TC_Telling : TcT K CT) (TL : Tl K w mg FA DT DM) (C_later : CalM P w K mg base CT "later" ["self", "step", "about", "names"] 1 (spLater CT CP FA) f1 fd1) : FnOk P w K mg base CX0 2 f fd ["self", "term", "names"] (spMakeT CT CP FA) := by
  refine F.ok sc_Telling_make (fun vs H Q E h => ?_) (fun cdv A outer s H vs Q E hr h => ?_)
  · obtain ⟨tl, S, Fl, t, E, K, F, n, a, b, rfl, _⟩ := h
    rfl
  obtain ⟨tl, S, Fl, t, Ev, Ks, Fs, n, a, b, rfl, ha, hw, T, hl, q⟩ := h
  refine ⟨_, (pss_cons (ps_set (i := 3) sc_Telling_make.nd rfl (Or.inl rfl) (pe_ix ix_kdict (pe_glob (v := V.ref _) rfl TL.makers rfl) (pe_ix ix_tup (pv 1) pe_int (fun _ _ => rfl)) (fun _ _ => rfl)))
      (pss_one (ps_expr (pe_meth (pv 0) TC_Telling.cl C_later.m C_later.ok (hr.mono (by first | decide | omega)) C_later.b .nil pass0 (pa_cons (pv 3) (pa_cons (pv 1) (pa_cons (pv 2) pa_nil))))))), ?_⟩
  obtain ⟨e, c, tm, _⟩ := id ha
  obtain ⟨p, vs, rfl, hp, _⟩ := tm.open
  rw [t.head_eq] at hp
  obtain ⟨dx, ht⟩ := T.ins
  refine ⟨_, rfl, p, _, _, _, rfl, rfl, SqT.of hp, atI_n (n := 0) rfl rfl, DM, _, _, rfl, rfl, TL.mw t.w hw.1 hw.2.1 hw.2.2, ?_⟩
  refine ⟨_, rfl, tl, dx, _, rfl, ht, tlF_no _ _ _ (by decide +kernel) (by decide +kernel) (by decide +kernel), _, rfl, _, rfl, _, rfl, tl, S, Fl, .make t Ev, Ks, Fs, n, _, _, rfl, ha, T, hl, q⟩
theorem ok_new_name (F : Fun K "new_name" "Telling.new_name" s_Telling_new_name f fd) (TC_Telling : TcT K CT) : FnOk P w K mg base CX0 1 f fd ["self"] (spNewName CT CP FA) := by
  refine F.ok sc_Telling_new_name (fun vs H Q E h => ?_) (fun cdv A outer s H vs Q E hr h => ?_)
  · obtain ⟨tl, S, Fl, c, rfl, _⟩ := h
    rfl
  obtain ⟨tl, S, Fl, c, rfl, T, hn, q⟩ := h
  refine ⟨_, (pss_cons (ps_fldaug (pv 0) pe_int in_add)
      (pss_one (ps_ret (pe_joined (.cons pe_str (.cons (pe_fmt (pe_fld (pv 0) rfl)) .nil)))))), ?_⟩
  obtain ⟨dx, ht⟩ := T.ins
  refine ⟨_, rfl, tl, CT, dx, _, _, rfl, ht, TC_Telling.cl, TC_Telling.nN, tlF_named _ _ _, _, _, rfl, rfl, dx, _, ht, tlF_few _ _ _, ?_⟩
  rw [tlF_put]
  have g : Frm tl S Fl H (upd H tl (.ins CT dx (tlF S Fl (c.n + 1)))) := .putT _
  have T1 : TelAt CT CP FA (upd H tl (.ins CT dx (tlF S Fl (c.n + 1)))) tl S Fl ⟨c.K, c.F, c.n + 1⟩ := by
    have k := T.kp g
    have n1 := T.nS
    obtain ⟨_, ⟨ss, h2, h3⟩, ⟨fs, h4, h5⟩, h6, h7⟩ := T
    exact ⟨⟨dx, upd_same⟩, ⟨ss, by rw [upd_ne n1.1.symm]; exact h2, h3.imp fun _ _ z => z.mono k⟩, ⟨fs, by rw [upd_ne n1.2.symm]; exact h4, h5.imp fun _ _ z => z.mono k⟩, h6, h7⟩
  have ev : (Str.empty ++ ("v" : Str)) = ("v" : Str) := by decide +kernel
  have hl := vN_line hn
  refine ⟨_, rfl, by rw [ev]; decide +kernel, _, rfl, tl, CT, dx, _, _, rfl, upd_same, TC_Telling.cl, TC_Telling.nN, tlF_named _ _ _, .inr ⟨_, rfl, ?_, _, rfl, ?_, ?_⟩⟩
  · exact szI hn
  · rw [ev]; exact hl
  · show Q (.str ((Str.empty ++ ("v" : Str)) ++ _)) _
    rw [ev]
    exact q _ g T1
/-- part by part, the last one first -/
theorem ok_make_of (F : Fun K "make_of" "Telling.make_of" s_Telling_make_of f fd) (T : Txt mg) (TC_Telling : TcT K CT) (TL : Tl K w mg FA DT DM) (C_later : CalM P w K mg base CT "later" ["self", "step", "about", "names"] 1 (spLater CT CP FA) f1 fd1)
    (C_make : CalM P w K mg base CT "make" ["self", "term", "names"] 2 (spMakeT CT CP FA) f2 fd2) : FnOk P w K mg base CX0 3 f fd ["self", "head", "parts"] (spMakeOf CT CP FA) := by
  refine F.ok sc_Telling_make_of (fun vs H Q E h => ?_) (fun cdv A outer s H vs Q E hr h => ?_)
  · obtain ⟨tl, S, Fl, t, qs, K, F, n, h, l, us, rfl, _⟩ := h
    rfl
  obtain ⟨tl, S, Fl, t, qs, Ks, Fs, n, h, l, us, rfl, hh, hl, nlS, nlF, he, hlen, hw, T0, hK, q⟩ := h
  refine ⟨_, (pss_cons (ps_expr (pe_meth (pv 0) TC_Telling.cl C_later.m C_later.ok (hr.mono (by first | decide | omega)) C_later.b .nil pass0 (pa_cons (pe_glob (v := V.ref _) rfl TL.put rfl) (pa_cons (pv 1) (pa_cons (pe_callB call_len_seq (by rfl) T.len PySem.boot_len (pa_cons (pv 2) pa_nil)) pa_nil)))))
      (pss_one (ps_for PassesOwn.never rfl (RT.pi_revA (by rfl) T.reversed (pv 2)) (pg_tup rfl (pgs_cons (pg_name (i := 3) sc_Telling_make_of.nd rfl (Or.inl rfl)) (pgs_cons (pg_name (i := 4) sc_Telling_make_of.nd rfl (Or.inl rfl)) pgs_nil))) (pss_one (ps_expr (pe_meth (pv 0) TC_Telling.cl C_make.m C_make.ok (hr.mono (by first | decide | omega)) C_make.b .nil pass0 (pa_cons (pv 3) (pa_cons (pv 4) pa_nil)))))))), ?_⟩
  obtain ⟨dx, ht⟩ := T0.ins
  have ul := he.len
  have tp := t.len_parts
  refine ⟨_, rfl, tl, dx, _, rfl, ht, tlF_no _ _ _ (by decide +kernel) (by decide +kernel) (by decide +kernel), _, rfl, _, rfl, l, _, rfl, .inl (SqL.of hl), tl, S, Fl, .put t, Ks, Fs, n, _, _, rfl, ⟨h, rfl, hh, by rw [ul, hlen]⟩, T0, by omega, fun H1 g1 T1 => ?_⟩
  have nlT : l ≠ tl := ne_of hl ht (by intro z; cases z)
  have hl1 := g1 _ _ nlT nlS nlF hl
  have k01 := T0.kp g1
  refine ⟨_, rfl, l, us, rfl, .inl ⟨SqL.of hl1, ?_⟩⟩
  have he1 : Each (PartAt CP H1) qs us := he.imp fun _ _ ⟨p, a, b, e1, e2, e3⟩ => ⟨p, a, b, e1, k01.tups _ _ e2, e3.mono k01⟩
  refine RT.for_Itv (K := K) (a := l) (xs := us) (fun i σ H' => ∃ o1 o2 : Option V, σ = [some (.ref tl), some (.ref h), some (.ref l), o1, o2] ∧ Frm tl S Fl H1 H' ∧ TelAt CT CP FA H' tl S Fl ⟨(qs.drop (qs.length - i)).map (fun q => .make q.1 q.2) ++ .put t :: Ks, Fs, n⟩)
    ⟨none, none, rfl, .refl, by rw [Nat.sub_zero, List.drop_length]; exact T1⟩ (fun i σ H' ⟨_, _, _, g, _⟩ => SqL.of (g _ _ nlT nlS nlF hl1)) ?_ ?_
  · rintro i x σ H' hi hx ⟨o1, o2, rfl, g, T'⟩
    rw [ul] at hi hx
    have k12 := T1.kp g
    have hj : qs.length - 1 - i < qs.length := by omega
    obtain ⟨v, hv, p, a, b, rfl, h2, h3⟩ : ∃ v, us[qs.length - 1 - i]? = some v ∧ PartAt CP H1 qs[qs.length - 1 - i] v := by
      have key : ∀ (ps : List (Tm × Evs)) (vs : List V) (j : Nat) (h : j < ps.length), Each (PartAt CP H1) ps vs → ∃ v, vs[j]? = some v ∧ PartAt CP H1 ps[j] v := by
        intro ps
        induction ps with
        | nil => intro vs j h; cases h
        | cons p ps ih =>
          intro vs j h e
          obtain ⟨b, bs, rfl, e1, e2⟩ := e.consL
          cases j with
          | zero => exact ⟨b, rfl, e1⟩
          | succ j => exact ih bs j (by simpa using h) e2
      exact key qs us _ hj he1
    rw [hv] at hx
    cases hx
    obtain ⟨dx', ht'⟩ := T'.ins
    refine ⟨p, [a, b], rfl, SqT.of (k12.tups _ _ h2), rfl, _, _, rfl, _, _, rfl, rfl, ?_⟩
    refine ⟨_, rfl, tl, dx', _, rfl, ht', tlF_no _ _ _ (by decide +kernel) (by decide +kernel) (by decide +kernel), _, rfl, _, rfl, tl, S, Fl, _, _, _, _, _, _, _, rfl, h3.mono k12, hw _ (List.getElem_mem hj), T', ?_, fun H3 g3 T3 => ⟨_, _, rfl, g.trans g3, ?_⟩⟩
    · rw [List.length_append, List.length_map, List.length_drop, List.length_cons]; omega
    · rw [show qs.length - (i + 1) = qs.length - 1 - i by omega, List.drop_eq_getElem_cons hj, List.map_cons, show qs.length - 1 - i + 1 = qs.length - i by omega]
      exact T3
  · rintro σ H' ⟨o1, o2, rfl, g, T'⟩
    rw [ul, Nat.sub_self, List.drop_zero] at T'
    exact q H' (g1.trans g) T'
end

/-! ### the steps, one by one -/
def spStp (CT CP CG : Addr) (FA : Sf → Addr) (s0 : Sf) : Sp := fun vs H Q E => ∃ (tl S Fl : Addr) (s : Stp) (K : List Stp) (F : List EV) (n : Nat) (a b : V), vs = [.ref tl, a, b] ∧ s.code = s0 ∧ Args CP H s a b ∧ TelAt CT CP FA H tl S Fl ⟨K, F, n⟩ ∧ Cfg.Fit ⟨s :: K, F, n⟩ ∧
  ((∃ c', Stp1 ⟨s :: K, F, n⟩ c' ∧ (∀ z ∈ c'.K, z.Good) ∧ ∀ H', Frm tl S Fl H H' → TelAt CT CP FA H' tl S Fl c' → Q .non H') ∨ (Boom ⟨s :: K, F, n⟩ ∧ E (.ref CG) none H))
theorem code_t {s : Stp} {u : W} (h : s.code = .t u) : ∃ t E, s = .tell t E ∧ t.w = u := by
  cases s <;> first | (cases h; exact ⟨_, _, rfl, rfl⟩) | cases h
theorem code_m {s : Stp} {u : W} (h : s.code = .m u) : ∃ t E, s = .make t E ∧ t.w = u := by
  cases s <;> first | (cases h; exact ⟨_, _, rfl, rfl⟩) | cases h
theorem str_w' {o : Bin} (u : W) (h : decide (V.str o.word = V.str u.str) = true) : o.w = u := by
  rw [o.word_eq] at h
  exact W.inj (V.str.inj (of_decide_eq_true h))
theorem no_later (S F : Addr) (n : Nat) : (tlF S F n).lookup ("later" : Str) = none := tlF_no _ _ _ (by decide +kernel) (by decide +kernel) (by decide +kernel)
theorem no_tell (S F : Addr) (n : Nat) : (tlF S F n).lookup ("tell" : Str) = none := tlF_no _ _ _ (by decide +kernel) (by decide +kernel) (by decide +kernel)
theorem no_make (S F : Addr) (n : Nat) : (tlF S F n).lookup ("make" : Str) = none := tlF_no _ _ _ (by decide +kernel) (by decide +kernel) (by decide +kernel)
theorem no_make_of (S F : Addr) (n : Nat) : (tlF S F n).lookup ("make_of" : Str) = none := tlF_no _ _ _ (by decide +kernel) (by decide +kernel) (by decide +kernel)
theorem no_new (S F : Addr) (n : Nat) : (tlF S F n).lookup ("new_name" : Str) = none := tlF_no _ _ _ (by decide +kernel) (by decide +kernel) (by decide +kernel)
section
variable {CT CP tl S Fl : Addr} {FA : Sf → Addr} {H : Hp} {K : List Stp} {F : List EV} {n : Nat}
theorem TelAt.ltF (T : TelAt CT CP FA H tl S Fl ⟨K, F, n⟩) {fs : List V} (h : H Fl = some (.lst fs)) : fs.length = F.length := by
  obtain ⟨fs', h1, h2⟩ := T.found
  rw [h] at h1
  cases h1
  rw [List.length_reverse, h2.len]
/-- a new dict p, filled from e's and with x more, the value popped off what was found -/
theorem star_pop {v : EV} (T : TelAt CT CP FA H tl S Fl ⟨K, v :: F, n⟩) {E : Evs} {e p q : Addr} {c : Nat} {kvs : List (Key × V)} {x : Str} {u : V} {fs : List V} {o1 o2 o3 : HO} (he : H e = some (.dK kvs)) (hE : EnvAt CP H E e c) (hF : H Fl = some (.lst (u :: fs).reverse)) (hu : EVAt CP H v u)
    (T1 : TelAt CT CP FA (upd H Fl (.lst fs.reverse)) tl S Fl ⟨K, F, n⟩) (np : H p = none) (nq : upd (upd H p o1) p (.dK kvs) q = none) :
    Frm tl S Fl H (upd (upd (upd (upd (upd (upd H p o1) p (.dK kvs)) q o2) Fl (.lst fs.reverse)) q o3) p (.dK (putK kvs (.inr x) u))) ∧
    TelAt CT CP FA (upd (upd (upd (upd (upd (upd H p o1) p (.dK kvs)) q o2) Fl (.lst fs.reverse)) q o3) p (.dK (putK kvs (.inr x) u))) tl S Fl ⟨K, F, n⟩ ∧
    EnvAt CP (upd (upd (upd (upd (upd (upd H p o1) p (.dK kvs)) q o2) Fl (.lst fs.reverse)) q o3) p (.dK (putK kvs (.inr x) u))) (E.set x v) p (c + 1) := by
  have pq : p ≠ q := fun z => by rw [← z, upd_same] at nq; cases nq
  have nq0 : H q = none := by
    rw [upd_ne pq.symm, upd_ne pq.symm] at nq
    exact nq
  have old : ∀ b o, b ≠ Fl → H b = some o → (upd (upd (upd (upd (upd (upd H p o1) p (.dK kvs)) q o2) Fl (.lst fs.reverse)) q o3) p (.dK (putK kvs (.inr x) u))) b = some o := fun b o n1 h => by
    have bp := ne_of_none h np
    have bq := ne_of_none h nq0
    rw [upd_ne bp, upd_ne bq, upd_ne n1, upd_ne bq, upd_ne bp, upd_ne bp]
    exact h
  have fr : Frm tl S Fl H (upd (upd (upd (upd (upd (upd H p o1) p (.dK kvs)) q o2) Fl (.lst fs.reverse)) q o3) p (.dK (putK kvs (.inr x) u))) := fun b o _ _ n3 h => old b o n3 h
  refine ⟨fr, T1.same fun b o h => ?_, hE.set (T.kp fr) he upd_same (hu.mono (T.kp fr))⟩
  by_cases z : b = Fl
  · subst z
    rw [upd_same] at h
    rw [upd_ne (ne_of_none hF np), upd_ne (ne_of_none hF nq0), upd_same]
    exact h
  · rw [upd_ne z] at h
    exact old b o z h
/-- the same, the value was there -/
theorem star_val {c0 : Cfg} (T : TelAt CT CP FA H tl S Fl c0) {E : Evs} {e p q : Addr} {c : Nat} {kvs : List (Key × V)} {x : Str} {v : EV} {u : V} {o1 o2 o3 : HO} (he : H e = some (.dK kvs)) (hE : EnvAt CP H E e c) (hu : EVAt CP H v u)
    (np : H p = none) (nq : upd (upd H p o1) p (.dK kvs) q = none) :
    Same H (upd (upd (upd (upd (upd H p o1) p (.dK kvs)) q o2) q o3) p (.dK (putK kvs (.inr x) u))) ∧
    EnvAt CP (upd (upd (upd (upd (upd H p o1) p (.dK kvs)) q o2) q o3) p (.dK (putK kvs (.inr x) u))) (E.set x v) p (c + 1) := by
  have pq : p ≠ q := fun z => by rw [← z, upd_same] at nq; cases nq
  have nq0 : H q = none := by
    rw [upd_ne pq.symm, upd_ne pq.symm] at nq
    exact nq
  have old : Same H (upd (upd (upd (upd (upd H p o1) p (.dK kvs)) q o2) q o3) p (.dK (putK kvs (.inr x) u))) := fun b o h => by
    have bp := ne_of_none h np
    have bq := ne_of_none h nq0
    rw [upd_ne bp, upd_ne bq, upd_ne bq, upd_ne bp, upd_ne bp]
    exact h
  exact ⟨old, hE.set (.of_same old) he upd_same (hu.mono (.of_same old))⟩
end
abbrev s_tell_num : Stmt := topS 10
theorem sc_tell_num : FnScope ["telling", "term", "names"] ["telling", "term", "names"] (defScope s_tell_num) := ⟨rfl, rfl, rfl, by decide +kernel, rfl, by decide +kernel, by decide +kernel⟩
abbrev s_tell_name : Stmt := topS 11
theorem sc_tell_name : FnScope ["telling", "term", "names"] ["telling", "term", "names"] (defScope s_tell_name) := ⟨rfl, rfl, rfl, by decide +kernel, rfl, by decide +kernel, by decide +kernel⟩
abbrev s_tell_two : Stmt := topS 12
theorem sc_tell_two : FnScope ["telling", "term", "names"] ["telling", "term", "names"] (defScope s_tell_two) := ⟨rfl, rfl, rfl, by decide +kernel, rfl, by decide +kernel, by decide +kernel⟩
abbrev s_reckon : Stmt := topS 13
theorem sc_reckon : FnScope ["telling", "word", "names", "right", "left"] ["telling", "word", "names"] (defScope s_reckon) := ⟨rfl, rfl, rfl, by decide +kernel, rfl, by decide +kernel, by decide +kernel⟩
abbrev s_tell_when : Stmt := topS 14
theorem sc_tell_when : FnScope ["telling", "term", "names"] ["telling", "term", "names"] (defScope s_tell_when) := ⟨rfl, rfl, rfl, by decide +kernel, rfl, by decide +kernel, by decide +kernel⟩
abbrev s_choose : Stmt := topS 15
theorem sc_choose : FnScope ["telling", "term", "names"] ["telling", "term", "names"] (defScope s_choose) := ⟨rfl, rfl, rfl, by decide +kernel, rfl, by decide +kernel, by decide +kernel⟩
abbrev s_tell_let : Stmt := topS 16
theorem sc_tell_let : FnScope ["telling", "term", "names"] ["telling", "term", "names"] (defScope s_tell_let) := ⟨rfl, rfl, rfl, by decide +kernel, rfl, by decide +kernel, by decide +kernel⟩
abbrev s_go_on_with_b : Stmt := topS 17
theorem sc_go_on_with_b : FnScope ["telling", "term", "names"] ["telling", "term", "names"] (defScope s_go_on_with_b) := ⟨rfl, rfl, rfl, by decide +kernel, rfl, by decide +kernel, by decide +kernel⟩
abbrev s_tell_turns : Stmt := topS 18
theorem sc_tell_turns : FnScope ["telling", "term", "names"] ["telling", "term", "names"] (defScope s_tell_turns) := ⟨rfl, rfl, rfl, by decide +kernel, rfl, by decide +kernel, by decide +kernel⟩
abbrev s_turn : Stmt := topS 19
theorem sc_turn : FnScope ["telling", "about", "names", "term", "many"] ["telling", "about", "names"] (defScope s_turn) := ⟨rfl, rfl, rfl, by decide +kernel, rfl, by decide +kernel, by decide +kernel⟩
abbrev s_tell_def : Stmt := topS 20
theorem sc_tell_def : FnScope ["telling", "term", "names"] ["telling", "term", "names"] (defScope s_tell_def) := ⟨rfl, rfl, rfl, by decide +kernel, rfl, by decide +kernel, by decide +kernel⟩
abbrev s_tell_use : Stmt := topS 21
theorem sc_tell_use : FnScope ["telling", "term", "names", "definition", "names_there"] ["telling", "term", "names"] (defScope s_tell_use) := ⟨rfl, rfl, rfl, by decide +kernel, rfl, by decide +kernel, by decide +kernel⟩
abbrev s_go_on_with_function : Stmt := topS 22
theorem sc_go_on_with_function : FnScope ["telling", "definition", "names"] ["telling", "definition", "names"] (defScope s_go_on_with_function) := ⟨rfl, rfl, rfl, by decide +kernel, rfl, by decide +kernel, by decide +kernel⟩
section
variable {P : Program} {w : World} {K : PySem.W.Frag} {mg : Str → Option Value} {base : Heap} {CT CP CG DT DM : Addr} {FA : Sf → Addr} {f f1 f2 f3 f4 f5 f6 f7 f8 : Addr} {fd fd1 fd2 fd3 fd4 fd5 fd6 fd7 fd8 : FuncData}
theorem ok_tell_num (F : Fun K "tell_num" "tell_num" s_tell_num f fd) (T : Txt mg) (TC_Telling : TcT K CT) : FnOk P w K mg base CX0 1 f fd ["telling", "term", "names"] (spStp CT CP CG FA (.t .num)) := by
  refine F.ok sc_tell_num (fun vs H Q E h => ?_) (fun cdv A outer s H vs Q E hr h => ?_)
  · obtain ⟨tl, S, Fl, s, K, F, n, a, b, rfl, _⟩ := h
    rfl
  obtain ⟨tl, S, Fl, s, Ks, Fs, n, a, b, rfl, hc, ha, T0, hf, hq⟩ := h
  obtain ⟨t, Ev, rfl, hw⟩ := code_t hc
  obtain ⟨m, rfl⟩ := w_num hw
  rcases hq with ⟨c', st, gd, q⟩ | ⟨hb, _⟩
  rotate_left
  · cases hb
  cases st
  obtain ⟨e, c, ⟨p, rfl, hp⟩, rfl, hE, hz⟩ := ha
  refine ⟨_, (pss_one (ps_expr (pe_bm PySem.F.plainAttrs_list PySem.F.slot_list_append PySem.F.type_list_append mt_append (pe_fld (pv 0) rfl) (pa_cons (pe_op op_mod (pe_ix ix_tup (pv 1) pe_int (fun _ _ => rfl)) (pe_gint T.g_RECKONED_BY rfl)) pa_nil)))), ?_⟩
  obtain ⟨dx, ht⟩ := T0.ins
  obtain ⟨fs, hF, ef⟩ := T0.found
  refine ⟨_, rfl, tl, CT, dx, _, _, rfl, ht, TC_Telling.cl, TC_Telling.nF, tlF_found _ _ _, .inl ⟨rfl, _, SqL.of hF⟩, _, rfl, p, _, _, _, rfl, rfl, SqT.of hp, atI_n (n := 1) rfl rfl, _, _, rfl, rfl, (by show (0 : Int) < _; decide), Fl, _, _, rfl, rfl, hF, szK (by rw [T0.ltF hF]; have := hf.f; show Fs.length ≤ _; exact Nat.le_trans this (by decide)), ?_⟩
  exact q _ (.putF _) (T0.pushF hF (.num _))
theorem ok_tell_name (F : Fun K "tell_name" "tell_name" s_tell_name f fd) (T : Txt mg) (TC_Telling : TcT K CT) : FnOk P w K mg base CX0 1 f fd ["telling", "term", "names"] (spStp CT CP CG FA (.t .name)) := by
  refine F.ok sc_tell_name (fun vs H Q E h => ?_) (fun cdv A outer s H vs Q E hr h => ?_)
  · obtain ⟨tl, S, Fl, s, K, F, n, a, b, rfl, _⟩ := h
    rfl
  obtain ⟨tl, S, Fl, s, Ks, Fs, n, a, b, rfl, hc, ha, T0, hf, hq⟩ := h
  obtain ⟨t, Ev, rfl, hw⟩ := code_t hc
  obtain ⟨m, rfl⟩ := w_name hw
  rcases hq with ⟨c', st, gd, q⟩ | ⟨hb, _⟩
  rotate_left
  · cases hb
  cases st with
  | name hx =>
  obtain ⟨e, c, ⟨p, rfl, hp⟩, rfl, hE, hz⟩ := ha
  refine ⟨_, (pss_one (ps_expr (pe_bm PySem.F.plainAttrs_list PySem.F.slot_list_append PySem.F.type_list_append mt_append (pe_fld (pv 0) rfl) (pa_cons (pe_dget (hu_of hr) (pv 2) (pe_ix ix_tup (pv 1) pe_int (fun _ _ => rfl)) (fun _ _ => rfl)) pa_nil)))), ?_⟩
  obtain ⟨dx, ht⟩ := T0.ins
  obtain ⟨fs, hF, ef⟩ := T0.found
  obtain ⟨kvs, he, hl, hy⟩ := hE
  obtain ⟨v, hv, ev⟩ := hy m hx
  refine ⟨_, rfl, tl, CT, dx, _, _, rfl, ht, TC_Telling.cl, TC_Telling.nF, tlF_found _ _ _, .inl ⟨rfl, _, SqL.of hF⟩, _, rfl, _, rfl, p, _, _, _, rfl, rfl, SqT.of hp, atI_n (n := 1) rfl rfl, e, v, rfl, hv ▸ DGet.k (k := Sum.inr m) he, Fl, _, _, rfl, rfl, hF, szK (by rw [T0.ltF hF]; have := hf.f; show Fs.length ≤ _; exact Nat.le_trans this (by decide)), ?_⟩
  exact q _ (.putF _) (T0.pushF hF ev)
theorem ok_tell_two (F : Fun K "tell_two" "tell_two" s_tell_two f fd) (T : Txt mg) (TC_Telling : TcT K CT) (TL : Tl K w mg FA DT DM) (C_later : CalM P w K mg base CT "later" ["self", "step", "about", "names"] 1 (spLater CT CP FA) f1 fd1)
    (C_tell : CalM P w K mg base CT "tell" ["self", "term", "names"] 2 (spTell CT CP FA) f2 fd2) : FnOk P w K mg base CX0 3 f fd ["telling", "term", "names"] (fun vs H Q E => ∃ o : Bin, spStp CT CP CG FA (.t o.w) vs H Q E) := by
  refine F.ok sc_tell_two (fun vs H Q E h => ?_) (fun cdv A outer s H vs Q E hr h => ?_)
  · obtain ⟨o, tl, S, Fl, s, K, F, n, a, b, rfl, _⟩ := h
    rfl
  obtain ⟨o, tl, S, Fl, s, Ks, Fs, n, a, b, rfl, hc, ha, T0, hf, hq⟩ := h
  obtain ⟨t, Ev, rfl, hw⟩ := code_t hc
  obtain ⟨a, b, rfl⟩ := w_bin hw
  rcases hq with ⟨c', st, gd, q⟩ | ⟨hb, _⟩
  rotate_left
  · cases hb
  cases st
  obtain ⟨e, c, ⟨p, v1, v2, rfl, hp, ta, tb⟩, rfl, hE, hz⟩ := ha
  simp only [Tm.deep] at hz
  refine ⟨_, (pss_cons (ps_expr (pe_meth (pv 0) TC_Telling.cl C_later.m C_later.ok (hr.mono (by first | decide | omega)) C_later.b .nil pass0 (pa_cons (pe_glob (v := V.ref _) rfl TL.reckon rfl) (pa_cons (pe_ix ix_tup (pv 1) pe_int (fun _ _ => rfl)) (pa_cons (pv 2) pa_nil)))))
      (pss_cons (ps_expr (pe_meth (pv 0) TC_Telling.cl C_tell.m C_tell.ok (hr.mono (by first | decide | omega)) C_tell.b .nil pass0 (pa_cons (pe_ix ix_tup (pv 1) pe_int (fun _ _ => rfl)) (pa_cons (pv 2) pa_nil))))
      (pss_one (ps_expr (pe_meth (pv 0) TC_Telling.cl C_tell.m C_tell.ok (hr.mono (by first | decide | omega)) C_tell.b .nil pass0 (pa_cons (pe_ix ix_tup (pv 1) pe_int (fun _ _ => rfl)) (pa_cons (pv 2) pa_nil))))))), ?_⟩
  obtain ⟨dx, ht⟩ := T0.ins
  have hk : Ks.length + 1 ≤ 100000 := hf.k
  refine ⟨_, rfl, tl, dx, _, rfl, ht, no_later _ _ _, _, rfl, p, _, _, _, rfl, rfl, SqT.of hp, atI_n (n := 0) rfl rfl, _, rfl, tl, S, Fl, .reckon o, Ks, Fs, n, _, _, rfl, rfl, T0, by omega, fun H1 g1 T1 => ?_⟩
  have k1 := T0.kp g1
  obtain ⟨dx1, ht1⟩ := T1.ins
  refine ⟨_, rfl, tl, dx1, _, rfl, ht1, no_tell _ _ _, _, rfl, p, _, _, _, rfl, rfl, SqT.of (k1.tups _ _ hp), atI_n (n := 2) rfl rfl, _, rfl, tl, S, Fl, b, Ev, _, _, _, _, _, rfl, ⟨e, c, tb.mono k1.tups, rfl, hE.mono k1, by omega⟩, gd _ (.tail _ (.head _)), T1, by show Ks.length + 1 ≤ _; omega, fun H2 g2 T2 => ?_⟩
  have k2 := k1.trans (T1.kp g2)
  obtain ⟨dx2, ht2⟩ := T2.ins
  refine ⟨_, rfl, tl, dx2, _, rfl, ht2, no_tell _ _ _, _, rfl, p, _, _, _, rfl, rfl, SqT.of (k2.tups _ _ hp), atI_n (n := 1) rfl rfl, _, rfl, tl, S, Fl, a, Ev, _, _, _, _, _, rfl, ⟨e, c, ta.mono k2.tups, rfl, hE.mono k2, by omega⟩, gd _ (.head _), T2, by show Ks.length + 1 + 1 ≤ _; omega, fun H3 g3 T3 => ?_⟩
  exact q _ (g1.trans (g2.trans g3)) T3
theorem ok_reckon (F : Fun K "reckon" "reckon" s_reckon f fd) (T : Txt mg) (TC_Telling : TcT K CT) : FnOk P w K mg base CX0 1 f fd ["telling", "word", "names"] (spStp CT CP CG FA .reckon) := by
  refine F.ok sc_reckon (fun vs H Q E h => ?_) (fun cdv A outer s H vs Q E hr h => ?_)
  · obtain ⟨tl, S, Fl, s, K, F, n, a, b, rfl, _⟩ := h
    rfl
  obtain ⟨tl, S, Fl, s, Ks, Fs, n, a, b, rfl, hc, ha, T0, hf, hq⟩ := h
  rcases hq with ⟨c', st, gd, q⟩ | ⟨hb, _⟩
  rotate_left
  · cases hb; cases hc
  cases st <;> try cases hc
  rename_i o i j Fs h0 h1
  obtain rfl := ha
  refine ⟨_, (pss_cons (ps_set (i := 3) sc_reckon.nd rfl (Or.inl rfl) (pe_bm0 PySem.F.plainAttrs_list PySem.F.slot_list_pop PySem.F.type_list_pop mt_pop (pe_fld (pv 0) rfl)))
      (pss_cons (ps_set (i := 4) sc_reckon.nd rfl (Or.inl rfl) (pe_bm0 PySem.F.plainAttrs_list PySem.F.slot_list_pop PySem.F.type_list_pop mt_pop (pe_fld (pv 0) rfl)))
      (pss_one (ps_if (pt_cmpR op_eq (pv 1) pe_str (nomark _)) (pss_one (ps_expr (pe_bm PySem.F.plainAttrs_list PySem.F.slot_list_append PySem.F.type_list_append mt_append (pe_fld (pv 0) rfl) (pa_cons (pe_op op_mod (pe_op op_add (pv 4) (pv 3)) (pe_gint T.g_RECKONED_BY rfl)) pa_nil)))) (pss_one (ps_if (pt_cmpR op_eq (pv 1) pe_str (nomark _)) (pss_one (ps_expr (pe_bm PySem.F.plainAttrs_list PySem.F.slot_list_append PySem.F.type_list_append mt_append (pe_fld (pv 0) rfl) (pa_cons (pe_op op_mod (pe_op op_mul (pv 4) (pv 3)) (pe_gint T.g_RECKONED_BY rfl)) pa_nil)))) (pss_one (ps_expr (pe_bm PySem.F.plainAttrs_list PySem.F.slot_list_append PySem.F.type_list_append mt_append (pe_fld (pv 0) rfl) (pa_cons (pe_ifExp (pt_cmpR op_lt (pv 4) (pv 3) (nomark _)) pe_int pe_int) pa_nil)))))))))), ?_⟩
  obtain ⟨dx, ht⟩ := T0.ins
  obtain ⟨fs, u, hF, eu, T1⟩ := T0.popF
  cases eu
  obtain ⟨fs1, u1, hF1, eu1, T2⟩ := T1.popF
  cases eu1
  have g1 : Frm tl S Fl H (upd H Fl (.lst fs.reverse)) := .putF _
  have g2 : Frm tl S Fl (upd H Fl (.lst fs.reverse)) (upd (upd H Fl (.lst fs.reverse)) Fl (.lst fs1.reverse)) := .putF _
  obtain ⟨dx1, ht1⟩ := T1.ins
  obtain ⟨dx2, ht2⟩ := T2.ins
  refine ⟨_, rfl, tl, CT, dx, _, _, rfl, ht, TC_Telling.cl, TC_Telling.nF, tlF_found _ _ _, .inl ⟨rfl, _, SqL.of hF⟩, Fl, _, _, rfl, rfl, hF, rev_last, ?_⟩
  rw [rev_dropLast]
  refine ⟨_, rfl, tl, CT, dx1, _, _, rfl, ht1, TC_Telling.cl, TC_Telling.nF, tlF_found _ _ _, .inl ⟨rfl, _, SqL.of hF1⟩, Fl, _, _, rfl, rfl, hF1, rev_last, ?_⟩
  rw [rev_dropLast]
  generalize upd (upd H Fl (.lst fs.reverse)) Fl (.lst fs1.reverse) = H2 at T2 ht2 g2 ⊢
  obtain ⟨fs2, hF2, ef2⟩ := T2.found
  have fl2 : fs2.reverse.length < sizeLine := szK (by rw [T2.ltF hF2]; have := hf.f; simp only [List.length_cons] at this; show Fs.length ≤ _; omega)
  have fin : ∀ z : Int, z = o.op i j → Q .non (upd H2 Fl (.lst (fs2.reverse ++ [.int z]))) := fun z e => by
    subst e
    exact q _ (g1.trans (g2.trans (.putF _))) (T2.pushF hF2 (.num _))
  refine ⟨_, rfl, rfl, _, rfl, ite2 (fun c1 => ?_) fun c1 => ?_⟩
  · have e : o.w = .sum := str_w' .sum c1
    refine ⟨_, rfl, tl, CT, dx2, _, _, rfl, ht2, TC_Telling.cl, TC_Telling.nF, tlF_found _ _ _, .inl ⟨rfl, _, SqL.of hF2⟩, _, rfl, _, rfl, _, _, rfl, rfl, _, _, rfl, rfl, (by show (0 : Int) < _; decide), Fl, _, _, rfl, rfl, hF2, fl2, fin _ ?_⟩
    cases o <;> first | rfl | cases e
  refine ⟨_, rfl, rfl, _, rfl, ite2 (fun c2 => ?_) fun c2 => ?_⟩
  · have e : o.w = .product := str_w' .product c2
    refine ⟨_, rfl, tl, CT, dx2, _, _, rfl, ht2, TC_Telling.cl, TC_Telling.nF, tlF_found _ _ _, .inl ⟨rfl, _, SqL.of hF2⟩, _, rfl, _, rfl, _, _, rfl, rfl, .inl ⟨by omega, by omega⟩, _, _, rfl, rfl, (by show (0 : Int) < _; decide), Fl, _, _, rfl, rfl, hF2, fl2, fin _ ?_⟩
    cases o <;> first | rfl | cases e
  have e : o = .less := by
    cases o with
    | sum => exact absurd (decide_eq_true rfl) c1
    | product => exact absurd (decide_eq_true rfl) c2
    | less => rfl
  subst e
  refine ⟨_, rfl, tl, CT, dx2, _, _, rfl, ht2, TC_Telling.cl, TC_Telling.nF, tlF_found _ _ _, .inl ⟨rfl, _, SqL.of hF2⟩, _, rfl, _, rfl, _, _, rfl, rfl, _, rfl, ?_⟩
  refine ite2 (fun c3 => ?_) fun c3 => ?_
  · exact ⟨Fl, _, _, rfl, rfl, hF2, fl2, fin _ (by show 1 = if i < j then (1 : Int) else 0; rw [if_pos (of_decide_eq_true c3)])⟩
  · exact ⟨Fl, _, _, rfl, rfl, hF2, fl2, fin _ (by show 0 = if i < j then (1 : Int) else 0; rw [if_neg (fun z => c3 (decide_eq_true z))])⟩
end
theorem iteT' {c A B : Prop} [Decidable c] (h : c) (a : A) : if c then A else B := by
  rw [if_pos h]
  exact a
theorem iteF' {c A B : Prop} [Decidable c] (h : ¬ c) (b : B) : if c then A else B := by
  rw [if_neg h]
  exact b
section
variable {P : Program} {w : World} {K : PySem.W.Frag} {mg : Str → Option Value} {base : Heap} {CT CP CG DT DM : Addr} {FA : Sf → Addr} {f f1 f2 f3 f4 f5 f6 f7 f8 : Addr} {fd fd1 fd2 fd3 fd4 fd5 fd6 fd7 fd8 : FuncData}
theorem ok_tell_when (F : Fun K "tell_when" "tell_when" s_tell_when f fd) (T : Txt mg) (TC_Telling : TcT K CT) (TL : Tl K w mg FA DT DM) (C_later : CalM P w K mg base CT "later" ["self", "step", "about", "names"] 1 (spLater CT CP FA) f1 fd1)
    (C_tell : CalM P w K mg base CT "tell" ["self", "term", "names"] 2 (spTell CT CP FA) f2 fd2) : FnOk P w K mg base CX0 3 f fd ["telling", "term", "names"] (spStp CT CP CG FA (.t .when)) := by
  refine F.ok sc_tell_when (fun vs H Q E h => ?_) (fun cdv A outer s H vs Q E hr h => ?_)
  · obtain ⟨tl, S, Fl, s, K, F, n, a, b, rfl, _⟩ := h
    rfl
  obtain ⟨tl, S, Fl, s, Ks, Fs, n, a, b, rfl, hc, ha, T0, hf, hq⟩ := h
  obtain ⟨t, Ev, rfl, hw⟩ := code_t hc
  obtain ⟨c0, a, b, rfl⟩ := w_when hw
  rcases hq with ⟨c', st, gd, q⟩ | ⟨hb, _⟩
  rotate_left
  · cases hb
  cases st
  obtain ⟨e, c, ta, rfl, hE, hz⟩ := id ha
  obtain ⟨p, v1, v2, v3, rfl, hp, tc, _, _⟩ := id ta
  refine ⟨_, (pss_cons (ps_expr (pe_meth (pv 0) TC_Telling.cl C_later.m C_later.ok (hr.mono (by first | decide | omega)) C_later.b .nil pass0 (pa_cons (pe_glob (v := V.ref _) rfl TL.choose rfl) (pa_cons (pv 1) (pa_cons (pv 2) pa_nil)))))
      (pss_one (ps_expr (pe_meth (pv 0) TC_Telling.cl C_tell.m C_tell.ok (hr.mono (by first | decide | omega)) C_tell.b .nil pass0 (pa_cons (pe_ix ix_tup (pv 1) pe_int (fun _ _ => rfl)) (pa_cons (pv 2) pa_nil)))))), ?_⟩
  obtain ⟨dx, ht⟩ := T0.ins
  have hk : Ks.length + 1 ≤ 100000 := hf.k
  refine ⟨_, rfl, tl, dx, _, rfl, ht, no_later _ _ _, _, rfl, _, rfl, tl, S, Fl, .choose c0 a b Ev, Ks, Fs, n, _, _, rfl, ⟨e, c, ta, rfl, hE, hz⟩, T0, by omega, fun H1 g1 T1 => ?_⟩
  have k1 := T0.kp g1
  obtain ⟨dx1, ht1⟩ := T1.ins
  simp only [Tm.deep] at hz
  refine ⟨_, rfl, tl, dx1, _, rfl, ht1, no_tell _ _ _, _, rfl, p, _, _, _, rfl, rfl, SqT.of (k1.tups _ _ hp), atI_n (n := 1) rfl rfl, _, rfl, tl, S, Fl, c0, Ev, _, _, _, _, _, rfl, ⟨e, c, tc.mono k1.tups, rfl, hE.mono k1, by omega⟩, gd _ (.head _), T1, by show Ks.length + 1 ≤ _; omega, fun H2 g2 T2 => q _ (g1.trans g2) T2⟩
theorem ok_choose (F : Fun K "choose" "choose" s_choose f fd) (T : Txt mg) (TC_Telling : TcT K CT)
    (C_tell : CalM P w K mg base CT "tell" ["self", "term", "names"] 2 (spTell CT CP FA) f2 fd2) : FnOk P w K mg base CX0 3 f fd ["telling", "term", "names"] (spStp CT CP CG FA .choose) := by
  refine F.ok sc_choose (fun vs H Q E h => ?_) (fun cdv A outer s H vs Q E hr h => ?_)
  · obtain ⟨tl, S, Fl, s, K, F, n, a, b, rfl, _⟩ := h
    rfl
  obtain ⟨tl, S, Fl, s, Ks, Fs, n, a, b, rfl, hc, ha, T0, hf, hq⟩ := h
  rcases hq with ⟨c', st, gd, q⟩ | ⟨hb, _⟩
  rotate_left
  · cases hb; cases hc
  have hk : Ks.length + 1 ≤ 100000 := hf.k
  refine ⟨_, (pss_one (ps_if (pt_cmpR op_ne (pe_bm0 PySem.F.plainAttrs_list PySem.F.slot_list_pop PySem.F.type_list_pop mt_pop (pe_fld (pv 0) rfl)) pe_int (nomark _)) (pss_one (ps_expr (pe_meth (pv 0) TC_Telling.cl C_tell.m C_tell.ok (hr.mono (by first | decide | omega)) C_tell.b .nil pass0 (pa_cons (pe_ix ix_tup (pv 1) pe_int (fun _ _ => rfl)) (pa_cons (pv 2) pa_nil))))) (pss_one (ps_expr (pe_meth (pv 0) TC_Telling.cl C_tell.m C_tell.ok (hr.mono (by first | decide | omega)) C_tell.b .nil pass0 (pa_cons (pe_ix ix_tup (pv 1) pe_int (fun _ _ => rfl)) (pa_cons (pv 2) pa_nil))))))), ?_⟩
  cases st <;> try cases hc
  · rename_i c0 a b Ev i Fs hi
    obtain ⟨e, c, ⟨p, v1, v2, v3, rfl, hp, tc, ta, tb⟩, rfl, hE, hz⟩ := ha
    simp only [Tm.deep] at hz
    obtain ⟨dx, ht⟩ := T0.ins
    obtain ⟨fs, u, hF, eu, T1⟩ := T0.popF
    cases eu
    have k1 := T0.kp (H' := upd H Fl (.lst fs.reverse)) (.putF _)
    obtain ⟨dx1, ht1⟩ := T1.ins
    refine ⟨_, rfl, tl, CT, dx, _, _, rfl, ht, TC_Telling.cl, TC_Telling.nF, tlF_found _ _ _, .inl ⟨rfl, _, SqL.of hF⟩, Fl, _, _, rfl, rfl, hF, rev_last, ?_⟩
    rw [rev_dropLast]
    refine ⟨rfl, _, rfl, iteT' (by simpa using hi) ?_⟩
    refine ⟨_, rfl, tl, dx1, _, rfl, ht1, no_tell _ _ _, _, rfl, p, _, _, _, rfl, rfl, SqT.of (k1.tups _ _ hp), atI_n (n := 2) rfl rfl, _, rfl, tl, S, Fl, a, Ev, _, _, _, _, _, rfl, ⟨e, c, ta.mono k1.tups, rfl, hE.mono k1, by omega⟩, gd _ (.head _), T1, by omega, fun H2 g2 T2 => q _ (Frm.trans (.putF _) g2) T2⟩
  · rename_i c0 a b Ev Fs
    obtain ⟨e, c, ⟨p, v1, v2, v3, rfl, hp, tc, ta, tb⟩, rfl, hE, hz⟩ := ha
    simp only [Tm.deep] at hz
    obtain ⟨dx, ht⟩ := T0.ins
    obtain ⟨fs, u, hF, eu, T1⟩ := T0.popF
    cases eu
    have k1 := T0.kp (H' := upd H Fl (.lst fs.reverse)) (.putF _)
    obtain ⟨dx1, ht1⟩ := T1.ins
    refine ⟨_, rfl, tl, CT, dx, _, _, rfl, ht, TC_Telling.cl, TC_Telling.nF, tlF_found _ _ _, .inl ⟨rfl, _, SqL.of hF⟩, Fl, _, _, rfl, rfl, hF, rev_last, ?_⟩
    rw [rev_dropLast]
    refine ⟨rfl, _, rfl, iteF' (by simp) ?_⟩
    refine ⟨_, rfl, tl, dx1, _, rfl, ht1, no_tell _ _ _, _, rfl, p, _, _, _, rfl, rfl, SqT.of (k1.tups _ _ hp), atI_n (n := 3) rfl rfl, _, rfl, tl, S, Fl, b, Ev, _, _, _, _, _, rfl, ⟨e, c, tb.mono k1.tups, rfl, hE.mono k1, by omega⟩, gd _ (.head _), T1, by omega, fun H2 g2 T2 => q _ (Frm.trans (.putF _) g2) T2⟩
theorem ok_tell_let (F : Fun K "tell_let" "tell_let" s_tell_let f fd) (T : Txt mg) (TC_Telling : TcT K CT) (TL : Tl K w mg FA DT DM) (C_later : CalM P w K mg base CT "later" ["self", "step", "about", "names"] 1 (spLater CT CP FA) f1 fd1)
    (C_tell : CalM P w K mg base CT "tell" ["self", "term", "names"] 2 (spTell CT CP FA) f2 fd2) : FnOk P w K mg base CX0 3 f fd ["telling", "term", "names"] (spStp CT CP CG FA (.t .let)) := by
  refine F.ok sc_tell_let (fun vs H Q E h => ?_) (fun cdv A outer s H vs Q E hr h => ?_)
  · obtain ⟨tl, S, Fl, s, K, F, n, a, b, rfl, _⟩ := h
    rfl
  obtain ⟨tl, S, Fl, s, Ks, Fs, n, a, b, rfl, hc, ha, T0, hf, hq⟩ := h
  obtain ⟨t, Ev, rfl, hw⟩ := code_t hc
  obtain ⟨x, a, b, rfl⟩ := w_let hw
  rcases hq with ⟨c', st, gd, q⟩ | ⟨hb, _⟩
  rotate_left
  · cases hb
  cases st
  obtain ⟨e, c, ta, rfl, hE, hz⟩ := id ha
  obtain ⟨p, v1, v2, rfl, hp, tc, _⟩ := id ta
  refine ⟨_, (pss_cons (ps_expr (pe_meth (pv 0) TC_Telling.cl C_later.m C_later.ok (hr.mono (by first | decide | omega)) C_later.b .nil pass0 (pa_cons (pe_glob (v := V.ref _) rfl TL.goB rfl) (pa_cons (pv 1) (pa_cons (pv 2) pa_nil)))))
      (pss_one (ps_expr (pe_meth (pv 0) TC_Telling.cl C_tell.m C_tell.ok (hr.mono (by first | decide | omega)) C_tell.b .nil pass0 (pa_cons (pe_ix ix_tup (pv 1) pe_int (fun _ _ => rfl)) (pa_cons (pv 2) pa_nil)))))), ?_⟩
  obtain ⟨dx, ht⟩ := T0.ins
  have hk : Ks.length + 1 ≤ 100000 := hf.k
  refine ⟨_, rfl, tl, dx, _, rfl, ht, no_later _ _ _, _, rfl, _, rfl, tl, S, Fl, .goB x a b Ev, Ks, Fs, n, _, _, rfl, ⟨e, c, ta, rfl, hE, hz⟩, T0, by omega, fun H1 g1 T1 => ?_⟩
  have k1 := T0.kp g1
  obtain ⟨dx1, ht1⟩ := T1.ins
  simp only [Tm.deep] at hz
  refine ⟨_, rfl, tl, dx1, _, rfl, ht1, no_tell _ _ _, _, rfl, p, _, _, _, rfl, rfl, SqT.of (k1.tups _ _ hp), atI_n (n := 2) rfl rfl, _, rfl, tl, S, Fl, a, Ev, _, _, _, _, _, rfl, ⟨e, c, tc.mono k1.tups, rfl, hE.mono k1, by omega⟩, gd _ (.head _), T1, by show Ks.length + 1 ≤ _; omega, fun H2 g2 T2 => q _ (g1.trans g2) T2⟩
theorem ok_goB (F : Fun K "go_on_with_b" "go_on_with_b" s_go_on_with_b f fd) (T : Txt mg) (TC_Telling : TcT K CT)
    (C_tell : CalM P w K mg base CT "tell" ["self", "term", "names"] 2 (spTell CT CP FA) f2 fd2) : FnOk P w K mg base CX0 3 f fd ["telling", "term", "names"] (spStp CT CP CG FA .goB) := by
  refine F.ok sc_go_on_with_b (fun vs H Q E h => ?_) (fun cdv A outer s H vs Q E hr h => ?_)
  · obtain ⟨tl, S, Fl, s, K, F, n, a, b, rfl, _⟩ := h
    rfl
  obtain ⟨tl, S, Fl, s, Ks, Fs, n, a, b, rfl, hc, ha, T0, hf, hq⟩ := h
  rcases hq with ⟨c', st, gd, q⟩ | ⟨hb, _⟩
  rotate_left
  · cases hb; cases hc
  have hk : Ks.length + 1 ≤ 100000 := hf.k
  refine ⟨_, (pss_one (ps_expr (pe_meth (pv 0) TC_Telling.cl C_tell.m C_tell.ok (hr.mono (by first | decide | omega)) C_tell.b .nil pass0 (pa_cons (pe_ix ix_tup (pv 1) pe_int (fun _ _ => rfl)) (pa_cons (pe_star (pv 2) (pe_ix ix_tup (pv 1) pe_int (fun _ _ => rfl)) (pe_bm0 PySem.F.plainAttrs_list PySem.F.slot_list_pop PySem.F.type_list_pop mt_pop (pe_fld (pv 0) rfl))) pa_nil))))), ?_⟩
  cases st <;> try cases hc
  rename_i x a b Ev v Fs hv
  obtain ⟨e, c, ⟨p, v1, v2, rfl, hp, ta, tb⟩, rfl, hE, hz⟩ := ha
  simp only [Tm.deep] at hz
  obtain ⟨dx, ht⟩ := T0.ins
  obtain ⟨fs, u, hF, eu, T1⟩ := T0.popF
  obtain ⟨kvs, he, hl, hy⟩ := id hE
  refine ⟨_, rfl, tl, dx, _, rfl, ht, no_tell _ _ _, _, rfl, p, _, _, _, rfl, rfl, SqT.of hp, atI_n (n := 3) rfl rfl, fun pn np => ?_⟩
  refine ⟨_, rfl, e, kvs, rfl, (ne_of_none he np).symm, (by rw [upd_ne (ne_of_none he np)]; exact he), upd_same, szK (by omega), fun qn nq => ?_⟩
  have old : ∀ b o, H b = some o → upd (upd (upd H pn (.dK [])) pn (.dK kvs)) qn (.dK []) b = some o := fun b o h => by
    have nq' := nq
    have pq : qn ≠ pn := fun z => by rw [z, upd_same] at nq'; cases nq'
    rw [upd_ne pq, upd_ne pq] at nq'
    rw [upd_ne (ne_of_none h nq'), upd_ne (ne_of_none h np), upd_ne (ne_of_none h np)]
    exact h
  obtain ⟨g3, T3, E3⟩ := star_pop (x := x) (o1 := .dK []) (o2 := .dK []) (o3 := .dK [(Sum.inr x, u)]) T0 he hE hF eu T1 np nq
  have pF : pn ≠ Fl := (ne_of_none hF np).symm
  have qF : qn ≠ Fl := fun z => by have := old _ _ hF; rw [← z, upd_same] at this; cases this
  have qp : qn ≠ pn := fun z => by rw [z, upd_same] at nq; cases nq
  refine ⟨_, rfl, p, _, _, _, rfl, rfl, SqT.of (old _ _ hp), atI_n (n := 1) rfl rfl, ?_⟩
  refine ⟨_, rfl, tl, CT, dx, _, _, rfl, old _ _ ht, TC_Telling.cl, TC_Telling.nF, tlF_found _ _ _, .inl ⟨rfl, _, SqL.of (old _ _ hF)⟩, Fl, _, _, rfl, rfl, old _ _ hF, rev_last, ?_⟩
  rw [rev_dropLast]
  refine ⟨by rw [upd_ne pF, upd_ne qp.symm, upd_same], by rw [upd_ne qF, upd_same], Sum.inr x, rfl, ?_⟩
  have k3 := T0.kp g3
  exact ⟨tl, S, Fl, b, Ev.set x v, _, _, _, _, _, rfl, ⟨pn, c + 1, tb.mono k3.tups, rfl, E3, by omega⟩, gd _ (.head _), T3, by omega, fun H2 g2 T2 => q _ (g3.trans g2) T2⟩
theorem ok_tell_turns (F : Fun K "tell_turns" "tell_turns" s_tell_turns f fd) (T : Txt mg) (TC_Telling : TcT K CT) (TL : Tl K w mg FA DT DM) (C_later : CalM P w K mg base CT "later" ["self", "step", "about", "names"] 1 (spLater CT CP FA) f1 fd1)
    (C_tell : CalM P w K mg base CT "tell" ["self", "term", "names"] 2 (spTell CT CP FA) f2 fd2) : FnOk P w K mg base CX0 3 f fd ["telling", "term", "names"] (spStp CT CP CG FA (.t .turns)) := by
  refine F.ok sc_tell_turns (fun vs H Q E h => ?_) (fun cdv A outer s H vs Q E hr h => ?_)
  · obtain ⟨tl, S, Fl, s, K, F, n, a, b, rfl, _⟩ := h
    rfl
  obtain ⟨tl, S, Fl, s, Ks, Fs, n, a, b, rfl, hc, ha, T0, hf, hq⟩ := h
  obtain ⟨t, Ev, rfl, hw⟩ := code_t hc
  obtain ⟨m, x, a, b, rfl⟩ := w_turns hw
  rcases hq with ⟨c', st, gd, q⟩ | ⟨hb, _⟩
  rotate_left
  · cases hb
  cases st
  obtain ⟨e, c, ta, rfl, hE, hz⟩ := id ha
  obtain ⟨p, v1, v2, rfl, hp, tc, _⟩ := id ta
  refine ⟨_, (pss_cons (ps_expr (pe_meth (pv 0) TC_Telling.cl C_later.m C_later.ok (hr.mono (by first | decide | omega)) C_later.b .nil pass0 (pa_cons (pe_glob (v := V.ref _) rfl TL.turn rfl) (pa_cons (pe_tup (pa_cons (pv 1) (pa_cons (pe_ix ix_tup (pv 1) pe_int (fun _ _ => rfl)) pa_nil))) (pa_cons (pv 2) pa_nil)))))
      (pss_one (ps_expr (pe_meth (pv 0) TC_Telling.cl C_tell.m C_tell.ok (hr.mono (by first | decide | omega)) C_tell.b .nil pass0 (pa_cons (pe_ix ix_tup (pv 1) pe_int (fun _ _ => rfl)) (pa_cons (pv 2) pa_nil)))))), ?_⟩
  obtain ⟨dx, ht⟩ := T0.ins
  have hk : Ks.length + 1 ≤ 100000 := hf.k
  refine ⟨_, rfl, tl, dx, _, rfl, ht, no_later _ _ _, _, rfl, _, rfl, p, _, _, _, rfl, rfl, SqT.of hp, atI_n (n := 1) rfl rfl, sz 2, fun r hr' => ?_⟩
  have s1 := same_new hr' (.tup [.ref p, .int m])
  have k0 : Kp CP H (upd H r (.tup [.ref p, .int m])) := .of_same s1
  refine ⟨_, rfl, tl, S, Fl, .turn m x a b m Ev, Ks, Fs, n, _, _, rfl, ⟨r, _, e, c, rfl, upd_same, ta.mono k0.tups, rfl, hE.mono k0, hz⟩, T0.same s1, by omega, fun H1 g1 T1 => ?_⟩
  have k1 := k0.trans ((T0.same s1).kp g1)
  obtain ⟨dx1, ht1⟩ := T1.ins
  simp only [Tm.deep] at hz
  refine ⟨_, rfl, tl, dx1, _, rfl, ht1, no_tell _ _ _, _, rfl, p, _, _, _, rfl, rfl, SqT.of (k1.tups _ _ hp), atI_n (n := 3) rfl rfl, _, rfl, tl, S, Fl, a, Ev, _, _, _, _, _, rfl, ⟨e, c, tc.mono k1.tups, rfl, hE.mono k1, by omega⟩, gd _ (.head _), T1, by show Ks.length + 1 ≤ _; omega, fun H2 g2 T2 => q _ ((Frm.of_same s1).trans (g1.trans g2)) T2⟩
theorem ok_turn (F : Fun K "turn" "turn" s_turn f fd) (T : Txt mg) (TC_Telling : TcT K CT) (TL : Tl K w mg FA DT DM) (C_later : CalM P w K mg base CT "later" ["self", "step", "about", "names"] 1 (spLater CT CP FA) f1 fd1)
    (C_tell : CalM P w K mg base CT "tell" ["self", "term", "names"] 2 (spTell CT CP FA) f2 fd2) : FnOk P w K mg base CX0 3 f fd ["telling", "about", "names"] (spStp CT CP CG FA .turn) := by
  refine F.ok sc_turn (fun vs H Q E h => ?_) (fun cdv A outer s H vs Q E hr h => ?_)
  · obtain ⟨tl, S, Fl, s, K, F, n, a, b, rfl, _⟩ := h
    rfl
  obtain ⟨tl, S, Fl, s, Ks, Fs, n, a, b, rfl, hc, ha, T0, hf, hq⟩ := h
  rcases hq with ⟨c', st, gd, q⟩ | ⟨hb, _⟩
  rotate_left
  · cases hb; cases hc
  have hk : Ks.length + 1 ≤ 100000 := hf.k
  refine ⟨_, (pss_cons (ps_asg (pv 1) (pg_tup rfl (pgs_cons (pg_name (i := 3) sc_turn.nd rfl (Or.inl rfl)) (pgs_cons (pg_name (i := 4) sc_turn.nd rfl (Or.inl rfl)) pgs_nil))))
      (pss_one (ps_if (pt_cmpR op_gt (pv 4) pe_int (nomark _)) (pss_cons (ps_expr (pe_meth (pv 0) TC_Telling.cl C_later.m C_later.ok (hr.mono (by first | decide | omega)) C_later.b .nil pass0 (pa_cons (pe_glob (v := V.ref _) rfl TL.turn rfl) (pa_cons (pe_tup (pa_cons (pv 3) (pa_cons (pe_op op_sub (pv 4) pe_int) pa_nil))) (pa_cons (pv 2) pa_nil)))))
      (pss_one (ps_expr (pe_meth (pv 0) TC_Telling.cl C_tell.m C_tell.ok (hr.mono (by first | decide | omega)) C_tell.b .nil pass0 (pa_cons (pe_ix ix_tup (pv 3) pe_int (fun _ _ => rfl)) (pa_cons (pe_star (pv 2) (pe_ix ix_tup (pv 3) pe_int (fun _ _ => rfl)) (pe_bm0 PySem.F.plainAttrs_list PySem.F.slot_list_pop PySem.F.type_list_pop mt_pop (pe_fld (pv 0) rfl))) pa_nil)))))) pss_nil))), ?_⟩
  cases st <;> try cases hc
  · rename_i m x a b j Ev hj
    obtain ⟨r, tv, e, c, rfl, hr', ta, rfl, hE, hz⟩ := ha
    refine ⟨_, rfl, r, _, rfl, SqT.of hr', rfl, _, _, rfl, _, _, rfl, rfl, ?_⟩
    refine ⟨_, rfl, _, _, rfl, rfl, _, rfl, iteF' (by simpa using hj) ?_⟩
    exact q _ .refl T0
  · rename_i m x a b j Ev v Fs hj hv
    obtain ⟨r, tv, e, c, rfl, hr', ta, rfl, hE, hz⟩ := ha
    obtain ⟨p, v1, v2, rfl, hp, _, tb⟩ := id ta
    refine ⟨_, rfl, r, _, rfl, SqT.of hr', rfl, _, _, rfl, _, _, rfl, rfl, ?_⟩
    refine ⟨_, rfl, _, _, rfl, rfl, _, rfl, iteT' (by simpa using hj) ?_⟩
    obtain ⟨dx, ht⟩ := T0.ins
    refine ⟨_, rfl, tl, dx, _, rfl, ht, no_later _ _ _, _, rfl, _, rfl, _, _, rfl, rfl, sz 2, fun r1 hr1 => ?_⟩
    have s1 := same_new hr1 (.tup [.ref p, .int (j - 1)])
    have k0 : Kp CP H (upd H r1 (.tup [.ref p, .int (j - 1)])) := .of_same s1
    refine ⟨_, rfl, tl, S, Fl, .turn m x a b (j - 1) Ev, Ks, v :: Fs, n, _, _, rfl, ⟨r1, _, e, c, rfl, upd_same, ta.mono k0.tups, rfl, hE.mono k0, hz⟩, T0.same s1, by omega, fun H1 g1 T1 => ?_⟩
    have k1 := k0.trans ((T0.same s1).kp g1)
    obtain ⟨dx1, ht1⟩ := T1.ins
    simp only [Tm.deep] at hz
    have hE1 := hE.mono k1
    have hp1 := k1.tups _ _ hp
    obtain ⟨fs, u, hF, eu, T2⟩ := T1.popF
    obtain ⟨kvs, he, hl, hy⟩ := id hE1
    refine ⟨_, rfl, tl, dx1, _, rfl, ht1, no_tell _ _ _, _, rfl, p, _, _, _, rfl, rfl, SqT.of hp1, atI_n (n := 4) rfl rfl, fun pn np => ?_⟩
    refine ⟨_, rfl, e, kvs, rfl, (ne_of_none he np).symm, (by rw [upd_ne (ne_of_none he np)]; exact he), upd_same, szK (by omega), fun qn nq => ?_⟩
    have old : ∀ b o, H1 b = some o → upd (upd (upd H1 pn (.dK [])) pn (.dK kvs)) qn (.dK []) b = some o := fun b o h => by
      have nq' := nq
      have pq : qn ≠ pn := fun z => by rw [z, upd_same] at nq'; cases nq'
      rw [upd_ne pq, upd_ne pq] at nq'
      rw [upd_ne (ne_of_none h nq'), upd_ne (ne_of_none h np), upd_ne (ne_of_none h np)]
      exact h
    obtain ⟨g3, T3, E3⟩ := star_pop (x := x) (o1 := .dK []) (o2 := .dK []) (o3 := .dK [(Sum.inr x, u)]) T1 he hE1 hF eu T2 np nq
    have pF : pn ≠ Fl := (ne_of_none hF np).symm
    have qF : qn ≠ Fl := fun z => by have := old _ _ hF; rw [← z, upd_same] at this; cases this
    have qp : qn ≠ pn := fun z => by rw [z, upd_same] at nq; cases nq
    refine ⟨_, rfl, p, _, _, _, rfl, rfl, SqT.of (old _ _ hp1), atI_n (n := 2) rfl rfl, ?_⟩
    refine ⟨_, rfl, tl, CT, dx1, _, _, rfl, old _ _ ht1, TC_Telling.cl, TC_Telling.nF, tlF_found _ _ _, .inl ⟨rfl, _, SqL.of (old _ _ hF)⟩, Fl, _, _, rfl, rfl, old _ _ hF, rev_last, ?_⟩
    rw [rev_dropLast]
    refine ⟨by rw [upd_ne pF, upd_ne qp.symm, upd_same], by rw [upd_ne qF, upd_same], Sum.inr x, rfl, ?_⟩
    have k3 := k1.trans (T1.kp g3)
    exact ⟨tl, S, Fl, b, Ev.set x v, _, _, _, _, _, rfl, ⟨pn, c + 1, tb.mono k3.tups, rfl, E3, by omega⟩, gd _ (.head _), T3, by show Ks.length + 1 ≤ _; omega, fun H2 g2 T2 => q _ ((Frm.of_same s1).trans (g1.trans (g3.trans g2))) T2⟩
theorem ok_tell_def (F : Fun K "tell_def" "tell_def" s_tell_def f fd) (T : Txt mg) (TC_Telling : TcT K CT)
    (C_tell : CalM P w K mg base CT "tell" ["self", "term", "names"] 2 (spTell CT CP FA) f2 fd2) : FnOk P w K mg base CX0 3 f fd ["telling", "term", "names"] (spStp CT CP CG FA (.t .def)) := by
  refine F.ok sc_tell_def (fun vs H Q E h => ?_) (fun cdv A outer s H vs Q E hr h => ?_)
  · obtain ⟨tl, S, Fl, s, K, F, n, a, b, rfl, _⟩ := h
    rfl
  obtain ⟨tl, S, Fl, s, Ks, Fs, n, a, b, rfl, hc, ha, T0, hf, hq⟩ := h
  obtain ⟨t, Ev, rfl, hw⟩ := code_t hc
  obtain ⟨g, x, k, a, b, rfl⟩ := w_def hw
  rcases hq with ⟨c', st, gd, q⟩ | ⟨hb, _⟩
  rotate_left
  · cases hb
  cases st
  obtain ⟨e, c, ta, rfl, hE, hz⟩ := id ha
  obtain ⟨p, v1, v2, rfl, hp, tc, tb⟩ := id ta
  refine ⟨_, (pss_one (ps_expr (pe_meth (pv 0) TC_Telling.cl C_tell.m C_tell.ok (hr.mono (by first | decide | omega)) C_tell.b .nil pass0 (pa_cons (pe_ix ix_tup (pv 1) pe_int (fun _ _ => rfl)) (pa_cons (pe_star (pv 2) (pe_ix ix_tup (pv 1) pe_int (fun _ _ => rfl)) (pe_tup (pa_cons (pv 1) (pa_cons (pv 2) pa_nil)))) pa_nil))))), ?_⟩
  obtain ⟨dx, ht⟩ := T0.ins
  have hk : Ks.length + 1 ≤ 100000 := hf.k
  obtain ⟨kvs, he, hl, hy⟩ := id hE
  refine ⟨_, rfl, tl, dx, _, rfl, ht, no_tell _ _ _, _, rfl, p, _, _, _, rfl, rfl, SqT.of hp, atI_n (n := 5) rfl rfl, fun pn np => ?_⟩
  refine ⟨_, rfl, e, kvs, rfl, (ne_of_none he np).symm, (by rw [upd_ne (ne_of_none he np)]; exact he), upd_same, szK (by simp only [Tm.deep] at hz; omega), fun qn nq => ?_⟩
  have pq : qn ≠ pn := fun z => by rw [z, upd_same] at nq; cases nq
  have nq0 : H qn = none := by
    rw [upd_ne pq, upd_ne pq] at nq
    exact nq
  have old : Same H (upd (upd (upd H pn (.dK [])) pn (.dK kvs)) qn (.dK [])) := fun b o h => by
    rw [upd_ne (ne_of_none h nq0), upd_ne (ne_of_none h np), upd_ne (ne_of_none h np)]
    exact h
  refine ⟨_, rfl, p, _, _, _, rfl, rfl, SqT.of (old _ _ hp), atI_n (n := 1) rfl rfl, _, rfl, _, rfl, sz 2, fun r hr' => ?_⟩
  have rp : r ≠ pn := fun z => by rw [z, upd_ne pq.symm, upd_same] at hr'; cases hr'
  have rq : r ≠ qn := fun z => by rw [z, upd_same] at hr'; cases hr'
  refine ⟨by rw [upd_ne rp.symm, upd_ne pq.symm, upd_same], by rw [upd_ne rq.symm, upd_same], Sum.inr g, rfl, ?_⟩
  have s3 : Same H (upd (upd (upd (upd (upd (upd H pn (.dK [])) pn (.dK kvs)) qn (.dK [])) r (.tup [.ref p, .ref e])) qn (.dK [(Sum.inr g, .ref r)])) pn (.dK (putK kvs (Sum.inr g) (.ref r)))) := fun b o h => by
    have br : b ≠ r := fun z => by have := old b o h; rw [z, hr'] at this; cases this
    rw [upd_ne (ne_of_none h np), upd_ne (ne_of_none h nq0), upd_ne br]
    exact old b o h
  have k3 : Kp CP H _ := .of_same s3
  have hfn : EVAt CP (upd (upd (upd (upd (upd (upd H pn (.dK [])) pn (.dK kvs)) qn (.dK [])) r (.tup [.ref p, .ref e])) qn (.dK [(Sum.inr g, .ref r)])) pn (.dK (putK kvs (Sum.inr g) (.ref r)))) (.fn g x k a b Ev) (.ref r) :=
    EnvAt.fn (by rw [upd_ne rp, upd_ne rq, upd_same]) (ta.mono k3.tups) (hE.mono k3) hz
  have E3 := hE.set (x := g) (v := .fn g x k a b Ev) (p := pn) k3 he upd_same hfn
  simp only [Tm.deep] at hz
  exact ⟨tl, S, Fl, b, _, _, _, _, _, _, rfl, ⟨pn, c + 1, tb.mono k3.tups, rfl, E3, by omega⟩, gd _ (.head _), T0.same s3, by omega, fun H2 g2 T2 => q _ ((Frm.of_same s3).trans g2) T2⟩
theorem ok_tell_use (F : Fun K "tell_use" "tell_use" s_tell_use f fd) (T : Txt mg) (TC_Telling : TcT K CT) (TL : Tl K w mg FA DT DM) (C_later : CalM P w K mg base CT "later" ["self", "step", "about", "names"] 1 (spLater CT CP FA) f1 fd1)
    (C_tell : CalM P w K mg base CT "tell" ["self", "term", "names"] 2 (spTell CT CP FA) f2 fd2) : FnOk P w K mg base CX0 3 f fd ["telling", "term", "names"] (spStp CT CP CG FA (.t .use)) := by
  refine F.ok sc_tell_use (fun vs H Q E h => ?_) (fun cdv A outer s H vs Q E hr h => ?_)
  · obtain ⟨tl, S, Fl, s, K, F, n, a, b, rfl, _⟩ := h
    rfl
  obtain ⟨tl, S, Fl, s, Ks, Fs, n, a, b, rfl, hc, ha, T0, hf, hq⟩ := h
  obtain ⟨t, Ev, rfl, hw⟩ := code_t hc
  obtain ⟨g, a, rfl⟩ := w_use hw
  rcases hq with ⟨c', st, gd, q⟩ | ⟨hb, _⟩
  rotate_left
  · cases hb
  cases st with
  | use hg =>
  rename_i g' x k a' b' E'
  obtain ⟨e, c, ⟨p, v1, rfl, hp, ta⟩, rfl, hE, hz⟩ := ha
  simp only [Tm.deep] at hz
  refine ⟨_, (pss_cons (ps_asg (pe_dget (hu_of hr) (pv 2) (pe_ix ix_tup (pv 1) pe_int (fun _ _ => rfl)) (fun _ _ => rfl)) (pg_tup rfl (pgs_cons (pg_name (i := 3) sc_tell_use.nd rfl (Or.inl rfl)) (pgs_cons (pg_name (i := 4) sc_tell_use.nd rfl (Or.inl rfl)) pgs_nil))))
      (pss_cons (ps_expr (pe_meth (pv 0) TC_Telling.cl C_later.m C_later.ok (hr.mono (by first | decide | omega)) C_later.b .nil pass0 (pa_cons (pe_glob (v := V.ref _) rfl TL.goF rfl) (pa_cons (pv 3) (pa_cons (pv 4) pa_nil)))))
      (pss_one (ps_expr (pe_meth (pv 0) TC_Telling.cl C_tell.m C_tell.ok (hr.mono (by first | decide | omega)) C_tell.b .nil pass0 (pa_cons (pe_ix ix_tup (pv 1) pe_int (fun _ _ => rfl)) (pa_cons (pv 2) pa_nil))))))), ?_⟩
  obtain ⟨dx, ht⟩ := T0.ins
  have hk : Ks.length + 1 ≤ 100000 := hf.k
  obtain ⟨kvs, he, hl, hy⟩ := id hE
  obtain ⟨v, hv, ev⟩ := hy g (by rw [hg]; exact fun z => nomatch z)
  rw [hg] at ev
  obtain ⟨r, dv, e', c', rfl, hr', tdf, hE', hz'⟩ := ev.unfn
  refine ⟨_, rfl, _, rfl, p, _, _, _, rfl, rfl, SqT.of hp, atI_n (n := 1) rfl rfl, e, .ref r, rfl, hv ▸ DGet.k (k := Sum.inr g) he, r, _, rfl, SqT.of hr', rfl, _, _, rfl, _, _, rfl, rfl, ?_⟩
  refine ⟨_, rfl, tl, dx, _, rfl, ht, no_later _ _ _, _, rfl, _, rfl, tl, S, Fl, .goF g' x k a' b' E', Ks, Fs, n, _, _, rfl, ⟨e', c', tdf, rfl, hE', hz'⟩, T0, by omega, fun H1 g1 T1 => ?_⟩
  have k1 := T0.kp g1
  obtain ⟨dx1, ht1⟩ := T1.ins
  refine ⟨_, rfl, tl, dx1, _, rfl, ht1, no_tell _ _ _, _, rfl, p, _, _, _, rfl, rfl, SqT.of (k1.tups _ _ hp), atI_n (n := 2) rfl rfl, _, rfl, tl, S, Fl, a, Ev, _, _, _, _, _, rfl, ⟨e, c, ta.mono k1.tups, rfl, hE.mono k1, by omega⟩, gd _ (.head _), T1, by show Ks.length + 1 ≤ _; omega, fun H2 g2 T2 => q _ (g1.trans g2) T2⟩
theorem ok_goF (F : Fun K "go_on_with_function" "go_on_with_function" s_go_on_with_function f fd) (T : Txt mg) (TC_Telling : TcT K CT)
    (C_tell : CalM P w K mg base CT "tell" ["self", "term", "names"] 2 (spTell CT CP FA) f2 fd2) : FnOk P w K mg base CX0 3 f fd ["telling", "definition", "names"] (spStp CT CP CG FA .goF) := by
  refine F.ok sc_go_on_with_function (fun vs H Q E h => ?_) (fun cdv A outer s H vs Q E hr h => ?_)
  · obtain ⟨tl, S, Fl, s, K, F, n, a, b, rfl, _⟩ := h
    rfl
  obtain ⟨tl, S, Fl, s, Ks, Fs, n, a, b, rfl, hc, ha, T0, hf, hq⟩ := h
  rcases hq with ⟨c', st, gd, q⟩ | ⟨hb, _⟩
  rotate_left
  · cases hb; cases hc
  have hk : Ks.length + 1 ≤ 100000 := hf.k
  refine ⟨_, (pss_one (ps_expr (pe_meth (pv 0) TC_Telling.cl C_tell.m C_tell.ok (hr.mono (by first | decide | omega)) C_tell.b .nil pass0 (pa_cons (pe_ix ix_tup (pv 1) pe_int (fun _ _ => rfl)) (pa_cons (pe_star (pv 2) (pe_ix ix_tup (pv 1) pe_int (fun _ _ => rfl)) (pe_bm0 PySem.F.plainAttrs_list PySem.F.slot_list_pop PySem.F.type_list_pop mt_pop (pe_fld (pv 0) rfl))) pa_nil))))), ?_⟩
  cases st <;> try cases hc
  rename_i g x k a b Ev v Fs hv
  obtain ⟨e, c, ⟨p, v1, v2, rfl, hp, ta, tb⟩, rfl, hE, hz⟩ := ha
  simp only [Tm.deep] at hz
  obtain ⟨dx, ht⟩ := T0.ins
  obtain ⟨fs, u, hF, eu, T1⟩ := T0.popF
  obtain ⟨kvs, he, hl, hy⟩ := id hE
  refine ⟨_, rfl, tl, dx, _, rfl, ht, no_tell _ _ _, _, rfl, p, _, _, _, rfl, rfl, SqT.of hp, atI_n (n := 4) rfl rfl, fun pn np => ?_⟩
  refine ⟨_, rfl, e, kvs, rfl, (ne_of_none he np).symm, (by rw [upd_ne (ne_of_none he np)]; exact he), upd_same, szK (by omega), fun qn nq => ?_⟩
  have old : ∀ b o, H b = some o → upd (upd (upd H pn (.dK [])) pn (.dK kvs)) qn (.dK []) b = some o := fun b o h => by
    have nq' := nq
    have pq : qn ≠ pn := fun z => by rw [z, upd_same] at nq'; cases nq'
    rw [upd_ne pq, upd_ne pq] at nq'
    rw [upd_ne (ne_of_none h nq'), upd_ne (ne_of_none h np), upd_ne (ne_of_none h np)]
    exact h
  obtain ⟨g3, T3, E3⟩ := star_pop (x := x) (o1 := .dK []) (o2 := .dK []) (o3 := .dK [(Sum.inr x, u)]) T0 he hE hF eu T1 np nq
  have pF : pn ≠ Fl := (ne_of_none hF np).symm
  have qF : qn ≠ Fl := fun z => by have := old _ _ hF; rw [← z, upd_same] at this; cases this
  have qp : qn ≠ pn := fun z => by rw [z, upd_same] at nq; cases nq
  refine ⟨_, rfl, p, _, _, _, rfl, rfl, SqT.of (old _ _ hp), atI_n (n := 2) rfl rfl, ?_⟩
  refine ⟨_, rfl, tl, CT, dx, _, _, rfl, old _ _ ht, TC_Telling.cl, TC_Telling.nF, tlF_found _ _ _, .inl ⟨rfl, _, SqL.of (old _ _ hF)⟩, Fl, _, _, rfl, rfl, old _ _ hF, rev_last, ?_⟩
  rw [rev_dropLast]
  refine ⟨by rw [upd_ne pF, upd_ne qp.symm, upd_same], by rw [upd_ne qF, upd_same], Sum.inr x, rfl, ?_⟩
  have k3 := T0.kp g3
  exact ⟨tl, S, Fl, a, Ev.set x v, _, _, _, _, _, rfl, ⟨pn, c + 1, ta.mono k3.tups, rfl, E3, by omega⟩, gd _ (.head _), T3, by omega, fun H2 g2 T2 => q _ (g3.trans g2) T2⟩
end

/-! ### pieces: made, measured, put together -/
structure XcT (K : PySem.W.Frag) (mg : Str → Option Value) (x : Str) (C : Addr) : Prop where
  ex : PySem.W.excIn K C [.type "ValueError", .type "Exception", .type "BaseException", .type "object"] "ValueError.__new__" = true
  g : mg x = some (.ref C)
  k : PySem.W.keepIn K (.ref C) = true
  b : PySem.W.subIn K (.ref C) (.type "BaseException") = some true
  t : PySem.W.typeIn K (.ref C) = some (.type "type")
abbrev s_tell_quote : Stmt := topS 23
theorem sc_tell_quote : FnScope ["telling", "term", "names"] ["telling", "term", "names"] (defScope s_tell_quote) := ⟨rfl, rfl, rfl, by decide +kernel, rfl, by decide +kernel, by decide +kernel⟩
abbrev s_refuse_too_great : Stmt := topS 24
theorem sc_refuse_too_great : FnScope ["telling", "term", "names", "piece"] ["telling", "term", "names"] (defScope s_refuse_too_great) := ⟨rfl, rfl, rfl, by decide +kernel, rfl, by decide +kernel, by decide +kernel⟩
abbrev s_tell_lift : Stmt := topS 25
theorem sc_tell_lift : FnScope ["telling", "term", "names"] ["telling", "term", "names"] (defScope s_tell_lift) := ⟨rfl, rfl, rfl, by decide +kernel, rfl, by decide +kernel, by decide +kernel⟩
abbrev s_make_num : Stmt := topS 26
theorem sc_make_num : FnScope ["telling", "term", "names"] ["telling", "term", "names"] (defScope s_make_num) := ⟨rfl, rfl, rfl, by decide +kernel, rfl, by decide +kernel, by decide +kernel⟩
abbrev s_tell_run : Stmt := topS 27
theorem sc_tell_run : FnScope ["telling", "term", "names"] ["telling", "term", "names"] (defScope s_tell_run) := ⟨rfl, rfl, rfl, by decide +kernel, rfl, by decide +kernel, by decide +kernel⟩
abbrev s_go_on_with_piece : Stmt := topS 28
theorem sc_go_on_with_piece : FnScope ["telling", "term", "names"] ["telling", "term", "names"] (defScope s_go_on_with_piece) := ⟨rfl, rfl, rfl, by decide +kernel, rfl, by decide +kernel, by decide +kernel⟩
abbrev s_make_same : Stmt := topS 29
theorem sc_make_same : FnScope ["telling", "term", "names"] ["telling", "term", "names"] (defScope s_make_same) := ⟨rfl, rfl, rfl, by decide +kernel, rfl, by decide +kernel, by decide +kernel⟩
abbrev s_make_name : Stmt := topS 30
theorem sc_make_name : FnScope ["telling", "term", "names"] ["telling", "term", "names"] (defScope s_make_name) := ⟨rfl, rfl, rfl, by decide +kernel, rfl, by decide +kernel, by decide +kernel⟩
abbrev s_make_plain : Stmt := topS 31
theorem sc_make_plain : FnScope ["telling", "term", "names", "part"] ["telling", "term", "names"] (defScope s_make_plain) := ⟨rfl, rfl, rfl, by decide +kernel, rfl, by decide +kernel, by decide +kernel⟩
abbrev s_make_let : Stmt := topS 32
theorem sc_make_let : FnScope ["telling", "term", "names", "new"] ["telling", "term", "names"] (defScope s_make_let) := ⟨rfl, rfl, rfl, by decide +kernel, rfl, by decide +kernel, by decide +kernel⟩
abbrev s_make_turns : Stmt := topS 33
theorem sc_make_turns : FnScope ["telling", "term", "names", "new"] ["telling", "term", "names"] (defScope s_make_turns) := ⟨rfl, rfl, rfl, by decide +kernel, rfl, by decide +kernel, by decide +kernel⟩
abbrev s_make_def : Stmt := topS 34
theorem sc_make_def : FnScope ["telling", "term", "names", "function", "value", "parts"] ["telling", "term", "names"] (defScope s_make_def) := ⟨rfl, rfl, rfl, by decide +kernel, rfl, by decide +kernel, by decide +kernel⟩
abbrev s_make_use : Stmt := topS 35
theorem sc_make_use : FnScope ["telling", "term", "names"] ["telling", "term", "names"] (defScope s_make_use) := ⟨rfl, rfl, rfl, by decide +kernel, rfl, by decide +kernel, by decide +kernel⟩
abbrev s_fill_hole : Stmt := topS 36
theorem sc_fill_hole : FnScope ["telling", "term", "names"] ["telling", "term", "names"] (defScope s_fill_hole) := ⟨rfl, rfl, rfl, by decide +kernel, rfl, by decide +kernel, by decide +kernel⟩
abbrev s_put_together : Stmt := topS 37
theorem sc_put_together : FnScope ["telling", "head", "many", "start", "parts", "size", "depth", "terms", "part"] ["telling", "head", "many"] (defScope s_put_together) := ⟨rfl, rfl, rfl, by decide +kernel, rfl, by decide +kernel, by decide +kernel⟩
theorem atI_last {u : V} {fs : List V} : atI (u :: fs).reverse (-1) = some u := by
  unfold atI ixN
  have hl : (u :: fs).reverse.length = fs.length + 1 := by rw [List.length_reverse, List.length_cons]
  rw [if_neg (by decide), if_pos (by rw [hl]; omega)]
  show (u :: fs).reverse[(-1 + (((u :: fs).reverse.length : Nat) : Int)).toNat]? = some u
  rw [hl, show (-1 + ((fs.length + 1 : Nat) : Int)).toNat = fs.length by omega, List.reverse_cons, List.getElem?_append_right (by rw [List.length_reverse]; exact Nat.le_refl _), List.length_reverse, Nat.sub_self]
  rfl
theorem Str_app (x y : Str) : (x ++ y).length = x.length + y.length := Array.size_append ..
theorem int_line {n : Nat} (h : n ≤ 1000000000) : ((n : Nat) : Int).natAbs.log2 < 1920 ∧ (Str.ofString (toString ((n : Nat) : Int))).length ≤ 100 := by
  have h1 : ((n : Nat) : Int).natAbs.log2 < 64 := by
    rw [Int.natAbs_natCast]
    by_cases z : n = 0
    · rw [z]; decide
    · rw [Nat.log2_lt z]
      exact Nat.lt_of_le_of_lt h (by decide)
  refine ⟨Nat.lt_trans h1 (by decide), ?_⟩
  have e := int_text_length_le (a := ((n : Nat) : Int)) (k := 64) (by decide) h1
  rw [ofString_length]
  omega
section
variable {CP : Addr} {H H' : Hp} {x dx : Addr} {t : Tm} {tv : V}
theorem newPiece (nx : H x = none) (nd : H dx = none) (h1 : ∀ b, b ≠ x → H' b = upd (upd H dx (.own x)) x (.ins CP dx []) b) (h2 : H' x = some (.ins CP dx (pcF tv t))) (ht : TmAt H t tv) : Same H H' ∧ EVAt CP H' (.piece t) (.ref x) := by
  have s : Same H H' := fun b o h => by
    have bx := ne_of_none h nx
    rw [h1 b bx, upd_ne bx, upd_ne (ne_of_none h nd)]
    exact h
  exact ⟨s, .piece h2 (ht.mono (.of_same s))⟩
end
section
variable {P : Program} {w : World} {K : PySem.W.Frag} {mg : Str → Option Value} {base : Heap} {CT CP CG DT DM : Addr} {FA : Sf → Addr} {f f1 f2 f3 f4 f5 f6 f7 f8 : Addr} {fd fd1 fd2 fd3 fd4 fd5 fd6 fd7 fd8 : FuncData}
theorem ok_tell_quote (F : Fun K "tell_quote" "tell_quote" s_tell_quote f fd) (T : Txt mg) (TC_Telling : TcT K CT) (TL : Tl K w mg FA DT DM) (C_later : CalM P w K mg base CT "later" ["self", "step", "about", "names"] 1 (spLater CT CP FA) f1 fd1)
    (C_make : CalM P w K mg base CT "make" ["self", "term", "names"] 2 (spMakeT CT CP FA) f2 fd2) : FnOk P w K mg base CX0 3 f fd ["telling", "term", "names"] (spStp CT CP CG FA (.t .quote)) := by
  refine F.ok sc_tell_quote (fun vs H Q E h => ?_) (fun cdv A outer s H vs Q E hr h => ?_)
  · obtain ⟨tl, S, Fl, s, K, F, n, a, b, rfl, _⟩ := h
    rfl
  obtain ⟨tl, S, Fl, s, Ks, Fs, n, a, b, rfl, hc, ha, T0, hf, hq⟩ := h
  obtain ⟨t, Ev, rfl, hw⟩ := code_t hc
  obtain ⟨a, rfl⟩ := w_un (o := .quote) hw
  rcases hq with ⟨c', st, gd, q⟩ | ⟨hb, _⟩
  rotate_left
  · cases hb
  cases st
  obtain ⟨e, c, ta, rfl, hE, hz⟩ := id ha
  obtain ⟨p, v1, rfl, hp, tc⟩ := id ta
  refine ⟨_, (pss_cons (ps_expr (pe_meth (pv 0) TC_Telling.cl C_later.m C_later.ok (hr.mono (by first | decide | omega)) C_later.b .nil pass0 (pa_cons (pe_glob (v := V.ref _) rfl TL.tooGreat rfl) (pa_cons (pv 1) (pa_cons (pv 2) pa_nil)))))
      (pss_one (ps_expr (pe_meth (pv 0) TC_Telling.cl C_make.m C_make.ok (hr.mono (by first | decide | omega)) C_make.b .nil pass0 (pa_cons (pe_ix ix_tup (pv 1) pe_int (fun _ _ => rfl)) (pa_cons (pv 2) pa_nil)))))), ?_⟩
  obtain ⟨dx, ht⟩ := T0.ins
  have hk : Ks.length + 1 ≤ 100000 := hf.k
  refine ⟨_, rfl, tl, dx, _, rfl, ht, no_later _ _ _, _, rfl, _, rfl, tl, S, Fl, .tooGreat, Ks, Fs, n, _, _, rfl, trivial, T0, by omega, fun H1 g1 T1 => ?_⟩
  have k1 := T0.kp g1
  obtain ⟨dx1, ht1⟩ := T1.ins
  simp only [Tm.deep] at hz
  refine ⟨_, rfl, tl, dx1, _, rfl, ht1, no_make _ _ _, _, rfl, p, _, _, _, rfl, rfl, SqT.of (k1.tups _ _ hp), atI_n (n := 1) rfl rfl, _, rfl, tl, S, Fl, a, Ev, _, _, _, _, _, rfl, ⟨e, c, tc.mono k1.tups, rfl, hE.mono k1, by omega⟩, gd _ (.head _), T1, by show Ks.length + 1 ≤ _; omega, fun H2 g2 T2 => q _ (g1.trans g2) T2⟩
theorem ok_too_great (F : Fun K "refuse_too_great" "refuse_too_great" s_refuse_too_great f fd) (T : Txt mg) (TC_Telling : TcT K CT) (TC_Piece : TcP K CP) (X_TooGreat : XcT K mg "TooGreat" CG) : FnOk P w K mg base (L2.CX P w) 1 f fd ["telling", "term", "names"] (spStp CT CP CG FA .tooGreat) := by
  refine F.okX sc_refuse_too_great (fun vs H Q E h => ?_) (fun cdv A outer s H vs Q E hr h => ?_)
  · obtain ⟨tl, S, Fl, s, K, F, n, a, b, rfl, _⟩ := h
    rfl
  obtain ⟨tl, S, Fl, s, Ks, Fs, n, a, b, rfl, hc, ha, T0, hf, hq⟩ := h
  refine ⟨_, (pss_cons (ps_set (i := 3) sc_refuse_too_great.nd rfl (Or.inl rfl) (pe_ix ix_list (pe_fld (pv 0) rfl) (pe_un un_neg pe_int) (fun _ _ => rfl)))
      (pss_cons (ps_if (pt_cmpR op_gt (pe_fld (pv 3) rfl) (pe_gint T.g_MOST_TERMS rfl) (nomark _)) (pss_one (ps_raise rfl (takes_of rfl rfl rfl rfl) (SkE.pmk_own1 PySem.F.excBase_ValueError X_TooGreat.ex X_TooGreat.g X_TooGreat.k (raises_own X_TooGreat.b X_TooGreat.t) rfl (pe_joined (.cons pe_str (.cons (pe_fmt (pe_fld (pv 3) rfl)) (.cons pe_str .nil))))))) pss_nil)
      (pss_one (ps_if (pt_cmpR op_gt (pe_fld (pv 3) rfl) (pe_gint T.g_DEEPEST rfl) (nomark _)) (pss_one (ps_raise rfl (takes_of rfl rfl rfl rfl) (SkE.pmk_own1 PySem.F.excBase_ValueError X_TooGreat.ex X_TooGreat.g X_TooGreat.k (raises_own X_TooGreat.b X_TooGreat.t) rfl (pe_joined (.cons pe_str (.cons (pe_fmt (pe_fld (pv 3) rfl)) (.cons pe_str .nil))))))) pss_nil)))), ?_⟩
  obtain ⟨dx, ht⟩ := T0.ins
  have l1 : ∀ {n : Nat} {y z : Str}, n ≤ 1000000000 → y.length ≤ 100 → (Str.empty ++ y).length ≤ sizeLine ∧ ((Str.empty ++ y) ++ Str.ofString (toString ((n : Nat) : Int))).length ≤ sizeLine ∧ (z.length ≤ 100 → (((Str.empty ++ y) ++ Str.ofString (toString ((n : Nat) : Int))) ++ z).length ≤ sizeLine) := fun {n y z} h hy => by
    have h2 := (int_line h).2
    have e0 : Str.empty.length = 0 := rfl
    refine ⟨szK ?_ |> Nat.le_of_lt, szK ?_ |> Nat.le_of_lt, fun hz => szK ?_ |> Nat.le_of_lt⟩
    · rw [Str_app, e0]; omega
    · rw [Str_app, Str_app, e0]; omega
    · rw [Str_app, Str_app, Str_app, e0]; omega
  rcases hq with ⟨c', st, gd, q⟩ | ⟨hb, hE⟩
  · cases st <;> try cases hc
    rename_i t Fs hs hd
    obtain ⟨fs, u, hF, eu, _⟩ := T0.popF
    cases eu with
    | piece hq' htm =>
    refine ⟨_, rfl, tl, CT, dx, _, _, rfl, ht, TC_Telling.cl, TC_Telling.nF, tlF_found _ _ _, _, rfl, Fl, _, _, _, rfl, rfl, SqL.of hF, atI_last, ?_⟩
    refine ⟨_, rfl, _, CP, _, _, _, rfl, hq', TC_Piece.cl, TC_Piece.nS, pcF_size _ _, _, _, rfl, rfl, _, rfl, iteF' (by simp; omega) ?_⟩
    refine ⟨_, rfl, _, CP, _, _, _, rfl, hq', TC_Piece.cl, TC_Piece.nD, pcF_depth _ _, _, _, rfl, rfl, _, rfl, iteF' (by simp; omega) ?_⟩
    exact q _ .refl T0
  · cases hb with
    | mk hsd hbig =>
    rename_i t Fs
    have hdb : t.deep ≤ 1000000000 := Nat.le_trans t.deep_le hbig
    obtain ⟨fs, u, hF, eu, _⟩ := T0.popF
    cases eu with
    | piece hq' htm =>
    refine ⟨_, rfl, tl, CT, dx, _, _, rfl, ht, TC_Telling.cl, TC_Telling.nF, tlF_found _ _ _, _, rfl, Fl, _, _, _, rfl, rfl, SqL.of hF, atI_last, ?_⟩
    refine ⟨_, rfl, _, CP, _, _, _, rfl, hq', TC_Piece.cl, TC_Piece.nS, pcF_size _ _, _, _, rfl, rfl, _, rfl, ite2 (fun c1 => ?_) fun c1 => ?_⟩
    · obtain ⟨e1, e2, e3⟩ := l1 (n := t.size) (y := "a piece of ") (z := " terms") hbig (by decide +kernel)
      exact ⟨_, rfl, e1, _, rfl, _, CP, _, _, _, rfl, hq', TC_Piece.cl, TC_Piece.nS, pcF_size _ _, .inr ⟨_, rfl, (int_line hbig).1, _, rfl, e2, _, rfl, e3 (by decide +kernel), hE⟩⟩
    · have hs : ¬ 2000 < t.size := fun z => c1 (decide_eq_true (by show (t.size : Int) > 2000; omega))
      have hd : 30 < t.deep := hsd.resolve_left hs
      refine ⟨_, rfl, _, CP, _, _, _, rfl, hq', TC_Piece.cl, TC_Piece.nD, pcF_depth _ _, _, _, rfl, rfl, _, rfl, iteT' (by simp; omega) ?_⟩
      obtain ⟨e1, e2, e3⟩ := l1 (n := t.deep) (y := "a piece ") (z := " deep") hdb (by decide +kernel)
      exact ⟨_, rfl, e1, _, rfl, _, CP, _, _, _, rfl, hq', TC_Piece.cl, TC_Piece.nD, pcF_depth _ _, .inr ⟨_, rfl, (int_line hdb).1, _, rfl, e2, _, rfl, e3 (by decide +kernel), hE⟩⟩
theorem ok_tell_lift (F : Fun K "tell_lift" "tell_lift" s_tell_lift f fd) (T : Txt mg) (TC_Telling : TcT K CT) (TL : Tl K w mg FA DT DM) (C_later : CalM P w K mg base CT "later" ["self", "step", "about", "names"] 1 (spLater CT CP FA) f1 fd1)
    (C_tell : CalM P w K mg base CT "tell" ["self", "term", "names"] 2 (spTell CT CP FA) f2 fd2) : FnOk P w K mg base CX0 3 f fd ["telling", "term", "names"] (spStp CT CP CG FA (.t .lift)) := by
  refine F.ok sc_tell_lift (fun vs H Q E h => ?_) (fun cdv A outer s H vs Q E hr h => ?_)
  · obtain ⟨tl, S, Fl, s, K, F, n, a, b, rfl, _⟩ := h
    rfl
  obtain ⟨tl, S, Fl, s, Ks, Fs, n, a, b, rfl, hc, ha, T0, hf, hq⟩ := h
  obtain ⟨t, Ev, rfl, hw⟩ := code_t hc
  obtain ⟨a, rfl⟩ := w_un (o := .lift) hw
  rcases hq with ⟨c', st, gd, q⟩ | ⟨hb, _⟩
  rotate_left
  · cases hb
  cases st
  obtain ⟨e, c, ta, rfl, hE, hz⟩ := id ha
  obtain ⟨p, v1, rfl, hp, tc⟩ := id ta
  refine ⟨_, (pss_cons (ps_expr (pe_meth (pv 0) TC_Telling.cl C_later.m C_later.ok (hr.mono (by first | decide | omega)) C_later.b .nil pass0 (pa_cons (pe_glob (v := V.ref _) rfl TL.mkNum rfl) (pa_cons (pv 1) (pa_cons (pv 2) pa_nil)))))
      (pss_one (ps_expr (pe_meth (pv 0) TC_Telling.cl C_tell.m C_tell.ok (hr.mono (by first | decide | omega)) C_tell.b .nil pass0 (pa_cons (pe_ix ix_tup (pv 1) pe_int (fun _ _ => rfl)) (pa_cons (pv 2) pa_nil)))))), ?_⟩
  obtain ⟨dx, ht⟩ := T0.ins
  have hk : Ks.length + 1 ≤ 100000 := hf.k
  refine ⟨_, rfl, tl, dx, _, rfl, ht, no_later _ _ _, _, rfl, _, rfl, tl, S, Fl, .mkNum, Ks, Fs, n, _, _, rfl, trivial, T0, by omega, fun H1 g1 T1 => ?_⟩
  have k1 := T0.kp g1
  obtain ⟨dx1, ht1⟩ := T1.ins
  simp only [Tm.deep] at hz
  refine ⟨_, rfl, tl, dx1, _, rfl, ht1, no_tell _ _ _, _, rfl, p, _, _, _, rfl, rfl, SqT.of (k1.tups _ _ hp), atI_n (n := 1) rfl rfl, _, rfl, tl, S, Fl, a, Ev, _, _, _, _, _, rfl, ⟨e, c, tc.mono k1.tups, rfl, hE.mono k1, by omega⟩, gd _ (.head _), T1, by show Ks.length + 1 ≤ _; omega, fun H2 g2 T2 => q _ (g1.trans g2) T2⟩
theorem ok_tell_run (F : Fun K "tell_run" "tell_run" s_tell_run f fd) (T : Txt mg) (TC_Telling : TcT K CT) (TL : Tl K w mg FA DT DM) (C_later : CalM P w K mg base CT "later" ["self", "step", "about", "names"] 1 (spLater CT CP FA) f1 fd1)
    (C_tell : CalM P w K mg base CT "tell" ["self", "term", "names"] 2 (spTell CT CP FA) f2 fd2) : FnOk P w K mg base CX0 3 f fd ["telling", "term", "names"] (spStp CT CP CG FA (.t .run)) := by
  refine F.ok sc_tell_run (fun vs H Q E h => ?_) (fun cdv A outer s H vs Q E hr h => ?_)
  · obtain ⟨tl, S, Fl, s, K, F, n, a, b, rfl, _⟩ := h
    rfl
  obtain ⟨tl, S, Fl, s, Ks, Fs, n, a, b, rfl, hc, ha, T0, hf, hq⟩ := h
  obtain ⟨t, Ev, rfl, hw⟩ := code_t hc
  obtain ⟨a, rfl⟩ := w_un (o := .run) hw
  rcases hq with ⟨c', st, gd, q⟩ | ⟨hb, _⟩
  rotate_left
  · cases hb
  cases st
  obtain ⟨e, c, ta, rfl, hE, hz⟩ := id ha
  obtain ⟨p, v1, rfl, hp, tc⟩ := id ta
  refine ⟨_, (pss_cons (ps_expr (pe_meth (pv 0) TC_Telling.cl C_later.m C_later.ok (hr.mono (by first | decide | omega)) C_later.b .nil pass0 (pa_cons (pe_glob (v := V.ref _) rfl TL.goPiece rfl) (pa_cons (pv 1) (pa_cons (pv 2) pa_nil)))))
      (pss_one (ps_expr (pe_meth (pv 0) TC_Telling.cl C_tell.m C_tell.ok (hr.mono (by first | decide | omega)) C_tell.b .nil pass0 (pa_cons (pe_ix ix_tup (pv 1) pe_int (fun _ _ => rfl)) (pa_cons (pv 2) pa_nil)))))), ?_⟩
  obtain ⟨dx, ht⟩ := T0.ins
  have hk : Ks.length + 1 ≤ 100000 := hf.k
  refine ⟨_, rfl, tl, dx, _, rfl, ht, no_later _ _ _, _, rfl, _, rfl, tl, S, Fl, .goPiece, Ks, Fs, n, _, _, rfl, trivial, T0, by omega, fun H1 g1 T1 => ?_⟩
  have k1 := T0.kp g1
  obtain ⟨dx1, ht1⟩ := T1.ins
  simp only [Tm.deep] at hz
  refine ⟨_, rfl, tl, dx1, _, rfl, ht1, no_tell _ _ _, _, rfl, p, _, _, _, rfl, rfl, SqT.of (k1.tups _ _ hp), atI_n (n := 1) rfl rfl, _, rfl, tl, S, Fl, a, Ev, _, _, _, _, _, rfl, ⟨e, c, tc.mono k1.tups, rfl, hE.mono k1, by omega⟩, gd _ (.head _), T1, by show Ks.length + 1 ≤ _; omega, fun H2 g2 T2 => q _ (g1.trans g2) T2⟩
theorem ok_fill_hole (F : Fun K "fill_hole" "fill_hole" s_fill_hole f fd) (T : Txt mg) (TC_Telling : TcT K CT)
    (C_tell : CalM P w K mg base CT "tell" ["self", "term", "names"] 2 (spTell CT CP FA) f2 fd2) : FnOk P w K mg base CX0 3 f fd ["telling", "term", "names"] (spStp CT CP CG FA (.m .hole)) := by
  refine F.ok sc_fill_hole (fun vs H Q E h => ?_) (fun cdv A outer s H vs Q E hr h => ?_)
  · obtain ⟨tl, S, Fl, s, K, F, n, a, b, rfl, _⟩ := h
    rfl
  obtain ⟨tl, S, Fl, s, Ks, Fs, n, a, b, rfl, hc, ha, T0, hf, hq⟩ := h
  obtain ⟨t, Ev, rfl, hw⟩ := code_m hc
  obtain ⟨a, rfl⟩ := w_un (o := .hole) hw
  rcases hq with ⟨c', st, gd, q⟩ | ⟨hb, _⟩
  rotate_left
  · cases hb
  cases st
  obtain ⟨e, c, ta, rfl, hE, hz⟩ := id ha
  obtain ⟨p, v1, rfl, hp, tc⟩ := id ta
  refine ⟨_, (pss_one (ps_expr (pe_meth (pv 0) TC_Telling.cl C_tell.m C_tell.ok (hr.mono (by first | decide | omega)) C_tell.b .nil pass0 (pa_cons (pe_ix ix_tup (pv 1) pe_int (fun _ _ => rfl)) (pa_cons (pv 2) pa_nil))))), ?_⟩
  obtain ⟨dx, ht⟩ := T0.ins
  have hk : Ks.length + 1 ≤ 100000 := hf.k
  simp only [Tm.deep] at hz
  refine ⟨_, rfl, tl, dx, _, rfl, ht, no_tell _ _ _, _, rfl, p, _, _, _, rfl, rfl, SqT.of hp, atI_n (n := 1) rfl rfl, _, rfl, tl, S, Fl, a, Ev, _, _, _, _, _, rfl, ⟨e, c, tc, rfl, hE, by omega⟩, gd _ (.head _), T0, by omega, fun H2 g2 T2 => q _ g2 T2⟩
theorem ok_go_piece (F : Fun K "go_on_with_piece" "go_on_with_piece" s_go_on_with_piece f fd) (T : Txt mg) (TC_Telling : TcT K CT) (TC_Piece : TcP K CP)
    (C_tell : CalM P w K mg base CT "tell" ["self", "term", "names"] 2 (spTell CT CP FA) f2 fd2) : FnOk P w K mg base CX0 3 f fd ["telling", "term", "names"] (spStp CT CP CG FA .goPiece) := by
  refine F.ok sc_go_on_with_piece (fun vs H Q E h => ?_) (fun cdv A outer s H vs Q E hr h => ?_)
  · obtain ⟨tl, S, Fl, s, K, F, n, a, b, rfl, _⟩ := h
    rfl
  obtain ⟨tl, S, Fl, s, Ks, Fs, n, a, b, rfl, hc, ha, T0, hf, hq⟩ := h
  rcases hq with ⟨c', st, gd, q⟩ | ⟨hb, _⟩
  rotate_left
  · cases hb; cases hc
  have hk : Ks.length + 1 ≤ 100000 := hf.k
  refine ⟨_, (pss_one (ps_expr (pe_meth (pv 0) TC_Telling.cl C_tell.m C_tell.ok (hr.mono (by first | decide | omega)) C_tell.b .nil pass0 (pa_cons (pe_fld (pe_bm0 PySem.F.plainAttrs_list PySem.F.slot_list_pop PySem.F.type_list_pop mt_pop (pe_fld (pv 0) rfl)) rfl) (pa_cons pe_dnewK pa_nil))))), ?_⟩
  cases st <;> try cases hc
  rename_i t Fs hd
  obtain ⟨dx, ht⟩ := T0.ins
  obtain ⟨fs, u, hF, eu, T1⟩ := T0.popF
  cases eu with
  | piece hq' htm =>
  have k1 := T0.kp (H' := upd H Fl (.lst fs.reverse)) (.putF _)
  have g1 : Frm tl S Fl H (upd H Fl (.lst fs.reverse)) := .putF _
  have hq1 := k1 _ _ hq' (.inr (.inr ⟨_, _, rfl⟩))
  refine ⟨_, rfl, tl, dx, _, rfl, ht, no_tell _ _ _, ?_⟩
  refine ⟨_, rfl, tl, CT, dx, _, _, rfl, ht, TC_Telling.cl, TC_Telling.nF, tlF_found _ _ _, .inl ⟨rfl, _, SqL.of hF⟩, Fl, _, _, rfl, rfl, hF, rev_last, ?_⟩
  rw [rev_dropLast]
  refine ⟨_, CP, _, _, _, rfl, hq1, TC_Piece.cl, TC_Piece.nT, pcF_term _ _, fun pe npe => ?_⟩
  have s1 := same_new npe (.dK [])
  exact ⟨tl, S, Fl, t, .nil, _, _, _, _, _, rfl, ⟨pe, 0, (htm.mono k1.tups).mono (.of_same s1), rfl, .nil upd_same, by omega⟩, gd _ (.head _), T1.same s1, by omega, fun H2 g2 T2 => q _ (g1.trans ((Frm.of_same s1).trans g2)) T2⟩
end
section
variable {P : Program} {w : World} {K : PySem.W.Frag} {mg : Str → Option Value} {base : Heap} {CT CP CG DT DM : Addr} {FA : Sf → Addr} {f f1 f2 f3 f4 f5 f6 f7 f8 : Addr} {fd fd1 fd2 fd3 fd4 fd5 fd6 fd7 fd8 : FuncData}
theorem ok_make_num (F : Fun K "make_num" "make_num" s_make_num f fd) (T : Txt mg) (TC_Telling : TcT K CT) (MK_Piece : CalC P w K mg base "Piece" CP ["self", "term", "size", "depth"] 1 (spPcInit CP) f1 fd1) : FnOk P w K mg base CX0 3 f fd ["telling", "term", "names"] (spStp CT CP CG FA .mkNum) := by
  refine F.ok sc_make_num (fun vs H Q E h => ?_) (fun cdv A outer s H vs Q E hr h => ?_)
  · obtain ⟨tl, S, Fl, s, K, F, n, a, b, rfl, _⟩ := h
    rfl
  obtain ⟨tl, S, Fl, s, Ks, Fs, n, a, b, rfl, hc, ha, T0, hf, hq⟩ := h
  rcases hq with ⟨c', st, gd, q⟩ | ⟨hb, _⟩
  rotate_left
  · cases hb; cases hc
  refine ⟨_, (pss_one (ps_expr (pe_bm PySem.F.plainAttrs_list PySem.F.slot_list_append PySem.F.type_list_append mt_append (pe_fld (pv 0) rfl) (pa_cons (pe_make MK_Piece.mkr MK_Piece.ok (hr.mono (by first | decide | omega)) rfl MK_Piece.m MK_Piece.b .nil pass0 (pa_cons (pe_tup (pa_cons pe_str (pa_cons (pe_bm0 PySem.F.plainAttrs_list PySem.F.slot_list_pop PySem.F.type_list_pop mt_pop (pe_fld (pv 0) rfl)) pa_nil))) (pa_cons pe_int (pa_cons pe_int pa_nil)))) pa_nil)))), ?_⟩
  cases st <;> try cases hc
  rename_i i Fs
  obtain ⟨dx, ht⟩ := T0.ins
  obtain ⟨fs, u, hF, eu, T1⟩ := T0.popF
  cases eu
  have g1 : Frm tl S Fl H (upd H Fl (.lst fs.reverse)) := .putF _
  refine ⟨_, rfl, tl, CT, dx, _, _, rfl, ht, TC_Telling.cl, TC_Telling.nF, tlF_found _ _ _, .inl ⟨rfl, _, SqL.of hF⟩, ?_⟩
  refine ⟨_, rfl, tl, CT, dx, _, _, rfl, ht, TC_Telling.cl, TC_Telling.nF, tlF_found _ _ _, .inl ⟨rfl, _, SqL.of hF⟩, Fl, _, _, rfl, rfl, hF, rev_last, ?_⟩
  rw [rev_dropLast]
  refine ⟨sz 2, fun pn np => ?_⟩
  have s1 := same_new np (.tup [.str "num", .int i])
  have T2 := T1.same s1
  refine fun x d nx nd nxd => ⟨x, d, _, _, _, rfl, upd_same, fun H3 h1 h2 => ⟨rfl, ?_⟩⟩
  obtain ⟨s3, ev⟩ := newPiece (t := .num i) nx nd h1 h2 ⟨pn, rfl, upd_same⟩
  have T3 := T2.same s3
  obtain ⟨fs3, hF3, ef3⟩ := T3.found
  have := s3 _ _ (s1 _ _ (show upd H Fl (.lst fs.reverse) Fl = _ from upd_same))
  exact ⟨Fl, _, _, rfl, rfl, hF3, szK (by rw [T3.ltF hF3]; have := hf.f; show Fs.length ≤ _; exact Nat.le_trans (Nat.le_of_succ_le this) (by decide)), q _ (g1.trans ((Frm.of_same (s1.trans s3)).trans (.putF _))) (T3.pushF hF3 ev)⟩
theorem ok_make_same (F : Fun K "make_same" "make_same" s_make_same f fd) (T : Txt mg) (TC_Telling : TcT K CT) (MK_Piece : CalC P w K mg base "Piece" CP ["self", "term", "size", "depth"] 1 (spPcInit CP) f1 fd1) : FnOk P w K mg base CX0 3 f fd ["telling", "term", "names"] (spStp CT CP CG FA (.m .num)) := by
  refine F.ok sc_make_same (fun vs H Q E h => ?_) (fun cdv A outer s H vs Q E hr h => ?_)
  · obtain ⟨tl, S, Fl, s, K, F, n, a, b, rfl, _⟩ := h
    rfl
  obtain ⟨tl, S, Fl, s, Ks, Fs, n, a, b, rfl, hc, ha, T0, hf, hq⟩ := h
  obtain ⟨t, Ev, rfl, hw⟩ := code_m hc
  obtain ⟨m, rfl⟩ := w_num hw
  rcases hq with ⟨c', st, gd, q⟩ | ⟨hb, _⟩
  rotate_left
  · cases hb
  cases st
  obtain ⟨e, c, ta, rfl, hE, hz⟩ := ha
  refine ⟨_, (pss_one (ps_expr (pe_bm PySem.F.plainAttrs_list PySem.F.slot_list_append PySem.F.type_list_append mt_append (pe_fld (pv 0) rfl) (pa_cons (pe_make MK_Piece.mkr MK_Piece.ok (hr.mono (by first | decide | omega)) rfl MK_Piece.m MK_Piece.b .nil pass0 (pa_cons (pv 1) (pa_cons pe_int (pa_cons pe_int pa_nil)))) pa_nil)))), ?_⟩
  obtain ⟨dx, ht⟩ := T0.ins
  obtain ⟨fs, hF, ef⟩ := T0.found
  refine ⟨_, rfl, tl, CT, dx, _, _, rfl, ht, TC_Telling.cl, TC_Telling.nF, tlF_found _ _ _, .inl ⟨rfl, _, SqL.of hF⟩, _, rfl, ?_⟩
  refine fun x d nx nd nxd => ⟨x, d, _, _, _, rfl, upd_same, fun H3 h1 h2 => ⟨rfl, ?_⟩⟩
  obtain ⟨s3, ev⟩ := newPiece (t := .num m) nx nd h1 h2 ta
  have T3 := T0.same s3
  exact ⟨Fl, _, _, rfl, rfl, s3 _ _ hF, szK (by rw [T0.ltF hF]; have := hf.f; show Fs.length ≤ _; exact Nat.le_trans this (by decide)), q _ ((Frm.of_same s3).trans (.putF _)) (T3.pushF (s3 _ _ hF) ev)⟩
theorem ok_make_name (F : Fun K "make_name" "make_name" s_make_name f fd) (T : Txt mg) (TC_Telling : TcT K CT) (MK_Piece : CalC P w K mg base "Piece" CP ["self", "term", "size", "depth"] 1 (spPcInit CP) f1 fd1) : FnOk P w K mg base CX0 3 f fd ["telling", "term", "names"] (spStp CT CP CG FA (.m .name)) := by
  refine F.ok sc_make_name (fun vs H Q E h => ?_) (fun cdv A outer s H vs Q E hr h => ?_)
  · obtain ⟨tl, S, Fl, s, K, F, n, a, b, rfl, _⟩ := h
    rfl
  obtain ⟨tl, S, Fl, s, Ks, Fs, n, a, b, rfl, hc, ha, T0, hf, hq⟩ := h
  obtain ⟨t, Ev, rfl, hw⟩ := code_m hc
  obtain ⟨m, rfl⟩ := w_name hw
  rcases hq with ⟨c', st, gd, q⟩ | ⟨hb, _⟩
  rotate_left
  · cases hb
  cases st with
  | mname hx =>
  rename_i z
  obtain ⟨e, c, ⟨p, rfl, hp⟩, rfl, hE, hz⟩ := ha
  refine ⟨_, (pss_one (ps_expr (pe_bm PySem.F.plainAttrs_list PySem.F.slot_list_append PySem.F.type_list_append mt_append (pe_fld (pv 0) rfl) (pa_cons (pe_make MK_Piece.mkr MK_Piece.ok (hr.mono (by first | decide | omega)) rfl MK_Piece.m MK_Piece.b .nil pass0 (pa_cons (pe_tup (pa_cons pe_str (pa_cons (pe_dget (hu_of hr) (pv 2) (pe_ix ix_tup (pv 1) pe_int (fun _ _ => rfl)) (fun _ _ => rfl)) pa_nil))) (pa_cons pe_int (pa_cons pe_int pa_nil)))) pa_nil)))), ?_⟩
  obtain ⟨dx, ht⟩ := T0.ins
  obtain ⟨fs, hF, ef⟩ := T0.found
  obtain ⟨kvs, he, hl, hy⟩ := hE
  obtain ⟨v, hv, ev⟩ := hy m (by rw [hx]; exact fun z => nomatch z)
  rw [hx] at ev
  cases ev
  refine ⟨_, rfl, tl, CT, dx, _, _, rfl, ht, TC_Telling.cl, TC_Telling.nF, tlF_found _ _ _, .inl ⟨rfl, _, SqL.of hF⟩, _, rfl, _, rfl, p, _, _, _, rfl, rfl, SqT.of hp, atI_n (n := 1) rfl rfl, e, _, rfl, hv ▸ DGet.k (k := Sum.inr m) he, sz 2, fun pn np => ?_⟩
  have s1 := same_new np (.tup [.str "name", .str z])
  refine fun x d nx nd nxd => ⟨x, d, _, _, _, rfl, upd_same, fun H3 h1 h2 => ⟨rfl, ?_⟩⟩
  obtain ⟨s3, ev⟩ := newPiece (t := .name z) nx nd h1 h2 ⟨pn, rfl, upd_same⟩
  have s4 := s1.trans s3
  have T3 := T0.same s4
  exact ⟨Fl, _, _, rfl, rfl, s4 _ _ hF, szK (by rw [T0.ltF hF]; have := hf.f; show Fs.length ≤ _; exact Nat.le_trans this (by decide)), q _ ((Frm.of_same s4).trans (.putF _)) (T3.pushF (s4 _ _ hF) ev)⟩
/-- the parts of a plain word, all with the same names -/
theorem plain_parts {H : Hp} {Ev : Evs} {e : Addr} {c d : Nat} (hE : EnvAt CP H Ev e c) : ∀ {ts : List Tm} {vs : List V}, TmsAt H ts vs → (∀ t ∈ ts, c + t.deep ≤ 1000) → Each (fun (q : Tm × Evs) (v : V) => Args CP H (.make q.1 q.2) v (.ref e)) (ts.map fun t => (t, Ev)) vs
  | [], [], _, _ => True.intro
  | t :: ts, v :: vs, ⟨h, r⟩, hd => ⟨⟨e, c, h, rfl, hE, hd t List.mem_cons_self⟩, plain_parts (d := d) hE r fun t' m => hd t' (List.mem_cons_of_mem _ m)⟩
  | [], _ :: _, h, _ => h.elim
  | _ :: _, [], h, _ => h.elim
theorem Tm.part_deep {t u : Tm} (h : u ∈ t.parts) : u.deep + 1 ≤ t.deep := by
  cases t with
  | num n => cases h
  | name n => cases h
  | bin o a b => simp only [Tm.parts, List.mem_cons, List.not_mem_nil, or_false] at h; simp only [Tm.deep]; rcases h with h | h <;> rw [h] <;> omega
  | cond c a b => simp only [Tm.parts, List.mem_cons, List.not_mem_nil, or_false] at h; simp only [Tm.deep]; rcases h with h | h | h <;> rw [h] <;> omega
  | letx n a b => simp only [Tm.parts, List.mem_cons, List.not_mem_nil, or_false] at h; simp only [Tm.deep]; rcases h with h | h <;> rw [h] <;> omega
  | turns k n a b => simp only [Tm.parts, List.mem_cons, List.not_mem_nil, or_false] at h; simp only [Tm.deep]; rcases h with h | h <;> rw [h] <;> omega
  | deff f n k a b => simp only [Tm.parts, List.mem_cons, List.not_mem_nil, or_false] at h; simp only [Tm.deep]; rcases h with h | h <;> rw [h] <;> omega
  | use f a => simp only [Tm.parts, List.mem_cons, List.not_mem_nil, or_false] at h; simp only [Tm.deep]; rw [h]; omega
  | un o a => simp only [Tm.parts, List.mem_cons, List.not_mem_nil, or_false] at h; simp only [Tm.deep]; rw [h]; omega
theorem ok_make_plain (F : Fun K "make_plain" "make_plain" s_make_plain f fd) (T : Txt mg) (TC_Telling : TcT K CT) (C_make_of : CalM P w K mg base CT "make_of" ["self", "head", "parts"] 3 (spMakeOf CT CP FA) f1 fd1) : FnOk P w K mg base CX0 4 f fd ["telling", "term", "names"] (fun vs H Q E => ∃ u : W, u ∈ [W.sum, .product, .less, .when] ∧ spStp CT CP CG FA (.m u) vs H Q E) := by
  refine F.ok sc_make_plain (fun vs H Q E h => ?_) (fun cdv A outer s H vs Q E hr h => ?_)
  · obtain ⟨u, _, tl, S, Fl, s, K, F, n, a, b, rfl, _⟩ := h
    rfl
  obtain ⟨u, hu, tl, S, Fl, s, Ks, Fs, n, a, b, rfl, hc, ha, T0, hf, hq⟩ := h
  obtain ⟨t, Ev, rfl, hw⟩ := code_m hc
  rcases hq with ⟨c', st, gd, q⟩ | ⟨hb, _⟩
  rotate_left
  · cases hb
  have hk : Ks.length + 1 ≤ 100000 := hf.k
  -- a head of the word alone
  have key : t.head = [.str t.w.str] ∧ c' = ⟨(t.parts.map fun p => Stp.make p Ev) ++ .put t :: Ks, Fs, n⟩ := by
    simp only [List.mem_cons, List.not_mem_nil, or_false] at hu
    cases t with
    | bin o a b => cases st; exact ⟨by show [V.str o.word] = [V.str o.w.str]; rw [o.word_eq], rfl⟩
    | cond c a b => cases st; exact ⟨rfl, rfl⟩
    | num n => exfalso; cases hw; rcases hu with h | h | h | h <;> cases h
    | name n => exfalso; cases hw; rcases hu with h | h | h | h <;> cases h
    | letx x a b => exfalso; cases hw; rcases hu with h | h | h | h <;> cases h
    | turns m x a b => exfalso; cases hw; rcases hu with h | h | h | h <;> cases h
    | deff g x k a b => exfalso; cases hw; rcases hu with h | h | h | h <;> cases h
    | use g a => exfalso; cases hw; rcases hu with h | h | h | h <;> cases h
    | un o a => exfalso; subst hw; cases o <;> rcases hu with h | h | h | h <;> cases h
  obtain ⟨hh, rfl⟩ := key
  obtain ⟨e, c, ta, rfl, hE, hz⟩ := ha
  obtain ⟨p, vs, rfl, hp, hvs⟩ := ta.open
  rw [hh] at hp
  refine ⟨_, (pss_one (ps_expr (pe_meth (pv 0) TC_Telling.cl C_make_of.m C_make_of.ok (hr.mono (by first | decide | omega)) C_make_of.b .nil pass0 (pa_cons (pe_tup (pa_cons (pe_ix ix_tup (pv 1) pe_int (fun _ _ => rfl)) pa_nil)) (pa_cons (pe_lc (own := [("part", 3)]) (g := (gName 3)) (tt := tYes) (by rfl) sc_make_plain.nd (pi_tup (pe_slice sl_tupA (pv 1) (po_some pe_int) po_none)) (blkOk_by (own := [("part", 3)]) (N := ["telling", "term", "names", "part"]) (sc := defScope s_make_plain) (by decide +kernel)) (fun _ _ _ _ _ => (pg_name (i := 3) sc_make_plain.nd rfl (Or.inl rfl))) (fun _ _ _ _ _ => pts_nil) (fun _ _ _ _ _ => (pe_tup (pa_cons (pv 3) (pa_cons (pv 2) pa_nil))))) pa_nil))))), ?_⟩
  obtain ⟨dx, ht⟩ := T0.ins
  refine ⟨_, rfl, tl, dx, _, rfl, ht, no_make_of _ _ _, _, rfl, p, _, _, _, rfl, rfl, SqT.of hp, atI_n (n := 0) rfl rfl, sz 1, fun hd nhd => ?_⟩
  have s1 := same_new nhd (.tup [.str t.w.str])
  have hlen := hvs.len
  have h3 := t.len_parts
  refine ⟨_, rfl, 1, rfl, ?_⟩
  unfold tNoPart
  show rSlA K (V.ref p) (some ((1 : Nat) : Int)) none _ _
  refine slA_from (k := 1) (s1 _ _ hp) (by rw [List.length_append, List.length_singleton]; omega) fun u H2 e2 hu2 => ?_
  have s2 := s1.trans e2
  refine ⟨u, rfl, ⟨_, SqT.of hu2⟩, fun D hD => ?_⟩
  have hvs2 : TmsAt H2 t.parts vs := hvs.mono (.of_same s2)
  have hargs := plain_parts (d := 0) (hE.mono (.of_same s2)) hvs2 fun t' m => by have := Tm.part_deep m; omega
  have hu3 : H2 u = some (.tup vs) := hu2
  refine lc_tup (K := K) (a := u) (xs := vs) (fun i H' => Same H2 H' ∧ ∃ us, H' D = some (.lst us) ∧ us.length = i ∧ Each (PartAt CP H') ((t.parts.take i).map fun p => (p, Ev)) us) ⟨same_new hD _, [], upd_same, rfl, by rw [List.take_zero]; exact True.intro⟩ (fun i H' _ z => SqT.of (z.1 _ _ hu3)) ?_ ?_
  · rintro i x H' hi ⟨g, us, hd', hl', he'⟩
    obtain ⟨tp, htp⟩ : ∃ tp, t.parts[i]? = some tp := by
      have hil : i < vs.length := (List.getElem?_eq_some_iff.mp hi).1
      exact ⟨_, List.getElem?_eq_getElem (by omega)⟩
    obtain ⟨v', hv', hta'⟩ := hvs2.get htp
    rw [hi] at hv'
    cases hv'
    refine ⟨rfl, _, rfl, _, rfl, sz 2, fun r nr => ?_⟩
    have g2 := same_new nr (.tup [x, .ref e])
    refine ⟨us, g2 _ _ hd', small1000 (by have := (List.getElem?_eq_some_iff.mp hi).1; omega), fun b o z => ?_, us ++ [.ref r], upd_same, by rw [List.length_append, hl']; rfl, ?_⟩
    · rw [upd_ne (ne_of_none z hD)]
      exact g2 _ _ (g b o z)
    · rw [List.take_add_one, htp, List.map_append]
      have kk : ∀ b o, (∀ ys, o ≠ .lst ys) → upd H' r (.tup [x, .ref e]) b = some o → upd (upd H' r (.tup [x, .ref e])) D (.lst (us ++ [.ref r])) b = some o := fun b o n z => by
        rw [upd_ne (fun y : b = D => by rw [y, g2 _ _ hd'] at z; cases z; exact n _ rfl)]
        exact z
      have kp : Kp CP H' (upd (upd H' r (.tup [x, .ref e])) D (.lst (us ++ [.ref r]))) := fun b o z y => kk b o (by rintro ys rfl; rcases y with ⟨_, y⟩ | ⟨_, y⟩ | ⟨_, _, y⟩ <;> cases y) (g2 _ _ z)
      have kp2 : Kp CP H2 (upd (upd H' r (.tup [x, .ref e])) D (.lst (us ++ [.ref r]))) := (Kp.of_same g).trans kp
      refine Each.app (he'.imp fun _ _ ⟨p, a, b, e1, e2, e3⟩ => ⟨p, a, b, e1, kp.tups _ _ e2, e3.mono kp⟩) ⟨⟨r, x, .ref e, rfl, kk _ _ (fun ys z => by cases z) upd_same, ?_⟩, True.intro⟩
      exact ⟨e, c, hta'.mono kp2.tups, rfl, (hE.mono (.of_same s2)).mono kp2, by have := Tm.part_deep (List.mem_of_getElem? htp); show c + tp.deep ≤ 1000; omega⟩
  · rintro H' ⟨g, us, hd', hl', he'⟩
    rw [hlen, List.take_length] at he'
    have s3 := s2.trans g
    have nD : H D = none := s2.free hD
    obtain ⟨ss, hS, _⟩ := T0.steps
    obtain ⟨fs, hF, _⟩ := T0.found
    refine ⟨tl, S, Fl, t, t.parts.map fun p => (p, Ev), Ks, Fs, n, hd, D, us, rfl, ?_, hd', (ne_of_none hS nD).symm, (ne_of_none hF nD).symm, he', by rw [List.length_map], fun qq hqq => ?_, T0.same s3, by omega, fun H4 g4 T4 => q _ ((Frm.of_same s3).trans g4) ?_⟩
    · rw [hh]
      exact g _ _ (e2 _ _ upd_same)
    · obtain ⟨tp, htp, rfl⟩ := List.mem_map.mp hqq
      exact gd (.make tp Ev) (List.mem_append_left _ (List.mem_map_of_mem htp))
    · rw [List.map_map] at T4
      exact T4
end
section
variable {P : Program} {w : World} {K : PySem.W.Frag} {mg : Str → Option Value} {base : Heap} {CT CP CG DT DM : Addr} {FA : Sf → Addr} {f f1 f2 f3 f4 f5 f6 f7 f8 : Addr} {fd fd1 fd2 fd3 fd4 fd5 fd6 fd7 fd8 : FuncData}
/-- a pair of a part and its names: new -/
theorem mkPart {H : Hp} {t : Tm} {E : Evs} {a : V} {e p : Addr} (ha : Args CP H (.make t E) a (.ref e)) (hp : H p = none) : Same H (upd H p (.tup [a, .ref e])) ∧ PartAt CP (upd H p (.tup [a, .ref e])) (t, E) (.ref p) := by
  have s := same_new hp (.tup [a, .ref e])
  exact ⟨s, p, a, .ref e, rfl, upd_same, ha.mono (.of_same s)⟩
theorem PartAt.same {H H' : Hp} (s : Same H H') {q : Tm × Evs} {v : V} (h : PartAt CP H q v) : PartAt CP H' q v := by
  obtain ⟨p, a, b, e1, e2, e3⟩ := h
  exact ⟨p, a, b, e1, s _ _ e2, e3.mono (.of_same s)⟩
/-- a new dict p of e's names and one more, which is known -/
theorem star_same {H : Hp} {E : Evs} {e p q : Addr} {c : Nat} {kvs : List (Key × V)} {x : Str} {v : EV} {u : V} (he : H e = some (.dK kvs)) (hE : EnvAt CP H E e c) (hu : EVAt CP H v u)
    (np : H p = none) (nq : upd (upd H p (.dK [])) p (.dK kvs) q = none) :
    (∀ b o, H b = some o → upd (upd (upd H p (.dK [])) p (.dK kvs)) q (.dK []) b = some o) ∧ upd (upd (upd H p (.dK [])) p (.dK kvs)) q (.dK []) p = some (.dK kvs) ∧
    Same H (upd (upd (upd (upd (upd H p (.dK [])) p (.dK kvs)) q (.dK [])) q (.dK [(Sum.inr x, u)])) p (.dK (putK kvs (.inr x) u))) ∧
    EnvAt CP (upd (upd (upd (upd (upd H p (.dK [])) p (.dK kvs)) q (.dK [])) q (.dK [(Sum.inr x, u)])) p (.dK (putK kvs (.inr x) u))) (E.set x v) p (c + 1) := by
  have pq : p ≠ q := fun z => by rw [← z, upd_same] at nq; cases nq
  have nq0 : H q = none := by
    rw [upd_ne pq.symm, upd_ne pq.symm] at nq
    exact nq
  have s1 : Same H (upd (upd (upd (upd (upd H p (.dK [])) p (.dK kvs)) q (.dK [])) q (.dK [(Sum.inr x, u)])) p (.dK (putK kvs (.inr x) u))) := fun b o h => by
    have bp := ne_of_none h np
    have bq := ne_of_none h nq0
    rw [upd_ne bp, upd_ne bq, upd_ne bq, upd_ne bp, upd_ne bp]
    exact h
  refine ⟨fun b o h => ?_, by rw [upd_ne pq, upd_same], s1, hE.set (.of_same s1) he upd_same (hu.mono (.of_same s1))⟩
  rw [upd_ne (ne_of_none h nq0), upd_ne (ne_of_none h np), upd_ne (ne_of_none h np)]
  exact h
theorem ok_make_let (F : Fun K "make_let" "make_let" s_make_let f fd) (T : Txt mg) (TC_Telling : TcT K CT) (C_new_name : CalM P w K mg base CT "new_name" ["self"] 1 (spNewName CT CP FA) f1 fd1)
    (C_make_of : CalM P w K mg base CT "make_of" ["self", "head", "parts"] 3 (spMakeOf CT CP FA) f2 fd2) : FnOk P w K mg base CX0 4 f fd ["telling", "term", "names"] (spStp CT CP CG FA (.m .let)) := by
  refine F.ok sc_make_let (fun vs H Q E h => ?_) (fun cdv A outer s H vs Q E hr h => ?_)
  · obtain ⟨tl, S, Fl, s, K, F, n, a, b, rfl, _⟩ := h
    rfl
  obtain ⟨tl, S, Fl, s, Ks, Fs, n, a, b, rfl, hc, ha, T0, hf, hq⟩ := h
  obtain ⟨t, Ev, rfl, hw⟩ := code_m hc
  obtain ⟨x, a, b, rfl⟩ := w_let hw
  rcases hq with ⟨c', st, gd, q⟩ | ⟨hb, _⟩
  rotate_left
  · cases hb
  cases st
  have hk : Ks.length + 1 ≤ 100000 := hf.k
  have hn : n < NB := hf.n
  obtain ⟨e, c, ⟨p, v1, v2, rfl, hp0, ta0, tb0⟩, rfl, hE0, hz⟩ := ha
  simp only [Tm.deep] at hz
  refine ⟨_, (pss_cons (ps_set (i := 3) sc_make_let.nd rfl (Or.inl rfl) (pe_meth0 (pv 0) TC_Telling.cl C_new_name.m C_new_name.ok (hr.mono (by first | decide | omega)) C_new_name.b .nil pass0))
      (pss_one (ps_expr (pe_meth (pv 0) TC_Telling.cl C_make_of.m C_make_of.ok (hr.mono (by first | decide | omega)) C_make_of.b .nil pass0 (pa_cons (pe_tup (pa_cons pe_str (pa_cons (pv 3) pa_nil))) (pa_cons (pe_lst (pa_cons (pe_tup (pa_cons (pe_ix ix_tup (pv 1) pe_int (fun _ _ => rfl)) (pa_cons (pv 2) pa_nil))) (pa_cons (pe_tup (pa_cons (pe_ix ix_tup (pv 1) pe_int (fun _ _ => rfl)) (pa_cons (pe_star (pv 2) (pe_ix ix_tup (pv 1) pe_int (fun _ _ => rfl)) (pv 3)) pa_nil))) pa_nil))) pa_nil)))))), ?_⟩
  obtain ⟨dx, ht⟩ := T0.ins
  refine ⟨_, rfl, tl, dx, _, rfl, ht, no_new _ _ _, tl, S, Fl, _, rfl, T0, by show n + 1 ≤ _; omega, fun H1 g1 T1 => ?_⟩
  have k1 := T0.kp g1
  have hp := k1.tups _ _ hp0
  have ta := ta0.mono k1.tups
  have tb := tb0.mono k1.tups
  have hE := hE0.mono k1
  obtain ⟨dx1, ht1⟩ := T1.ins
  refine ⟨_, rfl, tl, dx1, _, rfl, ht1, no_make_of _ _ _, _, rfl, sz 2, fun hd nhd => ?_⟩
  have s1 := same_new nhd (.tup [.str "let", .str (vN (n + 1))])
  have hhd : upd H1 hd (.tup [.str "let", .str (vN (n + 1))]) hd = some (.tup [.str "let", .str (vN (n + 1))]) := upd_same
  generalize upd H1 hd (.tup [.str "let", .str (vN (n + 1))]) = H2 at s1 hhd ⊢
  refine ⟨_, rfl, p, _, _, _, rfl, rfl, SqT.of (s1 _ _ hp), atI_n (n := 2) rfl rfl, _, rfl, sz 2, fun r1 nr1 => ?_⟩
  obtain ⟨s2, pa⟩ := mkPart (CP := CP) (t := a) (E := Ev) (a := v1) (e := e) (H := H2) ⟨e, c, ta.mono (.of_same s1), rfl, hE.mono (.of_same s1), by omega⟩ nr1
  generalize upd H2 r1 (.tup [v1, .ref e]) = H3 at s2 pa ⊢
  have s3 := s1.trans s2
  have hE3 := hE.mono (.of_same s3)
  obtain ⟨kvs, he, hl, hy⟩ := id hE3
  refine ⟨_, rfl, p, _, _, _, rfl, rfl, SqT.of (s3 _ _ hp), atI_n (n := 3) rfl rfl, fun pn np => ?_⟩
  refine ⟨_, rfl, e, kvs, rfl, (ne_of_none he np).symm, (by rw [upd_ne (ne_of_none he np)]; exact he), upd_same, szK (by omega), fun qn nq => ?_⟩
  obtain ⟨old, atp, s4, E4⟩ := star_same (x := x) (v := .nm (vN (n + 1))) (u := .str (vN (n + 1))) he hE3 (.nm _) np nq
  refine ⟨_, rfl, p, _, _, _, rfl, rfl, SqT.of (old _ _ (s3 _ _ hp)), atI_n (n := 1) rfl rfl, _, rfl, atp, upd_same, Sum.inr x, rfl, ?_⟩
  generalize upd (upd (upd (upd (upd H3 pn (.dK [])) pn (.dK kvs)) qn (.dK [])) qn (.dK [(Sum.inr x, .str (vN (n + 1)))])) pn (.dK (putK kvs (.inr x) (.str (vN (n + 1))))) = H4 at s4 E4 ⊢
  have s5 := s3.trans s4
  refine ⟨sz 2, fun r2 nr2 => ?_⟩
  obtain ⟨s6, pb⟩ := mkPart (CP := CP) (t := b) (E := Ev.set x (.nm (vN (n + 1)))) (a := v2) (e := pn) (H := H4) ⟨pn, c + 1, tb.mono (.of_same s5), rfl, E4, by omega⟩ nr2
  generalize upd H4 r2 (.tup [v2, .ref pn]) = H5 at s6 pb ⊢
  refine ⟨sz 2, fun l nl => ?_⟩
  have s7 := same_new nl (.lst [.ref r1, .ref r2])
  have s8 := s5.trans (s6.trans s7)
  have T8 := T1.same s8
  have nl1 : H1 l = none := (s5.trans s6).free nl
  obtain ⟨ss, hS, _⟩ := T1.steps
  obtain ⟨fs, hF, _⟩ := T1.found
  refine ⟨tl, S, Fl, .letx (vN (n + 1)) a b, [(a, Ev), (b, Ev.set x (.nm (vN (n + 1))))], Ks, Fs, n + 1, hd, l, _, rfl, ?_, upd_same, (ne_of_none hS nl1).symm, (ne_of_none hF nl1).symm, ⟨pa.same (s4.trans (s6.trans s7)), pb.same s7, True.intro⟩, rfl, ?_, T8, by omega, fun H9 g9 T9 => q _ (g1.trans ((Frm.of_same s8).trans g9)) T9⟩
  · exact s7 _ _ (s6 _ _ (s4 _ _ (s2 _ _ hhd)))
  · intro qq hqq
    simp only [List.mem_cons, List.not_mem_nil, or_false] at hqq
    rcases hqq with rfl | rfl
    · exact gd (.make a Ev) (.head _)
    · exact gd (.make b _) (.tail _ (.head _))
theorem ok_make_turns (F : Fun K "make_turns" "make_turns" s_make_turns f fd) (T : Txt mg) (TC_Telling : TcT K CT) (C_new_name : CalM P w K mg base CT "new_name" ["self"] 1 (spNewName CT CP FA) f1 fd1)
    (C_make_of : CalM P w K mg base CT "make_of" ["self", "head", "parts"] 3 (spMakeOf CT CP FA) f2 fd2) : FnOk P w K mg base CX0 4 f fd ["telling", "term", "names"] (spStp CT CP CG FA (.m .turns)) := by
  refine F.ok sc_make_turns (fun vs H Q E h => ?_) (fun cdv A outer s H vs Q E hr h => ?_)
  · obtain ⟨tl, S, Fl, s, K, F, n, a, b, rfl, _⟩ := h
    rfl
  obtain ⟨tl, S, Fl, s, Ks, Fs, n, a, b, rfl, hc, ha, T0, hf, hq⟩ := h
  obtain ⟨t, Ev, rfl, hw⟩ := code_m hc
  obtain ⟨m, x, a, b, rfl⟩ := w_turns hw
  rcases hq with ⟨c', st, gd, q⟩ | ⟨hb, _⟩
  rotate_left
  · cases hb
  cases st
  have hk : Ks.length + 1 ≤ 100000 := hf.k
  have hn : n < NB := hf.n
  obtain ⟨e, c, ⟨p, v1, v2, rfl, hp0, ta0, tb0⟩, rfl, hE0, hz⟩ := ha
  simp only [Tm.deep] at hz
  refine ⟨_, (pss_cons (ps_set (i := 3) sc_make_turns.nd rfl (Or.inl rfl) (pe_meth0 (pv 0) TC_Telling.cl C_new_name.m C_new_name.ok (hr.mono (by first | decide | omega)) C_new_name.b .nil pass0))
      (pss_one (ps_expr (pe_meth (pv 0) TC_Telling.cl C_make_of.m C_make_of.ok (hr.mono (by first | decide | omega)) C_make_of.b .nil pass0 (pa_cons (pe_tup (pa_cons pe_str (pa_cons (pe_ix ix_tup (pv 1) pe_int (fun _ _ => rfl)) (pa_cons (pv 3) pa_nil)))) (pa_cons (pe_lst (pa_cons (pe_tup (pa_cons (pe_ix ix_tup (pv 1) pe_int (fun _ _ => rfl)) (pa_cons (pv 2) pa_nil))) (pa_cons (pe_tup (pa_cons (pe_ix ix_tup (pv 1) pe_int (fun _ _ => rfl)) (pa_cons (pe_star (pv 2) (pe_ix ix_tup (pv 1) pe_int (fun _ _ => rfl)) (pv 3)) pa_nil))) pa_nil))) pa_nil)))))), ?_⟩
  obtain ⟨dx, ht⟩ := T0.ins
  refine ⟨_, rfl, tl, dx, _, rfl, ht, no_new _ _ _, tl, S, Fl, _, rfl, T0, by show n + 1 ≤ _; omega, fun H1 g1 T1 => ?_⟩
  have k1 := T0.kp g1
  have hp := k1.tups _ _ hp0
  have ta := ta0.mono k1.tups
  have tb := tb0.mono k1.tups
  have hE := hE0.mono k1
  obtain ⟨dx1, ht1⟩ := T1.ins
  refine ⟨_, rfl, tl, dx1, _, rfl, ht1, no_make_of _ _ _, _, rfl, p, _, _, _, rfl, rfl, SqT.of hp, atI_n (n := 1) rfl rfl, _, rfl, sz 3, fun hd nhd => ?_⟩
  have s1 := same_new nhd (.tup [.str "turns", .int m, .str (vN (n + 1))])
  have hhd : upd H1 hd (.tup [.str "turns", .int m, .str (vN (n + 1))]) hd = some (.tup [.str "turns", .int m, .str (vN (n + 1))]) := upd_same
  generalize upd H1 hd (.tup [.str "turns", .int m, .str (vN (n + 1))]) = H2 at s1 hhd ⊢
  refine ⟨_, rfl, p, _, _, _, rfl, rfl, SqT.of (s1 _ _ hp), atI_n (n := 3) rfl rfl, _, rfl, sz 2, fun r1 nr1 => ?_⟩
  obtain ⟨s2, pa⟩ := mkPart (CP := CP) (t := a) (E := Ev) (a := v1) (e := e) (H := H2) ⟨e, c, ta.mono (.of_same s1), rfl, hE.mono (.of_same s1), by omega⟩ nr1
  generalize upd H2 r1 (.tup [v1, .ref e]) = H3 at s2 pa ⊢
  have s3 := s1.trans s2
  have hE3 := hE.mono (.of_same s3)
  obtain ⟨kvs, he, hl, hy⟩ := id hE3
  refine ⟨_, rfl, p, _, _, _, rfl, rfl, SqT.of (s3 _ _ hp), atI_n (n := 4) rfl rfl, fun pn np => ?_⟩
  refine ⟨_, rfl, e, kvs, rfl, (ne_of_none he np).symm, (by rw [upd_ne (ne_of_none he np)]; exact he), upd_same, szK (by omega), fun qn nq => ?_⟩
  obtain ⟨old, atp, s4, E4⟩ := star_same (x := x) (v := .nm (vN (n + 1))) (u := .str (vN (n + 1))) he hE3 (.nm _) np nq
  refine ⟨_, rfl, p, _, _, _, rfl, rfl, SqT.of (old _ _ (s3 _ _ hp)), atI_n (n := 2) rfl rfl, _, rfl, atp, upd_same, Sum.inr x, rfl, ?_⟩
  generalize upd (upd (upd (upd (upd H3 pn (.dK [])) pn (.dK kvs)) qn (.dK [])) qn (.dK [(Sum.inr x, .str (vN (n + 1)))])) pn (.dK (putK kvs (.inr x) (.str (vN (n + 1))))) = H4 at s4 E4 ⊢
  have s5 := s3.trans s4
  refine ⟨sz 2, fun r2 nr2 => ?_⟩
  obtain ⟨s6, pb⟩ := mkPart (CP := CP) (t := b) (E := Ev.set x (.nm (vN (n + 1)))) (a := v2) (e := pn) (H := H4) ⟨pn, c + 1, tb.mono (.of_same s5), rfl, E4, by omega⟩ nr2
  generalize upd H4 r2 (.tup [v2, .ref pn]) = H5 at s6 pb ⊢
  refine ⟨sz 2, fun l nl => ?_⟩
  have s7 := same_new nl (.lst [.ref r1, .ref r2])
  have s8 := s5.trans (s6.trans s7)
  have T8 := T1.same s8
  have nl1 : H1 l = none := (s5.trans s6).free nl
  obtain ⟨ss, hS, _⟩ := T1.steps
  obtain ⟨fs, hF, _⟩ := T1.found
  refine ⟨tl, S, Fl, .turns m (vN (n + 1)) a b, [(a, Ev), (b, Ev.set x (.nm (vN (n + 1))))], Ks, Fs, n + 1, hd, l, _, rfl, ?_, upd_same, (ne_of_none hS nl1).symm, (ne_of_none hF nl1).symm, ⟨pa.same (s4.trans (s6.trans s7)), pb.same s7, True.intro⟩, rfl, ?_, T8, by omega, fun H9 g9 T9 => q _ (g1.trans ((Frm.of_same s8).trans g9)) T9⟩
  · exact s7 _ _ (s6 _ _ (s4 _ _ (s2 _ _ hhd)))
  · intro qq hqq
    simp only [List.mem_cons, List.not_mem_nil, or_false] at hqq
    rcases hqq with rfl | rfl
    · exact gd (.make a Ev) (.head _)
    · exact gd (.make b _) (.tail _ (.head _))
theorem ok_make_def (F : Fun K "make_def" "make_def" s_make_def f fd) (T : Txt mg) (TC_Telling : TcT K CT) (C_new_name : CalM P w K mg base CT "new_name" ["self"] 1 (spNewName CT CP FA) f1 fd1)
    (C_make_of : CalM P w K mg base CT "make_of" ["self", "head", "parts"] 3 (spMakeOf CT CP FA) f2 fd2) : FnOk P w K mg base CX0 4 f fd ["telling", "term", "names"] (spStp CT CP CG FA (.m .def)) := by
  refine F.ok sc_make_def (fun vs H Q E h => ?_) (fun cdv A outer s H vs Q E hr h => ?_)
  · obtain ⟨tl, S, Fl, s, K, F, n, a, b, rfl, _⟩ := h
    rfl
  obtain ⟨tl, S, Fl, s, Ks, Fs, n, a, b, rfl, hc, ha, T0, hf, hq⟩ := h
  obtain ⟨t, Ev, rfl, hw⟩ := code_m hc
  obtain ⟨g, x, k, a, b, rfl⟩ := w_def hw
  rcases hq with ⟨c', st, gd, q⟩ | ⟨hb, _⟩
  rotate_left
  · cases hb
  cases st
  have hk : Ks.length + 1 ≤ 100000 := hf.k
  have hn : n < NB := hf.n
  obtain ⟨e, c, ⟨p, v1, v2, rfl, hp0, ta0, tb0⟩, rfl, hE0, hz⟩ := ha
  simp only [Tm.deep] at hz
  refine ⟨_, (pss_cons (ps_set (i := 3) sc_make_def.nd rfl (Or.inl rfl) (pe_meth0 (pv 0) TC_Telling.cl C_new_name.m C_new_name.ok (hr.mono (by first | decide | omega)) C_new_name.b .nil pass0))
      (pss_cons (ps_set (i := 4) sc_make_def.nd rfl (Or.inl rfl) (pe_meth0 (pv 0) TC_Telling.cl C_new_name.m C_new_name.ok (hr.mono (by first | decide | omega)) C_new_name.b .nil pass0))
      (pss_cons (ps_set (i := 5) sc_make_def.nd rfl (Or.inl rfl) (pe_lst (pa_cons (pe_tup (pa_cons (pe_ix ix_tup (pv 1) pe_int (fun _ _ => rfl)) (pa_cons (pe_star (pv 2) (pe_ix ix_tup (pv 1) pe_int (fun _ _ => rfl)) (pv 4)) pa_nil))) (pa_cons (pe_tup (pa_cons (pe_ix ix_tup (pv 1) pe_int (fun _ _ => rfl)) (pa_cons (pe_star (pv 2) (pe_ix ix_tup (pv 1) pe_int (fun _ _ => rfl)) (pv 3)) pa_nil))) pa_nil))))
      (pss_one (ps_expr (pe_meth (pv 0) TC_Telling.cl C_make_of.m C_make_of.ok (hr.mono (by first | decide | omega)) C_make_of.b .nil pass0 (pa_cons (pe_tup (pa_cons pe_str (pa_cons (pv 3) (pa_cons (pv 4) (pa_cons (pe_ix ix_tup (pv 1) pe_int (fun _ _ => rfl)) pa_nil))))) (pa_cons (pv 5) pa_nil)))))))), ?_⟩
  obtain ⟨dx, ht⟩ := T0.ins
  refine ⟨_, rfl, tl, dx, _, rfl, ht, no_new _ _ _, tl, S, Fl, _, rfl, T0, by show n + 1 ≤ _; omega, fun H0 g0 T00 => ?_⟩
  obtain ⟨dx0, ht0⟩ := T00.ins
  refine ⟨_, rfl, tl, dx0, _, rfl, ht0, no_new _ _ _, tl, S, Fl, _, rfl, T00, by show n + 1 + 1 ≤ _; omega, fun H1 g01 T1 => ?_⟩
  have g1 := g0.trans g01
  have k1 := T0.kp g1
  have hp := k1.tups _ _ hp0
  have ta := ta0.mono k1.tups
  have tb := tb0.mono k1.tups
  have hE := hE0.mono k1
  obtain ⟨dx1, ht1⟩ := T1.ins
  obtain ⟨kvs, he, hl, hy⟩ := id hE
  refine ⟨_, rfl, p, _, _, _, rfl, rfl, SqT.of hp, atI_n (n := 4) rfl rfl, fun pn np => ?_⟩
  refine ⟨_, rfl, e, kvs, rfl, (ne_of_none he np).symm, (by rw [upd_ne (ne_of_none he np)]; exact he), upd_same, szK (by omega), fun qn nq => ?_⟩
  obtain ⟨old, atp, s1, E1⟩ := star_same (x := x) (v := .nm (vN (n + 2))) (u := .str (vN (n + 2))) he hE (.nm _) np nq
  refine ⟨_, rfl, p, _, _, _, rfl, rfl, SqT.of (old _ _ hp), atI_n (n := 2) rfl rfl, _, rfl, atp, upd_same, Sum.inr x, rfl, ?_⟩
  generalize upd (upd (upd (upd (upd H1 pn (.dK [])) pn (.dK kvs)) qn (.dK [])) qn (.dK [(Sum.inr x, .str (vN (n + 2)))])) pn (.dK (putK kvs (.inr x) (.str (vN (n + 2))))) = H2 at s1 E1 ⊢
  refine ⟨sz 2, fun r1 nr1 => ?_⟩
  obtain ⟨s2, pa⟩ := mkPart (CP := CP) (t := a) (E := Ev.set x (.nm (vN (n + 2)))) (a := v1) (e := pn) (H := H2) ⟨pn, c + 1, ta.mono (.of_same s1), rfl, E1, by omega⟩ nr1
  generalize upd H2 r1 (.tup [v1, .ref pn]) = H3 at s2 pa ⊢
  have s3 := s1.trans s2
  have hE3 := hE.mono (.of_same s3)
  obtain ⟨kvs3, he3, hl3, hy3⟩ := id hE3
  refine ⟨_, rfl, p, _, _, _, rfl, rfl, SqT.of (s3 _ _ hp), atI_n (n := 5) rfl rfl, fun pm nm => ?_⟩
  refine ⟨_, rfl, e, kvs3, rfl, (ne_of_none he3 nm).symm, (by rw [upd_ne (ne_of_none he3 nm)]; exact he3), upd_same, szK (by omega), fun qm nqm => ?_⟩
  obtain ⟨old4, atp4, s4, E4⟩ := star_same (x := g) (v := .nm (vN (n + 1))) (u := .str (vN (n + 1))) he3 hE3 (.nm _) nm nqm
  refine ⟨_, rfl, p, _, _, _, rfl, rfl, SqT.of (old4 _ _ (s3 _ _ hp)), atI_n (n := 1) rfl rfl, _, rfl, atp4, upd_same, Sum.inr g, rfl, ?_⟩
  generalize upd (upd (upd (upd (upd H3 pm (.dK [])) pm (.dK kvs3)) qm (.dK [])) qm (.dK [(Sum.inr g, .str (vN (n + 1)))])) pm (.dK (putK kvs3 (.inr g) (.str (vN (n + 1))))) = H4 at s4 E4 ⊢
  have s5 := s3.trans s4
  refine ⟨sz 2, fun r2 nr2 => ?_⟩
  obtain ⟨s6, pb⟩ := mkPart (CP := CP) (t := b) (E := Ev.set g (.nm (vN (n + 1)))) (a := v2) (e := pm) (H := H4) ⟨pm, c + 1, tb.mono (.of_same s5), rfl, E4, by omega⟩ nr2
  generalize upd H4 r2 (.tup [v2, .ref pm]) = H5 at s6 pb ⊢
  refine ⟨sz 2, fun l nl => ?_⟩
  have s7 := same_new nl (.lst [.ref r1, .ref r2])
  have s8 := s5.trans (s6.trans s7)
  have hl8 : upd H5 l (.lst [.ref r1, .ref r2]) l = some (.lst [.ref r1, .ref r2]) := upd_same
  have nl1 : H1 l = none := (s5.trans s6).free nl
  generalize upd H5 l (.lst [.ref r1, .ref r2]) = H6 at s7 s8 hl8 ⊢
  have T8 := T1.same s8
  obtain ⟨dx8, ht8⟩ := T8.ins
  refine ⟨_, rfl, tl, dx8, _, rfl, ht8, no_make_of _ _ _, _, rfl, _, rfl, _, rfl, p, _, _, _, rfl, rfl, SqT.of (s8 _ _ hp), atI_n (n := 3) rfl rfl, sz 4, fun hd nhd => ?_⟩
  have s9 := same_new nhd (.tup [.str "def", .str (vN (n + 1)), .str (vN (n + 2)), .str (kindS k)])
  have s10 := s8.trans s9
  obtain ⟨ss, hS, _⟩ := T1.steps
  obtain ⟨fs, hF, _⟩ := T1.found
  refine ⟨_, rfl, tl, S, Fl, .deff (vN (n + 1)) (vN (n + 2)) k a b, [(a, Ev.set x (.nm (vN (n + 2)))), (b, Ev.set g (.nm (vN (n + 1))))], Ks, Fs, n + 2, hd, l, _, rfl, upd_same, s9 _ _ hl8, (ne_of_none hS nl1).symm, (ne_of_none hF nl1).symm, ⟨pa.same (s4.trans (s6.trans (s7.trans s9))), pb.same (s7.trans s9), True.intro⟩, rfl, ?_, T8.same s9, by omega, fun H9 g9 T9 => q _ (g1.trans ((Frm.of_same s10).trans g9)) T9⟩
  intro qq hqq
  simp only [List.mem_cons, List.not_mem_nil, or_false] at hqq
  rcases hqq with rfl | rfl
  · exact gd (.make a _) (.head _)
  · exact gd (.make b _) (.tail _ (.head _))
theorem ok_make_use (F : Fun K "make_use" "make_use" s_make_use f fd) (T : Txt mg) (TC_Telling : TcT K CT)
    (C_make_of : CalM P w K mg base CT "make_of" ["self", "head", "parts"] 3 (spMakeOf CT CP FA) f2 fd2) : FnOk P w K mg base CX0 4 f fd ["telling", "term", "names"] (spStp CT CP CG FA (.m .use)) := by
  refine F.ok sc_make_use (fun vs H Q E h => ?_) (fun cdv A outer s H vs Q E hr h => ?_)
  · obtain ⟨tl, S, Fl, s, K, F, n, a, b, rfl, _⟩ := h
    rfl
  obtain ⟨tl, S, Fl, s, Ks, Fs, n, a, b, rfl, hc, ha, T0, hf, hq⟩ := h
  obtain ⟨t, Ev, rfl, hw⟩ := code_m hc
  obtain ⟨g, a, rfl⟩ := w_use hw
  rcases hq with ⟨c', st, gd, q⟩ | ⟨hb, _⟩
  rotate_left
  · cases hb
  cases st with
  | muse hx =>
  rename_i z
  have hk : Ks.length + 1 ≤ 100000 := hf.k
  obtain ⟨e, c, ⟨p, v1, rfl, hp, ta⟩, rfl, hE, hz⟩ := ha
  simp only [Tm.deep] at hz
  refine ⟨_, (pss_one (ps_expr (pe_meth (pv 0) TC_Telling.cl C_make_of.m C_make_of.ok (hr.mono (by first | decide | omega)) C_make_of.b .nil pass0 (pa_cons (pe_tup (pa_cons pe_str (pa_cons (pe_dget (hu_of hr) (pv 2) (pe_ix ix_tup (pv 1) pe_int (fun _ _ => rfl)) (fun _ _ => rfl)) pa_nil))) (pa_cons (pe_lst (pa_cons (pe_tup (pa_cons (pe_ix ix_tup (pv 1) pe_int (fun _ _ => rfl)) (pa_cons (pv 2) pa_nil))) pa_nil)) pa_nil))))), ?_⟩
  obtain ⟨dx, ht⟩ := T0.ins
  obtain ⟨kvs, he, hl, hy⟩ := id hE
  obtain ⟨v, hv, ev⟩ := hy g (by rw [hx]; exact fun z => nomatch z)
  rw [hx] at ev
  cases ev
  refine ⟨_, rfl, tl, dx, _, rfl, ht, no_make_of _ _ _, _, rfl, _, rfl, p, _, _, _, rfl, rfl, SqT.of hp, atI_n (n := 1) rfl rfl, e, _, rfl, hv ▸ DGet.k (k := Sum.inr g) he, sz 2, fun hd nhd => ?_⟩
  have s1 := same_new nhd (.tup [.str "use", .str z])
  refine ⟨_, rfl, p, _, _, _, rfl, rfl, SqT.of (s1 _ _ hp), atI_n (n := 2) rfl rfl, _, rfl, sz 2, fun r1 nr1 => ?_⟩
  obtain ⟨s2, pa⟩ := mkPart (CP := CP) (t := a) (E := Ev) (a := v1) (e := e) (H := upd H hd (.tup [.str "use", .str z])) ⟨e, c, ta.mono (.of_same s1), rfl, hE.mono (.of_same s1), by omega⟩ nr1
  refine ⟨sz 1, fun l nl => ?_⟩
  have s7 := same_new nl (.lst [.ref r1])
  have s8 := s1.trans (s2.trans s7)
  have nl1 : H l = none := (s1.trans s2).free nl
  obtain ⟨ss, hS, _⟩ := T0.steps
  obtain ⟨fs, hF, _⟩ := T0.found
  refine ⟨tl, S, Fl, .use z a, [(a, Ev)], Ks, Fs, n, hd, l, _, rfl, s7 _ _ (s2 _ _ upd_same), upd_same, (ne_of_none hS nl1).symm, (ne_of_none hF nl1).symm, ⟨pa.same s7, True.intro⟩, rfl, ?_, T0.same s8, by omega, fun H9 g9 T9 => q _ ((Frm.of_same s8).trans g9) T9⟩
  intro qq hqq
  rw [List.mem_singleton.mp hqq]
  exact gd (.make a _) (.head _)
end

/-! ### put together; the whole telling -/
theorem FnOk.weak {P : Program} {w : World} {K : PySem.W.Frag} {mg : Str → Option Value} {base : Heap} {CX : CXT} {k : Nat} {f : Addr} {fd : FuncData} {ps : List Str} {sp sp' : Sp} (F : FnOk P w K mg base CX k f fd ps sp) (h : ∀ vs H Q E, sp' vs H Q E → sp vs H Q E) :
    FnOk P w K mg base CX k f fd ps sp' := ⟨fun vs H Q E q => F.len vs H Q E (h _ _ _ _ q), fun A outer s H args us vs Q E hr e b v q => F.run A outer s H args us vs Q E hr e b v (h _ _ _ _ q)⟩
structure HeldX (P : Program) (w : World) (K : PySem.W.Frag) (mg : Str → Option Value) (base : Heap) (k : Nat) (f : Addr) (sp : Sp) : Prop where
  ex : ∃ (fd : FuncData) (ps : List Str) (C : CXT), FnOk P w K mg base C k f fd ps sp ∧ PySem.W.keepIn K (.ref f) = true ∧ Binds K fd ps [] ∧ (C = CX0 ∨ C = L2.CX P w)
def tCallH (P : Program) (w : World) (K : PySem.W.Frag) (mg : Str → Option Value) (base : Heap) (k i : Nat) (E : XK) (t : TA) : TE := fun σ H Q => ∃ f sp, σ[i]? = some (some (.ref f)) ∧ HeldX P w K mg base k f sp ∧ t σ H fun vs H1 => sp vs H1 Q E
theorem pe_callH {X : Cx} {k i : Nat} {E : XK} {x : Str} {p pos : Pos} {e : Expr} {es : List Expr} {t : TA} (hr : Room k X.A) (hx : Passes (L2.CX X.prog X.w) X E) (hN : X.N[i]? = some x) (hv : Vis X.env.scope x) (ha : PA X (e :: es) t)
    (hdb : (x == ("__debug__" : Str)) = false := by decide) (hcd : (x == ("__classdict__" : Str)) = false := by decide)
    (he : starEach (e :: es) X.env = (false, eval e X.env) :: starEach es X.env := by rfl) (hpl : (backTo pos (starEach es X.env)).any (·.1) = false := by rfl) : PE X (.Call (.Name x p) (e :: es) [] pos) (tCallH X.prog X.w X.K X.mg X.base k i E t) := by
  refine ⟨fun pins s σ H Q I h => ?_⟩
  obtain ⟨f, sp, hs, ⟨⟨fd, ps, C, F, hk, hb, hC⟩⟩, ht⟩ := h
  have hx' : Passes C X E := by
    rcases hC with rfl | rfl
    · exact fun _ _ _ _ _ _ _ z => z.elim
    · exact hx
  refine (pe_callL (i := i) (f := f) (sp := sp) (dvs := []) (E := E) F hr hN hv hk hb .nil hx' ha hdb hcd he hpl).run pins s σ H Q I ⟨hs, ?_⟩
  have e0 : (fun (vs : List V) (H1 : Hp) => sp (vs ++ []) H1 Q E) = fun vs H1 => sp vs H1 Q E := by
    funext vs H1
    rw [List.append_nil]
  show t σ H (fun vs H1 => sp (vs ++ []) H1 Q E)
  rw [e0]
  exact ht
theorem sum_sizes : ∀ ps : List Tm, (ps.map fun t => (t.size : Int)).sum = ((sizes ps : Nat) : Int)
  | [] => rfl
  | t :: r => by
    rw [List.map_cons, List.sum_cons, sum_sizes r]
    show (t.size : Int) + (sizes r : Int) = ((t.size + sizes r : Nat) : Int)
    omega
theorem Tm.deep_parts {t : Tm} (h : t.parts ≠ []) : ∃ u ∈ t.parts, t.deep = 1 + u.deep := by
  have m2 : ∀ x y : Tm, ∃ u ∈ [x, y], 1 + max x.deep y.deep = 1 + u.deep := fun x y => by
    by_cases c : x.deep ≤ y.deep
    · exact ⟨y, by simp, by rw [Nat.max_eq_right c]⟩
    · exact ⟨x, by simp, by rw [Nat.max_eq_left (by omega)]⟩
  cases t with
  | num n => exact absurd rfl h
  | name n => exact absurd rfl h
  | bin o a b => exact m2 a b
  | cond c a b =>
    obtain ⟨u, hu, e⟩ := m2 a b
    have e' : max a.deep b.deep = u.deep := by omega
    by_cases z : c.deep ≤ u.deep
    · exact ⟨u, List.mem_cons_of_mem _ hu, by simp only [Tm.deep]; rw [e', Nat.max_eq_right z]⟩
    · exact ⟨c, List.mem_cons_self, by simp only [Tm.deep]; rw [e', Nat.max_eq_left (by omega)]⟩
  | letx x a b => exact m2 a b
  | turns n x a b => exact m2 a b
  | deff f x k a b => exact m2 a b
  | use f a => exact ⟨a, List.mem_singleton.mpr rfl, rfl⟩
  | un o a => exact ⟨a, List.mem_singleton.mpr rfl, rfl⟩
def spValueOf (CT CP CG : Addr) (FA : Sf → Addr) : Sp := fun vs H Q E => ∃ (tl S Fl : Addr) (t : Tm) (tv : V) (r : Option (List EV × Nat)), vs = [.ref tl, tv] ∧ TelAt CT CP FA H tl S Fl ⟨[], [], 0⟩ ∧ TmAt H t tv ∧ t.deep ≤ 900 ∧ EndsE ⟨[.tell t .nil], [], 0⟩ r ∧
  (∀ v F n, r = some (v :: F, n) → ∀ u H', Frm tl S Fl H H' → EVAt CP H' v u → Q u H') ∧ (∀ n, r ≠ some ([], n)) ∧ (r = none → ∀ H', Frm tl S Fl H H' → E (.ref CG) none H')
abbrev s_Telling_value_of : Stmt := inClass (topS 9) 1
theorem sc_Telling_value_of : FnScope ["self", "term", "step", "about", "names"] ["self", "term"] (defScope s_Telling_value_of) := ⟨rfl, rfl, rfl, by decide +kernel, rfl, by decide +kernel, by decide +kernel⟩
section
variable {P : Program} {w : World} {K : PySem.W.Frag} {mg : Str → Option Value} {base : Heap} {CT CP CG DT DM : Addr} {FA : Sf → Addr} {f f1 f2 f3 f4 f5 f6 f7 f8 : Addr} {fd fd1 fd2 fd3 fd4 fd5 fd6 fd7 fd8 : FuncData}
theorem ok_put (F : Fun K "put_together" "put_together" s_put_together f fd) (T : Txt mg) (TC_Telling : TcT K CT) (TC_Piece : TcP K CP) (MK_Piece : CalC P w K mg base "Piece" CP ["self", "term", "size", "depth"] 1 (spPcInit CP) f1 fd1) : FnOk P w K mg base CX0 3 f fd ["telling", "head", "many"] (spStp CT CP CG FA .put) := by
  refine F.ok sc_put_together (fun vs H Q E h => ?_) (fun cdv A outer s H vs Q E hr h => ?_)
  · obtain ⟨tl, S, Fl, s, K, F, n, a, b, rfl, _⟩ := h
    rfl
  obtain ⟨tl, S, Fl, s, Ks, Fs, n, a, b, rfl, hc, ha, T0, hf, hq⟩ := h
  rcases hq with ⟨c', st, gd, q⟩ | ⟨hb, _⟩
  rotate_left
  · cases hb; cases hc
  generalize hFs : Fs = Fs0 at st T0 hf
  cases st <;> try cases hc
  rename_i t ps F' hpl hpn
  obtain ⟨ph, rfl, hph, rfl⟩ := ha
  refine ⟨_, (pss_cons (ps_set (i := 3) sc_put_together.nd rfl (Or.inl rfl) (pe_op op_sub (pe_callB call_len_seq (by rfl) T.len PySem.boot_len (pa_cons (pe_fld (pv 0) rfl) pa_nil)) (pv 2)))
      (pss_cons (ps_set (i := 4) sc_put_together.nd rfl (Or.inl rfl) (pe_slice sl_list (pe_fld (pv 0) rfl) (po_some (pv 3)) po_none))
      (pss_cons (ps_cutFrom (pe_fld (pv 0) rfl) (pv 3))
      (pss_cons (ps_set (i := 5) sc_put_together.nd rfl (Or.inl rfl) (pe_op op_add pe_int (pe_callB (cr_sum rfl) (by rfl) T.sum (by decide +kernel) (pa_cons (pe_lc (own := [("part", 8)]) (g := (gName 8)) (tt := tYes) (te := tFld K (tVar 8) "size") (by rfl) sc_put_together.nd (pi_list (pv 4)) (blkOk_by (own := [("part", 8)]) (N := ["telling", "head", "many", "start", "parts", "size", "depth", "terms", "part"]) (sc := defScope s_put_together) (by decide +kernel)) (fun _ _ _ _ _ => (pg_name (i := 8) sc_put_together.nd rfl (Or.inl rfl))) (fun _ _ _ _ _ => pts_nil) (fun _ _ _ _ _ => (pe_fld (pv 8) rfl))) pa_nil))))
      (pss_cons (ps_set (i := 6) sc_put_together.nd rfl (Or.inl rfl) (pe_op op_add pe_int (pe_callB (cr_max rfl) (by rfl) T.max (by decide +kernel) (pa_cons (pe_lc (own := [("part", 8)]) (g := (gName 8)) (tt := tYes) (te := tFld K (tVar 8) "depth") (by rfl) sc_put_together.nd (pi_list (pv 4)) (blkOk_by (own := [("part", 8)]) (N := ["telling", "head", "many", "start", "parts", "size", "depth", "terms", "part"]) (sc := defScope s_put_together) (by decide +kernel)) (fun _ _ _ _ _ => (pg_name (i := 8) sc_put_together.nd rfl (Or.inl rfl))) (fun _ _ _ _ _ => pts_nil) (fun _ _ _ _ _ => (pe_fld (pv 8) rfl))) pa_nil))))
      (pss_cons (ps_setLc (i := 7) (own := [("part", 8)]) (g := (gName 8)) (tt := tYes) (te := tFld K (tVar 8) "term") (by rfl) sc_put_together.nd rfl rfl (sw_true rfl rfl rfl (by decide +kernel)) (pi_list (pv 4)) (blkOk_by (own := [("part", 8)]) (N := ["telling", "head", "many", "start", "parts", "size", "depth", "terms", "part"]) (sc := defScope s_put_together) (by decide +kernel)) (fun _ _ _ _ _ => (pg_name (i := 8) sc_put_together.nd rfl (Or.inl rfl))) (fun _ _ _ _ _ => pts_nil) (fun _ _ _ _ _ => (pe_fld (pv 8) rfl)))
      (pss_one (ps_expr (pe_bm PySem.F.plainAttrs_list PySem.F.slot_list_append PySem.F.type_list_append mt_append (pe_fld (pv 0) rfl) (pa_cons (pe_make MK_Piece.mkr MK_Piece.ok (hr.mono (by first | decide | omega)) rfl MK_Piece.m MK_Piece.b .nil pass0 (pa_cons (pe_tup (StX.pa_star (pv 1) (StX.pa_star (pv 7) pa_nil))) (pa_cons (pv 5) (pa_cons (pv 6) pa_nil)))) pa_nil)))))))))), ?_⟩
  obtain ⟨dx, ht⟩ := T0.ins
  obtain ⟨fs, hF, ef⟩ := T0.found
  obtain ⟨b1, b2, rfl, e1, e2⟩ := ef.split
  have e1r := e1.rev
  rw [List.reverse_reverse] at e1r
  have e1m := e1r.map
  have l1 : b1.length = ps.length := by have := e1m.len; rw [List.length_reverse] at this; exact this
  have l2 : b2.length = F'.length := e2.len
  have hfl : b2.length + b1.length ≤ 100000 := by
    have := hf.f
    simp only [List.length_append, List.length_reverse, List.length_map] at this
    omega
  have hrev : (b1 ++ b2).reverse = b2.reverse ++ b1.reverse := List.reverse_append
  rw [hrev] at hF
  have hlen : (b2.reverse ++ b1.reverse).length = b2.length + b1.length := by rw [List.length_append, List.length_reverse, List.length_reverse]
  generalize hus : b1.reverse = us at e1m hF hlen hrev
  have lus : us.length = ps.length := by rw [← hus, List.length_reverse, l1]
  -- start
  refine ⟨_, rfl, tl, CT, dx, _, _, rfl, ht, TC_Telling.cl, TC_Telling.nF, tlF_found _ _ _, Fl, _, rfl, .inl (SqL.of hF), _, rfl, _, _, rfl, rfl, ?_⟩
  have es : (((b2.reverse ++ us).length : Nat) : Int) - (t.parts.length : Int) = (b2.length : Int) := by rw [hlen, ← hpl, l1]; omega
  dsimp only
  rw [es]
  -- parts
  refine ⟨_, rfl, tl, CT, dx, _, _, rfl, ht, TC_Telling.cl, TC_Telling.nF, tlF_found _ _ _, _, rfl, _, rfl, ?_⟩
  unfold tNoPart
  refine ⟨Fl, _, rfl, SqL.of hF, fun pp npp => ?_⟩
  have ecut : cutV (b2.reverse ++ us) (some (b2.length : Int)) none = us := by
    unfold cutV
    rw [HT.sIx_nat, Nat.min_eq_left (by rw [hlen]; omega), List.drop_left' (by rw [List.length_reverse])]
    exact List.take_of_length_le (by show us.length ≤ (b2.reverse ++ us).length - b2.length; rw [hlen, lus, l1]; omega)
  rw [ecut]
  have s1 := same_new npp (.lst us)
  have hpp : upd H pp (.lst us) pp = some (.lst us) := upd_same
  have T1 := T0.same s1
  have hF1 := s1 _ _ hF
  have hph1 := s1 _ _ hph
  have npF : pp ≠ Fl := (ne_of_none hF npp).symm
  obtain ⟨dx1, ht1⟩ := T1.ins
  have e1m1 : Each (fun c b => EVAt CP (upd H pp (.lst us)) (EV.piece c) b) ps us := e1m.imp fun _ _ z => z.mono (.of_same s1)
  generalize upd H pp (.lst us) = H1 at s1 hpp T1 hF1 hph1 ht1 e1m1 ⊢
  -- del
  refine ⟨_, rfl, tl, CT, dx1, _, _, rfl, ht1, TC_Telling.cl, TC_Telling.nF, tlF_found _ _ _, _, rfl, Fl, _, b2.length, rfl, rfl, hF1, by rw [hlen]; omega, ?_⟩
  rw [List.take_left' (by rw [List.length_reverse])]
  have T2 : TelAt CT CP FA (upd H1 Fl (.lst b2.reverse)) tl S Fl ⟨Ks, F', n⟩ := by
    have k := T1.kp (H' := upd H1 Fl (.lst b2.reverse)) (.putF _)
    have n1 := T1.nS
    obtain ⟨⟨dx', h1⟩, ⟨ss, h2, h3⟩, _, hn, hc⟩ := T1
    exact ⟨⟨dx', by rw [upd_ne n1.2]; exact h1⟩, ⟨ss, by rw [upd_ne hn]; exact h2, h3.imp fun _ _ z => z.mono k⟩, ⟨b2, upd_same, e2.imp fun _ _ z => (z.mono (.of_same s1)).mono k⟩, hn, hc⟩
  have k2 := T1.kp (H' := upd H1 Fl (.lst b2.reverse)) (.putF _)
  have g2 : Frm tl S Fl H (upd H1 Fl (.lst b2.reverse)) := (Frm.of_same s1).trans (.putF _)
  have hpp2 : upd H1 Fl (.lst b2.reverse) pp = some (.lst us) := by rw [upd_ne npF]; exact hpp
  have hph2 := k2.tups _ _ hph1
  have em2 : Each (fun c b => EVAt CP (upd H1 Fl (.lst b2.reverse)) (EV.piece c) b) ps us := e1m1.imp fun _ _ z => z.mono k2
  generalize upd H1 Fl (.lst b2.reverse) = H2 at T2 g2 hpp2 hph2 em2 ⊢
  clear k2
  -- a comprehension over the parts
  have at_ : ∀ {H' : Hp}, Same H2 H' → ∀ {i : Nat} {x : V}, us[i]? = some x → ∃ u q d tv, ps[i]? = some u ∧ x = .ref q ∧ H' q = some (.ins CP d (pcF tv u)) ∧ TmAt H' u tv := fun {H'} g {i x} hi => by
    have key : ∀ (qs : List Tm) (vs : List V) (i : Nat), Each (fun c b => EVAt CP H2 (EV.piece c) b) qs vs → vs[i]? = some x → ∃ u, qs[i]? = some u ∧ EVAt CP H2 (.piece u) x := by
      intro qs
      induction qs with
      | nil => intro vs i h hx; rw [h.nilL] at hx; cases hx
      | cons z zs ih =>
        intro vs i h hx
        obtain ⟨b, bs, rfl, h1, h2⟩ := h.consL
        cases i with
        | zero => cases hx; exact ⟨z, rfl, h1⟩
        | succ i => exact ih bs i h2 hx
    obtain ⟨u, hu, ev⟩ := key ps us i em2 hi
    cases ev with
    | piece hq2 htm => exact ⟨u, _, _, _, hu, rfl, g _ _ hq2, htm.mono (.of_same g)⟩
  have ul : us.length ≤ 3 := by rw [lus, hpl]; exact t.len_parts
  refine ⟨_, rfl, pp, rfl, ⟨_, SqL.of hpp2⟩, fun D1 nD1 => ?_⟩
  refine lc_list (K := K) (a := pp) (xs := us) (fun i H' => Same H2 H' ∧ H' D1 = some (.lst (((ps.take i).map fun t => (t.size : Int)).map V.int))) ⟨same_new nD1 _, upd_same⟩ (fun i H' _ z => SqL.of (z.1 _ _ hpp2)) ?_ ?_
  · rintro i x H' hi ⟨g, hd'⟩
    obtain ⟨u, qd, d, tv, hu, rfl, hqd, _⟩ := at_ g hi
    refine ⟨rfl, _, rfl, qd, CP, d, _, _, rfl, hqd, TC_Piece.cl, TC_Piece.nS, pcF_size _ _, _, hd', small1000 (by rw [List.length_map, List.length_map, List.length_take]; have := (List.getElem?_eq_some_iff.mp hi).1; omega), fun b o z => ?_, ?_⟩
    · rw [upd_ne (ne_of_none z nD1)]
      exact g b o z
    · rw [upd_same, List.take_add_one, hu, List.map_append, List.map_append]
      rfl
  rintro H3 ⟨g3, hd3⟩
  rw [lus, List.take_length] at hd3
  refine ⟨D1, _, rfl, SqL.of hd3, _, _, rfl, rfl, ?_⟩
  dsimp only
  rw [sum_sizes]
  have hpp3 := g3 _ _ hpp2
  refine ⟨_, rfl, pp, rfl, ⟨_, SqL.of hpp3⟩, fun D2 nD2 => ?_⟩
  refine lc_list (K := K) (a := pp) (xs := us) (fun i H' => Same H3 H' ∧ H' D2 = some (.lst (((ps.take i).map fun t => (t.deep : Int)).map V.int))) ⟨same_new nD2 _, upd_same⟩ (fun i H' _ z => SqL.of (z.1 _ _ hpp3)) ?_ ?_
  · rintro i x H' hi ⟨g, hd'⟩
    obtain ⟨u, qd, d, tv, hu, rfl, hqd, _⟩ := at_ (g3.trans g) hi
    refine ⟨rfl, _, rfl, qd, CP, d, _, _, rfl, hqd, TC_Piece.cl, TC_Piece.nD, pcF_depth _ _, _, hd', small1000 (by rw [List.length_map, List.length_map, List.length_take]; have := (List.getElem?_eq_some_iff.mp hi).1; omega), fun b o z => ?_, ?_⟩
    · rw [upd_ne (ne_of_none z nD2)]
      exact g b o z
    · rw [upd_same, List.take_add_one, hu, List.map_append, List.map_append]
      rfl
  rintro H4 ⟨g4, hd4⟩
  rw [lus, List.take_length] at hd4
  refine ⟨D2, _, rfl, SqL.of hd4, by rw [List.length_map]; exact Nat.pos_of_ne_zero fun z => hpn (List.length_eq_zero_iff.mp z), fun mx hmx hall => ⟨_, _, rfl, rfl, ?_⟩⟩
  have edeep : (1 : Int) + mx = ((t.re ps).deep : Int) := by
    obtain ⟨u, hu, rfl⟩ := List.mem_map.mp hmx
    have hp' := Tm.re_parts hpl
    have b1 := Tm.part_deep (t := t.re ps) (u := u) (by rw [hp']; exact hu)
    obtain ⟨u1, hu1, e⟩ := Tm.deep_parts (t := t.re ps) (by rw [hp']; exact hpn)
    rw [hp'] at hu1
    have := hall _ (List.mem_map_of_mem hu1)
    omega
  have esize : (1 : Int) + ((sizes ps : Nat) : Int) = ((t.re ps).size : Int) := by
    rw [(t.re ps).size_parts, Tm.re_parts hpl]
    omega
  dsimp only
  rw [edeep, esize]
  have g34 := g3.trans g4
  have hpp4 := g34 _ _ hpp2
  refine ⟨_, rfl, pp, rfl, ⟨_, SqL.of hpp4⟩, fun D3 nD3 => ?_⟩
  refine lc_list (K := K) (a := pp) (xs := us) (fun i H' => Same H4 H' ∧ ∃ tvs, H' D3 = some (.lst tvs) ∧ TmsAt H' (ps.take i) tvs) ⟨same_new nD3 _, [], upd_same, by rw [List.take_zero]; exact True.intro⟩ (fun i H' _ z => SqL.of (z.1 _ _ hpp4)) ?_ ?_
  · rintro i x H' hi ⟨g, tvs, hd', htv⟩
    obtain ⟨u, qd, d, tv, hu, rfl, hqd, htu⟩ := at_ (g34.trans g) hi
    have tl := htv.len
    rw [List.length_take] at tl
    have s5 : Tups H' (upd H' D3 (.lst (tvs ++ [tv]))) := Tups.put hd'
    refine ⟨rfl, _, rfl, qd, CP, d, _, _, rfl, hqd, TC_Piece.cl, TC_Piece.nT, pcF_term _ _, _, hd', small1000 (by have := (List.getElem?_eq_some_iff.mp hi).1; omega), fun b o z => ?_, _, upd_same, ?_⟩
    · rw [upd_ne (ne_of_none z nD3)]
      exact g b o z
    · rw [List.take_add_one, hu]
      exact TmsAt.snoc (htu.mono s5) (htv.mono s5)
  rintro H5 ⟨g5, tvs, hd5, htv⟩
  rw [lus, List.take_length] at htv
  have g25 := g34.trans g5
  have T5 := T2.same g25
  obtain ⟨dx5, ht5⟩ := T5.ins
  obtain ⟨fs5, hF5, ef5⟩ := T5.found
  have tvl := htv.len
  refine ⟨_, rfl, tl, CT, dx5, _, _, rfl, ht5, TC_Telling.cl, TC_Telling.nF, tlF_found _ _ _, .inl ⟨rfl, _, SqL.of hF5⟩, ?_⟩
  have hdl : t.head.length ≤ 4 := by cases t <;> simp only [Tm.head, List.length_cons, List.length_nil] <;> omega
  have eh : (t.re ps).head = t.head := Tm.re_head hpl
  refine ⟨_, rfl, ph, _, rfl, .inl (SqT.of (g25 _ _ hph2)), _, rfl, D3, _, rfl, .inr (SqL.of hd5), sz _ ?_, fun pn npn => ?_⟩
  · rw [List.length_append, List.append_nil, tvl, hpl]
    have := t.len_parts
    omega
  rw [List.append_nil]
  have s6 := same_new npn (.tup (t.head ++ tvs))
  refine ⟨_, rfl, _, rfl, fun x d nx nd nxd => ⟨x, d, _, _, _, rfl, upd_same, fun H7 h1 h2 => ⟨rfl, ?_⟩⟩⟩
  have htm : TmAt (upd H5 pn (.tup (t.head ++ tvs))) (t.re ps) (.ref pn) := TmAt.close (vs := tvs) (by rw [eh]; exact upd_same) (by rw [Tm.re_parts hpl]; exact htv.mono (.of_same s6))
  obtain ⟨s7, ev⟩ := newPiece (t := t.re ps) nx nd h1 h2 htm
  have s67 := s6.trans s7
  have T7 := T5.same s67
  have hF7 := s67 _ _ hF5
  exact ⟨Fl, _, _, rfl, rfl, hF7, szK (by rw [T7.ltF hF7]; show F'.length ≤ _; omega), q _ (g2.trans ((Frm.of_same (g25.trans s67)).trans (.putF _))) (T7.pushF hF7 ev)⟩
theorem ok_value_of (F : Fun K "value_of" "Telling.value_of" s_Telling_value_of f fd) (T : Txt mg) (TC_Telling : TcT K CT) (C_tell : CalM P w K mg base CT "tell" ["self", "term", "names"] 2 (spTell CT CP FA) f2 fd2)
    (HA : ∀ s : Stp, s.Good → HeldX P w K mg base 4 (FA s.code) (spStp CT CP CG FA s.code)) : FnOk P w K mg base (L2.CX P w) 5 f fd ["self", "term"] (spValueOf CT CP CG FA) := by
  refine F.okX sc_Telling_value_of (fun vs H Q E h => ?_) (fun cdv A outer s H vs Q E hr h => ?_)
  · obtain ⟨tl, S, Fl, t, tv, r, rfl, _⟩ := h
    rfl
  obtain ⟨tl, S, Fl, t, tv, r, rfl, T0, ht, hd, ⟨m0, he⟩, q1, q2, q3⟩ := h
  refine ⟨_, (pss_cons (ps_expr (pe_meth (pv 0) TC_Telling.cl C_tell.m C_tell.ok (hr.mono (by first | decide | omega)) C_tell.b .nil pass0 (pa_cons (pv 1) (pa_cons pe_dnewK pa_nil))))
      (pss_cons (ps_while (passes_of rfl) (pt_truth (pe_fld (pv 0) rfl) (by intro _; rfl)) (pss_cons (ps_asg (pe_bm0 PySem.F.plainAttrs_list PySem.F.slot_list_pop PySem.F.type_list_pop mt_pop (pe_fld (pv 0) rfl)) (pg_tup rfl (pgs_cons (pg_name (i := 2) sc_Telling_value_of.nd rfl (Or.inl rfl)) (pgs_cons (pg_name (i := 3) sc_Telling_value_of.nd rfl (Or.inl rfl)) (pgs_cons (pg_name (i := 4) sc_Telling_value_of.nd rfl (Or.inl rfl)) pgs_nil)))))
      (pss_one (ps_expr (pe_callH (k := 4) (i := 2) (hr.mono (by first | decide | omega)) (passes_call (takes_of rfl rfl rfl rfl) (fun _ _ _ _ h => h)) rfl (Or.inl rfl) (pa_cons (pv 0) (pa_cons (pv 3) (pa_cons (pv 4) pa_nil))))))))
      (pss_one (ps_ret (pe_bm0 PySem.F.plainAttrs_list PySem.F.slot_list_pop PySem.F.type_list_pop mt_pop (pe_fld (pv 0) rfl)))))), ?_⟩
  obtain ⟨dx, hti⟩ := T0.ins
  refine ⟨_, rfl, tl, dx, _, rfl, hti, no_tell _ _ _, _, rfl, fun e0 ne0 => ?_⟩
  have s0 := same_new ne0 (.dK [])
  refine ⟨tl, S, Fl, t, .nil, [], [], 0, _, _, rfl, ⟨e0, 0, ht.mono (.of_same s0), rfl, .nil upd_same, by omega⟩, he.good _ (.head _), T0.same s0, by decide, fun H1 g1 T1 => ?_⟩
  have g01 : Frm tl S Fl H H1 := (Frm.of_same s0).trans g1
  refine ⟨fun m σ H' => ∃ c o2 o3 o4, σ = [some (.ref tl), some tv, o2, o3, o4] ∧ Frm tl S Fl H H' ∧ TelAt CT CP FA H' tl S Fl c ∧ Ends m c r, ⟨m0, _, none, none, none, rfl, g01, T1, he⟩, ?_⟩
  rintro m σ H' ⟨⟨Ks, Fs, n⟩, o2, o3, o4, rfl, g, T', hen⟩
  obtain ⟨dx', hti'⟩ := T'.ins
  obtain ⟨ss, hS, ess⟩ := T'.steps
  refine ⟨_, rfl, tl, CT, dx', _, _, rfl, hti', TC_Telling.cl, TC_Telling.nS, tlF_steps _ _ _, _, .inl ⟨_, SqL.of hS, rfl⟩, ?_⟩
  cases Ks with
  | nil =>
    have e := ess.nilL
    subst e
    refine iteF' (by simp) ?_
    obtain ⟨fs, hF, efs⟩ := T'.found
    have er : r = some (Fs, n) := by
      cases hen with
      | done => rfl
      | boom _ b => cases b
      | step _ s _ => cases s
    subst er
    cases Fs with
    | nil => exact absurd rfl (q2 n)
    | cons v Fs =>
      obtain ⟨u, fs', rfl, eu, _⟩ := efs.consL
      refine ⟨_, rfl, tl, CT, dx', _, _, rfl, hti', TC_Telling.cl, TC_Telling.nF, tlF_found _ _ _, .inl ⟨rfl, _, SqL.of hF⟩, Fl, _, _, rfl, rfl, hF, rev_last, ?_⟩
      have g9 : Frm tl S Fl H' (upd H' Fl (.lst (u :: fs').reverse.dropLast)) := .putF _
      exact q1 v Fs n rfl u _ (g.trans g9) (eu.mono (T'.kp g9))
  | cons s Ks =>
    obtain ⟨ss', u, hS2, ⟨p, a, b, rfl, hp, hab⟩, T2⟩ := T'.popS
    rw [hS] at hS2
    have ess2 := List.reverse_inj.mp (HO.lst.inj (Option.some.inj hS2))
    subst ess2
    refine iteT' (by simp) ?_
    refine ⟨fun σ' H'' => ∃ m' c o2 o3 o4, m' < m ∧ σ' = [some (.ref tl), some tv, o2, o3, o4] ∧ Frm tl S Fl H H'' ∧ TelAt CT CP FA H'' tl S Fl c ∧ Ends m' c r, fun σ' H'' ⟨m', c, o2, o3, o4, hm, h⟩ => ⟨m', hm, c, o2, o3, o4, h⟩, ?_⟩
    have g9 : Frm tl S Fl H' (upd H' S (.lst ss'.reverse)) := .putS _
    have k9 := T'.kp g9
    refine ⟨_, rfl, tl, CT, dx', _, _, rfl, hti', TC_Telling.cl, TC_Telling.nS, tlF_steps _ _ _, .inl ⟨rfl, _, SqL.of hS⟩, S, _, _, rfl, rfl, hS, rev_last, ?_⟩
    rw [rev_dropLast]
    refine ⟨p, _, rfl, SqT.of (k9.tups _ _ hp), rfl, _, _, rfl, _, _, rfl, _, _, rfl, rfl, ?_⟩
    have hg := hen.good s (.head _)
    refine ⟨FA s.code, _, rfl, HA s hg, _, rfl, _, rfl, _, rfl, tl, S, Fl, s, Ks, Fs, n, a, b, rfl, rfl, hab.mono k9, T2, ?_, ?_⟩
    · cases hen with
      | boom f _ => exact f
      | step f _ _ => exact f
    · cases hen with
      | boom _ bm => exact .inr ⟨bm, q3 rfl _ (g.trans g9)⟩
      | step _ st hr' => exact .inl ⟨_, st, hr'.good, fun H3 g3 T3 => ⟨_, _, _, _, _, Nat.lt_succ_self _, rfl, g.trans (g9.trans g3), T3, hr'⟩⟩
end

/-! ### kinds and levels of terms, as the document's points 4 to 6 tell -/
theorem _root_.L2.Room.units1 {k : Nat} {A : Around} (r : Room k A) : A.units + 65 < cLine := by have := r.un; omega
inductive Er where
  | noName | level | kind
  deriving DecidableEq
/-- what a name means: its level, for a function the kind of its x, its kind -/
structure Ent where
  lv : Bool
  dom : Option Bool
  k : Bool
  deriving DecidableEq
abbrev Env := Str → Option Ent
def Env.set (e : Env) (x : Str) (u : Ent) : Env := fun y => if y = x then some u else e y
def Env.nil : Env := fun _ => none
abbrev Kd := Except Er Bool
def Kd.want (r : Kd) (k : Bool) : Kd := match r with
  | .error e => .error e
  | .ok j => if j = k then .ok k else .error .kind
def Kd.and (r : Kd) (f : Bool → Kd) : Kd := match r with
  | .error e => .error e
  | .ok j => f j
def kd : Tm → Bool → Env → Bool → Kd
  | .num _, _, _, _ => .ok false
  | .name x, l, E, _ => match E x with
    | none => .error .noName
    | some u => if u.lv = l then (match u.dom with
      | none => .ok u.k
      | some _ => .error .kind) else .error .level
  | .use f a, l, E, fr => match E f with
    | none => .error .noName
    | some u => if u.lv = l then (match u.dom with
      | none => .error .kind
      | some d => ((kd a l E fr).want d).and fun _ => .ok u.k) else .error .level
  | .bin _ a b, l, E, fr => ((kd a l E fr).want false).and fun _ => ((kd b l E fr).want false)
  | .cond c a b, l, E, fr => ((kd c l E fr).want false).and fun _ => (kd a l E fr).and fun k => (kd b l E fr).want k
  | .letx x a b, l, E, fr => (kd a l E fr).and fun k => kd b l (E.set x ⟨l, none, k⟩) fr
  | .turns _ x a b, l, E, fr => (kd a l E fr).and fun k => (kd b l (E.set x ⟨l, none, k⟩) fr).want k
  | .deff f x k a b, l, E, fr => if l = true ∧ k = true then .error .kind else
      (kd a l (E.set x ⟨l, none, k⟩) false).and fun j => kd b l (E.set f ⟨l, some k, j⟩) fr
  | .un .quote a, l, E, _ => if l = true then .error .level else ((kd a true E false).want false).and fun _ => .ok true
  | .un .hole a, l, E, _ => if l = false then .error .level else ((kd a false E false).want true).and fun _ => .ok false
  | .un .lift a, l, E, fr => if l = true then .error .level else ((kd a false E fr).want false).and fun _ => .ok true
  | .un .run a, l, E, fr => if l = true ∨ fr = false then .error .level else ((kd a false E fr).want true).and fun _ => .ok false

/-! ### a scope: names with what they mean, the innermost last -/
abbrev Sc := List (Str × Ent)
def look (sc : Sc) : Env := sc.foldl (fun E p => E.set p.1 p.2) Env.nil
theorem look_snoc (sc : Sc) (x : Str) (u : Ent) : look (sc ++ [(x, u)]) = (look sc).set x u := by
  unfold look
  rw [List.foldl_append]
  rfl
theorem foldl_off {x : Str} : ∀ (post : Sc) (E : Env), (∀ p ∈ post, p.1 ≠ x) → (post.foldl (fun E p => E.set p.1 p.2) E) x = E x
  | [], _, _ => rfl
  | p :: r, E, h => by
    show (r.foldl (fun E p => E.set p.1 p.2) (E.set p.1 p.2)) x = E x
    rw [foldl_off r _ fun q m => h q (List.mem_cons_of_mem _ m)]
    exact if_neg fun e => h p List.mem_cons_self e.symm
theorem look_at {sc : Sc} {i : Nat} {x : Str} {u : Ent} (h : sc[i]? = some (x, u)) (off : ∀ p ∈ sc.drop (i + 1), p.1 ≠ x) : look sc x = some u := by
  have hi : i < sc.length := (List.getElem?_eq_some_iff.mp h).1
  have e : sc = sc.take i ++ (x, u) :: sc.drop (i + 1) := by
    have e1 := (List.take_append_drop i sc).symm
    rw [List.drop_eq_getElem_cons hi] at e1
    rw [List.getElem?_eq_getElem hi] at h
    rw [Option.some.inj h] at e1
    exact e1
  rw [e]
  unfold look
  rw [List.foldl_append]
  show ((sc.drop (i + 1)).foldl (fun E p => E.set p.1 p.2) (Env.set _ x u)) x = some u
  rw [foldl_off _ _ off]
  exact if_pos rfl
def lvI (l : Bool) : Int := if l then 1 else 0
def Ent.sig (u : Ent) : List Bool := match u.dom with
  | none => [u.k]
  | some d => [d, u.k]
theorem sig_val {u : Ent} {k : Bool} (h : u.sig = [k]) : u.dom = none ∧ u.k = k := by
  cases u with
  | mk l d j =>
    cases d with
    | none => cases h; exact ⟨rfl, rfl⟩
    | some d => cases h
theorem sig_fn {u : Ent} {d k : Bool} (h : u.sig = [d, k]) : u.dom = some d ∧ u.k = k := by
  cases u with
  | mk l d j =>
    cases d with
    | none => cases h
    | some d => cases h; exact ⟨rfl, rfl⟩
def sigV (s : List Bool) : List V := s.map fun k => .str (kindS k)
def sigD (s : List Bool) : PyData := .tuple (s.map kindD)
def EntAt (H : Hp) (e : Str × Ent) (v : V) : Prop := ∃ p q, v = .ref p ∧ H p = some (.tup [.str e.1, .int (lvI e.2.lv), .ref q]) ∧ H q = some (.tup (sigV e.2.sig))
def entD (e : Str × Ent) : PyData := .tuple [.str e.1, .int (lvI e.2.lv), sigD e.2.sig]
theorem EntAt.mono {H H' : Hp} {e : Str × Ent} {v : V} (t : Tups H H') : EntAt H e v → EntAt H' e v := fun ⟨p, q, h, a, b⟩ => ⟨p, q, h, t _ _ a, t _ _ b⟩
theorem sig_dps {K : PySem.W.Frag} {H : Hp} : ∀ s : List Bool, DpAll K H (sigV s) (s.map kindD)
  | [] => .nil
  | _ :: r => .cons (.str _) (sig_dps r)
theorem sig_dp {K : PySem.W.Frag} {H : Hp} {q : Addr} {s : List Bool} (h : H q = some (.tup (sigV s))) : Dp K H (.ref q) (sigD s) := .tup (SqT.of h) (sig_dps s)
theorem EntAt.dp {K : PySem.W.Frag} {H : Hp} {e : Str × Ent} {v : V} : EntAt H e v → Dp K H v (entD e) := fun ⟨p, q, h, a, b⟩ => by
  rw [h]
  exact .tup (SqT.of a) (.cons (.str _) (.cons (.int _) (.cons (sig_dp b) .nil)))
def ScAt (H : Hp) : Sc → List V → Prop
  | [], [] => True
  | e :: es, v :: vs => EntAt H e v ∧ ScAt H es vs
  | _, _ => False
theorem ScAt.mono {H H' : Hp} (t : Tups H H') : ∀ {es : Sc} {vs : List V}, ScAt H es vs → ScAt H' es vs
  | [], [], _ => True.intro
  | _ :: _, _ :: _, ⟨h, r⟩ => ⟨h.mono t, ScAt.mono t r⟩
  | [], _ :: _, h => h.elim
  | _ :: _, [], h => h.elim
theorem ScAt.len {H : Hp} : ∀ {es : Sc} {vs : List V}, ScAt H es vs → vs.length = es.length
  | [], [], _ => rfl
  | _ :: _, _ :: _, ⟨_, r⟩ => congrArg (· + 1) (ScAt.len r)
  | [], _ :: _, h => h.elim
  | _ :: _, [], h => h.elim
theorem ScAt.app {H : Hp} : ∀ {es fs : Sc} {vs us : List V}, ScAt H es vs → ScAt H fs us → ScAt H (es ++ fs) (vs ++ us)
  | [], _, [], _, _, g => g
  | _ :: _, _, _ :: _, _, ⟨h, r⟩, g => ⟨h, ScAt.app r g⟩
  | [], _, _ :: _, _, h, _ => h.elim
  | _ :: _, _, [], _, h, _ => h.elim
theorem ScAt.get {H : Hp} : ∀ {es : Sc} {vs : List V} {i : Nat} {v : V}, ScAt H es vs → vs[i]? = some v → ∃ e, es[i]? = some e ∧ EntAt H e v
  | e :: _, v :: _, 0, _, ⟨h, _⟩, g => by rw [← Option.some.inj g]; exact ⟨e, rfl, h⟩
  | _ :: _, _ :: _, i + 1, _, ⟨_, r⟩, g => ScAt.get (i := i) r (by simpa using g)
  | [], [], _, _, _, g => by cases g
  | [], _ :: _, _, _, h, _ => h.elim
  | _ :: _, [], _, _, h, _ => h.elim
theorem ScAt.drop {H : Hp} : ∀ {es : Sc} {vs : List V} (n : Nat), ScAt H es vs → ScAt H (es.drop n) (vs.drop n)
  | _, _, 0, h => h
  | [], [], _ + 1, h => h
  | _ :: _, _ :: _, n + 1, ⟨_, r⟩ => ScAt.drop n r
  | [], _ :: _, _ + 1, h => h.elim
  | _ :: _, [], _ + 1, h => h.elim
theorem ScAt.dps {K : PySem.W.Frag} {H : Hp} : ∀ {es : Sc} {vs : List V}, ScAt H es vs → DpAll K H vs (es.map entD)
  | [], [], _ => .nil
  | _ :: _, _ :: _, ⟨h, r⟩ => .cons h.dp (ScAt.dps r)
  | [], _ :: _, h => h.elim
  | _ :: _, [], h => h.elim
/-- a list of ints is no scope's list -/
theorem ScAt.off {H : Hp} {es : Sc} {vs : List V} {c : Int} {r : List V} {a st : Addr} (h : ScAt H es vs) (ha : H a = some (.lst vs)) (hst : H st = some (.lst (.int c :: r))) : a ≠ st := fun z => by
  rw [z, hst] at ha
  cases ha
  match es, h with
  | e :: _, ⟨⟨p, q, z, _⟩, _⟩ => cases z
def Sc.Ok (sc : Sc) : Prop := ∀ p ∈ sc, PyData.strOk p.1 = true
/-- at level 1 a function's x is a number -/
def Sc.Lv (sc : Sc) : Prop := ∀ p ∈ sc, p.2.lv = true → ∀ d, p.2.dom = some d → d = false
def Sc.Good (sc : Sc) : Prop := sc.Ok ∧ sc.Lv
theorem Sc.Good.snoc {sc : Sc} {x : Str} {u : Ent} (h : sc.Good) (hx : PyData.strOk x = true) (hu : u.lv = true → ∀ d, u.dom = some d → d = false) : Sc.Good (sc ++ [(x, u)]) := by
  refine ⟨fun p hp => ?_, fun p hp => ?_⟩ <;> rcases List.mem_append.mp hp with m | m
  · exact h.1 p m
  · rw [List.mem_singleton.mp m]
    exact hx
  · exact h.2 p m
  · rw [List.mem_singleton.mp m]
    exact hu
theorem Sc.Good.val {sc : Sc} {x : Str} {l k : Bool} (h : sc.Good) (hx : PyData.strOk x = true) : Sc.Good (sc ++ [(x, ⟨l, none, k⟩)]) := h.snoc hx fun _ _ z => nomatch z
theorem ext1 {H : Hp} {sc : Sc} {ws : List V} (hA : ScAt H sc ws) (x : Str) (u : Ent) {pa pb pc pd : Addr} {o : HO} (na : H pa = none) (nb : upd H pa (.tup (sigV u.sig)) pb = none)
    (nc : upd (upd H pa (.tup (sigV u.sig))) pb (.tup [.str x, .int (lvI u.lv), .ref pa]) pc = none) (nd : upd (upd (upd H pa (.tup (sigV u.sig))) pb (.tup [.str x, .int (lvI u.lv), .ref pa])) pc o pd = none) (o2 : HO) :
    Same H (upd (upd (upd (upd H pa (.tup (sigV u.sig))) pb (.tup [.str x, .int (lvI u.lv), .ref pa])) pc o) pd o2) ∧ ScAt (upd (upd (upd (upd H pa (.tup (sigV u.sig))) pb (.tup [.str x, .int (lvI u.lv), .ref pa])) pc o) pd o2) (sc ++ [(x, u)]) (ws ++ [.ref pb]) := by
  have ga := same_new na (.tup (sigV u.sig))
  have gb := same_new nb (.tup [.str x, .int (lvI u.lv), .ref pa])
  have gc := same_new nc o
  have gd := same_new nd o2
  have g := ga.trans (gb.trans (gc.trans gd))
  exact ⟨g, (hA.mono (.of_same g)).app ⟨⟨pb, pa, rfl, gd _ _ (gc _ _ upd_same), gd _ _ (gc _ _ (gb _ _ upd_same))⟩, True.intro⟩⟩
theorem sigD_lay (s : List Bool) : (sigD s).canLay0 = true := by
  have h : ∀ s : List Bool, PyData.canLayAll0 (s.map kindD) = true := fun s => by
    induction s with
    | nil => rfl
    | cons k r ih => simp only [List.map_cons, PyData.canLayAll0, kindD, PyData.canLay0, kindS_ok, ih, Bool.and_self]
  simp only [sigD, PyData.canLay0, h]
theorem sigs_lay : ∀ s : List (List Bool), PyData.canLayAll0 (s.map sigD) = true
  | [] => rfl
  | a :: r => by simp only [List.map_cons, PyData.canLayAll0, sigD_lay, sigs_lay r, Bool.and_self]
theorem ents_lay : ∀ {sc : Sc}, sc.Ok → PyData.canLayAll0 (sc.map entD) = true
  | [], _ => rfl
  | e :: r, h => by
    have := ents_lay (sc := r) fun p m => h p (List.mem_cons_of_mem _ m)
    simp only [List.map_cons, PyData.canLayAll0, entD, PyData.canLay0, sigD_lay, this, h e List.mem_cons_self, Bool.and_self]
theorem sigD_deep (s : List Bool) : (sigD s).depth ≤ 2 := by
  have h : ∀ s : List Bool, PyData.depthAll (s.map kindD) ≤ 1 := fun s => by
    induction s with
    | nil => simp [PyData.depthAll]
    | cons k r ih => simp only [List.map_cons, PyData.depthAll, kindD, PyData.depth]; omega
  have := h s
  simp only [sigD, PyData.depth]
  omega
theorem sigs_deep : ∀ s : List (List Bool), PyData.depthAll (s.map sigD) ≤ 2
  | [] => by simp [PyData.depthAll]
  | a :: r => by have := sigD_deep a; have := sigs_deep r; simp only [List.map_cons, PyData.depthAll]; omega
theorem ents_deep : ∀ sc : Sc, PyData.depthAll (sc.map entD) ≤ 4
  | [] => by simp [PyData.depthAll]
  | a :: r => by have := sigD_deep a.2.sig; have := ents_deep r; simp only [List.map_cons, PyData.depthAll, entD, PyData.depth]; omega
theorem sigD_shaped (s : List Bool) : SeqAt.shaped (sigD s) = true := by
  unfold SeqAt.shaped
  rw [sigD_lay, decide_eq_true (by have := sigD_deep s; omega)]
  rfl
theorem sigs_shaped (s : List (List Bool)) : SeqAt.shaped (.list (s.map sigD)) = true := by
  unfold SeqAt.shaped
  rw [show PyData.canLay0 (.list (s.map sigD)) = true from sigs_lay s, decide_eq_true (by have := sigs_deep s; simp only [PyData.depth]; omega)]
  rfl
theorem ents_shaped {sc : Sc} (h : sc.Ok) : SeqAt.shaped (.list (sc.map entD)) = true := by
  unfold SeqAt.shaped
  rw [show PyData.canLay0 (.list (sc.map entD)) = true from ents_lay h, decide_eq_true (by have := ents_deep sc; simp only [PyData.depth]; omega)]
  rfl
theorem sigD_eq : ∀ {s t : List Bool}, PyData.eqv (sigD s) (sigD t) = true → s = t := by
  have h : ∀ s t : List Bool, PyData.eqvAll (s.map kindD) (t.map kindD) = true → s = t := by
    intro s
    induction s with
    | nil =>
      intro t h
      cases t with
      | nil => rfl
      | cons _ _ => simp [PyData.eqvAll] at h
    | cons a r ih =>
      intro t h
      cases t with
      | nil => simp [PyData.eqvAll] at h
      | cons b q =>
        simp only [List.map_cons, kindD, PyData.eqvAll, PyData.eqv, Bool.and_eq_true, beq_iff_eq] at h
        rw [kindS_inj h.1, ih q h.2]
  intro s t e
  simp only [sigD, PyData.eqv] at e
  exact h s t e
/-- a list of entries == [] -/
theorem ents_nil {sc : Sc} : PyData.eqv (.list (sc.map entD)) (.list []) = true ↔ sc = [] := by
  cases sc with
  | nil => exact ⟨fun _ => rfl, fun _ => by simp [PyData.eqv, PyData.eqvAll]⟩
  | cons a r => exact ⟨fun h => by simp [PyData.eqv, PyData.eqvAll] at h, fun h => by cases h⟩
theorem sig_in {s : List Bool} {ss : List (List Bool)} (h : ((ss.map sigD).any fun z => PyData.eqv z (sigD s)) = true) : s ∈ ss := by
  obtain ⟨z, hz, e⟩ := List.any_eq_true.mp h
  obtain ⟨t, ht, rfl⟩ := List.mem_map.mp hz
  rw [← sigD_eq e]
  exact ht

/-! ### how great a grown term is: depth, going through, size -/
/-- how deep going through it goes, where a function's a is gone through at its use -/
def Tm.hh : Tm → Nat
  | .num _ => 1
  | .name _ => 1
  | .bin _ a b => 1 + max a.hh b.hh
  | .cond c a b => 1 + max c.hh (max a.hh b.hh)
  | .letx _ a b => 1 + max a.hh b.hh
  | .turns _ _ a b => 1 + max a.hh b.hh
  | .deff _ _ _ a b => 1 + (a.hh + b.hh)
  | .use _ a => 1 + a.hh
  | .un _ a => 1 + a.hh
def Tm.vh : Tm → Nat
  | .num _ => 1
  | .name _ => 1
  | .bin _ a b => 1 + max a.vh b.vh
  | .cond c a b => 1 + max c.vh (max a.vh b.vh)
  | .letx _ a b => 2 + max a.vh b.vh
  | .turns _ _ a b => 2 + max a.vh b.vh
  | .deff _ _ _ a b => 2 + (a.vh + b.vh)
  | .use _ a => 2 + a.vh
  | .un _ a => 1 + a.vh
def vB : Nat → Nat
  | 0 => 2
  | 1 => 11
  | d + 2 => 2 * vB (d + 1) + 2
theorem vB_two (d : Nat) : 2 * vB d + 2 ≤ vB (d + 1) := by cases d <;> simp only [vB] <;> omega
theorem vB_low (d : Nat) : 2 ≤ vB d := by
  induction d with
  | zero => simp [vB]
  | succ d ih => have := vB_two d; omega
theorem vB_low1 (d : Nat) : 11 ≤ vB (d + 1) := by
  induction d with
  | zero => simp [vB]
  | succ d ih => have := vB_two (d + 1); omega
theorem vB_up (d : Nat) : vB d + 2 ≤ vB (d + 1) := by have := vB_two d; have := vB_low d; omega
def dB : Nat → Nat
  | 0 => 2
  | d + 1 => 2 * d + 8
def hB : Nat → Nat
  | 0 => 2
  | 1 => 8
  | d + 2 => 2 * hB (d + 1) + 1
def sB : Nat → Nat
  | 0 => 2
  | d + 1 => 3 * sB d + 12
theorem dB_up (d : Nat) : dB d + 1 ≤ dB (d + 1) := by cases d <;> simp only [dB] <;> omega
theorem hB_two (d : Nat) : 2 * hB d + 1 ≤ hB (d + 1) := by cases d <;> simp only [hB] <;> omega
theorem hB_low (d : Nat) : 2 ≤ hB d := by
  induction d with
  | zero => simp [hB]
  | succ d ih => have := hB_two d; omega
theorem hB_low1 (d : Nat) : 8 ≤ hB (d + 1) := by
  induction d with
  | zero => simp [hB]
  | succ d ih => have := hB_two (d + 1); omega
theorem hB_up (d : Nat) : hB d + 1 ≤ hB (d + 1) := by have := hB_two d; omega
theorem sB_low (d : Nat) : 2 ≤ sB d := by cases d <;> simp only [sB] <;> omega
theorem sB_up (d : Nat) : sB d ≤ sB (d + 1) := by simp only [sB]; omega
theorem mono_of {f : Nat → Nat} (h : ∀ d, f d ≤ f (d + 1)) : ∀ {d e : Nat}, d ≤ e → f d ≤ f e := fun {d e} l => by
  induction l with
  | refl => exact Nat.le_refl _
  | step _ ih => exact Nat.le_trans ih (h _)
theorem dB_mono {d e : Nat} (h : d ≤ e) : dB d ≤ dB e := mono_of (fun d => by have := dB_up d; omega) h
theorem hB_mono {d e : Nat} (h : d ≤ e) : hB d ≤ hB e := mono_of (fun d => by have := hB_up d; omega) h
theorem vB_mono {d e : Nat} (h : d ≤ e) : vB d ≤ vB e := mono_of (fun d => by have := vB_up d; omega) h
theorem sB_mono {d e : Nat} (h : d ≤ e) : sB d ≤ sB e := mono_of sB_up h
structure Grown (t : Tm) (d : Nat) : Prop where
  ok : t.Ok
  deep : t.deep ≤ dB d
  hh : t.hh ≤ hB d
  size : t.size ≤ sB d
  vh : t.vh ≤ vB d
theorem Grown.mono {t : Tm} {d e : Nat} (h : d ≤ e) (g : Grown t d) : Grown t e := ⟨g.ok, Nat.le_trans g.deep (dB_mono h), Nat.le_trans g.hh (hB_mono h), Nat.le_trans g.size (sB_mono h), Nat.le_trans g.vh (vB_mono h)⟩
theorem Grown.num (n : Int) (d : Nat) : Grown (.num n) d := .mono (Nat.zero_le d) ⟨True.intro, by show 1 ≤ 2; decide, by show 1 ≤ 2; decide, by show 1 ≤ 2; decide, by show 1 ≤ 2; decide⟩
theorem Grown.name {x : Str} (h : PyData.strOk x = true) (d : Nat) : Grown (.name x) d := .mono (Nat.zero_le d) ⟨h, by show 1 ≤ 2; decide, by show 1 ≤ 2; decide, by show 1 ≤ 2; decide, by show 1 ≤ 2; decide⟩
theorem Grown.unName {o : Un} {x : Str} (h : PyData.strOk x = true) (d : Nat) : Grown (.un o (.name x)) d := .mono (Nat.zero_le d) ⟨h, by show 1 + 1 ≤ 2; decide, by show 1 + 1 ≤ 2; decide, by show 1 + 1 ≤ 2; decide, by show 1 + 1 ≤ 2; decide⟩
theorem Grown.unNum {o : Un} (n : Int) (d : Nat) : Grown (.un o (.num n)) d := .mono (Nat.zero_le d) ⟨True.intro, by show 1 + 1 ≤ 2; decide, by show 1 + 1 ≤ 2; decide, by show 1 + 1 ≤ 2; decide, by show 1 + 1 ≤ 2; decide⟩
section
variable {a b c : Tm} {d : Nat}
theorem Grown.un {o : Un} (g : Grown a d) : Grown (.un o a) (d + 1) := by
  have := dB_up d; have := hB_up d; have := sB_low d; have h1 := g.deep; have h2 := g.hh; have h3 := g.size; have v1 := g.vh; have v0 := vB_two d; have v00 := vB_low d
  refine ⟨g.ok, ?_, ?_, ?_, ?_⟩ <;> simp only [Tm.deep, Tm.hh, Tm.size, Tm.vh, sB] <;> omega
theorem Grown.bin {o : Bin} (g : Grown a d) (k : Grown b d) : Grown (.bin o a b) (d + 1) := by
  have := dB_up d; have := hB_up d; have := sB_low d; have h1 := g.deep; have h2 := g.hh; have h3 := g.size; have v1 := g.vh; have v0 := vB_two d; have v00 := vB_low d; have h4 := k.deep; have h5 := k.hh; have h6 := k.size; have v2 := k.vh
  refine ⟨⟨g.ok, k.ok⟩, ?_, ?_, ?_, ?_⟩ <;> simp only [Tm.deep, Tm.hh, Tm.size, Tm.vh, sB] <;> omega
theorem Grown.cond (m : Grown c d) (g : Grown a d) (k : Grown b d) : Grown (.cond c a b) (d + 1) := by
  have := dB_up d; have := hB_up d; have := sB_low d; have h1 := g.deep; have h2 := g.hh; have h3 := g.size; have v1 := g.vh; have v0 := vB_two d; have v00 := vB_low d; have h4 := k.deep; have h5 := k.hh; have h6 := k.size; have v2 := k.vh; have h7 := m.deep; have h8 := m.hh; have h9 := m.size; have v3 := m.vh
  refine ⟨⟨m.ok, g.ok, k.ok⟩, ?_, ?_, ?_, ?_⟩ <;> simp only [Tm.deep, Tm.hh, Tm.size, Tm.vh, sB] <;> omega
theorem Grown.letx {x : Str} (hx : PyData.strOk x = true) (g : Grown a d) (k : Grown b d) : Grown (.letx x a b) (d + 1) := by
  have := dB_up d; have := hB_up d; have := sB_low d; have h1 := g.deep; have h2 := g.hh; have h3 := g.size; have v1 := g.vh; have v0 := vB_two d; have v00 := vB_low d; have h4 := k.deep; have h5 := k.hh; have h6 := k.size; have v2 := k.vh
  refine ⟨⟨hx, g.ok, k.ok⟩, ?_, ?_, ?_, ?_⟩ <;> simp only [Tm.deep, Tm.hh, Tm.size, Tm.vh, sB] <;> omega
theorem Grown.turns {x : Str} {n : Int} (hn : 0 ≤ n ∧ n ≤ 9) (hx : PyData.strOk x = true) (g : Grown a d) (k : Grown b d) : Grown (.turns n x a b) (d + 1) := by
  have := dB_up d; have := hB_up d; have := sB_low d; have h1 := g.deep; have h2 := g.hh; have h3 := g.size; have v1 := g.vh; have v0 := vB_two d; have v00 := vB_low d; have h4 := k.deep; have h5 := k.hh; have h6 := k.size; have v2 := k.vh
  refine ⟨⟨⟨hn, hx⟩, g.ok, k.ok⟩, ?_, ?_, ?_, ?_⟩ <;> simp only [Tm.deep, Tm.hh, Tm.size, Tm.vh, sB] <;> omega
theorem Grown.deff {f x : Str} {j : Bool} (hf : PyData.strOk f = true) (hx : PyData.strOk x = true) (g : Grown a d) (k : Grown b d) : Grown (.deff f x j a b) (d + 1) := by
  have := dB_up d; have := hB_two d; have := sB_low d; have h1 := g.deep; have h2 := g.hh; have h3 := g.size; have v1 := g.vh; have v0 := vB_two d; have v00 := vB_low d; have h4 := k.deep; have h5 := k.hh; have h6 := k.size; have v2 := k.vh
  refine ⟨⟨⟨hf, hx⟩, g.ok, k.ok⟩, ?_, ?_, ?_, ?_⟩ <;> simp only [Tm.deep, Tm.hh, Tm.size, Tm.vh, sB] <;> omega
theorem Grown.use {f : Str} (hf : PyData.strOk f = true) (g : Grown a d) : Grown (.use f a) (d + 1) := by
  have := dB_up d; have := hB_up d; have := sB_low d; have h1 := g.deep; have h2 := g.hh; have h3 := g.size; have v1 := g.vh; have v0 := vB_two d; have v00 := vB_low d
  refine ⟨⟨hf, g.ok⟩, ?_, ?_, ?_, ?_⟩ <;> simp only [Tm.deep, Tm.hh, Tm.size, Tm.vh, sB] <;> omega
end
/-- what stands within a kept piece's quote -/
structure Inner (t : Tm) (e : Nat) : Prop where
  ok : t.Ok
  deep : t.deep ≤ 2 + dB e
  hh : t.hh ≤ 2 + hB e
  size : t.size ≤ 5 + sB e
  vh : t.vh ≤ 3 + vB e
theorem Inner.twice {x : Str} {n : Int} {a b : Tm} {e : Nat} (hx : PyData.strOk x = true) (ha : Grown a 0) (g : Grown b e) : Inner (.letx x (.num n) (.bin .sum a b)) e := by
  have h1 := ha.deep; have h2 := ha.hh; have h3 := ha.size; have h4 := g.deep; have h5 := g.hh; have h6 := g.size
  have := hB_low e; have := dB_mono (Nat.zero_le e); have e1 : dB 0 = 2 := rfl; have e2 : hB 0 = 2 := rfl; have e3 : sB 0 = 2 := rfl; have v1 := ha.vh; have v2 := g.vh; have v3 := vB_low e; have e4 : vB 0 = 2 := rfl
  refine ⟨⟨hx, True.intro, ha.ok, g.ok⟩, ?_, ?_, ?_, ?_⟩ <;> simp only [Tm.deep, Tm.hh, Tm.size, Tm.vh] <;> omega
theorem Grown.kept {x f : Str} {a b : Tm} {d : Nat} (hx : PyData.strOk x = true) (hf : PyData.strOk f = true) (g : Grown a d) (k : (∃ e, e = d - 2 ∧ Inner b e) ∨ Grown b (d - 1)) :
    Grown (.letx x a (.un .hole (.letx f (.un .quote (.name x)) (.un .quote b)))) (d + 1) := by
  have h1 := g.deep; have h2 := g.hh; have h3 := g.size; have v1 := g.vh; have v0 := vB_up d; have v00 := vB_low1 d
  have q1 := dB_up d; have q2 := hB_up d; have q3 := sB_low d; have q4 := hB_low1 d
  have q5 : 8 ≤ dB (d + 1) := by simp only [dB]; omega
  have okb : b.Ok := by rcases k with ⟨_, _, k⟩ | k <;> exact k.ok
  have hd : 4 + b.deep ≤ dB (d + 1) := by
    rcases k with ⟨e, rfl, k⟩ | k
    · have z := k.deep
      match d, z with
      | 0, z => have y : b.deep ≤ 2 + 2 := z; show 4 + b.deep ≤ 8; omega
      | 1, z => have y : b.deep ≤ 2 + 2 := z; show 4 + b.deep ≤ 2 * 1 + 8; omega
      | 2, z => have y : b.deep ≤ 2 + 2 := z; show 4 + b.deep ≤ 2 * 2 + 8; omega
      | d + 3, z => simp only [show d + 3 - 2 = d + 1 by omega, dB] at z ⊢; omega
    · have z := k.deep
      match d, z with
      | 0, z => have y : b.deep ≤ 2 := z; show 4 + b.deep ≤ 8; omega
      | 1, z => have y : b.deep ≤ 2 := z; show 4 + b.deep ≤ 2 * 1 + 8; omega
      | d + 2, z => simp only [show d + 2 - 1 = d + 1 by omega, dB] at z ⊢; omega
  have hh : 4 + b.hh ≤ hB (d + 1) := by
    rcases k with ⟨e, rfl, k⟩ | k
    · have z := k.hh
      match d, z with
      | 0, z => have y : b.hh ≤ 2 + 2 := z; omega
      | 1, z => have y : b.hh ≤ 2 + 2 := z; omega
      | 2, z => have y : b.hh ≤ 2 + 2 := z; omega
      | d + 3, z => have y1 : 2 * hB (d + 3) + 1 ≤ hB (d + 3 + 1) := hB_two (d + 3); have y2 : 2 * hB (d + 2) + 1 ≤ hB (d + 3) := hB_two (d + 2); have y3 : 2 * hB (d + 1) + 1 ≤ hB (d + 2) := hB_two (d + 1); have y4 := hB_low1 d; simp only [show d + 3 - 2 = d + 1 by omega] at z ⊢; omega
    · have z := k.hh
      match d, z with
      | 0, z => have y : b.hh ≤ 2 := z; omega
      | 1, z => have y : b.hh ≤ 2 := z; omega
      | d + 2, z => have y1 : 2 * hB (d + 2) + 1 ≤ hB (d + 2 + 1) := hB_two (d + 2); have y2 : 2 * hB (d + 1) + 1 ≤ hB (d + 2) := hB_two (d + 1); have y4 := hB_low1 d; simp only [show d + 2 - 1 = d + 1 by omega] at z ⊢; omega
  have hv : 6 + b.vh ≤ vB (d + 1) := by
    rcases k with ⟨e, rfl, k⟩ | k
    · have z := k.vh
      match d, z with
      | 0, z => have y : b.vh ≤ 3 + 2 := z; omega
      | 1, z => have y : b.vh ≤ 3 + 2 := z; omega
      | 2, z => have y : b.vh ≤ 3 + 2 := z; omega
      | d + 3, z => have y1 : 2 * vB (d + 3) + 2 ≤ vB (d + 3 + 1) := vB_two (d + 3); have y2 : 2 * vB (d + 2) + 2 ≤ vB (d + 3) := vB_two (d + 2); have y3 : 2 * vB (d + 1) + 2 ≤ vB (d + 2) := vB_two (d + 1); have y4 := vB_low1 d; simp only [show d + 3 - 2 = d + 1 by omega] at z ⊢; omega
    · have z := k.vh
      match d, z with
      | 0, z => have y : b.vh ≤ 2 := z; omega
      | 1, z => have y : b.vh ≤ 2 := z; omega
      | d + 2, z => have y1 : 2 * vB (d + 2) + 2 ≤ vB (d + 2 + 1) := vB_two (d + 2); have y2 : 2 * vB (d + 1) + 2 ≤ vB (d + 2) := vB_two (d + 1); have y4 := vB_low1 d; simp only [show d + 2 - 1 = d + 1 by omega] at z ⊢; omega
  have hs : b.size ≤ 5 + sB d := by
    rcases k with ⟨e, rfl, k⟩ | k
    · have z := k.size; have y := sB_mono (show d - 2 ≤ d by omega); omega
    · have z := k.size; have y := sB_mono (show d - 1 ≤ d by omega); omega
  refine ⟨⟨hx, g.ok, hf, hx, okb⟩, ?_, ?_, ?_, ?_⟩ <;> simp only [Tm.deep, Tm.hh, Tm.size, Tm.vh, sB] <;> omega

/-! ### what is in force: the names of a scope that may be used -/
/-- those that are in force, of the level, of one of the kinds -/
def spSeen (K : PySem.W.Frag) : Sp := fun vs H Q _ => ∃ (sa ka : Addr) (l : Bool) (sc : Sc) (ws : List V) (ss : List (List Bool)), vs = [.ref sa, .int (lvI l), .ref ka] ∧ H sa = some (.lst ws) ∧ ScAt H sc ws ∧ sc.Ok ∧ sc.length ≤ 100 ∧
  (∀ H', Same H H' → Dp K H' (.ref ka) (.list (ss.map sigD))) ∧ ∀ (r : Addr) (es : Sc) (us : List V) (H' : Hp), H r = none → Same H H' → H' r = some (.lst us) → ScAt H' es us → es.length ≤ 100 → (∀ e ∈ es, e ∈ sc ∧ look sc e.1 = some e.2 ∧ e.2.lv = l ∧ e.2.sig ∈ ss) → Q (.ref r) H'
abbrev s_seen : Stmt := topS 48
theorem sc_seen : FnScope ["_law_scope", "_law_level", "_law_kinds", "_law_found", "_law_k", "_law_hidden", "_law_one"] ["_law_scope", "_law_level", "_law_kinds"] (defScope s_seen) := ⟨rfl, rfl, rfl, by decide +kernel, rfl, by decide +kernel, by decide +kernel⟩
section
variable {P : Program} {w : World} {K : PySem.W.Frag} {mg : Str → Option Value} {base : Heap} {f f1 f2 f3 f4 f5 f6 f7 f8 : Addr} {fd fd1 fd2 fd3 fd4 fd5 fd6 fd7 fd8 : FuncData}
theorem ok_seen (F : Fun K "_law_seen" "_law_seen" s_seen f fd) (T : Txt mg) : FnOk P w K mg base CX0 1 f fd ["_law_scope", "_law_level", "_law_kinds"] (spSeen K) := by
  refine F.ok sc_seen (fun vs H Q E h => ?_) (fun cdv A outer s H vs Q E hr h => ?_)
  · obtain ⟨sa, ka, l, sc, ws, ss, rfl, _⟩ := h
    rfl
  obtain ⟨sa, ka, l, sc, ws, ss, rfl, hS, hA, hok, hlen, hK, q⟩ := h
  have hwl := hA.len
  refine ⟨_, (pss_cons (ps_set (i := 3) sc_seen.nd rfl (Or.inl rfl) (pe_lst pa_nil))
      (pss_cons (ps_for PassesOwn.never rfl (pi_range1 (by rfl) T.range (pa_cons (pe_callB call_len_seq (by rfl) T.len PySem.boot_len (pa_cons (pv 0) pa_nil)) pa_nil)) (pg_name (i := 4) sc_seen.nd rfl (Or.inr rfl)) (pss_cons (ps_setLc (i := 5) (own := [("_law_one", 6)]) (g := (gName 6)) (by rfl) sc_seen.nd rfl rfl (sw_true rfl rfl rfl (by decide +kernel)) (pi_list (pe_slice sl_list (pv 0) (po_some (pe_op op_add (pv 4) pe_int)) po_none)) (blkOk_by (own := [("_law_one", 6)]) (N := ["_law_scope", "_law_level", "_law_kinds", "_law_found", "_law_k", "_law_hidden", "_law_one"]) (sc := defScope s_seen) (by decide +kernel)) (fun _ _ _ _ _ => (pg_name (i := 6) sc_seen.nd rfl (Or.inl rfl))) (fun _ _ _ _ _ => (pts_one (pt_cmpR op_eq (pe_ix (r := rIxT K) ix_tup (pv 6) pe_int (fun _ _ => rfl)) (pe_ix (r := rIxT K) ix_tup (pe_ix (r := rIxL K) ix_list (pv 0) (pv 4) (fun _ _ => rfl)) pe_int (fun _ _ => rfl)) (nomark _)))) (fun _ _ _ _ _ => (pv 6)))
      (pss_one (ps_if (pt_k (PW.pt (pw_and (pt_cmpR (op_eqD hr.units) (pv 5) (pe_lst pa_nil) (nomark _)) (pw_and (pt_cmpR op_eq (pe_ix ix_tup (pe_ix ix_list (pv 0) (pv 4) (fun _ _ => rfl)) pe_int (fun _ _ => rfl)) (pv 1) (nomark _)) (pw_and1 (pt_cmpR (op_inD hr.units1) (pe_ix ix_tup (pe_ix ix_list (pv 0) (pv 4) (fun _ _ => rfl)) pe_int (fun _ _ => rfl)) (pv 2) (by rfl))))))) (pss_one (ps_expr (pe_bm PySem.F.plainAttrs_list PySem.F.slot_list_append PySem.F.type_list_append mt_append (pv 3) (pa_cons (pe_ix ix_list (pv 0) (pv 4) (fun _ _ => rfl)) pa_nil)))) pss_nil))))
      (pss_one (ps_ret (pv 3))))), ?_⟩
  refine ⟨Nat.zero_le _, fun r hr => ?_⟩
  have g0 := same_new hr (.lst [])
  refine ⟨_, rfl, sa, _, rfl, .inl (SqL.of (g0 _ _ hS)), (ws.length : Int), rfl, by omega, by omega, ?_⟩
  rw [Int.toNat_natCast]
  refine for_range (lo := 0) (n := ws.length) (fun i σ H' => ∃ (o1 o2 : Option V) (es : Sc) (us : List V), σ = [some (.ref sa), some (.int (lvI l)), some (.ref ka), some (.ref r), o1, o2, none] ∧ Same H H' ∧
    H' r = some (.lst us) ∧ ScAt H' es us ∧ es.length ≤ i ∧ ∀ e ∈ es, e ∈ sc ∧ look sc e.1 = some e.2 ∧ e.2.lv = l ∧ e.2.sig ∈ ss) ⟨none, none, [], [], rfl, g0, upd_same, True.intro, Nat.le_refl _, fun _ h => by cases h⟩ ?_ ?_
  · rintro i σ H' hi ⟨o1, o2, es, us, rfl, g, hr', hE, hEl, hEp⟩
    have hvi : ws[i]? = some ws[i] := List.getElem?_eq_getElem hi
    generalize ws[i] = v at hvi
    obtain ⟨⟨x, u⟩, hxi, pv, pq, ev, hpv, hpq⟩ := hA.get hvi
    have hxm : (x, u) ∈ sc := List.mem_of_getElem? hxi
    refine ⟨_, rfl, ?_⟩
    refine ⟨_, rfl, _, _, rfl, rfl, _, rfl, ?_⟩
    unfold tNoPart
    refine ⟨sa, ws, rfl, SqL.of (g _ _ hS), fun p hp => ?_⟩
    have hid : ScAt H' (sc.drop (i + 1)) (cutV ws (some (0 + (i : Int) + 1)) none) := by
      unfold cutV
      rw [show (0 : Int) + (i : Int) + 1 = ((i + 1 : Nat) : Int) by omega, HT.sIx_nat, Nat.min_eq_left (by omega)]
      rw [List.take_of_length_le (by rw [List.length_drop]; show _ ≤ ws.length - _; omega)]
      exact (hA.mono (.of_same g)).drop (i + 1)
    generalize hcs : cutV ws (some (0 + (i : Int) + 1)) none = cs at hid ⊢
    have g1 := same_new hp (.lst cs)
    refine ⟨p, rfl, ⟨_, SqL.of upd_same⟩, fun D hD => ?_⟩
    have gD := same_new hD (.lst [])
    refine lc_list (K := K) (a := p) (xs := cs) (fun j H2 => Same (upd H' p (.lst cs)) H2 ∧ ∃ (hs : Sc) (hv : List V), H2 D = some (.lst hv) ∧ ScAt H2 hs hv ∧ hs.Ok ∧ hs.length ≤ j ∧ (hs = [] → ∀ e ∈ (sc.drop (i + 1)).take j, e.1 ≠ x))
      ⟨gD, [], [], upd_same, True.intro, (fun _ h => by cases h), Nat.le_refl _, (fun _ e h => by rw [List.take_zero] at h; cases h)⟩ (fun j H2 _ ⟨g2, _⟩ => SqL.of (g2 _ _ upd_same)) ?_ ?_
    · rintro j y H2 hj ⟨g2, hs, hv, hD2, hs2, hsO, hsl, hsp⟩
      obtain ⟨⟨x', u'⟩, hxj, py, qy, ey, hpy, hqy⟩ := hid.get hj
      have gall := g.trans (g1.trans g2)
      have hpy2 := g2 _ _ (g1 _ _ hpy)
      have htk : (sc.drop (i + 1)).take (j + 1) = (sc.drop (i + 1)).take j ++ [(x', u')] := by rw [List.take_add_one, hxj]; rfl
      subst ey
      refine ⟨rfl, _, rfl, py, _, _, _, rfl, rfl, SqT.of hpy2, atI_n (n := 0) rfl rfl, ?_⟩
      refine ⟨_, rfl, _, rfl, sa, _, _, _, rfl, rfl, SqL.of (gall _ _ hS), atI_n (n := i) (by omega) hvi, pv, _, _, _, ev, rfl, SqT.of (gall _ _ hpv), atI_n (n := 0) rfl rfl, ?_⟩
      refine ⟨rfl, _, rfl, ite2 (fun c => ?_) fun c => ?_⟩
      · have c' : x' = x := V.str.inj (of_decide_eq_true c)
        have hjl : j < sc.length - (i + 1) := by
          have z := (List.getElem?_eq_some_iff.mp hxj).1
          rw [List.length_drop] at z
          exact z
        refine ⟨_, rfl, hv, hD2, small1000 (by have := hs2.len; omega), ?_⟩
        have t2 : Tups H2 (upd H2 D (.lst (hv ++ [V.ref py]))) := Tups.put hD2
        refine ⟨fun b o z => ?_, hs ++ [(x', u')], _, upd_same, (hs2.mono t2).app ⟨⟨py, qy, rfl, t2 _ _ hpy2, t2 _ _ (g2 _ _ (g1 _ _ hqy))⟩, True.intro⟩, ?_, ?_, ?_⟩
        · rw [upd_ne (ne_of_none z hD)]
          exact g2 b o z
        · intro e m
          rcases List.mem_append.mp m with m | m
          · exact hsO e m
          · rw [List.mem_singleton.mp m]
            exact hok _ (List.mem_of_mem_drop (List.mem_of_getElem? hxj))
        · rw [List.length_append]
          show hs.length + 1 ≤ j + 1
          omega
        · intro z
          cases hs <;> cases z
      · have c' : x' ≠ x := fun z => c (by rw [z]; exact decide_eq_true rfl)
        refine ⟨g2, hs, hv, hD2, hs2, hsO, by omega, fun z e m => ?_⟩
        rw [htk, List.mem_append] at m
        rcases m with m | m
        · exact hsp z e m
        · rw [List.mem_singleton.mp m]
          exact c'
    · rintro H2 ⟨g2, hs, hv, hD2, hs2, hsO, hsl, hsp⟩
      have cl := hid.len
      rw [cl, List.take_length] at hsp
      have gall := g.trans (g1.trans g2)
      have hr2 := g2 _ _ (g1 _ _ hr')
      have rD : r ≠ D := ne_of_none (g1 _ _ hr') hD
      have hE2 : ScAt H2 es us := hE.mono (.of_same (g1.trans g2))
      refine ⟨fun b H3 => Same H2 H3 ∧ (b = true → hs = [] ∧ u.lv = l ∧ u.sig ∈ ss), ?_, ?_⟩
      · refine ⟨_, rfl, Nat.zero_le _, fun p3 n3 => ?_⟩
        have g3 := same_new n3 (.lst [])
        have d3 := hs2.mono (.of_same g3)
        refine ⟨.list (hs.map entD), .list [], .lst (SqL.of (g3 _ _ hD2)) d3.dps, .lst (SqL.of upd_same) .nil, ents_shaped hsO, by decide +kernel, _, rfl, ?_⟩
        refine ite2 (fun c1 => ?_) fun _ => ⟨g3, fun z => nomatch z⟩
        have hn := ents_nil.mp c1
        have G3 := gall.trans g3
        have hpv3 := G3 _ _ hpv
        refine ⟨_, rfl, _, rfl, sa, _, _, _, rfl, rfl, SqL.of (G3 _ _ hS), atI_n (n := i) (by omega) hvi, pv, _, _, _, ev, rfl, SqT.of hpv3, atI_n (n := 1) rfl rfl, ?_⟩
        refine ⟨_, rfl, rfl, _, rfl, ite2 (fun c2 => ?_) fun _ => ⟨g3, fun z => nomatch z⟩⟩
        have hl : u.lv = l := by
          have z : lvI u.lv = lvI l := V.int.inj (of_decide_eq_true c2)
          revert z
          cases u.lv <;> cases l <;> first | (intro _; rfl) | (intro z; exact absurd z (by decide))
        refine ⟨_, rfl, _, rfl, sa, _, _, _, rfl, rfl, SqL.of (G3 _ _ hS), atI_n (n := i) (by omega) hvi, pv, _, _, _, ev, rfl, SqT.of hpv3, atI_n (n := 2) rfl rfl, ?_⟩
        refine ⟨_, rfl, _, _, sig_dp (G3 _ _ hpq), hK _ G3, sigD_shaped _, sigs_shaped _, _, rfl, g3, fun z => ⟨hn, hl, sig_in z⟩⟩
      · rintro b H3 ⟨g3, hb⟩
        have G3 := gall.trans g3
        have hr3 := g3 _ _ hr2
        have hE3 := hE2.mono (.of_same g3)
        cases b with
        | false => exact iteF ⟨_, _, es, us, rfl, G3, hr3, hE3, by omega, hEp⟩
        | true =>
          obtain ⟨hn, hl, hs⟩ := hb rfl
          refine iteT ⟨_, rfl, .inl ⟨rfl, _, SqL.of hr3⟩, _, rfl, _, rfl, sa, _, _, _, rfl, rfl, SqL.of (G3 _ _ hS), atI_n (n := i) (by omega) hvi, r, _, _, rfl, rfl, hr3, small1000 (by have := hE.len; omega), ?_⟩
          have t3 : Tups H3 (upd H3 r (.lst (us ++ [v]))) := Tups.put hr3
          refine ⟨_, _, es ++ [(x, u)], us ++ [v], rfl, fun b o z => ?_, upd_same, (hE3.mono t3).app ⟨⟨pv, pq, ev, t3 _ _ (G3 _ _ hpv), t3 _ _ (G3 _ _ hpq)⟩, True.intro⟩, ?_, ?_⟩
          · rw [upd_ne (ne_of_none z hr)]
            exact G3 b o z
          · rw [List.length_append]
            show es.length + 1 ≤ i + 1
            omega
          · intro e m
            rcases List.mem_append.mp m with m | m
            · exact hEp e m
            · rw [List.mem_singleton.mp m]
              exact ⟨hxm, look_at hxi (hsp hn), hl, hs⟩
  · rintro σ H' ⟨o1, o2, es, us, rfl, g, hr', hE, hEl, hEp⟩
    refine ⟨_, rfl, q r es us H' hr g hr' hE (by omega) hEp⟩
end

/-! ### leaves -/
/-- a leaf of the kind that is asked for; at level 1 all is number -/
def spLeaf (K : PySem.W.Frag) : Sp := fun vs H Q _ => ∃ (a st sa : Addr) (l k : Bool) (sc : Sc) (ws : List V) (n : Int), vs = [.ref a, .ref st, .int (lvI l), .str (kindS k), .ref sa, .int n] ∧ H sa = some (.lst ws) ∧ ScAt H sc ws ∧ sc.Ok ∧ sc.length ≤ 100 ∧
  0 ≤ n ∧ n < 2147483629 ∧ (l = true → k = false) ∧ ∀ (t : Tm) (v : V) (H' : Hp), Same H H' → TmAt H' t v → Grown t 0 → (∀ fr, kd t l (look sc) fr = .ok k) → Q v H'
abbrev s_leaf : Stmt := topS 49
theorem sc_leaf : FnScope ["_law_script", "_law_state", "_law_level", "_law_kind", "_law_scope", "_law_number_here", "_law_found", "_law_other", "_law_leaf_here"] ["_law_script", "_law_state", "_law_level", "_law_kind", "_law_scope", "_law_number_here"] (defScope s_leaf) := ⟨rfl, rfl, rfl, by decide +kernel, rfl, by decide +kernel, by decide +kernel⟩
theorem sigs1_dp {K : PySem.W.Frag} {H : Hp} {p q : Addr} {s : List Bool} (h1 : H p = some (.tup (sigV s))) (h2 : H q = some (.lst [.ref p])) : ∀ H', Same H H' → Dp K H' (.ref q) (.list ([s].map sigD)) := fun _ e => .lst (SqL.of (e _ _ h2)) (.cons (sig_dp (e _ _ h1)) .nil)
theorem sigs2_dp {K : PySem.W.Frag} {H : Hp} {p1 p2 q : Addr} {s t : List Bool} (h1 : H p1 = some (.tup (sigV s))) (h3 : H p2 = some (.tup (sigV t))) (h2 : H q = some (.lst [.ref p1, .ref p2])) : ∀ H', Same H H' → Dp K H' (.ref q) (.list ([s, t].map sigD)) := fun _ e => .lst (SqL.of (e _ _ h2)) (.cons (sig_dp (e _ _ h1)) (.cons (sig_dp (e _ _ h3)) .nil))
theorem ScAt.pick {H : Hp} {es : Sc} {us : List V} (h : ScAt H es us) {j : Int} (h0 : 0 ≤ j) (h1 : j < (us.length : Int)) : ∃ e p q, e ∈ es ∧ atI us j = some (.ref p) ∧ H p = some (.tup [.str e.1, .int (lvI e.2.lv), .ref q]) ∧ H q = some (.tup (sigV e.2.sig)) := by
  have hj : j.toNat < us.length := by omega
  obtain ⟨e, he, p, q, ev, hp, hq⟩ := h.get (List.getElem?_eq_getElem hj)
  exact ⟨e, p, q, List.mem_of_getElem? he, atI_n (n := j.toNat) (by omega) (by rw [List.getElem?_eq_getElem hj, ev]), hp, hq⟩
theorem ents_nilb (zs : Sc) : PyData.eqv (.list (zs.map entD)) (.list []) = decide (zs = []) := by
  by_cases c : zs = []
  · rw [decide_eq_true c, ents_nil.mpr c]
  · rw [decide_eq_false c]
    exact Bool.eq_false_iff.mpr fun z => c (ents_nil.mp z)
theorem seq_ne {K : PySem.W.Frag} {r : Addr} {zs : Sc} {us : List V} {G : Hp} {Q' : VK} (hz : ScAt G zs us) (hg : G r = some (.lst us)) (hk : Sc.Ok zs) (hq : ∀ G', Same G G' → Q' (.bl (!decide (zs = []))) G') (p : Addr) (hp : G p = none) : rNeD K (.ref r) (.ref p) (upd G p (.lst [])) Q' := by
  have g := same_new hp (.lst [])
  refine ⟨.list (zs.map entD), .list [], .lst (SqL.of (g _ _ hg)) (hz.mono (.of_same g)).dps, .lst (SqL.of upd_same) .nil, ents_shaped hk, by decide +kernel, ?_⟩
  rw [ents_nilb]
  exact hq _ g
theorem seq_eq {K : PySem.W.Frag} {r : Addr} {zs : Sc} {us : List V} {G : Hp} {Q' : VK} (hz : ScAt G zs us) (hg : G r = some (.lst us)) (hk : Sc.Ok zs) (hq : ∀ G', Same G G' → Q' (.bl (decide (zs = []))) G') (p : Addr) (hp : G p = none) : rEqD K (.ref r) (.ref p) (upd G p (.lst [])) Q' := by
  have g := same_new hp (.lst [])
  refine ⟨.list (zs.map entD), .list [], .lst (SqL.of (g _ _ hg)) (hz.mono (.of_same g)).dps, .lst (SqL.of upd_same) .nil, ents_shaped hk, by decide +kernel, ?_⟩
  rw [ents_nilb]
  exact hq _ g
theorem off_nil {zs : Sc} (h : (!decide (zs = [])) = true) : zs ≠ [] := fun z => by rw [z] at h; cases h
theorem kd_name {x : Str} {l k : Bool} {E : Env} {u : Ent} (h : E x = some u) (hl : u.lv = l) (hs : u.sig = [k]) (fr : Bool) : kd (.name x) l E fr = .ok k := by
  obtain ⟨h1, h2⟩ := sig_val hs
  simp only [kd, h, hl, h1, h2, if_true]
theorem kd_hole {a : Tm} {E : Env} (h : kd a false E false = .ok true) (fr : Bool) : kd (.un .hole a) true E fr = .ok false := by
  simp [kd, h, Kd.want, Kd.and]
theorem kd_quote {a : Tm} {E : Env} (h : kd a true E false = .ok false) (fr : Bool) : kd (.un .quote a) false E fr = .ok true := by
  simp [kd, h, Kd.want, Kd.and]
theorem kd_lift {a : Tm} {E : Env} {fr : Bool} (h : kd a false E fr = .ok false) : kd (.un .lift a) false E fr = .ok true := by
  simp [kd, h, Kd.want, Kd.and]
theorem kd_run {a : Tm} {E : Env} (h : kd a false E true = .ok true) : kd (.un .run a) false E true = .ok false := by
  simp [kd, h, Kd.want, Kd.and]
section
variable {P : Program} {w : World} {K : PySem.W.Frag} {mg : Str → Option Value} {base : Heap} {f f1 f2 f3 f4 f5 f6 f7 f8 : Addr} {fd fd1 fd2 fd3 fd4 fd5 fd6 fd7 fd8 : FuncData}
theorem ok_leaf (F : Fun K "_law_leaf" "_law_leaf" s_leaf f fd) (T : Txt mg) (C_law_seen : Cal P w K mg base "_law_seen" ["_law_scope", "_law_level", "_law_kinds"] 1 (spSeen K) f1 fd1) (C_law_number : Cal P w K mg base "_law_number" ["_law_number_here"] 1 spNumber f2 fd2) : FnOk P w K mg base CX0 2 f fd ["_law_script", "_law_state", "_law_level", "_law_kind", "_law_scope", "_law_number_here"] (spLeaf K) := by
  refine F.ok sc_leaf (fun vs H Q E h => ?_) (fun cdv A outer s H vs Q E hr h => ?_)
  · obtain ⟨a, st, sa, l, k, sc, ws, n, rfl, _⟩ := h
    rfl
  obtain ⟨a, st, sa, l, k, sc, ws, n, rfl, hS, hA, hok, hlen, n0, n1, hlk, q⟩ := h
  refine ⟨_, (pss_cons (ps_set (i := 6) sc_leaf.nd rfl (Or.inl rfl) (pe_call C_law_seen.ok (hr.mono (by first | decide | omega)) rfl C_law_seen.m C_law_seen.kp C_law_seen.b .nil pass0 (pa_cons (pv 4) (pa_cons (pv 2) (pa_cons (pe_lst (pa_cons (pe_tup (pa_cons (pv 3) pa_nil)) pa_nil)) pa_nil)))))
      (pss_cons (ps_set (i := 7) sc_leaf.nd rfl (Or.inl rfl) (pe_call C_law_seen.ok (hr.mono (by first | decide | omega)) rfl C_law_seen.m C_law_seen.kp C_law_seen.b .nil pass0 (pa_cons (pv 4) (pa_cons (pe_op op_sub pe_int (pv 2)) (pa_cons (pe_ix ix_list (pe_lst (pa_cons (pe_lst (pa_cons (pe_tup (pa_cons pe_str pa_nil)) pa_nil)) (pa_cons (pe_lst (pa_cons (pe_tup (pa_cons pe_str pa_nil)) pa_nil)) pa_nil))) (pv 2) (fun _ _ => rfl)) pa_nil)))))
      (pss_cons (ps_if (pt_k (PW.pt (pw_and (pt_cmpR op_gt (pe_op op_mod (pv 5) pe_int) pe_int (nomark _)) (pw_and (pt_cmpR (op_neD hr.units) (pv 6) (pe_lst pa_nil) (nomark _)) (pw_and1 (pt_k (PW.pt (pw_or (pt_cmpR op_eq (pe_op op_mod (pe_op op_fdiv (pv 5) pe_int) pe_int) pe_int (nomark _)) (pw_or1 (pt_cmpR (op_eqD hr.units) (pv 7) (pe_lst pa_nil) (nomark _))))))))))) (pss_one (ps_ret (pe_tup (pa_cons pe_str (pa_cons (pe_ix ix_tup (pe_ix ix_list (pv 6) (pe_op op_mod (pe_op op_fdiv (pv 5) pe_int) (pe_callB call_len_seq (by rfl) T.len PySem.boot_len (pa_cons (pv 6) pa_nil))) (fun _ _ => rfl)) pe_int (fun _ _ => rfl)) pa_nil))))) pss_nil)
      (pss_cons (ps_set (i := 8) sc_leaf.nd rfl (Or.inl rfl) (pe_tup (pa_cons pe_str (pa_cons (pe_call C_law_number.ok (hr.mono (by first | decide | omega)) rfl C_law_number.m C_law_number.kp C_law_number.b .nil pass0 (pa_cons (pe_op op_fdiv (pv 5) pe_int) pa_nil)) pa_nil))))
      (pss_cons (ps_if (pt_k (PW.pt (pw_and (pt_cmpR op_eq (pv 2) pe_int (nomark _)) (pw_and (pt_cmpR (op_neD hr.units) (pv 7) (pe_lst pa_nil) (nomark _)) (pw_and1 (pt_cmpR op_gt (pe_op op_mod (pv 5) pe_int) pe_int (nomark _))))))) (pss_one (ps_ret (pe_tup (pa_cons pe_str (pa_cons (pe_tup (pa_cons pe_str (pa_cons (pe_ix ix_tup (pe_ix ix_list (pv 7) (pe_op op_mod (pe_op op_fdiv (pv 5) pe_int) (pe_callB call_len_seq (by rfl) T.len PySem.boot_len (pa_cons (pv 7) pa_nil))) (fun _ _ => rfl)) pe_int (fun _ _ => rfl)) pa_nil))) pa_nil))))) pss_nil)
      (pss_cons (ps_if (pt_cmpR op_eq (pv 3) pe_str (nomark _)) (pss_one (ps_ret (pv 8))) pss_nil)
      (pss_cons (ps_if (pt_k (PW.pt (pw_and (pt_cmpR (op_neD hr.units) (pv 7) (pe_lst pa_nil) (nomark _)) (pw_and1 (pt_cmpR op_gt (pe_op op_mod (pv 5) pe_int) pe_int (nomark _)))))) (pss_one (ps_ret (pe_tup (pa_cons pe_str (pa_cons (pe_tup (pa_cons pe_str (pa_cons (pe_ix ix_tup (pe_ix ix_list (pv 7) (pe_op op_mod (pe_op op_fdiv (pv 5) pe_int) (pe_callB call_len_seq (by rfl) T.len PySem.boot_len (pa_cons (pv 7) pa_nil))) (fun _ _ => rfl)) pe_int (fun _ _ => rfl)) pa_nil))) pa_nil))))) pss_nil)
      (pss_one (ps_ret (pe_ix ix_list (pe_lst (pa_cons (pe_tup (pa_cons pe_str (pa_cons (pv 8) pa_nil))) (pa_cons (pe_tup (pa_cons pe_str (pa_cons (pv 8) pa_nil))) pa_nil))) (pe_op op_mod (pe_op op_fdiv (pv 5) pe_int) pe_int) (fun _ _ => rfl))))))))))), ?_⟩
  refine ⟨_, rfl, _, rfl, _, rfl, sz 1, fun p1 h1 => ⟨sz 1, fun p2 h2 => ?_⟩⟩
  have s2 := (same_new h1 (.tup [.str (kindS k)])).trans (same_new h2 (.lst [.ref p1]))
  have hp1 : upd (upd H p1 (.tup [.str (kindS k)])) p2 (.lst [.ref p1]) p1 = some (.tup (sigV [k])) := same_new h2 _ _ _ upd_same
  have hp2 : upd (upd H p1 (.tup [.str (kindS k)])) p2 (.lst [.ref p1]) p2 = some (.lst [.ref p1]) := upd_same
  generalize upd (upd H p1 (.tup [.str (kindS k)])) p2 (.lst [.ref p1]) = H2 at s2 hp1 hp2 ⊢
  refine ⟨sa, p2, l, sc, ws, [[k]], rfl, s2 _ _ hS, hA.mono (.of_same s2), hok, hlen, sigs1_dp hp1 hp2, fun r1 es us H3 _ e3 hr1 hE hEl hEp => ?_⟩
  have s3 := s2.trans e3
  refine ⟨_, rfl, _, rfl, _, _, rfl, rfl, sz 1, fun p3 h3 => ⟨sz 1, fun p4 h4 => ⟨sz 1, fun p5 h5 => ⟨sz 1, fun p6 h6 => ⟨sz 2, fun p7 h7 => ?_⟩⟩⟩⟩⟩
  have e7 := same_new h7 (.lst [.ref p4, .ref p6])
  have e6 := (same_new h6 (.lst [.ref p5])).trans e7
  have e5 := (same_new h5 (.tup [.str "piece"])).trans e6
  have e4 := (same_new h4 (.lst [.ref p3])).trans e5
  have e3' := (same_new h3 (.tup [.str "number"])).trans e4
  have w3 := e4 _ _ (upd_same (H := H3) (a := p3) (o := .tup [.str "number"]))
  have w4 := e5 _ _ (upd_same (H := upd H3 p3 (.tup [.str "number"])) (a := p4) (o := .lst [.ref p3]))
  have w5 := e6 _ _ (upd_same (H := upd (upd H3 p3 (.tup [.str "number"])) p4 (.lst [.ref p3])) (a := p5) (o := .tup [.str "piece"]))
  have w6 := e7 _ _ (upd_same (H := upd (upd (upd H3 p3 (.tup [.str "number"])) p4 (.lst [.ref p3])) p5 (.tup [.str "piece"])) (a := p6) (o := .lst [.ref p5]))
  have w7 := upd_same (H := upd (upd (upd (upd H3 p3 (.tup [.str "number"])) p4 (.lst [.ref p3])) p5 (.tup [.str "piece"])) p6 (.lst [.ref p5])) (a := p7) (o := .lst [.ref p4, .ref p6])
  generalize upd (upd (upd (upd (upd H3 p3 (.tup [.str "number"])) p4 (.lst [.ref p3])) p5 (.tup [.str "piece"])) p6 (.lst [.ref p5])) p7 (.lst [.ref p4, .ref p6]) = H7 at e3' w3 w4 w5 w6 w7 ⊢
  clear e4 e5 e6 e7
  have s7 := s3.trans e3'
  obtain ⟨pp, qq, eat, hqq, hpp⟩ : ∃ (pp qq : Addr), atI [V.ref p4, .ref p6] (lvI l) = some (.ref qq) ∧ H7 qq = some (.lst [.ref pp]) ∧ H7 pp = some (.tup (sigV [l])) := by
    cases l
    · exact ⟨p3, p4, atI_n (n := 0) rfl rfl, w4, w3⟩
    · exact ⟨p5, p6, atI_n (n := 1) rfl rfl, w6, w5⟩
  have e1 : (1 : Int) - lvI l = lvI (!l) := by cases l <;> rfl
  refine ⟨_, rfl, p7, _, _, .ref qq, rfl, rfl, SqL.of w7, eat, ?_⟩
  refine ⟨sa, qq, !l, sc, ws, [[l]], congrArg (fun z => [V.ref sa, .int z, .ref qq]) e1, s7 _ _ hS, hA.mono (.of_same s7), hok, hlen, sigs1_dp hpp hqq, fun r2 es2 us2 H8 _ e8 hr2 hE2 hE2l hE2p => ?_⟩
  have s8 := s7.trans e8
  have hr1' := e8 _ _ (e3' _ _ hr1)
  have hE' := hE.mono (.of_same (e3'.trans e8))
  have ok1 : Sc.Ok es := fun e m => hok e (hEp e m).1
  have ok2 : Sc.Ok es2 := fun e m => hok e (hE2p e m).1
  refine ⟨fun b H' => Same H8 H' ∧ (b = true → es ≠ []), ?_, ?_⟩
  · refine ⟨_, rfl, _, _, rfl, rfl, (by show (0 : Int) < _; decide), _, _, rfl, rfl, _, rfl, ite2 (fun c1 => ?_) fun _ => ⟨Same.refl _, fun z => nomatch z⟩⟩
    refine ⟨_, rfl, Nat.zero_le _, seq_ne hE' hr1' ok1 fun G g => ⟨_, rfl, ite2 (fun c2 => ?_) fun _ => ⟨g, fun z => nomatch z⟩⟩⟩
    have ne := off_nil c2
    refine ⟨fun b H' => Same H8 H', ?_, fun b H' h => ⟨h, fun _ => ne⟩⟩
    refine ⟨_, rfl, _, _, rfl, rfl, ⟨by decide, by decide⟩, _, _, rfl, rfl, (by show (0 : Int) < _; decide), rfl, _, rfl, ite2 (fun _ => g) fun _ => ?_⟩
    refine ⟨_, rfl, Nat.zero_le _, seq_eq ((hE2.mono (.of_same g))) (g _ _ hr2) ok2 fun G' g' => ⟨_, rfl, g.trans g'⟩⟩
  rintro b H9 ⟨e9, hb⟩
  cases b with
  | true =>
    have ne := hb rfl
    have hE9 := hE'.mono (.of_same e9)
    have hl := hE9.len
    have pos : (0 : Int) < (us.length : Int) := by
      have : es.length ≠ 0 := fun z => ne (List.length_eq_zero_iff.mp z)
      omega
    have hm := mod_in (n / 12) pos
    obtain ⟨⟨y, u⟩, p, q', he, ea, hp, hq⟩ := hE9.pick hm.1 hm.2
    obtain ⟨hy, hly, hlv, hsg⟩ := hEp _ he
    refine iteT ⟨_, rfl, _, rfl, _, _, rfl, rfl, ⟨by decide, by decide⟩, _, rfl, r1, _, rfl, .inl (SqL.of (e9 _ _ hr1')), _, _, rfl, rfl, pos, r1, _, _, _, rfl, rfl, SqL.of (e9 _ _ hr1'), ea, p, _, _, _, rfl, rfl, SqT.of hp, atI_n (n := 0) rfl rfl, sz 2, fun p9 n9 => ?_⟩
    refine q (.name y) _ _ ((s8.trans e9).trans (same_new n9 _)) ⟨p9, rfl, upd_same⟩ (.name (hok _ hy) 0) fun fr => kd_name hly hlv (List.mem_singleton.mp hsg) fr
  | false =>
    refine iteF ?_
    refine ⟨_, rfl, _, _, rfl, rfl, ⟨by decide, by decide⟩, n / 16, rfl, by omega, by omega, fun c H10 e10 _ => ⟨sz 2, fun p11 n11 => ?_⟩⟩
    have e11 := e9.trans (e10.trans (same_new n11 (.tup [.str "num", .int c])))
    have w11 : TmAt (upd H10 p11 (.tup [.str "num", .int c])) (.num c) (.ref p11) := ⟨p11, rfl, upd_same⟩
    generalize upd H10 p11 (.tup [.str "num", .int c]) = H11 at e11 w11 ⊢
    have hE11 := hE2.mono (.of_same e11)
    have hr11 := e11 _ _ hr2
    refine ⟨fun b H' => Same H11 H' ∧ (b = true → l = true ∧ es2 ≠ []), ?_, ?_⟩
    · refine ⟨_, rfl, rfl, _, rfl, ite2 (fun c1 => ?_) fun _ => ⟨Same.refl _, fun z => nomatch z⟩⟩
      have hl : l = true := by
        have z : lvI l = 1 := V.int.inj (of_decide_eq_true c1)
        revert z
        cases l <;> first | (intro _; rfl) | (intro z; exact absurd z (by decide))
      refine ⟨_, rfl, Nat.zero_le _, seq_ne hE11 hr11 ok2 fun G g => ⟨_, rfl, ite2 (fun c2 => ?_) fun _ => ⟨g, fun z => nomatch z⟩⟩⟩
      exact ⟨_, rfl, _, _, rfl, rfl, (by show (0 : Int) < _; decide), _, _, rfl, rfl, _, rfl, g, fun _ => ⟨hl, off_nil c2⟩⟩
    rintro b H12 ⟨e12, hb⟩
    have hE12 := hE11.mono (.of_same e12)
    have hr12 := e12 _ _ hr11
    have s12 := s8.trans (e11.trans e12)
    have hl12 := hE12.len
    -- the other level's name, drawn
    have other : es2 ≠ [] → (0 : Int) < (us2.length : Int) ∧ ∀ {G : Hp}, Same H12 G → ∃ y p q' u, y ∈ sc.map (·.1) ∧ atI us2 (n / 12 % (us2.length : Int)) = some (.ref p) ∧ G p = some (.tup [.str y, .int (lvI (!l)), .ref q']) ∧ look sc y = some u ∧ u.lv = (!l) ∧ u.sig = [l] := fun ne => by
      have pos : (0 : Int) < (us2.length : Int) := by
        have : es2.length ≠ 0 := fun z => ne (List.length_eq_zero_iff.mp z)
        omega
      refine ⟨pos, fun {G} g => ?_⟩
      have hm := mod_in (n / 12) pos
      obtain ⟨⟨y, u⟩, p, q', he, ea, hp, hq⟩ := (hE12.mono (.of_same g)).pick hm.1 hm.2
      obtain ⟨hy, hly, hlv, hsg⟩ := hE2p _ he
      exact ⟨y, p, q', u, List.mem_map_of_mem hy, ea, by rw [← hlv]; exact hp, hly, hlv, List.mem_singleton.mp hsg⟩
    have okn : ∀ y, y ∈ sc.map (·.1) → PyData.strOk y = true := fun y m => by
      obtain ⟨e, he, rfl⟩ := List.mem_map.mp m
      exact hok e he
    cases b with
    | true =>
      obtain ⟨rfl, ne⟩ := hb rfl
      obtain ⟨pos, pk⟩ := other ne
      obtain ⟨y, p, q', u, hy, ea, hp, hly, hlv, hsg⟩ := pk (Same.refl _)
      refine iteT ⟨_, rfl, _, rfl, _, _, rfl, rfl, ⟨by decide, by decide⟩, _, rfl, r2, _, rfl, .inl (SqL.of hr12), _, _, rfl, rfl, pos, r2, _, _, _, rfl, rfl, SqL.of hr12, ea, p, _, _, _, rfl, rfl, SqT.of hp, atI_n (n := 0) rfl rfl, sz 2, fun p13 n13 => ⟨sz 2, fun p14 n14 => ?_⟩⟩
      have g13 := same_new n13 (.tup [.str "name", .str y])
      have g14 := same_new n14 (.tup [.str "hole", .ref p13])
      have kf := hlk rfl
      subst kf
      exact q (.un .hole (.name y)) _ _ (s12.trans (g13.trans g14)) ⟨p14, _, rfl, upd_same, p13, rfl, g14 _ _ upd_same⟩ (.unName (okn y hy) 0) fun fr => kd_hole (kd_name hly hlv hsg _) fr
    | false =>
      refine iteF ⟨_, rfl, rfl, _, rfl, ite2 (fun ck => ?_) fun ck => ?_⟩
      · have kf : k = false := by
          have z := V.str.inj (of_decide_eq_true ck)
          exact kindS_inj (l := false) z
        subst kf
        exact ⟨_, rfl, q (.num c) _ _ s12 (w11.mono (.of_same e12)) (.num c 0) fun fr => rfl⟩
      · have kt : k = true := by
          cases k
          · exact absurd (decide_eq_true rfl) ck
          · rfl
        subst kt
        have lf : l = false := by
          cases l
          · rfl
          · exact absurd (hlk rfl) (by decide)
        subst lf
        refine ⟨fun b H' => Same H12 H' ∧ (b = true → es2 ≠ []), ?_, ?_⟩
        · refine ⟨_, rfl, Nat.zero_le _, seq_ne hE12 hr12 ok2 fun G g => ⟨_, rfl, ite2 (fun c2 => ?_) fun _ => ⟨g, fun z => nomatch z⟩⟩⟩
          exact ⟨_, rfl, _, _, rfl, rfl, (by show (0 : Int) < _; decide), _, _, rfl, rfl, _, rfl, g, fun _ => off_nil c2⟩
        rintro b H13 ⟨e13, hb⟩
        have s13 := s12.trans e13
        cases b with
        | true =>
          obtain ⟨pos, pk⟩ := other (hb rfl)
          obtain ⟨y, p, q', u, hy, ea, hp, hly, hlv, hsg⟩ := pk e13
          refine iteT ⟨_, rfl, _, rfl, _, _, rfl, rfl, ⟨by decide, by decide⟩, _, rfl, r2, _, rfl, .inl (SqL.of (e13 _ _ hr12)), _, _, rfl, rfl, pos, r2, _, _, _, rfl, rfl, SqL.of (e13 _ _ hr12), ea, p, _, _, _, rfl, rfl, SqT.of hp, atI_n (n := 0) rfl rfl, sz 2, fun p13 n13 => ⟨sz 2, fun p14 n14 => ?_⟩⟩
          have g13 := same_new n13 (.tup [.str "name", .str y])
          have g14 := same_new n14 (.tup [.str "quote", .ref p13])
          exact q (.un .quote (.name y)) _ _ (s13.trans (g13.trans g14)) ⟨p14, _, rfl, upd_same, p13, rfl, g14 _ _ upd_same⟩ (.unName (okn y hy) 0) fun fr => kd_quote (kd_name hly hlv hsg _) fr
        | false =>
          refine iteF ⟨_, rfl, sz 2, fun p13 n13 => ⟨_, rfl, sz 2, fun p14 n14 => ⟨sz 2, fun p15 n15 => ?_⟩⟩⟩
          have g13 := same_new n13 (.tup [.str "lift", .ref p11])
          have g14 := same_new n14 (.tup [.str "quote", .ref p11])
          have g15 := same_new n15 (.lst [.ref p13, .ref p14])
          have hm := mod_in (n / 16) (n := 2) (by decide)
          obtain ⟨v, hv, ea⟩ := at_any (ys := [V.ref p13, .ref p14]) hm.1 hm.2
          refine ⟨_, rfl, _, _, rfl, rfl, ⟨by decide, by decide⟩, _, _, rfl, rfl, (by show (0 : Int) < _; decide), p15, _, _, _, rfl, rfl, SqL.of upd_same, ea, ?_⟩
          have ww := (w11.mono (.of_same e12)).mono (.of_same (e13.trans (g13.trans (g14.trans g15))))
          simp only [List.mem_cons, List.not_mem_nil, or_false] at hv
          rcases hv with rfl | rfl
          · exact q (.un .lift (.num c)) _ _ (s13.trans (g13.trans (g14.trans g15))) ⟨p13, _, rfl, g15 _ _ (g14 _ _ upd_same), ww⟩ (.unNum c 0) fun fr => kd_lift rfl
          · exact q (.un .quote (.num c)) _ _ (s13.trans (g13.trans (g14.trans g15))) ⟨p14, _, rfl, g15 _ _ upd_same, ww⟩ (.unNum c 0) fun fr => kd_quote rfl fr
end

/-! ### the words to draw from -/
def WordOk (l k fr : Bool) (y : Str) : Prop := y ∈ (["let", "turns", "def", "when", "use"] : List Str) ∨ (k = true ∧ y ∈ (["quote", "lift"] : List Str)) ∨ (k = false ∧ y ∈ (["sum", "product", "less"] : List Str)) ∨
  (k = false ∧ l = true ∧ y ∈ (["hole", "kept"] : List Str)) ∨ (k = false ∧ l = false ∧ fr = true ∧ y = "run")
def spWords : Sp := fun vs H Q _ => ∃ (l k fr : Bool), vs = [.int (lvI l), .str (kindS k), .bl fr] ∧ (l = true → k = false) ∧ ∀ (r : Addr) (ys : List Str) (H' : Hp), Same H H' → H' r = some (.lst (ys.map V.str)) → ys.length ≤ 20 → 0 < ys.length → (∀ y ∈ ys, WordOk l k fr y) → Q (.ref r) H'
abbrev s_words : Stmt := topS 50
theorem sc_words : FnScope ["_law_level", "_law_kind", "_law_free", "_law_some"] ["_law_level", "_law_kind", "_law_free"] (defScope s_words) := ⟨rfl, rfl, rfl, by decide +kernel, rfl, by decide +kernel, by decide +kernel⟩
section
variable {P : Program} {w : World} {K : PySem.W.Frag} {mg : Str → Option Value} {base : Heap} {f f1 f2 f3 f4 f5 f6 f7 f8 : Addr} {fd fd1 fd2 fd3 fd4 fd5 fd6 fd7 fd8 : FuncData}
theorem lvI_eq {l m : Bool} (h : lvI l = lvI m) : l = m := by
  revert h
  cases l <;> cases m <;> first | (intro _; rfl) | (intro z; exact absurd z (by decide))
theorem ok_words (F : Fun K "_law_words" "_law_words" s_words f fd) : FnOk P w K mg base CX0 1 f fd ["_law_level", "_law_kind", "_law_free"] spWords := by
  refine F.ok sc_words (fun vs H Q E h => ?_) (fun cdv A outer s H vs Q E hr h => ?_)
  · obtain ⟨l, k, fr, rfl, _⟩ := h
    rfl
  obtain ⟨l, k, fr, rfl, hlk, q⟩ := h
  refine ⟨_, (pss_cons (ps_set (i := 3) sc_words.nd rfl (Or.inl rfl) (pe_lst (pa_cons pe_str (pa_cons pe_str (pa_cons pe_str (pa_cons pe_str (pa_cons pe_str (pa_cons pe_str pa_nil))))))))
      (pss_cons (ps_if (pt_cmpR op_eq (pv 1) pe_str (nomark _)) (pss_one (ps_ret (pe_op op_cat (pv 3) (pe_lst (pa_cons pe_str (pa_cons pe_str (pa_cons pe_str (pa_cons pe_str (pa_cons pe_str (pa_cons pe_str (pa_cons pe_str pa_nil))))))))))) pss_nil)
      (pss_cons (ps_if (pt_cmpR op_eq (pv 0) pe_int (nomark _)) (pss_one (ps_ret (pe_op op_cat (pv 3) (pe_lst (pa_cons pe_str (pa_cons pe_str (pa_cons pe_str (pa_cons pe_str (pa_cons pe_str (pa_cons pe_str (pa_cons pe_str (pa_cons pe_str (pa_cons pe_str (pa_cons pe_str (pa_cons pe_str pa_nil))))))))))))))) pss_nil)
      (pss_cons (ps_if (pt_val (pv 2)) (pss_one (ps_ret (pe_op op_cat (pv 3) (pe_lst (pa_cons pe_str (pa_cons pe_str (pa_cons pe_str (pa_cons pe_str (pa_cons pe_str (pa_cons pe_str (pa_cons pe_str (pa_cons pe_str (pa_cons pe_str pa_nil))))))))))))) pss_nil)
      (pss_one (ps_ret (pe_op op_cat (pv 3) (pe_lst (pa_cons pe_str (pa_cons pe_str (pa_cons pe_str pa_nil))))))))))), ?_⟩
  refine ⟨sz 6, fun p1 n1 => ?_⟩
  have g1 := same_new n1 (.lst [V.str "let", .str "turns", .str "def", .str "when", .str "use", .str "use"])
  have w1 : upd H p1 (.lst [V.str "let", .str "turns", .str "def", .str "when", .str "use", .str "use"]) p1 = some (.lst ((["let", "turns", "def", "when", "use", "use"] : List Str).map V.str)) := upd_same
  refine ⟨_, rfl, rfl, _, rfl, ite2 (fun c1 => ?_) fun c1 => ?_⟩
  · have hk : k = true := kindS_inj (l := true) (V.str.inj (of_decide_eq_true c1))
    subst hk
    refine ⟨_, rfl, sz 7, fun p2 n2 => ⟨p1, p2, _, _, rfl, rfl, same_new n2 _ _ _ upd_same, upd_same, sz 13, fun p3 n3 => ?_⟩⟩
    refine q p3 ((["let", "turns", "def", "when", "use", "use"] : List Str) ++ (["quote", "quote", "quote", "quote", "quote", "quote", "lift"] : List Str)) _ (g1.trans ((same_new n2 _).trans (same_new n3 _))) upd_same (by decide) (by decide) fun y hy => ?_
    simp only [List.cons_append, List.nil_append, List.mem_cons, List.not_mem_nil, or_false] at hy
    unfold WordOk
    simp only [List.mem_cons, List.not_mem_nil, or_false]
    rcases hy with h | h | h | h | h | h | h | h | h | h | h | h | h <;> subst h <;> simp
  have hk : k = false := by
    cases k
    · rfl
    · exact absurd (decide_eq_true rfl) c1
  subst hk
  refine ⟨_, rfl, rfl, _, rfl, ite2 (fun c2 => ?_) fun c2 => ?_⟩
  · have hl : l = true := lvI_eq (m := true) (V.int.inj (of_decide_eq_true c2))
    subst hl
    refine ⟨_, rfl, sz 11, fun p2 n2 => ⟨p1, p2, _, _, rfl, rfl, same_new n2 _ _ _ upd_same, upd_same, sz 17, fun p3 n3 => ?_⟩⟩
    refine q p3 ((["let", "turns", "def", "when", "use", "use"] : List Str) ++ (["sum", "sum", "product", "less", "hole", "hole", "kept", "kept", "kept", "kept", "kept"] : List Str)) _ (g1.trans ((same_new n2 _).trans (same_new n3 _))) upd_same (by decide) (by decide) fun y hy => ?_
    simp only [List.cons_append, List.nil_append, List.mem_cons, List.not_mem_nil, or_false] at hy
    unfold WordOk
    simp only [List.mem_cons, List.not_mem_nil, or_false]
    rcases hy with h | h | h | h | h | h | h | h | h | h | h | h | h | h | h | h | h <;> subst h <;> simp
  have hl : l = false := by
    cases l
    · rfl
    · exact absurd (decide_eq_true rfl) c2
  subst hl
  refine ⟨_, rfl, _, rfl, ite2 (fun c3 => ?_) fun c3 => ?_⟩
  · have hf : fr = true := c3
    subst hf
    refine ⟨_, rfl, sz 9, fun p2 n2 => ⟨p1, p2, _, _, rfl, rfl, same_new n2 _ _ _ upd_same, upd_same, sz 15, fun p3 n3 => ?_⟩⟩
    refine q p3 ((["let", "turns", "def", "when", "use", "use"] : List Str) ++ (["sum", "product", "less", "run", "run", "run", "run", "run", "run"] : List Str)) _ (g1.trans ((same_new n2 _).trans (same_new n3 _))) upd_same (by decide) (by decide) fun y hy => ?_
    simp only [List.cons_append, List.nil_append, List.mem_cons, List.not_mem_nil, or_false] at hy
    unfold WordOk
    simp only [List.mem_cons, List.not_mem_nil, or_false]
    rcases hy with h | h | h | h | h | h | h | h | h | h | h | h | h | h | h <;> subst h <;> simp
  · refine ⟨_, rfl, sz 3, fun p2 n2 => ⟨p1, p2, _, _, rfl, rfl, same_new n2 _ _ _ upd_same, upd_same, sz 9, fun p3 n3 => ?_⟩⟩
    refine q p3 ((["let", "turns", "def", "when", "use", "use"] : List Str) ++ (["sum", "product", "less"] : List Str)) _ (g1.trans ((same_new n2 _).trans (same_new n3 _))) upd_same (by decide) (by decide) fun y hy => ?_
    simp only [List.cons_append, List.nil_append, List.mem_cons, List.not_mem_nil, or_false] at hy
    unfold WordOk
    simp only [List.mem_cons, List.not_mem_nil, or_false]
    rcases hy with h | h | h | h | h | h | h | h | h <;> subst h <;> simp
end

/-! ### the growers -/
/-- a term of the level and the kind, of what is in force; n calls, one within another, are allowed -/
def spTerm (K : PySem.W.Frag) (n : Nat) : Sp := fun vs H Q _ => ∃ (a st sa : Addr) (l k fr : Bool) (sc : Sc) (ws : List V) (c m d : Int) (e : Nat), vs = [.ref a, .ref st, .int (lvI l), .str (kindS k), .ref sa, .int d, .bl fr] ∧
  Ints K H a ∧ H st = some (.lst [.int c, .int m]) ∧ 0 ≤ c ∧ H sa = some (.lst ws) ∧ ScAt H sc ws ∧ sc.Good ∧ sc.length + 4 * e ≤ 60 ∧ d = (e : Int) ∧ e < n ∧ (l = true → k = false) ∧
  ∀ (t : Tm) (v : V) (c' m' : Int) (H' : Hp), But st H H' → H' st = some (.lst [.int c', .int m']) → 0 ≤ c' → TmAt H' t v → Grown t e → kd t l (look sc) fr = .ok k → Q v H'
def spTwice (K : PySem.W.Frag) (n : Nat) : Sp := fun vs H Q _ => ∃ (a st sa : Addr) (sc : Sc) (ws : List V) (c m d x : Int) (e : Nat), vs = [.ref a, .ref st, .ref sa, .int d, .int x] ∧
  Ints K H a ∧ H st = some (.lst [.int c, .int m]) ∧ 0 ≤ c ∧ H sa = some (.lst ws) ∧ ScAt H sc ws ∧ sc.Good ∧ sc.length + 1 + 4 * e ≤ 60 ∧ d = (e : Int) ∧ e < n ∧
  ∀ (t : Tm) (v : V) (c' m' : Int) (H' : Hp), But st H H' → H' st = some (.lst [.int c', .int m']) → 0 ≤ c' → TmAt H' t v → Inner t e → (∀ fr, kd t true (look sc) fr = .ok false) → Q v H'
def spGBound (K : PySem.W.Frag) (n : Nat) : Sp := fun vs H Q _ => ∃ (a st sa wa : Addr) (y : Str) (l k fr : Bool) (sc : Sc) (ws : List V) (c m d x : Int) (e : Nat), vs = [.ref a, .ref st, .ref wa, .ref sa, .int d, .int x] ∧
  Ints K H a ∧ H st = some (.lst [.int c, .int m]) ∧ 0 ≤ c ∧ H wa = some (.lst [.str y, .int (lvI l), .str (kindS k), .bl fr]) ∧ H sa = some (.lst ws) ∧ ScAt H sc ws ∧ sc.Good ∧ sc.length + 4 * (e + 1) ≤ 60 ∧ d = (e : Int) ∧ e < n ∧ 0 ≤ x ∧ x < 2147483629 ∧ (l = true → k = false) ∧
  (y = "let" ∨ y = "turns" ∨ y = "def" ∨ y = "use" ∨ (y = "kept" ∧ l = true ∧ k = false)) ∧
  ∀ (t : Tm) (v : V) (c' m' : Int) (H' : Hp), But st H H' → H' st = some (.lst [.int c', .int m']) → 0 ≤ c' → TmAt H' t v → Grown t (e + 1) → kd t l (look sc) fr = .ok k → Q v H'
abbrev s_term : Stmt := topS 51
theorem sc_term : FnScope ["_law_script", "_law_state", "_law_level", "_law_kind", "_law_scope", "_law_depth", "_law_free", "_law_number_here", "_law_words_here", "_law_word", "_law_one", "_law_other"] ["_law_script", "_law_state", "_law_level", "_law_kind", "_law_scope", "_law_depth", "_law_free"] (defScope s_term) := ⟨rfl, rfl, rfl, by decide +kernel, rfl, by decide +kernel, by decide +kernel⟩
abbrev s_twice : Stmt := topS 52
theorem sc_twice : FnScope ["_law_script", "_law_state", "_law_scope", "_law_depth", "_law_number_here", "_law_x", "_law_more", "_law_found", "_law_one", "_law_other"] ["_law_script", "_law_state", "_law_scope", "_law_depth", "_law_number_here"] (defScope s_twice) := ⟨rfl, rfl, rfl, by decide +kernel, rfl, by decide +kernel, by decide +kernel⟩
abbrev s_bound : Stmt := topS 53
theorem sc_bound : FnScope ["_law_script", "_law_state", "_law_what", "_law_scope", "_law_depth", "_law_number_here", "_law_word", "_law_level", "_law_kind", "_law_free", "_law_x", "_law_f", "_law_other", "_law_one", "_law_more", "_law_inner", "_law_many", "_law_found", "_law_whole_here", "_law_body"] ["_law_script", "_law_state", "_law_what", "_law_scope", "_law_depth", "_law_number_here"] (defScope s_bound) := ⟨rfl, rfl, rfl, by decide +kernel, rfl, by decide +kernel, by decide +kernel⟩
section
variable {P : Program} {w : World} {K : PySem.W.Frag} {mg : Str → Option Value} {base : Heap} {f f1 f2 f3 f4 f5 f6 f7 f8 : Addr} {fd fd1 fd2 fd3 fd4 fd5 fd6 fd7 fd8 : FuncData}
/-- at level 1 it is no matter whether run may stand there -/
theorem kd_free1 : ∀ (t : Tm) (E : Env) (fr fs : Bool), kd t true E fr = kd t true E fs
  | .num _, _, _, _ => rfl
  | .name _, _, _, _ => rfl
  | .use g a, E, fr, fs => by simp only [kd, kd_free1 a E fr fs]
  | .bin _ a b, E, fr, fs => by simp only [kd, kd_free1 a E fr fs, kd_free1 b E fr fs]
  | .cond c a b, E, fr, fs => by simp only [kd, kd_free1 c E fr fs, kd_free1 a E fr fs, kd_free1 b E fr fs]
  | .letx x a b, E, fr, fs => by simp only [kd, kd_free1 a E fr fs, fun E => kd_free1 b E fr fs]
  | .turns _ x a b, E, fr, fs => by simp only [kd, kd_free1 a E fr fs, fun E => kd_free1 b E fr fs]
  | .deff g x k a b, E, fr, fs => by simp only [kd, fun E => kd_free1 b E fr fs]
  | .un .quote a, _, _, _ => rfl
  | .un .hole a, _, _, _ => rfl
  | .un .lift a, _, _, _ => rfl
  | .un .run a, E, fr, fs => by simp [kd]
theorem ok_twice {n j : Nat} (F : Fun K "_law_twice" "_law_twice" s_twice f fd) (T : Txt mg)
    (C_law_seen : Cal P w K mg base "_law_seen" ["_law_scope", "_law_level", "_law_kinds"] 1 (spSeen K) f1 fd1) (C_law_name : Cal P w K mg base "_law_name" ["_law_script", "_law_which"] 3 (spName K) f2 fd2) (C_law_term : Cal P w K mg base "_law_term" ["_law_script", "_law_state", "_law_level", "_law_kind", "_law_scope", "_law_depth", "_law_free"] (4 + j) (spTerm K n) f3 fd3) : FnOk P w K mg base CX0 (4 + j + 1) f fd ["_law_script", "_law_state", "_law_scope", "_law_depth", "_law_number_here"] (spTwice K n) := by
  refine F.ok sc_twice (fun vs H Q E h => ?_) (fun cdv A outer s H vs Q E hr h => ?_)
  · obtain ⟨a, st, sa, sc, ws, c, m, d, x, e, rfl, _⟩ := h
    rfl
  obtain ⟨a, st, sa, sc, ws, c, m, d, x, e, rfl, hI, hst, hc, hS, hA, ⟨hok, hlv⟩, hl, rfl, hen, q⟩ := h
  refine ⟨_, (pss_cons (ps_set (i := 5) sc_twice.nd rfl (Or.inl rfl) (pe_call C_law_name.ok (hr.mono (by first | decide | omega)) rfl C_law_name.m C_law_name.kp C_law_name.b .nil pass0 (pa_cons (pv 0) (pa_cons (pe_ix ix_list (pe_lst (pa_cons pe_int (pa_cons pe_int (pa_cons pe_int (pa_cons pe_int pa_nil))))) (pe_op op_mod (pv 4) pe_int) (fun _ _ => rfl)) pa_nil))))
      (pss_cons (ps_set (i := 6) sc_twice.nd rfl (Or.inl rfl) (pe_op op_cat (pv 2) (pe_lst (pa_cons (pe_tup (pa_cons (pv 5) (pa_cons pe_int (pa_cons (pe_tup (pa_cons pe_str pa_nil)) pa_nil)))) pa_nil))))
      (pss_cons (ps_set (i := 7) sc_twice.nd rfl (Or.inl rfl) (pe_call C_law_seen.ok (hr.mono (by first | decide | omega)) rfl C_law_seen.m C_law_seen.kp C_law_seen.b .nil pass0 (pa_cons (pv 6) (pa_cons pe_int (pa_cons (pe_lst (pa_cons (pe_tup (pa_cons pe_str pa_nil)) pa_nil)) pa_nil)))))
      (pss_cons (ps_set (i := 8) sc_twice.nd rfl (Or.inl rfl) (pe_tup (pa_cons pe_str (pa_cons (pv 5) pa_nil))))
      (pss_cut (ps_if (pt_cmpR (op_neD hr.units) (pv 7) (pe_lst pa_nil) (nomark _)) (pss_one (ps_set (i := 8) sc_twice.nd rfl (Or.inl rfl) (pe_tup (pa_cons pe_str (pa_cons (pe_tup (pa_cons pe_str (pa_cons (pe_ix ix_tup (pe_ix ix_list (pv 7) (pe_op op_mod (pe_op op_fdiv (pv 4) pe_int) (pe_callB call_len_seq (by rfl) T.len PySem.boot_len (pa_cons (pv 7) pa_nil))) (fun _ _ => rfl)) pe_int (fun _ _ => rfl)) pa_nil))) pa_nil))))) pss_nil)
      (pss_cons (ps_set (i := 9) sc_twice.nd rfl (Or.inl rfl) (pe_call C_law_term.ok (hr.mono (by first | decide | omega)) rfl C_law_term.m C_law_term.kp C_law_term.b .nil pass0 (pa_cons (pv 0) (pa_cons (pv 1) (pa_cons pe_int (pa_cons pe_str (pa_cons (pv 6) (pa_cons (pv 3) (pa_cons pe_bl pa_nil)))))))))
      (pss_one (ps_ret (pe_tup (pa_cons pe_str (pa_cons (pv 5) (pa_cons (pe_tup (pa_cons pe_str (pa_cons (pe_op op_mod (pe_op op_fdiv (pv 4) pe_int) pe_int) pa_nil))) (pa_cons (pe_tup (pa_cons pe_str (pa_cons (pv 8) (pa_cons (pv 9) pa_nil)))) pa_nil))))))))))))), ?_⟩
  refine ⟨_, rfl, sz 4, fun p1 n1 => ?_⟩
  have g1 := same_new n1 (.lst [V.int 0, .int 0, .int 1, .int 2])
  have h4 := mod_in x (n := 4) (by decide)
  obtain ⟨k0, hk0, ek0⟩ := at_int (ys := [0, 0, 1, 2]) h4.1 h4.2
  refine ⟨_, rfl, _, _, rfl, rfl, (by show (0 : Int) < _; decide), p1, _, _, _, rfl, rfl, SqL.of upd_same, ek0, a, _, rfl, hI.same g1, fun nm H2 e2 hnm => ?_⟩
  have s2 := g1.trans e2
  refine ⟨_, rfl, _, rfl, sz 1, fun p3 n3 => ⟨sz 3, fun p4 n4 => ⟨sz 1, fun p5 n5 => ⟨sa, p5, ws, [V.ref p4], rfl, rfl, ?_, upd_same, sz _ (by have := hA.len; show ws.length + 1 ≤ _; omega), fun p6 n6 => ?_⟩⟩⟩⟩
  · exact same_new n5 _ _ _ (same_new n4 _ _ _ (same_new n3 _ _ _ (s2 _ _ hS)))
  have g3 := same_new n3 (.tup [.str "number"])
  have g4 := same_new n4 (.tup [.str nm, .int 1, .ref p3])
  have g5 := same_new n5 (.lst [.ref p4])
  have g6 := same_new n6 (.lst (ws ++ [.ref p4]))
  have s6 := s2.trans (g3.trans (g4.trans (g5.trans g6)))
  have hSc : ScAt _ (sc ++ [(nm, ⟨true, none, false⟩)]) (ws ++ [.ref p4]) := (hA.mono (.of_same s6)).app ⟨⟨p4, p3, rfl, g6 _ _ (g5 _ _ upd_same), g6 _ _ (g5 _ _ (g4 _ _ upd_same))⟩, True.intro⟩
  have h6 : upd (upd (upd (upd H2 p3 (.tup [.str "number"])) p4 (.tup [.str nm, .int 1, .ref p3])) p5 (.lst [.ref p4])) p6 (.lst (ws ++ [.ref p4])) p6 = some (.lst (ws ++ [.ref p4])) := upd_same
  generalize upd (upd (upd (upd H2 p3 (.tup [.str "number"])) p4 (.tup [.str nm, .int 1, .ref p3])) p5 (.lst [.ref p4])) p6 (.lst (ws ++ [.ref p4])) = H6 at s6 hSc h6 ⊢
  clear g3 g4 g5 g6
  have hgd : Sc.Good (sc ++ [(nm, ⟨true, none, false⟩)]) := Sc.Good.val ⟨hok, hlv⟩ hnm
  have hlk : look (sc ++ [(nm, ⟨true, none, false⟩)]) = (look sc).set nm ⟨true, none, false⟩ := look_snoc _ _ _
  have hln : (sc ++ [(nm, (⟨true, none, false⟩ : Ent))]).length = sc.length + 1 := List.length_append
  generalize hsc' : sc ++ [(nm, (⟨true, none, false⟩ : Ent))] = sc' at hSc hgd hlk hln
  have hok' := hgd.1
  generalize ws ++ [V.ref p4] = ws' at h6 hSc
  refine ⟨_, rfl, sz 1, fun p7 n7 => ⟨sz 1, fun p8 n8 => ?_⟩⟩
  have g7 := same_new n7 (.tup [.str "piece"])
  have g8 := same_new n8 (.lst [.ref p7])
  have s8 := s6.trans (g7.trans g8)
  refine ⟨p6, p8, false, sc', ws', [[true]], rfl, g8 _ _ (g7 _ _ h6), hSc.mono (.of_same (g7.trans g8)), hok', by omega, sigs1_dp (g8 _ _ upd_same) upd_same, fun r1 es us H9 _ e9 hr1 hE hEl hEp => ?_⟩
  have s9 := s8.trans e9
  have h69 := e9 _ _ (g8 _ _ (g7 _ _ h6))
  have hSc9 := hSc.mono (.of_same (g7.trans (g8.trans e9)))
  have ok1 : Sc.Ok es := fun z m => hok' z (hEp z m).1
  refine ⟨_, rfl, sz 2, fun p10 n10 => ?_⟩
  have g10 := same_new n10 (.tup [.str "name", .str nm])
  have w10 : TmAt (upd H9 p10 (.tup [.str "name", .str nm])) (.name nm) (.ref p10) := ⟨p10, rfl, upd_same⟩
  have s10 := s9.trans g10
  have h6a := g10 _ _ h69
  have hSca := hSc9.mono (.of_same g10)
  have hEa := hE.mono (.of_same g10)
  have hra := g10 _ _ hr1
  generalize upd H9 p10 (.tup [.str "name", .str nm]) = Ha at s10 w10 h6a hSca hEa hra ⊢
  refine ⟨fun σ' H' => ∃ (t1 : Tm) (v1 : V), σ' = [some (.ref a), some (.ref st), some (.ref sa), some (.int e), some (.int x), some (.str nm), some (.ref p6), some (.ref r1), some v1, none] ∧ Same Ha H' ∧ TmAt H' t1 v1 ∧ Grown t1 0 ∧ ∀ fr, kd t1 true (look sc') fr = .ok false, ?_, ?_⟩
  · refine ⟨_, rfl, Nat.zero_le _, seq_ne hEa hra ok1 fun G g => ⟨_, rfl, ite2 (fun c2 => ?_) fun _ => ?_⟩⟩
    · have ne := off_nil c2
      have hEg := hEa.mono (.of_same g)
      have hl' := hEg.len
      have pos : (0 : Int) < (us.length : Int) := by
        have : es.length ≠ 0 := fun z => ne (List.length_eq_zero_iff.mp z)
        omega
      have hm := mod_in (x / 4) pos
      obtain ⟨⟨y, u⟩, p, q', he, ea, hp, hq⟩ := hEg.pick hm.1 hm.2
      obtain ⟨hy, hly, hlv, hsg⟩ := hEp _ he
      refine ⟨_, rfl, _, rfl, _, _, rfl, rfl, ⟨by decide, by decide⟩, _, rfl, r1, _, rfl, .inl (SqL.of (g _ _ hra)), _, _, rfl, rfl, pos, r1, _, _, _, rfl, rfl, SqL.of (g _ _ hra), ea, p, _, _, _, rfl, rfl, SqT.of hp, atI_n (n := 0) rfl rfl, sz 2, fun p11 n11 => ⟨sz 2, fun p12 n12 => ?_⟩⟩
      have g11 := same_new n11 (.tup [.str "name", .str y])
      have g12 := same_new n12 (.tup [.str "hole", .ref p11])
      exact ⟨.un .hole (.name y), _, rfl, g.trans (g11.trans g12), ⟨p12, _, rfl, upd_same, p11, rfl, g12 _ _ upd_same⟩, .unName (hok' _ hy) 0, fun fr => kd_hole (kd_name hly hlv (List.mem_singleton.mp hsg) _) fr⟩
    · refine ⟨.name nm, _, rfl, g, w10.mono (.of_same g), .name hnm 0, fun fr => kd_name (u := ⟨true, none, false⟩) ?_ rfl rfl fr⟩
      rw [hlk]
      exact if_pos rfl
  rintro σ' Hb ⟨t1, v1, rfl, gb, w1, gr1, k1⟩
  have sb := s10.trans gb
  refine ⟨_, rfl, _, rfl, _, rfl, _, rfl, a, st, p6, true, false, false, sc', ws', c, m, e, e, rfl, hI.same sb, sb _ _ hst, hc, gb _ _ h6a, hSca.mono (.of_same gb), hgd, by omega, rfl, hen, fun _ => rfl, fun t2 v2 c' m' H' b' hst' hc' w2 gr2 k2 => ?_⟩
  have w1' := w1.mono (.of_but b' (sb _ _ hst))
  have b2 := (But.of_same sb).trans b'
  refine ⟨_, rfl, _, rfl, _, _, rfl, rfl, ⟨by decide, by decide⟩, _, _, rfl, rfl, (by show (0 : Int) < _; decide), sz 2, fun p13 n13 => ⟨_, rfl, _, rfl, sz 3, fun p14 n14 => ⟨sz 4, fun p15 n15 => ?_⟩⟩⟩
  have g13 := same_new n13 (.tup [.str "num", .int (x / 16 % 50)])
  have g14 := same_new n14 (.tup [.str "sum", v1, v2])
  have g15 := same_new n15 (.tup [.str "let", .str nm, .ref p13, .ref p14])
  refine q (.letx nm (.num (x / 16 % 50)) (.bin .sum t1 t2)) _ c' m' _ (b2.trans (.of_same (g13.trans (g14.trans g15)))) (g15 _ _ (g14 _ _ (g13 _ _ hst'))) hc' ⟨p15, _, _, rfl, upd_same, ⟨p13, rfl, g15 _ _ (g14 _ _ upd_same)⟩, p14, _, _, rfl, g15 _ _ upd_same, w1'.mono (.of_same (g13.trans (g14.trans g15))), w2.mono (.of_same (g13.trans (g14.trans g15)))⟩ (.twice hnm gr1 gr2) fun fr => ?_
  show Kd.and (.ok false) (fun k => kd (.bin .sum t1 t2) true ((look sc).set nm ⟨true, none, k⟩) fr) = .ok false
  show kd (.bin .sum t1 t2) true ((look sc).set nm ⟨true, none, false⟩) fr = .ok false
  rw [← hlk]
  simp only [kd, k1 fr, kd_free1 t2 _ fr false, k2, Kd.want, Kd.and, if_true]
end

section
variable {P : Program} {w : World} {K : PySem.W.Frag} {mg : Str → Option Value} {base : Heap} {f f1 f2 f3 f4 f5 f6 f7 f8 : Addr} {fd fd1 fd2 fd3 fd4 fd5 fd6 fd7 fd8 : FuncData}
theorem ok_term {n j : Nat} (F : Fun K "_law_term" "_law_term" s_term f fd) (T : Txt mg)
    (C_law_next : Cal P w K mg base "_law_next" ["_law_script", "_law_state"] 3 (spNext K) f1 fd1) (C_law_leaf : Cal P w K mg base "_law_leaf" ["_law_script", "_law_state", "_law_level", "_law_kind", "_law_scope", "_law_number_here"] 2 (spLeaf K) f2 fd2) (C_law_words : Cal P w K mg base "_law_words" ["_law_level", "_law_kind", "_law_free"] 1 spWords f3 fd3)
    (C_law_bound : Cal P w K mg base "_law_bound" ["_law_script", "_law_state", "_law_what", "_law_scope", "_law_depth", "_law_number_here"] (4 + j + 2) (spGBound K n) f4 fd4) (C_law_term : Cal P w K mg base "_law_term" ["_law_script", "_law_state", "_law_level", "_law_kind", "_law_scope", "_law_depth", "_law_free"] (4 + j) (spTerm K n) f fd) : FnOk P w K mg base CX0 (4 + j + 3) f fd ["_law_script", "_law_state", "_law_level", "_law_kind", "_law_scope", "_law_depth", "_law_free"] (spTerm K (n + 1)) := by
  refine F.ok sc_term (fun vs H Q E h => ?_) (fun cdv A outer s H vs Q E hr h => ?_)
  · obtain ⟨a, st, sa, l, k, fr, sc, ws, c, m, d, e, rfl, _⟩ := h
    rfl
  obtain ⟨a, st, sa, l, k, fr, sc, ws, c, m, d, e, rfl, hI, hst, hc, hS, hA, ⟨hok, hlv⟩, hln, rfl, hen, hlk, q⟩ := h
  have nsa := hA.off hS hst
  refine ⟨_, (pss_cons (ps_set (i := 7) sc_term.nd rfl (Or.inl rfl) (pe_call C_law_next.ok (hr.mono (by first | decide | omega)) rfl C_law_next.m C_law_next.kp C_law_next.b .nil pass0 (pa_cons (pv 0) (pa_cons (pv 1) pa_nil))))
      (pss_cons (ps_asg (pe_op op_add (pe_ix ix_list (pv 1) pe_int (fun _ _ => rfl)) pe_int) (pg_sub (pv 1) pe_int set_list))
      (pss_cons (ps_if (pt_k (PW.pt (pw_or (pt_cmpR op_eq (pv 5) pe_int (nomark _)) (pw_or1 (pt_cmpR op_gt (pe_ix ix_list (pv 1) pe_int (fun _ _ => rfl)) pe_int (nomark _)))))) (pss_one (ps_ret (pe_call C_law_leaf.ok (hr.mono (by first | decide | omega)) rfl C_law_leaf.m C_law_leaf.kp C_law_leaf.b .nil pass0 (pa_cons (pv 0) (pa_cons (pv 1) (pa_cons (pv 2) (pa_cons (pv 3) (pa_cons (pv 4) (pa_cons (pv 7) pa_nil))))))))) pss_nil)
      (pss_cons (ps_set (i := 8) sc_term.nd rfl (Or.inl rfl) (pe_call C_law_words.ok (hr.mono (by first | decide | omega)) rfl C_law_words.m C_law_words.kp C_law_words.b .nil pass0 (pa_cons (pv 2) (pa_cons (pv 3) (pa_cons (pv 6) pa_nil)))))
      (pss_cons (ps_set (i := 9) sc_term.nd rfl (Or.inl rfl) (pe_ix ix_list (pv 8) (pe_op op_mod (pv 7) (pe_callB call_len_seq (by rfl) T.len PySem.boot_len (pa_cons (pv 8) pa_nil))) (fun _ _ => rfl)))
      (pss_cons (ps_set (i := 7) sc_term.nd rfl (Or.inl rfl) (pe_op op_fdiv (pv 7) (pe_callB call_len_seq (by rfl) T.len PySem.boot_len (pa_cons (pv 8) pa_nil))))
      (pss_cons (ps_if (pt_cmpR op_in_seq (pv 9) (pe_tup (pa_cons pe_str (pa_cons pe_str (pa_cons pe_str (pa_cons pe_str (pa_cons pe_str pa_nil)))))) (by rfl)) (pss_one (ps_ret (pe_call C_law_bound.ok (hr.mono (by first | decide | omega)) rfl C_law_bound.m C_law_bound.kp C_law_bound.b .nil pass0 (pa_cons (pv 0) (pa_cons (pv 1) (pa_cons (pe_lst (pa_cons (pv 9) (pa_cons (pv 2) (pa_cons (pv 3) (pa_cons (pv 6) pa_nil))))) (pa_cons (pv 4) (pa_cons (pe_op op_sub (pv 5) pe_int) (pa_cons (pv 7) pa_nil))))))))) pss_nil)
      (pss_cons (ps_if (pt_cmpR op_eq (pv 9) pe_str (nomark _)) (pss_one (ps_ret (pe_tup (pa_cons pe_str (pa_cons (pe_call C_law_term.ok (hr.mono (by first | decide | omega)) rfl C_law_term.m C_law_term.kp C_law_term.b .nil pass0 (pa_cons (pv 0) (pa_cons (pv 1) (pa_cons pe_int (pa_cons pe_str (pa_cons (pv 4) (pa_cons (pe_op op_sub (pv 5) pe_int) (pa_cons pe_bl pa_nil)))))))) pa_nil))))) pss_nil)
      (pss_cons (ps_if (pt_cmpR op_eq (pv 9) pe_str (nomark _)) (pss_one (ps_ret (pe_tup (pa_cons pe_str (pa_cons (pe_call C_law_term.ok (hr.mono (by first | decide | omega)) rfl C_law_term.m C_law_term.kp C_law_term.b .nil pass0 (pa_cons (pv 0) (pa_cons (pv 1) (pa_cons pe_int (pa_cons pe_str (pa_cons (pv 4) (pa_cons (pe_op op_sub (pv 5) pe_int) (pa_cons pe_bl pa_nil)))))))) pa_nil))))) pss_nil)
      (pss_cons (ps_if (pt_cmpR op_eq (pv 9) pe_str (nomark _)) (pss_one (ps_ret (pe_tup (pa_cons pe_str (pa_cons (pe_call C_law_term.ok (hr.mono (by first | decide | omega)) rfl C_law_term.m C_law_term.kp C_law_term.b .nil pass0 (pa_cons (pv 0) (pa_cons (pv 1) (pa_cons pe_int (pa_cons pe_str (pa_cons (pv 4) (pa_cons (pe_op op_sub (pv 5) pe_int) (pa_cons (pv 6) pa_nil)))))))) pa_nil))))) pss_nil)
      (pss_cons (ps_if (pt_cmpR op_eq (pv 9) pe_str (nomark _)) (pss_one (ps_ret (pe_tup (pa_cons pe_str (pa_cons (pe_call C_law_term.ok (hr.mono (by first | decide | omega)) rfl C_law_term.m C_law_term.kp C_law_term.b .nil pass0 (pa_cons (pv 0) (pa_cons (pv 1) (pa_cons pe_int (pa_cons pe_str (pa_cons (pv 4) (pa_cons (pe_op op_sub (pv 5) pe_int) (pa_cons (pv 6) pa_nil)))))))) pa_nil))))) pss_nil)
      (pss_cons (ps_set (i := 10) sc_term.nd rfl (Or.inl rfl) (pe_call C_law_term.ok (hr.mono (by first | decide | omega)) rfl C_law_term.m C_law_term.kp C_law_term.b .nil pass0 (pa_cons (pv 0) (pa_cons (pv 1) (pa_cons (pv 2) (pa_cons pe_str (pa_cons (pv 4) (pa_cons (pe_op op_sub (pv 5) pe_int) (pa_cons (pv 6) pa_nil)))))))))
      (pss_cons (ps_if (pt_cmpR op_ne (pv 9) pe_str (nomark _)) (pss_one (ps_ret (pe_tup (pa_cons (pv 9) (pa_cons (pv 10) (pa_cons (pe_call C_law_term.ok (hr.mono (by first | decide | omega)) rfl C_law_term.m C_law_term.kp C_law_term.b .nil pass0 (pa_cons (pv 0) (pa_cons (pv 1) (pa_cons (pv 2) (pa_cons pe_str (pa_cons (pv 4) (pa_cons (pe_op op_sub (pv 5) pe_int) (pa_cons (pv 6) pa_nil)))))))) pa_nil)))))) pss_nil)
      (pss_cons (ps_set (i := 11) sc_term.nd rfl (Or.inl rfl) (pe_call C_law_term.ok (hr.mono (by first | decide | omega)) rfl C_law_term.m C_law_term.kp C_law_term.b .nil pass0 (pa_cons (pv 0) (pa_cons (pv 1) (pa_cons (pv 2) (pa_cons (pv 3) (pa_cons (pv 4) (pa_cons (pe_op op_sub (pv 5) pe_int) (pa_cons (pv 6) pa_nil)))))))))
      (pss_one (ps_ret (pe_tup (pa_cons pe_str (pa_cons (pv 10) (pa_cons (pv 11) (pa_cons (pe_call C_law_term.ok (hr.mono (by first | decide | omega)) rfl C_law_term.m C_law_term.kp C_law_term.b .nil pass0 (pa_cons (pv 0) (pa_cons (pv 1) (pa_cons (pv 2) (pa_cons (pv 3) (pa_cons (pv 4) (pa_cons (pe_op op_sub (pv 5) pe_int) (pa_cons (pv 6) pa_nil)))))))) pa_nil))))))))))))))))))))), ?_⟩
  refine ⟨_, rfl, _, rfl, a, st, c, [.int m], rfl, hI, hst, hc, fun x x0 x1 => ?_⟩
  refine ⟨_, rfl, st, _, _, _, rfl, rfl, SqL.of upd_same, atI_n (n := 1) rfl rfl, _, _, rfl, rfl, _, rfl, st, _, _, 1, rfl, rfl, upd_same, ixN_lt (by decide) (by show (1 : Int) < 2; decide), ?_⟩
  have b2 : But st H (upd (upd H st (.lst [V.int (c + 1), .int m])) st (.lst [V.int (c + 1), .int (m + 1)])) := (But.put _ _ _).trans (.put _ _ _)
  have st2 : upd (upd H st (.lst [V.int (c + 1), .int m])) st (.lst [V.int (c + 1), .int (m + 1)]) st = some (.lst [V.int (c + 1), .int (m + 1)]) := upd_same
  dsimp only [List.set]
  generalize upd (upd H st (.lst [V.int (c + 1), .int m])) st (.lst [V.int (c + 1), .int (m + 1)]) = H2 at b2 st2 ⊢
  have hS2 := b2 _ _ nsa hS
  have hA2 := hA.mono (.of_but b2 hst)
  have hI2 := hI.but hst b2
  refine ⟨fun b H' => H2 = H' ∧ (b = false → e ≠ 0), ?_, ?_⟩
  · refine ⟨_, rfl, rfl, _, rfl, ite2 (fun _ => ⟨rfl, fun z => nomatch z⟩) fun c1 => ?_⟩
    exact ⟨_, rfl, st, _, _, _, rfl, rfl, SqL.of st2, atI_n (n := 1) rfl rfl, _, _, rfl, rfl, _, rfl, rfl, fun _ z => c1 (by rw [z]; exact decide_eq_true rfl)⟩
  rintro b _ ⟨rfl, hb⟩
  cases b with
  | true =>
    exact iteT ⟨_, rfl, _, rfl, _, rfl, _, rfl, _, rfl, _, rfl, a, st, sa, l, k, sc, ws, x, rfl, hS2, hA2, hok, by omega, x0, x1, hlk, fun t v H' e' w g kk => q t v _ _ H' (b2.trans (.of_same e')) (e' _ _ st2) (by omega) w (g.mono (Nat.zero_le _)) (kk fr)⟩
  | false =>
    obtain ⟨e', rfl⟩ : ∃ e', e = e' + 1 := ⟨e - 1, by have := hb rfl; omega⟩
    refine iteF ⟨_, rfl, _, rfl, _, rfl, l, k, fr, rfl, hlk, fun r ys H3 e3 hr hy20 hy0 hyok => ?_⟩
    have hlen : ((ys.map V.str).length : Int) = (ys.length : Int) := by rw [List.length_map]
    have hm := mod_in x (n := (ys.length : Int)) (by omega)
    obtain ⟨y, hy, ey⟩ := at_str (ys := ys) hm.1 hm.2
    have wok := hyok y hy
    refine ⟨_, rfl, _, rfl, _, rfl, r, _, rfl, .inl (SqL.of hr), _, _, rfl, rfl, (by rw [hlen]; omega), r, _, _, _, rfl, rfl, SqL.of hr, (by rw [hlen]; exact ey), ?_⟩
    refine ⟨_, rfl, _, rfl, r, _, rfl, .inl (SqL.of hr), _, _, rfl, rfl, ⟨by rw [hlen]; omega, by rw [hlen]; omega⟩, ?_⟩
    have xq : 0 ≤ x / ((ys.map V.str).length : Int) ∧ x / ((ys.map V.str).length : Int) < 2147483629 := by
      rw [hlen]
      have hp : (0 : Int) < (ys.length : Int) := by omega
      refine ⟨Int.ediv_nonneg x0 (by omega), Int.lt_of_le_of_lt (Int.ediv_le_self _ x0) x1⟩
    refine ⟨_, rfl, sz 5, fun p4 n4 => ?_⟩
    have e4 := e3.trans (same_new n4 (.tup [.str "let", .str "turns", .str "def", .str "use", .str "kept"]))
    refine ⟨p4, _, rfl, .inr (SqT.of upd_same), rfl, rfl, _, rfl, ?_⟩
    generalize upd H3 p4 (.tup [.str "let", .str "turns", .str "def", .str "use", .str "kept"]) = H4 at e4 ⊢
    have b4 := b2.trans (.of_same e4)
    have st4 := e4 _ _ st2
    have hS4 := e4 _ _ hS2
    have hA4 := hA2.mono (.of_same e4)
    have hI4 := hI2.same e4
    refine ite2 (fun cw => ?_) fun cw => ?_
    · have cw' := inV_str.mp (show inV (V.str y) ((["let", "turns", "def", "use", "kept"] : List Str).map V.str) = true from cw)
      refine ⟨_, rfl, _, rfl, _, rfl, _, rfl, _, rfl, _, rfl, sz 4, fun p5 n5 => ?_⟩
      have g5 := same_new n5 (.lst [V.str y, .int (lvI l), .str (kindS k), .bl fr])
      refine ⟨_, rfl, _, rfl, _, _, rfl, rfl, _, rfl, a, st, sa, p5, y, l, k, fr, sc, ws, c + 1, m + 1, ((e' + 1 : Nat) : Int) - 1, x / ((ys.map V.str).length : Int), e', rfl, hI4.same g5, g5 _ _ st4, by omega, upd_same, g5 _ _ hS4, hA4.mono (.of_same g5), ⟨hok, hlv⟩, by omega, by omega, by omega, xq.1, xq.2, hlk, ?_, fun t v c' m' H' b' hst' hc' w g kk => q t v c' m' H' ((b4.trans (.of_same g5)).trans b') hst' hc' w g kk⟩
      simp only [List.mem_cons, List.not_mem_nil, or_false] at cw'
      rcases cw' with h | h | h | h | h
      · exact .inl h
      · exact .inr (.inl h)
      · exact .inr (.inr (.inl h))
      · exact .inr (.inr (.inr (.inl h)))
      · refine .inr (.inr (.inr (.inr ⟨h, ?_⟩)))
        subst h
        rcases wok with z | ⟨_, z⟩ | ⟨_, z⟩ | ⟨k0, l1, _⟩ | ⟨_, _, _, z⟩
        · exact absurd z (by decide +kernel)
        · exact absurd z (by decide +kernel)
        · exact absurd z (by decide +kernel)
        · exact ⟨l1, k0⟩
        · exact absurd z (by decide +kernel)
    have cw' : ¬ y ∈ (["let", "turns", "def", "use", "kept"] : List Str) := fun z => cw (inV_str.mpr z)
    refine ⟨_, rfl, rfl, _, rfl, ite2 (fun cq => ?_) fun cq => ?_⟩
    · have hy' : y = "quote" := V.str.inj (of_decide_eq_true cq)
      subst hy'
      have hkl : k = true ∧ l = false := by
        rcases wok with z | ⟨k1, z⟩ | ⟨_, z⟩ | ⟨k0, l1, z⟩ | ⟨_, _, _, z⟩
        · exact absurd z (by decide +kernel)
        · exact ⟨k1, by cases l with | false => rfl | true => exact absurd (k1.symm.trans (hlk rfl)) (by decide)⟩
        · exact absurd z (by decide +kernel)
        · exact absurd z (by decide +kernel)
        · exact absurd z (by decide +kernel)
      obtain ⟨rfl, rfl⟩ := hkl
      refine ⟨_, rfl, _, rfl, _, rfl, _, rfl, _, _, rfl, rfl, a, st, sa, true, false, false, sc, ws, c + 1, m + 1, ((e' + 1 : Nat) : Int) - 1, e', rfl, hI4, st4, by omega, hS4, hA4, ⟨hok, hlv⟩, by omega, by omega, by omega, fun _ => rfl, fun t v c' m' H' b' hst' hc' w g kk => ⟨sz 2, fun p n => ?_⟩⟩
      have g5 := same_new n (.tup [.str "quote", v])
      exact q (.un .quote t) _ c' m' _ ((b4.trans b').trans (.of_same g5)) (g5 _ _ hst') hc' ⟨p, v, rfl, upd_same, w.mono (.of_same g5)⟩ (.un g) (kd_quote kk fr)
    refine ⟨_, rfl, rfl, _, rfl, ite2 (fun ch => ?_) fun ch => ?_⟩
    · have hy' : y = "hole" := V.str.inj (of_decide_eq_true ch)
      subst hy'
      have hkl : k = false ∧ l = true := by
        rcases wok with z | ⟨k1, z⟩ | ⟨_, z⟩ | ⟨k0, l1, z⟩ | ⟨_, _, _, z⟩
        · exact absurd z (by decide +kernel)
        · exact absurd z (by decide +kernel)
        · exact absurd z (by decide +kernel)
        · exact ⟨k0, l1⟩
        · exact absurd z (by decide +kernel)
      obtain ⟨rfl, rfl⟩ := hkl
      refine ⟨_, rfl, _, rfl, _, rfl, _, rfl, _, _, rfl, rfl, a, st, sa, false, true, false, sc, ws, c + 1, m + 1, ((e' + 1 : Nat) : Int) - 1, e', rfl, hI4, st4, by omega, hS4, hA4, ⟨hok, hlv⟩, by omega, by omega, by omega, (fun z => nomatch z), fun t v c' m' H' b' hst' hc' w g kk => ⟨sz 2, fun p n => ?_⟩⟩
      have g5 := same_new n (.tup [.str "hole", v])
      exact q (.un .hole t) _ c' m' _ ((b4.trans b').trans (.of_same g5)) (g5 _ _ hst') hc' ⟨p, v, rfl, upd_same, w.mono (.of_same g5)⟩ (.un g) (kd_hole kk fr)
    refine ⟨_, rfl, rfl, _, rfl, ite2 (fun cl => ?_) fun cl => ?_⟩
    · have hy' : y = "lift" := V.str.inj (of_decide_eq_true cl)
      subst hy'
      have hkl : k = true ∧ l = false := by
        rcases wok with z | ⟨k1, z⟩ | ⟨_, z⟩ | ⟨k0, l1, z⟩ | ⟨_, _, _, z⟩
        · exact absurd z (by decide +kernel)
        · exact ⟨k1, by cases l with | false => rfl | true => exact absurd (k1.symm.trans (hlk rfl)) (by decide)⟩
        · exact absurd z (by decide +kernel)
        · exact absurd z (by decide +kernel)
        · exact absurd z (by decide +kernel)
      obtain ⟨rfl, rfl⟩ := hkl
      refine ⟨_, rfl, _, rfl, _, rfl, _, rfl, _, _, rfl, rfl, _, rfl, a, st, sa, false, false, fr, sc, ws, c + 1, m + 1, ((e' + 1 : Nat) : Int) - 1, e', rfl, hI4, st4, by omega, hS4, hA4, ⟨hok, hlv⟩, by omega, by omega, by omega, (fun z => nomatch z), fun t v c' m' H' b' hst' hc' w g kk => ⟨sz 2, fun p n => ?_⟩⟩
      have g5 := same_new n (.tup [.str "lift", v])
      exact q (.un .lift t) _ c' m' _ ((b4.trans b').trans (.of_same g5)) (g5 _ _ hst') hc' ⟨p, v, rfl, upd_same, w.mono (.of_same g5)⟩ (.un g) (kd_lift kk)
    refine ⟨_, rfl, rfl, _, rfl, ite2 (fun cr => ?_) fun cr => ?_⟩
    · have hy' : y = "run" := V.str.inj (of_decide_eq_true cr)
      subst hy'
      have hkl : k = false ∧ l = false ∧ fr = true := by
        rcases wok with z | ⟨k1, z⟩ | ⟨_, z⟩ | ⟨k0, l1, z⟩ | ⟨k0, l0, f1, z⟩
        · exact absurd z (by decide +kernel)
        · exact absurd z (by decide +kernel)
        · exact absurd z (by decide +kernel)
        · exact absurd z (by decide +kernel)
        · exact ⟨k0, l0, f1⟩
      obtain ⟨rfl, rfl, rfl⟩ := hkl
      refine ⟨_, rfl, _, rfl, _, rfl, _, rfl, _, _, rfl, rfl, _, rfl, a, st, sa, false, true, true, sc, ws, c + 1, m + 1, ((e' + 1 : Nat) : Int) - 1, e', rfl, hI4, st4, by omega, hS4, hA4, ⟨hok, hlv⟩, by omega, by omega, by omega, (fun z => nomatch z), fun t v c' m' H' b' hst' hc' w g kk => ⟨sz 2, fun p n => ?_⟩⟩
      have g5 := same_new n (.tup [.str "run", v])
      exact q (.un .run t) _ c' m' _ ((b4.trans b').trans (.of_same g5)) (g5 _ _ hst') hc' ⟨p, v, rfl, upd_same, w.mono (.of_same g5)⟩ (.un g) (kd_run kk)
    have nq : y ≠ "quote" := fun z => cq (by rw [z]; exact decide_eq_true rfl)
    have nh : y ≠ "hole" := fun z => ch (by rw [z]; exact decide_eq_true rfl)
    have nl : y ≠ "lift" := fun z => cl (by rw [z]; exact decide_eq_true rfl)
    have nr : y ≠ "run" := fun z => cr (by rw [z]; exact decide_eq_true rfl)
    have hyy : y = "when" ∨ (k = false ∧ ∃ o : Bin, y = o.word) := by
      rcases wok with z | ⟨k1, z⟩ | ⟨k0, z⟩ | ⟨k0, l1, z⟩ | ⟨k0, l0, f1, z⟩
      · simp only [List.mem_cons, List.not_mem_nil, or_false, not_or] at z cw'
        rcases z with z | z | z | z | z
        · exact absurd z cw'.1
        · exact absurd z cw'.2.1
        · exact absurd z cw'.2.2.1
        · exact .inl z
        · exact absurd z cw'.2.2.2.1
      · simp only [List.mem_cons, List.not_mem_nil, or_false] at z
        rcases z with z | z
        · exact absurd z nq
        · exact absurd z nl
      · simp only [List.mem_cons, List.not_mem_nil, or_false] at z
        rcases z with z | z | z
        · exact .inr ⟨k0, .sum, z⟩
        · exact .inr ⟨k0, .product, z⟩
        · exact .inr ⟨k0, .less, z⟩
      · simp only [List.mem_cons, List.not_mem_nil, or_false, not_or] at z cw'
        rcases z with z | z
        · exact absurd z nh
        · exact absurd z cw'.2.2.2.2
      · exact absurd z nr
    refine ⟨_, rfl, _, rfl, _, rfl, _, rfl, _, rfl, _, _, rfl, rfl, _, rfl, a, st, sa, l, false, fr, sc, ws, c + 1, m + 1, ((e' + 1 : Nat) : Int) - 1, e', rfl, hI4, st4, by omega, hS4, hA4, ⟨hok, hlv⟩, by omega, by omega, by omega, (fun _ => rfl), fun t1 v1 c5 m5 H5 b5 st5 hc5 w1 g1 k1 => ?_⟩
    have hS5 := b5 _ _ nsa hS4
    have hA5 := hA4.mono (.of_but b5 st4)
    have hI5 := hI4.but st4 b5
    refine ⟨_, rfl, rfl, _, rfl, ite2 (fun cn => ?_) fun cn => ?_⟩
    · have ny : y ≠ "when" := fun z => by rw [z] at cn; exact absurd cn (by decide +kernel)
      obtain ⟨rfl, o, rfl⟩ := hyy.resolve_left ny
      refine ⟨_, rfl, _, rfl, _, rfl, _, rfl, _, rfl, _, rfl, _, rfl, _, _, rfl, rfl, _, rfl, a, st, sa, l, false, fr, sc, ws, c5, m5, ((e' + 1 : Nat) : Int) - 1, e', rfl, hI5, st5, hc5, hS5, hA5, ⟨hok, hlv⟩, by omega, by omega, by omega, (fun _ => rfl), fun t2 v2 c6 m6 H6 b6 st6 hc6 w2 g2 k2 => ⟨sz 3, fun p n => ?_⟩⟩
      have g5 := same_new n (.tup [.str o.word, v1, v2])
      refine q (.bin o t1 t2) _ c6 m6 _ ((b4.trans b5).trans (b6.trans (.of_same g5))) (g5 _ _ st6) hc6 ⟨p, v1, v2, rfl, upd_same, (w1.mono (.of_but b6 st5)).mono (.of_same g5), w2.mono (.of_same g5)⟩ (.bin g1 g2) ?_
      simp only [kd, k1, k2, Kd.want, Kd.and, if_true]
    · have hw : y = "when" := by
        rcases hyy with z | ⟨_, o, z⟩
        · exact z
        · exfalso
          refine cn ?_
          rw [z]
          cases o <;> decide +kernel
      subst hw
      refine ⟨_, rfl, _, rfl, _, rfl, _, rfl, _, rfl, _, rfl, _, _, rfl, rfl, _, rfl, a, st, sa, l, k, fr, sc, ws, c5, m5, ((e' + 1 : Nat) : Int) - 1, e', rfl, hI5, st5, hc5, hS5, hA5, ⟨hok, hlv⟩, by omega, by omega, by omega, hlk, fun t2 v2 c6 m6 H6 b6 st6 hc6 w2 g2 k2 => ?_⟩
      refine ⟨_, rfl, _, rfl, _, rfl, _, rfl, _, rfl, _, rfl, _, rfl, _, rfl, _, _, rfl, rfl, _, rfl, a, st, sa, l, k, fr, sc, ws, c6, m6, ((e' + 1 : Nat) : Int) - 1, e', rfl, hI5.but st5 b6, st6, hc6, b6 _ _ (hA5.off hS5 st5) hS5, hA5.mono (.of_but b6 st5), ⟨hok, hlv⟩, by omega, by omega, by omega, hlk, fun t3 v3 c7 m7 H7 b7 st7 hc7 w3 g3 k3 => ⟨sz 4, fun p n => ?_⟩⟩
      have g5 := same_new n (.tup [.str "when", v1, v2, v3])
      refine q (.cond t1 t2 t3) _ c7 m7 _ ((b4.trans b5).trans (b6.trans (b7.trans (.of_same g5)))) (g5 _ _ st7) hc7 ⟨p, v1, v2, v3, rfl, upd_same, ((w1.mono (.of_but b6 st5)).mono (.of_but b7 st6)).mono (.of_same g5), (w2.mono (.of_but b7 st6)).mono (.of_same g5), w3.mono (.of_same g5)⟩ (.cond g1 g2 g3) ?_
      simp only [kd, k1, k2, k3, Kd.want, Kd.and, if_true]
end

section
variable {P : Program} {w : World} {K : PySem.W.Frag} {mg : Str → Option Value} {base : Heap} {f f1 f2 f3 f4 f5 f6 f7 f8 : Addr} {fd fd1 fd2 fd3 fd4 fd5 fd6 fd7 fd8 : FuncData}
theorem extV {H : Hp} {sc : Sc} {ws : List V} (hA : ScAt H sc ws) (x : Str) (l k : Bool) {pa pb pc pd : Addr} {o : HO} (na : H pa = none) (nb : upd H pa (.tup [V.str (kindS k)]) pb = none)
    (nc : upd (upd H pa (.tup [V.str (kindS k)])) pb (.tup [.str x, .int (lvI l), .ref pa]) pc = none) (nd : upd (upd (upd H pa (.tup [V.str (kindS k)])) pb (.tup [.str x, .int (lvI l), .ref pa])) pc o pd = none) (o2 : HO) :
    Same H (upd (upd (upd (upd H pa (.tup [V.str (kindS k)])) pb (.tup [.str x, .int (lvI l), .ref pa])) pc o) pd o2) ∧ ScAt (upd (upd (upd (upd H pa (.tup [V.str (kindS k)])) pb (.tup [.str x, .int (lvI l), .ref pa])) pc o) pd o2) (sc ++ [(x, (⟨l, none, k⟩ : Ent))]) (ws ++ [.ref pb]) :=
  ext1 (u := (⟨l, none, k⟩ : Ent)) hA x na nb nc nd o2
theorem extF {H : Hp} {sc : Sc} {ws : List V} (hA : ScAt H sc ws) (x : Str) (l d k : Bool) {pa pb pc pd : Addr} {o : HO} (na : H pa = none) (nb : upd H pa (.tup [V.str (kindS d), V.str (kindS k)]) pb = none)
    (nc : upd (upd H pa (.tup [V.str (kindS d), V.str (kindS k)])) pb (.tup [.str x, .int (lvI l), .ref pa]) pc = none) (nd : upd (upd (upd H pa (.tup [V.str (kindS d), V.str (kindS k)])) pb (.tup [.str x, .int (lvI l), .ref pa])) pc o pd = none) (o2 : HO) :
    Same H (upd (upd (upd (upd H pa (.tup [V.str (kindS d), V.str (kindS k)])) pb (.tup [.str x, .int (lvI l), .ref pa])) pc o) pd o2) ∧ ScAt (upd (upd (upd (upd H pa (.tup [V.str (kindS d), V.str (kindS k)])) pb (.tup [.str x, .int (lvI l), .ref pa])) pc o) pd o2) (sc ++ [(x, (⟨l, some d, k⟩ : Ent))]) (ws ++ [.ref pb]) :=
  ext1 (u := (⟨l, some d, k⟩ : Ent)) hA x na nb nc nd o2
set_option maxHeartbeats 0 in
theorem ok_gbound {n j : Nat} (F : Fun K "_law_bound" "_law_bound" s_bound f fd) (T : Txt mg)
    (C_law_seen : Cal P w K mg base "_law_seen" ["_law_scope", "_law_level", "_law_kinds"] 1 (spSeen K) f1 fd1) (C_law_name : Cal P w K mg base "_law_name" ["_law_script", "_law_which"] 3 (spName K) f2 fd2) (C_law_number : Cal P w K mg base "_law_number" ["_law_number_here"] 1 spNumber f3 fd3)
    (C_law_twice : Cal P w K mg base "_law_twice" ["_law_script", "_law_state", "_law_scope", "_law_depth", "_law_number_here"] (4 + j + 1) (spTwice K n) f4 fd4) (C_law_term : Cal P w K mg base "_law_term" ["_law_script", "_law_state", "_law_level", "_law_kind", "_law_scope", "_law_depth", "_law_free"] (4 + j) (spTerm K n) f5 fd5) : FnOk P w K mg base CX0 (4 + j + 2) f fd ["_law_script", "_law_state", "_law_what", "_law_scope", "_law_depth", "_law_number_here"] (spGBound K n) := by
  refine F.ok sc_bound (fun vs H Q E h => ?_) (fun cdv A outer s H vs Q E hr h => ?_)
  · obtain ⟨a, st, sa, wa, y, l, k, fr, sc, ws, c, m, d, x, e, rfl, _⟩ := h
    rfl
  obtain ⟨a, st, sa, wa, y, l, k, fr, sc, ws, c, m, d, n0, e, rfl, hI, hst, hc, hW, hS, hA, ⟨hok, hlv⟩, hln, rfl, hen, x0, x1, hlk, hy, q⟩ := h
  have nsa := hA.off hS hst
  refine ⟨_, (pss_cons (ps_asg (pv 2) (pg_lst rfl (pgs_cons (pg_name (i := 6) sc_bound.nd rfl (Or.inl rfl)) (pgs_cons (pg_name (i := 7) sc_bound.nd rfl (Or.inl rfl)) (pgs_cons (pg_name (i := 8) sc_bound.nd rfl (Or.inl rfl)) (pgs_cons (pg_name (i := 9) sc_bound.nd rfl (Or.inl rfl)) pgs_nil))))))
      (pss_cons (ps_set (i := 10) sc_bound.nd rfl (Or.inl rfl) (pe_call C_law_name.ok (hr.mono (by first | decide | omega)) rfl C_law_name.m C_law_name.kp C_law_name.b .nil pass0 (pa_cons (pv 0) (pa_cons (pe_ix ix_list (pe_lst (pa_cons pe_int (pa_cons pe_int (pa_cons pe_int (pa_cons pe_int pa_nil))))) (pe_op op_mod (pv 5) pe_int) (fun _ _ => rfl)) pa_nil))))
      (pss_cons (ps_set (i := 11) sc_bound.nd rfl (Or.inl rfl) (pe_call C_law_name.ok (hr.mono (by first | decide | omega)) rfl C_law_name.m C_law_name.kp C_law_name.b .nil pass0 (pa_cons (pv 0) (pa_cons (pe_ix ix_list (pe_lst (pa_cons pe_int (pa_cons pe_int (pa_cons pe_int (pa_cons pe_int pa_nil))))) (pe_op op_mod (pe_op op_fdiv (pv 5) pe_int) pe_int) (fun _ _ => rfl)) pa_nil))))
      (pss_cons (ps_set (i := 12) sc_bound.nd rfl (Or.inl rfl) (pe_ix ix_list (pe_lst (pa_cons pe_str (pa_cons pe_str pa_nil))) (pe_op op_mul (pe_op op_mod (pe_op op_fdiv (pv 5) pe_int) pe_int) (pe_op op_sub pe_int (pv 7))) (fun _ _ => rfl)))
      (pss_cons (ps_set (i := 5) sc_bound.nd rfl (Or.inl rfl) (pe_op op_fdiv (pv 5) pe_int))
      (pss_cons (ps_if (pt_cmpR op_eq (pv 6) pe_str (nomark _)) (pss_cons (ps_set (i := 13) sc_bound.nd rfl (Or.inl rfl) (pe_tup (pa_cons pe_str (pa_cons (pe_call C_law_number.ok (hr.mono (by first | decide | omega)) rfl C_law_number.m C_law_number.kp C_law_number.b .nil pass0 (pa_cons (pe_op op_fdiv (pv 5) pe_int) pa_nil)) pa_nil))))
      (pss_cut (ps_if (pt_cmpR op_eq (pe_op op_mod (pe_op op_fdiv (pv 5) pe_int) pe_int) pe_int (nomark _)) (pss_one (ps_set (i := 13) sc_bound.nd rfl (Or.inl rfl) (pe_call C_law_term.ok (hr.mono (by first | decide | omega)) rfl C_law_term.m C_law_term.kp C_law_term.b .nil pass0 (pa_cons (pv 0) (pa_cons (pv 1) (pa_cons pe_int (pa_cons pe_str (pa_cons (pv 3) (pa_cons (pe_callB (call_max2 rfl) (by rfl) T.max (by decide +kernel) (pa_cons pe_int (pa_cons (pe_op op_sub (pv 4) pe_int) pa_nil))) (pa_cons pe_bl pa_nil)))))))))) pss_nil)
      (pss_cons (ps_set (i := 14) sc_bound.nd rfl (Or.inl rfl) (pe_op op_cat (pv 3) (pe_lst (pa_cons (pe_tup (pa_cons (pv 10) (pa_cons pe_int (pa_cons (pe_tup (pa_cons pe_str pa_nil)) pa_nil)))) (pa_cons (pe_tup (pa_cons (pv 11) (pa_cons pe_int (pa_cons (pe_tup (pa_cons pe_str pa_nil)) pa_nil)))) pa_nil)))))
      (pss_cut (ps_if (pt_cmpR op_eq (pe_op op_mod (pe_op op_fdiv (pv 5) pe_int) pe_int) pe_int (nomark _)) (pss_one (ps_set (i := 15) sc_bound.nd rfl (Or.inl rfl) (pe_call C_law_twice.ok (hr.mono (by first | decide | omega)) rfl C_law_twice.m C_law_twice.kp C_law_twice.b .nil pass0 (pa_cons (pv 0) (pa_cons (pv 1) (pa_cons (pv 14) (pa_cons (pe_callB (call_max2 rfl) (by rfl) T.max (by decide +kernel) (pa_cons pe_int (pa_cons (pe_op op_sub (pv 4) pe_int) pa_nil))) (pa_cons (pe_op op_fdiv (pv 5) pe_int) pa_nil)))))))) (pss_one (ps_set (i := 15) sc_bound.nd rfl (Or.inl rfl) (pe_call C_law_term.ok (hr.mono (by first | decide | omega)) rfl C_law_term.m C_law_term.kp C_law_term.b .nil pass0 (pa_cons (pv 0) (pa_cons (pv 1) (pa_cons pe_int (pa_cons pe_str (pa_cons (pv 14) (pa_cons (pe_callB (call_max2 rfl) (by rfl) T.max (by decide +kernel) (pa_cons pe_int (pa_cons (pe_op op_sub (pv 4) pe_int) pa_nil))) (pa_cons pe_bl pa_nil)))))))))))
      (pss_one (ps_ret (pe_tup (pa_cons pe_str (pa_cons (pv 10) (pa_cons (pv 13) (pa_cons (pe_tup (pa_cons pe_str (pa_cons (pe_tup (pa_cons pe_str (pa_cons (pv 11) (pa_cons (pe_tup (pa_cons pe_str (pa_cons (pe_tup (pa_cons pe_str (pa_cons (pv 10) pa_nil))) pa_nil))) (pa_cons (pe_tup (pa_cons pe_str (pa_cons (pv 15) pa_nil))) pa_nil))))) pa_nil))) pa_nil))))))))))) pss_nil)
      (pss_cons (ps_if (pt_cmpR op_eq (pv 6) pe_str (nomark _)) (pss_cons (ps_set (i := 13) sc_bound.nd rfl (Or.inl rfl) (pe_call C_law_term.ok (hr.mono (by first | decide | omega)) rfl C_law_term.m C_law_term.kp C_law_term.b .nil pass0 (pa_cons (pv 0) (pa_cons (pv 1) (pa_cons (pv 7) (pa_cons (pv 12) (pa_cons (pv 3) (pa_cons (pv 4) (pa_cons (pv 9) pa_nil)))))))))
      (pss_one (ps_ret (pe_tup (pa_cons pe_str (pa_cons (pv 10) (pa_cons (pv 13) (pa_cons (pe_call C_law_term.ok (hr.mono (by first | decide | omega)) rfl C_law_term.m C_law_term.kp C_law_term.b .nil pass0 (pa_cons (pv 0) (pa_cons (pv 1) (pa_cons (pv 7) (pa_cons (pv 8) (pa_cons (pe_op op_cat (pv 3) (pe_lst (pa_cons (pe_tup (pa_cons (pv 10) (pa_cons (pv 7) (pa_cons (pe_tup (pa_cons (pv 12) pa_nil)) pa_nil)))) pa_nil))) (pa_cons (pv 4) (pa_cons (pv 9) pa_nil)))))))) pa_nil)))))))) pss_nil)
      (pss_cons (ps_if (pt_cmpR op_eq (pv 6) pe_str (nomark _)) (pss_cons (ps_set (i := 16) sc_bound.nd rfl (Or.inl rfl) (pe_ix ix_list (pe_lst (pa_cons pe_int (pa_cons pe_int (pa_cons pe_int (pa_cons pe_int (pa_cons pe_int (pa_cons pe_int (pa_cons pe_int (pa_cons pe_int pa_nil))))))))) (pe_op op_mod (pe_op op_fdiv (pv 5) pe_int) pe_int) (fun _ _ => rfl)))
      (pss_cut (ps_if (pt_cmpR op_gt (pv 4) pe_int (nomark _)) (pss_one (ps_set (i := 16) sc_bound.nd rfl (Or.inl rfl) (pe_op op_mod (pv 16) pe_int))) pss_nil)
      (pss_cons (ps_set (i := 13) sc_bound.nd rfl (Or.inl rfl) (pe_call C_law_term.ok (hr.mono (by first | decide | omega)) rfl C_law_term.m C_law_term.kp C_law_term.b .nil pass0 (pa_cons (pv 0) (pa_cons (pv 1) (pa_cons (pv 7) (pa_cons (pv 8) (pa_cons (pv 3) (pa_cons (pv 4) (pa_cons (pv 9) pa_nil)))))))))
      (pss_cons (ps_set (i := 14) sc_bound.nd rfl (Or.inl rfl) (pe_op op_cat (pv 3) (pe_lst (pa_cons (pe_tup (pa_cons (pv 10) (pa_cons (pv 7) (pa_cons (pe_tup (pa_cons (pv 8) pa_nil)) pa_nil)))) pa_nil))))
      (pss_one (ps_ret (pe_tup (pa_cons pe_str (pa_cons (pv 16) (pa_cons (pv 10) (pa_cons (pv 13) (pa_cons (pe_call C_law_term.ok (hr.mono (by first | decide | omega)) rfl C_law_term.m C_law_term.kp C_law_term.b .nil pass0 (pa_cons (pv 0) (pa_cons (pv 1) (pa_cons (pv 7) (pa_cons (pv 8) (pa_cons (pv 14) (pa_cons (pv 4) (pa_cons (pv 9) pa_nil)))))))) pa_nil)))))))))))) pss_nil)
      (pss_cons (ps_set (i := 17) sc_bound.nd rfl (Or.inl rfl) (pe_call C_law_seen.ok (hr.mono (by first | decide | omega)) rfl C_law_seen.m C_law_seen.kp C_law_seen.b .nil pass0 (pa_cons (pv 3) (pa_cons (pv 7) (pa_cons (pe_lst (pa_cons (pe_tup (pa_cons pe_str (pa_cons (pv 8) pa_nil))) (pa_cons (pe_tup (pa_cons pe_str (pa_cons (pv 8) pa_nil))) pa_nil))) pa_nil)))))
      (pss_cons (ps_if (pt_k (PW.pt (pw_and (pt_cmpR op_eq (pv 6) pe_str (nomark _)) (pw_and1 (pt_cmpR (op_neD hr.units) (pv 17) (pe_lst pa_nil) (nomark _)))))) (pss_cons (ps_set (i := 13) sc_bound.nd rfl (Or.inl rfl) (pe_ix ix_list (pv 17) (pe_op op_mod (pe_op op_fdiv (pv 5) pe_int) (pe_callB call_len_seq (by rfl) T.len PySem.boot_len (pa_cons (pv 17) pa_nil))) (fun _ _ => rfl)))
      (pss_one (ps_ret (pe_tup (pa_cons pe_str (pa_cons (pe_ix ix_tup (pv 13) pe_int (fun _ _ => rfl)) (pa_cons (pe_call C_law_term.ok (hr.mono (by first | decide | omega)) rfl C_law_term.m C_law_term.kp C_law_term.b .nil pass0 (pa_cons (pv 0) (pa_cons (pv 1) (pa_cons (pv 7) (pa_cons (pe_ix ix_tup (pe_ix ix_tup (pv 13) pe_int (fun _ _ => rfl)) pe_int (fun _ _ => rfl)) (pa_cons (pv 3) (pa_cons (pv 4) (pa_cons (pv 9) pa_nil)))))))) pa_nil))))))) pss_nil)
      (pss_cons (ps_set (i := 18) sc_bound.nd rfl (Or.inl rfl) (pe_ix ix_list (pe_lst (pa_cons pe_str (pa_cons pe_str pa_nil))) (pe_op op_mul (pe_op op_mod (pe_op op_fdiv (pv 5) pe_int) pe_int) (pe_op op_sub pe_int (pv 7))) (fun _ _ => rfl)))
      (pss_cons (ps_set (i := 19) sc_bound.nd rfl (Or.inl rfl) (pe_call C_law_term.ok (hr.mono (by first | decide | omega)) rfl C_law_term.m C_law_term.kp C_law_term.b .nil pass0 (pa_cons (pv 0) (pa_cons (pv 1) (pa_cons (pv 7) (pa_cons (pv 18) (pa_cons (pe_op op_cat (pv 3) (pe_lst (pa_cons (pe_tup (pa_cons (pv 10) (pa_cons (pv 7) (pa_cons (pe_tup (pa_cons (pv 12) pa_nil)) pa_nil)))) pa_nil))) (pa_cons (pv 4) (pa_cons pe_bl pa_nil)))))))))
      (pss_cons (ps_set (i := 14) sc_bound.nd rfl (Or.inl rfl) (pe_op op_cat (pv 3) (pe_lst (pa_cons (pe_tup (pa_cons (pv 11) (pa_cons (pv 7) (pa_cons (pe_tup (pa_cons (pv 12) (pa_cons (pv 18) pa_nil))) pa_nil)))) pa_nil))))
      (pss_one (ps_ret (pe_tup (pa_cons pe_str (pa_cons (pv 11) (pa_cons (pv 10) (pa_cons (pv 12) (pa_cons (pv 19) (pa_cons (pe_call C_law_term.ok (hr.mono (by first | decide | omega)) rfl C_law_term.m C_law_term.kp C_law_term.b .nil pass0 (pa_cons (pv 0) (pa_cons (pv 1) (pa_cons (pv 7) (pa_cons (pv 8) (pa_cons (pv 14) (pa_cons (pv 4) (pa_cons (pv 9) pa_nil)))))))) pa_nil)))))))))))))))))))))), ?_⟩
  refine ⟨_, rfl, wa, _, rfl, SqL.of hW, rfl, _, _, rfl, _, _, rfl, _, _, rfl, _, _, rfl, rfl, ?_⟩
  -- the names
  refine ⟨_, rfl, sz 4, fun p1 n1 => ?_⟩
  have g1 := same_new n1 (.lst [V.int 0, .int 0, .int 1, .int 2])
  have h4 := mod_in n0 (n := 4) (by decide)
  obtain ⟨k0, hk0, ek0⟩ := at_int (ys := [0, 0, 1, 2]) h4.1 h4.2
  refine ⟨_, rfl, _, _, rfl, rfl, (by show (0 : Int) < _; decide), p1, _, _, _, rfl, rfl, SqL.of upd_same, ek0, a, _, rfl, hI.same g1, fun nx H2 e2 hnx => ?_⟩
  have s2 := g1.trans e2
  refine ⟨_, rfl, sz 4, fun p2 n2 => ?_⟩
  have g2 := same_new n2 (.lst [V.int 1, .int 2, .int 1, .int 0])
  have h5 := mod_in (n0 / 4) (n := 4) (by decide)
  obtain ⟨k1, hk1, ek1⟩ := at_int (ys := [1, 2, 1, 0]) h5.1 h5.2
  refine ⟨_, rfl, _, _, rfl, rfl, ⟨by decide, by decide⟩, _, _, rfl, rfl, (by show (0 : Int) < _; decide), p2, _, _, _, rfl, rfl, SqL.of upd_same, ek1, a, _, rfl, hI.same (s2.trans g2), fun nf H3 e3 hnf => ?_⟩
  have s3 := s2.trans (g2.trans e3)
  -- the other kind
  obtain ⟨ok, hok0, eok⟩ : ∃ ok : Bool, (l = true → ok = false) ∧ atI [V.str "number", V.str "piece"] (n0 / 16 % 2 * (1 - lvI l)) = some (.str (kindS ok)) := by
    have h2 := mod_in (n0 / 16) (n := 2) (by decide)
    cases l with
    | true => exact ⟨false, fun _ => rfl, atI_n (n := 0) (by show n0 / 16 % 2 * (1 - 1) = 0; omega) rfl⟩
    | false =>
      have e : n0 / 16 % 2 * (1 - lvI false) = n0 / 16 % 2 := by show n0 / 16 % 2 * (1 - 0) = _; omega
      rw [e]
      by_cases z : n0 / 16 % 2 = 0
      · exact ⟨false, (fun z => nomatch z), atI_n (n := 0) (by omega) rfl⟩
      · exact ⟨true, (fun z => nomatch z), atI_n (n := 1) (by omega) rfl⟩
  refine ⟨sz 2, fun p4 n4 => ?_⟩
  have g4 := same_new n4 (.lst [V.str "number", .str "piece"])
  refine ⟨_, rfl, _, _, rfl, rfl, ⟨by decide, by decide⟩, _, _, rfl, rfl, (by show (0 : Int) < _; decide), _, rfl, _, _, rfl, rfl, _, _, rfl, rfl, .inl ⟨by omega, by omega⟩, p4, _, _, _, rfl, rfl, SqL.of upd_same, eok, ?_⟩
  have s4 := s3.trans g4
  generalize upd H3 p4 (.lst [V.str "number", .str "piece"]) = H4 at s4 ⊢
  refine ⟨_, rfl, _, _, rfl, rfl, ⟨by decide, by decide⟩, ?_⟩
  dsimp only
  have y0 : 0 ≤ n0 / 2 ∧ n0 / 2 < 2147483629 := by omega
  generalize n0 / 2 = n1' at y0 ⊢
  have hI4 := hI.same s4
  have st4 := s4 _ _ hst
  have hS4 := s4 _ _ hS
  have hA4 := hA.mono (.of_same s4)
  have b4 : But st H H4 := .of_same s4
  clear g1 e2 s2 g2 e3 s3 g4
  refine ⟨_, rfl, rfl, _, rfl, ite2 (fun ck => ?_) fun ck => ?_⟩
  · have hyk : y = "kept" := V.str.inj (of_decide_eq_true ck)
    have hlk2 : l = true ∧ k = false := by
      rcases hy with z | z | z | z | ⟨_, z⟩
      · rw [hyk] at z; exact absurd z (by decide +kernel)
      · rw [hyk] at z; exact absurd z (by decide +kernel)
      · rw [hyk] at z; exact absurd z (by decide +kernel)
      · rw [hyk] at z; exact absurd z (by decide +kernel)
      · exact z
    obtain ⟨rfl, rfl⟩ := hlk2
    refine ⟨_, rfl, _, _, rfl, rfl, ⟨by decide, by decide⟩, n1' / 18, rfl, by omega, by omega, fun cn H5 e5 _ => ⟨sz 2, fun p5 n5 => ?_⟩⟩
    have g5 := e5.trans (same_new n5 (.tup [.str "num", .int cn]))
    have w5 : TmAt (upd H5 p5 (.tup [.str "num", .int cn])) (.num cn) (.ref p5) := ⟨p5, rfl, upd_same⟩
    generalize upd H5 p5 (.tup [.str "num", .int cn]) = H6 at g5 w5 ⊢
    have st6 := g5 _ _ st4
    have hI6 := hI4.same g5
    have hS6 := g5 _ _ hS4
    have hA6 := hA4.mono (.of_same g5)
    have b6 := b4.trans (.of_same g5)
    have mx1 : (if (e : Int) - 1 > 0 then (e : Int) - 1 else 0) = ((e - 1 : Nat) : Int) := by split <;> omega
    have mx2 : (if (e : Int) - 2 > 0 then (e : Int) - 2 else 0) = ((e - 2 : Nat) : Int) := by split <;> omega
    refine ⟨fun σ' H' => ∃ (t1 : Tm) (v1 : V) (c1 m1 : Int), σ' = [some (.ref a), some (.ref st), some (.ref wa), some (.ref sa), some (.int e), some (.int n1'), some (.str y), some (.int (lvI true)), some (.str (kindS false)), some (.bl fr), some (.str nx), some (.str nf), some (.str (kindS ok)), some v1, none, none, none, none, none, none] ∧
      But st H6 H' ∧ H' st = some (.lst [.int c1, .int m1]) ∧ 0 ≤ c1 ∧ TmAt H' t1 v1 ∧ Grown t1 e ∧ kd t1 true (look sc) fr = .ok false, ?_, ?_⟩
    · refine ⟨_, rfl, _, _, rfl, rfl, ⟨by decide, by decide⟩, _, _, rfl, rfl, (by show (0 : Int) < _; decide), rfl, _, rfl, ite2 (fun _ => ?_) fun _ => ?_⟩
      · refine ⟨_, rfl, _, rfl, _, rfl, _, rfl, _, _, rfl, rfl, _, _, rfl, ?_⟩
        exact ⟨a, st, sa, true, false, false, sc, ws, c, m, _, e - 1, rfl, hI6, st6, hc, hS6, hA6, ⟨hok, hlv⟩, by omega, mx1, by omega, fun _ => rfl, fun t v c' m' H' b' hst' hc' w g kk => ⟨t, v, c', m', rfl, b', hst', hc', w, g.mono (by omega), (kd_free1 t _ fr false).trans kk⟩⟩
      · exact ⟨.num cn, _, c, m, rfl, .refl _ _, st6, hc, w5, .num cn e, rfl⟩
    rintro σ' H7 ⟨t1, v1, c1, m1, rfl, b7, st7, hc7, w7, gr1, kd1⟩
    have hS7 := b7 _ _ nsa hS6
    have hA7 := hA6.mono (.of_but b7 st6)
    have hI7 := hI6.but st6 b7
    refine ⟨_, rfl, _, rfl, sz 1, fun pa na => ⟨sz 3, fun pb nb => ⟨_, rfl, sz 1, fun pc nc => ⟨sz 3, fun pd nd => ⟨sz 2, fun pe ne => ⟨sa, pe, ws, [V.ref pb, V.ref pd], rfl, rfl, ?_, upd_same, sz _ (by have := hA7.len; show ws.length + 2 ≤ _; omega), fun pf nf' => ?_⟩⟩⟩⟩⟩⟩
    · exact same_new ne _ _ _ (same_new nd _ _ _ (same_new nc _ _ _ (same_new nb _ _ _ (same_new na _ _ _ hS7))))
    have ga := same_new na (.tup [.str "number"])
    have gb := same_new nb (.tup [.str nx, .int 1, .ref pa])
    have gc := same_new nc (.tup [.str "piece"])
    have gd := same_new nd (.tup [.str nf, .int 0, .ref pc])
    have ge := same_new ne (.lst [.ref pb, .ref pd])
    have gf := same_new nf' (.lst (ws ++ [.ref pb, .ref pd]))
    have gcf := gc.trans (gd.trans (ge.trans gf))
    have gaf := ga.trans (gb.trans gcf)
    have u1 : EntAt _ (nx, (⟨true, none, false⟩ : Ent)) (.ref pb) := ⟨pb, pa, rfl, gcf _ _ upd_same, gcf _ _ (gb _ _ upd_same)⟩
    have u2 : EntAt _ (nf, (⟨false, none, true⟩ : Ent)) (.ref pd) := ⟨pd, pc, rfl, gf _ _ (ge _ _ upd_same), gf _ _ (ge _ _ (gd _ _ upd_same))⟩
    have hSc : ScAt _ (sc ++ [(nx, ⟨true, none, false⟩), (nf, ⟨false, none, true⟩)]) (ws ++ [.ref pb, .ref pd]) := (hA7.mono (.of_same gaf)).app ⟨u1, u2, True.intro⟩
    have hpf := upd_same (H := upd (upd (upd (upd (upd H7 pa (.tup [.str "number"])) pb (.tup [.str nx, .int 1, .ref pa])) pc (.tup [.str "piece"])) pd (.tup [.str nf, .int 0, .ref pc])) pe (.lst [.ref pb, .ref pd])) (a := pf) (o := .lst (ws ++ [.ref pb, .ref pd]))
    generalize upd (upd (upd (upd (upd (upd H7 pa (.tup [.str "number"])) pb (.tup [.str nx, .int 1, .ref pa])) pc (.tup [.str "piece"])) pd (.tup [.str nf, .int 0, .ref pc])) pe (.lst [.ref pb, .ref pd])) pf (.lst (ws ++ [.ref pb, .ref pd])) = H8 at gaf hSc hpf ⊢
    have hgd : Sc.Good (sc ++ [(nx, ⟨true, none, false⟩), (nf, ⟨false, none, true⟩)]) := by
      have z := Sc.Good.val (l := false) (k := true) (Sc.Good.val (l := true) (k := false) ⟨hok, hlv⟩ hnx) hnf
      rw [List.append_assoc] at z
      exact z
    have hlk2 : look (sc ++ [(nx, ⟨true, none, false⟩), (nf, ⟨false, none, true⟩)]) = ((look sc).set nx ⟨true, none, false⟩).set nf ⟨false, none, true⟩ := by
      have z := look_snoc (sc ++ [(nx, ⟨true, none, false⟩)]) nf ⟨false, none, true⟩
      rw [List.append_assoc, look_snoc] at z
      exact z
    have hln2 : (sc ++ [(nx, (⟨true, none, false⟩ : Ent)), (nf, ⟨false, none, true⟩)]).length = sc.length + 2 := List.length_append
    generalize sc ++ [(nx, (⟨true, none, false⟩ : Ent)), (nf, ⟨false, none, true⟩)] = sc2 at hSc hgd hlk2 hln2
    generalize ws ++ [V.ref pb, V.ref pd] = ws2 at hSc hpf
    have st8 := gaf _ _ st7
    have hI8 := hI7.same gaf
    have w8 := w7.mono (.of_same gaf)
    refine ⟨fun σ' H' => ∃ (t2 : Tm) (v2 : V) (c2 m2 : Int), σ' = [some (.ref a), some (.ref st), some (.ref wa), some (.ref sa), some (.int e), some (.int n1'), some (.str y), some (.int (lvI true)), some (.str (kindS false)), some (.bl fr), some (.str nx), some (.str nf), some (.str (kindS ok)), some v1, some (.ref pf), some v2, none, none, none, none] ∧
      But st H8 H' ∧ H' st = some (.lst [.int c2, .int m2]) ∧ 0 ≤ c2 ∧ TmAt H' t2 v2 ∧ ((∃ e', e' = e - 2 ∧ Inner t2 e') ∨ Grown t2 (e - 1)) ∧ kd t2 true (look sc2) false = .ok false, ?_, ?_⟩
    · refine ⟨_, rfl, _, _, rfl, rfl, ⟨by decide, by decide⟩, _, _, rfl, rfl, (by show (0 : Int) < _; decide), rfl, _, rfl, ite2 (fun _ => ?_) fun _ => ?_⟩
      · refine ⟨_, rfl, _, rfl, _, rfl, _, rfl, _, _, rfl, rfl, _, _, rfl, _, rfl, _, _, rfl, rfl, ⟨by decide, by decide⟩, ?_⟩
        exact ⟨a, st, pf, sc2, ws2, c1, m1, _, _, e - 2, rfl, hI8, st8, hc7, hpf, hSc, hgd, by omega, mx2, by omega, fun t v c' m' H' b' hst' hc' w g kk => ⟨t, v, c', m', rfl, b', hst', hc', w, .inl ⟨e - 2, rfl, g⟩, kk false⟩⟩
      · refine ⟨_, rfl, _, rfl, _, rfl, _, rfl, _, _, rfl, rfl, _, _, rfl, ?_⟩
        exact ⟨a, st, pf, true, false, false, sc2, ws2, c1, m1, _, e - 1, rfl, hI8, st8, hc7, hpf, hSc, hgd, by omega, mx1, by omega, fun _ => rfl, fun t v c' m' H' b' hst' hc' w g kk => ⟨t, v, c', m', rfl, b', hst', hc', w, .inr g, kk⟩⟩
    rintro σ' H9 ⟨t2, v2, c2, m2, rfl, b9, st9, hc9, w9, gr2, kd2⟩
    have w89 := w8.mono (.of_but b9 st8)
    refine ⟨_, rfl, _, rfl, _, rfl, _, rfl, sz 2, fun q1 k1 => ⟨sz 2, fun q2 k2 => ⟨_, rfl, sz 2, fun q3 k3 => ⟨sz 4, fun q4 k4 => ⟨sz 2, fun q5 k5 => ⟨sz 4, fun q6 k6 => ?_⟩⟩⟩⟩⟩⟩
    have r1 := same_new k1 (.tup [.str "name", .str nx])
    have r2 := same_new k2 (.tup [.str "quote", .ref q1])
    have r3 := same_new k3 (.tup [.str "quote", v2])
    have r4 := same_new k4 (.tup [.str "let", .str nf, .ref q2, .ref q3])
    have r5 := same_new k5 (.tup [.str "hole", .ref q4])
    have r6 := same_new k6 (.tup [.str "let", .str nx, v1, .ref q5])
    have r46 := r4.trans (r5.trans r6)
    have r16 := r1.trans (r2.trans (r3.trans r46))
    refine q (.letx nx t1 (.un .hole (.letx nf (.un .quote (.name nx)) (.un .quote t2)))) _ c2 m2 _ (b6.trans (b7.trans ((But.of_same gaf).trans (b9.trans (.of_same r16))))) (r16 _ _ st9) hc9 ?_ (.kept hnx hnf gr1 gr2) ?_
    · exact ⟨q6, _, _, rfl, upd_same, w89.mono (.of_same r16), q5, _, rfl, r6 _ _ upd_same, q4, _, _, rfl, r6 _ _ (r5 _ _ upd_same), ⟨q2, _, rfl, r46 _ _ (r3 _ _ upd_same), q1, rfl, r46 _ _ (r3 _ _ (r2 _ _ upd_same))⟩, q3, _, rfl, r46 _ _ upd_same, w9.mono (.of_same r16)⟩
    · show Kd.and (kd t1 true (look sc) fr) (fun k => kd (.un .hole (.letx nf (.un .quote (.name nx)) (.un .quote t2))) true ((look sc).set nx ⟨true, none, k⟩) fr) = .ok false
      rw [kd1]
      refine kd_hole ?_ fr
      show Kd.and (kd (.un .quote (.name nx)) false ((look sc).set nx ⟨true, none, false⟩) false) (fun k => kd (.un .quote t2) false (((look sc).set nx ⟨true, none, false⟩).set nf ⟨false, none, k⟩) false) = .ok true
      rw [kd_quote (kd_name (u := ⟨true, none, false⟩) (if_pos rfl) rfl rfl false) false]
      refine kd_quote ?_ false
      rw [← hlk2]
      exact kd2
  · have nk : y ≠ "kept" := fun z => ck (by rw [z]; exact decide_eq_true rfl)
    have hy4 : y = "let" ∨ y = "turns" ∨ y = "def" ∨ y = "use" := by
      rcases hy with z | z | z | z | ⟨z, _⟩
      · exact .inl z
      · exact .inr (.inl z)
      · exact .inr (.inr (.inl z))
      · exact .inr (.inr (.inr z))
      · exact absurd z nk
    refine ⟨_, rfl, rfl, _, rfl, ite2 (fun cl => ?_) fun cl => ?_⟩
    · -- let
      refine ⟨_, rfl, _, rfl, _, rfl, _, rfl, _, rfl, _, rfl, _, rfl, a, st, sa, l, ok, fr, sc, ws, c, m, _, e, rfl, hI4, st4, hc, hS4, hA4, ⟨hok, hlv⟩, by omega, rfl, hen, hok0, fun t1 v1 c1 m1 H5 b5 st5 hc5 w1 g1 k1 => ?_⟩
      have hS5 := b5 _ _ nsa hS4
      have hA5 := hA4.mono (.of_but b5 st4)
      have hI5 := hI4.but st4 b5
      refine ⟨_, rfl, _, rfl, _, rfl, _, rfl, _, rfl, _, rfl, _, rfl, _, rfl, _, rfl, _, rfl, sz 1, fun pa na => ⟨sz 3, fun pb nb => ⟨sz 1, fun pc nc => ⟨sa, pc, ws, [V.ref pb], rfl, rfl, ?_, upd_same, sz _ (by have := hA5.len; show ws.length + 1 ≤ _; omega), fun pd nd => ?_⟩⟩⟩⟩
      · exact same_new nc _ _ _ (same_new nb _ _ _ (same_new na _ _ _ hS5))
      obtain ⟨gx, hSc⟩ := extV hA5 nx l ok na nb nc nd (.lst (ws ++ [.ref pb]))
      have hpd : upd (upd (upd (upd H5 pa (.tup [V.str (kindS ok)])) pb (.tup [.str nx, .int (lvI l), .ref pa])) pc (.lst [V.ref pb])) pd (.lst (ws ++ [V.ref pb])) pd = some (.lst (ws ++ [.ref pb])) := upd_same
      generalize upd (upd (upd (upd H5 pa (.tup [V.str (kindS ok)])) pb (.tup [.str nx, .int (lvI l), .ref pa])) pc (.lst [V.ref pb])) pd (.lst (ws ++ [V.ref pb])) = Hx at gx hSc hpd ⊢
      clear na nb nc nd
      refine ⟨_, rfl, _, rfl, a, st, pd, l, k, fr, sc ++ [(nx, ⟨l, none, ok⟩)], ws ++ [.ref pb], c1, m1, _, e, rfl, hI5.same gx, gx _ _ st5, hc5, hpd, hSc, Sc.Good.val ⟨hok, hlv⟩ hnx, by rw [List.length_append]; show sc.length + 1 + _ ≤ _; omega, rfl, hen, hlk, fun t2 v2 c2 m2 H6 b6 st6 hc6 w2 g2 k2 => ⟨sz 4, fun p n => ?_⟩⟩
      have g5 := same_new n (.tup [.str "let", .str nx, v1, v2])
      refine q (.letx nx t1 t2) _ c2 m2 _ ((b4.trans b5).trans ((But.of_same gx).trans (b6.trans (.of_same g5)))) (g5 _ _ st6) hc6 ⟨p, v1, v2, rfl, upd_same, ((w1.mono (.of_same gx)).mono (.of_but b6 (gx _ _ st5))).mono (.of_same g5), w2.mono (.of_same g5)⟩ (.letx hnx g1 g2) ?_
      rw [look_snoc] at k2
      show Kd.and (kd t1 l (look sc) fr) (fun k => kd t2 l ((look sc).set nx ⟨l, none, k⟩) fr) = .ok k
      rw [k1]
      exact k2
    have nl : y ≠ "let" := fun z => cl (by rw [z]; exact decide_eq_true rfl)
    refine ⟨_, rfl, rfl, _, rfl, ite2 (fun ct => ?_) fun ct => ?_⟩
    · -- turns
      refine ⟨sz 8, fun p5 n5 => ?_⟩
      have g5 := same_new n5 (.lst [V.int 0, .int 1, .int 2, .int 3, .int 2, .int 3, .int 1, .int 9])
      have h8 := mod_in (n1' / 18) (n := 8) (by decide)
      obtain ⟨k8, hk8, ek8⟩ := at_int (ys := [0, 1, 2, 3, 2, 3, 1, 9]) h8.1 h8.2
      have hk9 : 0 ≤ k8 ∧ k8 ≤ 9 := by
        simp only [List.mem_cons, List.not_mem_nil, or_false] at hk8
        omega
      refine ⟨_, rfl, _, _, rfl, rfl, ⟨by decide, by decide⟩, _, _, rfl, rfl, (by show (0 : Int) < _; decide), p5, _, _, _, rfl, rfl, SqL.of upd_same, ek8, ?_⟩
      generalize upd H4 p5 (.lst [V.int 0, .int 1, .int 2, .int 3, .int 2, .int 3, .int 1, .int 9]) = H5 at g5 ⊢
      refine ⟨fun σ' H' => H5 = H' ∧ ∃ mn : Int, (0 ≤ mn ∧ mn ≤ 9) ∧ σ' = [some (.ref a), some (.ref st), some (.ref wa), some (.ref sa), some (.int e), some (.int n1'), some (.str y), some (.int (lvI l)), some (.str (kindS k)), some (.bl fr), some (.str nx), some (.str nf), some (.str (kindS ok)), none, none, none, some (.int mn), none, none, none], ?_, ?_⟩
      · refine ⟨_, rfl, _, _, rfl, rfl, _, rfl, ite2 (fun _ => ?_) fun _ => ⟨rfl, k8, hk9, rfl⟩⟩
        refine ⟨_, rfl, _, _, rfl, rfl, (by show (0 : Int) < _; decide), rfl, k8 % 4, by omega, rfl⟩
      rintro σ' _ ⟨rfl, mn, hmn, rfl⟩
      have hS5 := g5 _ _ hS4
      have hA5 := hA4.mono (.of_same g5)
      have st5 := g5 _ _ st4
      have hI5 := hI4.same g5
      refine ⟨_, rfl, _, rfl, _, rfl, _, rfl, _, rfl, _, rfl, _, rfl, a, st, sa, l, k, fr, sc, ws, c, m, _, e, rfl, hI5, st5, hc, hS5, hA5, ⟨hok, hlv⟩, by omega, rfl, hen, hlk, fun t1 v1 c1 m1 H6 b6 st6 hc6 w1 g1 k1 => ?_⟩
      have hS6 := b6 _ _ nsa hS5
      have hA6 := hA5.mono (.of_but b6 st5)
      have hI6 := hI5.but st5 b6
      refine ⟨_, rfl, _, rfl, _, rfl, _, rfl, sz 1, fun pa na => ⟨sz 3, fun pb nb => ⟨sz 1, fun pc nc => ⟨sa, pc, ws, [V.ref pb], rfl, rfl, ?_, upd_same, sz _ (by have := hA6.len; show ws.length + 1 ≤ _; omega), fun pd nd => ?_⟩⟩⟩⟩
      · exact same_new nc _ _ _ (same_new nb _ _ _ (same_new na _ _ _ hS6))
      obtain ⟨gx, hSc⟩ := extV hA6 nx l k na nb nc nd (.lst (ws ++ [.ref pb]))
      have hpd : upd (upd (upd (upd H6 pa (.tup [V.str (kindS k)])) pb (.tup [.str nx, .int (lvI l), .ref pa])) pc (.lst [V.ref pb])) pd (.lst (ws ++ [V.ref pb])) pd = some (.lst (ws ++ [.ref pb])) := upd_same
      generalize upd (upd (upd (upd H6 pa (.tup [V.str (kindS k)])) pb (.tup [.str nx, .int (lvI l), .ref pa])) pc (.lst [V.ref pb])) pd (.lst (ws ++ [V.ref pb])) = Hx at gx hSc hpd ⊢
      clear na nb nc nd
      refine ⟨_, rfl, _, rfl, _, rfl, _, rfl, _, rfl, _, rfl, _, rfl, _, rfl, _, rfl, _, rfl, a, st, pd, l, k, fr, sc ++ [(nx, ⟨l, none, k⟩)], ws ++ [.ref pb], c1, m1, _, e, rfl, hI6.same gx, gx _ _ st6, hc6, hpd, hSc, Sc.Good.val ⟨hok, hlv⟩ hnx, by rw [List.length_append]; show sc.length + 1 + _ ≤ _; omega, rfl, hen, hlk, fun t2 v2 c2 m2 H7 b7 st7 hc7 w2 g2 k2 => ⟨sz 5, fun p n => ?_⟩⟩
      have g7 := same_new n (.tup [.str "turns", .int mn, .str nx, v1, v2])
      refine q (.turns mn nx t1 t2) _ c2 m2 _ (((b4.trans (.of_same g5)).trans b6).trans ((But.of_same gx).trans (b7.trans (.of_same g7)))) (g7 _ _ st7) hc7 ⟨p, v1, v2, rfl, upd_same, ((w1.mono (.of_same gx)).mono (.of_but b7 (gx _ _ st6))).mono (.of_same g7), w2.mono (.of_same g7)⟩ (.turns hmn hnx g1 g2) ?_
      rw [look_snoc] at k2
      show Kd.and (kd t1 l (look sc) fr) (fun k => (kd t2 l ((look sc).set nx ⟨l, none, k⟩) fr).want k) = .ok k
      rw [k1]
      show (kd t2 l ((look sc).set nx ⟨l, none, k⟩) fr).want k = .ok k
      rw [k2]
      exact if_pos rfl
    have nt : y ≠ "turns" := fun z => ct (by rw [z]; exact decide_eq_true rfl)
    -- use, def
    refine ⟨_, rfl, _, rfl, _, rfl, sz 2, fun p1 n1 => ⟨_, rfl, sz 2, fun p2 n2 => ⟨sz 2, fun p3 n3 => ?_⟩⟩⟩
    have g1 := same_new n1 (.tup [V.str "number", .str (kindS k)])
    have g2 := same_new n2 (.tup [V.str "piece", .str (kindS k)])
    have g3 := same_new n3 (.lst [.ref p1, .ref p2])
    have g := g1.trans (g2.trans g3)
    have kdp := sigs2_dp (K := K) (s := [false, k]) (t := [true, k]) (g3 _ _ (g2 _ _ (upd_same (H := H4) (a := p1) (o := .tup [V.str "number", .str (kindS k)])))) (g3 _ _ (upd_same (H := upd H4 p1 (.tup [V.str "number", .str (kindS k)])) (a := p2) (o := .tup [V.str "piece", .str (kindS k)]))) (upd_same (a := p3) (o := .lst [.ref p1, .ref p2]))
    refine ⟨sa, p3, l, sc, ws, [[false, k], [true, k]], rfl, g _ _ hS4, hA4.mono (.of_same g), hok, by omega, kdp, fun r es us H5 _ e5 hr5 hE hEl hEp => ?_⟩
    have g5 := g.trans e5
    have hS5 := g5 _ _ hS4
    have hA5 := hA4.mono (.of_same g5)
    have st5 := g5 _ _ st4
    have hI5 := hI4.same g5
    have ok1 : Sc.Ok es := fun e m => hok e (hEp e m).1
    refine ⟨fun b H' => Same H5 H' ∧ (b = true → y = "use" ∧ es ≠ []) ∧ (b = false → True), ?_, ?_⟩
    · refine ⟨_, rfl, rfl, _, rfl, ite2 (fun cu => ?_) fun _ => ⟨Same.refl _, (fun z => nomatch z), fun _ => True.intro⟩⟩
      exact ⟨_, rfl, Nat.zero_le _, seq_ne hE hr5 ok1 fun G gg => ⟨_, rfl, gg, fun z => ⟨V.str.inj (of_decide_eq_true cu), off_nil z⟩, fun _ => True.intro⟩⟩
    rintro b H6 ⟨g6, hb, _⟩
    have hS6 := g6 _ _ hS5
    have hA6 := hA5.mono (.of_same g6)
    have st6 := g6 _ _ st5
    have hI6 := hI5.same g6
    have hE6 := hE.mono (.of_same g6)
    have hr6 := g6 _ _ hr5
    have b6 := b4.trans (.of_same (g5.trans g6))
    cases b with
    | true =>
      obtain ⟨_, ne⟩ := hb rfl
      have hl := hE6.len
      have pos : (0 : Int) < (us.length : Int) := by
        have : es.length ≠ 0 := fun z => ne (List.length_eq_zero_iff.mp z)
        omega
      have hm := mod_in (n1' / 18) pos
      obtain ⟨⟨z, u⟩, p, q', he, ea, hp, hq⟩ := hE6.pick hm.1 hm.2
      obtain ⟨hz, hlz, hvz, hsg⟩ := hEp _ he
      obtain ⟨d, hd⟩ : ∃ d, u.sig = [d, k] := by
        simp only [List.mem_cons, List.not_mem_nil, or_false] at hsg
        rcases hsg with h | h
        · exact ⟨false, h⟩
        · exact ⟨true, h⟩
      obtain ⟨hdom, huk⟩ := sig_fn hd
      have hld : l = true → d = false := fun z => hlv _ hz (hvz.trans z) d hdom
      rw [show sigV (z, u).2.sig = sigV [d, k] from congrArg sigV hd] at hq
      refine iteT ⟨_, rfl, _, rfl, _, _, rfl, rfl, ⟨by decide, by decide⟩, _, rfl, r, _, rfl, .inl (SqL.of hr6), _, _, rfl, rfl, pos, r, _, _, _, rfl, rfl, SqL.of hr6, ea, ?_⟩
      refine ⟨_, rfl, p, _, _, _, rfl, rfl, SqT.of hp, atI_n (n := 0) rfl rfl, _, rfl, _, rfl, _, rfl, _, rfl, p, _, _, _, rfl, rfl, SqT.of hp, atI_n (n := 2) rfl rfl, q', _, _, _, rfl, rfl, SqT.of hq, atI_n (n := 0) rfl rfl, _, rfl, _, rfl, _, rfl, ?_⟩
      refine ⟨a, st, sa, l, d, fr, sc, ws, c, m, _, e, rfl, hI6, st6, hc, hS6, hA6, ⟨hok, hlv⟩, by omega, rfl, hen, hld, fun t1 v1 c1 m1 H7 b7 st7 hc7 w1 gr1 k1 => ⟨sz 3, fun p n => ?_⟩⟩
      have g7 := same_new n (.tup [.str "use", .str z, v1])
      refine q (.use z t1) _ c1 m1 _ (b6.trans (b7.trans (.of_same g7))) (g7 _ _ st7) hc7 ⟨p, v1, rfl, upd_same, w1.mono (.of_same g7)⟩ (.use (hok _ hz) gr1) ?_
      have hlz' : look sc z = some u := hlz
      have hvz' : u.lv = l := hvz
      simp only [kd, hlz', hdom, k1, Kd.want, Kd.and, if_true, huk]
      exact if_pos hvz'
    | false =>
      refine iteF ?_
      obtain ⟨wk, hwk, ewk⟩ : ∃ wk : Bool, (l = true → wk = false) ∧ atI [V.str "number", V.str "piece"] (n1' / 18 % 2 * (1 - lvI l)) = some (.str (kindS wk)) := by
        have h2 := mod_in (n1' / 18) (n := 2) (by decide)
        cases l with
        | true => exact ⟨false, fun _ => rfl, atI_n (n := 0) (by show n1' / 18 % 2 * (1 - 1) = 0; omega) rfl⟩
        | false =>
          have e : n1' / 18 % 2 * (1 - lvI false) = n1' / 18 % 2 := by show n1' / 18 % 2 * (1 - 0) = _; omega
          rw [e]
          by_cases z : n1' / 18 % 2 = 0
          · exact ⟨false, (fun z => nomatch z), atI_n (n := 0) (by omega) rfl⟩
          · exact ⟨true, (fun z => nomatch z), atI_n (n := 1) (by omega) rfl⟩
      refine ⟨sz 2, fun p7 n7 => ?_⟩
      have g7 := same_new n7 (.lst [V.str "number", .str "piece"])
      refine ⟨_, rfl, _, _, rfl, rfl, ⟨by decide, by decide⟩, _, _, rfl, rfl, (by show (0 : Int) < _; decide), _, rfl, _, _, rfl, rfl, _, _, rfl, rfl, .inl ⟨by omega, by omega⟩, p7, _, _, _, rfl, rfl, SqL.of upd_same, ewk, ?_⟩
      have b7 := b6.trans (.of_same g7)
      have hS7 := g7 _ _ hS6
      have hA7 := hA6.mono (.of_same g7)
      have st7 := g7 _ _ st6
      have hI7 := hI6.same g7
      generalize upd H6 p7 (.lst [V.str "number", .str "piece"]) = H7 at b7 hS7 hA7 st7 hI7 ⊢
      refine ⟨_, rfl, _, rfl, _, rfl, _, rfl, _, rfl, _, rfl, _, rfl, _, rfl, sz 1, fun pa na => ⟨sz 3, fun pb nb => ⟨sz 1, fun pc nc => ⟨sa, pc, ws, [V.ref pb], rfl, rfl, ?_, upd_same, sz _ (by have := hA7.len; show ws.length + 1 ≤ _; omega), fun pd nd => ?_⟩⟩⟩⟩
      · exact same_new nc _ _ _ (same_new nb _ _ _ (same_new na _ _ _ hS7))
      obtain ⟨gx, hSc⟩ := extV hA7 nx l ok na nb nc nd (.lst (ws ++ [.ref pb]))
      have hpd : upd (upd (upd (upd H7 pa (.tup [V.str (kindS ok)])) pb (.tup [.str nx, .int (lvI l), .ref pa])) pc (.lst [V.ref pb])) pd (.lst (ws ++ [V.ref pb])) pd = some (.lst (ws ++ [.ref pb])) := upd_same
      generalize upd (upd (upd (upd H7 pa (.tup [V.str (kindS ok)])) pb (.tup [.str nx, .int (lvI l), .ref pa])) pc (.lst [V.ref pb])) pd (.lst (ws ++ [V.ref pb])) = Hx at gx hSc hpd ⊢
      clear na nb nc nd
      refine ⟨_, rfl, a, st, pd, l, wk, false, sc ++ [(nx, ⟨l, none, ok⟩)], ws ++ [.ref pb], c, m, _, e, rfl, hI7.same gx, gx _ _ st7, hc, hpd, hSc, Sc.Good.val ⟨hok, hlv⟩ hnx, by rw [List.length_append]; show sc.length + 1 + _ ≤ _; omega, rfl, hen, hwk, fun t1 v1 c1 m1 H8 b8 st8 hc8 w1 gr1 k1 => ?_⟩
      have hA8 := (hA7.mono (.of_same gx)).mono (.of_but b8 (gx _ _ st7))
      have hSa8 := b8 _ _ nsa (gx _ _ hS7)
      have hI8 := (hI7.same gx).but (gx _ _ st7) b8
      have b08 := b7.trans ((But.of_same gx).trans b8)
      refine ⟨_, rfl, _, rfl, _, rfl, _, rfl, _, rfl, sz 2, fun qa ma => ⟨sz 3, fun qb mb => ⟨sz 1, fun qc mc => ⟨sa, qc, ws, [V.ref qb], rfl, rfl, ?_, upd_same, sz _ (by have := hA7.len; show ws.length + 1 ≤ _; omega), fun qd md => ?_⟩⟩⟩⟩
      · exact same_new mc _ _ _ (same_new mb _ _ _ (same_new ma _ _ _ hSa8))
      obtain ⟨gy, hSf⟩ := extF hA8 nf l ok wk ma mb mc md (.lst (ws ++ [.ref qb]))
      have hqd : upd (upd (upd (upd H8 qa (.tup [V.str (kindS ok), V.str (kindS wk)])) qb (.tup [.str nf, .int (lvI l), .ref qa])) qc (.lst [V.ref qb])) qd (.lst (ws ++ [V.ref qb])) qd = some (.lst (ws ++ [.ref qb])) := upd_same
      generalize upd (upd (upd (upd H8 qa (.tup [V.str (kindS ok), V.str (kindS wk)])) qb (.tup [.str nf, .int (lvI l), .ref qa])) qc (.lst [V.ref qb])) qd (.lst (ws ++ [V.ref qb])) = Hy at gy hSf hqd ⊢
      clear ma mb mc md
      refine ⟨_, rfl, _, rfl, _, rfl, _, rfl, _, rfl, _, rfl, _, rfl, _, rfl, _, rfl, _, rfl, _, rfl, a, st, qd, l, k, fr, sc ++ [(nf, ⟨l, some ok, wk⟩)], ws ++ [.ref qb], c1, m1, _, e, rfl, hI8.same gy, gy _ _ st8, hc8, hqd, hSf, Sc.Good.snoc ⟨hok, hlv⟩ hnf (fun z d hd => by cases hd; exact hok0 z), by rw [List.length_append]; show sc.length + 1 + _ ≤ _; omega, rfl, hen, hlk, fun t2 v2 c2 m2 H9 b9 st9 hc9 w2 gr2 k2 => ⟨sz 6, fun p n => ?_⟩⟩
      have g9 := same_new n (.tup [.str "def", .str nf, .str nx, .str (kindS ok), v1, v2])
      refine q (.deff nf nx ok t1 t2) _ c2 m2 _ (b08.trans ((But.of_same gy).trans (b9.trans (.of_same g9)))) (g9 _ _ st9) hc9 ⟨p, v1, v2, rfl, upd_same, ((w1.mono (.of_same gy)).mono (.of_but b9 (gy _ _ st8))).mono (.of_same g9), w2.mono (.of_same g9)⟩ (.deff hnf hnx gr1 gr2) ?_
      rw [look_snoc] at k1 k2
      show (if l = true ∧ ok = true then (.error .kind : Kd) else Kd.and (kd t1 l ((look sc).set nx ⟨l, none, ok⟩) false) fun j => kd t2 l ((look sc).set nf ⟨l, some ok, j⟩) fr) = .ok k
      rw [if_neg (fun z => by have := hok0 z.1; rw [z.2] at this; cases this), k1]
      exact k2
end

section
variable {P : Program} {w : World} {K : PySem.W.Frag} {mg : Str → Option Value} {base : Heap} {f f1 f2 f3 f4 f5 f6 f7 f8 g h : Addr} {fd fd1 fd2 fd3 fd4 fd5 fd6 fd7 fd8 fg fh : FuncData}
theorem all_term (F : Fun K "_law_term" "_law_term" s_term f fd) (F2 : Fun K "_law_twice" "_law_twice" s_twice g fg) (F3 : Fun K "_law_bound" "_law_bound" s_bound h fh) (T : Txt mg)
    (C_law_next : Cal P w K mg base "_law_next" ["_law_script", "_law_state"] 3 (spNext K) f1 fd1) (C_law_leaf : Cal P w K mg base "_law_leaf" ["_law_script", "_law_state", "_law_level", "_law_kind", "_law_scope", "_law_number_here"] 2 (spLeaf K) f2 fd2) (C_law_words : Cal P w K mg base "_law_words" ["_law_level", "_law_kind", "_law_free"] 1 spWords f3 fd3)
    (C_law_seen : Cal P w K mg base "_law_seen" ["_law_scope", "_law_level", "_law_kinds"] 1 (spSeen K) f4 fd4) (C_law_name : Cal P w K mg base "_law_name" ["_law_script", "_law_which"] 3 (spName K) f5 fd5) (C_law_number : Cal P w K mg base "_law_number" ["_law_number_here"] 1 spNumber f6 fd6)
    (m : mg "_law_term" = some (.ref f)) (kp : PySem.W.keepIn K (.ref f) = true) (b : Binds K fd ["_law_script", "_law_state", "_law_level", "_law_kind", "_law_scope", "_law_depth", "_law_free"] [])
    (m2 : mg "_law_twice" = some (.ref g)) (kp2 : PySem.W.keepIn K (.ref g) = true) (b2 : Binds K fg ["_law_script", "_law_state", "_law_scope", "_law_depth", "_law_number_here"] [])
    (m3 : mg "_law_bound" = some (.ref h)) (kp3 : PySem.W.keepIn K (.ref h) = true) (b3 : Binds K fh ["_law_script", "_law_state", "_law_what", "_law_scope", "_law_depth", "_law_number_here"] []) : ∀ n, FnOk P w K mg base CX0 (4 + 3 * n) f fd ["_law_script", "_law_state", "_law_level", "_law_kind", "_law_scope", "_law_depth", "_law_free"] (spTerm K n)
  | 0 => fn_none fun vs H Q E hh => by
    obtain ⟨a, st, sa, l, k, fr, sc, ws, c, m, d, e, _, _, _, _, _, _, _, _, _, h0, _⟩ := hh
    omega
  | n + 1 =>
    have t : Cal P w K mg base "_law_term" ["_law_script", "_law_state", "_law_level", "_law_kind", "_law_scope", "_law_depth", "_law_free"] (4 + 3 * n) (spTerm K n) f fd := ⟨all_term F F2 F3 T C_law_next C_law_leaf C_law_words C_law_seen C_law_name C_law_number m kp b m2 kp2 b2 m3 kp3 b3 n, m, kp, b⟩
    have tw : Cal P w K mg base "_law_twice" ["_law_script", "_law_state", "_law_scope", "_law_depth", "_law_number_here"] (4 + 3 * n + 1) (spTwice K n) g fg := ⟨ok_twice F2 T C_law_seen C_law_name t, m2, kp2, b2⟩
    have bd : Cal P w K mg base "_law_bound" ["_law_script", "_law_state", "_law_what", "_law_scope", "_law_depth", "_law_number_here"] (4 + 3 * n + 2) (spGBound K n) h fh := ⟨ok_gbound F3 T C_law_seen C_law_name C_law_number tw t, m3, kp3, b3⟩
    ok_term F T C_law_next C_law_leaf C_law_words bd t
end

/-! ### plain_of -/
theorem passX0 {X : Cx} {P : Program} {w : World} : Passes (L2.CX P w) X E0 := fun _ _ _ _ _ _ _ h => by
  obtain ⟨_, _, _, _, _, _, _, _, _, _, _, _, h⟩ := h
  exact h.elim
theorem NB_pos : 0 < NB := Nat.pow_pos (by decide)
structure CalMX (P : Program) (w : World) (K : PySem.W.Frag) (mg : Str → Option Value) (base : Heap) (C : Addr) (x : Str) (ps : List Str) (k : Nat) (sp : Sp) (f : Addr) (fd : FuncData) : Prop where
  ok : FnOk P w K mg base (L2.CX P w) k f fd ps sp
  m : Meth K C x f
  b : Binds K fd ps []
structure CalX (P : Program) (w : World) (K : PySem.W.Frag) (mg : Str → Option Value) (base : Heap) (x : Str) (ps : List Str) (k : Nat) (sp : Sp) (f : Addr) (fd : FuncData) : Prop where
  ok : FnOk P w K mg base (L2.CX P w) k f fd ps sp
  m : mg x = some (.ref f)
  kp : PySem.W.keepIn K (.ref f) = true
  b : Binds K fd ps []
theorem no_value (S F : Addr) (n : Nat) : (tlF S F n).lookup ("value_of" : Str) = none := tlF_no _ _ _ (by decide +kernel) (by decide +kernel) (by decide +kernel)
def noP : PDs := fun _ => .val 0
def spPlain : Sp := fun vs H Q _ => ∃ (t : Tm) (tv : V), vs = [tv] ∧ TmAt H t tv ∧ Plain t ∧ Scp .nil t ∧ t.deep ≤ 900 ∧ hgt t (fun _ => 0) ≤ 30000 ∧ ∀ H', Same H H' → Q (.int (vl t noP)) H'
abbrev s_plain_of : Stmt := topS 7
theorem sc_plain_of : FnScope ["term"] ["term"] (defScope s_plain_of) := ⟨rfl, rfl, rfl, by decide +kernel, rfl, by decide +kernel, by decide +kernel⟩
section
variable {P : Program} {w : World} {K : PySem.W.Frag} {mg : Str → Option Value} {base : Heap} {CT CP CG DT DM : Addr} {FA : Sf → Addr} {f f1 f2 f3 f4 f5 f6 f7 f8 : Addr} {fd fd1 fd2 fd3 fd4 fd5 fd6 fd7 fd8 : FuncData}
theorem ok_plain_of (F : Fun K "plain_of" "plain_of" s_plain_of f fd) (TC_Telling : TcT K CT) (ne : CT ≠ CP) (MK_Telling : CalC P w K mg base "Telling" CT ["self"] 1 (spTelInit CT CP FA) f1 fd1)
    (C_value_of : CalMX P w K mg base CT "value_of" ["self", "term"] 5 (spValueOf CT CP CG FA) f2 fd2) : FnOk P w K mg base CX0 6 f fd ["term"] spPlain := by
  refine F.ok sc_plain_of (fun vs H Q E h => ?_) (fun cdv A outer s H vs Q E hr h => ?_)
  · obtain ⟨t, tv, rfl, _⟩ := h
    rfl
  obtain ⟨t, tv, rfl, ht, hp, hs, hd, hh, q⟩ := h
  refine ⟨_, (pss_one (ps_ret (pe_meth (pe_make0 MK_Telling.mkr MK_Telling.ok (hr.mono (by first | decide | omega)) rfl MK_Telling.m MK_Telling.b .nil pass0) TC_Telling.cl C_value_of.m C_value_of.ok (hr.mono (by first | decide | omega)) C_value_of.b .nil passX0 (pa_cons (pv 0) pa_nil)))), ?_⟩
  intro x dx nx ndx nex
  refine ⟨x, dx, rfl, upd_same, ne, fun S Fl H1 k1 nS nF T1 => ⟨rfl, ?_⟩⟩
  have e1 : Same H H1 := fun b o z => k1 b o (ne_of_none z nx) (by rw [upd_ne (ne_of_none z nx), upd_ne (ne_of_none z ndx)]; exact z)
  have fr : ∀ {a : Addr}, upd (upd H dx (.own x)) x (.ins CT dx []) a = none → H a = none := fun {a} z => by
    cases y : H a with
    | none => rfl
    | some o =>
      rw [upd_ne (ne_of_none y nx), upd_ne (ne_of_none y ndx), y] at z
      cases z
  obtain ⟨dx1, hi1⟩ := T1.ins
  have a0 := adq0 t (E := .nil) (ρ := noP) (δ := fun _ => 0) hp hs .nil
  have hen : EndsE ⟨[.tell t .nil], [], 0⟩ (some ([.num (vl t noP)], 0)) := a0.2 [] [] 0 _ ⟨(fun _ h => nomatch h), by show 0 + _ ≤ _; omega, by show 0 + _ ≤ _; omega, NB_pos⟩ ⟨0, .done⟩
  refine ⟨x, dx1, _, rfl, hi1, no_value _ _ _, _, rfl, x, S, Fl, t, tv, _, rfl, T1, ht.mono (.of_same e1), hd, hen, fun v F n e u H' g ev => ?_, (fun n e => by cases e), (fun e => by cases e)⟩
  cases e
  cases ev
  exact q H' fun b o z => g b o (ne_of_none z nx) (ne_of_none z (fr nS)) (ne_of_none z (fr nF)) (e1 _ _ z)
end

/-! ### where the steps' functions stand -/
def mkFA (tell_num tell_name tell_two tell_when tell_let tell_turns tell_def tell_use tell_quote tell_lift tell_run make_same make_name make_plain make_let make_turns make_def make_use fill_hole reckon choose go_on_with_b turn go_on_with_function refuse_too_great make_num go_on_with_piece put_together : Addr) : Sf → Addr
  | .t .num => tell_num
  | .t .name => tell_name
  | .t .sum => tell_two
  | .t .product => tell_two
  | .t .less => tell_two
  | .t .when => tell_when
  | .t .let => tell_let
  | .t .turns => tell_turns
  | .t .def => tell_def
  | .t .use => tell_use
  | .t .quote => tell_quote
  | .t .lift => tell_lift
  | .t .run => tell_run
  | .t .hole => tell_num
  | .m .num => make_same
  | .m .name => make_name
  | .m .sum => make_plain
  | .m .product => make_plain
  | .m .less => make_plain
  | .m .when => make_plain
  | .m .let => make_let
  | .m .turns => make_turns
  | .m .def => make_def
  | .m .use => make_use
  | .m .hole => fill_hole
  | .m .quote => make_same
  | .m .lift => make_same
  | .m .run => make_same
  | .reckon => reckon
  | .choose => choose
  | .goB => go_on_with_b
  | .turn => turn
  | .goF => go_on_with_function
  | .tooGreat => refuse_too_great
  | .mkNum => make_num
  | .goPiece => go_on_with_piece
  | .put => put_together
theorem heldOf {P : Program} {w : World} {K : PySem.W.Frag} {mg : Str → Option Value} {base : Heap} {x : Str} {ps : List Str} {k : Nat} {sp : Sp} {f : Addr} {fd : FuncData} (C : Cal P w K mg base x ps k sp f fd) (h : k ≤ 4) {sp' : Sp} (hs : ∀ vs H Q E, sp' vs H Q E → sp vs H Q E) : HeldX P w K mg base 4 f sp' :=
  ⟨fd, ps, CX0, FnOk.weak (C.ok.mono h) hs, C.kp, C.b, .inl rfl⟩
theorem heldOfX {P : Program} {w : World} {K : PySem.W.Frag} {mg : Str → Option Value} {base : Heap} {x : Str} {ps : List Str} {k : Nat} {sp : Sp} {f : Addr} {fd : FuncData} (C : CalX P w K mg base x ps k sp f fd) (h : k ≤ 4) : HeldX P w K mg base 4 f sp :=
  ⟨fd, ps, L2.CX P w, C.ok.mono h, C.kp, C.b, .inr rfl⟩

/-! ### the law's own value of a term -/
/-- how deep its calls go -/
def dpt : Tm → Hts → Nat
  | .num _, _ => 1
  | .name _, _ => 1
  | .bin _ a b, δ => 1 + max (dpt a δ) (dpt b δ)
  | .cond c a b, δ => 1 + max (dpt c δ) (max (dpt a δ) (dpt b δ))
  | .letx x a b, δ => 2 + max (dpt a δ) (dpt b (δ.set x 0))
  | .turns _ x a b, δ => 2 + max (dpt a δ) (dpt b (δ.set x 0))
  | .deff f x _ a b, δ => 2 + dpt b (δ.set f (dpt a (δ.set x 0)))
  | .use f a, δ => 2 + max (dpt a δ) (δ f)
  | .un _ a, δ => 1 + dpt a δ
theorem dpt_pos (t : Tm) (δ : Hts) : 1 ≤ dpt t δ := by
  cases t <;> simp only [dpt] <;> omega
/-- a function as the law keeps it: its x, its a, its names, and what these mean -/
structure Clo where
  q : Addr
  y : Str
  a : Tm
  v : V
  nd : Addr
  Γ : Sco
  ρ : PDs
  δ : Hts
  c : Nat
inductive LEnv (H : Hp) : Addr → Sco → PDs → Hts → Nat → Prop
  | mk {nd : Addr} {Γ : Sco} {ρ : PDs} {δ : Hts} {c : Nat} {kvs : List (Key × V)} (cl : Str → Clo) : H nd = some (.dK kvs) → kvs.length ≤ c → (∀ x, Γ x = some false → ∃ i, valV kvs (.inr x) = some (.int i) ∧ ρ x = .val i ∧ In i) →
      (∀ x, Γ x = some true → valV kvs (.inr x) = some (.ref (cl x).q) ∧ H (cl x).q = some (.lst [.str (cl x).y, (cl x).v, .ref (cl x).nd]) ∧ TmAt H (cl x).a (cl x).v ∧ Scp ((cl x).Γ.set (cl x).y false) (cl x).a ∧
        ρ x = .fn (fun i => vl (cl x).a ((cl x).ρ.set (cl x).y (.val i))) ∧ dpt (cl x).a ((cl x).δ.set (cl x).y 0) ≤ δ x ∧ (cl x).c + (cl x).a.deep < 900 ∧ (cl x).a.Ok) →
      (∀ x, Γ x = some true → LEnv H (cl x).nd (cl x).Γ (cl x).ρ (cl x).δ (cl x).c) → LEnv H nd Γ ρ δ c
theorem LEnv.mono {H H' : Hp} (e : Same H H') {nd : Addr} {Γ : Sco} {ρ : PDs} {δ : Hts} {c : Nat} (h : LEnv H nd Γ ρ δ c) : LEnv H' nd Γ ρ δ c := by
  induction h with
  | mk cl h1 h2 h3 h4 _ ih => exact .mk cl (e _ _ h1) h2 h3 (fun x hx => let ⟨a, b, c, d⟩ := h4 x hx; ⟨a, e _ _ b, c.mono (.of_same e), d⟩) ih
theorem LEnv.nil {H : Hp} {nd : Addr} {ρ : PDs} {δ : Hts} (h : H nd = some (.dK [])) : LEnv H nd .nil ρ δ 0 :=
  .mk (fun _ => ⟨0, Str.empty, .num 0, .non, 0, .nil, ρ, δ, 0⟩) h (Nat.le_refl _) (fun _ h => by cases h) (fun _ h => by cases h) (fun _ h => by cases h)
theorem LEnv.dict {H : Hp} {nd : Addr} {Γ : Sco} {ρ : PDs} {δ : Hts} {c : Nat} (h : LEnv H nd Γ ρ δ c) : ∃ kvs, H nd = some (.dK kvs) ∧ kvs.length ≤ c := by
  cases h with
  | mk cl h1 h2 _ _ _ => exact ⟨_, h1, h2⟩
theorem LEnv.vals {H : Hp} {nd : Addr} {Γ : Sco} {ρ : PDs} {δ : Hts} {c : Nat} (h : LEnv H nd Γ ρ δ c) : ∀ x, Γ x = some false → ∃ i, ρ x = .val i ∧ In i := by
  cases h with
  | mk cl h1 h2 h3 _ _ => exact fun x hx => let ⟨i, _, a, b⟩ := h3 x hx; ⟨i, a, b⟩
theorem LEnv.setv {H H' : Hp} {nd p : Addr} {Γ : Sco} {ρ : PDs} {δ : Hts} {c : Nat} {x : Str} {i : Int} {kvs : List (Key × V)} (e : Same H H') (h : LEnv H nd Γ ρ δ c) (hk : H nd = some (.dK kvs)) (hp : H' p = some (.dK (putK kvs (.inr x) (.int i)))) (hi : In i) :
    LEnv H' p (Γ.set x false) (ρ.set x (.val i)) (δ.set x 0) (c + 1) := by
  have h' := h.mono e
  cases h' with
  | mk cl h1 h2 h3 h4 h5 =>
    rw [e _ _ hk] at h1
    cases h1
    refine .mk cl hp (by have := length_putK kvs (.inr x) (.int i); omega) (fun y hy => ?_) (fun y hy => ?_) fun y hy => ?_
    · rw [valV_put]
      unfold Sco.set at hy
      by_cases z : y = x
      · rw [if_pos (by rw [z])]
        exact ⟨i, rfl, if_pos z, hi⟩
      · rw [if_neg z] at hy
        rw [if_neg (fun q => z (Sum.inr.inj q))]
        obtain ⟨j, a, b, c⟩ := h3 y hy
        exact ⟨j, a, (if_neg z).trans b, c⟩
    · unfold Sco.set at hy
      by_cases z : y = x
      · rw [if_pos z] at hy; cases hy
      · rw [if_neg z] at hy
        rw [valV_put, if_neg (fun q => z (Sum.inr.inj q))]
        obtain ⟨a, b, c, d, f, g, h⟩ := h4 y hy
        refine ⟨a, b, c, d, (if_neg z).trans f, ?_, h⟩
        show _ ≤ if y = x then 0 else δ y
        rw [if_neg z]
        exact g
    · unfold Sco.set at hy
      by_cases z : y = x
      · rw [if_pos z] at hy; cases hy
      · rw [if_neg z] at hy
        exact h5 y hy
theorem LEnv.setf {H H' : Hp} {nd p q : Addr} {Γ : Sco} {ρ : PDs} {δ : Hts} {c m : Nat} {f y : Str} {a : Tm} {v : V} {kvs : List (Key × V)} (e : Same H H') (h : LEnv H nd Γ ρ δ c) (hk : H nd = some (.dK kvs)) (hp : H' p = some (.dK (putK kvs (.inr f) (.ref q))))
    (hq : H' q = some (.lst [.str y, v, .ref nd])) (ha : TmAt H' a v) (hs : Scp (Γ.set y false) a) (hm : dpt a (δ.set y 0) ≤ m) (hc : c + a.deep < 900) (hok : a.Ok) :
    LEnv H' p (Γ.set f true) (ρ.set f (.fn fun i => vl a (ρ.set y (.val i)))) (δ.set f m) (c + 1) := by
  have h0 := h.mono e
  have h' := h0
  cases h' with
  | mk cl h1 h2 h3 h4 h5 =>
    rw [e _ _ hk] at h1
    cases h1
    refine .mk (fun x => if x = f then ⟨q, y, a, v, nd, Γ, ρ, δ, c⟩ else cl x) hp (by have := length_putK kvs (.inr f) (.ref q); omega) (fun x hx => ?_) (fun x hx => ?_) fun x hx => ?_
    · unfold Sco.set at hx
      by_cases z : x = f
      · rw [if_pos z] at hx; cases hx
      · rw [if_neg z] at hx
        rw [valV_put, if_neg (fun q => z (Sum.inr.inj q))]
        obtain ⟨j, a, b, c⟩ := h3 x hx
        exact ⟨j, a, (if_neg z).trans b, c⟩
    · rw [valV_put]
      by_cases z : x = f
      · rw [if_pos (by rw [z])]
        simp only [if_pos z]
        refine ⟨by first | rfl | trivial, hq, ha, hs, if_pos z, ?_, hc, hok⟩
        show _ ≤ if x = f then m else δ x
        rw [if_pos z]
        exact hm
      · unfold Sco.set at hx
        rw [if_neg z] at hx
        rw [if_neg (fun q => z (Sum.inr.inj q))]
        simp only [if_neg z]
        obtain ⟨a, b, c, d, g1, g2, g3⟩ := h4 x hx
        refine ⟨a, b, c, d, (if_neg z).trans g1, ?_, g3⟩
        show _ ≤ if x = f then m else δ x
        rw [if_neg z]
        exact g2
    · by_cases z : x = f
      · simp only [if_pos z]
        exact h0
      · unfold Sco.set at hx
        rw [if_neg z] at hx
        simp only [if_neg z]
        exact h5 x hx
theorem vl_in : ∀ (t : Tm) {Γ : Sco} {ρ : PDs}, Scp Γ t → (∀ x, Γ x = some false → ∃ i, ρ x = .val i ∧ In i) → (∀ x, Γ x = some true → ∃ φ, ρ x = .fn φ ∧ ∀ i, In i → In (φ i)) → In (vl t ρ) := by
  have sv : ∀ {Γ : Sco} {ρ : PDs} {x : Str} {i : Int}, (∀ y, Γ y = some false → ∃ i, ρ y = .val i ∧ In i) → (∀ y, Γ y = some true → ∃ φ, ρ y = .fn φ ∧ ∀ i, In i → In (φ i)) → In i →
      (∀ y, (Γ.set x false) y = some false → ∃ j, (ρ.set x (.val i)) y = .val j ∧ In j) ∧ (∀ y, (Γ.set x false) y = some true → ∃ φ, (ρ.set x (.val i)) y = .fn φ ∧ ∀ i, In i → In (φ i)) := fun {Γ ρ x i} h1 h2 hi => by
    refine ⟨fun y hy => ?_, fun y hy => ?_⟩ <;> unfold Sco.set at hy <;> unfold PDs.set <;> by_cases z : y = x
    · rw [if_pos z]; exact ⟨i, rfl, hi⟩
    · rw [if_neg z] at hy ⊢; exact h1 y hy
    · rw [if_pos z] at hy; cases hy
    · rw [if_neg z] at hy ⊢; exact h2 y hy
  intro t
  induction t with
  | num m => exact fun _ _ _ => .mod _
  | name x =>
    intro Γ ρ hs h1 _
    obtain ⟨i, e, hi⟩ := h1 x hs
    show In (ρ x).int
    rw [e]
    exact hi
  | bin o a b iha ihb => exact fun _ _ _ => .op _ _ _
  | cond c a b ihc iha ihb =>
    intro Γ ρ hs h1 h2
    show In (if vl c ρ = 0 then vl b ρ else vl a ρ)
    split
    · exact ihb hs.2.2 h1 h2
    · exact iha hs.2.1 h1 h2
  | letx x a b iha ihb =>
    intro Γ ρ hs h1 h2
    have := sv (x := x) h1 h2 (iha hs.1 h1 h2)
    exact ihb hs.2 this.1 this.2
  | turns m x a b iha ihb =>
    intro Γ ρ hs h1 h2
    exact .iter (fun i hi => ihb hs.2 (sv h1 h2 hi).1 (sv h1 h2 hi).2) _ (iha hs.1 h1 h2)
  | deff f x k a b iha ihb =>
    intro Γ ρ hs h1 h2
    refine ihb hs.2 (fun y hy => ?_) fun y hy => ?_
    · unfold Sco.set at hy
      by_cases z : y = f
      · rw [if_pos z] at hy; cases hy
      · rw [if_neg z] at hy
        obtain ⟨i, e, hi⟩ := h1 y hy
        exact ⟨i, (if_neg z).trans e, hi⟩
    · unfold Sco.set at hy
      by_cases z : y = f
      · exact ⟨_, if_pos z, fun i hi => iha hs.1 (sv h1 h2 hi).1 (sv h1 h2 hi).2⟩
      · rw [if_neg z] at hy
        obtain ⟨φ, e, hi⟩ := h2 y hy
        exact ⟨φ, (if_neg z).trans e, hi⟩
  | use f a iha =>
    intro Γ ρ hs h1 h2
    obtain ⟨φ, e, hi⟩ := h2 f hs.1
    show In ((ρ f).app (vl a ρ))
    rw [e]
    exact hi _ (iha hs.2 h1 h2)
  | un o a iha => intro Γ ρ hs h1 h2; exact iha hs h1 h2
theorem LEnv.fns {H : Hp} {nd : Addr} {Γ : Sco} {ρ : PDs} {δ : Hts} {c : Nat} (h : LEnv H nd Γ ρ δ c) : ∀ x, Γ x = some true → ∃ φ, ρ x = .fn φ ∧ ∀ i, In i → In (φ i) := by
  induction h with
  | mk cl h1 h2 h3 h4 h5 ih =>
    intro x hx
    obtain ⟨_, _, _, hs, e, _⟩ := h4 x hx
    refine ⟨_, e, fun i hi => vl_in _ hs (fun y hy => ?_) fun y hy => ?_⟩
    · unfold Sco.set at hy
      by_cases z : y = (cl x).y
      · exact ⟨i, if_pos z, hi⟩
      · rw [if_neg z] at hy
        obtain ⟨j, e, hj⟩ := (h5 x hx).vals y hy
        exact ⟨j, (if_neg z).trans e, hj⟩
    · unfold Sco.set at hy
      by_cases z : y = (cl x).y
      · rw [if_pos z] at hy; cases hy
      · rw [if_neg z] at hy
        obtain ⟨φ, e, hj⟩ := ih x hx y hy
        exact ⟨φ, (if_neg z).trans e, hj⟩
theorem LEnv.in {H : Hp} {nd : Addr} {Γ : Sco} {ρ : PDs} {δ : Hts} {c : Nat} (h : LEnv H nd Γ ρ δ c) {t : Tm} (hs : Scp Γ t) : In (vl t ρ) := vl_in t hs h.vals h.fns
theorem wne {a b : W} (h : a ≠ b) : ¬ decide (V.str a.str = V.str b.str) = true := fun z => h (W.inj (V.str.inj (of_decide_eq_true z)))
theorem inW {u : W} {us : List W} : inV (.str u.str) (us.map fun w => V.str w.str) = true ↔ u ∈ us := by
  have e : (us.map fun w => V.str w.str) = (us.map W.str).map V.str := by rw [List.map_map]; rfl
  rw [e, inV_str]
  exact ⟨fun h => by obtain ⟨z, hz, e⟩ := List.mem_map.mp h; rw [← W.inj e]; exact hz, fun h => List.mem_map_of_mem h⟩
theorem w_uns {t : Tm} (h : t.w ∈ [W.quote, W.hole, W.lift, W.run]) : ∃ o a, t = .un o a := by
  simp only [List.mem_cons, List.not_mem_nil, or_false] at h
  rcases h with h | h | h | h
  · obtain ⟨a, e⟩ := w_un (o := .quote) h; exact ⟨_, a, e⟩
  · obtain ⟨a, e⟩ := w_un (o := .hole) h; exact ⟨_, a, e⟩
  · obtain ⟨a, e⟩ := w_un (o := .lift) h; exact ⟨_, a, e⟩
  · obtain ⟨a, e⟩ := w_un (o := .run) h; exact ⟨_, a, e⟩
def spWith : Sp := fun vs H Q _ => ∃ (nd : Addr) (x : Str) (v : V) (kvs : List (Key × V)), vs = [.ref nd, .str x, v] ∧ H nd = some (.dK kvs) ∧ kvs.length ≤ 900 ∧ ∀ p H', H p = none → Same H H' → H' p = some (.dK (putK kvs (.inr x) v)) → Q (.ref p) H'
def spVal (n : Nat) : Sp := fun vs H Q _ => ∃ (t : Tm) (tv : V) (nd : Addr) (Γ : Sco) (ρ : PDs) (δ : Hts) (c : Nat), vs = [tv, .ref nd] ∧ TmAt H t tv ∧ Scp Γ t ∧ LEnv H nd Γ ρ δ c ∧ dpt t δ ≤ n ∧ c + t.deep ≤ 900 ∧ t.Ok ∧ ∀ H', Same H H' → Q (.int (vl t ρ)) H'
def spValB (n : Nat) : Sp := fun vs H Q _ => ∃ (t : Tm) (tv : V) (nd : Addr) (Γ : Sco) (ρ : PDs) (δ : Hts) (c : Nat), vs = [tv, .ref nd] ∧ TmAt H t tv ∧ t.w ∈ [W.let, .turns, .def, .use] ∧ Scp Γ t ∧ LEnv H nd Γ ρ δ c ∧ dpt t δ ≤ n + 1 ∧ c + t.deep ≤ 900 ∧ t.Ok ∧ ∀ H', Same H H' → Q (.int (vl t ρ)) H'
abbrev s_with : Stmt := topS 55
theorem sc_with : FnScope ["_law_names", "_law_name_here", "_law_value_here", "_law_more"] ["_law_names", "_law_name_here", "_law_value_here"] (defScope s_with) := ⟨rfl, rfl, rfl, by decide +kernel, rfl, by decide +kernel, by decide +kernel⟩
abbrev s_value : Stmt := topS 54
theorem sc_value : FnScope ["_law_term_here", "_law_names", "_law_word", "_law_one", "_law_other"] ["_law_term_here", "_law_names"] (defScope s_value) := ⟨rfl, rfl, rfl, by decide +kernel, rfl, by decide +kernel, by decide +kernel⟩
abbrev s_value_bound : Stmt := topS 56
theorem sc_value_bound : FnScope ["_law_term_here", "_law_names", "_law_found", "_law_turn", "_law_one"] ["_law_term_here", "_law_names"] (defScope s_value_bound) := ⟨rfl, rfl, rfl, by decide +kernel, rfl, by decide +kernel, by decide +kernel⟩
section
variable {P : Program} {w : World} {K : PySem.W.Frag} {mg : Str → Option Value} {base : Heap} {f f1 f2 f3 f4 f5 f6 f7 f8 : Addr} {fd fd1 fd2 fd3 fd4 fd5 fd6 fd7 fd8 : FuncData}
theorem ok_with (F : Fun K "_law_with" "_law_with" s_with f fd) (T : Txt mg) : FnOk P w K mg base CX0 1 f fd ["_law_names", "_law_name_here", "_law_value_here"] spWith := by
  refine F.ok sc_with (fun vs H Q E h => ?_) (fun cdv A outer s H vs Q E hr h => ?_)
  · obtain ⟨nd, x, v, kvs, rfl, _⟩ := h
    rfl
  obtain ⟨nd, x, v, kvs, rfl, hk, hl, q⟩ := h
  refine ⟨_, (pss_cons (ps_set (i := 3) sc_with.nd rfl (Or.inl rfl) (pe_callTy call_dictD (by rfl) T.dict (by decide +kernel) (pa_cons (pv 0) pa_nil)))
      (pss_cons (ps_dput (hu_of hr) (pv 3) (pv 1) (pv 2) rfl)
      (pss_one (ps_ret (pv 3))))), ?_⟩
  refine ⟨_, rfl, nd, kvs, rfl, .inl hk, fun p hp => ?_⟩
  refine ⟨_, rfl, _, rfl, _, rfl, p, _, rfl, DPut.k (k := Sum.inr x) upd_same (szK (by omega)), _, rfl, q p _ hp (fun b o h => ?_) upd_same⟩
  rw [upd_ne (ne_of_none h hp), upd_ne (ne_of_none h hp)]
  exact h
theorem iter_succ (g : Int → Int) : ∀ (k : Nat) (i : Int), iter g (k + 1) i = g (iter g k i)
  | 0, _ => rfl
  | k + 1, i => iter_succ g k (g i)
theorem ok_value {n : Nat} (F : Fun K "_law_value" "_law_value" s_value f fd) (T : Txt mg) (C_law_value : Cal P w K mg base "_law_value" ["_law_term_here", "_law_names"] (1 + n) (spVal n) f fd) (C_law_value_bound : Cal P w K mg base "_law_value_bound" ["_law_term_here", "_law_names"] (1 + n) (spValB n) f2 fd2) :
    FnOk P w K mg base CX0 (1 + n + 1) f fd ["_law_term_here", "_law_names"] (spVal (n + 1)) := by
  refine F.ok sc_value (fun vs H Q E h => ?_) (fun cdv A outer s H vs Q E hr h => ?_)
  · obtain ⟨t, tv, nd, Γ, ρ, δ, c, rfl, _⟩ := h
    rfl
  obtain ⟨t, tv, nd, Γ, ρ, δ, c, rfl, ht, hs, hE, hd, hz, hok, q⟩ := h
  refine ⟨_, (pss_cons (ps_set (i := 2) sc_value.nd rfl (Or.inl rfl) (pe_ix ix_tup (pv 0) pe_int (fun _ _ => rfl)))
      (pss_cons (ps_if (pt_cmpR op_eq (pv 2) pe_str (nomark _)) (pss_one (ps_ret (pe_op op_mod (pe_ix ix_tup (pv 0) pe_int (fun _ _ => rfl)) pe_int))) pss_nil)
      (pss_cons (ps_if (pt_cmpR op_eq (pv 2) pe_str (nomark _)) (pss_one (ps_ret (pe_dget (hu_of hr) (pv 1) (pe_ix ix_tup (pv 0) pe_int (fun _ _ => rfl)) (fun _ _ => rfl)))) pss_nil)
      (pss_cons (ps_if (pt_cmpR op_in_seq (pv 2) (pe_tup (pa_cons pe_str (pa_cons pe_str (pa_cons pe_str (pa_cons pe_str pa_nil))))) (by rfl)) (pss_one (ps_ret (pe_call C_law_value.ok (hr.mono (by first | decide | omega)) rfl C_law_value.m C_law_value.kp C_law_value.b .nil pass0 (pa_cons (pe_ix ix_tup (pv 0) pe_int (fun _ _ => rfl)) (pa_cons (pv 1) pa_nil))))) pss_nil)
      (pss_cons (ps_if (pt_cmpR op_eq (pv 2) pe_str (nomark _)) (pss_one (ps_ret (pe_call C_law_value.ok (hr.mono (by first | decide | omega)) rfl C_law_value.m C_law_value.kp C_law_value.b .nil pass0 (pa_cons (pe_ix ix_tup (pv 0) (pe_op op_add pe_int (pe_callTy call_int1 (by rfl) T.int (by decide +kernel) (pa_cons (pe_cmpR op_eq (pe_call C_law_value.ok (hr.mono (by first | decide | omega)) rfl C_law_value.m C_law_value.kp C_law_value.b .nil pass0 (pa_cons (pe_ix ix_tup (pv 0) pe_int (fun _ _ => rfl)) (pa_cons (pv 1) pa_nil))) pe_int (nomark _)) pa_nil))) (fun _ _ => rfl)) (pa_cons (pv 1) pa_nil))))) pss_nil)
      (pss_cons (ps_if (pt_cmpR op_in_seq (pv 2) (pe_tup (pa_cons pe_str (pa_cons pe_str (pa_cons pe_str (pa_cons pe_str pa_nil))))) (by rfl)) (pss_one (ps_ret (pe_call C_law_value_bound.ok (hr.mono (by first | decide | omega)) rfl C_law_value_bound.m C_law_value_bound.kp C_law_value_bound.b .nil pass0 (pa_cons (pv 0) (pa_cons (pv 1) pa_nil))))) pss_nil)
      (pss_cons (ps_set (i := 3) sc_value.nd rfl (Or.inl rfl) (pe_call C_law_value.ok (hr.mono (by first | decide | omega)) rfl C_law_value.m C_law_value.kp C_law_value.b .nil pass0 (pa_cons (pe_ix ix_tup (pv 0) pe_int (fun _ _ => rfl)) (pa_cons (pv 1) pa_nil))))
      (pss_cons (ps_set (i := 4) sc_value.nd rfl (Or.inl rfl) (pe_call C_law_value.ok (hr.mono (by first | decide | omega)) rfl C_law_value.m C_law_value.kp C_law_value.b .nil pass0 (pa_cons (pe_ix ix_tup (pv 0) pe_int (fun _ _ => rfl)) (pa_cons (pv 1) pa_nil))))
      (pss_cons (ps_if (pt_cmpR op_eq (pv 2) pe_str (nomark _)) (pss_one (ps_ret (pe_callTy call_int1 (by rfl) T.int (by decide +kernel) (pa_cons (pe_cmpR op_lt (pv 3) (pv 4) (nomark _)) pa_nil)))) pss_nil)
      (pss_one (ps_ret (pe_op op_mod (pe_ix ix_list (pe_lst (pa_cons (pe_op op_add (pv 3) (pv 4)) (pa_cons (pe_op op_mul (pv 3) (pv 4)) pa_nil))) (pe_callTy call_int1 (by rfl) T.int (by decide +kernel) (pa_cons (pe_cmpR op_eq (pv 2) pe_str (nomark _)) pa_nil)) (fun _ _ => rfl)) pe_int)))))))))))), ?_⟩
  obtain ⟨p, vs, rfl, hp, hvs⟩ := ht.open
  rw [t.head_eq] at hp
  refine ⟨_, rfl, p, _, _, _, rfl, rfl, SqT.of hp, atI_n (n := 0) rfl rfl, ?_⟩
  refine ⟨_, rfl, rfl, _, rfl, ite2 (fun c1 => ?_) fun c1 => ?_⟩
  · obtain ⟨m, rfl⟩ := w_num (str_w .num c1)
    match vs, hvs, hp with
    | [], _, hp =>
    exact ⟨_, rfl, p, _, _, _, rfl, rfl, SqT.of hp, atI_n (n := 1) rfl rfl, _, _, rfl, rfl, (by show (0 : Int) < _; decide), q H (Same.refl H)⟩
  refine ⟨_, rfl, rfl, _, rfl, ite2 (fun c2 => ?_) fun c2 => ?_⟩
  · obtain ⟨x, rfl⟩ := w_name (str_w .name c2)
    match vs, hvs, hp with
    | [], _, hp =>
    obtain ⟨kvs, hk, _⟩ := hE.dict
    cases hE with
    | mk cl h1 h2 h3 h4 h5 =>
    rw [hk] at h1
    cases h1
    obtain ⟨i, a, b, _⟩ := h3 x hs
    have e : vl (.name x) ρ = i := by show (ρ x).int = i; rw [b]; rfl
    rw [e] at q
    exact ⟨_, rfl, _, rfl, p, _, _, _, rfl, rfl, SqT.of hp, atI_n (n := 1) rfl rfl, nd, .int i, rfl, a ▸ DGet.k (k := Sum.inr x) hk, q H (Same.refl H)⟩
  refine ⟨_, rfl, sz 4, fun n1 m1 => ?_⟩
  have s1 := same_new m1 (.tup [V.str "quote", .str "hole", .str "lift", .str "run"])
  refine ⟨n1, _, rfl, .inr (SqT.of upd_same), rfl, rfl, _, rfl, ?_⟩
  generalize upd H n1 (.tup [V.str "quote", .str "hole", .str "lift", .str "run"]) = H1 at s1 ⊢
  have hp1 := s1 _ _ hp
  refine ite2 (fun c3 => ?_) fun c3 => ?_
  · have hu := inW.mp (show inV (V.str t.w.str) ([W.quote, W.hole, W.lift, W.run].map fun w => V.str w.str) = true from c3)
    obtain ⟨o, a, rfl⟩ := w_uns hu
    match vs, hvs, hp1 with
    | [v1], ⟨ha, _⟩, hp1 =>
    simp only [dpt, Tm.deep] at hd hz
    exact ⟨_, rfl, p, _, _, _, rfl, rfl, SqT.of hp1, atI_n (n := 1) rfl rfl, _, rfl, a, v1, nd, Γ, ρ, δ, c, rfl, ha.mono (.of_same s1), hs, hE.mono s1, by omega, by omega, hok, fun H' e => q H' (s1.trans e)⟩
  have nu : t.w ∉ [W.quote, W.hole, W.lift, W.run] := fun z => c3 (inW.mpr z)
  refine ⟨_, rfl, rfl, _, rfl, ite2 (fun c4 => ?_) fun c4 => ?_⟩
  · obtain ⟨c0, a, b, rfl⟩ := w_when (str_w .when c4)
    match vs, hvs, hp1 with
    | [v0, v1, v2], ⟨hc, ha, hb, _⟩, hp1 =>
    simp only [dpt, Tm.deep] at hd hz
    refine ⟨_, rfl, ?_⟩
    refine ⟨_, rfl, p, _, _, _, rfl, rfl, SqT.of hp1, atI_n (n := 1) rfl rfl, _, rfl, c0, v0, nd, Γ, ρ, δ, c, rfl, hc.mono (.of_same s1), hs.1, hE.mono s1, by omega, by omega, hok.1, fun H2 e2 => ?_⟩
    have s2 := s1.trans e2
    have hp2 := e2 _ _ hp1
    refine ⟨rfl, .inr ⟨_, rfl, _, _, rfl, rfl, ?_⟩⟩
    by_cases z : vl c0 ρ = 0
    · refine ⟨p, _, _, v2, rfl, rfl, SqT.of hp2, atI_n (n := 3) (by rw [if_pos (decide_eq_true (by rw [z]))]; rfl) rfl, ?_⟩
      have e : vl (.cond c0 a b) ρ = vl b ρ := if_pos z
      exact ⟨_, rfl, b, v2, nd, Γ, ρ, δ, c, rfl, hb.mono (.of_same s2), hs.2.2, hE.mono s2, by omega, by omega, hok.2.2, fun H' e3 => by rw [← e]; exact q H' (s2.trans e3)⟩
    · refine ⟨p, _, _, v1, rfl, rfl, SqT.of hp2, atI_n (n := 2) (by rw [if_neg (fun y => z (V.int.inj (of_decide_eq_true y)))]; rfl) rfl, ?_⟩
      have e : vl (.cond c0 a b) ρ = vl a ρ := if_neg z
      exact ⟨_, rfl, a, v1, nd, Γ, ρ, δ, c, rfl, ha.mono (.of_same s2), hs.2.1, hE.mono s2, by omega, by omega, hok.2.1, fun H' e3 => by rw [← e]; exact q H' (s2.trans e3)⟩
  have nw : t.w ≠ .when := str_nw .when c4
  refine ⟨_, rfl, sz 4, fun n2 m2 => ?_⟩
  have s2' := same_new m2 (.tup [V.str "let", .str "turns", .str "def", .str "use"])
  refine ⟨n2, _, rfl, .inr (SqT.of upd_same), rfl, rfl, _, rfl, ?_⟩
  have s2 := s1.trans s2'
  generalize upd H1 n2 (.tup [V.str "let", .str "turns", .str "def", .str "use"]) = H2 at s2 ⊢
  have hp2 := s2 _ _ hp
  refine ite2 (fun c5 => ?_) fun c5 => ?_
  · have hu := inW.mp (show inV (V.str t.w.str) ([W.let, W.turns, W.def, W.use].map fun w => V.str w.str) = true from c5)
    exact ⟨_, rfl, _, rfl, t, .ref p, nd, Γ, ρ, δ, c, rfl, ht.mono (.of_same s2), hu, hs, hE.mono s2, hd, hz, hok, fun H' e3 => q H' (s2.trans e3)⟩
  have nb : t.w ∉ [W.let, W.turns, W.def, W.use] := fun z => c5 (inW.mpr z)
  obtain ⟨o, a, b, rfl⟩ : ∃ o a b, t = .bin o a b := by
    cases t with
    | bin o a b => exact ⟨o, a, b, rfl⟩
    | num m => exact absurd rfl (str_nw .num c1)
    | name x => exact absurd rfl (str_nw .name c2)
    | cond c a b => exact absurd rfl nw
    | letx x a b => exact absurd (by simp [Tm.w]) nb
    | turns m x a b => exact absurd (by simp [Tm.w]) nb
    | deff f x k a b => exact absurd (by simp [Tm.w]) nb
    | use f a => exact absurd (by simp [Tm.w]) nb
    | un o a => exact absurd (by cases o <;> simp [Tm.w, Un.w]) nu
  match vs, hvs, hp2 with
  | [v1, v2], ⟨ha, hb, _⟩, hp2 =>
  simp only [dpt, Tm.deep] at hd hz
  have ia := hE.in hs.1
  have ib := hE.in hs.2
  refine ⟨_, rfl, p, _, _, _, rfl, rfl, SqT.of hp2, atI_n (n := 1) rfl rfl, _, rfl, a, v1, nd, Γ, ρ, δ, c, rfl, ha.mono (.of_same s2), hs.1, hE.mono s2, by omega, by omega, hok.1, fun H3 e3 => ?_⟩
  have s3 := s2.trans e3
  refine ⟨_, rfl, p, _, _, _, rfl, rfl, SqT.of (e3 _ _ hp2), atI_n (n := 2) rfl rfl, _, rfl, b, v2, nd, Γ, ρ, δ, c, rfl, hb.mono (.of_same s3), hs.2, hE.mono s3, by omega, by omega, hok.2, fun H4 e4 => ?_⟩
  have s4 := s3.trans e4
  have ew : (Tm.bin o a b).w = o.w := rfl
  refine ⟨_, rfl, rfl, _, rfl, ite2 (fun c6 => ?_) fun c6 => ?_⟩
  · have e : o.w = .less := str_w .less c6
    have eo : o = .less := by cases o <;> first | rfl | cases e
    subst eo
    refine ⟨_, rfl, _, rfl, _, _, rfl, rfl, .inr ⟨_, rfl, ?_⟩⟩
    have e2 : (if decide (vl a ρ < vl b ρ) = true then (1 : Int) else 0) = vl (.bin .less a b) ρ := by
      show _ = if vl a ρ < vl b ρ then (1 : Int) else 0
      by_cases z : vl a ρ < vl b ρ
      · rw [if_pos (decide_eq_true z), if_pos z]
      · rw [if_neg (fun y => z (of_decide_eq_true y)), if_neg z]
    rw [e2]
    exact q H4 s4
  · have nl : o ≠ .less := fun z => by subst z; exact c6 (decide_eq_true rfl)
    refine ⟨_, rfl, _, rfl, _, _, rfl, rfl, _, rfl, _, rfl, _, _, rfl, rfl, .inl ⟨by have := ia.1; omega, by have := ia.2; omega⟩, sz 2, fun l hl => ?_⟩
    have s5 := same_new hl (.lst [.int (vl a ρ + vl b ρ), .int (vl a ρ * vl b ρ)])
    refine ⟨_, rfl, rfl, .inr ⟨_, rfl, ?_⟩⟩
    cases o with
    | sum => exact ⟨l, _, _, .int (vl a ρ + vl b ρ), rfl, rfl, SqL.of upd_same, atI_n (n := 0) (if_neg (wne (a := .sum) (b := .product) (by decide))) rfl, _, _, rfl, rfl, (by show (0 : Int) < _; decide), q _ (s4.trans s5)⟩
    | product => exact ⟨l, _, _, .int (vl a ρ * vl b ρ), rfl, rfl, SqL.of upd_same, atI_n (n := 1) (if_pos (decide_eq_true rfl)) rfl, _, _, rfl, rfl, (by show (0 : Int) < _; decide), q _ (s4.trans s5)⟩
    | less => exact absurd rfl nl
theorem ok_value_bound {n : Nat} (F : Fun K "_law_value_bound" "_law_value_bound" s_value_bound f fd) (T : Txt mg) (C_law_with : Cal P w K mg base "_law_with" ["_law_names", "_law_name_here", "_law_value_here"] 1 spWith f1 fd1) (C_law_value : Cal P w K mg base "_law_value" ["_law_term_here", "_law_names"] (1 + n) (spVal n) f2 fd2) :
    FnOk P w K mg base CX0 (1 + n + 1) f fd ["_law_term_here", "_law_names"] (spValB (n + 1)) := by
  refine F.ok sc_value_bound (fun vs H Q E h => ?_) (fun cdv A outer s H vs Q E hr h => ?_)
  · obtain ⟨t, tv, nd, Γ, ρ, δ, c, rfl, _⟩ := h
    rfl
  obtain ⟨t, tv, nd, Γ, ρ, δ, c, rfl, ht, hu, hs, hE, hd, hz, hok, q⟩ := h
  refine ⟨_, (pss_cons (ps_if (pt_cmpR op_eq (pe_ix ix_tup (pv 0) pe_int (fun _ _ => rfl)) pe_str (nomark _)) (pss_one (ps_ret (pe_call C_law_value.ok (hr.mono (by first | decide | omega)) rfl C_law_value.m C_law_value.kp C_law_value.b .nil pass0 (pa_cons (pe_ix ix_tup (pv 0) pe_int (fun _ _ => rfl)) (pa_cons (pe_call C_law_with.ok (hr.mono (by first | decide | omega)) rfl C_law_with.m C_law_with.kp C_law_with.b .nil pass0 (pa_cons (pv 1) (pa_cons (pe_ix ix_tup (pv 0) pe_int (fun _ _ => rfl)) (pa_cons (pe_call C_law_value.ok (hr.mono (by first | decide | omega)) rfl C_law_value.m C_law_value.kp C_law_value.b .nil pass0 (pa_cons (pe_ix ix_tup (pv 0) pe_int (fun _ _ => rfl)) (pa_cons (pv 1) pa_nil))) pa_nil)))) pa_nil))))) pss_nil)
      (pss_cons (ps_if (pt_cmpR op_eq (pe_ix ix_tup (pv 0) pe_int (fun _ _ => rfl)) pe_str (nomark _)) (pss_cons (ps_set (i := 2) sc_value_bound.nd rfl (Or.inl rfl) (pe_call C_law_value.ok (hr.mono (by first | decide | omega)) rfl C_law_value.m C_law_value.kp C_law_value.b .nil pass0 (pa_cons (pe_ix ix_tup (pv 0) pe_int (fun _ _ => rfl)) (pa_cons (pv 1) pa_nil))))
      (pss_cons (ps_for PassesOwn.never rfl (pi_range1 (by rfl) T.range (pa_cons (pe_ix ix_tup (pv 0) pe_int (fun _ _ => rfl)) pa_nil)) (pg_name (i := 3) sc_value_bound.nd rfl (Or.inl rfl)) (pss_one (ps_set (i := 2) sc_value_bound.nd rfl (Or.inl rfl) (pe_call C_law_value.ok (hr.mono (by first | decide | omega)) rfl C_law_value.m C_law_value.kp C_law_value.b .nil pass0 (pa_cons (pe_ix ix_tup (pv 0) pe_int (fun _ _ => rfl)) (pa_cons (pe_call C_law_with.ok (hr.mono (by first | decide | omega)) rfl C_law_with.m C_law_with.kp C_law_with.b .nil pass0 (pa_cons (pv 1) (pa_cons (pe_ix ix_tup (pv 0) pe_int (fun _ _ => rfl)) (pa_cons (pv 2) pa_nil)))) pa_nil))))))
      (pss_one (ps_ret (pv 2))))) pss_nil)
      (pss_cons (ps_if (pt_cmpR op_eq (pe_ix ix_tup (pv 0) pe_int (fun _ _ => rfl)) pe_str (nomark _)) (pss_one (ps_ret (pe_call C_law_value.ok (hr.mono (by first | decide | omega)) rfl C_law_value.m C_law_value.kp C_law_value.b .nil pass0 (pa_cons (pe_ix ix_tup (pv 0) pe_int (fun _ _ => rfl)) (pa_cons (pe_call C_law_with.ok (hr.mono (by first | decide | omega)) rfl C_law_with.m C_law_with.kp C_law_with.b .nil pass0 (pa_cons (pv 1) (pa_cons (pe_ix ix_tup (pv 0) pe_int (fun _ _ => rfl)) (pa_cons (pe_lst (pa_cons (pe_ix ix_tup (pv 0) pe_int (fun _ _ => rfl)) (pa_cons (pe_ix ix_tup (pv 0) pe_int (fun _ _ => rfl)) (pa_cons (pv 1) pa_nil)))) pa_nil)))) pa_nil))))) pss_nil)
      (pss_cons (ps_set (i := 4) sc_value_bound.nd rfl (Or.inl rfl) (pe_dget (hu_of hr) (pv 1) (pe_ix ix_tup (pv 0) pe_int (fun _ _ => rfl)) (fun _ _ => rfl)))
      (pss_one (ps_ret (pe_call C_law_value.ok (hr.mono (by first | decide | omega)) rfl C_law_value.m C_law_value.kp C_law_value.b .nil pass0 (pa_cons (pe_ix ix_list (pv 4) pe_int (fun _ _ => rfl)) (pa_cons (pe_call C_law_with.ok (hr.mono (by first | decide | omega)) rfl C_law_with.m C_law_with.kp C_law_with.b .nil pass0 (pa_cons (pe_ix ix_list (pv 4) pe_int (fun _ _ => rfl)) (pa_cons (pe_ix ix_list (pv 4) pe_int (fun _ _ => rfl)) (pa_cons (pe_call C_law_value.ok (hr.mono (by first | decide | omega)) rfl C_law_value.m C_law_value.kp C_law_value.b .nil pass0 (pa_cons (pe_ix ix_tup (pv 0) pe_int (fun _ _ => rfl)) (pa_cons (pv 1) pa_nil))) pa_nil)))) pa_nil))))))))), ?_⟩
  obtain ⟨p, vs, rfl, hp, hvs⟩ := ht.open
  rw [t.head_eq] at hp
  obtain ⟨kvs, hk, hkl⟩ := hE.dict
  refine ⟨_, rfl, p, _, _, _, rfl, rfl, SqT.of hp, atI_n (n := 0) rfl rfl, rfl, _, rfl, ite2 (fun c1 => ?_) fun c1 => ?_⟩
  · obtain ⟨x, a, b, rfl⟩ := w_let (str_w .let c1)
    match vs, hvs, hp with
    | [v1, v2], ⟨ha, hb, _⟩, hp =>
    simp only [dpt, Tm.deep] at hd hz
    refine ⟨_, rfl, p, _, _, _, rfl, rfl, SqT.of hp, atI_n (n := 3) rfl rfl, _, rfl, _, rfl, p, _, _, _, rfl, rfl, SqT.of hp, atI_n (n := 1) rfl rfl, ?_⟩
    refine ⟨_, rfl, p, _, _, _, rfl, rfl, SqT.of hp, atI_n (n := 2) rfl rfl, _, rfl, a, v1, nd, Γ, ρ, δ, c, rfl, ha, hs.1, hE, by omega, by omega, hok.2.1, fun H1 e1 => ?_⟩
    refine ⟨nd, x, _, kvs, rfl, e1 _ _ hk, by omega, fun np H2 _ e2 hnp => ?_⟩
    have s2 := e1.trans e2
    exact ⟨b, v2, np, _, _, _, c + 1, rfl, hb.mono (.of_same s2), hs.2, hE.setv s2 hk hnp (hE.in hs.1), by omega, by omega, hok.2.2, fun H' e3 => q H' (s2.trans e3)⟩
  refine ⟨_, rfl, p, _, _, _, rfl, rfl, SqT.of hp, atI_n (n := 0) rfl rfl, rfl, _, rfl, ite2 (fun c2 => ?_) fun c2 => ?_⟩
  · obtain ⟨m, x, a, b, rfl⟩ := w_turns (str_w .turns c2)
    match vs, hvs, hp with
    | [v1, v2], ⟨ha, hb, _⟩, hp =>
    simp only [dpt, Tm.deep] at hd hz
    refine ⟨_, rfl, p, _, _, _, rfl, rfl, SqT.of hp, atI_n (n := 3) rfl rfl, _, rfl, a, v1, nd, Γ, ρ, δ, c, rfl, ha, hs.1, hE, by omega, by omega, hok.2.1, fun H1 e1 => ?_⟩
    refine ⟨_, rfl, p, _, _, _, rfl, rfl, SqT.of (e1 _ _ hp), atI_n (n := 1) rfl rfl, m, rfl, by have := hok.1.1; omega, by have := hok.1.1; omega, ?_⟩
    have hm := hok.1.1
    have hg : ∀ i, In i → In (vl b (ρ.set x (.val i))) := fun i hi => by
      have := vl_in b (ρ := ρ.set x (.val i)) hs.2 (fun y hy => ?_) fun y hy => ?_
      · exact this
      · unfold Sco.set at hy
        by_cases z : y = x
        · exact ⟨i, if_pos z, hi⟩
        · rw [if_neg z] at hy
          obtain ⟨j, e, hj⟩ := hE.vals y hy
          exact ⟨j, (if_neg z).trans e, hj⟩
      · unfold Sco.set at hy
        by_cases z : y = x
        · rw [if_pos z] at hy; cases hy
        · rw [if_neg z] at hy
          obtain ⟨φ, e, hj⟩ := hE.fns y hy
          exact ⟨φ, (if_neg z).trans e, hj⟩
    refine for_range (lo := 0) (n := m.toNat) (fun i σ H' => ∃ o1 : Option V, σ = [some (.ref p), some (.ref nd), some (.int (iter (fun i => vl b (ρ.set x (.val i))) i (vl a ρ))), o1, none] ∧ Same H H') ⟨none, rfl, e1⟩ ?_ ?_
    · rintro i σ H2 hi ⟨o1, rfl, e2⟩
      refine ⟨_, rfl, p, _, _, _, rfl, rfl, SqT.of (e2 _ _ hp), atI_n (n := 4) rfl rfl, _, rfl, _, rfl, p, _, _, _, rfl, rfl, SqT.of (e2 _ _ hp), atI_n (n := 2) rfl rfl, _, rfl, nd, x, _, kvs, rfl, e2 _ _ hk, by omega, fun np H3 _ e3 hnp => ?_⟩
      have s3 := e2.trans e3
      refine ⟨b, v2, np, _, _, _, c + 1, rfl, hb.mono (.of_same s3), hs.2, hE.setv s3 hk hnp (.iter hg i (hE.in hs.1)), by omega, by omega, hok.2.2, fun H' e4 => ⟨some (.int (0 + (i : Int))), ?_, s3.trans e4⟩⟩
      rw [iter_succ]
      rfl
    · rintro σ H2 ⟨o1, rfl, e2⟩
      exact ⟨_, rfl, q H2 e2⟩
  refine ⟨_, rfl, p, _, _, _, rfl, rfl, SqT.of hp, atI_n (n := 0) rfl rfl, rfl, _, rfl, ite2 (fun c3 => ?_) fun c3 => ?_⟩
  · obtain ⟨g, x, k, a, b, rfl⟩ := w_def (str_w .def c3)
    match vs, hvs, hp with
    | [v1, v2], ⟨ha, hb, _⟩, hp =>
    simp only [dpt, Tm.deep] at hd hz
    refine ⟨_, rfl, p, _, _, _, rfl, rfl, SqT.of hp, atI_n (n := 5) rfl rfl, _, rfl, _, rfl, p, _, _, _, rfl, rfl, SqT.of hp, atI_n (n := 1) rfl rfl, ?_⟩
    refine ⟨_, rfl, p, _, _, _, rfl, rfl, SqT.of hp, atI_n (n := 2) rfl rfl, _, rfl, p, _, _, _, rfl, rfl, SqT.of hp, atI_n (n := 4) rfl rfl, _, rfl, sz 3, fun l hl => ?_⟩
    have e1 := same_new hl (.lst [.str x, v1, .ref nd])
    refine ⟨nd, g, _, kvs, rfl, e1 _ _ hk, by omega, fun np H2 _ e2 hnp => ?_⟩
    have s2 := e1.trans e2
    exact ⟨b, v2, np, _, _, _, c + 1, rfl, hb.mono (.of_same s2), hs.2, hE.setf s2 hk hnp (e2 _ _ upd_same) (ha.mono (.of_same s2)) hs.1 (Nat.le_refl _) (by omega) hok.2.1, by omega, by omega, hok.2.2, fun H' e3 => q H' (s2.trans e3)⟩
  have hw : t.w = .use := by
    simp only [List.mem_cons, List.not_mem_nil, or_false] at hu
    rcases hu with h | h | h | h
    · exact absurd h (str_nw .let c1)
    · exact absurd h (str_nw .turns c2)
    · exact absurd h (str_nw .def c3)
    · exact h
  obtain ⟨g, a, rfl⟩ := w_use hw
  match vs, hvs, hp with
  | [v1], ⟨ha, _⟩, hp =>
  simp only [dpt, Tm.deep] at hd hz
  have hE' := hE
  cases hE' with
  | mk cl h1 h2 h3 h4 h5 =>
  rw [hk] at h1
  cases h1
  obtain ⟨a1, a2, a3, a4, a5, a6, a7, a8⟩ := h4 g hs.1
  have hcE := h5 g hs.1
  generalize cl g = z at a1 a2 a3 a4 a5 a6 a7 a8 hcE
  obtain ⟨kz, hkz, hkzl⟩ := hcE.dict
  refine ⟨_, rfl, _, rfl, p, _, _, _, rfl, rfl, SqT.of hp, atI_n (n := 1) rfl rfl, nd, _, rfl, a1 ▸ DGet.k (k := Sum.inr g) hk, ?_⟩
  refine ⟨_, rfl, z.q, _, _, _, rfl, rfl, SqL.of a2, atI_n (n := 1) rfl rfl, _, rfl, z.q, _, _, _, rfl, rfl, SqL.of a2, atI_n (n := 2) rfl rfl, _, rfl, z.q, _, _, _, rfl, rfl, SqL.of a2, atI_n (n := 0) rfl rfl, ?_⟩
  refine ⟨_, rfl, p, _, _, _, rfl, rfl, SqT.of hp, atI_n (n := 2) rfl rfl, _, rfl, a, v1, nd, Γ, ρ, δ, c, rfl, ha, hs.2, hE, by omega, by omega, hok.2, fun H1 e1 => ?_⟩
  refine ⟨z.nd, z.y, _, kz, rfl, e1 _ _ hkz, by omega, fun np H2 _ e2 hnp => ?_⟩
  have s2 := e1.trans e2
  have e3 : vl (.use g a) ρ = vl z.a (z.ρ.set z.y (.val (vl a ρ))) := by show (ρ g).app _ = _; rw [a5]; rfl
  rw [e3] at q
  exact ⟨z.a, z.v, np, _, _, _, z.c + 1, rfl, a3.mono (.of_same s2), a4, hcE.setv s2 hkz hnp (hE.in hs.2), by omega, by omega, a8, fun H' e4 => q H' (s2.trans e4)⟩
theorem all_value (F : Fun K "_law_value" "_law_value" s_value f fd) (F2 : Fun K "_law_value_bound" "_law_value_bound" s_value_bound f2 fd2) (T : Txt mg) (C_law_with : Cal P w K mg base "_law_with" ["_law_names", "_law_name_here", "_law_value_here"] 1 spWith f1 fd1)
    (m : mg "_law_value" = some (.ref f)) (kp : PySem.W.keepIn K (.ref f) = true) (b : Binds K fd ["_law_term_here", "_law_names"] []) (m2 : mg "_law_value_bound" = some (.ref f2)) (kp2 : PySem.W.keepIn K (.ref f2) = true) (b2 : Binds K fd2 ["_law_term_here", "_law_names"] []) :
    ∀ n, FnOk P w K mg base CX0 (1 + n) f fd ["_law_term_here", "_law_names"] (spVal n) ∧ FnOk P w K mg base CX0 (1 + n) f2 fd2 ["_law_term_here", "_law_names"] (spValB n)
  | 0 => ⟨fn_none fun vs H Q E h => by
      obtain ⟨t, tv, nd, Γ, ρ, δ, c, _, _, _, _, h0, _⟩ := h
      have := dpt_pos t δ
      omega, fn_none fun vs H Q E h => by
      obtain ⟨t, tv, nd, Γ, ρ, δ, c, _, _, hu, _, _, h0, _⟩ := h
      cases t with
      | letx x a b => simp only [dpt] at h0; omega
      | turns m x a b => simp only [dpt] at h0; omega
      | deff f x k a b => simp only [dpt] at h0; omega
      | use f a => simp only [dpt] at h0; omega
      | num m => simp [Tm.w] at hu
      | name x => simp [Tm.w] at hu
      | cond c a b => simp [Tm.w] at hu
      | bin o a b => cases o <;> simp [Tm.w, Bin.w] at hu
      | un o a => cases o <;> simp [Tm.w, Un.w] at hu⟩
  | n + 1 =>
    have ⟨h1, h2⟩ := all_value F F2 T C_law_with m kp b m2 kp2 b2 n
    ⟨ok_value F T ⟨h1, m, kp, b⟩ ⟨h2, m2, kp2, b2⟩, ok_value_bound F2 T C_law_with ⟨h1, m, kp, b⟩⟩
end

/-! ### the law's count of what is gone through -/
abbrev Cst := Str → Int
def Cst.set (κ : Cst) (x : Str) (v : Int) : Cst := fun y => if y = x then v else κ y
def cst : Tm → Cst → Int
  | .num _, _ => 1
  | .name _, _ => 1
  | .bin _ a b, κ => 1 + (cst a κ + (cst b κ + 0))
  | .cond c a b, κ => 1 + (cst c κ + (cst a κ + (cst b κ + 0)))
  | .letx _ a b, κ => 1 + (cst a κ + (cst b κ + 0))
  | .turns m _ a b, κ => 1 + cst a κ + m * cst b κ
  | .deff f _ _ a b, κ => 1 + cst b (κ.set f (cst a κ))
  | .use f a, κ => 1 + κ f + cst a κ
  | .un _ a, κ => 1 + (cst a κ + 0)
def CEnv (H : Hp) (nd : Addr) (Γ : Sco) (κ : Cst) (c : Nat) : Prop := ∃ kvs, H nd = some (.dK kvs) ∧ kvs.length ≤ c ∧ ∀ f, Γ f = some true → valV kvs (.inr f) = some (.int (κ f))
theorem CEnv.mono {H H' : Hp} (e : Same H H') {nd : Addr} {Γ : Sco} {κ : Cst} {c : Nat} : CEnv H nd Γ κ c → CEnv H' nd Γ κ c := fun ⟨kvs, a, b, d⟩ => ⟨kvs, e _ _ a, b, d⟩
theorem CEnv.weak {H : Hp} {nd : Addr} {Γ : Sco} {κ : Cst} {c : Nat} (x : Str) : CEnv H nd Γ κ c → CEnv H nd (Γ.set x false) κ c := fun ⟨kvs, a, b, d⟩ => ⟨kvs, a, b, fun f hf => by
  unfold Sco.set at hf
  by_cases z : f = x
  · rw [if_pos z] at hf; cases hf
  · rw [if_neg z] at hf; exact d f hf⟩
theorem CEnv.setf {H H' : Hp} {nd p : Addr} {Γ : Sco} {κ : Cst} {c : Nat} {g : Str} {i : Int} {kvs : List (Key × V)} (h : CEnv H nd Γ κ c) (hk : H nd = some (.dK kvs)) (hp : H' p = some (.dK (putK kvs (.inr g) (.int i)))) :
    CEnv H' p (Γ.set g true) (κ.set g i) (c + 1) := by
  obtain ⟨kvs', a, b, d⟩ := h
  rw [hk] at a
  cases a
  refine ⟨_, hp, by have := length_putK kvs (.inr g) (.int i); omega, fun f hf => ?_⟩
  rw [valV_put]
  unfold Sco.set at hf
  unfold Cst.set
  by_cases z : f = g
  · rw [if_pos (by rw [z]), if_pos z]
  · rw [if_neg z] at hf ⊢
    rw [if_neg (fun q => z (Sum.inr.inj q))]
    exact d f hf
theorem CEnv.nil {H : Hp} {nd : Addr} {κ : Cst} (h : H nd = some (.dK [])) : CEnv H nd .nil κ 0 := ⟨[], h, Nat.le_refl _, fun _ h => by cases h⟩
def spCost (n : Nat) : Sp := fun vs H Q _ => ∃ (t : Tm) (tv : V) (nd : Addr) (Γ : Sco) (κ : Cst) (c : Nat), vs = [tv, .ref nd] ∧ TmAt H t tv ∧ Scp Γ t ∧ CEnv H nd Γ κ c ∧ t.deep ≤ n ∧ c + t.deep ≤ 900 ∧ t.Ok ∧ ∀ H', Same H H' → Q (.int (cst t κ)) H'
abbrev s_cost : Stmt := topS 58
theorem sc_cost : FnScope ["_law_term_here", "_law_functions", "_law_word", "_law_more", "_law_part"] ["_law_term_here", "_law_functions"] (defScope s_cost) := ⟨rfl, rfl, rfl, by decide +kernel, rfl, by decide +kernel, by decide +kernel⟩
/-- parts under the same names, where a let's x is no function -/
theorem Scp.part {Γ : Sco} {t u : Tm} (hw : t.w ∉ [W.turns, .def, .use]) (h : Scp Γ t) (m : u ∈ t.parts) : Scp Γ u ∨ ∃ x, Scp (Γ.set x false) u := by
  cases t with
  | num n => cases m
  | name n => cases m
  | bin o a b =>
    simp only [Tm.parts, List.mem_cons, List.not_mem_nil, or_false] at m
    rcases m with rfl | rfl
    · exact .inl h.1
    · exact .inl h.2
  | cond c a b =>
    simp only [Tm.parts, List.mem_cons, List.not_mem_nil, or_false] at m
    rcases m with rfl | rfl | rfl
    · exact .inl h.1
    · exact .inl h.2.1
    · exact .inl h.2.2
  | letx x a b =>
    simp only [Tm.parts, List.mem_cons, List.not_mem_nil, or_false] at m
    rcases m with rfl | rfl
    · exact .inl h.1
    · exact .inr ⟨x, h.2⟩
  | turns n x a b => exact absurd (by simp [Tm.w]) hw
  | deff f x k a b => exact absurd (by simp [Tm.w]) hw
  | use f a => exact absurd (by simp [Tm.w]) hw
  | un o a =>
    simp only [Tm.parts, List.mem_cons, List.not_mem_nil, or_false] at m
    subst m
    exact .inl h
def csum (κ : Cst) : List Tm → Int
  | [] => 0
  | t :: r => cst t κ + csum κ r
theorem csum_sum (κ : Cst) : ∀ r : List Tm, (r.map fun t => cst t κ).sum = csum κ r
  | [] => rfl
  | t :: r => by rw [List.map_cons, List.sum_cons, csum_sum κ r]; rfl
theorem cst_parts {t : Tm} (κ : Cst) (hw : t.w ∉ [W.num, .name, .turns, .def, .use]) : cst t κ = 1 + csum κ t.parts := by
  cases t with
  | num n => exact absurd (by simp [Tm.w]) hw
  | name n => exact absurd (by simp [Tm.w]) hw
  | turns n x a b => exact absurd (by simp [Tm.w]) hw
  | deff f x k a b => exact absurd (by simp [Tm.w]) hw
  | use f a => exact absurd (by simp [Tm.w]) hw
  | _ => rfl
section
variable {P : Program} {w : World} {K : PySem.W.Frag} {mg : Str → Option Value} {base : Heap} {f f1 f2 f3 f4 f5 f6 f7 f8 : Addr} {fd fd1 fd2 fd3 fd4 fd5 fd6 fd7 fd8 : FuncData}
theorem ok_cost {n : Nat} (F : Fun K "_law_cost" "_law_cost" s_cost f fd) (T : Txt mg) (C_law_parts : Cal P w K mg base "_law_parts" ["_law_term_here"] 1 spParts f1 fd1) (C_law_with : Cal P w K mg base "_law_with" ["_law_names", "_law_name_here", "_law_value_here"] 1 spWith f2 fd2)
    (C_law_cost : Cal P w K mg base "_law_cost" ["_law_term_here", "_law_functions"] (1 + n) (spCost n) f fd) : FnOk P w K mg base CX0 (1 + n + 1) f fd ["_law_term_here", "_law_functions"] (spCost (n + 1)) := by
  refine F.ok sc_cost (fun vs H Q E h => ?_) (fun cdv A outer s H vs Q E hr h => ?_)
  · obtain ⟨t, tv, nd, Γ, κ, c, rfl, _⟩ := h
    rfl
  obtain ⟨t, tv, nd, Γ, κ, c, rfl, ht, hs, hE, hd, hz, hok, q⟩ := h
  refine ⟨_, (pss_cons (ps_set (i := 2) sc_cost.nd rfl (Or.inl rfl) (pe_ix ix_tup (pv 0) pe_int (fun _ _ => rfl)))
      (pss_cons (ps_if (pt_k (PW.pt (pw_or (pt_cmpR op_eq (pv 2) pe_str (nomark _)) (pw_or1 (pt_cmpR op_eq (pv 2) pe_str (nomark _)))))) (pss_one (ps_ret pe_int)) pss_nil)
      (pss_cons (ps_if (pt_cmpR op_eq (pv 2) pe_str (nomark _)) (pss_one (ps_ret (pe_op op_add (pe_op op_add pe_int (pe_call C_law_cost.ok (hr.mono (by first | decide | omega)) rfl C_law_cost.m C_law_cost.kp C_law_cost.b .nil pass0 (pa_cons (pe_ix ix_tup (pv 0) pe_int (fun _ _ => rfl)) (pa_cons (pv 1) pa_nil)))) (pe_op op_mul (pe_ix ix_tup (pv 0) pe_int (fun _ _ => rfl)) (pe_call C_law_cost.ok (hr.mono (by first | decide | omega)) rfl C_law_cost.m C_law_cost.kp C_law_cost.b .nil pass0 (pa_cons (pe_ix ix_tup (pv 0) pe_int (fun _ _ => rfl)) (pa_cons (pv 1) pa_nil))))))) pss_nil)
      (pss_cons (ps_if (pt_cmpR op_eq (pv 2) pe_str (nomark _)) (pss_cons (ps_set (i := 3) sc_cost.nd rfl (Or.inl rfl) (pe_call C_law_with.ok (hr.mono (by first | decide | omega)) rfl C_law_with.m C_law_with.kp C_law_with.b .nil pass0 (pa_cons (pv 1) (pa_cons (pe_ix ix_tup (pv 0) pe_int (fun _ _ => rfl)) (pa_cons (pe_call C_law_cost.ok (hr.mono (by first | decide | omega)) rfl C_law_cost.m C_law_cost.kp C_law_cost.b .nil pass0 (pa_cons (pe_ix ix_tup (pv 0) pe_int (fun _ _ => rfl)) (pa_cons (pv 1) pa_nil))) pa_nil)))))
      (pss_one (ps_ret (pe_op op_add pe_int (pe_call C_law_cost.ok (hr.mono (by first | decide | omega)) rfl C_law_cost.m C_law_cost.kp C_law_cost.b .nil pass0 (pa_cons (pe_ix ix_tup (pv 0) pe_int (fun _ _ => rfl)) (pa_cons (pv 3) pa_nil))))))) pss_nil)
      (pss_cons (ps_if (pt_cmpR op_eq (pv 2) pe_str (nomark _)) (pss_one (ps_ret (pe_op op_add (pe_op op_add pe_int (pe_dget (hu_of hr) (pv 1) (pe_ix ix_tup (pv 0) pe_int (fun _ _ => rfl)) (fun _ _ => rfl))) (pe_call C_law_cost.ok (hr.mono (by first | decide | omega)) rfl C_law_cost.m C_law_cost.kp C_law_cost.b .nil pass0 (pa_cons (pe_ix ix_tup (pv 0) pe_int (fun _ _ => rfl)) (pa_cons (pv 1) pa_nil)))))) pss_nil)
      (pss_one (ps_ret (pe_op op_add pe_int (pe_callB (cr_sum rfl) (by rfl) T.sum (by decide +kernel) (pa_cons (pe_lc (own := [("_law_part", 4)]) (g := (gName 4)) (tt := tYes) (by rfl) sc_cost.nd (pi_list (pe_call C_law_parts.ok (hr.mono (by first | decide | omega)) rfl C_law_parts.m C_law_parts.kp C_law_parts.b .nil pass0 (pa_cons (pv 0) pa_nil))) (blkOk_by (own := [("_law_part", 4)]) (N := ["_law_term_here", "_law_functions", "_law_word", "_law_more", "_law_part"]) (sc := defScope s_cost) (by decide +kernel)) (fun _ _ _ _ _ => (pg_name (i := 4) sc_cost.nd rfl (Or.inl rfl))) (fun _ _ _ _ _ => pts_nil) (fun _ _ _ _ _ => (pe_call C_law_cost.ok (hr.mono (by first | decide | omega)) rfl C_law_cost.m C_law_cost.kp C_law_cost.b .nil pass0 (pa_cons (pv 4) (pa_cons (pv 1) pa_nil))))) pa_nil)))))))))), ?_⟩
  obtain ⟨p, vs, rfl, hp, hvs⟩ := ht.open
  rw [t.head_eq] at hp
  obtain ⟨kvs, hk, hkl, hkf⟩ := id hE
  refine ⟨_, rfl, p, _, _, _, rfl, rfl, SqT.of hp, atI_n (n := 0) rfl rfl, ?_⟩
  refine ⟨fun b H' => H = H' ∧ (b = true → ∃ m, cst t κ = 1 ∧ m = t) ∧ (b = false → t.w ≠ .num ∧ t.w ≠ .name), ?_, ?_⟩
  · refine ⟨_, rfl, rfl, _, rfl, ite2 (fun c1 => ?_) fun c1 => ?_⟩
    · obtain ⟨m, rfl⟩ := w_num (str_w .num c1)
      exact ⟨rfl, fun _ => ⟨_, rfl, rfl⟩, fun z => nomatch z⟩
    · refine ⟨_, rfl, rfl, _, rfl, rfl, fun z => ?_, fun z => ⟨str_nw .num c1, fun y => ?_⟩⟩
      · obtain ⟨m, rfl⟩ := w_name (str_w .name z)
        exact ⟨_, rfl, rfl⟩
      · rw [y] at z
        exact (of_decide_eq_false z) rfl
  rintro b _ ⟨rfl, hbt, hbf⟩
  cases b with
  | true =>
    obtain ⟨_, e, _⟩ := hbt rfl
    refine iteT ?_
    rw [e] at q
    exact q H (Same.refl H)
  | false =>
  obtain ⟨n1, n2⟩ := hbf rfl
  refine iteF ⟨_, rfl, rfl, _, rfl, ite2 (fun c1 => ?_) fun c1 => ?_⟩
  · obtain ⟨m, x, a, b, rfl⟩ := w_turns (str_w .turns c1)
    match vs, hvs, hp with
    | [v1, v2], ⟨ha, hb, _⟩, hp =>
    simp only [Tm.deep] at hd hz
    refine ⟨_, rfl, p, _, _, _, rfl, rfl, SqT.of hp, atI_n (n := 3) rfl rfl, _, rfl, a, v1, nd, Γ, κ, c, rfl, ha, hs.1, hE, by omega, by omega, hok.2.1, fun H1 e1 => ⟨_, _, rfl, rfl, ?_⟩⟩
    refine ⟨_, rfl, p, _, _, _, rfl, rfl, SqT.of (e1 _ _ hp), atI_n (n := 1) rfl rfl, _, rfl, p, _, _, _, rfl, rfl, SqT.of (e1 _ _ hp), atI_n (n := 4) rfl rfl, _, rfl, b, v2, nd, _, κ, c, rfl, hb.mono (.of_same e1), hs.2, (hE.mono e1).weak x, by omega, by omega, hok.2.2, fun H2 e2 => ?_⟩
    have hm := hok.1.1
    exact ⟨_, _, rfl, rfl, .inl ⟨by omega, by omega⟩, _, _, rfl, rfl, q H2 (e1.trans e2)⟩
  refine ⟨_, rfl, rfl, _, rfl, ite2 (fun c2 => ?_) fun c2 => ?_⟩
  · obtain ⟨g, x, k, a, b, rfl⟩ := w_def (str_w .def c2)
    match vs, hvs, hp with
    | [v1, v2], ⟨ha, hb, _⟩, hp =>
    simp only [Tm.deep] at hd hz
    refine ⟨_, rfl, _, rfl, p, _, _, _, rfl, rfl, SqT.of hp, atI_n (n := 1) rfl rfl, _, rfl, p, _, _, _, rfl, rfl, SqT.of hp, atI_n (n := 4) rfl rfl, _, rfl, a, v1, nd, _, κ, c, rfl, ha, hs.1, hE.weak x, by omega, by omega, hok.2.1, fun H1 e1 => ?_⟩
    refine ⟨nd, g, _, kvs, rfl, e1 _ _ hk, by omega, fun np H2 _ e2 hnp => ?_⟩
    have s2 := e1.trans e2
    refine ⟨_, rfl, p, _, _, _, rfl, rfl, SqT.of (s2 _ _ hp), atI_n (n := 5) rfl rfl, _, rfl, b, v2, np, _, _, c + 1, rfl, hb.mono (.of_same s2), hs.2, hE.setf hk hnp, by omega, by omega, hok.2.2, fun H3 e3 => ?_⟩
    exact ⟨_, _, rfl, rfl, q H3 (s2.trans e3)⟩
  refine ⟨_, rfl, rfl, _, rfl, ite2 (fun c3 => ?_) fun c3 => ?_⟩
  · obtain ⟨g, a, rfl⟩ := w_use (str_w .use c3)
    match vs, hvs, hp with
    | [v1], ⟨ha, _⟩, hp =>
    simp only [Tm.deep] at hd hz
    refine ⟨_, rfl, _, rfl, p, _, _, _, rfl, rfl, SqT.of hp, atI_n (n := 1) rfl rfl, nd, _, rfl, (hkf g hs.1) ▸ DGet.k (k := Sum.inr g) hk, _, _, rfl, rfl, ?_⟩
    refine ⟨_, rfl, p, _, _, _, rfl, rfl, SqT.of hp, atI_n (n := 2) rfl rfl, _, rfl, a, v1, nd, Γ, κ, c, rfl, ha, hs.2, hE, by omega, by omega, hok.2, fun H1 e1 => ⟨_, _, rfl, rfl, q H1 e1⟩⟩
  have hnw : t.w ∉ [W.turns, .def, .use] := by
    have a1 := str_nw .turns c1
    have a2 := str_nw .def c2
    have a3 := str_nw .use c3
    simp [a1, a2, a3]
  have hnw2 : t.w ∉ [W.num, .name, .turns, .def, .use] := by
    have a1 := str_nw .turns c1
    have a2 := str_nw .def c2
    have a3 := str_nw .use c3
    simp [a1, a2, a3, n1, n2]
  refine ⟨_, rfl, t, .ref p, rfl, ht, fun r ws H1 nr e1 hr1 hws => ?_⟩
  refine ⟨r, rfl, ⟨_, SqL.of hr1⟩, fun D hD => ?_⟩
  have wl := hws.len
  have t3 := t.len_parts
  refine lc_list (K := K) (a := r) (xs := ws) (fun i H' => Same H1 H' ∧ H' D = some (.lst (((t.parts.take i).map fun t => cst t κ).map V.int))) ⟨same_new hD _, upd_same⟩ (fun i H' _ z => SqL.of (z.1 _ _ hr1)) ?_ ?_
  · rintro i x H' hi ⟨g, hd'⟩
    obtain ⟨u, hu⟩ : ∃ u, t.parts[i]? = some u := by
      have hil : i < ws.length := (List.getElem?_eq_some_iff.mp hi).1
      exact ⟨_, List.getElem?_eq_getElem (by omega)⟩
    obtain ⟨v', hv', hta'⟩ := hws.get hu
    rw [hi] at hv'
    cases hv'
    have mu := List.mem_of_getElem? hu
    have dp := Tm.part_deep mu
    have s2 := e1.trans g
    have fin : ∀ H2, Same H' H2 → H2 D = some (.lst (((t.parts.take i).map fun t => cst t κ).map V.int)) ∧ (((t.parts.take i).map fun t => cst t κ).map V.int).length < sizeLine ∧ (Same H1 (upd H2 D (.lst ((((t.parts.take i).map fun t => cst t κ).map V.int) ++ [.int (cst u κ)]))) ∧ upd H2 D (.lst ((((t.parts.take i).map fun t => cst t κ).map V.int) ++ [.int (cst u κ)])) D = some (.lst (((t.parts.take (i + 1)).map fun t => cst t κ).map V.int))) := fun H2 e2 => by
      refine ⟨e2 _ _ hd', small1000 (by rw [List.length_map, List.length_map, List.length_take]; omega), fun b o z => ?_, ?_⟩
      · rw [upd_ne (ne_of_none z hD)]
        exact e2 _ _ (g b o z)
      · rw [upd_same, List.take_add_one, hu, List.map_append, List.map_append]
        rfl
    rcases Scp.part hnw hs mu with hsu | ⟨y, hsu⟩
    · exact ⟨rfl, _, rfl, _, rfl, u, x, nd, Γ, κ, c, rfl, hta'.mono (.of_same g), hsu, hE.mono s2, by omega, by omega, hok.part mu, fun H2 e2 => ⟨_, fin H2 e2⟩⟩
    · exact ⟨rfl, _, rfl, _, rfl, u, x, nd, _, κ, c, rfl, hta'.mono (.of_same g), hsu, (hE.mono s2).weak y, by omega, by omega, hok.part mu, fun H2 e2 => ⟨_, fin H2 e2⟩⟩
  · rintro H2 ⟨g, hd'⟩
    rw [wl, List.take_length] at hd'
    refine ⟨D, _, rfl, SqL.of hd', _, _, rfl, rfl, ?_⟩
    dsimp only
    rw [csum_sum, ← cst_parts κ hnw2]
    exact q H2 (e1.trans g)
theorem all_cost (F : Fun K "_law_cost" "_law_cost" s_cost f fd) (T : Txt mg) (C_law_parts : Cal P w K mg base "_law_parts" ["_law_term_here"] 1 spParts f1 fd1) (C_law_with : Cal P w K mg base "_law_with" ["_law_names", "_law_name_here", "_law_value_here"] 1 spWith f2 fd2)
    (m : mg "_law_cost" = some (.ref f)) (kp : PySem.W.keepIn K (.ref f) = true) (b : Binds K fd ["_law_term_here", "_law_functions"] []) : ∀ n, FnOk P w K mg base CX0 (1 + n) f fd ["_law_term_here", "_law_functions"] (spCost n)
  | 0 => fn_none fun vs H Q E h => by
      obtain ⟨t, tv, nd, Γ, κ, c, _, _, _, _, h0, _⟩ := h
      cases t <;> simp only [Tm.deep] at h0 <;> omega
  | n + 1 => ok_cost F T C_law_parts C_law_with ⟨all_cost F T C_law_parts C_law_with m kp b n, m, kp, b⟩
end

/-! ### the law's term without quotes, holes and lifts -/
def wo : Tm → Tm
  | .num m => .num m
  | .name x => .name x
  | .bin o a b => .bin o (wo a) (wo b)
  | .cond c a b => .cond (wo c) (wo a) (wo b)
  | .letx x a b => .letx x (wo a) (wo b)
  | .turns m x a b => .turns m x (wo a) (wo b)
  | .deff f x _ a b => .deff f x false (wo a) (wo b)
  | .use f a => .use f (wo a)
  | .un .run a => .un .run (wo a)
  | .un _ a => wo a
def spWithout (n : Nat) : Sp := fun vs H Q _ => ∃ (t : Tm) (tv : V), vs = [tv] ∧ TmAt H t tv ∧ t.deep ≤ n ∧ ∀ v H', Same H H' → TmAt H' (wo t) v → Q v H'
abbrev s_without : Stmt := topS 59
theorem sc_without : FnScope ["_law_term_here", "_law_part"] ["_law_term_here"] (defScope s_without) := ⟨rfl, rfl, rfl, by decide +kernel, rfl, by decide +kernel, by decide +kernel⟩
theorem catA {K : PySem.W.Frag} {H : Hp} {a b : Addr} {xs ys : List V} {Q : VK} (ha : H a = some (.tup xs)) (hb : H b = some (.tup ys)) (nx : xs ≠ []) (hl : xs.length + ys.length ≤ 1000) (q : ∀ p H', Same H H' → H' p = some (.tup (xs ++ ys)) → Q (.ref p) H') : rCatA K (.ref a) (.ref b) H Q := by
  refine ⟨a, b, xs, ys, rfl, rfl, SqT.of ha, SqT.of hb, small hl, fun z => absurd z nx, fun _ z => ?_, fun _ _ p hp => q p _ (same_new hp _) upd_same⟩
  subst z
  exact q a H (Same.refl H) (by rw [List.append_nil]; exact ha)
theorem wo_w {t : Tm} (h : t.w ∉ [W.quote, .hole, .lift]) : (wo t).w = t.w ∧ (wo t).parts = t.parts.map wo ∧ (t.w ≠ .def → (wo t).head = t.head) := by
  cases t with
  | un o a => cases o with
    | run => exact ⟨rfl, rfl, fun _ => rfl⟩
    | quote => exact absurd (by simp [Tm.w, Un.w]) h
    | hole => exact absurd (by simp [Tm.w, Un.w]) h
    | lift => exact absurd (by simp [Tm.w, Un.w]) h
  | deff f x k a b => exact ⟨rfl, rfl, fun z => absurd rfl z⟩
  | _ => exact ⟨rfl, rfl, fun _ => rfl⟩
section
variable {P : Program} {w : World} {K : PySem.W.Frag} {mg : Str → Option Value} {base : Heap} {f f1 f2 f3 f4 f5 f6 f7 f8 : Addr} {fd fd1 fd2 fd3 fd4 fd5 fd6 fd7 fd8 : FuncData}
/-- the end of four of its ways: a head h1 at r1, and the parts behind it -/
theorem wo_close {H : Hp} {t : Tm} {hd : List V} {vs : List V} {p : Addr} (hw : t.w ∉ [W.quote, .hole, .lift]) (hh : (wo t).head = hd) (hp : H p = some (.tup (hd ++ vs))) (hv : TmsAt H (t.parts.map wo) vs) : TmAt H (wo t) (.ref p) :=
  TmAt.close (vs := vs) (by rw [hh]; exact hp) (by rw [(wo_w hw).2.1]; exact hv)
theorem ok_without {n : Nat} (F : Fun K "_law_without" "_law_without" s_without f fd) (T : Txt mg) (C_law_without : Cal P w K mg base "_law_without" ["_law_term_here"] (1 + n) (spWithout n) f fd) : FnOk P w K mg base CX0 (1 + n + 1) f fd ["_law_term_here"] (spWithout (n + 1)) := by
  refine F.ok sc_without (fun vs H Q E h => ?_) (fun cdv A outer s H vs Q E hr h => ?_)
  · obtain ⟨t, tv, rfl, _⟩ := h
    rfl
  obtain ⟨t, tv, rfl, ht, hd, q⟩ := h
  refine ⟨_, (pss_cons (ps_if (pt_cmpR op_in_seq (pe_ix ix_tup (pv 0) pe_int (fun _ _ => rfl)) (pe_tup (pa_cons pe_str (pa_cons pe_str (pa_cons pe_str pa_nil)))) (by rfl)) (pss_one (ps_ret (pe_call C_law_without.ok (hr.mono (by first | decide | omega)) rfl C_law_without.m C_law_without.kp C_law_without.b .nil pass0 (pa_cons (pe_ix ix_tup (pv 0) pe_int (fun _ _ => rfl)) pa_nil)))) pss_nil)
      (pss_cons (ps_if (pt_k (PW.pt (pw_or (pt_cmpR op_eq (pe_ix ix_tup (pv 0) pe_int (fun _ _ => rfl)) pe_str (nomark _)) (pw_or1 (pt_cmpR op_eq (pe_ix ix_tup (pv 0) pe_int (fun _ _ => rfl)) pe_str (nomark _)))))) (pss_one (ps_ret (pe_op op_catA (pe_slice sl_tupA (pv 0) po_none (po_some pe_int)) (pe_callTy call_tuple_of (by rfl) T.tuple (by decide +kernel) (pa_cons (pe_lc (own := [("_law_part", 1)]) (g := (gName 1)) (tt := tYes) (by rfl) sc_without.nd (pi_tup (pe_slice sl_tupA (pv 0) (po_some pe_int) po_none)) (blkOk_by (own := [("_law_part", 1)]) (N := ["_law_term_here", "_law_part"]) (sc := defScope s_without) (by decide +kernel)) (fun _ _ _ _ _ => (pg_name (i := 1) sc_without.nd rfl (Or.inl rfl))) (fun _ _ _ _ _ => pts_nil) (fun _ _ _ _ _ => (pe_call C_law_without.ok (hr.mono (by first | decide | omega)) rfl C_law_without.m C_law_without.kp C_law_without.b .nil pass0 (pa_cons (pv 1) pa_nil)))) pa_nil))))) pss_nil)
      (pss_cons (ps_if (pt_cmpR op_eq (pe_ix ix_tup (pv 0) pe_int (fun _ _ => rfl)) pe_str (nomark _)) (pss_one (ps_ret (pe_op op_catA (pe_slice sl_tupA (pv 0) po_none (po_some pe_int)) (pe_callTy call_tuple_of (by rfl) T.tuple (by decide +kernel) (pa_cons (pe_lc (own := [("_law_part", 1)]) (g := (gName 1)) (tt := tYes) (by rfl) sc_without.nd (pi_tup (pe_slice sl_tupA (pv 0) (po_some pe_int) po_none)) (blkOk_by (own := [("_law_part", 1)]) (N := ["_law_term_here", "_law_part"]) (sc := defScope s_without) (by decide +kernel)) (fun _ _ _ _ _ => (pg_name (i := 1) sc_without.nd rfl (Or.inl rfl))) (fun _ _ _ _ _ => pts_nil) (fun _ _ _ _ _ => (pe_call C_law_without.ok (hr.mono (by first | decide | omega)) rfl C_law_without.m C_law_without.kp C_law_without.b .nil pass0 (pa_cons (pv 1) pa_nil)))) pa_nil))))) pss_nil)
      (pss_cons (ps_if (pt_cmpR op_eq (pe_ix ix_tup (pv 0) pe_int (fun _ _ => rfl)) pe_str (nomark _)) (pss_one (ps_ret (pe_op op_catA (pe_op op_catA (pe_slice sl_tupA (pv 0) po_none (po_some pe_int)) (pe_tup (pa_cons pe_str pa_nil))) (pe_callTy call_tuple_of (by rfl) T.tuple (by decide +kernel) (pa_cons (pe_lc (own := [("_law_part", 1)]) (g := (gName 1)) (tt := tYes) (by rfl) sc_without.nd (pi_tup (pe_slice sl_tupA (pv 0) (po_some pe_int) po_none)) (blkOk_by (own := [("_law_part", 1)]) (N := ["_law_term_here", "_law_part"]) (sc := defScope s_without) (by decide +kernel)) (fun _ _ _ _ _ => (pg_name (i := 1) sc_without.nd rfl (Or.inl rfl))) (fun _ _ _ _ _ => pts_nil) (fun _ _ _ _ _ => (pe_call C_law_without.ok (hr.mono (by first | decide | omega)) rfl C_law_without.m C_law_without.kp C_law_without.b .nil pass0 (pa_cons (pv 1) pa_nil)))) pa_nil))))) pss_nil)
      (pss_cons (ps_if (pt_cmpR op_in_seq (pe_ix ix_tup (pv 0) pe_int (fun _ _ => rfl)) (pe_tup (pa_cons pe_str (pa_cons pe_str pa_nil))) (by rfl)) (pss_one (ps_ret (pv 0))) pss_nil)
      (pss_one (ps_ret (pe_op op_catA (pe_tup (pa_cons (pe_ix ix_tup (pv 0) pe_int (fun _ _ => rfl)) pa_nil)) (pe_callTy call_tuple_of (by rfl) T.tuple (by decide +kernel) (pa_cons (pe_lc (own := [("_law_part", 1)]) (g := (gName 1)) (tt := tYes) (by rfl) sc_without.nd (pi_tup (pe_slice sl_tupA (pv 0) (po_some pe_int) po_none)) (blkOk_by (own := [("_law_part", 1)]) (N := ["_law_term_here", "_law_part"]) (sc := defScope s_without) (by decide +kernel)) (fun _ _ _ _ _ => (pg_name (i := 1) sc_without.nd rfl (Or.inl rfl))) (fun _ _ _ _ _ => pts_nil) (fun _ _ _ _ _ => (pe_call C_law_without.ok (hr.mono (by first | decide | omega)) rfl C_law_without.m C_law_without.kp C_law_without.b .nil pass0 (pa_cons (pv 1) pa_nil)))) pa_nil)))))))))), ?_⟩
  obtain ⟨p, vs, rfl, hp, hvs⟩ := ht.open
  have hpw := hp
  rw [t.head_eq] at hpw
  have t3 := t.len_parts
  have vl := hvs.len
  -- the parts, one by one
  have comp : ∀ {H1 : Hp} {D : Addr}, Same H H1 → H1 D = none → ∀ (i : Nat) (x : V) (H' : Hp), vs[i]? = some x → (Same H1 H' ∧ ∃ ws, H' D = some (.lst ws) ∧ TmsAt H' ((t.parts.take i).map wo) ws) →
      ∃ u ws, TmAt H' u x ∧ u.deep ≤ n ∧ ∀ v H'', Same H' H'' → TmAt H'' (wo u) v → H'' D = some (.lst ws) ∧ ws.length < sizeLine ∧ (Same H1 (upd H'' D (.lst (ws ++ [v]))) ∧ ∃ ws', upd H'' D (.lst (ws ++ [v])) D = some (.lst ws') ∧ TmsAt (upd H'' D (.lst (ws ++ [v]))) ((t.parts.take (i + 1)).map wo) ws') := by
    rintro H1 D e1 nD i x H' hi ⟨g, ws, hd', htw⟩
    obtain ⟨u, hu⟩ : ∃ u, t.parts[i]? = some u := by
      have hil : i < vs.length := (List.getElem?_eq_some_iff.mp hi).1
      exact ⟨_, List.getElem?_eq_getElem (by omega)⟩
    obtain ⟨v', hv', hta'⟩ := hvs.get hu
    rw [hi] at hv'
    cases hv'
    have dp := Tm.part_deep (List.mem_of_getElem? hu)
    have lw := htw.len
    rw [List.length_map, List.length_take] at lw
    refine ⟨u, ws, hta'.mono (.of_same (e1.trans g)), by omega, fun v H'' e2 hv => ?_⟩
    have s5 : Tups H'' (upd H'' D (.lst (ws ++ [v]))) := Tups.put (e2 _ _ hd')
    refine ⟨e2 _ _ hd', small1000 (by omega), fun b o z => ?_, _, upd_same, ?_⟩
    · rw [upd_ne (ne_of_none z nD)]
      exact e2 _ _ (g b o z)
    · rw [List.take_add_one, hu, List.map_append]
      exact TmsAt.snoc (hv.mono s5) ((htw.mono (.of_same e2)).mono s5)
  refine ⟨_, rfl, p, _, _, _, rfl, rfl, SqT.of hpw, atI_n (n := 0) rfl rfl, sz 3, fun n1 m1 => ?_⟩
  have s1 := same_new m1 (.tup [V.str "hole", .str "quote", .str "lift"])
  refine ⟨n1, _, rfl, .inr (SqT.of upd_same), rfl, rfl, _, rfl, ?_⟩
  generalize upd H n1 (.tup [V.str "hole", .str "quote", .str "lift"]) = H1 at s1 ⊢
  have hp1 := s1 _ _ hp
  have hpw1 := s1 _ _ hpw
  refine ite2 (fun c1 => ?_) fun c1 => ?_
  · have hu := inW.mp (show inV (V.str t.w.str) ([W.hole, W.quote, W.lift].map fun w => V.str w.str) = true from c1)
    obtain ⟨o, a, rfl, ho⟩ : ∃ o a, t = .un o a ∧ wo (.un o a) = wo a := by
      simp only [List.mem_cons, List.not_mem_nil, or_false] at hu
      rcases hu with h | h | h
      · obtain ⟨a, e⟩ := w_un (o := .hole) h; exact ⟨_, a, e, rfl⟩
      · obtain ⟨a, e⟩ := w_un (o := .quote) h; exact ⟨_, a, e, rfl⟩
      · obtain ⟨a, e⟩ := w_un (o := .lift) h; exact ⟨_, a, e, rfl⟩
    match vs, hvs, hpw1 with
    | [v1], ⟨ha, _⟩, hpw1 =>
    simp only [Tm.deep] at hd
    rw [ho] at q
    exact ⟨_, rfl, p, _, _, _, rfl, rfl, SqT.of hpw1, atI_n (n := 1) rfl rfl, a, v1, rfl, ha.mono (.of_same s1), by omega, fun v H' e h => q v H' (s1.trans e) h⟩
  have nu : t.w ∉ [W.quote, .hole, .lift] := fun z => c1 (show inV (V.str t.w.str) ([W.hole, W.quote, W.lift].map fun w => V.str w.str) = true from inW.mpr (by
    simp only [List.mem_cons, List.not_mem_nil, or_false] at z ⊢
    rcases z with z | z | z
    · exact .inr (.inl z)
    · exact .inl z
    · exact .inr (.inr z)))
  refine ⟨fun b H' => H1 = H' ∧ (b = true → t.w = .let ∨ t.w = .use) ∧ (b = false → t.w ≠ .let ∧ t.w ≠ .use), ?_, ?_⟩
  · refine ⟨_, rfl, p, _, _, _, rfl, rfl, SqT.of hpw1, atI_n (n := 0) rfl rfl, rfl, _, rfl, ite2 (fun c2 => ⟨rfl, fun _ => .inl (str_w .let c2), fun z => nomatch z⟩) fun c2 => ?_⟩
    exact ⟨_, rfl, p, _, _, _, rfl, rfl, SqT.of hpw1, atI_n (n := 0) rfl rfl, rfl, _, rfl, rfl, fun z => .inr (str_w .use z), fun z => ⟨str_nw .let c2, fun y => (of_decide_eq_false z) (by rw [y]; rfl)⟩⟩
  rintro b _ ⟨rfl, hbt, hbf⟩
  cases b with
  | true =>
    have hw := hbt rfl
    have hl : t.head.length = 2 := by
      cases t with
      | letx x a b => rfl
      | use g a => rfl
      | bin o a b => exfalso; cases o <;> rcases hw with h | h <;> cases h
      | un o a => exfalso; cases o <;> rcases hw with h | h <;> cases h
      | _ => exfalso; rcases hw with h | h <;> cases h
    refine iteT ?_
    refine ⟨_, rfl, 2, rfl, ?_⟩
    unfold tNoPart
    show rSlA K (V.ref p) none (some ((2 : Nat) : Int)) _ _
    refine slA_to (k := 2) hp1 (by rw [List.length_append, hl]; omega) fun q1 H2 e2 hq1 => ?_
    rw [← hl, List.take_left] at hq1
    have s2 := s1.trans e2
    refine ⟨_, rfl, 2, rfl, ?_⟩
    show rSlA K (V.ref p) (some ((2 : Nat) : Int)) none _ _
    refine slA_from (k := 2) (e2 _ _ hp1) (by rw [List.length_append, hl]; omega) fun u H3 e3 hu3 => ?_
    rw [← hl, List.drop_left] at hu3
    have s3 := s2.trans e3
    refine ⟨u, rfl, ⟨_, SqT.of hu3⟩, fun D hD => ?_⟩
    refine lc_tup (K := K) (a := u) (xs := vs) (fun i H' => Same H3 H' ∧ ∃ ws, H' D = some (.lst ws) ∧ TmsAt H' (t.parts.take i |>.map wo) ws) ⟨same_new hD _, [], upd_same, by rw [List.take_zero]; exact True.intro⟩ (fun i H' _ z => SqT.of (z.1 _ _ hu3)) ?_ ?_
    · rintro i x H' hi hz
      obtain ⟨u1, ws, a1, a2, a4⟩ := comp s3 hD i x H' hi hz
      exact ⟨rfl, _, rfl, u1, x, rfl, a1, a2, fun v H'' e h => ⟨ws, (a4 v H'' e h).1, (a4 v H'' e h).2.1, (a4 v H'' e h).2.2⟩⟩
    rintro H' ⟨g, ws, hd', htw⟩
    rw [vl, List.take_length] at htw
    refine ⟨D, ws, rfl, .inl ⟨SqL.of hd', fun l nl => catA (xs := t.head) (ys := ws) ?_ upd_same (by rw [List.ne_nil_iff_length_pos, hl]; decide) (by have := htw.len; rw [List.length_map] at this; rw [hl]; omega) fun z H5 e5 hz => q (.ref z) H5 ?_ ?_⟩⟩
    · exact same_new nl _ _ _ (g _ _ (e3 _ _ hq1))
    · exact s3.trans (g.trans ((same_new nl _).trans e5))
    · exact wo_close nu ((wo_w nu).2.2 (by rcases hw with h | h <;> rw [h] <;> decide)) hz (htw.mono (.of_same ((same_new nl _).trans e5)))
  | false =>
  obtain ⟨n1', n2'⟩ := hbf rfl
  refine iteF ⟨_, rfl, p, _, _, _, rfl, rfl, SqT.of hpw1, atI_n (n := 0) rfl rfl, rfl, _, rfl, ite2 (fun c3 => ?_) fun c3 => ?_⟩
  · have hw : t.w = .turns := str_w .turns c3
    have hl : t.head.length = 3 := by obtain ⟨m, x, a, b, rfl⟩ := w_turns hw; rfl
    refine ⟨_, rfl, 3, rfl, ?_⟩
    unfold tNoPart
    show rSlA K (V.ref p) none (some ((3 : Nat) : Int)) _ _
    refine slA_to (k := 3) hp1 (by rw [List.length_append, hl]; omega) fun q1 H2 e2 hq1 => ?_
    rw [← hl, List.take_left] at hq1
    have s2 := s1.trans e2
    refine ⟨_, rfl, 3, rfl, ?_⟩
    show rSlA K (V.ref p) (some ((3 : Nat) : Int)) none _ _
    refine slA_from (k := 3) (e2 _ _ hp1) (by rw [List.length_append, hl]; omega) fun u H3 e3 hu3 => ?_
    rw [← hl, List.drop_left] at hu3
    have s3 := s2.trans e3
    refine ⟨u, rfl, ⟨_, SqT.of hu3⟩, fun D hD => ?_⟩
    refine lc_tup (K := K) (a := u) (xs := vs) (fun i H' => Same H3 H' ∧ ∃ ws, H' D = some (.lst ws) ∧ TmsAt H' (t.parts.take i |>.map wo) ws) ⟨same_new hD _, [], upd_same, by rw [List.take_zero]; exact True.intro⟩ (fun i H' _ z => SqT.of (z.1 _ _ hu3)) ?_ ?_
    · rintro i x H' hi hz
      obtain ⟨u1, ws, a1, a2, a4⟩ := comp s3 hD i x H' hi hz
      exact ⟨rfl, _, rfl, u1, x, rfl, a1, a2, fun v H'' e h => ⟨ws, (a4 v H'' e h).1, (a4 v H'' e h).2.1, (a4 v H'' e h).2.2⟩⟩
    rintro H' ⟨g, ws, hd', htw⟩
    rw [vl, List.take_length] at htw
    refine ⟨D, ws, rfl, .inl ⟨SqL.of hd', fun l nl => catA (xs := t.head) (ys := ws) ?_ upd_same (by rw [List.ne_nil_iff_length_pos, hl]; decide) (by have := htw.len; rw [List.length_map] at this; rw [hl]; omega) fun z H5 e5 hz => q (.ref z) H5 ?_ ?_⟩⟩
    · exact same_new nl _ _ _ (g _ _ (e3 _ _ hq1))
    · exact s3.trans (g.trans ((same_new nl _).trans e5))
    · exact wo_close nu ((wo_w nu).2.2 (by rw [hw]; decide)) hz (htw.mono (.of_same ((same_new nl _).trans e5)))
  refine ⟨_, rfl, p, _, _, _, rfl, rfl, SqT.of hpw1, atI_n (n := 0) rfl rfl, rfl, _, rfl, ite2 (fun c4 => ?_) fun c4 => ?_⟩
  · have hw : t.w = .def := str_w .def c4
    obtain ⟨g0, x0, k0, a0, b0, rfl⟩ := w_def hw
    have hl : (Tm.deff g0 x0 k0 a0 b0).head.length = 4 := rfl
    refine ⟨_, rfl, 3, rfl, ?_⟩
    unfold tNoPart
    show rSlA K (V.ref p) none (some ((3 : Nat) : Int)) _ _
    refine slA_to (k := 3) hp1 (by rw [List.length_append, hl]; omega) fun q1 H2 e2 hq1 => ?_
    have hq1' : H2 q1 = some (.tup [.str "def", .str g0, .str x0]) := hq1
    have s2 := s1.trans e2
    refine ⟨sz 1, fun q2 nq2 => ?_⟩
    have e22 := same_new nq2 (.tup [.str "number"])
    refine catA (xs := [.str "def", .str g0, .str x0]) (ys := [.str "number"]) (e22 _ _ hq1') upd_same (by simp) (by show 3 + 1 ≤ 1000; decide) fun q3 H3 e3 hq3 => ?_
    have s3 := s2.trans (e22.trans e3)
    refine ⟨_, rfl, 4, rfl, ?_⟩
    show rSlA K (V.ref p) (some ((4 : Nat) : Int)) none _ _
    refine slA_from (k := 4) (s3 _ _ hp) (by rw [List.length_append, hl]; omega) fun u H4 e4 hu4 => ?_
    rw [← hl, List.drop_left] at hu4
    have s4 := s3.trans e4
    refine ⟨u, rfl, ⟨_, SqT.of hu4⟩, fun D hD => ?_⟩
    refine lc_tup (K := K) (a := u) (xs := vs) (fun i H' => Same H4 H' ∧ ∃ ws, H' D = some (.lst ws) ∧ TmsAt H' ((Tm.deff g0 x0 k0 a0 b0).parts.take i |>.map wo) ws) ⟨same_new hD _, [], upd_same, by rw [List.take_zero]; exact True.intro⟩ (fun i H' _ z => SqT.of (z.1 _ _ hu4)) ?_ ?_
    · rintro i x H' hi hz
      obtain ⟨u1, ws, a1, a2, a4⟩ := comp s4 hD i x H' hi hz
      exact ⟨rfl, _, rfl, u1, x, rfl, a1, a2, fun v H'' e h => ⟨ws, (a4 v H'' e h).1, (a4 v H'' e h).2.1, (a4 v H'' e h).2.2⟩⟩
    rintro H' ⟨g, ws, hd', htw⟩
    rw [vl, List.take_length] at htw
    refine ⟨D, ws, rfl, .inl ⟨SqL.of hd', fun l nl => catA (xs := [.str "def", .str g0, .str x0, .str "number"]) (ys := ws) ?_ upd_same (by simp) (by have := htw.len; rw [List.length_map] at this; simp only [List.length_cons, List.length_nil]; omega) fun z H5 e5 hz => q (.ref z) H5 ?_ ?_⟩⟩
    · exact same_new nl _ _ _ (g _ _ (e4 _ _ hq3))
    · exact s4.trans (g.trans ((same_new nl _).trans e5))
    · exact wo_close nu rfl hz (htw.mono (.of_same ((same_new nl _).trans e5)))
  refine ⟨_, rfl, p, _, _, _, rfl, rfl, SqT.of hpw1, atI_n (n := 0) rfl rfl, sz 2, fun n3 m3 => ?_⟩
  have s2' := same_new m3 (.tup [V.str "num", .str "name"])
  refine ⟨n3, _, rfl, .inr (SqT.of upd_same), rfl, rfl, _, rfl, ?_⟩
  have s2 := s1.trans s2'
  generalize upd H1 n3 (.tup [V.str "num", .str "name"]) = H2 at s2 ⊢
  have hp2 := s2 _ _ hp
  have hpw2 := s2 _ _ hpw
  refine ite2 (fun c5 => ?_) fun c5 => ?_
  · have hu := inW.mp (show inV (V.str t.w.str) ([W.num, W.name].map fun w => V.str w.str) = true from c5)
    refine ⟨_, rfl, q (.ref p) H2 s2 ?_⟩
    simp only [List.mem_cons, List.not_mem_nil, or_false] at hu
    rcases hu with h | h
    · obtain ⟨m, rfl⟩ := w_num h
      exact ht.mono (.of_same s2)
    · obtain ⟨x, rfl⟩ := w_name h
      exact ht.mono (.of_same s2)
  have hnn : t.w ∉ [W.num, W.name] := fun z => c5 (show inV (V.str t.w.str) ([W.num, W.name].map fun w => V.str w.str) = true from inW.mpr z)
  have hl : t.head = [.str t.w.str] := by
    cases t with
    | num m => exact absurd (by simp [Tm.w]) hnn
    | name x => exact absurd (by simp [Tm.w]) hnn
    | letx x a b => exact absurd rfl n1'
    | use g a => exact absurd rfl n2'
    | turns m x a b => exact absurd rfl (str_nw .turns c3)
    | deff g x k a b => exact absurd rfl (str_nw .def c4)
    | bin o a b => show [V.str o.word] = [V.str o.w.str]; rw [o.word_eq]
    | un o a => show [V.str o.word] = [V.str o.w.str]; rw [o.word_eq]
    | cond c a b => rfl
  refine ⟨_, rfl, p, _, _, _, rfl, rfl, SqT.of hpw2, atI_n (n := 0) rfl rfl, sz 1, fun q1 nq1 => ?_⟩
  have e3 := same_new nq1 (.tup [.str t.w.str])
  have s3 := s2.trans e3
  refine ⟨_, rfl, 1, rfl, ?_⟩
  unfold tNoPart
  show rSlA K (V.ref p) (some ((1 : Nat) : Int)) none _ _
  refine slA_from (k := 1) (e3 _ _ hp2) (by rw [hl]; simp) fun u H4 e4 hu4 => ?_
  rw [hl] at hu4
  have hu4' : H4 u = some (.tup vs) := hu4
  have s4 := s3.trans e4
  refine ⟨u, rfl, ⟨_, SqT.of hu4'⟩, fun D hD => ?_⟩
  refine lc_tup (K := K) (a := u) (xs := vs) (fun i H' => Same H4 H' ∧ ∃ ws, H' D = some (.lst ws) ∧ TmsAt H' (t.parts.take i |>.map wo) ws) ⟨same_new hD _, [], upd_same, by rw [List.take_zero]; exact True.intro⟩ (fun i H' _ z => SqT.of (z.1 _ _ hu4')) ?_ ?_
  · rintro i x H' hi hz
    obtain ⟨u1, ws, a1, a2, a4⟩ := comp s4 hD i x H' hi hz
    exact ⟨rfl, _, rfl, u1, x, rfl, a1, a2, fun v H'' e h => ⟨ws, (a4 v H'' e h).1, (a4 v H'' e h).2.1, (a4 v H'' e h).2.2⟩⟩
  rintro H' ⟨g, ws, hd', htw⟩
  rw [vl, List.take_length] at htw
  refine ⟨D, ws, rfl, .inl ⟨SqL.of hd', fun l nl => catA (xs := [.str t.w.str]) (ys := ws) ?_ upd_same (by simp) (by have := htw.len; rw [List.length_map] at this; simp only [List.length_cons, List.length_nil]; omega) fun z H5 e5 hz => q (.ref z) H5 ?_ ?_⟩⟩
  · exact same_new nl _ _ _ (g _ _ (e4 _ _ upd_same))
  · exact s4.trans (g.trans ((same_new nl _).trans e5))
  · exact wo_close nu (((wo_w nu).2.2 (str_nw .def c4)).trans hl) hz (htw.mono (.of_same ((same_new nl _).trans e5)))
theorem all_without (F : Fun K "_law_without" "_law_without" s_without f fd) (T : Txt mg)
    (m : mg "_law_without" = some (.ref f)) (kp : PySem.W.keepIn K (.ref f) = true) (b : Binds K fd ["_law_term_here"] []) : ∀ n, FnOk P w K mg base CX0 (1 + n) f fd ["_law_term_here"] (spWithout n)
  | 0 => fn_none fun vs H Q E h => by
      obtain ⟨t, tv, _, _, h0, _⟩ := h
      cases t <;> simp only [Tm.deep] at h0 <;> omega
  | n + 1 => ok_without F T ⟨all_without F T m kp b n, m, kp, b⟩
end

/-! ### scopes without levels and kinds -/
def era (E : Env) : Sco := fun x => (E x).map fun u => u.dom.isSome
theorem era_set (E : Env) (x : Str) (u : Ent) : era (E.set x u) = (era E).set x u.dom.isSome := by
  funext y
  unfold era Env.set Sco.set
  by_cases z : y = x
  · rw [if_pos z, if_pos z]; rfl
  · rw [if_neg z, if_neg z]
theorem era_nil : era Env.nil = Sco.nil := rfl
theorem Kd.and_ok {r : Kd} {f : Bool → Kd} {k : Bool} (h : r.and f = .ok k) : ∃ j, r = .ok j ∧ f j = .ok k := by
  cases r with
  | error e => cases h
  | ok j => exact ⟨j, rfl, h⟩
theorem Kd.want_ok {r : Kd} {j k : Bool} (h : r.want j = .ok k) : r = .ok j ∧ k = j := by
  cases r with
  | error e => cases h
  | ok i =>
    unfold Kd.want at h
    dsimp only at h
    by_cases z : i = j
    · rw [if_pos z] at h
      cases h
      exact ⟨by rw [z], rfl⟩
    · rw [if_neg z] at h
      cases h
/-- what is of a kind has its names in force -/
theorem kd_sc : ∀ (t : Tm) {l k : Bool} {E : Env} {fr : Bool}, kd t l E fr = .ok k → Scp (era E) t := by
  intro t
  induction t with
  | num m => exact fun _ => True.intro
  | name x =>
    intro l k E fr h
    simp only [kd] at h
    show era E x = some false
    unfold era
    cases e : E x with
    | none => rw [e] at h; cases h
    | some u =>
      rw [e] at h
      dsimp only at h
      by_cases z : u.lv = l
      · rw [if_pos z] at h
        cases d : u.dom with
        | none => rw [Option.map_some, d]; rfl
        | some _ => rw [d] at h; cases h
      · rw [if_neg z] at h; cases h
  | bin o a b iha ihb =>
    intro l k E fr h
    simp only [kd] at h
    obtain ⟨j, h1, h2⟩ := Kd.and_ok h
    exact ⟨iha (Kd.want_ok h1).1, ihb (Kd.want_ok h2).1⟩
  | cond c a b ihc iha ihb =>
    intro l k E fr h
    simp only [kd] at h
    obtain ⟨j, h1, h2⟩ := Kd.and_ok h
    obtain ⟨i, h3, h4⟩ := Kd.and_ok h2
    exact ⟨ihc (Kd.want_ok h1).1, iha h3, ihb (Kd.want_ok h4).1⟩
  | letx x a b iha ihb =>
    intro l k E fr h
    simp only [kd] at h
    obtain ⟨j, h1, h2⟩ := Kd.and_ok h
    have := ihb h2
    rw [era_set] at this
    exact ⟨iha h1, this⟩
  | turns m x a b iha ihb =>
    intro l k E fr h
    simp only [kd] at h
    obtain ⟨j, h1, h2⟩ := Kd.and_ok h
    have := ihb (Kd.want_ok h2).1
    rw [era_set] at this
    exact ⟨iha h1, this⟩
  | deff f x j a b iha ihb =>
    intro l k E fr h
    simp only [kd] at h
    by_cases z : l = true ∧ j = true
    · rw [if_pos z] at h; cases h
    rw [if_neg z] at h
    obtain ⟨i, h1, h2⟩ := Kd.and_ok h
    have h3 := iha h1
    have h4 := ihb h2
    rw [era_set] at h3 h4
    exact ⟨h3, h4⟩
  | use f a iha =>
    intro l k E fr h
    simp only [kd] at h
    cases e : E f with
    | none => rw [e] at h; cases h
    | some u =>
      rw [e] at h
      dsimp only at h
      by_cases z : u.lv = l
      · rw [if_pos z] at h
        cases d : u.dom with
        | none => rw [d] at h; cases h
        | some i =>
          rw [d] at h
          obtain ⟨j, h1, h2⟩ := Kd.and_ok h
          refine ⟨?_, iha (Kd.want_ok h1).1⟩
          show era E f = some true
          unfold era
          rw [e, Option.map_some, d]
          rfl
      · rw [if_neg z] at h; cases h
  | un o a iha =>
    intro l k E fr h
    cases o with
    | quote =>
      simp only [kd] at h
      by_cases z : l = true
      · rw [if_pos z] at h; cases h
      rw [if_neg z] at h
      obtain ⟨j, h1, _⟩ := Kd.and_ok h
      exact iha (Kd.want_ok h1).1
    | hole =>
      simp only [kd] at h
      by_cases z : l = false
      · rw [if_pos z] at h; cases h
      rw [if_neg z] at h
      obtain ⟨j, h1, _⟩ := Kd.and_ok h
      exact iha (Kd.want_ok h1).1
    | lift =>
      simp only [kd] at h
      by_cases z : l = true
      · rw [if_pos z] at h; cases h
      rw [if_neg z] at h
      obtain ⟨j, h1, _⟩ := Kd.and_ok h
      exact iha (Kd.want_ok h1).1
    | run =>
      simp only [kd] at h
      by_cases z : l = true ∨ fr = false
      · rw [if_pos z] at h; cases h
      rw [if_neg z] at h
      obtain ⟨j, h1, _⟩ := Kd.and_ok h
      exact iha (Kd.want_ok h1).1
def NoRun : Tm → Prop
  | .num _ => True
  | .name _ => True
  | .bin _ a b => NoRun a ∧ NoRun b
  | .cond c a b => NoRun c ∧ NoRun a ∧ NoRun b
  | .letx _ a b => NoRun a ∧ NoRun b
  | .turns _ _ a b => NoRun a ∧ NoRun b
  | .deff _ _ _ a b => NoRun a ∧ NoRun b
  | .use _ a => NoRun a
  | .un o a => o ≠ .run ∧ NoRun a
/-- where run may not stand there is none -/
theorem kd_norun : ∀ (t : Tm) {l k : Bool} {E : Env}, kd t l E false = .ok k → NoRun t := by
  intro t
  induction t with
  | num m => exact fun _ => True.intro
  | name x => exact fun _ => True.intro
  | bin o a b iha ihb =>
    intro l k E h
    simp only [kd] at h
    obtain ⟨j, h1, h2⟩ := Kd.and_ok h
    exact ⟨iha (Kd.want_ok h1).1, ihb (Kd.want_ok h2).1⟩
  | cond c a b ihc iha ihb =>
    intro l k E h
    simp only [kd] at h
    obtain ⟨j, h1, h2⟩ := Kd.and_ok h
    obtain ⟨i, h3, h4⟩ := Kd.and_ok h2
    exact ⟨ihc (Kd.want_ok h1).1, iha h3, ihb (Kd.want_ok h4).1⟩
  | letx x a b iha ihb =>
    intro l k E h
    simp only [kd] at h
    obtain ⟨j, h1, h2⟩ := Kd.and_ok h
    exact ⟨iha h1, ihb h2⟩
  | turns m x a b iha ihb =>
    intro l k E h
    simp only [kd] at h
    obtain ⟨j, h1, h2⟩ := Kd.and_ok h
    exact ⟨iha h1, ihb (Kd.want_ok h2).1⟩
  | deff f x j a b iha ihb =>
    intro l k E h
    simp only [kd] at h
    by_cases z : l = true ∧ j = true
    · rw [if_pos z] at h; cases h
    rw [if_neg z] at h
    obtain ⟨i, h1, h2⟩ := Kd.and_ok h
    exact ⟨iha h1, ihb h2⟩
  | use f a iha =>
    intro l k E h
    simp only [kd] at h
    cases e : E f with
    | none => rw [e] at h; cases h
    | some u =>
      rw [e] at h
      dsimp only at h
      by_cases z : u.lv = l
      · rw [if_pos z] at h
        cases d : u.dom with
        | none => rw [d] at h; cases h
        | some i =>
          rw [d] at h
          obtain ⟨j, h1, h2⟩ := Kd.and_ok h
          exact iha (Kd.want_ok h1).1
      · rw [if_neg z] at h; cases h
  | un o a iha =>
    intro l k E h
    cases o with
    | quote =>
      simp only [kd] at h
      by_cases z : l = true
      · rw [if_pos z] at h; cases h
      rw [if_neg z] at h
      obtain ⟨j, h1, _⟩ := Kd.and_ok h
      exact ⟨(by decide), iha (Kd.want_ok h1).1⟩
    | hole =>
      simp only [kd] at h
      by_cases z : l = false
      · rw [if_pos z] at h; cases h
      rw [if_neg z] at h
      obtain ⟨j, h1, _⟩ := Kd.and_ok h
      exact ⟨(by decide), iha (Kd.want_ok h1).1⟩
    | lift =>
      simp only [kd] at h
      by_cases z : l = true
      · rw [if_pos z] at h; cases h
      rw [if_neg z] at h
      obtain ⟨j, h1, _⟩ := Kd.and_ok h
      exact ⟨(by decide), iha (Kd.want_ok h1).1⟩
    | run => simp [kd] at h
theorem hts_set {δ : Hts} {D : Nat} (h : ∀ x, δ x ≤ D) {x : Str} {v : Nat} (hv : v ≤ D) : ∀ y, (δ.set x v) y ≤ D := fun y => by
  unfold Hts.set
  split
  · exact hv
  · exact h y
theorem dpt_le : ∀ (t : Tm) {δ : Hts} {D : Nat}, (∀ x, δ x ≤ D) → dpt t δ ≤ t.vh + D := by
  intro t
  induction t with
  | num m => intro δ D h; simp only [dpt, Tm.vh]; omega
  | name x => intro δ D h; simp only [dpt, Tm.vh]; omega
  | bin o a b iha ihb => intro δ D h; have := iha h; have := ihb h; simp only [dpt, Tm.vh]; omega
  | cond c a b ihc iha ihb => intro δ D h; have := ihc h; have := iha h; have := ihb h; simp only [dpt, Tm.vh]; omega
  | letx x a b iha ihb => intro δ D h; have := iha h; have := ihb (hts_set h (x := x) (Nat.zero_le _)); simp only [dpt, Tm.vh]; omega
  | turns m x a b iha ihb => intro δ D h; have := iha h; have := ihb (hts_set h (x := x) (Nat.zero_le _)); simp only [dpt, Tm.vh]; omega
  | deff f x k a b iha ihb =>
    intro δ D h
    have h1 := iha (hts_set h (x := x) (Nat.zero_le _))
    have h2 := ihb (D := a.vh + D) (δ := δ.set f (dpt a (δ.set x 0))) (hts_set (fun y => Nat.le_trans (h y) (Nat.le_add_left _ _)) h1)
    simp only [dpt, Tm.vh]
    omega
  | use f a iha => intro δ D h; have := iha h; have := h f; simp only [dpt, Tm.vh]; omega
  | un o a iha => intro δ D h; have := iha h; simp only [dpt, Tm.vh]; omega
theorem hgt_le : ∀ (t : Tm) {δ : Hts} {D : Nat}, (∀ x, δ x ≤ D) → 2000 ≤ D → hgt t δ ≤ t.hh + D := by
  intro t
  induction t with
  | num m => intro δ D h _; simp only [hgt, Tm.hh]; omega
  | name x => intro δ D h _; simp only [hgt, Tm.hh]; omega
  | bin o a b iha ihb => intro δ D h d; have := iha h d; have := ihb h d; simp only [hgt, Tm.hh]; omega
  | cond c a b ihc iha ihb => intro δ D h d; have := ihc h d; have := iha h d; have := ihb h d; simp only [hgt, Tm.hh]; omega
  | letx x a b iha ihb => intro δ D h d; have := iha h d; have := ihb (hts_set h (x := x) (Nat.zero_le _)) d; simp only [hgt, Tm.hh]; omega
  | turns m x a b iha ihb => intro δ D h d; have := iha h d; have := ihb (hts_set h (x := x) (Nat.zero_le _)) d; simp only [hgt, Tm.hh]; omega
  | deff f x k a b iha ihb =>
    intro δ D h d
    have h1 := iha (hts_set h (x := x) (Nat.zero_le _)) d
    have h2 := ihb (D := a.hh + D) (δ := δ.set f (hgt a (δ.set x 0))) (hts_set (fun y => Nat.le_trans (h y) (Nat.le_add_left _ _)) h1) (by omega)
    simp only [hgt, Tm.hh]
    omega
  | use f a iha => intro δ D h d; have := iha h d; have := h f; simp only [hgt, Tm.hh]; omega
  | un o a iha => intro δ D h d; have := iha h d; cases o <;> simp only [hgt, Tm.hh] <;> omega
theorem wo_plain : ∀ {t : Tm}, NoRun t → Plain (wo t)
  | .num _, _ => True.intro
  | .name _, _ => True.intro
  | .bin _ _ _, h => ⟨wo_plain h.1, wo_plain h.2⟩
  | .cond _ _ _, h => ⟨wo_plain h.1, wo_plain h.2.1, wo_plain h.2.2⟩
  | .letx _ _ _, h => ⟨wo_plain h.1, wo_plain h.2⟩
  | .turns _ _ _ _, h => ⟨wo_plain h.1, wo_plain h.2⟩
  | .deff _ _ _ _ _, h => ⟨wo_plain h.1, wo_plain h.2⟩
  | .use _ a, h => wo_plain (t := a) h
  | .un .quote a, h => wo_plain (t := a) h.2
  | .un .hole a, h => wo_plain (t := a) h.2
  | .un .lift a, h => wo_plain (t := a) h.2
  | .un .run _, h => absurd rfl h.1
theorem wo_sc : ∀ {t : Tm} {Γ : Sco}, Scp Γ t → Scp Γ (wo t)
  | .num _, _, _ => True.intro
  | .name _, _, h => h
  | .bin _ _ _, _, h => ⟨wo_sc h.1, wo_sc h.2⟩
  | .cond _ _ _, _, h => ⟨wo_sc h.1, wo_sc h.2.1, wo_sc h.2.2⟩
  | .letx _ _ _, _, h => ⟨wo_sc h.1, wo_sc h.2⟩
  | .turns _ _ _ _, _, h => ⟨wo_sc h.1, wo_sc h.2⟩
  | .deff _ _ _ _ _, _, h => ⟨wo_sc h.1, wo_sc h.2⟩
  | .use _ _, _, h => ⟨h.1, wo_sc h.2⟩
  | .un .quote a, _, h => wo_sc (t := a) h
  | .un .hole a, _, h => wo_sc (t := a) h
  | .un .lift a, _, h => wo_sc (t := a) h
  | .un .run a, _, h => wo_sc (t := a) h
theorem wo_ok : ∀ {t : Tm}, t.Ok → (wo t).Ok
  | .num _, _ => True.intro
  | .name _, h => h
  | .bin _ _ _, h => ⟨wo_ok h.1, wo_ok h.2⟩
  | .cond _ _ _, h => ⟨wo_ok h.1, wo_ok h.2.1, wo_ok h.2.2⟩
  | .letx _ _ _, h => ⟨h.1, wo_ok h.2.1, wo_ok h.2.2⟩
  | .turns _ _ _ _, h => ⟨h.1, wo_ok h.2.1, wo_ok h.2.2⟩
  | .deff _ _ _ _ _, h => ⟨h.1, wo_ok h.2.1, wo_ok h.2.2⟩
  | .use _ _, h => ⟨h.1, wo_ok h.2⟩
  | .un .quote a, h => wo_ok (t := a) h
  | .un .hole a, h => wo_ok (t := a) h
  | .un .lift a, h => wo_ok (t := a) h
  | .un .run a, h => wo_ok (t := a) h
theorem wo_hh : ∀ (t : Tm), (wo t).hh ≤ t.hh ∧ (wo t).deep ≤ t.deep
  | .num _ => ⟨Nat.le_refl _, Nat.le_refl _⟩
  | .name _ => ⟨Nat.le_refl _, Nat.le_refl _⟩
  | .bin _ a b => by have := wo_hh a; have := wo_hh b; simp only [wo, Tm.hh, Tm.deep]; omega
  | .cond c a b => by have := wo_hh c; have := wo_hh a; have := wo_hh b; simp only [wo, Tm.hh, Tm.deep]; omega
  | .letx _ a b => by have := wo_hh a; have := wo_hh b; simp only [wo, Tm.hh, Tm.deep]; omega
  | .turns _ _ a b => by have := wo_hh a; have := wo_hh b; simp only [wo, Tm.hh, Tm.deep]; omega
  | .deff _ _ _ a b => by have := wo_hh a; have := wo_hh b; simp only [wo, Tm.hh, Tm.deep]; omega
  | .use _ a => by have := wo_hh a; simp only [wo, Tm.hh, Tm.deep]; omega
  | .un .quote a => by have := wo_hh a; simp only [wo, Tm.hh, Tm.deep]; omega
  | .un .hole a => by have := wo_hh a; simp only [wo, Tm.hh, Tm.deep]; omega
  | .un .lift a => by have := wo_hh a; simp only [wo, Tm.hh, Tm.deep]; omega
  | .un .run a => by have := wo_hh a; simp only [wo, Tm.hh, Tm.deep]; omega
theorem wo_vh : ∀ (t : Tm), (wo t).vh ≤ t.vh
  | .num _ => Nat.le_refl _
  | .name _ => Nat.le_refl _
  | .bin _ a b => by have := wo_vh a; have := wo_vh b; simp only [wo, Tm.vh]; omega
  | .cond c a b => by have := wo_vh c; have := wo_vh a; have := wo_vh b; simp only [wo, Tm.vh]; omega
  | .letx _ a b => by have := wo_vh a; have := wo_vh b; simp only [wo, Tm.vh]; omega
  | .turns _ _ a b => by have := wo_vh a; have := wo_vh b; simp only [wo, Tm.vh]; omega
  | .deff _ _ _ a b => by have := wo_vh a; have := wo_vh b; simp only [wo, Tm.vh]; omega
  | .use _ a => by have := wo_vh a; simp only [wo, Tm.vh]; omega
  | .un .quote a => by have := wo_vh a; simp only [wo, Tm.vh]; omega
  | .un .hole a => by have := wo_vh a; simp only [wo, Tm.vh]; omega
  | .un .lift a => by have := wo_vh a; simp only [wo, Tm.vh]; omega
  | .un .run a => by have := wo_vh a; simp only [wo, Tm.vh]; omega

/-! ### a whole number -/
def spWhole : Sp := fun vs H Q _ => ∃ i : Int, vs = [.int i] ∧ Q (.bl true) H
abbrev s_whole : Stmt := topS 44
theorem sc_whole : FnScope ["_law_found"] ["_law_found"] (defScope s_whole) := ⟨rfl, rfl, rfl, by decide +kernel, rfl, by decide +kernel, by decide +kernel⟩
section
variable {P : Program} {w : World} {K : PySem.W.Frag} {mg : Str → Option Value} {base : Heap} {pa C f f1 f2 f3 f4 f5 f6 f7 f8 : Addr} {fd fd1 fd2 fd3 fd4 fd5 fd6 fd7 fd8 : FuncData}
theorem ok_whole (F : Fun K "_law_whole" "_law_whole" s_whole f fd) (T : Txt mg) : FnOk P w K mg base CX0 1 f fd ["_law_found"] spWhole := by
  refine F.ok sc_whole (fun vs H Q E h => ?_) (fun cdv A outer s H vs Q E hr h => ?_)
  · obtain ⟨i, rfl, _⟩ := h
    rfl
  obtain ⟨i, rfl, q⟩ := h
  refine ⟨_, (pss_one (ps_ret (pe_and (pe_callB call_isi (by rfl) T.isinstance (by decide +kernel) (pa_cons (pv 0) (pa_cons (pe_bltn (v := V.ty "int") (u := PySem.Value.type "int") (by rfl) T.int (by decide +kernel) rfl) pa_nil))) (pe_one (pe_not (pe_callB call_isi (by rfl) T.isinstance (by decide +kernel) (pa_cons (pv 0) (pa_cons (pe_bltn (v := V.ty "bool") (u := PySem.Value.type "bool") (by rfl) T.bool (by decide +kernel) rfl) pa_nil)))))))), ?_⟩
  refine ⟨_, rfl, _, _, _, _, _, rfl, ClsV.ty "int", .base (.int _), kit_ty (r := true) (by decide +kernel), _, rfl, iteT ?_⟩
  exact ⟨_, rfl, _, _, _, _, _, rfl, ClsV.ty "bool", .base (.int _), kit_ty (r := false) (by decide +kernel), _, rfl, q⟩
end
def spLaw (K : PySem.W.Frag) : Sp := fun vs H Q _ => ∃ a : Addr, vs = [.ref a] ∧ Ints K H a ∧ ∀ H', Q (.bl true) H'
abbrev s_law : Stmt := topS 60
theorem sc_law : FnScope ["_law_script", "_law_depth", "_law_term_here", "_law_some", "_law_x", "_law_step", "_law_due", "_law_found"] ["_law_script"] (defScope s_law) := ⟨rfl, rfl, rfl, by decide +kernel, rfl, by decide +kernel, by decide +kernel⟩
section
variable {P : Program} {w : World} {K : PySem.W.Frag} {mg : Str → Option Value} {base : Heap} {f f1 f2 f3 f4 f5 f6 f7 f8 f9 : Addr} {fd fd1 fd2 fd3 fd4 fd5 fd6 fd7 fd8 fd9 : FuncData}
theorem ok_law (F : Fun K "law" "law" s_law f fd) (T : Txt mg) (C_law_mixed : Cal P w K mg base "_law_mixed" ["_law_script", "_law_k"] 2 (spMixed K) f1 fd1) (C_law_term : Cal P w K mg base "_law_term" ["_law_script", "_law_state", "_law_level", "_law_kind", "_law_scope", "_law_depth", "_law_free"] 22 (spTerm K 6) f2 fd2)
    (C_law_without : Cal P w K mg base "_law_without" ["_law_term_here"] 41 (spWithout 40) f3 fd3) (C_law_drawn : Cal P w K mg base "_law_drawn" ["_law_number_here", "_law_sizes"] 1 (spDrawn K) f4 fd4) (C_law_name : Cal P w K mg base "_law_name" ["_law_script", "_law_which"] 3 (spName K) f5 fd5)
    (C_law_cost : Cal P w K mg base "_law_cost" ["_law_term_here", "_law_functions"] 41 (spCost 40) f6 fd6) (C_law_value : Cal P w K mg base "_law_value" ["_law_term_here", "_law_names"] 221 (spVal 220) f7 fd7) (C_plain_of : Cal P w K mg base "plain_of" ["term"] 6 spPlain f8 fd8)
    (C_law_whole : Cal P w K mg base "_law_whole" ["_law_found"] 1 spWhole f9 fd9) : FnOk P w K mg base CX0 222 f fd ["_law_script"] (spLaw K) := by
  refine F.ok sc_law (fun vs H Q E h => ?_) (fun cdv A outer s H vs Q E hr h => ?_)
  · obtain ⟨a, rfl, _⟩ := h
    rfl
  obtain ⟨a, rfl, hI, q⟩ := h
  refine ⟨_, (pss_cons (ps_set (i := 1) sc_law.nd rfl (Or.inl rfl) (pe_op op_sub pe_int (pe_op op_fdiv (pe_op op_mod (pe_call C_law_mixed.ok (hr.mono (by first | decide | omega)) rfl C_law_mixed.m C_law_mixed.kp C_law_mixed.b .nil pass0 (pa_cons (pv 0) (pa_cons pe_int pa_nil))) pe_int) pe_int)))
      (pss_cons (ps_set (i := 2) sc_law.nd rfl (Or.inl rfl) (pe_call C_law_without.ok (hr.mono (by first | decide | omega)) rfl C_law_without.m C_law_without.kp C_law_without.b .nil pass0 (pa_cons (pe_call C_law_term.ok (hr.mono (by first | decide | omega)) rfl C_law_term.m C_law_term.kp C_law_term.b .nil pass0 (pa_cons (pv 0) (pa_cons (pe_lst (pa_cons pe_int (pa_cons pe_int pa_nil))) (pa_cons pe_int (pa_cons pe_str (pa_cons (pe_lst pa_nil) (pa_cons (pv 1) (pa_cons pe_bl pa_nil)))))))) pa_nil)))
      (pss_cons (ps_set (i := 3) sc_law.nd rfl (Or.inl rfl) (pe_call C_law_drawn.ok (hr.mono (by first | decide | omega)) rfl C_law_drawn.m C_law_drawn.kp C_law_drawn.b .nil pass0 (pa_cons (pe_call C_law_mixed.ok (hr.mono (by first | decide | omega)) rfl C_law_mixed.m C_law_mixed.kp C_law_mixed.b .nil pass0 (pa_cons (pv 0) (pa_cons pe_int pa_nil))) (pa_cons (pe_lst (pa_cons pe_int (pa_cons pe_int (pa_cons pe_int (pa_cons pe_int (pa_cons pe_int pa_nil)))))) pa_nil))))
      (pss_cons (ps_set (i := 4) sc_law.nd rfl (Or.inl rfl) (pe_call C_law_name.ok (hr.mono (by first | decide | omega)) rfl C_law_name.m C_law_name.kp C_law_name.b .nil pass0 (pa_cons (pv 0) (pa_cons (pe_ix ix_list (pv 3) pe_int (fun _ _ => rfl)) pa_nil))))
      (pss_cons (ps_set (i := 5) sc_law.nd rfl (Or.inl rfl) (pe_tup (pa_cons pe_str (pa_cons (pe_tup (pa_cons pe_str (pa_cons (pe_tup (pa_cons pe_str (pa_cons (pv 4) pa_nil))) (pa_cons (pe_tup (pa_cons pe_str (pa_cons (pe_ix ix_list (pv 3) pe_int (fun _ _ => rfl)) pa_nil))) pa_nil)))) (pa_cons (pe_tup (pa_cons pe_str (pa_cons (pe_ix ix_list (pv 3) pe_int (fun _ _ => rfl)) pa_nil))) pa_nil)))))
      (pss_cons (ps_set (i := 2) sc_law.nd rfl (Or.inl rfl) (pe_tup (pa_cons pe_str (pa_cons (pe_ix ix_list (pv 3) pe_int (fun _ _ => rfl)) (pa_cons (pv 4) (pa_cons (pv 2) (pa_cons (pv 5) pa_nil)))))))
      (pss_cons (ps_if (pt_cmpR op_gt (pe_call C_law_cost.ok (hr.mono (by first | decide | omega)) rfl C_law_cost.m C_law_cost.kp C_law_cost.b .nil pass0 (pa_cons (pv 2) (pa_cons pe_dnewK pa_nil))) pe_int (nomark _)) (pss_one (ps_ret pe_bl)) pss_nil)
      (pss_cons (ps_set (i := 6) sc_law.nd rfl (Or.inl rfl) (pe_call C_law_value.ok (hr.mono (by first | decide | omega)) rfl C_law_value.m C_law_value.kp C_law_value.b .nil pass0 (pa_cons (pv 2) (pa_cons pe_dnewK pa_nil))))
      (pss_cons (ps_set (i := 7) sc_law.nd rfl (Or.inl rfl) (pe_call C_plain_of.ok (hr.mono (by first | decide | omega)) rfl C_plain_of.m C_plain_of.kp C_plain_of.b .nil pass0 (pa_cons (pv 2) pa_nil)))
      (pss_one (ps_ret (pe_and (pe_call C_law_whole.ok (hr.mono (by first | decide | omega)) rfl C_law_whole.m C_law_whole.kp C_law_whole.b .nil pass0 (pa_cons (pv 7) pa_nil)) (pe_and (pe_cmpR op_eq (pv 7) (pv 6) (nomark _)) (pe_one (pe_cmpR op_eq (pe_call C_plain_of.ok (hr.mono (by first | decide | omega)) rfl C_plain_of.m C_plain_of.kp C_plain_of.b .nil pass0 (pa_cons (pv 2) pa_nil)) (pv 6) (nomark _)))))))))))))))), ?_⟩
  refine ⟨_, rfl, a, 1, rfl, hI, by decide, fun m m0 m1 => ?_⟩
  have h8 := mod_in m (n := 8) (by decide)
  refine ⟨_, _, rfl, rfl, (by show (0 : Int) < _; decide), _, _, rfl, rfl, ⟨by decide, by decide⟩, _, _, rfl, rfl, ?_⟩
  refine ⟨_, rfl, sz 2, fun st nst => ⟨sz 0, fun sa nsa => ?_⟩⟩
  have g1 := same_new nst (.lst [V.int 1, .int 0])
  have g2 := same_new nsa (.lst [])
  have s2 := g1.trans g2
  have hst := g2 _ _ (show upd H st (.lst [V.int 1, .int 0]) st = some (.lst [V.int 1, .int 0]) from upd_same)
  have hsa : upd (upd H st (.lst [V.int 1, .int 0])) sa (.lst []) sa = some (.lst []) := upd_same
  generalize upd (upd H st (.lst [V.int 1, .int 0])) sa (.lst []) = H2 at s2 hst hsa ⊢
  have hI2 := hI.same s2
  obtain ⟨e, he, he5⟩ : ∃ e : Nat, (5 : Int) - m % 8 / 3 = (e : Int) ∧ e ≤ 5 := ⟨(5 - m % 8 / 3).toNat, by omega, by omega⟩
  refine ⟨_, rfl, a, st, sa, true, false, false, [], [], 1, 0, _, e, rfl, hI2, hst, by decide, hsa, True.intro, ⟨(fun _ h => nomatch h), (fun _ h => nomatch h)⟩, by show 0 + 4 * e ≤ 60; omega, he, by omega, (fun _ => rfl), fun t tv c' m' H3 b3 st3 hc' ht hg hk => ?_⟩
  have hI3 := hI2.but hst b3
  have hd16 : t.deep ≤ 16 := Nat.le_trans hg.deep (dB_mono he5)
  have hv206 : t.vh ≤ 206 := Nat.le_trans hg.vh (vB_mono he5)
  have hh143 : t.hh ≤ 143 := Nat.le_trans hg.hh (hB_mono he5)
  refine ⟨t, tv, rfl, ht, by omega, fun v H4 e4 hwv => ?_⟩
  have hI4 := hI3.same e4
  refine ⟨_, rfl, a, 1, rfl, hI4, by decide, fun m2 m20 m21 => ⟨sz 5, fun dl ndl => ?_⟩⟩
  have e5 := same_new ndl (.lst [V.int 8, .int 10, .int 50, .int 50, .int 3])
  refine ⟨m2, dl, [8, 10, 50, 50, 3], rfl, SqL.of upd_same, by decide, by decide, fun xs r H6 hdr _ e6 hr6 => ?_⟩
  have s56 := e5.trans e6
  have hI6 := hI4.same s56
  have hw6 := hwv.mono (.of_same s56)
  obtain ⟨y0, y1, y2, y3, y4, rfl⟩ : ∃ y0 y1 y2 y3 y4, xs = [y0, y1, y2, y3, y4] := by
    have := hdr.len
    match xs, this with
    | [y0, y1, y2, y3, y4], _ => exact ⟨_, _, _, _, _, rfl⟩
  obtain ⟨_, ⟨h10, h11⟩, _⟩ := hdr
  refine ⟨_, rfl, _, rfl, r, _, _, _, rfl, rfl, SqL.of hr6, atI_n (n := 4) rfl rfl, a, y4, rfl, hI6, fun x H7 e7 hx => ?_⟩
  have hr7 := e7 _ _ hr6
  refine ⟨_, rfl, sz 2, fun p1 n1 => ⟨_, rfl, r, [V.int y0, .int y1, .int y2, .int y3, .int y4], _, _, rfl, rfl, ?_, atI_n (n := 2) rfl rfl, sz 2, fun p2 n2 => ⟨sz 3, fun p3 n3 => ⟨_, rfl, r, [V.int y0, .int y1, .int y2, .int y3, .int y4], _, _, rfl, rfl, ?_, atI_n (n := 3) rfl rfl, sz 2, fun p4 n4 => ⟨sz 3, fun p5 n5 => ?_⟩⟩⟩⟩⟩
  · exact SqL.of (same_new n1 _ _ _ hr7)
  · exact SqL.of (same_new n3 _ _ _ (same_new n2 _ _ _ (same_new n1 _ _ _ hr7)))
  have k1 := same_new n1 (.tup [.str "name", .str x])
  have k2 := same_new n2 (.tup [.str "num", .int y2])
  have k3 := same_new n3 (.tup [.str "product", .ref p1, .ref p2])
  have k4 := same_new n4 (.tup [.str "num", .int y3])
  have k5 := same_new n5 (.tup [.str "sum", .ref p3, .ref p4])
  have k25 := k2.trans (k3.trans (k4.trans k5))
  have k15 := k1.trans k25
  have hstep : TmAt (upd (upd (upd (upd (upd H7 p1 (.tup [.str "name", .str x])) p2 (.tup [.str "num", .int y2])) p3 (.tup [.str "product", .ref p1, .ref p2])) p4 (.tup [.str "num", .int y3])) p5 (.tup [.str "sum", .ref p3, .ref p4])) (.bin .sum (.bin .product (.name x) (.num y2)) (.num y3)) (.ref p5) := ⟨p5, _, _, rfl, upd_same, ⟨p3, _, _, rfl, k5 _ _ (k4 _ _ upd_same), ⟨p1, rfl, k25 _ _ upd_same⟩, p2, rfl, k5 _ _ (k4 _ _ (k3 _ _ upd_same))⟩, p4, rfl, k5 _ _ upd_same⟩
  have hr8 := k15 _ _ hr7
  have hw8 := hw6.mono (.of_same (e7.trans k15))
  generalize upd (upd (upd (upd (upd H7 p1 (.tup [.str "name", .str x])) p2 (.tup [.str "num", .int y2])) p3 (.tup [.str "product", .ref p1, .ref p2])) p4 (.tup [.str "num", .int y3])) p5 (.tup [.str "sum", .ref p3, .ref p4]) = H8 at hstep hr8 hw8 ⊢
  refine ⟨_, rfl, r, _, _, _, rfl, rfl, SqL.of hr8, atI_n (n := 1) rfl rfl, _, rfl, _, rfl, _, rfl, sz 5, fun p6 n6 => ?_⟩
  have k6 := same_new n6 (.tup [.str "turns", .int y1, .str x, v, .ref p5])
  -- the term
  obtain ⟨tt, htt⟩ : ∃ tt, tt = Tm.turns y1 x (wo t) (.bin .sum (.bin .product (.name x) (.num y2)) (.num y3)) := ⟨_, rfl⟩
  have hT : TmAt (upd H8 p6 (.tup [.str "turns", .int y1, .str x, v, .ref p5])) tt (.ref p6) := by rw [htt]; exact ⟨p6, _, _, rfl, upd_same, hw8.mono (.of_same k6), hstep.mono (.of_same k6)⟩
  generalize upd H8 p6 (.tup [.str "turns", .int y1, .str x, v, .ref p5]) = H9 at hT ⊢
  have whh := wo_hh t
  have hdeep : tt.deep ≤ 20 := by rw [htt]; simp only [Tm.deep]; omega
  have wvh := wo_vh t
  have hvv : tt.vh ≤ 210 := by rw [htt]; simp only [Tm.vh]; omega
  have hhh : tt.hh ≤ 144 := by rw [htt]; simp only [Tm.hh]; omega
  have hpl : Plain tt := by rw [htt]; exact ⟨wo_plain (kd_norun t hk), ⟨True.intro, True.intro⟩, True.intro⟩
  have hsc : Scp .nil tt := by
    rw [htt]
    exact ⟨wo_sc (kd_sc t hk), ⟨if_pos rfl, True.intro⟩, True.intro⟩
  have hok : tt.Ok := by rw [htt]; exact ⟨⟨⟨h10, by omega⟩, hx⟩, wo_ok hg.ok, ⟨hx, True.intro⟩, True.intro⟩
  clear htt
  refine ⟨_, rfl, fun d1 nd1 => ?_⟩
  have j1 := same_new nd1 (.dK [])
  refine ⟨tt, _, d1, .nil, (fun _ => 0), 0, rfl, hT.mono (.of_same j1), hsc, .nil upd_same, by omega, by omega, hok, fun H10 e10 => ?_⟩
  refine ⟨_, _, rfl, rfl, _, rfl, ite2 (fun _ => q _) fun _ => ?_⟩
  have s10 := j1.trans e10
  refine ⟨_, rfl, fun d2 nd2 => ?_⟩
  have j2 := same_new nd2 (.dK [])
  have s11 := s10.trans j2
  refine ⟨tt, _, d2, .nil, noP, (fun _ => 0), 0, rfl, hT.mono (.of_same s11), hsc, .nil upd_same, ?_, by omega, hok, fun H12 e12 => ?_⟩
  · have := dpt_le tt (δ := fun _ => 0) (D := 0) (fun _ => Nat.le_refl _)
    omega
  have hgt30 : hgt tt (fun _ => 0) ≤ 30000 := by
    have := hgt_le tt (δ := fun _ => 0) (D := 2000) (fun _ => Nat.zero_le _) (Nat.le_refl _)
    omega
  have s12 := s11.trans e12
  refine ⟨_, rfl, tt, _, rfl, hT.mono (.of_same s12), hpl, hsc, by omega, hgt30, fun H13 e13 => ?_⟩
  refine ⟨_, rfl, _, rfl, _, rfl, iteT ?_⟩
  refine ⟨_, rfl, _, rfl, rfl, _, rfl, iteT' (decide_eq_true rfl) ?_⟩
  refine ⟨_, rfl, tt, _, rfl, hT.mono (.of_same (s12.trans e13)), hpl, hsc, by omega, hgt30, fun H14 e14 => ⟨_, rfl, rfl, ?_⟩⟩
  rw [decide_eq_true rfl]
  exact q _
end
set_option maxHeartbeats 0 in
theorem all_mk {l : PySem.W.OpenLaw} {w : World} {K : PySem.W.Frag} {h : Heap} {mg : Str → Option Value} {fa : Addr} (X : K.In h) (G : h.Ns mainGlobals mg) (hfa : mg "law" = some (.ref fa))
    {C_HallError C_TooGreat C_Piece C_Telling f_plain_of f_Piece_init f_Telling_init f_Telling_value_of f_Telling_later f_Telling_tell f_Telling_make f_Telling_make_of f_Telling_new_name f_tell_num f_tell_name f_tell_two f_reckon f_tell_when f_choose f_tell_let f_go_on_with_b f_tell_turns f_turn f_tell_def f_tell_use f_go_on_with_function f_tell_quote f_refuse_too_great f_tell_lift f_make_num f_tell_run f_go_on_with_piece f_make_same f_make_name f_make_plain f_make_let f_make_turns f_make_def f_make_use f_fill_hole f_put_together f_law_cell_at f_law_mixed f_law_drawn f_law_whole f_law_name f_law_next f_law_number f_law_seen f_law_leaf f_law_words f_law_term f_law_twice f_law_bound f_law_value f_law_with f_law_value_bound f_law_parts f_law_cost f_law_without f_law D_TELLERS D_MAKERS : Addr}
    {tk_RECKONED_BY tk_MOST_TERMS tk_DEEPEST : Tok}
    {od_plain_of an_plain_of od_Piece_init an_Piece_init od_Telling_init an_Telling_init od_Telling_value_of an_Telling_value_of od_Telling_later an_Telling_later od_Telling_tell an_Telling_tell od_Telling_make an_Telling_make od_Telling_make_of an_Telling_make_of od_Telling_new_name an_Telling_new_name od_tell_num an_tell_num od_tell_name an_tell_name od_tell_two an_tell_two od_reckon an_reckon od_tell_when an_tell_when od_choose an_choose od_tell_let an_tell_let od_go_on_with_b an_go_on_with_b od_tell_turns an_tell_turns od_turn an_turn od_tell_def an_tell_def od_tell_use an_tell_use od_go_on_with_function an_go_on_with_function od_tell_quote an_tell_quote od_refuse_too_great an_refuse_too_great od_tell_lift an_tell_lift od_make_num an_make_num od_tell_run an_tell_run od_go_on_with_piece an_go_on_with_piece od_make_same an_make_same od_make_name an_make_name od_make_plain an_make_plain od_make_let an_make_let od_make_turns an_make_turns od_make_def an_make_def od_make_use an_make_use od_fill_hole an_fill_hole od_put_together an_put_together od_law_cell_at an_law_cell_at od_law_mixed an_law_mixed od_law_drawn an_law_drawn od_law_whole an_law_whole od_law_name an_law_name od_law_next an_law_next od_law_number an_law_number od_law_seen an_law_seen od_law_leaf an_law_leaf od_law_words an_law_words od_law_term an_law_term od_law_twice an_law_twice od_law_bound an_law_bound od_law_value an_law_value od_law_with an_law_with od_law_value_bound an_law_value_bound od_law_parts an_law_parts od_law_cost an_law_cost od_law_without an_law_without od_law an_law : Option Addr}
    {sl_plain_of sl_Piece_init sl_Telling_init sl_Telling_value_of sl_Telling_later sl_Telling_tell sl_Telling_make sl_Telling_make_of sl_Telling_new_name sl_tell_num sl_tell_name sl_tell_two sl_reckon sl_tell_when sl_choose sl_tell_let sl_go_on_with_b sl_tell_turns sl_turn sl_tell_def sl_tell_use sl_go_on_with_function sl_tell_quote sl_refuse_too_great sl_tell_lift sl_make_num sl_tell_run sl_go_on_with_piece sl_make_same sl_make_name sl_make_plain sl_make_let sl_make_turns sl_make_def sl_make_use sl_fill_hole sl_put_together sl_law_cell_at sl_law_mixed sl_law_drawn sl_law_whole sl_law_name sl_law_next sl_law_number sl_law_seen sl_law_leaf sl_law_words sl_law_term sl_law_twice sl_law_bound sl_law_value sl_law_with sl_law_value_bound sl_law_parts sl_law_cost sl_law_without sl_law : Array (Option Value)}
    {oc_plain_of kV_plain_of dc_plain_of pm_plain_of cd_plain_of ct_plain_of oc_Piece_init kV_Piece_init dc_Piece_init pm_Piece_init cd_Piece_init ct_Piece_init oc_Telling_init kV_Telling_init dc_Telling_init pm_Telling_init cd_Telling_init ct_Telling_init oc_Telling_value_of kV_Telling_value_of dc_Telling_value_of pm_Telling_value_of cd_Telling_value_of ct_Telling_value_of oc_Telling_later kV_Telling_later dc_Telling_later pm_Telling_later cd_Telling_later ct_Telling_later oc_Telling_tell kV_Telling_tell dc_Telling_tell pm_Telling_tell cd_Telling_tell ct_Telling_tell oc_Telling_make kV_Telling_make dc_Telling_make pm_Telling_make cd_Telling_make ct_Telling_make oc_Telling_make_of kV_Telling_make_of dc_Telling_make_of pm_Telling_make_of cd_Telling_make_of ct_Telling_make_of oc_Telling_new_name kV_Telling_new_name dc_Telling_new_name pm_Telling_new_name cd_Telling_new_name ct_Telling_new_name oc_tell_num kV_tell_num dc_tell_num pm_tell_num cd_tell_num ct_tell_num oc_tell_name kV_tell_name dc_tell_name pm_tell_name cd_tell_name ct_tell_name oc_tell_two kV_tell_two dc_tell_two pm_tell_two cd_tell_two ct_tell_two oc_reckon kV_reckon dc_reckon pm_reckon cd_reckon ct_reckon oc_tell_when kV_tell_when dc_tell_when pm_tell_when cd_tell_when ct_tell_when oc_choose kV_choose dc_choose pm_choose cd_choose ct_choose oc_tell_let kV_tell_let dc_tell_let pm_tell_let cd_tell_let ct_tell_let oc_go_on_with_b kV_go_on_with_b dc_go_on_with_b pm_go_on_with_b cd_go_on_with_b ct_go_on_with_b oc_tell_turns kV_tell_turns dc_tell_turns pm_tell_turns cd_tell_turns ct_tell_turns oc_turn kV_turn dc_turn pm_turn cd_turn ct_turn oc_tell_def kV_tell_def dc_tell_def pm_tell_def cd_tell_def ct_tell_def oc_tell_use kV_tell_use dc_tell_use pm_tell_use cd_tell_use ct_tell_use oc_go_on_with_function kV_go_on_with_function dc_go_on_with_function pm_go_on_with_function cd_go_on_with_function ct_go_on_with_function oc_tell_quote kV_tell_quote dc_tell_quote pm_tell_quote cd_tell_quote ct_tell_quote oc_refuse_too_great kV_refuse_too_great dc_refuse_too_great pm_refuse_too_great cd_refuse_too_great ct_refuse_too_great oc_tell_lift kV_tell_lift dc_tell_lift pm_tell_lift cd_tell_lift ct_tell_lift oc_make_num kV_make_num dc_make_num pm_make_num cd_make_num ct_make_num oc_tell_run kV_tell_run dc_tell_run pm_tell_run cd_tell_run ct_tell_run oc_go_on_with_piece kV_go_on_with_piece dc_go_on_with_piece pm_go_on_with_piece cd_go_on_with_piece ct_go_on_with_piece oc_make_same kV_make_same dc_make_same pm_make_same cd_make_same ct_make_same oc_make_name kV_make_name dc_make_name pm_make_name cd_make_name ct_make_name oc_make_plain kV_make_plain dc_make_plain pm_make_plain cd_make_plain ct_make_plain oc_make_let kV_make_let dc_make_let pm_make_let cd_make_let ct_make_let oc_make_turns kV_make_turns dc_make_turns pm_make_turns cd_make_turns ct_make_turns oc_make_def kV_make_def dc_make_def pm_make_def cd_make_def ct_make_def oc_make_use kV_make_use dc_make_use pm_make_use cd_make_use ct_make_use oc_fill_hole kV_fill_hole dc_fill_hole pm_fill_hole cd_fill_hole ct_fill_hole oc_put_together kV_put_together dc_put_together pm_put_together cd_put_together ct_put_together oc_law_cell_at kV_law_cell_at dc_law_cell_at pm_law_cell_at cd_law_cell_at ct_law_cell_at oc_law_mixed kV_law_mixed dc_law_mixed pm_law_mixed cd_law_mixed ct_law_mixed oc_law_drawn kV_law_drawn dc_law_drawn pm_law_drawn cd_law_drawn ct_law_drawn oc_law_whole kV_law_whole dc_law_whole pm_law_whole cd_law_whole ct_law_whole oc_law_name kV_law_name dc_law_name pm_law_name cd_law_name ct_law_name oc_law_next kV_law_next dc_law_next pm_law_next cd_law_next ct_law_next oc_law_number kV_law_number dc_law_number pm_law_number cd_law_number ct_law_number oc_law_seen kV_law_seen dc_law_seen pm_law_seen cd_law_seen ct_law_seen oc_law_leaf kV_law_leaf dc_law_leaf pm_law_leaf cd_law_leaf ct_law_leaf oc_law_words kV_law_words dc_law_words pm_law_words cd_law_words ct_law_words oc_law_term kV_law_term dc_law_term pm_law_term cd_law_term ct_law_term oc_law_twice kV_law_twice dc_law_twice pm_law_twice cd_law_twice ct_law_twice oc_law_bound kV_law_bound dc_law_bound pm_law_bound cd_law_bound ct_law_bound oc_law_value kV_law_value dc_law_value pm_law_value cd_law_value ct_law_value oc_law_with kV_law_with dc_law_with pm_law_with cd_law_with ct_law_with oc_law_value_bound kV_law_value_bound dc_law_value_bound pm_law_value_bound cd_law_value_bound ct_law_value_bound oc_law_parts kV_law_parts dc_law_parts pm_law_parts cd_law_parts ct_law_parts oc_law_cost kV_law_cost dc_law_cost pm_law_cost cd_law_cost ct_law_cost oc_law_without kV_law_without dc_law_without pm_law_without cd_law_without ct_law_without oc_law kV_law dc_law pm_law cd_law ct_law : Value}
    {eD_TELLERS : Array DictEntry} {nD_TELLERS : Nat}
    {eD_MAKERS : Array DictEntry} {nD_MAKERS : Nat}
    (aC_HallError : PySem.W.nsIn K mainGlobals "HallError" = some (some (.ref C_HallError)))
    (ex_HallError : PySem.W.excIn K C_HallError [.type "ValueError", .type "Exception", .type "BaseException", .type "object"] "ValueError.__new__" = true)
    (ke_HallError : PySem.W.keepIn K (.ref C_HallError) = true)
    (be_HallError : PySem.W.subIn K (.ref C_HallError) (.type "BaseException") = some true)
    (te_HallError : PySem.W.typeIn K (.ref C_HallError) = some (.type "type"))
    (aC_TooGreat : PySem.W.nsIn K mainGlobals "TooGreat" = some (some (.ref C_TooGreat)))
    (ex_TooGreat : PySem.W.excIn K C_TooGreat [.type "ValueError", .type "Exception", .type "BaseException", .type "object"] "ValueError.__new__" = true)
    (ke_TooGreat : PySem.W.keepIn K (.ref C_TooGreat) = true)
    (be_TooGreat : PySem.W.subIn K (.ref C_TooGreat) (.type "BaseException") = some true)
    (te_TooGreat : PySem.W.typeIn K (.ref C_TooGreat) = some (.type "type"))
    (aC_Piece : PySem.W.nsIn K mainGlobals "Piece" = some (some (.ref C_Piece)))
    (pg_Piece : PySem.W.plainGet K C_Piece Str.empty = true)
    (hd_Piece : PySem.W.hasDictIn K C_Piece = true)
    (po_Piece : PySem.W.plainOver K C_Piece = true)
    (sa_Piece : PySem.W.findIn K (.ref C_Piece) "__setattr__" = some (some (.builtin "object.__setattr__")))
    (mk_Piece : PySem.W.makesIn K C_Piece = true)
    (kc_Piece : PySem.W.keepIn K (.ref C_Piece) = true)
    (no_Piece_term : PySem.W.findIn K (.ref C_Piece) "term" = some none)
    (no_Piece_size : PySem.W.findIn K (.ref C_Piece) "size" = some none)
    (no_Piece_depth : PySem.W.findIn K (.ref C_Piece) "depth" = some none)
    (no_Piece_later : PySem.W.findIn K (.ref C_Piece) "later" = some none)
    (aC_Telling : PySem.W.nsIn K mainGlobals "Telling" = some (some (.ref C_Telling)))
    (pg_Telling : PySem.W.plainGet K C_Telling Str.empty = true)
    (hd_Telling : PySem.W.hasDictIn K C_Telling = true)
    (po_Telling : PySem.W.plainOver K C_Telling = true)
    (sa_Telling : PySem.W.findIn K (.ref C_Telling) "__setattr__" = some (some (.builtin "object.__setattr__")))
    (mk_Telling : PySem.W.makesIn K C_Telling = true)
    (kc_Telling : PySem.W.keepIn K (.ref C_Telling) = true)
    (no_Telling_steps : PySem.W.findIn K (.ref C_Telling) "steps" = some none)
    (no_Telling_found : PySem.W.findIn K (.ref C_Telling) "found" = some none)
    (no_Telling_named : PySem.W.findIn K (.ref C_Telling) "named" = some none)
    (a_plain_of : PySem.W.nsIn K mainGlobals "plain_of" = some (some (.ref f_plain_of)))
    (l_plain_of : K.lookup f_plain_of = some ⟨oc_plain_of, od_plain_of, .func (PySem.W.fnOf "plain_of" "plain_of" (defArgs s_plain_of) (defBody s_plain_of) (defScope s_plain_of) .none kV_plain_of dc_plain_of pm_plain_of an_plain_of cd_plain_of ct_plain_of), sl_plain_of⟩)
    (c_plain_of : PySem.W.codeIn K cd_plain_of "plain_of" = true)
    (k_plain_of : PySem.W.keepIn K (.ref f_plain_of) = true)
    (a_Piece_init : PySem.W.findIn K (.ref C_Piece) "__init__" = some (some (.ref f_Piece_init)))
    (i_Piece_init : PySem.W.isFn K (.ref f_Piece_init) = true)
    (l_Piece_init : K.lookup f_Piece_init = some ⟨oc_Piece_init, od_Piece_init, .func (PySem.W.fnOf "__init__" "Piece.__init__" (defArgs s_Piece_init) (defBody s_Piece_init) (defScope s_Piece_init) .none kV_Piece_init dc_Piece_init pm_Piece_init an_Piece_init cd_Piece_init ct_Piece_init), sl_Piece_init⟩)
    (c_Piece_init : PySem.W.codeIn K cd_Piece_init "Piece.__init__" = true)
    (k_Piece_init : PySem.W.keepIn K (.ref f_Piece_init) = true)
    (a_Telling_init : PySem.W.findIn K (.ref C_Telling) "__init__" = some (some (.ref f_Telling_init)))
    (i_Telling_init : PySem.W.isFn K (.ref f_Telling_init) = true)
    (l_Telling_init : K.lookup f_Telling_init = some ⟨oc_Telling_init, od_Telling_init, .func (PySem.W.fnOf "__init__" "Telling.__init__" (defArgs s_Telling_init) (defBody s_Telling_init) (defScope s_Telling_init) .none kV_Telling_init dc_Telling_init pm_Telling_init an_Telling_init cd_Telling_init ct_Telling_init), sl_Telling_init⟩)
    (c_Telling_init : PySem.W.codeIn K cd_Telling_init "Telling.__init__" = true)
    (k_Telling_init : PySem.W.keepIn K (.ref f_Telling_init) = true)
    (a_Telling_value_of : PySem.W.findIn K (.ref C_Telling) "value_of" = some (some (.ref f_Telling_value_of)))
    (i_Telling_value_of : PySem.W.isFn K (.ref f_Telling_value_of) = true)
    (l_Telling_value_of : K.lookup f_Telling_value_of = some ⟨oc_Telling_value_of, od_Telling_value_of, .func (PySem.W.fnOf "value_of" "Telling.value_of" (defArgs s_Telling_value_of) (defBody s_Telling_value_of) (defScope s_Telling_value_of) .none kV_Telling_value_of dc_Telling_value_of pm_Telling_value_of an_Telling_value_of cd_Telling_value_of ct_Telling_value_of), sl_Telling_value_of⟩)
    (c_Telling_value_of : PySem.W.codeIn K cd_Telling_value_of "Telling.value_of" = true)
    (k_Telling_value_of : PySem.W.keepIn K (.ref f_Telling_value_of) = true)
    (a_Telling_later : PySem.W.findIn K (.ref C_Telling) "later" = some (some (.ref f_Telling_later)))
    (i_Telling_later : PySem.W.isFn K (.ref f_Telling_later) = true)
    (l_Telling_later : K.lookup f_Telling_later = some ⟨oc_Telling_later, od_Telling_later, .func (PySem.W.fnOf "later" "Telling.later" (defArgs s_Telling_later) (defBody s_Telling_later) (defScope s_Telling_later) .none kV_Telling_later dc_Telling_later pm_Telling_later an_Telling_later cd_Telling_later ct_Telling_later), sl_Telling_later⟩)
    (c_Telling_later : PySem.W.codeIn K cd_Telling_later "Telling.later" = true)
    (k_Telling_later : PySem.W.keepIn K (.ref f_Telling_later) = true)
    (a_Telling_tell : PySem.W.findIn K (.ref C_Telling) "tell" = some (some (.ref f_Telling_tell)))
    (i_Telling_tell : PySem.W.isFn K (.ref f_Telling_tell) = true)
    (l_Telling_tell : K.lookup f_Telling_tell = some ⟨oc_Telling_tell, od_Telling_tell, .func (PySem.W.fnOf "tell" "Telling.tell" (defArgs s_Telling_tell) (defBody s_Telling_tell) (defScope s_Telling_tell) .none kV_Telling_tell dc_Telling_tell pm_Telling_tell an_Telling_tell cd_Telling_tell ct_Telling_tell), sl_Telling_tell⟩)
    (c_Telling_tell : PySem.W.codeIn K cd_Telling_tell "Telling.tell" = true)
    (k_Telling_tell : PySem.W.keepIn K (.ref f_Telling_tell) = true)
    (a_Telling_make : PySem.W.findIn K (.ref C_Telling) "make" = some (some (.ref f_Telling_make)))
    (i_Telling_make : PySem.W.isFn K (.ref f_Telling_make) = true)
    (l_Telling_make : K.lookup f_Telling_make = some ⟨oc_Telling_make, od_Telling_make, .func (PySem.W.fnOf "make" "Telling.make" (defArgs s_Telling_make) (defBody s_Telling_make) (defScope s_Telling_make) .none kV_Telling_make dc_Telling_make pm_Telling_make an_Telling_make cd_Telling_make ct_Telling_make), sl_Telling_make⟩)
    (c_Telling_make : PySem.W.codeIn K cd_Telling_make "Telling.make" = true)
    (k_Telling_make : PySem.W.keepIn K (.ref f_Telling_make) = true)
    (a_Telling_make_of : PySem.W.findIn K (.ref C_Telling) "make_of" = some (some (.ref f_Telling_make_of)))
    (i_Telling_make_of : PySem.W.isFn K (.ref f_Telling_make_of) = true)
    (l_Telling_make_of : K.lookup f_Telling_make_of = some ⟨oc_Telling_make_of, od_Telling_make_of, .func (PySem.W.fnOf "make_of" "Telling.make_of" (defArgs s_Telling_make_of) (defBody s_Telling_make_of) (defScope s_Telling_make_of) .none kV_Telling_make_of dc_Telling_make_of pm_Telling_make_of an_Telling_make_of cd_Telling_make_of ct_Telling_make_of), sl_Telling_make_of⟩)
    (c_Telling_make_of : PySem.W.codeIn K cd_Telling_make_of "Telling.make_of" = true)
    (k_Telling_make_of : PySem.W.keepIn K (.ref f_Telling_make_of) = true)
    (a_Telling_new_name : PySem.W.findIn K (.ref C_Telling) "new_name" = some (some (.ref f_Telling_new_name)))
    (i_Telling_new_name : PySem.W.isFn K (.ref f_Telling_new_name) = true)
    (l_Telling_new_name : K.lookup f_Telling_new_name = some ⟨oc_Telling_new_name, od_Telling_new_name, .func (PySem.W.fnOf "new_name" "Telling.new_name" (defArgs s_Telling_new_name) (defBody s_Telling_new_name) (defScope s_Telling_new_name) .none kV_Telling_new_name dc_Telling_new_name pm_Telling_new_name an_Telling_new_name cd_Telling_new_name ct_Telling_new_name), sl_Telling_new_name⟩)
    (c_Telling_new_name : PySem.W.codeIn K cd_Telling_new_name "Telling.new_name" = true)
    (k_Telling_new_name : PySem.W.keepIn K (.ref f_Telling_new_name) = true)
    (a_tell_num : PySem.W.nsIn K mainGlobals "tell_num" = some (some (.ref f_tell_num)))
    (l_tell_num : K.lookup f_tell_num = some ⟨oc_tell_num, od_tell_num, .func (PySem.W.fnOf "tell_num" "tell_num" (defArgs s_tell_num) (defBody s_tell_num) (defScope s_tell_num) .none kV_tell_num dc_tell_num pm_tell_num an_tell_num cd_tell_num ct_tell_num), sl_tell_num⟩)
    (c_tell_num : PySem.W.codeIn K cd_tell_num "tell_num" = true)
    (k_tell_num : PySem.W.keepIn K (.ref f_tell_num) = true)
    (a_tell_name : PySem.W.nsIn K mainGlobals "tell_name" = some (some (.ref f_tell_name)))
    (l_tell_name : K.lookup f_tell_name = some ⟨oc_tell_name, od_tell_name, .func (PySem.W.fnOf "tell_name" "tell_name" (defArgs s_tell_name) (defBody s_tell_name) (defScope s_tell_name) .none kV_tell_name dc_tell_name pm_tell_name an_tell_name cd_tell_name ct_tell_name), sl_tell_name⟩)
    (c_tell_name : PySem.W.codeIn K cd_tell_name "tell_name" = true)
    (k_tell_name : PySem.W.keepIn K (.ref f_tell_name) = true)
    (a_tell_two : PySem.W.nsIn K mainGlobals "tell_two" = some (some (.ref f_tell_two)))
    (l_tell_two : K.lookup f_tell_two = some ⟨oc_tell_two, od_tell_two, .func (PySem.W.fnOf "tell_two" "tell_two" (defArgs s_tell_two) (defBody s_tell_two) (defScope s_tell_two) .none kV_tell_two dc_tell_two pm_tell_two an_tell_two cd_tell_two ct_tell_two), sl_tell_two⟩)
    (c_tell_two : PySem.W.codeIn K cd_tell_two "tell_two" = true)
    (k_tell_two : PySem.W.keepIn K (.ref f_tell_two) = true)
    (a_reckon : PySem.W.nsIn K mainGlobals "reckon" = some (some (.ref f_reckon)))
    (l_reckon : K.lookup f_reckon = some ⟨oc_reckon, od_reckon, .func (PySem.W.fnOf "reckon" "reckon" (defArgs s_reckon) (defBody s_reckon) (defScope s_reckon) .none kV_reckon dc_reckon pm_reckon an_reckon cd_reckon ct_reckon), sl_reckon⟩)
    (c_reckon : PySem.W.codeIn K cd_reckon "reckon" = true)
    (k_reckon : PySem.W.keepIn K (.ref f_reckon) = true)
    (a_tell_when : PySem.W.nsIn K mainGlobals "tell_when" = some (some (.ref f_tell_when)))
    (l_tell_when : K.lookup f_tell_when = some ⟨oc_tell_when, od_tell_when, .func (PySem.W.fnOf "tell_when" "tell_when" (defArgs s_tell_when) (defBody s_tell_when) (defScope s_tell_when) .none kV_tell_when dc_tell_when pm_tell_when an_tell_when cd_tell_when ct_tell_when), sl_tell_when⟩)
    (c_tell_when : PySem.W.codeIn K cd_tell_when "tell_when" = true)
    (k_tell_when : PySem.W.keepIn K (.ref f_tell_when) = true)
    (a_choose : PySem.W.nsIn K mainGlobals "choose" = some (some (.ref f_choose)))
    (l_choose : K.lookup f_choose = some ⟨oc_choose, od_choose, .func (PySem.W.fnOf "choose" "choose" (defArgs s_choose) (defBody s_choose) (defScope s_choose) .none kV_choose dc_choose pm_choose an_choose cd_choose ct_choose), sl_choose⟩)
    (c_choose : PySem.W.codeIn K cd_choose "choose" = true)
    (k_choose : PySem.W.keepIn K (.ref f_choose) = true)
    (a_tell_let : PySem.W.nsIn K mainGlobals "tell_let" = some (some (.ref f_tell_let)))
    (l_tell_let : K.lookup f_tell_let = some ⟨oc_tell_let, od_tell_let, .func (PySem.W.fnOf "tell_let" "tell_let" (defArgs s_tell_let) (defBody s_tell_let) (defScope s_tell_let) .none kV_tell_let dc_tell_let pm_tell_let an_tell_let cd_tell_let ct_tell_let), sl_tell_let⟩)
    (c_tell_let : PySem.W.codeIn K cd_tell_let "tell_let" = true)
    (k_tell_let : PySem.W.keepIn K (.ref f_tell_let) = true)
    (a_go_on_with_b : PySem.W.nsIn K mainGlobals "go_on_with_b" = some (some (.ref f_go_on_with_b)))
    (l_go_on_with_b : K.lookup f_go_on_with_b = some ⟨oc_go_on_with_b, od_go_on_with_b, .func (PySem.W.fnOf "go_on_with_b" "go_on_with_b" (defArgs s_go_on_with_b) (defBody s_go_on_with_b) (defScope s_go_on_with_b) .none kV_go_on_with_b dc_go_on_with_b pm_go_on_with_b an_go_on_with_b cd_go_on_with_b ct_go_on_with_b), sl_go_on_with_b⟩)
    (c_go_on_with_b : PySem.W.codeIn K cd_go_on_with_b "go_on_with_b" = true)
    (k_go_on_with_b : PySem.W.keepIn K (.ref f_go_on_with_b) = true)
    (a_tell_turns : PySem.W.nsIn K mainGlobals "tell_turns" = some (some (.ref f_tell_turns)))
    (l_tell_turns : K.lookup f_tell_turns = some ⟨oc_tell_turns, od_tell_turns, .func (PySem.W.fnOf "tell_turns" "tell_turns" (defArgs s_tell_turns) (defBody s_tell_turns) (defScope s_tell_turns) .none kV_tell_turns dc_tell_turns pm_tell_turns an_tell_turns cd_tell_turns ct_tell_turns), sl_tell_turns⟩)
    (c_tell_turns : PySem.W.codeIn K cd_tell_turns "tell_turns" = true)
    (k_tell_turns : PySem.W.keepIn K (.ref f_tell_turns) = true)
    (a_turn : PySem.W.nsIn K mainGlobals "turn" = some (some (.ref f_turn)))
    (l_turn : K.lookup f_turn = some ⟨oc_turn, od_turn, .func (PySem.W.fnOf "turn" "turn" (defArgs s_turn) (defBody s_turn) (defScope s_turn) .none kV_turn dc_turn pm_turn an_turn cd_turn ct_turn), sl_turn⟩)
    (c_turn : PySem.W.codeIn K cd_turn "turn" = true)
    (k_turn : PySem.W.keepIn K (.ref f_turn) = true)
    (a_tell_def : PySem.W.nsIn K mainGlobals "tell_def" = some (some (.ref f_tell_def)))
    (l_tell_def : K.lookup f_tell_def = some ⟨oc_tell_def, od_tell_def, .func (PySem.W.fnOf "tell_def" "tell_def" (defArgs s_tell_def) (defBody s_tell_def) (defScope s_tell_def) .none kV_tell_def dc_tell_def pm_tell_def an_tell_def cd_tell_def ct_tell_def), sl_tell_def⟩)
    (c_tell_def : PySem.W.codeIn K cd_tell_def "tell_def" = true)
    (k_tell_def : PySem.W.keepIn K (.ref f_tell_def) = true)
    (a_tell_use : PySem.W.nsIn K mainGlobals "tell_use" = some (some (.ref f_tell_use)))
    (l_tell_use : K.lookup f_tell_use = some ⟨oc_tell_use, od_tell_use, .func (PySem.W.fnOf "tell_use" "tell_use" (defArgs s_tell_use) (defBody s_tell_use) (defScope s_tell_use) .none kV_tell_use dc_tell_use pm_tell_use an_tell_use cd_tell_use ct_tell_use), sl_tell_use⟩)
    (c_tell_use : PySem.W.codeIn K cd_tell_use "tell_use" = true)
    (k_tell_use : PySem.W.keepIn K (.ref f_tell_use) = true)
    (a_go_on_with_function : PySem.W.nsIn K mainGlobals "go_on_with_function" = some (some (.ref f_go_on_with_function)))
    (l_go_on_with_function : K.lookup f_go_on_with_function = some ⟨oc_go_on_with_function, od_go_on_with_function, .func (PySem.W.fnOf "go_on_with_function" "go_on_with_function" (defArgs s_go_on_with_function) (defBody s_go_on_with_function) (defScope s_go_on_with_function) .none kV_go_on_with_function dc_go_on_with_function pm_go_on_with_function an_go_on_with_function cd_go_on_with_function ct_go_on_with_function), sl_go_on_with_function⟩)
    (c_go_on_with_function : PySem.W.codeIn K cd_go_on_with_function "go_on_with_function" = true)
    (k_go_on_with_function : PySem.W.keepIn K (.ref f_go_on_with_function) = true)
    (a_tell_quote : PySem.W.nsIn K mainGlobals "tell_quote" = some (some (.ref f_tell_quote)))
    (l_tell_quote : K.lookup f_tell_quote = some ⟨oc_tell_quote, od_tell_quote, .func (PySem.W.fnOf "tell_quote" "tell_quote" (defArgs s_tell_quote) (defBody s_tell_quote) (defScope s_tell_quote) .none kV_tell_quote dc_tell_quote pm_tell_quote an_tell_quote cd_tell_quote ct_tell_quote), sl_tell_quote⟩)
    (c_tell_quote : PySem.W.codeIn K cd_tell_quote "tell_quote" = true)
    (k_tell_quote : PySem.W.keepIn K (.ref f_tell_quote) = true)
    (a_refuse_too_great : PySem.W.nsIn K mainGlobals "refuse_too_great" = some (some (.ref f_refuse_too_great)))
    (l_refuse_too_great : K.lookup f_refuse_too_great = some ⟨oc_refuse_too_great, od_refuse_too_great, .func (PySem.W.fnOf "refuse_too_great" "refuse_too_great" (defArgs s_refuse_too_great) (defBody s_refuse_too_great) (defScope s_refuse_too_great) .none kV_refuse_too_great dc_refuse_too_great pm_refuse_too_great an_refuse_too_great cd_refuse_too_great ct_refuse_too_great), sl_refuse_too_great⟩)
    (c_refuse_too_great : PySem.W.codeIn K cd_refuse_too_great "refuse_too_great" = true)
    (k_refuse_too_great : PySem.W.keepIn K (.ref f_refuse_too_great) = true)
    (a_tell_lift : PySem.W.nsIn K mainGlobals "tell_lift" = some (some (.ref f_tell_lift)))
    (l_tell_lift : K.lookup f_tell_lift = some ⟨oc_tell_lift, od_tell_lift, .func (PySem.W.fnOf "tell_lift" "tell_lift" (defArgs s_tell_lift) (defBody s_tell_lift) (defScope s_tell_lift) .none kV_tell_lift dc_tell_lift pm_tell_lift an_tell_lift cd_tell_lift ct_tell_lift), sl_tell_lift⟩)
    (c_tell_lift : PySem.W.codeIn K cd_tell_lift "tell_lift" = true)
    (k_tell_lift : PySem.W.keepIn K (.ref f_tell_lift) = true)
    (a_make_num : PySem.W.nsIn K mainGlobals "make_num" = some (some (.ref f_make_num)))
    (l_make_num : K.lookup f_make_num = some ⟨oc_make_num, od_make_num, .func (PySem.W.fnOf "make_num" "make_num" (defArgs s_make_num) (defBody s_make_num) (defScope s_make_num) .none kV_make_num dc_make_num pm_make_num an_make_num cd_make_num ct_make_num), sl_make_num⟩)
    (c_make_num : PySem.W.codeIn K cd_make_num "make_num" = true)
    (k_make_num : PySem.W.keepIn K (.ref f_make_num) = true)
    (a_tell_run : PySem.W.nsIn K mainGlobals "tell_run" = some (some (.ref f_tell_run)))
    (l_tell_run : K.lookup f_tell_run = some ⟨oc_tell_run, od_tell_run, .func (PySem.W.fnOf "tell_run" "tell_run" (defArgs s_tell_run) (defBody s_tell_run) (defScope s_tell_run) .none kV_tell_run dc_tell_run pm_tell_run an_tell_run cd_tell_run ct_tell_run), sl_tell_run⟩)
    (c_tell_run : PySem.W.codeIn K cd_tell_run "tell_run" = true)
    (k_tell_run : PySem.W.keepIn K (.ref f_tell_run) = true)
    (a_go_on_with_piece : PySem.W.nsIn K mainGlobals "go_on_with_piece" = some (some (.ref f_go_on_with_piece)))
    (l_go_on_with_piece : K.lookup f_go_on_with_piece = some ⟨oc_go_on_with_piece, od_go_on_with_piece, .func (PySem.W.fnOf "go_on_with_piece" "go_on_with_piece" (defArgs s_go_on_with_piece) (defBody s_go_on_with_piece) (defScope s_go_on_with_piece) .none kV_go_on_with_piece dc_go_on_with_piece pm_go_on_with_piece an_go_on_with_piece cd_go_on_with_piece ct_go_on_with_piece), sl_go_on_with_piece⟩)
    (c_go_on_with_piece : PySem.W.codeIn K cd_go_on_with_piece "go_on_with_piece" = true)
    (k_go_on_with_piece : PySem.W.keepIn K (.ref f_go_on_with_piece) = true)
    (a_make_same : PySem.W.nsIn K mainGlobals "make_same" = some (some (.ref f_make_same)))
    (l_make_same : K.lookup f_make_same = some ⟨oc_make_same, od_make_same, .func (PySem.W.fnOf "make_same" "make_same" (defArgs s_make_same) (defBody s_make_same) (defScope s_make_same) .none kV_make_same dc_make_same pm_make_same an_make_same cd_make_same ct_make_same), sl_make_same⟩)
    (c_make_same : PySem.W.codeIn K cd_make_same "make_same" = true)
    (k_make_same : PySem.W.keepIn K (.ref f_make_same) = true)
    (a_make_name : PySem.W.nsIn K mainGlobals "make_name" = some (some (.ref f_make_name)))
    (l_make_name : K.lookup f_make_name = some ⟨oc_make_name, od_make_name, .func (PySem.W.fnOf "make_name" "make_name" (defArgs s_make_name) (defBody s_make_name) (defScope s_make_name) .none kV_make_name dc_make_name pm_make_name an_make_name cd_make_name ct_make_name), sl_make_name⟩)
    (c_make_name : PySem.W.codeIn K cd_make_name "make_name" = true)
    (k_make_name : PySem.W.keepIn K (.ref f_make_name) = true)
    (a_make_plain : PySem.W.nsIn K mainGlobals "make_plain" = some (some (.ref f_make_plain)))
    (l_make_plain : K.lookup f_make_plain = some ⟨oc_make_plain, od_make_plain, .func (PySem.W.fnOf "make_plain" "make_plain" (defArgs s_make_plain) (defBody s_make_plain) (defScope s_make_plain) .none kV_make_plain dc_make_plain pm_make_plain an_make_plain cd_make_plain ct_make_plain), sl_make_plain⟩)
    (c_make_plain : PySem.W.codeIn K cd_make_plain "make_plain" = true)
    (k_make_plain : PySem.W.keepIn K (.ref f_make_plain) = true)
    (a_make_let : PySem.W.nsIn K mainGlobals "make_let" = some (some (.ref f_make_let)))
    (l_make_let : K.lookup f_make_let = some ⟨oc_make_let, od_make_let, .func (PySem.W.fnOf "make_let" "make_let" (defArgs s_make_let) (defBody s_make_let) (defScope s_make_let) .none kV_make_let dc_make_let pm_make_let an_make_let cd_make_let ct_make_let), sl_make_let⟩)
    (c_make_let : PySem.W.codeIn K cd_make_let "make_let" = true)
    (k_make_let : PySem.W.keepIn K (.ref f_make_let) = true)
    (a_make_turns : PySem.W.nsIn K mainGlobals "make_turns" = some (some (.ref f_make_turns)))
    (l_make_turns : K.lookup f_make_turns = some ⟨oc_make_turns, od_make_turns, .func (PySem.W.fnOf "make_turns" "make_turns" (defArgs s_make_turns) (defBody s_make_turns) (defScope s_make_turns) .none kV_make_turns dc_make_turns pm_make_turns an_make_turns cd_make_turns ct_make_turns), sl_make_turns⟩)
    (c_make_turns : PySem.W.codeIn K cd_make_turns "make_turns" = true)
    (k_make_turns : PySem.W.keepIn K (.ref f_make_turns) = true)
    (a_make_def : PySem.W.nsIn K mainGlobals "make_def" = some (some (.ref f_make_def)))
    (l_make_def : K.lookup f_make_def = some ⟨oc_make_def, od_make_def, .func (PySem.W.fnOf "make_def" "make_def" (defArgs s_make_def) (defBody s_make_def) (defScope s_make_def) .none kV_make_def dc_make_def pm_make_def an_make_def cd_make_def ct_make_def), sl_make_def⟩)
    (c_make_def : PySem.W.codeIn K cd_make_def "make_def" = true)
    (k_make_def : PySem.W.keepIn K (.ref f_make_def) = true)
    (a_make_use : PySem.W.nsIn K mainGlobals "make_use" = some (some (.ref f_make_use)))
    (l_make_use : K.lookup f_make_use = some ⟨oc_make_use, od_make_use, .func (PySem.W.fnOf "make_use" "make_use" (defArgs s_make_use) (defBody s_make_use) (defScope s_make_use) .none kV_make_use dc_make_use pm_make_use an_make_use cd_make_use ct_make_use), sl_make_use⟩)
    (c_make_use : PySem.W.codeIn K cd_make_use "make_use" = true)
    (k_make_use : PySem.W.keepIn K (.ref f_make_use) = true)
    (a_fill_hole : PySem.W.nsIn K mainGlobals "fill_hole" = some (some (.ref f_fill_hole)))
    (l_fill_hole : K.lookup f_fill_hole = some ⟨oc_fill_hole, od_fill_hole, .func (PySem.W.fnOf "fill_hole" "fill_hole" (defArgs s_fill_hole) (defBody s_fill_hole) (defScope s_fill_hole) .none kV_fill_hole dc_fill_hole pm_fill_hole an_fill_hole cd_fill_hole ct_fill_hole), sl_fill_hole⟩)
    (c_fill_hole : PySem.W.codeIn K cd_fill_hole "fill_hole" = true)
    (k_fill_hole : PySem.W.keepIn K (.ref f_fill_hole) = true)
    (a_put_together : PySem.W.nsIn K mainGlobals "put_together" = some (some (.ref f_put_together)))
    (l_put_together : K.lookup f_put_together = some ⟨oc_put_together, od_put_together, .func (PySem.W.fnOf "put_together" "put_together" (defArgs s_put_together) (defBody s_put_together) (defScope s_put_together) .none kV_put_together dc_put_together pm_put_together an_put_together cd_put_together ct_put_together), sl_put_together⟩)
    (c_put_together : PySem.W.codeIn K cd_put_together "put_together" = true)
    (k_put_together : PySem.W.keepIn K (.ref f_put_together) = true)
    (a_law_cell_at : PySem.W.nsIn K mainGlobals "_law_cell_at" = some (some (.ref f_law_cell_at)))
    (l_law_cell_at : K.lookup f_law_cell_at = some ⟨oc_law_cell_at, od_law_cell_at, .func (PySem.W.fnOf "_law_cell_at" "_law_cell_at" (defArgs s_cell_at) (defBody s_cell_at) (defScope s_cell_at) .none kV_law_cell_at dc_law_cell_at pm_law_cell_at an_law_cell_at cd_law_cell_at ct_law_cell_at), sl_law_cell_at⟩)
    (c_law_cell_at : PySem.W.codeIn K cd_law_cell_at "_law_cell_at" = true)
    (k_law_cell_at : PySem.W.keepIn K (.ref f_law_cell_at) = true)
    (a_law_mixed : PySem.W.nsIn K mainGlobals "_law_mixed" = some (some (.ref f_law_mixed)))
    (l_law_mixed : K.lookup f_law_mixed = some ⟨oc_law_mixed, od_law_mixed, .func (PySem.W.fnOf "_law_mixed" "_law_mixed" (defArgs s_mixed) (defBody s_mixed) (defScope s_mixed) .none kV_law_mixed dc_law_mixed pm_law_mixed an_law_mixed cd_law_mixed ct_law_mixed), sl_law_mixed⟩)
    (c_law_mixed : PySem.W.codeIn K cd_law_mixed "_law_mixed" = true)
    (k_law_mixed : PySem.W.keepIn K (.ref f_law_mixed) = true)
    (a_law_drawn : PySem.W.nsIn K mainGlobals "_law_drawn" = some (some (.ref f_law_drawn)))
    (l_law_drawn : K.lookup f_law_drawn = some ⟨oc_law_drawn, od_law_drawn, .func (PySem.W.fnOf "_law_drawn" "_law_drawn" (defArgs s_drawn) (defBody s_drawn) (defScope s_drawn) .none kV_law_drawn dc_law_drawn pm_law_drawn an_law_drawn cd_law_drawn ct_law_drawn), sl_law_drawn⟩)
    (c_law_drawn : PySem.W.codeIn K cd_law_drawn "_law_drawn" = true)
    (k_law_drawn : PySem.W.keepIn K (.ref f_law_drawn) = true)
    (a_law_whole : PySem.W.nsIn K mainGlobals "_law_whole" = some (some (.ref f_law_whole)))
    (l_law_whole : K.lookup f_law_whole = some ⟨oc_law_whole, od_law_whole, .func (PySem.W.fnOf "_law_whole" "_law_whole" (defArgs s_whole) (defBody s_whole) (defScope s_whole) .none kV_law_whole dc_law_whole pm_law_whole an_law_whole cd_law_whole ct_law_whole), sl_law_whole⟩)
    (c_law_whole : PySem.W.codeIn K cd_law_whole "_law_whole" = true)
    (k_law_whole : PySem.W.keepIn K (.ref f_law_whole) = true)
    (a_law_name : PySem.W.nsIn K mainGlobals "_law_name" = some (some (.ref f_law_name)))
    (l_law_name : K.lookup f_law_name = some ⟨oc_law_name, od_law_name, .func (PySem.W.fnOf "_law_name" "_law_name" (defArgs s_name) (defBody s_name) (defScope s_name) .none kV_law_name dc_law_name pm_law_name an_law_name cd_law_name ct_law_name), sl_law_name⟩)
    (c_law_name : PySem.W.codeIn K cd_law_name "_law_name" = true)
    (k_law_name : PySem.W.keepIn K (.ref f_law_name) = true)
    (a_law_next : PySem.W.nsIn K mainGlobals "_law_next" = some (some (.ref f_law_next)))
    (l_law_next : K.lookup f_law_next = some ⟨oc_law_next, od_law_next, .func (PySem.W.fnOf "_law_next" "_law_next" (defArgs s_next) (defBody s_next) (defScope s_next) .none kV_law_next dc_law_next pm_law_next an_law_next cd_law_next ct_law_next), sl_law_next⟩)
    (c_law_next : PySem.W.codeIn K cd_law_next "_law_next" = true)
    (k_law_next : PySem.W.keepIn K (.ref f_law_next) = true)
    (a_law_number : PySem.W.nsIn K mainGlobals "_law_number" = some (some (.ref f_law_number)))
    (l_law_number : K.lookup f_law_number = some ⟨oc_law_number, od_law_number, .func (PySem.W.fnOf "_law_number" "_law_number" (defArgs s_number) (defBody s_number) (defScope s_number) .none kV_law_number dc_law_number pm_law_number an_law_number cd_law_number ct_law_number), sl_law_number⟩)
    (c_law_number : PySem.W.codeIn K cd_law_number "_law_number" = true)
    (k_law_number : PySem.W.keepIn K (.ref f_law_number) = true)
    (a_law_seen : PySem.W.nsIn K mainGlobals "_law_seen" = some (some (.ref f_law_seen)))
    (l_law_seen : K.lookup f_law_seen = some ⟨oc_law_seen, od_law_seen, .func (PySem.W.fnOf "_law_seen" "_law_seen" (defArgs s_seen) (defBody s_seen) (defScope s_seen) .none kV_law_seen dc_law_seen pm_law_seen an_law_seen cd_law_seen ct_law_seen), sl_law_seen⟩)
    (c_law_seen : PySem.W.codeIn K cd_law_seen "_law_seen" = true)
    (k_law_seen : PySem.W.keepIn K (.ref f_law_seen) = true)
    (a_law_leaf : PySem.W.nsIn K mainGlobals "_law_leaf" = some (some (.ref f_law_leaf)))
    (l_law_leaf : K.lookup f_law_leaf = some ⟨oc_law_leaf, od_law_leaf, .func (PySem.W.fnOf "_law_leaf" "_law_leaf" (defArgs s_leaf) (defBody s_leaf) (defScope s_leaf) .none kV_law_leaf dc_law_leaf pm_law_leaf an_law_leaf cd_law_leaf ct_law_leaf), sl_law_leaf⟩)
    (c_law_leaf : PySem.W.codeIn K cd_law_leaf "_law_leaf" = true)
    (k_law_leaf : PySem.W.keepIn K (.ref f_law_leaf) = true)
    (a_law_words : PySem.W.nsIn K mainGlobals "_law_words" = some (some (.ref f_law_words)))
    (l_law_words : K.lookup f_law_words = some ⟨oc_law_words, od_law_words, .func (PySem.W.fnOf "_law_words" "_law_words" (defArgs s_words) (defBody s_words) (defScope s_words) .none kV_law_words dc_law_words pm_law_words an_law_words cd_law_words ct_law_words), sl_law_words⟩)
    (c_law_words : PySem.W.codeIn K cd_law_words "_law_words" = true)
    (k_law_words : PySem.W.keepIn K (.ref f_law_words) = true)
    (a_law_term : PySem.W.nsIn K mainGlobals "_law_term" = some (some (.ref f_law_term)))
    (l_law_term : K.lookup f_law_term = some ⟨oc_law_term, od_law_term, .func (PySem.W.fnOf "_law_term" "_law_term" (defArgs s_term) (defBody s_term) (defScope s_term) .none kV_law_term dc_law_term pm_law_term an_law_term cd_law_term ct_law_term), sl_law_term⟩)
    (c_law_term : PySem.W.codeIn K cd_law_term "_law_term" = true)
    (k_law_term : PySem.W.keepIn K (.ref f_law_term) = true)
    (a_law_twice : PySem.W.nsIn K mainGlobals "_law_twice" = some (some (.ref f_law_twice)))
    (l_law_twice : K.lookup f_law_twice = some ⟨oc_law_twice, od_law_twice, .func (PySem.W.fnOf "_law_twice" "_law_twice" (defArgs s_twice) (defBody s_twice) (defScope s_twice) .none kV_law_twice dc_law_twice pm_law_twice an_law_twice cd_law_twice ct_law_twice), sl_law_twice⟩)
    (c_law_twice : PySem.W.codeIn K cd_law_twice "_law_twice" = true)
    (k_law_twice : PySem.W.keepIn K (.ref f_law_twice) = true)
    (a_law_bound : PySem.W.nsIn K mainGlobals "_law_bound" = some (some (.ref f_law_bound)))
    (l_law_bound : K.lookup f_law_bound = some ⟨oc_law_bound, od_law_bound, .func (PySem.W.fnOf "_law_bound" "_law_bound" (defArgs s_bound) (defBody s_bound) (defScope s_bound) .none kV_law_bound dc_law_bound pm_law_bound an_law_bound cd_law_bound ct_law_bound), sl_law_bound⟩)
    (c_law_bound : PySem.W.codeIn K cd_law_bound "_law_bound" = true)
    (k_law_bound : PySem.W.keepIn K (.ref f_law_bound) = true)
    (a_law_value : PySem.W.nsIn K mainGlobals "_law_value" = some (some (.ref f_law_value)))
    (l_law_value : K.lookup f_law_value = some ⟨oc_law_value, od_law_value, .func (PySem.W.fnOf "_law_value" "_law_value" (defArgs s_value) (defBody s_value) (defScope s_value) .none kV_law_value dc_law_value pm_law_value an_law_value cd_law_value ct_law_value), sl_law_value⟩)
    (c_law_value : PySem.W.codeIn K cd_law_value "_law_value" = true)
    (k_law_value : PySem.W.keepIn K (.ref f_law_value) = true)
    (a_law_with : PySem.W.nsIn K mainGlobals "_law_with" = some (some (.ref f_law_with)))
    (l_law_with : K.lookup f_law_with = some ⟨oc_law_with, od_law_with, .func (PySem.W.fnOf "_law_with" "_law_with" (defArgs s_with) (defBody s_with) (defScope s_with) .none kV_law_with dc_law_with pm_law_with an_law_with cd_law_with ct_law_with), sl_law_with⟩)
    (c_law_with : PySem.W.codeIn K cd_law_with "_law_with" = true)
    (k_law_with : PySem.W.keepIn K (.ref f_law_with) = true)
    (a_law_value_bound : PySem.W.nsIn K mainGlobals "_law_value_bound" = some (some (.ref f_law_value_bound)))
    (l_law_value_bound : K.lookup f_law_value_bound = some ⟨oc_law_value_bound, od_law_value_bound, .func (PySem.W.fnOf "_law_value_bound" "_law_value_bound" (defArgs s_value_bound) (defBody s_value_bound) (defScope s_value_bound) .none kV_law_value_bound dc_law_value_bound pm_law_value_bound an_law_value_bound cd_law_value_bound ct_law_value_bound), sl_law_value_bound⟩)
    (c_law_value_bound : PySem.W.codeIn K cd_law_value_bound "_law_value_bound" = true)
    (k_law_value_bound : PySem.W.keepIn K (.ref f_law_value_bound) = true)
    (a_law_parts : PySem.W.nsIn K mainGlobals "_law_parts" = some (some (.ref f_law_parts)))
    (l_law_parts : K.lookup f_law_parts = some ⟨oc_law_parts, od_law_parts, .func (PySem.W.fnOf "_law_parts" "_law_parts" (defArgs s_parts) (defBody s_parts) (defScope s_parts) .none kV_law_parts dc_law_parts pm_law_parts an_law_parts cd_law_parts ct_law_parts), sl_law_parts⟩)
    (c_law_parts : PySem.W.codeIn K cd_law_parts "_law_parts" = true)
    (k_law_parts : PySem.W.keepIn K (.ref f_law_parts) = true)
    (a_law_cost : PySem.W.nsIn K mainGlobals "_law_cost" = some (some (.ref f_law_cost)))
    (l_law_cost : K.lookup f_law_cost = some ⟨oc_law_cost, od_law_cost, .func (PySem.W.fnOf "_law_cost" "_law_cost" (defArgs s_cost) (defBody s_cost) (defScope s_cost) .none kV_law_cost dc_law_cost pm_law_cost an_law_cost cd_law_cost ct_law_cost), sl_law_cost⟩)
    (c_law_cost : PySem.W.codeIn K cd_law_cost "_law_cost" = true)
    (k_law_cost : PySem.W.keepIn K (.ref f_law_cost) = true)
    (a_law_without : PySem.W.nsIn K mainGlobals "_law_without" = some (some (.ref f_law_without)))
    (l_law_without : K.lookup f_law_without = some ⟨oc_law_without, od_law_without, .func (PySem.W.fnOf "_law_without" "_law_without" (defArgs s_without) (defBody s_without) (defScope s_without) .none kV_law_without dc_law_without pm_law_without an_law_without cd_law_without ct_law_without), sl_law_without⟩)
    (c_law_without : PySem.W.codeIn K cd_law_without "_law_without" = true)
    (k_law_without : PySem.W.keepIn K (.ref f_law_without) = true)
    (a_law : PySem.W.nsIn K mainGlobals "law" = some (some (.ref f_law)))
    (l_law : K.lookup f_law = some ⟨oc_law, od_law, .func (PySem.W.fnOf "law" "law" (defArgs s_law) (defBody s_law) (defScope s_law) .none kV_law dc_law pm_law an_law cd_law ct_law), sl_law⟩)
    (c_law : PySem.W.codeIn K cd_law "law" = true)
    (k_law : PySem.W.keepIn K (.ref f_law) = true)
    (z_bool : PySem.W.nsIn K mainGlobals "bool" = some none)
    (z_dict : PySem.W.nsIn K mainGlobals "dict" = some none)
    (z_int : PySem.W.nsIn K mainGlobals "int" = some none)
    (z_isinstance : PySem.W.nsIn K mainGlobals "isinstance" = some none)
    (z_len : PySem.W.nsIn K mainGlobals "len" = some none)
    (z_max : PySem.W.nsIn K mainGlobals "max" = some none)
    (z_range : PySem.W.nsIn K mainGlobals "range" = some none)
    (z_reversed : PySem.W.nsIn K mainGlobals "reversed" = some none)
    (z_sum : PySem.W.nsIn K mainGlobals "sum" = some none)
    (z_tuple : PySem.W.nsIn K mainGlobals "tuple" = some none)
    (gi_RECKONED_BY : PySem.W.nsIn K mainGlobals "RECKONED_BY" = some (some (.int 1000003 tk_RECKONED_BY)))
    (gi_MOST_TERMS : PySem.W.nsIn K mainGlobals "MOST_TERMS" = some (some (.int 2000 tk_MOST_TERMS)))
    (gi_DEEPEST : PySem.W.nsIn K mainGlobals "DEEPEST" = some (some (.int 30 tk_DEEPEST)))
    (aD_TELLERS : PySem.W.nsIn K mainGlobals "TELLERS" = some (some (.ref D_TELLERS)))
    (lD_TELLERS : K.lookup D_TELLERS = some ⟨.type "dict", none, .dict eD_TELLERS nD_TELLERS, #[]⟩)
    (kD_TELLERS : PySem.W.KeysLit w.params eD_TELLERS.toList)
    (d_TELLERS_num : PySem.W.nsIn K D_TELLERS "num" = some (some (.ref f_tell_num)))
    (d_TELLERS_name : PySem.W.nsIn K D_TELLERS "name" = some (some (.ref f_tell_name)))
    (d_TELLERS_sum : PySem.W.nsIn K D_TELLERS "sum" = some (some (.ref f_tell_two)))
    (d_TELLERS_product : PySem.W.nsIn K D_TELLERS "product" = some (some (.ref f_tell_two)))
    (d_TELLERS_less : PySem.W.nsIn K D_TELLERS "less" = some (some (.ref f_tell_two)))
    (d_TELLERS_when : PySem.W.nsIn K D_TELLERS "when" = some (some (.ref f_tell_when)))
    (d_TELLERS_let : PySem.W.nsIn K D_TELLERS "let" = some (some (.ref f_tell_let)))
    (d_TELLERS_turns : PySem.W.nsIn K D_TELLERS "turns" = some (some (.ref f_tell_turns)))
    (d_TELLERS_def : PySem.W.nsIn K D_TELLERS "def" = some (some (.ref f_tell_def)))
    (d_TELLERS_use : PySem.W.nsIn K D_TELLERS "use" = some (some (.ref f_tell_use)))
    (d_TELLERS_quote : PySem.W.nsIn K D_TELLERS "quote" = some (some (.ref f_tell_quote)))
    (d_TELLERS_lift : PySem.W.nsIn K D_TELLERS "lift" = some (some (.ref f_tell_lift)))
    (d_TELLERS_run : PySem.W.nsIn K D_TELLERS "run" = some (some (.ref f_tell_run)))
    (aD_MAKERS : PySem.W.nsIn K mainGlobals "MAKERS" = some (some (.ref D_MAKERS)))
    (lD_MAKERS : K.lookup D_MAKERS = some ⟨.type "dict", none, .dict eD_MAKERS nD_MAKERS, #[]⟩)
    (kD_MAKERS : PySem.W.KeysLit w.params eD_MAKERS.toList)
    (d_MAKERS_num : PySem.W.nsIn K D_MAKERS "num" = some (some (.ref f_make_same)))
    (d_MAKERS_name : PySem.W.nsIn K D_MAKERS "name" = some (some (.ref f_make_name)))
    (d_MAKERS_sum : PySem.W.nsIn K D_MAKERS "sum" = some (some (.ref f_make_plain)))
    (d_MAKERS_product : PySem.W.nsIn K D_MAKERS "product" = some (some (.ref f_make_plain)))
    (d_MAKERS_less : PySem.W.nsIn K D_MAKERS "less" = some (some (.ref f_make_plain)))
    (d_MAKERS_when : PySem.W.nsIn K D_MAKERS "when" = some (some (.ref f_make_plain)))
    (d_MAKERS_let : PySem.W.nsIn K D_MAKERS "let" = some (some (.ref f_make_let)))
    (d_MAKERS_turns : PySem.W.nsIn K D_MAKERS "turns" = some (some (.ref f_make_turns)))
    (d_MAKERS_def : PySem.W.nsIn K D_MAKERS "def" = some (some (.ref f_make_def)))
    (d_MAKERS_use : PySem.W.nsIn K D_MAKERS "use" = some (some (.ref f_make_use)))
    (d_MAKERS_hole : PySem.W.nsIn K D_MAKERS "hole" = some (some (.ref f_fill_hole))) :
    ∃ fd : FuncData, (∀ (s : Shared) (v : Value), BindsTo s fd ⟨[v], []⟩ [("_law_script", v)]) ∧ ∀ base : Heap, K.In base → base.Ns mainGlobals mg → FnOk l.prog w K mg base CX0 222 fa fd ["_law_script"] (spLaw K) := by
  have e := hfa.symm.trans (PySem.W.mg_of X G a_law)
  cases e
  have mC_HallError := PySem.W.mg_of X G aC_HallError
  have X_HallError : XcT K mg "HallError" C_HallError := ⟨ex_HallError, mC_HallError, ke_HallError, be_HallError, te_HallError⟩
  have mC_TooGreat := PySem.W.mg_of X G aC_TooGreat
  have X_TooGreat : XcT K mg "TooGreat" C_TooGreat := ⟨ex_TooGreat, mC_TooGreat, ke_TooGreat, be_TooGreat, te_TooGreat⟩
  have cl_Piece : Cls K C_Piece := ⟨pg_Piece, hd_Piece, po_Piece, sa_Piece⟩
  have mC_Piece := PySem.W.mg_of X G aC_Piece
  have cl_Telling : Cls K C_Telling := ⟨pg_Telling, hd_Telling, po_Telling, sa_Telling⟩
  have mC_Telling := PySem.W.mg_of X G aC_Telling
  have F_plain_of := fun_mk (st := s_plain_of) l_plain_of c_plain_of k_plain_of
  have b_plain_of := F_plain_of.binds (ps := ["term"]) fun _ _ _ _ _ _ us hl => match us, hl with | [_], _ => rfl
  have m_plain_of := PySem.W.mg_of X G a_plain_of
  have F_Piece_init := fun_mk (st := s_Piece_init) l_Piece_init c_Piece_init k_Piece_init
  have b_Piece_init := F_Piece_init.binds (ps := ["self", "term", "size", "depth"]) fun _ _ _ _ _ _ us hl => match us, hl with | [_, _, _, _], _ => rfl
  have F_Telling_init := fun_mk (st := s_Telling_init) l_Telling_init c_Telling_init k_Telling_init
  have b_Telling_init := F_Telling_init.binds (ps := ["self"]) fun _ _ _ _ _ _ us hl => match us, hl with | [_], _ => rfl
  have F_Telling_value_of := fun_mk (st := s_Telling_value_of) l_Telling_value_of c_Telling_value_of k_Telling_value_of
  have b_Telling_value_of := F_Telling_value_of.binds (ps := ["self", "term"]) fun _ _ _ _ _ _ us hl => match us, hl with | [_, _], _ => rfl
  have F_Telling_later := fun_mk (st := s_Telling_later) l_Telling_later c_Telling_later k_Telling_later
  have b_Telling_later := F_Telling_later.binds (ps := ["self", "step", "about", "names"]) fun _ _ _ _ _ _ us hl => match us, hl with | [_, _, _, _], _ => rfl
  have F_Telling_tell := fun_mk (st := s_Telling_tell) l_Telling_tell c_Telling_tell k_Telling_tell
  have b_Telling_tell := F_Telling_tell.binds (ps := ["self", "term", "names"]) fun _ _ _ _ _ _ us hl => match us, hl with | [_, _, _], _ => rfl
  have F_Telling_make := fun_mk (st := s_Telling_make) l_Telling_make c_Telling_make k_Telling_make
  have b_Telling_make := F_Telling_make.binds (ps := ["self", "term", "names"]) fun _ _ _ _ _ _ us hl => match us, hl with | [_, _, _], _ => rfl
  have F_Telling_make_of := fun_mk (st := s_Telling_make_of) l_Telling_make_of c_Telling_make_of k_Telling_make_of
  have b_Telling_make_of := F_Telling_make_of.binds (ps := ["self", "head", "parts"]) fun _ _ _ _ _ _ us hl => match us, hl with | [_, _, _], _ => rfl
  have F_Telling_new_name := fun_mk (st := s_Telling_new_name) l_Telling_new_name c_Telling_new_name k_Telling_new_name
  have b_Telling_new_name := F_Telling_new_name.binds (ps := ["self"]) fun _ _ _ _ _ _ us hl => match us, hl with | [_], _ => rfl
  have F_tell_num := fun_mk (st := s_tell_num) l_tell_num c_tell_num k_tell_num
  have b_tell_num := F_tell_num.binds (ps := ["telling", "term", "names"]) fun _ _ _ _ _ _ us hl => match us, hl with | [_, _, _], _ => rfl
  have m_tell_num := PySem.W.mg_of X G a_tell_num
  have F_tell_name := fun_mk (st := s_tell_name) l_tell_name c_tell_name k_tell_name
  have b_tell_name := F_tell_name.binds (ps := ["telling", "term", "names"]) fun _ _ _ _ _ _ us hl => match us, hl with | [_, _, _], _ => rfl
  have m_tell_name := PySem.W.mg_of X G a_tell_name
  have F_tell_two := fun_mk (st := s_tell_two) l_tell_two c_tell_two k_tell_two
  have b_tell_two := F_tell_two.binds (ps := ["telling", "term", "names"]) fun _ _ _ _ _ _ us hl => match us, hl with | [_, _, _], _ => rfl
  have m_tell_two := PySem.W.mg_of X G a_tell_two
  have F_reckon := fun_mk (st := s_reckon) l_reckon c_reckon k_reckon
  have b_reckon := F_reckon.binds (ps := ["telling", "word", "names"]) fun _ _ _ _ _ _ us hl => match us, hl with | [_, _, _], _ => rfl
  have m_reckon := PySem.W.mg_of X G a_reckon
  have F_tell_when := fun_mk (st := s_tell_when) l_tell_when c_tell_when k_tell_when
  have b_tell_when := F_tell_when.binds (ps := ["telling", "term", "names"]) fun _ _ _ _ _ _ us hl => match us, hl with | [_, _, _], _ => rfl
  have m_tell_when := PySem.W.mg_of X G a_tell_when
  have F_choose := fun_mk (st := s_choose) l_choose c_choose k_choose
  have b_choose := F_choose.binds (ps := ["telling", "term", "names"]) fun _ _ _ _ _ _ us hl => match us, hl with | [_, _, _], _ => rfl
  have m_choose := PySem.W.mg_of X G a_choose
  have F_tell_let := fun_mk (st := s_tell_let) l_tell_let c_tell_let k_tell_let
  have b_tell_let := F_tell_let.binds (ps := ["telling", "term", "names"]) fun _ _ _ _ _ _ us hl => match us, hl with | [_, _, _], _ => rfl
  have m_tell_let := PySem.W.mg_of X G a_tell_let
  have F_go_on_with_b := fun_mk (st := s_go_on_with_b) l_go_on_with_b c_go_on_with_b k_go_on_with_b
  have b_go_on_with_b := F_go_on_with_b.binds (ps := ["telling", "term", "names"]) fun _ _ _ _ _ _ us hl => match us, hl with | [_, _, _], _ => rfl
  have m_go_on_with_b := PySem.W.mg_of X G a_go_on_with_b
  have F_tell_turns := fun_mk (st := s_tell_turns) l_tell_turns c_tell_turns k_tell_turns
  have b_tell_turns := F_tell_turns.binds (ps := ["telling", "term", "names"]) fun _ _ _ _ _ _ us hl => match us, hl with | [_, _, _], _ => rfl
  have m_tell_turns := PySem.W.mg_of X G a_tell_turns
  have F_turn := fun_mk (st := s_turn) l_turn c_turn k_turn
  have b_turn := F_turn.binds (ps := ["telling", "about", "names"]) fun _ _ _ _ _ _ us hl => match us, hl with | [_, _, _], _ => rfl
  have m_turn := PySem.W.mg_of X G a_turn
  have F_tell_def := fun_mk (st := s_tell_def) l_tell_def c_tell_def k_tell_def
  have b_tell_def := F_tell_def.binds (ps := ["telling", "term", "names"]) fun _ _ _ _ _ _ us hl => match us, hl with | [_, _, _], _ => rfl
  have m_tell_def := PySem.W.mg_of X G a_tell_def
  have F_tell_use := fun_mk (st := s_tell_use) l_tell_use c_tell_use k_tell_use
  have b_tell_use := F_tell_use.binds (ps := ["telling", "term", "names"]) fun _ _ _ _ _ _ us hl => match us, hl with | [_, _, _], _ => rfl
  have m_tell_use := PySem.W.mg_of X G a_tell_use
  have F_go_on_with_function := fun_mk (st := s_go_on_with_function) l_go_on_with_function c_go_on_with_function k_go_on_with_function
  have b_go_on_with_function := F_go_on_with_function.binds (ps := ["telling", "definition", "names"]) fun _ _ _ _ _ _ us hl => match us, hl with | [_, _, _], _ => rfl
  have m_go_on_with_function := PySem.W.mg_of X G a_go_on_with_function
  have F_tell_quote := fun_mk (st := s_tell_quote) l_tell_quote c_tell_quote k_tell_quote
  have b_tell_quote := F_tell_quote.binds (ps := ["telling", "term", "names"]) fun _ _ _ _ _ _ us hl => match us, hl with | [_, _, _], _ => rfl
  have m_tell_quote := PySem.W.mg_of X G a_tell_quote
  have F_refuse_too_great := fun_mk (st := s_refuse_too_great) l_refuse_too_great c_refuse_too_great k_refuse_too_great
  have b_refuse_too_great := F_refuse_too_great.binds (ps := ["telling", "term", "names"]) fun _ _ _ _ _ _ us hl => match us, hl with | [_, _, _], _ => rfl
  have m_refuse_too_great := PySem.W.mg_of X G a_refuse_too_great
  have F_tell_lift := fun_mk (st := s_tell_lift) l_tell_lift c_tell_lift k_tell_lift
  have b_tell_lift := F_tell_lift.binds (ps := ["telling", "term", "names"]) fun _ _ _ _ _ _ us hl => match us, hl with | [_, _, _], _ => rfl
  have m_tell_lift := PySem.W.mg_of X G a_tell_lift
  have F_make_num := fun_mk (st := s_make_num) l_make_num c_make_num k_make_num
  have b_make_num := F_make_num.binds (ps := ["telling", "term", "names"]) fun _ _ _ _ _ _ us hl => match us, hl with | [_, _, _], _ => rfl
  have m_make_num := PySem.W.mg_of X G a_make_num
  have F_tell_run := fun_mk (st := s_tell_run) l_tell_run c_tell_run k_tell_run
  have b_tell_run := F_tell_run.binds (ps := ["telling", "term", "names"]) fun _ _ _ _ _ _ us hl => match us, hl with | [_, _, _], _ => rfl
  have m_tell_run := PySem.W.mg_of X G a_tell_run
  have F_go_on_with_piece := fun_mk (st := s_go_on_with_piece) l_go_on_with_piece c_go_on_with_piece k_go_on_with_piece
  have b_go_on_with_piece := F_go_on_with_piece.binds (ps := ["telling", "term", "names"]) fun _ _ _ _ _ _ us hl => match us, hl with | [_, _, _], _ => rfl
  have m_go_on_with_piece := PySem.W.mg_of X G a_go_on_with_piece
  have F_make_same := fun_mk (st := s_make_same) l_make_same c_make_same k_make_same
  have b_make_same := F_make_same.binds (ps := ["telling", "term", "names"]) fun _ _ _ _ _ _ us hl => match us, hl with | [_, _, _], _ => rfl
  have m_make_same := PySem.W.mg_of X G a_make_same
  have F_make_name := fun_mk (st := s_make_name) l_make_name c_make_name k_make_name
  have b_make_name := F_make_name.binds (ps := ["telling", "term", "names"]) fun _ _ _ _ _ _ us hl => match us, hl with | [_, _, _], _ => rfl
  have m_make_name := PySem.W.mg_of X G a_make_name
  have F_make_plain := fun_mk (st := s_make_plain) l_make_plain c_make_plain k_make_plain
  have b_make_plain := F_make_plain.binds (ps := ["telling", "term", "names"]) fun _ _ _ _ _ _ us hl => match us, hl with | [_, _, _], _ => rfl
  have m_make_plain := PySem.W.mg_of X G a_make_plain
  have F_make_let := fun_mk (st := s_make_let) l_make_let c_make_let k_make_let
  have b_make_let := F_make_let.binds (ps := ["telling", "term", "names"]) fun _ _ _ _ _ _ us hl => match us, hl with | [_, _, _], _ => rfl
  have m_make_let := PySem.W.mg_of X G a_make_let
  have F_make_turns := fun_mk (st := s_make_turns) l_make_turns c_make_turns k_make_turns
  have b_make_turns := F_make_turns.binds (ps := ["telling", "term", "names"]) fun _ _ _ _ _ _ us hl => match us, hl with | [_, _, _], _ => rfl
  have m_make_turns := PySem.W.mg_of X G a_make_turns
  have F_make_def := fun_mk (st := s_make_def) l_make_def c_make_def k_make_def
  have b_make_def := F_make_def.binds (ps := ["telling", "term", "names"]) fun _ _ _ _ _ _ us hl => match us, hl with | [_, _, _], _ => rfl
  have m_make_def := PySem.W.mg_of X G a_make_def
  have F_make_use := fun_mk (st := s_make_use) l_make_use c_make_use k_make_use
  have b_make_use := F_make_use.binds (ps := ["telling", "term", "names"]) fun _ _ _ _ _ _ us hl => match us, hl with | [_, _, _], _ => rfl
  have m_make_use := PySem.W.mg_of X G a_make_use
  have F_fill_hole := fun_mk (st := s_fill_hole) l_fill_hole c_fill_hole k_fill_hole
  have b_fill_hole := F_fill_hole.binds (ps := ["telling", "term", "names"]) fun _ _ _ _ _ _ us hl => match us, hl with | [_, _, _], _ => rfl
  have m_fill_hole := PySem.W.mg_of X G a_fill_hole
  have F_put_together := fun_mk (st := s_put_together) l_put_together c_put_together k_put_together
  have b_put_together := F_put_together.binds (ps := ["telling", "head", "many"]) fun _ _ _ _ _ _ us hl => match us, hl with | [_, _, _], _ => rfl
  have m_put_together := PySem.W.mg_of X G a_put_together
  have F_law_cell_at := fun_mk (st := s_cell_at) l_law_cell_at c_law_cell_at k_law_cell_at
  have b_law_cell_at := F_law_cell_at.binds (ps := ["_law_script", "_law_k"]) fun _ _ _ _ _ _ us hl => match us, hl with | [_, _], _ => rfl
  have m_law_cell_at := PySem.W.mg_of X G a_law_cell_at
  have F_law_mixed := fun_mk (st := s_mixed) l_law_mixed c_law_mixed k_law_mixed
  have b_law_mixed := F_law_mixed.binds (ps := ["_law_script", "_law_k"]) fun _ _ _ _ _ _ us hl => match us, hl with | [_, _], _ => rfl
  have m_law_mixed := PySem.W.mg_of X G a_law_mixed
  have F_law_drawn := fun_mk (st := s_drawn) l_law_drawn c_law_drawn k_law_drawn
  have b_law_drawn := F_law_drawn.binds (ps := ["_law_number_here", "_law_sizes"]) fun _ _ _ _ _ _ us hl => match us, hl with | [_, _], _ => rfl
  have m_law_drawn := PySem.W.mg_of X G a_law_drawn
  have F_law_whole := fun_mk (st := s_whole) l_law_whole c_law_whole k_law_whole
  have b_law_whole := F_law_whole.binds (ps := ["_law_found"]) fun _ _ _ _ _ _ us hl => match us, hl with | [_], _ => rfl
  have m_law_whole := PySem.W.mg_of X G a_law_whole
  have F_law_name := fun_mk (st := s_name) l_law_name c_law_name k_law_name
  have b_law_name := F_law_name.binds (ps := ["_law_script", "_law_which"]) fun _ _ _ _ _ _ us hl => match us, hl with | [_, _], _ => rfl
  have m_law_name := PySem.W.mg_of X G a_law_name
  have F_law_next := fun_mk (st := s_next) l_law_next c_law_next k_law_next
  have b_law_next := F_law_next.binds (ps := ["_law_script", "_law_state"]) fun _ _ _ _ _ _ us hl => match us, hl with | [_, _], _ => rfl
  have m_law_next := PySem.W.mg_of X G a_law_next
  have F_law_number := fun_mk (st := s_number) l_law_number c_law_number k_law_number
  have b_law_number := F_law_number.binds (ps := ["_law_number_here"]) fun _ _ _ _ _ _ us hl => match us, hl with | [_], _ => rfl
  have m_law_number := PySem.W.mg_of X G a_law_number
  have F_law_seen := fun_mk (st := s_seen) l_law_seen c_law_seen k_law_seen
  have b_law_seen := F_law_seen.binds (ps := ["_law_scope", "_law_level", "_law_kinds"]) fun _ _ _ _ _ _ us hl => match us, hl with | [_, _, _], _ => rfl
  have m_law_seen := PySem.W.mg_of X G a_law_seen
  have F_law_leaf := fun_mk (st := s_leaf) l_law_leaf c_law_leaf k_law_leaf
  have b_law_leaf := F_law_leaf.binds (ps := ["_law_script", "_law_state", "_law_level", "_law_kind", "_law_scope", "_law_number_here"]) fun _ _ _ _ _ _ us hl => match us, hl with | [_, _, _, _, _, _], _ => rfl
  have m_law_leaf := PySem.W.mg_of X G a_law_leaf
  have F_law_words := fun_mk (st := s_words) l_law_words c_law_words k_law_words
  have b_law_words := F_law_words.binds (ps := ["_law_level", "_law_kind", "_law_free"]) fun _ _ _ _ _ _ us hl => match us, hl with | [_, _, _], _ => rfl
  have m_law_words := PySem.W.mg_of X G a_law_words
  have F_law_term := fun_mk (st := s_term) l_law_term c_law_term k_law_term
  have b_law_term := F_law_term.binds (ps := ["_law_script", "_law_state", "_law_level", "_law_kind", "_law_scope", "_law_depth", "_law_free"]) fun _ _ _ _ _ _ us hl => match us, hl with | [_, _, _, _, _, _, _], _ => rfl
  have m_law_term := PySem.W.mg_of X G a_law_term
  have F_law_twice := fun_mk (st := s_twice) l_law_twice c_law_twice k_law_twice
  have b_law_twice := F_law_twice.binds (ps := ["_law_script", "_law_state", "_law_scope", "_law_depth", "_law_number_here"]) fun _ _ _ _ _ _ us hl => match us, hl with | [_, _, _, _, _], _ => rfl
  have m_law_twice := PySem.W.mg_of X G a_law_twice
  have F_law_bound := fun_mk (st := s_bound) l_law_bound c_law_bound k_law_bound
  have b_law_bound := F_law_bound.binds (ps := ["_law_script", "_law_state", "_law_what", "_law_scope", "_law_depth", "_law_number_here"]) fun _ _ _ _ _ _ us hl => match us, hl with | [_, _, _, _, _, _], _ => rfl
  have m_law_bound := PySem.W.mg_of X G a_law_bound
  have F_law_value := fun_mk (st := s_value) l_law_value c_law_value k_law_value
  have b_law_value := F_law_value.binds (ps := ["_law_term_here", "_law_names"]) fun _ _ _ _ _ _ us hl => match us, hl with | [_, _], _ => rfl
  have m_law_value := PySem.W.mg_of X G a_law_value
  have F_law_with := fun_mk (st := s_with) l_law_with c_law_with k_law_with
  have b_law_with := F_law_with.binds (ps := ["_law_names", "_law_name_here", "_law_value_here"]) fun _ _ _ _ _ _ us hl => match us, hl with | [_, _, _], _ => rfl
  have m_law_with := PySem.W.mg_of X G a_law_with
  have F_law_value_bound := fun_mk (st := s_value_bound) l_law_value_bound c_law_value_bound k_law_value_bound
  have b_law_value_bound := F_law_value_bound.binds (ps := ["_law_term_here", "_law_names"]) fun _ _ _ _ _ _ us hl => match us, hl with | [_, _], _ => rfl
  have m_law_value_bound := PySem.W.mg_of X G a_law_value_bound
  have F_law_parts := fun_mk (st := s_parts) l_law_parts c_law_parts k_law_parts
  have b_law_parts := F_law_parts.binds (ps := ["_law_term_here"]) fun _ _ _ _ _ _ us hl => match us, hl with | [_], _ => rfl
  have m_law_parts := PySem.W.mg_of X G a_law_parts
  have F_law_cost := fun_mk (st := s_cost) l_law_cost c_law_cost k_law_cost
  have b_law_cost := F_law_cost.binds (ps := ["_law_term_here", "_law_functions"]) fun _ _ _ _ _ _ us hl => match us, hl with | [_, _], _ => rfl
  have m_law_cost := PySem.W.mg_of X G a_law_cost
  have F_law_without := fun_mk (st := s_without) l_law_without c_law_without k_law_without
  have b_law_without := F_law_without.binds (ps := ["_law_term_here"]) fun _ _ _ _ _ _ us hl => match us, hl with | [_], _ => rfl
  have m_law_without := PySem.W.mg_of X G a_law_without
  have F_law := fun_mk (st := s_law) l_law c_law k_law
  have b_law := F_law.binds (ps := ["_law_script"]) fun _ _ _ _ _ _ us hl => match us, hl with | [_], _ => rfl
  have T : Txt mg := ⟨PySem.W.mg_none_of X G z_bool, PySem.W.mg_none_of X G z_dict, PySem.W.mg_none_of X G z_int, PySem.W.mg_none_of X G z_isinstance, PySem.W.mg_none_of X G z_len, PySem.W.mg_none_of X G z_max, PySem.W.mg_none_of X G z_range, PySem.W.mg_none_of X G z_reversed, PySem.W.mg_none_of X G z_sum, PySem.W.mg_none_of X G z_tuple, ⟨_, PySem.W.mg_of X G gi_RECKONED_BY⟩, ⟨_, PySem.W.mg_of X G gi_MOST_TERMS⟩, ⟨_, PySem.W.mg_of X G gi_DEEPEST⟩⟩
  refine ⟨PySem.W.fnOf "law" "law" (defArgs s_law) (defBody s_law) (defScope s_law) .none kV_law dc_law pm_law an_law cd_law ct_law, fun s v => .of_eq rfl, fun base _ _ => ?_⟩
  obtain ⟨FA, hFA⟩ : ∃ FA, FA = mkFA f_tell_num f_tell_name f_tell_two f_tell_when f_tell_let f_tell_turns f_tell_def f_tell_use f_tell_quote f_tell_lift f_tell_run f_make_same f_make_name f_make_plain f_make_let f_make_turns f_make_def f_make_use f_fill_hole f_reckon f_choose f_go_on_with_b f_turn f_go_on_with_function f_refuse_too_great f_make_num f_go_on_with_piece f_put_together := ⟨_, rfl⟩
  have TC_Telling : TcT K C_Telling := ⟨cl_Telling, no_Telling_steps, no_Telling_found, no_Telling_named⟩
  have TC_Piece : TcP K C_Piece := ⟨cl_Piece, no_Piece_term, no_Piece_size, no_Piece_depth⟩
  have TL : Tl K w mg FA D_TELLERS D_MAKERS := by
    subst hFA
    refine ⟨PySem.W.mg_of X G aD_TELLERS, PySem.W.mg_of X G aD_MAKERS, fun u hu => ?_, fun u h1 h2 h3 => ?_, m_reckon, m_choose, m_go_on_with_b, m_turn, m_go_on_with_function, m_refuse_too_great, m_make_num, m_go_on_with_piece, m_put_together⟩
    · cases u
      · exact ⟨_, _, _, lD_TELLERS, kD_TELLERS, d_TELLERS_num, rfl⟩
      · exact ⟨_, _, _, lD_TELLERS, kD_TELLERS, d_TELLERS_name, rfl⟩
      · exact ⟨_, _, _, lD_TELLERS, kD_TELLERS, d_TELLERS_sum, rfl⟩
      · exact ⟨_, _, _, lD_TELLERS, kD_TELLERS, d_TELLERS_product, rfl⟩
      · exact ⟨_, _, _, lD_TELLERS, kD_TELLERS, d_TELLERS_less, rfl⟩
      · exact ⟨_, _, _, lD_TELLERS, kD_TELLERS, d_TELLERS_when, rfl⟩
      · exact ⟨_, _, _, lD_TELLERS, kD_TELLERS, d_TELLERS_let, rfl⟩
      · exact ⟨_, _, _, lD_TELLERS, kD_TELLERS, d_TELLERS_turns, rfl⟩
      · exact ⟨_, _, _, lD_TELLERS, kD_TELLERS, d_TELLERS_def, rfl⟩
      · exact ⟨_, _, _, lD_TELLERS, kD_TELLERS, d_TELLERS_use, rfl⟩
      · exact ⟨_, _, _, lD_TELLERS, kD_TELLERS, d_TELLERS_quote, rfl⟩
      · exact absurd rfl hu
      · exact ⟨_, _, _, lD_TELLERS, kD_TELLERS, d_TELLERS_lift, rfl⟩
      · exact ⟨_, _, _, lD_TELLERS, kD_TELLERS, d_TELLERS_run, rfl⟩
    · cases u
      · exact ⟨_, _, _, lD_MAKERS, kD_MAKERS, d_MAKERS_num, rfl⟩
      · exact ⟨_, _, _, lD_MAKERS, kD_MAKERS, d_MAKERS_name, rfl⟩
      · exact ⟨_, _, _, lD_MAKERS, kD_MAKERS, d_MAKERS_sum, rfl⟩
      · exact ⟨_, _, _, lD_MAKERS, kD_MAKERS, d_MAKERS_product, rfl⟩
      · exact ⟨_, _, _, lD_MAKERS, kD_MAKERS, d_MAKERS_less, rfl⟩
      · exact ⟨_, _, _, lD_MAKERS, kD_MAKERS, d_MAKERS_when, rfl⟩
      · exact ⟨_, _, _, lD_MAKERS, kD_MAKERS, d_MAKERS_let, rfl⟩
      · exact ⟨_, _, _, lD_MAKERS, kD_MAKERS, d_MAKERS_turns, rfl⟩
      · exact ⟨_, _, _, lD_MAKERS, kD_MAKERS, d_MAKERS_def, rfl⟩
      · exact ⟨_, _, _, lD_MAKERS, kD_MAKERS, d_MAKERS_use, rfl⟩
      · exact absurd rfl h1
      · exact ⟨_, _, _, lD_MAKERS, kD_MAKERS, d_MAKERS_hole, rfl⟩
      · exact absurd rfl h2
      · exact absurd rfl h3
  have MK_Telling : CalC l.prog w K mg base "Telling" _ ["self"] 1 (spTelInit C_Telling C_Piece FA) _ _ := ⟨⟨mk_Telling, a_Telling_init, i_Telling_init, kc_Telling⟩, ok_tel_init F_Telling_init TC_Telling, mC_Telling, b_Telling_init⟩
  have MK_Piece : CalC l.prog w K mg base "Piece" _ ["self", "term", "size", "depth"] 1 (spPcInit C_Piece) _ _ := ⟨⟨mk_Piece, a_Piece_init, i_Piece_init, kc_Piece⟩, ok_pc_init F_Piece_init TC_Piece, mC_Piece, b_Piece_init⟩
  have C_later : CalM l.prog w K mg base _ "later" ["self", "step", "about", "names"] 1 (spLater C_Telling C_Piece FA) _ _ := ⟨ok_later F_Telling_later TC_Telling, ⟨a_Telling_later, i_Telling_later, k_Telling_later⟩, b_Telling_later⟩
  have C_tell : CalM l.prog w K mg base _ "tell" ["self", "term", "names"] 2 (spTell C_Telling C_Piece FA) _ _ := ⟨ok_tell F_Telling_tell TC_Telling TL C_later, ⟨a_Telling_tell, i_Telling_tell, k_Telling_tell⟩, b_Telling_tell⟩
  have C_make : CalM l.prog w K mg base _ "make" ["self", "term", "names"] 2 (spMakeT C_Telling C_Piece FA) _ _ := ⟨ok_makeT F_Telling_make TC_Telling TL C_later, ⟨a_Telling_make, i_Telling_make, k_Telling_make⟩, b_Telling_make⟩
  have C_make_of : CalM l.prog w K mg base _ "make_of" ["self", "head", "parts"] 3 (spMakeOf C_Telling C_Piece FA) _ _ := ⟨ok_make_of F_Telling_make_of T TC_Telling TL C_later C_make, ⟨a_Telling_make_of, i_Telling_make_of, k_Telling_make_of⟩, b_Telling_make_of⟩
  have C_new_name : CalM l.prog w K mg base _ "new_name" ["self"] 1 (spNewName C_Telling C_Piece FA) _ _ := ⟨ok_new_name F_Telling_new_name TC_Telling, ⟨a_Telling_new_name, i_Telling_new_name, k_Telling_new_name⟩, b_Telling_new_name⟩
  have C_tell_num : Cal l.prog w K mg base "tell_num" ["telling", "term", "names"] 1 (spStp C_Telling C_Piece C_TooGreat FA (.t .num)) _ _ := ⟨ok_tell_num F_tell_num T TC_Telling, m_tell_num, k_tell_num, b_tell_num⟩
  have C_tell_name : Cal l.prog w K mg base "tell_name" ["telling", "term", "names"] 1 (spStp C_Telling C_Piece C_TooGreat FA (.t .name)) _ _ := ⟨ok_tell_name F_tell_name T TC_Telling, m_tell_name, k_tell_name, b_tell_name⟩
  have C_tell_two : Cal l.prog w K mg base "tell_two" ["telling", "term", "names"] 3 (fun vs H Q E => ∃ o : Bin, spStp C_Telling C_Piece C_TooGreat FA (.t o.w) vs H Q E) _ _ := ⟨ok_tell_two F_tell_two T TC_Telling TL C_later C_tell, m_tell_two, k_tell_two, b_tell_two⟩
  have C_reckon : Cal l.prog w K mg base "reckon" ["telling", "word", "names"] 1 (spStp C_Telling C_Piece C_TooGreat FA .reckon) _ _ := ⟨ok_reckon F_reckon T TC_Telling, m_reckon, k_reckon, b_reckon⟩
  have C_tell_when : Cal l.prog w K mg base "tell_when" ["telling", "term", "names"] 3 (spStp C_Telling C_Piece C_TooGreat FA (.t .when)) _ _ := ⟨ok_tell_when F_tell_when T TC_Telling TL C_later C_tell, m_tell_when, k_tell_when, b_tell_when⟩
  have C_choose : Cal l.prog w K mg base "choose" ["telling", "term", "names"] 3 (spStp C_Telling C_Piece C_TooGreat FA .choose) _ _ := ⟨ok_choose F_choose T TC_Telling C_tell, m_choose, k_choose, b_choose⟩
  have C_tell_let : Cal l.prog w K mg base "tell_let" ["telling", "term", "names"] 3 (spStp C_Telling C_Piece C_TooGreat FA (.t .let)) _ _ := ⟨ok_tell_let F_tell_let T TC_Telling TL C_later C_tell, m_tell_let, k_tell_let, b_tell_let⟩
  have C_go_on_with_b : Cal l.prog w K mg base "go_on_with_b" ["telling", "term", "names"] 3 (spStp C_Telling C_Piece C_TooGreat FA .goB) _ _ := ⟨ok_goB F_go_on_with_b T TC_Telling C_tell, m_go_on_with_b, k_go_on_with_b, b_go_on_with_b⟩
  have C_tell_turns : Cal l.prog w K mg base "tell_turns" ["telling", "term", "names"] 3 (spStp C_Telling C_Piece C_TooGreat FA (.t .turns)) _ _ := ⟨ok_tell_turns F_tell_turns T TC_Telling TL C_later C_tell, m_tell_turns, k_tell_turns, b_tell_turns⟩
  have C_turn : Cal l.prog w K mg base "turn" ["telling", "about", "names"] 3 (spStp C_Telling C_Piece C_TooGreat FA .turn) _ _ := ⟨ok_turn F_turn T TC_Telling TL C_later C_tell, m_turn, k_turn, b_turn⟩
  have C_tell_def : Cal l.prog w K mg base "tell_def" ["telling", "term", "names"] 3 (spStp C_Telling C_Piece C_TooGreat FA (.t .def)) _ _ := ⟨ok_tell_def F_tell_def T TC_Telling C_tell, m_tell_def, k_tell_def, b_tell_def⟩
  have C_tell_use : Cal l.prog w K mg base "tell_use" ["telling", "term", "names"] 3 (spStp C_Telling C_Piece C_TooGreat FA (.t .use)) _ _ := ⟨ok_tell_use F_tell_use T TC_Telling TL C_later C_tell, m_tell_use, k_tell_use, b_tell_use⟩
  have C_go_on_with_function : Cal l.prog w K mg base "go_on_with_function" ["telling", "definition", "names"] 3 (spStp C_Telling C_Piece C_TooGreat FA .goF) _ _ := ⟨ok_goF F_go_on_with_function T TC_Telling C_tell, m_go_on_with_function, k_go_on_with_function, b_go_on_with_function⟩
  have C_tell_quote : Cal l.prog w K mg base "tell_quote" ["telling", "term", "names"] 3 (spStp C_Telling C_Piece C_TooGreat FA (.t .quote)) _ _ := ⟨ok_tell_quote F_tell_quote T TC_Telling TL C_later C_make, m_tell_quote, k_tell_quote, b_tell_quote⟩
  have C_refuse_too_great : CalX l.prog w K mg base "refuse_too_great" ["telling", "term", "names"] 1 (spStp C_Telling C_Piece C_TooGreat FA .tooGreat) _ _ := ⟨ok_too_great F_refuse_too_great T TC_Telling TC_Piece X_TooGreat, m_refuse_too_great, k_refuse_too_great, b_refuse_too_great⟩
  have C_tell_lift : Cal l.prog w K mg base "tell_lift" ["telling", "term", "names"] 3 (spStp C_Telling C_Piece C_TooGreat FA (.t .lift)) _ _ := ⟨ok_tell_lift F_tell_lift T TC_Telling TL C_later C_tell, m_tell_lift, k_tell_lift, b_tell_lift⟩
  have C_tell_run : Cal l.prog w K mg base "tell_run" ["telling", "term", "names"] 3 (spStp C_Telling C_Piece C_TooGreat FA (.t .run)) _ _ := ⟨ok_tell_run F_tell_run T TC_Telling TL C_later C_tell, m_tell_run, k_tell_run, b_tell_run⟩
  have C_fill_hole : Cal l.prog w K mg base "fill_hole" ["telling", "term", "names"] 3 (spStp C_Telling C_Piece C_TooGreat FA (.m .hole)) _ _ := ⟨ok_fill_hole F_fill_hole T TC_Telling C_tell, m_fill_hole, k_fill_hole, b_fill_hole⟩
  have C_go_on_with_piece : Cal l.prog w K mg base "go_on_with_piece" ["telling", "term", "names"] 3 (spStp C_Telling C_Piece C_TooGreat FA .goPiece) _ _ := ⟨ok_go_piece F_go_on_with_piece T TC_Telling TC_Piece C_tell, m_go_on_with_piece, k_go_on_with_piece, b_go_on_with_piece⟩
  have C_make_num : Cal l.prog w K mg base "make_num" ["telling", "term", "names"] 3 (spStp C_Telling C_Piece C_TooGreat FA .mkNum) _ _ := ⟨ok_make_num F_make_num T TC_Telling MK_Piece, m_make_num, k_make_num, b_make_num⟩
  have C_make_same : Cal l.prog w K mg base "make_same" ["telling", "term", "names"] 3 (spStp C_Telling C_Piece C_TooGreat FA (.m .num)) _ _ := ⟨ok_make_same F_make_same T TC_Telling MK_Piece, m_make_same, k_make_same, b_make_same⟩
  have C_make_name : Cal l.prog w K mg base "make_name" ["telling", "term", "names"] 3 (spStp C_Telling C_Piece C_TooGreat FA (.m .name)) _ _ := ⟨ok_make_name F_make_name T TC_Telling MK_Piece, m_make_name, k_make_name, b_make_name⟩
  have C_make_plain : Cal l.prog w K mg base "make_plain" ["telling", "term", "names"] 4 (fun vs H Q E => ∃ u : W, u ∈ [W.sum, .product, .less, .when] ∧ spStp C_Telling C_Piece C_TooGreat FA (.m u) vs H Q E) _ _ := ⟨ok_make_plain F_make_plain T TC_Telling C_make_of, m_make_plain, k_make_plain, b_make_plain⟩
  have C_make_let : Cal l.prog w K mg base "make_let" ["telling", "term", "names"] 4 (spStp C_Telling C_Piece C_TooGreat FA (.m .let)) _ _ := ⟨ok_make_let F_make_let T TC_Telling C_new_name C_make_of, m_make_let, k_make_let, b_make_let⟩
  have C_make_turns : Cal l.prog w K mg base "make_turns" ["telling", "term", "names"] 4 (spStp C_Telling C_Piece C_TooGreat FA (.m .turns)) _ _ := ⟨ok_make_turns F_make_turns T TC_Telling C_new_name C_make_of, m_make_turns, k_make_turns, b_make_turns⟩
  have C_make_def : Cal l.prog w K mg base "make_def" ["telling", "term", "names"] 4 (spStp C_Telling C_Piece C_TooGreat FA (.m .def)) _ _ := ⟨ok_make_def F_make_def T TC_Telling C_new_name C_make_of, m_make_def, k_make_def, b_make_def⟩
  have C_make_use : Cal l.prog w K mg base "make_use" ["telling", "term", "names"] 4 (spStp C_Telling C_Piece C_TooGreat FA (.m .use)) _ _ := ⟨ok_make_use F_make_use T TC_Telling C_make_of, m_make_use, k_make_use, b_make_use⟩
  have C_put_together : Cal l.prog w K mg base "put_together" ["telling", "head", "many"] 3 (spStp C_Telling C_Piece C_TooGreat FA .put) _ _ := ⟨ok_put F_put_together T TC_Telling TC_Piece MK_Piece, m_put_together, k_put_together, b_put_together⟩
  have HA : ∀ s : Stp, s.Good → HeldX l.prog w K mg base 4 (FA s.code) (spStp C_Telling C_Piece C_TooGreat FA s.code) := by
    have ht : ∀ u : W, u ≠ .hole → HeldX l.prog w K mg base 4 (FA (.t u)) (spStp C_Telling C_Piece C_TooGreat FA (.t u)) := fun u hu => by
      cases u
      · have z := heldOf C_tell_num (by decide) (sp' := spStp C_Telling C_Piece C_TooGreat FA (.t .num)) (fun _ _ _ _ h => h); rw [hFA] at z ⊢; exact z
      · have z := heldOf C_tell_name (by decide) (sp' := spStp C_Telling C_Piece C_TooGreat FA (.t .name)) (fun _ _ _ _ h => h); rw [hFA] at z ⊢; exact z
      · have z := heldOf C_tell_two (by decide) (sp' := spStp C_Telling C_Piece C_TooGreat FA (.t .sum)) (fun _ _ _ _ h => ⟨.sum, h⟩); rw [hFA] at z ⊢; exact z
      · have z := heldOf C_tell_two (by decide) (sp' := spStp C_Telling C_Piece C_TooGreat FA (.t .product)) (fun _ _ _ _ h => ⟨.product, h⟩); rw [hFA] at z ⊢; exact z
      · have z := heldOf C_tell_two (by decide) (sp' := spStp C_Telling C_Piece C_TooGreat FA (.t .less)) (fun _ _ _ _ h => ⟨.less, h⟩); rw [hFA] at z ⊢; exact z
      · have z := heldOf C_tell_when (by decide) (sp' := spStp C_Telling C_Piece C_TooGreat FA (.t .when)) (fun _ _ _ _ h => h); rw [hFA] at z ⊢; exact z
      · have z := heldOf C_tell_let (by decide) (sp' := spStp C_Telling C_Piece C_TooGreat FA (.t .let)) (fun _ _ _ _ h => h); rw [hFA] at z ⊢; exact z
      · have z := heldOf C_tell_turns (by decide) (sp' := spStp C_Telling C_Piece C_TooGreat FA (.t .turns)) (fun _ _ _ _ h => h); rw [hFA] at z ⊢; exact z
      · have z := heldOf C_tell_def (by decide) (sp' := spStp C_Telling C_Piece C_TooGreat FA (.t .def)) (fun _ _ _ _ h => h); rw [hFA] at z ⊢; exact z
      · have z := heldOf C_tell_use (by decide) (sp' := spStp C_Telling C_Piece C_TooGreat FA (.t .use)) (fun _ _ _ _ h => h); rw [hFA] at z ⊢; exact z
      · have z := heldOf C_tell_quote (by decide) (sp' := spStp C_Telling C_Piece C_TooGreat FA (.t .quote)) (fun _ _ _ _ h => h); rw [hFA] at z ⊢; exact z
      · exact absurd rfl hu
      · have z := heldOf C_tell_lift (by decide) (sp' := spStp C_Telling C_Piece C_TooGreat FA (.t .lift)) (fun _ _ _ _ h => h); rw [hFA] at z ⊢; exact z
      · have z := heldOf C_tell_run (by decide) (sp' := spStp C_Telling C_Piece C_TooGreat FA (.t .run)) (fun _ _ _ _ h => h); rw [hFA] at z ⊢; exact z
    have hm : ∀ u : W, u ≠ .quote → u ≠ .lift → u ≠ .run → HeldX l.prog w K mg base 4 (FA (.m u)) (spStp C_Telling C_Piece C_TooGreat FA (.m u)) := fun u h1 h2 h3 => by
      cases u
      · have z := heldOf C_make_same (by decide) (sp' := spStp C_Telling C_Piece C_TooGreat FA (.m .num)) (fun _ _ _ _ h => h); rw [hFA] at z ⊢; exact z
      · have z := heldOf C_make_name (by decide) (sp' := spStp C_Telling C_Piece C_TooGreat FA (.m .name)) (fun _ _ _ _ h => h); rw [hFA] at z ⊢; exact z
      · have z := heldOf C_make_plain (by decide) (sp' := spStp C_Telling C_Piece C_TooGreat FA (.m .sum)) (fun _ _ _ _ h => ⟨.sum, by simp, h⟩); rw [hFA] at z ⊢; exact z
      · have z := heldOf C_make_plain (by decide) (sp' := spStp C_Telling C_Piece C_TooGreat FA (.m .product)) (fun _ _ _ _ h => ⟨.product, by simp, h⟩); rw [hFA] at z ⊢; exact z
      · have z := heldOf C_make_plain (by decide) (sp' := spStp C_Telling C_Piece C_TooGreat FA (.m .less)) (fun _ _ _ _ h => ⟨.less, by simp, h⟩); rw [hFA] at z ⊢; exact z
      · have z := heldOf C_make_plain (by decide) (sp' := spStp C_Telling C_Piece C_TooGreat FA (.m .when)) (fun _ _ _ _ h => ⟨.when, by simp, h⟩); rw [hFA] at z ⊢; exact z
      · have z := heldOf C_make_let (by decide) (sp' := spStp C_Telling C_Piece C_TooGreat FA (.m .let)) (fun _ _ _ _ h => h); rw [hFA] at z ⊢; exact z
      · have z := heldOf C_make_turns (by decide) (sp' := spStp C_Telling C_Piece C_TooGreat FA (.m .turns)) (fun _ _ _ _ h => h); rw [hFA] at z ⊢; exact z
      · have z := heldOf C_make_def (by decide) (sp' := spStp C_Telling C_Piece C_TooGreat FA (.m .def)) (fun _ _ _ _ h => h); rw [hFA] at z ⊢; exact z
      · have z := heldOf C_make_use (by decide) (sp' := spStp C_Telling C_Piece C_TooGreat FA (.m .use)) (fun _ _ _ _ h => h); rw [hFA] at z ⊢; exact z
      · exact absurd rfl h1
      · have z := heldOf C_fill_hole (by decide) (sp' := spStp C_Telling C_Piece C_TooGreat FA (.m .hole)) (fun _ _ _ _ h => h); rw [hFA] at z ⊢; exact z
      · exact absurd rfl h2
      · exact absurd rfl h3
    intro s hs
    cases s with
    | tell t E => exact ht t.w hs
    | make t E => exact hm t.w hs.1 hs.2.1 hs.2.2
    | reckon o => have z := heldOf C_reckon (by decide) (sp' := spStp C_Telling C_Piece C_TooGreat FA .reckon) (fun _ _ _ _ h => h); show HeldX l.prog w K mg base 4 (FA .reckon) _; rw [hFA] at z ⊢; exact z
    | choose c a b E => have z := heldOf C_choose (by decide) (sp' := spStp C_Telling C_Piece C_TooGreat FA .choose) (fun _ _ _ _ h => h); show HeldX l.prog w K mg base 4 (FA .choose) _; rw [hFA] at z ⊢; exact z
    | goB x a b E => have z := heldOf C_go_on_with_b (by decide) (sp' := spStp C_Telling C_Piece C_TooGreat FA .goB) (fun _ _ _ _ h => h); show HeldX l.prog w K mg base 4 (FA .goB) _; rw [hFA] at z ⊢; exact z
    | turn m x a b k E => have z := heldOf C_turn (by decide) (sp' := spStp C_Telling C_Piece C_TooGreat FA .turn) (fun _ _ _ _ h => h); show HeldX l.prog w K mg base 4 (FA .turn) _; rw [hFA] at z ⊢; exact z
    | goF f x k a b E => have z := heldOf C_go_on_with_function (by decide) (sp' := spStp C_Telling C_Piece C_TooGreat FA .goF) (fun _ _ _ _ h => h); show HeldX l.prog w K mg base 4 (FA .goF) _; rw [hFA] at z ⊢; exact z
    | mkNum  => have z := heldOf C_make_num (by decide) (sp' := spStp C_Telling C_Piece C_TooGreat FA .mkNum) (fun _ _ _ _ h => h); show HeldX l.prog w K mg base 4 (FA .mkNum) _; rw [hFA] at z ⊢; exact z
    | goPiece  => have z := heldOf C_go_on_with_piece (by decide) (sp' := spStp C_Telling C_Piece C_TooGreat FA .goPiece) (fun _ _ _ _ h => h); show HeldX l.prog w K mg base 4 (FA .goPiece) _; rw [hFA] at z ⊢; exact z
    | put t => have z := heldOf C_put_together (by decide) (sp' := spStp C_Telling C_Piece C_TooGreat FA .put) (fun _ _ _ _ h => h); show HeldX l.prog w K mg base 4 (FA .put) _; rw [hFA] at z ⊢; exact z
    | tooGreat => have z := heldOfX C_refuse_too_great (by decide); show HeldX l.prog w K mg base 4 (FA .tooGreat) _; rw [hFA] at z ⊢; exact z
  have C_value_of : CalMX l.prog w K mg base _ "value_of" ["self", "term"] 5 (spValueOf C_Telling C_Piece C_TooGreat FA) _ _ := ⟨ok_value_of F_Telling_value_of T TC_Telling C_tell HA, ⟨a_Telling_value_of, i_Telling_value_of, k_Telling_value_of⟩, b_Telling_value_of⟩
  have C_law_cell_at : Cal l.prog w K mg base "_law_cell_at" ["_law_script", "_law_k"] 1 (spCellAt K) _ _ := ⟨ok_cell_at F_law_cell_at T, m_law_cell_at, k_law_cell_at, b_law_cell_at⟩
  have C_law_mixed : Cal l.prog w K mg base "_law_mixed" ["_law_script", "_law_k"] 2 (spMixed K) _ _ := ⟨ok_mixed F_law_mixed T C_law_cell_at, m_law_mixed, k_law_mixed, b_law_mixed⟩
  have C_law_drawn : Cal l.prog w K mg base "_law_drawn" ["_law_number_here", "_law_sizes"] 1 (spDrawn K) _ _ := ⟨ok_drawn F_law_drawn T, m_law_drawn, k_law_drawn, b_law_drawn⟩
  have C_law_next : Cal l.prog w K mg base "_law_next" ["_law_script", "_law_state"] 3 (spNext K) _ _ := ⟨ok_next F_law_next C_law_mixed, m_law_next, k_law_next, b_law_next⟩
  have C_law_number : Cal l.prog w K mg base "_law_number" ["_law_number_here"] 1 spNumber _ _ := ⟨ok_number F_law_number, m_law_number, k_law_number, b_law_number⟩
  have C_law_name : Cal l.prog w K mg base "_law_name" ["_law_script", "_law_which"] 3 (spName K) _ _ := ⟨ok_name F_law_name T C_law_mixed, m_law_name, k_law_name, b_law_name⟩
  have C_law_seen : Cal l.prog w K mg base "_law_seen" ["_law_scope", "_law_level", "_law_kinds"] 1 (spSeen K) _ _ := ⟨ok_seen F_law_seen T, m_law_seen, k_law_seen, b_law_seen⟩
  have C_law_leaf : Cal l.prog w K mg base "_law_leaf" ["_law_script", "_law_state", "_law_level", "_law_kind", "_law_scope", "_law_number_here"] 2 (spLeaf K) _ _ := ⟨ok_leaf F_law_leaf T C_law_seen C_law_number, m_law_leaf, k_law_leaf, b_law_leaf⟩
  have C_law_words : Cal l.prog w K mg base "_law_words" ["_law_level", "_law_kind", "_law_free"] 1 spWords _ _ := ⟨ok_words F_law_words, m_law_words, k_law_words, b_law_words⟩
  have C_law_term : Cal l.prog w K mg base "_law_term" ["_law_script", "_law_state", "_law_level", "_law_kind", "_law_scope", "_law_depth", "_law_free"] 22 (spTerm K 6) _ _ := ⟨all_term F_law_term F_law_twice F_law_bound T C_law_next C_law_leaf C_law_words C_law_seen C_law_name C_law_number m_law_term k_law_term b_law_term m_law_twice k_law_twice b_law_twice m_law_bound k_law_bound b_law_bound 6, m_law_term, k_law_term, b_law_term⟩
  have C_law_parts : Cal l.prog w K mg base "_law_parts" ["_law_term_here"] 1 spParts _ _ := ⟨ok_parts F_law_parts, m_law_parts, k_law_parts, b_law_parts⟩
  have C_law_whole : Cal l.prog w K mg base "_law_whole" ["_law_found"] 1 spWhole _ _ := ⟨ok_whole F_law_whole T, m_law_whole, k_law_whole, b_law_whole⟩
  have C_law_with : Cal l.prog w K mg base "_law_with" ["_law_names", "_law_name_here", "_law_value_here"] 1 spWith _ _ := ⟨ok_with F_law_with T, m_law_with, k_law_with, b_law_with⟩
  have C_law_value : Cal l.prog w K mg base "_law_value" ["_law_term_here", "_law_names"] 221 (spVal 220) _ _ := ⟨(all_value F_law_value F_law_value_bound T C_law_with m_law_value k_law_value b_law_value m_law_value_bound k_law_value_bound b_law_value_bound 220).1, m_law_value, k_law_value, b_law_value⟩
  have C_law_cost : Cal l.prog w K mg base "_law_cost" ["_law_term_here", "_law_functions"] 41 (spCost 40) _ _ := ⟨all_cost F_law_cost T C_law_parts C_law_with m_law_cost k_law_cost b_law_cost 40, m_law_cost, k_law_cost, b_law_cost⟩
  have C_law_without : Cal l.prog w K mg base "_law_without" ["_law_term_here"] 41 (spWithout 40) _ _ := ⟨all_without F_law_without T m_law_without k_law_without b_law_without 40, m_law_without, k_law_without, b_law_without⟩
  have NE : C_Telling ≠ C_Piece := fun e => by
    have z := a_Telling_later
    rw [e, no_Piece_later] at z
    cases z
  have C_plain_of : Cal l.prog w K mg base "plain_of" ["term"] 6 spPlain _ _ := ⟨ok_plain_of F_plain_of TC_Telling NE MK_Telling C_value_of, m_plain_of, k_plain_of, b_plain_of⟩
  exact ok_law F_law T C_law_mixed C_law_term C_law_without C_law_drawn C_law_name C_law_cost C_law_value C_plain_of C_law_whole
theorem walk {l : PySem.W.OpenLaw} {q : Program} {loose : List Str} {XP : (Str → Option Value) → Heap → Prop} {YP : World → Heap → Prop} {d : DefRec} {K : Params → PySem.W.Frag} (hn : l.most = some 63) (hdf : d.params.defaults = [])
    (hY : ∀ (w : World) (h : Heap), YP w h → (K w.params).In h)
    (F : ∀ (w : World) (mg : Str → Option Value) (fa : Addr) (h : Heap), (K w.params).In h → h.Ns mainGlobals mg → mg d.name = some (.ref fa) →
      ∃ fd : FuncData, (∀ (s : Shared) (u : Value), BindsTo s fd ⟨[u], []⟩ [("_law_script", u)]) ∧ ∀ base : Heap, (K w.params).In base → base.Ns mainGlobals mg → FnOk l.prog w (K w.params) mg base CX0 222 fa fd ["_law_script"] (spLaw (K w.params))) :
    PySem.W.WalkO q loose XP YP l.row.toRowW d [] (fun f vs => PySem.call f vs) :=
  L2.walk_of (n := 63) (k := 222) (x := "_law_script") (CX := fun _ => CX0) (sp := fun w => spLaw (K w.params)) hn (by decide) hdf ⟨rfl, by decide, by decide⟩ hY F (fun _ _ a ns hl hO hS => ⟨a, rfl, Ints.of hO hS hl, fun _ => rfl⟩) fun _ _ _ _ _ z => z
end Q
open PySem PySem.W PyProof.Rows in
set_option maxRecDepth 100000 in
set_option maxHeartbeats 0 in
theorem PySem.Challenge.cw_quotehall_k04_plain_holds : PySem.Challenge.rw_quotehall_k04_plain.Holds := by
  w_on; o_law; k_head; (case hw => w_witness2)
  k_fill
  refine Q.walk (l := PySem.Challenge.rw_quotehall_k04_plain) rfl rfl (fun w h Y => PySem.W.kIn_of Y) ?F
  case F =>
    intro w mg fa h KX G hmg
    refine' Q.all_mk KX G hmg ?aC_HallError ?ex_HallError ?ke_HallError ?be_HallError ?te_HallError ?aC_TooGreat ?ex_TooGreat ?ke_TooGreat ?be_TooGreat ?te_TooGreat ?aC_Piece ?pg_Piece ?hd_Piece ?po_Piece ?sa_Piece ?mk_Piece ?kc_Piece ?no_Piece_term ?no_Piece_size ?no_Piece_depth ?no_Piece_later ?aC_Telling ?pg_Telling ?hd_Telling ?po_Telling ?sa_Telling ?mk_Telling ?kc_Telling ?no_Telling_steps ?no_Telling_found ?no_Telling_named ?a_plain_of ?l_plain_of ?c_plain_of ?k_plain_of ?a_Piece_init ?i_Piece_init ?l_Piece_init ?c_Piece_init ?k_Piece_init ?a_Telling_init ?i_Telling_init ?l_Telling_init ?c_Telling_init ?k_Telling_init ?a_Telling_value_of ?i_Telling_value_of ?l_Telling_value_of ?c_Telling_value_of ?k_Telling_value_of ?a_Telling_later ?i_Telling_later ?l_Telling_later ?c_Telling_later ?k_Telling_later ?a_Telling_tell ?i_Telling_tell ?l_Telling_tell ?c_Telling_tell ?k_Telling_tell ?a_Telling_make ?i_Telling_make ?l_Telling_make ?c_Telling_make ?k_Telling_make ?a_Telling_make_of ?i_Telling_make_of ?l_Telling_make_of ?c_Telling_make_of ?k_Telling_make_of ?a_Telling_new_name ?i_Telling_new_name ?l_Telling_new_name ?c_Telling_new_name ?k_Telling_new_name ?a_tell_num ?l_tell_num ?c_tell_num ?k_tell_num ?a_tell_name ?l_tell_name ?c_tell_name ?k_tell_name ?a_tell_two ?l_tell_two ?c_tell_two ?k_tell_two ?a_reckon ?l_reckon ?c_reckon ?k_reckon ?a_tell_when ?l_tell_when ?c_tell_when ?k_tell_when ?a_choose ?l_choose ?c_choose ?k_choose ?a_tell_let ?l_tell_let ?c_tell_let ?k_tell_let ?a_go_on_with_b ?l_go_on_with_b ?c_go_on_with_b ?k_go_on_with_b ?a_tell_turns ?l_tell_turns ?c_tell_turns ?k_tell_turns ?a_turn ?l_turn ?c_turn ?k_turn ?a_tell_def ?l_tell_def ?c_tell_def ?k_tell_def ?a_tell_use ?l_tell_use ?c_tell_use ?k_tell_use ?a_go_on_with_function ?l_go_on_with_function ?c_go_on_with_function ?k_go_on_with_function ?a_tell_quote ?l_tell_quote ?c_tell_quote ?k_tell_quote ?a_refuse_too_great ?l_refuse_too_great ?c_refuse_too_great ?k_refuse_too_great ?a_tell_lift ?l_tell_lift ?c_tell_lift ?k_tell_lift ?a_make_num ?l_make_num ?c_make_num ?k_make_num ?a_tell_run ?l_tell_run ?c_tell_run ?k_tell_run ?a_go_on_with_piece ?l_go_on_with_piece ?c_go_on_with_piece ?k_go_on_with_piece ?a_make_same ?l_make_same ?c_make_same ?k_make_same ?a_make_name ?l_make_name ?c_make_name ?k_make_name ?a_make_plain ?l_make_plain ?c_make_plain ?k_make_plain ?a_make_let ?l_make_let ?c_make_let ?k_make_let ?a_make_turns ?l_make_turns ?c_make_turns ?k_make_turns ?a_make_def ?l_make_def ?c_make_def ?k_make_def ?a_make_use ?l_make_use ?c_make_use ?k_make_use ?a_fill_hole ?l_fill_hole ?c_fill_hole ?k_fill_hole ?a_put_together ?l_put_together ?c_put_together ?k_put_together ?a_law_cell_at ?l_law_cell_at ?c_law_cell_at ?k_law_cell_at ?a_law_mixed ?l_law_mixed ?c_law_mixed ?k_law_mixed ?a_law_drawn ?l_law_drawn ?c_law_drawn ?k_law_drawn ?a_law_whole ?l_law_whole ?c_law_whole ?k_law_whole ?a_law_name ?l_law_name ?c_law_name ?k_law_name ?a_law_next ?l_law_next ?c_law_next ?k_law_next ?a_law_number ?l_law_number ?c_law_number ?k_law_number ?a_law_seen ?l_law_seen ?c_law_seen ?k_law_seen ?a_law_leaf ?l_law_leaf ?c_law_leaf ?k_law_leaf ?a_law_words ?l_law_words ?c_law_words ?k_law_words ?a_law_term ?l_law_term ?c_law_term ?k_law_term ?a_law_twice ?l_law_twice ?c_law_twice ?k_law_twice ?a_law_bound ?l_law_bound ?c_law_bound ?k_law_bound ?a_law_value ?l_law_value ?c_law_value ?k_law_value ?a_law_with ?l_law_with ?c_law_with ?k_law_with ?a_law_value_bound ?l_law_value_bound ?c_law_value_bound ?k_law_value_bound ?a_law_parts ?l_law_parts ?c_law_parts ?k_law_parts ?a_law_cost ?l_law_cost ?c_law_cost ?k_law_cost ?a_law_without ?l_law_without ?c_law_without ?k_law_without ?a_law ?l_law ?c_law ?k_law ?z_bool ?z_dict ?z_int ?z_isinstance ?z_len ?z_max ?z_range ?z_reversed ?z_sum ?z_tuple ?gi_RECKONED_BY ?gi_MOST_TERMS ?gi_DEEPEST ?aD_TELLERS ?lD_TELLERS ?kD_TELLERS ?d_TELLERS_num ?d_TELLERS_name ?d_TELLERS_sum ?d_TELLERS_product ?d_TELLERS_less ?d_TELLERS_when ?d_TELLERS_let ?d_TELLERS_turns ?d_TELLERS_def ?d_TELLERS_use ?d_TELLERS_quote ?d_TELLERS_lift ?d_TELLERS_run ?aD_MAKERS ?lD_MAKERS ?kD_MAKERS ?d_MAKERS_num ?d_MAKERS_name ?d_MAKERS_sum ?d_MAKERS_product ?d_MAKERS_less ?d_MAKERS_when ?d_MAKERS_let ?d_MAKERS_turns ?d_MAKERS_def ?d_MAKERS_use ?d_MAKERS_hole
    (case aC_HallError => k_is)
    (case ex_HallError => k_exc)
    (case ke_HallError => k_is)
    (case be_HallError => k_is)
    (case te_HallError => k_is)
    (case aC_TooGreat => k_is)
    (case ex_TooGreat => k_exc)
    (case ke_TooGreat => k_is)
    (case be_TooGreat => k_is)
    (case te_TooGreat => k_is)
    (case aC_Piece => k_is)
    (case pg_Piece => k_is)
    (case hd_Piece => k_is)
    (case po_Piece => k_is)
    (case sa_Piece => k_is)
    (case mk_Piece => k_is)
    (case kc_Piece => k_is)
    (case no_Piece_term => k_is)
    (case no_Piece_size => k_is)
    (case no_Piece_depth => k_is)
    (case no_Piece_later => k_is)
    (case aC_Telling => k_is)
    (case pg_Telling => k_is)
    (case hd_Telling => k_is)
    (case po_Telling => k_is)
    (case sa_Telling => k_is)
    (case mk_Telling => k_is)
    (case kc_Telling => k_is)
    (case no_Telling_steps => k_is)
    (case no_Telling_found => k_is)
    (case no_Telling_named => k_is)
    (case a_plain_of => k_is)
    (case l_plain_of => k_is)
    (case c_plain_of => k_is)
    (case k_plain_of => k_is)
    (case a_Piece_init => k_is)
    (case i_Piece_init => k_is)
    (case l_Piece_init => k_is)
    (case c_Piece_init => k_is)
    (case k_Piece_init => k_is)
    (case a_Telling_init => k_is)
    (case i_Telling_init => k_is)
    (case l_Telling_init => k_is)
    (case c_Telling_init => k_is)
    (case k_Telling_init => k_is)
    (case a_Telling_value_of => k_is)
    (case i_Telling_value_of => k_is)
    (case l_Telling_value_of => k_is)
    (case c_Telling_value_of => k_is)
    (case k_Telling_value_of => k_is)
    (case a_Telling_later => k_is)
    (case i_Telling_later => k_is)
    (case l_Telling_later => k_is)
    (case c_Telling_later => k_is)
    (case k_Telling_later => k_is)
    (case a_Telling_tell => k_is)
    (case i_Telling_tell => k_is)
    (case l_Telling_tell => k_is)
    (case c_Telling_tell => k_is)
    (case k_Telling_tell => k_is)
    (case a_Telling_make => k_is)
    (case i_Telling_make => k_is)
    (case l_Telling_make => k_is)
    (case c_Telling_make => k_is)
    (case k_Telling_make => k_is)
    (case a_Telling_make_of => k_is)
    (case i_Telling_make_of => k_is)
    (case l_Telling_make_of => k_is)
    (case c_Telling_make_of => k_is)
    (case k_Telling_make_of => k_is)
    (case a_Telling_new_name => k_is)
    (case i_Telling_new_name => k_is)
    (case l_Telling_new_name => k_is)
    (case c_Telling_new_name => k_is)
    (case k_Telling_new_name => k_is)
    (case a_tell_num => k_is)
    (case l_tell_num => k_is)
    (case c_tell_num => k_is)
    (case k_tell_num => k_is)
    (case a_tell_name => k_is)
    (case l_tell_name => k_is)
    (case c_tell_name => k_is)
    (case k_tell_name => k_is)
    (case a_tell_two => k_is)
    (case l_tell_two => k_is)
    (case c_tell_two => k_is)
    (case k_tell_two => k_is)
    (case a_reckon => k_is)
    (case l_reckon => k_is)
    (case c_reckon => k_is)
    (case k_reckon => k_is)
    (case a_tell_when => k_is)
    (case l_tell_when => k_is)
    (case c_tell_when => k_is)
    (case k_tell_when => k_is)
    (case a_choose => k_is)
    (case l_choose => k_is)
    (case c_choose => k_is)
    (case k_choose => k_is)
    (case a_tell_let => k_is)
    (case l_tell_let => k_is)
    (case c_tell_let => k_is)
    (case k_tell_let => k_is)
    (case a_go_on_with_b => k_is)
    (case l_go_on_with_b => k_is)
    (case c_go_on_with_b => k_is)
    (case k_go_on_with_b => k_is)
    (case a_tell_turns => k_is)
    (case l_tell_turns => k_is)
    (case c_tell_turns => k_is)
    (case k_tell_turns => k_is)
    (case a_turn => k_is)
    (case l_turn => k_is)
    (case c_turn => k_is)
    (case k_turn => k_is)
    (case a_tell_def => k_is)
    (case l_tell_def => k_is)
    (case c_tell_def => k_is)
    (case k_tell_def => k_is)
    (case a_tell_use => k_is)
    (case l_tell_use => k_is)
    (case c_tell_use => k_is)
    (case k_tell_use => k_is)
    (case a_go_on_with_function => k_is)
    (case l_go_on_with_function => k_is)
    (case c_go_on_with_function => k_is)
    (case k_go_on_with_function => k_is)
    (case a_tell_quote => k_is)
    (case l_tell_quote => k_is)
    (case c_tell_quote => k_is)
    (case k_tell_quote => k_is)
    (case a_refuse_too_great => k_is)
    (case l_refuse_too_great => k_is)
    (case c_refuse_too_great => k_is)
    (case k_refuse_too_great => k_is)
    (case a_tell_lift => k_is)
    (case l_tell_lift => k_is)
    (case c_tell_lift => k_is)
    (case k_tell_lift => k_is)
    (case a_make_num => k_is)
    (case l_make_num => k_is)
    (case c_make_num => k_is)
    (case k_make_num => k_is)
    (case a_tell_run => k_is)
    (case l_tell_run => k_is)
    (case c_tell_run => k_is)
    (case k_tell_run => k_is)
    (case a_go_on_with_piece => k_is)
    (case l_go_on_with_piece => k_is)
    (case c_go_on_with_piece => k_is)
    (case k_go_on_with_piece => k_is)
    (case a_make_same => k_is)
    (case l_make_same => k_is)
    (case c_make_same => k_is)
    (case k_make_same => k_is)
    (case a_make_name => k_is)
    (case l_make_name => k_is)
    (case c_make_name => k_is)
    (case k_make_name => k_is)
    (case a_make_plain => k_is)
    (case l_make_plain => k_is)
    (case c_make_plain => k_is)
    (case k_make_plain => k_is)
    (case a_make_let => k_is)
    (case l_make_let => k_is)
    (case c_make_let => k_is)
    (case k_make_let => k_is)
    (case a_make_turns => k_is)
    (case l_make_turns => k_is)
    (case c_make_turns => k_is)
    (case k_make_turns => k_is)
    (case a_make_def => k_is)
    (case l_make_def => k_is)
    (case c_make_def => k_is)
    (case k_make_def => k_is)
    (case a_make_use => k_is)
    (case l_make_use => k_is)
    (case c_make_use => k_is)
    (case k_make_use => k_is)
    (case a_fill_hole => k_is)
    (case l_fill_hole => k_is)
    (case c_fill_hole => k_is)
    (case k_fill_hole => k_is)
    (case a_put_together => k_is)
    (case l_put_together => k_is)
    (case c_put_together => k_is)
    (case k_put_together => k_is)
    (case a_law_cell_at => k_is)
    (case l_law_cell_at => k_is)
    (case c_law_cell_at => k_is)
    (case k_law_cell_at => k_is)
    (case a_law_mixed => k_is)
    (case l_law_mixed => k_is)
    (case c_law_mixed => k_is)
    (case k_law_mixed => k_is)
    (case a_law_drawn => k_is)
    (case l_law_drawn => k_is)
    (case c_law_drawn => k_is)
    (case k_law_drawn => k_is)
    (case a_law_whole => k_is)
    (case l_law_whole => k_is)
    (case c_law_whole => k_is)
    (case k_law_whole => k_is)
    (case a_law_name => k_is)
    (case l_law_name => k_is)
    (case c_law_name => k_is)
    (case k_law_name => k_is)
    (case a_law_next => k_is)
    (case l_law_next => k_is)
    (case c_law_next => k_is)
    (case k_law_next => k_is)
    (case a_law_number => k_is)
    (case l_law_number => k_is)
    (case c_law_number => k_is)
    (case k_law_number => k_is)
    (case a_law_seen => k_is)
    (case l_law_seen => k_is)
    (case c_law_seen => k_is)
    (case k_law_seen => k_is)
    (case a_law_leaf => k_is)
    (case l_law_leaf => k_is)
    (case c_law_leaf => k_is)
    (case k_law_leaf => k_is)
    (case a_law_words => k_is)
    (case l_law_words => k_is)
    (case c_law_words => k_is)
    (case k_law_words => k_is)
    (case a_law_term => k_is)
    (case l_law_term => k_is)
    (case c_law_term => k_is)
    (case k_law_term => k_is)
    (case a_law_twice => k_is)
    (case l_law_twice => k_is)
    (case c_law_twice => k_is)
    (case k_law_twice => k_is)
    (case a_law_bound => k_is)
    (case l_law_bound => k_is)
    (case c_law_bound => k_is)
    (case k_law_bound => k_is)
    (case a_law_value => k_is)
    (case l_law_value => k_is)
    (case c_law_value => k_is)
    (case k_law_value => k_is)
    (case a_law_with => k_is)
    (case l_law_with => k_is)
    (case c_law_with => k_is)
    (case k_law_with => k_is)
    (case a_law_value_bound => k_is)
    (case l_law_value_bound => k_is)
    (case c_law_value_bound => k_is)
    (case k_law_value_bound => k_is)
    (case a_law_parts => k_is)
    (case l_law_parts => k_is)
    (case c_law_parts => k_is)
    (case k_law_parts => k_is)
    (case a_law_cost => k_is)
    (case l_law_cost => k_is)
    (case c_law_cost => k_is)
    (case k_law_cost => k_is)
    (case a_law_without => k_is)
    (case l_law_without => k_is)
    (case c_law_without => k_is)
    (case k_law_without => k_is)
    (case a_law => k_is)
    (case l_law => k_is)
    (case c_law => k_is)
    (case k_law => k_is)
    (case z_bool => k_is)
    (case z_dict => k_is)
    (case z_int => k_is)
    (case z_isinstance => k_is)
    (case z_len => k_is)
    (case z_max => k_is)
    (case z_range => k_is)
    (case z_reversed => k_is)
    (case z_sum => k_is)
    (case z_tuple => k_is)
    (case gi_RECKONED_BY => k_is)
    (case gi_MOST_TERMS => k_is)
    (case gi_DEEPEST => k_is)
    (case aD_TELLERS => k_is)
    (case lD_TELLERS => k_is)
    (case kD_TELLERS => first | k_is | (repeat' (first | exact True.intro | refine ⟨⟨_, _, rfl, rfl⟩, ?_⟩)))
    (case d_TELLERS_num => k_is)
    (case d_TELLERS_name => k_is)
    (case d_TELLERS_sum => k_is)
    (case d_TELLERS_product => k_is)
    (case d_TELLERS_less => k_is)
    (case d_TELLERS_when => k_is)
    (case d_TELLERS_let => k_is)
    (case d_TELLERS_turns => k_is)
    (case d_TELLERS_def => k_is)
    (case d_TELLERS_use => k_is)
    (case d_TELLERS_quote => k_is)
    (case d_TELLERS_lift => k_is)
    (case d_TELLERS_run => k_is)
    (case aD_MAKERS => k_is)
    (case lD_MAKERS => k_is)
    (case kD_MAKERS => first | k_is | (repeat' (first | exact True.intro | refine ⟨⟨_, _, rfl, rfl⟩, ?_⟩)))
    (case d_MAKERS_num => k_is)
    (case d_MAKERS_name => k_is)
    (case d_MAKERS_sum => k_is)
    (case d_MAKERS_product => k_is)
    (case d_MAKERS_less => k_is)
    (case d_MAKERS_when => k_is)
    (case d_MAKERS_let => k_is)
    (case d_MAKERS_turns => k_is)
    (case d_MAKERS_def => k_is)
    (case d_MAKERS_use => k_is)
    (case d_MAKERS_hole => k_is)
#print axioms PySem.Challenge.cw_quotehall_k04_plain_holds

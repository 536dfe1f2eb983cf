import PyProof.Rows.All
import Wide.All
import OpenK.AllK
import Wide.FinOn
import HandS.ForMost
import HandS.IsInst
import HandS.TupAny
import HandS.More
import KE.KeyNested
import KE.DataMinMax
import HandS.SortKw
import HandS.Star
import HandS.Zip
import HandS.Conv
import HandS.Deep
import HandS.TryOnly
import HandS.FStr
import HandS.Rev
import HandS.Exc
import HandS.ExcOwn
import HandS.WordsExc
import HandS.RaiseMore
import HandS.CallLocal
import HandS.Flow
import PySem.Challenge.RW_quotehall_k05_kinds
set_option Elab.async false
set_option autoImplicit false
set_option maxRecDepth 100000
/-! ## One layer for all laws of the program: terms as data, how the heap bears them, the laws' own helpers -/
namespace Q
open PySem L2
def topS (i : Nat) : Stmt := PySem.Challenge.pw_quotehall_k05_kinds.main.body.getD i (.Pass ⟨0, 0, 0, 0⟩)

/-! ### a def that keeps a promise, as its callers need it -/
structure Cal (P : Program) (w : World) (K : PySem.W.Frag) (mg : Str → Option Value) (base : Heap) (x : Str) (ps : List Str) (k : Nat) (sp : Sp) (f : Addr) (fd : FuncData) : Prop where
  ok : FnOk P w K mg base CX0 k f fd ps sp
  m : mg x = some (.ref f)
  kp : PySem.W.keepIn K (.ref f) = true
  b : Binds K fd ps []

/-- a method that keeps a promise -/
structure CalM (P : Program) (w : World) (K : PySem.W.Frag) (mg : Str → Option Value) (base : Heap) (C : Addr) (x : Str) (ps : List Str) (k : Nat) (sp : Sp) (f : Addr) (fd : FuncData) : Prop where
  ok : FnOk P w K mg base CX0 k f fd ps sp
  m : Meth K C x f
  b : Binds K fd ps []
/-- a class whose objects are made -/
structure CalC (P : Program) (w : World) (K : PySem.W.Frag) (mg : Str → Option Value) (base : Heap) (x : Str) (C : Addr) (ps : List Str) (k : Nat) (sp : Sp) (f : Addr) (fd : FuncData) : Prop where
  mkr : Mk K C f
  ok : FnOk P w K mg base CX0 k f fd ps sp
  m : mg x = some (.ref C)
  b : Binds K fd ps []

/-! ### the built-ins that the text calls -/
structure Txt (mg : Str → Option Value) : Prop where
  len : mg "len" = none
  list : mg "list" = none
  max : mg "max" = none
  range : mg "range" = none
  tuple : mg "tuple" = none
  zip : mg "zip" = none

/-! ### heaps -/
theorem same_new {H : Hp} {p : Addr} (h : H p = none) (o : HO) : Same H (upd H p o) := fun b u q => by rw [upd_ne (ne_of_none q h)]; exact q
/-- all that was tracked but the object at st is as it was -/
def But (st : Addr) (H H' : Hp) : Prop := ∀ b o, b ≠ st → H b = some o → H' b = some o
theorem But.refl (st : Addr) (H : Hp) : But st H H := fun _ _ _ h => h
theorem But.trans {st : Addr} {H H1 H2 : Hp} (a : But st H H1) (b : But st H1 H2) : But st H H2 := fun c o n h => b c o n (a c o n h)
theorem But.of_same {st : Addr} {H H' : Hp} (h : Same H H') : But st H H' := fun b o _ q => h b o q
theorem But.put (st : Addr) (H : Hp) (o : HO) : But st H (upd H st o) := fun b u n q => by rw [upd_ne n]; exact q
theorem But.new {st : Addr} {H H' : Hp} {p : Addr} {o : HO} (h : But st H H') (n : H' p = none) : But st H (upd H' p o) := h.trans (.of_same (same_new n o))
theorem But.seqL {K : PySem.W.Frag} {st : Addr} {H H' : Hp} {a : Addr} {xs : List V} (e : But st H H') (n : a ≠ st) (h : SqL K H a xs) : SqL K H' a xs := by
  rcases h with (h | ⟨o, h⟩) | h
  · exact .inl (.inl (e _ _ n h))
  · exact .inl (.inr ⟨o, e _ _ n h⟩)
  · exact .inr h
theorem small {n : Nat} (h : n ≤ 1000) : n ≤ sizeLine := Nat.le_of_lt (small1000 h)
theorem atI_n {α : Type} {xs : List α} {k : Int} {n : Nat} {v : α} (e : k = (n : Int)) (h : xs[n]? = some v) : atI xs k = some v := by
  subst e
  exact atI_nat h

/-! ### what a test, an expression, a statement leaves, said once -/
section
variable {X : Cx}
def tKt (t : TT) : TT := fun σ H Q => ∃ R : Bool → Hp → Prop, t σ H R ∧ ∀ b H', R b H' → Q b H'
theorem pt_k {e : Expr} {t : TT} (h : PT X e t) : PT X e (tKt t) := ⟨fun pins s σ H Q I ⟨R, q, m⟩ => thn (h.run pins s σ H R I q) fun _ _ ⟨H', I', r⟩ => ⟨H', I', m _ _ r⟩⟩
def tKe (t : TE) : TE := fun σ H Q => ∃ R : V → Hp → Prop, t σ H R ∧ ∀ v H', R v H' → Q v H'
theorem pe_k {e : Expr} {t : TE} (h : PE X e t) : PE X e (tKe t) := ⟨fun pins s σ H Q I ⟨R, q, m⟩ => thn (h.run pins s σ H R I q) fun _ _ ⟨v, H', I', rv, r⟩ => ⟨v, H', I', rv, m _ _ r⟩⟩
def tCut (t u : TS) : TS := fun D σ H => ∃ Mid : L2.St → Hp → Prop, t { D with nx := Mid } σ H ∧ ∀ σ' H', Mid σ' H' → u D σ' H'
theorem pss_cut {st : Stmt} {rest : List Stmt} {t u : TS} (h1 : PS X st t) (h2 : PSs X rest u) : PSs X (st :: rest) (tCut t u) := by
  refine ⟨fun pins s σ H D I h => ?_⟩
  obtain ⟨Mid, hm, hu⟩ := h
  refine wpAny_execs_cons (thn (h1.run pins s σ H { D with nx := Mid } I hm) fun f s1 q => ?_)
  cases f with
  | next =>
    obtain ⟨σ', H', I', q⟩ := q
    exact h2.run pins s1 σ' H' D I' (hu σ' H' q)
  | ret v => exact q
  | brk => exact q
  | cont => exact q
end

/-! ### cells, draws -/
/-- the script: a list of ints that nobody writes -/
def Ints (K : PySem.W.Frag) (H : Hp) (a : Addr) : Prop := ∃ ns : List Int, ns.length ≤ 63 ∧ ((∃ o, H a = some (.frz o (.lst (ns.map V.int)))) ∨
  ∃ (o : Obj) (its : Array Value) (n : Nat), K.lookup a = some o ∧ o.cls = .type "list" ∧ o.dict = none ∧ o.data = .seq its n ∧ its.size ≤ sizeLine ∧ Vals (ns.map V.int) its.toList)
theorem Ints.sq {K : PySem.W.Frag} {H : Hp} {a : Addr} (h : Ints K H a) : ∃ ns : List Int, SqL K H a (ns.map V.int) ∧ ns.length ≤ 63 := by
  obtain ⟨ns, h63, ⟨o, h⟩ | h⟩ := h
  · exact ⟨ns, .inl (.inr ⟨o, h⟩), h63⟩
  · exact ⟨ns, .inr h, h63⟩
theorem Ints.same {K : PySem.W.Frag} {H H' : Hp} {a : Addr} (h : Ints K H a) (e : Same H H') : Ints K H' a := by
  obtain ⟨ns, h63, ⟨o, h⟩ | h⟩ := h
  · exact ⟨ns, h63, .inl ⟨o, e _ _ h⟩⟩
  · exact ⟨ns, h63, .inr h⟩
theorem Ints.but {K : PySem.W.Frag} {H H' : Hp} {a st : Addr} {ys : List V} (h : Ints K H a) (hs : H st = some (.lst ys)) (e : But st H H') : Ints K H' a := by
  obtain ⟨ns, h63, ⟨o, h⟩ | h⟩ := h
  · exact ⟨ns, h63, .inl ⟨o, e _ _ (ne_of h hs (by intro z; cases z)) h⟩⟩
  · exact ⟨ns, h63, .inr h⟩
theorem Ints.of {K : PySem.W.Frag} {H : Hp} {a : Addr} {ns : List Int} (hO : Only H) (h : SqL K H a (ns.map V.int)) (h63 : ns.length ≤ 63) : Ints K H a := by
  rcases h with (h | ⟨o, h⟩) | h
  · rcases hO a with z | ⟨o, xs, z⟩
    · rw [z] at h
      cases h
    · rw [z] at h
      cases h
  · exact ⟨ns, h63, .inl ⟨o, h⟩⟩
  · exact ⟨ns, h63, .inr h⟩
def spCellAt (K : PySem.W.Frag) : Sp := fun vs H Q _ => ∃ (a : Addr) (k : Int), vs = [.ref a, .int k] ∧ Ints K H a ∧ 0 ≤ k ∧ ∀ c : Int, Q (.int c) H
def spMixed (K : PySem.W.Frag) : Sp := fun vs H Q _ => ∃ (a : Addr) (k : Int), vs = [.ref a, .int k] ∧ Ints K H a ∧ 0 ≤ k ∧ ∀ c : Int, 0 ≤ c → c < 2147483629 → Q (.int c) H
abbrev s_cell_at : Stmt := topS 35
theorem sc_cell_at : FnScope ["_law_script", "_law_k"] ["_law_script", "_law_k"] (defScope s_cell_at) := ⟨rfl, rfl, rfl, by decide +kernel, rfl, by decide +kernel, by decide +kernel⟩
abbrev s_mixed : Stmt := topS 36
theorem sc_mixed : FnScope ["_law_script", "_law_k", "_law_number_here"] ["_law_script", "_law_k"] (defScope s_mixed) := ⟨rfl, rfl, rfl, by decide +kernel, rfl, by decide +kernel, by decide +kernel⟩
section
variable {P : Program} {w : World} {K : PySem.W.Frag} {mg : Str → Option Value} {base : Heap} {f f1 f2 f3 f4 f5 f6 f7 f8 : Addr} {fd fd1 fd2 fd3 fd4 fd5 fd6 fd7 fd8 : FuncData}
theorem ok_cell_at (F : Fun K "_law_cell_at" "_law_cell_at" s_cell_at f fd) (T : Txt mg) : FnOk P w K mg base CX0 1 f fd ["_law_script", "_law_k"] (spCellAt K) := by
  refine F.ok sc_cell_at (fun vs H Q E h => ?_) (fun cdv A outer s H vs Q E hr h => ?_)
  · obtain ⟨a, k, rfl, _⟩ := h
    rfl
  obtain ⟨a, k, rfl, hI, h0, q⟩ := h
  obtain ⟨ns, hS, h63⟩ := hI.sq
  refine ⟨_, (pss_cons (ps_if (pt_cmpR op_lt (pv 1) (pe_callB call_len_seq (by rfl) T.len PySem.boot_len (pa_cons (pv 0) pa_nil)) (nomark _)) (pss_one (ps_ret (pe_ix ix_list (pv 0) (pv 1) (fun _ _ => rfl)))) pss_nil)
      (pss_one (ps_ret pe_int))), ?_⟩
  refine ⟨_, rfl, _, rfl, a, _, rfl, .inl hS, _, _, rfl, rfl, _, rfl, ?_⟩
  refine ite2 (fun c => ?_) (fun c => ?_)
  · have c' : k < (((ns.map V.int).length : Nat) : Int) := of_decide_eq_true c
    rw [List.length_map] at c'
    have hk : k.toNat < ns.length := by omega
    exact ⟨_, rfl, _, rfl, a, _, _, .int (ns[k.toNat]), rfl, rfl, hS, atI_n (n := k.toNat) (by omega) (by rw [List.getElem?_map, List.getElem?_eq_getElem hk]; rfl), q _⟩
  · exact q 0
theorem mixed_lt (x : Int) : 0 ≤ x % 2147483629 ∧ x % 2147483629 < 2147483629 := ⟨Int.emod_nonneg _ (by decide), Int.emod_lt_of_pos _ (by decide)⟩
theorem mixed_lt2 (x : Int) : 0 ≤ x % 2147483647 ∧ x % 2147483647 < 2147483647 := ⟨Int.emod_nonneg _ (by decide), Int.emod_lt_of_pos _ (by decide)⟩
theorem ok_mixed (F : Fun K "_law_mixed" "_law_mixed" s_mixed f fd) (T : Txt mg) (C_law_cell_at : Cal P w K mg base "_law_cell_at" ["_law_script", "_law_k"] 1 (spCellAt K) f1 fd1) : FnOk P w K mg base CX0 2 f fd ["_law_script", "_law_k"] (spMixed K) := by
  refine F.ok sc_mixed (fun vs H Q E h => ?_) (fun cdv A outer s H vs Q E hr h => ?_)
  · obtain ⟨a, k, rfl, _⟩ := h
    rfl
  obtain ⟨a, k, rfl, hS, h0, q⟩ := h
  refine ⟨_, (pss_cons (ps_set (i := 2) sc_mixed.nd rfl (Or.inl rfl) (pe_op op_mod (pe_op op_mul (pe_op op_add (pe_call C_law_cell_at.ok (hr.mono (by first | decide | omega)) rfl C_law_cell_at.m C_law_cell_at.kp C_law_cell_at.b .nil pass0 (pa_cons (pv 0) (pa_cons (pv 1) pa_nil))) (pe_op op_mul pe_int (pv 1))) pe_int) pe_int))
      (pss_one (ps_ret (pe_op op_mod (pe_op op_add (pe_op op_add (pe_op op_mul (pv 2) (pv 2)) (pe_op op_mul pe_int (pv 2))) (pv 1)) pe_int)))), ?_⟩
  refine ⟨_, rfl, _, rfl, a, k, rfl, hS, h0, fun c => ?_⟩
  refine ⟨_, rfl, _, _, rfl, rfl, .inl ⟨by decide, by decide⟩, _, _, rfl, rfl, _, _, rfl, rfl, .inr ⟨by decide, by decide⟩, _, _, rfl, rfl, (by show (0 : Int) < _; decide), ?_⟩
  have b := mixed_lt2 ((c + 7919 * k) * 48271)
  generalize (c + 7919 * k) * 48271 % 2147483647 = n at b ⊢
  refine ⟨_, rfl, _, rfl, _, _, rfl, rfl, .inl ⟨by omega, by omega⟩, _, rfl, _, _, rfl, rfl, .inl ⟨by decide, by decide⟩, _, _, rfl, rfl, _, rfl, _, _, rfl, rfl, _, _, rfl, rfl, (by show (0 : Int) < _; decide), ?_⟩
  exact q _ (mixed_lt _).1 (mixed_lt _).2
end

def Drawn : List Int → List Int → Prop
  | [], [] => True
  | x :: xs, s :: ss => (0 ≤ x ∧ x < s) ∧ Drawn xs ss
  | _, _ => False
theorem Drawn.snoc : ∀ {xs ss : List Int} {x s : Int}, Drawn xs ss → 0 ≤ x → x < s → Drawn (xs ++ [x]) (ss ++ [s])
  | [], [], _, _, _, h0, h1 => ⟨⟨h0, h1⟩, True.intro⟩
  | _ :: _, _ :: _, _, _, ⟨h, t⟩, h0, h1 => ⟨h, Drawn.snoc t h0 h1⟩
  | [], _ :: _, _, _, h, _, _ => h.elim
  | _ :: _, [], _, _, h, _, _ => h.elim
theorem Drawn.len : ∀ {xs ss : List Int}, Drawn xs ss → xs.length = ss.length
  | [], [], _ => rfl
  | _ :: _, _ :: _, ⟨_, t⟩ => congrArg (· + 1) (Drawn.len t)
  | [], _ :: _, h => h.elim
  | _ :: _, [], h => h.elim
/-- an int of a list of ints by its place -/
theorem at_int {ys : List Int} {j : Int} (h0 : 0 ≤ j) (h1 : j < (ys.length : Int)) : ∃ c, c ∈ ys ∧ atI (ys.map V.int) j = some (.int c) := by
  have hk : j.toNat < ys.length := by omega
  exact ⟨ys[j.toNat], List.getElem_mem hk, atI_n (k := j) (n := j.toNat) (by omega) (by rw [List.getElem?_map, List.getElem?_eq_getElem hk]; rfl)⟩
theorem at_str {ys : List Str} {j : Int} (h0 : 0 ≤ j) (h1 : j < (ys.length : Int)) : ∃ c, c ∈ ys ∧ atI (ys.map V.str) j = some (.str c) := by
  have hk : j.toNat < ys.length := by omega
  exact ⟨ys[j.toNat], List.getElem_mem hk, atI_n (k := j) (n := j.toNat) (by omega) (by rw [List.getElem?_map, List.getElem?_eq_getElem hk]; rfl)⟩
theorem at_any {ys : List V} {j : Int} (h0 : 0 ≤ j) (h1 : j < (ys.length : Int)) : ∃ c, c ∈ ys ∧ atI ys j = some c := by
  have hk : j.toNat < ys.length := by omega
  exact ⟨ys[j.toNat], List.getElem_mem hk, atI_n (k := j) (n := j.toNat) (by omega) (List.getElem?_eq_getElem hk)⟩
theorem at_cod {ys : List Nat} {j : Int} (h0 : 0 ≤ j) (h1 : j < (ys.length : Int)) : ∃ c, c ∈ ys ∧ atI ys j = some c := by
  have hk : j.toNat < ys.length := by omega
  exact ⟨ys[j.toNat], List.getElem_mem hk, atI_n (k := j) (n := j.toNat) (by omega) (List.getElem?_eq_getElem hk)⟩
theorem ixN_lt {n : Nat} {j : Int} (h0 : 0 ≤ j) (h1 : j < (n : Int)) : ixN n j = some j.toNat := by
  unfold ixN
  rw [if_pos h0, if_pos h1]
theorem mod_in (x : Int) {n : Int} (h : 0 < n) : 0 ≤ x % n ∧ x % n < n := ⟨Int.emod_nonneg _ (by omega), Int.emod_lt_of_pos _ h⟩
def spDrawn (K : PySem.W.Frag) : Sp := fun vs H Q _ => ∃ (n : Int) (a : Addr) (ss : List Int), vs = [.int n, .ref a] ∧ SqL K H a (ss.map V.int) ∧ ss.length ≤ 63 ∧ (∀ s ∈ ss, 0 < s ∧ s < 1073741824) ∧
  ∀ (xs : List Int) (r : Addr) (H' : Hp), Drawn xs ss → H r = none → Same H H' → H' r = some (.lst (xs.map V.int)) → Q (.ref r) H'
abbrev s_drawn : Stmt := topS 37
theorem sc_drawn : FnScope ["_law_number_here", "_law_sizes", "_law_some", "_law_size"] ["_law_number_here", "_law_sizes"] (defScope s_drawn) := ⟨rfl, rfl, rfl, by decide +kernel, rfl, by decide +kernel, by decide +kernel⟩
/-- the state's first number is the place of the next draw -/
def spNext (K : PySem.W.Frag) : Sp := fun vs H Q _ => ∃ (a st : Addr) (c : Int) (r : List V), vs = [.ref a, .ref st] ∧ Ints K H a ∧ H st = some (.lst (.int c :: r)) ∧ 0 ≤ c ∧
  ∀ n : Int, 0 ≤ n → n < 2147483629 → Q (.int n) (upd H st (.lst (.int (c + 1) :: r)))
abbrev s_next : Stmt := topS 39
theorem sc_next : FnScope ["_law_script", "_law_state"] ["_law_script", "_law_state"] (defScope s_next) := ⟨rfl, rfl, rfl, by decide +kernel, rfl, by decide +kernel, by decide +kernel⟩
def spNumber : Sp := fun vs H Q _ => ∃ n : Int, vs = [.int n] ∧ 0 ≤ n ∧ n < 2147483629 ∧ ∀ (c : Int) (H' : Hp), Same H H' → c.natAbs ≤ 10 ^ 20 → Q (.int c) H'
abbrev s_number : Stmt := topS 40
theorem sc_number : FnScope ["_law_number_here", "_law_some"] ["_law_number_here"] (defScope s_number) := ⟨rfl, rfl, rfl, by decide +kernel, rfl, by decide +kernel, by decide +kernel⟩
section
variable {P : Program} {w : World} {K : PySem.W.Frag} {mg : Str → Option Value} {base : Heap} {f f1 f2 f3 f4 f5 f6 f7 f8 : Addr} {fd fd1 fd2 fd3 fd4 fd5 fd6 fd7 fd8 : FuncData}
theorem ok_drawn (F : Fun K "_law_drawn" "_law_drawn" s_drawn f fd) (T : Txt mg) : FnOk P w K mg base CX0 1 f fd ["_law_number_here", "_law_sizes"] (spDrawn K) := by
  refine F.ok sc_drawn (fun vs H Q E h => ?_) (fun cdv A outer s H vs Q E hr h => ?_)
  · obtain ⟨n, a, ss, rfl, _⟩ := h
    rfl
  obtain ⟨n, a, ss, rfl, hS, h63, hp, q⟩ := h
  refine ⟨_, (pss_cons (ps_set (i := 2) sc_drawn.nd rfl (Or.inl rfl) (pe_lst pa_nil))
      (pss_cons (ps_for PassesOwn.never rfl (pi_list (pv 1)) (pg_name (i := 3) sc_drawn.nd rfl (Or.inl rfl)) (pss_cons (ps_expr (pe_bm PySem.F.plainAttrs_list PySem.F.slot_list_append PySem.F.type_list_append mt_append (pv 2) (pa_cons (pe_op op_mod (pv 0) (pv 3)) pa_nil)))
      (pss_one (ps_set (i := 0) sc_drawn.nd rfl (Or.inl rfl) (pe_op op_fdiv (pv 0) (pv 3))))))
      (pss_one (ps_ret (pv 2))))), ?_⟩
  refine ⟨Nat.zero_le _, fun r hr => ?_⟩
  refine ⟨_, rfl, a, rfl, ⟨_, (same_new hr _).seq hS⟩, for_list (K := K) (a := a) (xs := ss.map V.int) (fun i σ H' => ∃ (m : Int) (xs : List Int) (v : Option V), σ = [some (.int m), some (.ref a), some (.ref r), v] ∧ Same H H' ∧ H' r = some (.lst (xs.map V.int)) ∧ Drawn xs (ss.take i))
    ⟨n, [], none, rfl, same_new hr _, upd_same, by rw [List.take_zero]; exact True.intro⟩ (fun i σ H' _ ⟨_, _, _, _, g, _⟩ => g.seq hS) ?_ ?_⟩
  · rintro i y σ H' hi ⟨m, xs, v, rfl, g, hx, hd⟩
    have hil : i < ss.length := by
      have z := (List.getElem?_eq_some_iff.mp hi).1
      rw [List.length_map] at z
      exact z
    rw [List.getElem?_map, List.getElem?_eq_getElem hil] at hi
    cases hi
    have hs := hp ss[i] (List.getElem_mem hil)
    have hlen : xs.length ≤ 63 := by
      have z := hd.len
      rw [List.length_take] at z
      omega
    refine ⟨_, rfl, .inl ⟨rfl, _, SqL.of hx⟩, _, rfl, _, rfl, _, _, rfl, rfl, hs.1, r, _, _, rfl, rfl, hx, small1000 (by rw [List.length_map]; omega), ?_⟩
    refine ⟨_, rfl, _, rfl, _, _, rfl, rfl, ⟨hs.1, hs.2⟩, ?_⟩
    have h0 := mod_in m hs.1
    refine ⟨m / ss[i], xs ++ [m % ss[i]], _, rfl, fun b o e => ?_, ?_, ?_⟩
    · have nb : b ≠ r := ne_of_none e hr
      rw [upd_ne nb]
      exact g b o e
    · rw [upd_same, List.map_append]
      rfl
    · rw [List.take_succ_eq_append_getElem hil]
      exact hd.snoc h0.1 h0.2
  · rintro σ H' ⟨m, xs, v, rfl, g, hx, hd⟩
    refine ⟨_, rfl, q xs r H' ?_ hr g hx⟩
    rw [List.length_map, List.take_length] at hd
    exact hd
theorem ok_next (F : Fun K "_law_next" "_law_next" s_next f fd) (C_law_mixed : Cal P w K mg base "_law_mixed" ["_law_script", "_law_k"] 2 (spMixed K) f1 fd1) : FnOk P w K mg base CX0 3 f fd ["_law_script", "_law_state"] (spNext K) := by
  refine F.ok sc_next (fun vs H Q E h => ?_) (fun cdv A outer s H vs Q E hr h => ?_)
  · obtain ⟨a, st, c, r, rfl, _⟩ := h
    rfl
  obtain ⟨a, st, c, r, rfl, hI, hst, h0, q⟩ := h
  refine ⟨_, (pss_cons (ps_asg (pe_op op_add (pe_ix ix_list (pv 1) pe_int (fun _ _ => rfl)) pe_int) (pg_sub (pv 1) pe_int set_list))
      (pss_one (ps_ret (pe_call C_law_mixed.ok (hr.mono (by first | decide | omega)) rfl C_law_mixed.m C_law_mixed.kp C_law_mixed.b .nil pass0 (pa_cons (pv 0) (pa_cons (pe_ix ix_list (pv 1) pe_int (fun _ _ => rfl)) pa_nil)))))), ?_⟩
  refine ⟨_, rfl, st, _, _, _, rfl, rfl, SqL.of hst, atI_n (n := 0) rfl rfl, _, _, rfl, rfl, _, rfl, st, _, _, 0, rfl, rfl, hst, ixN_lt (Int.le_refl 0) (by show (0 : Int) < ((r.length + 1 : Nat) : Int); omega), ?_⟩
  refine ⟨_, rfl, _, rfl, st, _, _, _, rfl, rfl, SqL.of upd_same, atI_n (n := 0) rfl rfl, a, c + 1, rfl, hI.but hst (.put _ _ _), by omega, q⟩
theorem ok_number (F : Fun K "_law_number" "_law_number" s_number f fd) : FnOk P w K mg base CX0 1 f fd ["_law_number_here"] spNumber := by
  refine F.ok sc_number (fun vs H Q E h => ?_) (fun cdv A outer s H vs Q E hr h => ?_)
  · obtain ⟨n, rfl, _⟩ := h
    rfl
  obtain ⟨n, rfl, h0, h1, q⟩ := h
  refine ⟨_, (pss_cons (ps_set (i := 1) sc_number.nd rfl (Or.inl rfl) (pe_lst (pa_cons (pe_op op_mod (pv 0) pe_int) (pa_cons (pe_op op_mod (pv 0) pe_int) (pa_cons (pe_op op_sub (pe_un un_neg pe_int) (pe_op op_mod (pv 0) pe_int)) (pa_cons (pe_op op_add (pe_op op_mul pe_int (pe_op op_mod (pv 0) pe_int)) (pe_op op_mod (pv 0) pe_int)) (pa_cons (pe_op op_pow pe_int pe_int) pa_nil)))))))
      (pss_one (ps_ret (pe_ix ix_list (pe_op op_cat (pv 1) (pe_lst (pa_cons (pe_un un_neg (pv 0)) pa_nil))) (pe_op op_mod (pe_op op_fdiv (pv 0) pe_int) pe_int) (fun _ _ => rfl))))), ?_⟩
  refine ⟨_, rfl, _, _, rfl, rfl, (by show (0 : Int) < _; decide), _, rfl, _, _, rfl, rfl, (by show (0 : Int) < _; decide), _, rfl, _, rfl, _, _, rfl, rfl, (by show (0 : Int) < _; decide), _, _, rfl, rfl, ?_⟩
  refine ⟨_, rfl, _, _, rfl, rfl, (by show (0 : Int) < _; decide), _, _, rfl, rfl, .inl ⟨by decide, by decide⟩, _, rfl, _, _, rfl, rfl, (by show (0 : Int) < _; decide), _, _, rfl, rfl, _, _, rfl, rfl, ⟨by decide, by decide, by decide⟩, ?_⟩
  refine ⟨by show 5 ≤ sizeLine; decide, fun p1 hp1 => ?_⟩
  refine ⟨_, rfl, _, rfl, _, rfl, by show 1 ≤ sizeLine; decide, fun p2 hp2 => ?_⟩
  have g1 := same_new hp1 (.lst [V.int (n % 3), .int (n % 1000), .int (-1 - n % 9), .int (1000003 * (n % 2) + n % 5), .int (10 ^ 20)])
  refine ⟨p1, p2, _, _, rfl, rfl, same_new hp2 _ _ _ upd_same, upd_same, by show 6 ≤ sizeLine; decide, fun p3 hp3 => ?_⟩
  refine ⟨_, rfl, _, _, rfl, rfl, ⟨by decide, by decide⟩, _, _, rfl, rfl, (by show (0 : Int) < _; decide), ?_⟩
  have hj := mod_in (n / 1000) (n := 6) (by decide)
  have e3 := mod_in n (n := 3) (by decide)
  have e1 := mod_in n (n := 1000) (by decide)
  have e9 := mod_in n (n := 9) (by decide)
  have e2 := mod_in n (n := 2) (by decide)
  have e5 := mod_in n (n := 5) (by decide)
  obtain ⟨c, hc, ha⟩ := at_int (ys := [n % 3, n % 1000, -1 - n % 9, 1000003 * (n % 2) + n % 5, 10 ^ 20, -n]) hj.1 hj.2
  refine ⟨p3, _, _, _, rfl, rfl, SqL.of upd_same, ha, q c _ (g1.trans ((same_new hp2 _).trans (same_new hp3 _))) ?_⟩
  simp only [List.mem_cons, List.not_mem_nil, or_false] at hc
  rcases hc with rfl | rfl | rfl | rfl | rfl | rfl <;> omega
end

def spName (K : PySem.W.Frag) : Sp := fun vs H Q _ => ∃ (a : Addr) (k : Int), vs = [.ref a, .int k] ∧ Ints K H a ∧ ∀ (x : Str) (H' : Hp), Same H H' → PyData.strOk x = true → Q (.str x) H'
abbrev s_name : Stmt := topS 38
theorem sc_name : FnScope ["_law_script", "_law_which", "_law_letters", "_law_number_here", "_law_some", "_law_size", "_law_at", "_law_k"] ["_law_script", "_law_which"] (defScope s_name) := ⟨rfl, rfl, rfl, by decide +kernel, rfl, by decide +kernel, by decide +kernel⟩
section
variable {P : Program} {w : World} {K : PySem.W.Frag} {mg : Str → Option Value} {base : Heap} {f f1 f2 f3 f4 f5 f6 f7 f8 : Addr} {fd fd1 fd2 fd3 fd4 fd5 fd6 fd7 fd8 : FuncData}
theorem abc_len : (("abcdefghijklmnopqrstuvwxyz" : Str).cps.toList.length : Int) = 26 := by decide +kernel
theorem abc_line : ("abcdefghijklmnopqrstuvwxyz" : Str).length ≤ sizeLine := by decide +kernel
theorem abc_ok : ∀ c ∈ ("abcdefghijklmnopqrstuvwxyz" : Str).cps.toList, PyData.strOk ⟨#[c]⟩ = true := by decide +kernel
theorem abc_at (x : Int) : ∃ c, PyData.strOk ⟨#[c]⟩ = true ∧ atI ("abcdefghijklmnopqrstuvwxyz" : Str).cps.toList (x % 26) = some c := by
  have h := mod_in x (n := 26) (by decide)
  obtain ⟨c, hc, e⟩ := at_cod (ys := ("abcdefghijklmnopqrstuvwxyz" : Str).cps.toList) h.1 (by rw [abc_len]; exact h.2)
  exact ⟨c, abc_ok c hc, e⟩
theorem ok_app {x y : Str} (hx : PyData.strOk x = true) (hy : PyData.strOk y = true) : PyData.strOk (x ++ y) = true := by
  unfold PyData.strOk at hx hy ⊢
  show (x.cps ++ y.cps).all _ = true
  rw [Array.all_append, hx, hy]
  rfl
theorem ok_join {y : Str} (hy : PyData.strOk y = true) : ∀ xs : List Str, (∀ x ∈ xs, PyData.strOk x = true) → PyData.strOk (Txt.join y xs) = true := by
  have main : ∀ xs : List Str, (∀ x ∈ xs, PyData.strOk x = true) → PyData.strOk (Str.join y xs) = true := by
    intro xs
    induction xs with
    | nil => intro _; exact (show PyData.strOk Str.empty = true by decide +kernel)
    | cons a r ih =>
      intro h
      cases r with
      | nil => exact h a List.mem_cons_self
      | cons b r => exact ok_app (ok_app (h a List.mem_cons_self) hy) (ih fun x hx => h x (List.mem_cons_of_mem _ hx))
  intro xs h
  rw [TL.join_eq]
  exact main xs h
theorem words_ok : ∀ y ∈ (["num", "name", "let", "quote", "hole", "run", "use", "lift"] : List Str), PyData.strOk y = true := by decide +kernel
theorem sum_ones : ∀ ys : List Str, (∀ y ∈ ys, y.length = 1) → (ys.map (·.length)).sum = ys.length
  | [], _ => rfl
  | y :: r, h => by
    rw [List.map_cons, List.sum_cons, sum_ones r fun z hz => h z (List.mem_cons_of_mem _ hz), h y List.mem_cons_self, List.length_cons]
    omega
theorem ok_name (F : Fun K "_law_name" "_law_name" s_name f fd) (T : Txt mg) (C_law_mixed : Cal P w K mg base "_law_mixed" ["_law_script", "_law_k"] 2 (spMixed K) f1 fd1) : FnOk P w K mg base CX0 3 f fd ["_law_script", "_law_which"] (spName K) := by
  refine F.ok sc_name (fun vs H Q E h => ?_) (fun cdv A outer s H vs Q E hr h => ?_)
  · obtain ⟨a, k, rfl, _⟩ := h
    rfl
  obtain ⟨a, k, rfl, hI, q⟩ := h
  refine ⟨_, (pss_cons (ps_set (i := 2) sc_name.nd rfl (Or.inr rfl) pe_str)
      (pss_cons (ps_set (i := 3) sc_name.nd rfl (Or.inr rfl) (pe_call C_law_mixed.ok (hr.mono (by first | decide | omega)) rfl C_law_mixed.m C_law_mixed.kp C_law_mixed.b .nil pass0 (pa_cons (pv 0) (pa_cons pe_int pa_nil))))
      (pss_cons (ps_if (pt_k (PW.pt (pw_and (pt_cmpR op_eq (pe_op op_mod (pv 3) pe_int) pe_int (nomark _)) (pw_and1 (pt_cmpR op_eq (pe_op op_mod (pe_op op_fdiv (pv 3) pe_int) pe_int) pe_int (nomark _)))))) (pss_cons (ps_set (i := 4) sc_name.nd rfl (Or.inl rfl) (pe_lst (pa_cons pe_str (pa_cons pe_str (pa_cons pe_str (pa_cons pe_str (pa_cons pe_str (pa_cons pe_str (pa_cons pe_str (pa_cons pe_str pa_nil))))))))))
      (pss_one (ps_ret (pe_ix ix_list (pv 4) (pe_op op_mod (pe_op op_add (pe_op op_fdiv (pv 3) pe_int) (pv 1)) pe_int) (fun _ _ => rfl))))) pss_nil)
      (pss_cons (ps_set (i := 5) sc_name.nd rfl (Or.inl rfl) (pe_op op_add pe_int (pe_op op_mod (pv 3) pe_int)))
      (pss_cons (ps_setLc (i := 4) (own := [("_law_k", 7)]) (g := (gName 7)) (tt := tYes) (by rfl) sc_name.nd rfl rfl (sw_true rfl rfl rfl (by decide +kernel)) (pi_range1 (by rfl) T.range (pa_cons (pv 5) pa_nil)) (blkOk_by (own := [("_law_k", 7)]) (N := ["_law_script", "_law_which", "_law_letters", "_law_number_here", "_law_some", "_law_size", "_law_at", "_law_k"]) (sc := defScope s_name) (by decide +kernel)) (fun _ _ _ _ _ => (pg_name (i := 7) sc_name.nd rfl (Or.inl rfl))) (fun _ _ _ _ _ => pts_nil) (fun _ _ _ _ _ => (pe_ix ix_str (pv 2) (pe_op op_mod (pe_op op_add (pe_op op_fdiv (pv 3) pe_int) (pe_op op_mul pe_int (pv 7))) pe_int) (fun _ _ => rfl))))
      (pss_cons (ps_set (i := 6) sc_name.nd rfl (Or.inl rfl) (pe_op op_mod (pe_op op_fdiv (pv 3) pe_int) (pv 5)))
      (pss_cons (ps_asg (pe_ix ix_str (pv 2) (pe_op op_mod (pe_op op_add (pe_op op_add (pe_op op_fdiv (pv 3) pe_int) (pe_op op_mul pe_int (pv 6))) (pv 1)) pe_int) (fun _ _ => rfl)) (pg_sub (pv 4) (pv 6) set_list))
      (pss_one (ps_ret (pe_join pe_str (pv 4))))))))))), ?_⟩
  refine ⟨_, rfl, a, 0, rfl, hI, Int.le_refl 0, fun n h0 h1 => ?_⟩
  refine ⟨fun _ H' => H = H', ?_, ?_⟩
  · refine ⟨_, rfl, _, _, rfl, rfl, (by show (0 : Int) < _; decide), rfl, _, rfl, ?_⟩
    exact ite2 (fun _ => ⟨_, rfl, _, _, rfl, rfl, ⟨by decide, by decide⟩, _, _, rfl, rfl, (by show (0 : Int) < _; decide), rfl, _, rfl, rfl⟩) fun _ => rfl
  rintro b _ rfl
  cases b with
  | true =>
    refine iteT ⟨by show 8 ≤ sizeLine; decide, fun p hp => ?_⟩
    obtain ⟨c, hc, e⟩ := at_str (ys := ["num", "name", "let", "quote", "hole", "run", "use", "lift"]) (mod_in (n / 16 + k) (n := 8) (by decide)).1 (mod_in (n / 16 + k) (n := 8) (by decide)).2
    exact ⟨_, rfl, _, rfl, _, _, rfl, rfl, ⟨by decide, by decide⟩, _, rfl, _, _, rfl, rfl, _, _, rfl, rfl, (by show (0 : Int) < _; decide), p, _, _, _, rfl, rfl, SqL.of upd_same, e, q _ _ (same_new hp _) (words_ok c hc)⟩
  | false =>
    refine iteF ?_
    refine ⟨_, rfl, _, _, rfl, rfl, (by show (0 : Int) < _; decide), _, _, rfl, rfl, ?_⟩
    have h8 := mod_in n (n := 8) (by decide)
    refine ⟨_, rfl, 1 + n % 8, rfl, by omega, by omega, fun D hD => ?_⟩
    refine lc_range (lo := 0) (n := (1 + n % 8).toNat) (fun i H' => Same H H' ∧ ∃ ys : List Str, H' D = some (.lst (ys.map V.str)) ∧ ys.length = i ∧ ∀ y ∈ ys, y.length = 1 ∧ PyData.strOk y = true) ⟨same_new hD _, [], upd_same, rfl, fun _ h => by cases h⟩ ?_ ?_
    · rintro i H' hi ⟨g, ys, hy, hl, h1⟩
      obtain ⟨c, ho, e⟩ := abc_at (n / 64 + 5 * (0 + (i : Int)))
      refine ⟨rfl, ?_⟩
      refine ⟨_, rfl, _, rfl, _, _, rfl, rfl, ⟨by decide, by decide⟩, _, rfl, _, _, rfl, rfl, .inl ⟨by decide, by decide⟩, _, _, rfl, rfl, _, _, rfl, rfl, (by show (0 : Int) < _; decide), _, _, _, rfl, rfl, abc_line, e, ?_⟩
      refine ⟨_, hy, small1000 (by rw [List.length_map]; omega), fun b o q => ?_, ys ++ [⟨#[c]⟩], ?_, by rw [List.length_append, hl]; rfl, fun y hy => ?_⟩
      · rw [upd_ne (ne_of_none q hD)]
        exact g b o q
      · rw [upd_same, List.map_append]
        rfl
      · rcases List.mem_append.mp hy with z | z
        · exact h1 y z
        · rw [List.mem_singleton.mp z]
          exact ⟨rfl, ho⟩
    · rintro H' ⟨g, ys, hy, hl, h1⟩
      refine ⟨_, rfl, _, _, rfl, rfl, ⟨by decide, by decide⟩, _, rfl, _, _, rfl, rfl, (by show (0 : Int) < _; omega), ?_⟩
      have hm := mod_in (n / 8) (n := 1 + n % 8) (by omega)
      obtain ⟨c, ho, e⟩ := abc_at (n / 64 + 5 * (n / 8 % (1 + n % 8)) + k)
      refine ⟨_, rfl, _, rfl, _, _, rfl, rfl, ⟨by decide, by decide⟩, _, rfl, _, _, rfl, rfl, .inl ⟨by decide, by decide⟩, _, _, rfl, rfl, _, rfl, _, _, rfl, rfl, _, _, rfl, rfl, (by show (0 : Int) < _; decide), _, _, _, rfl, rfl, abc_line, e, ?_⟩
      refine ⟨_, rfl, _, rfl, D, _, _, (n / 8 % (1 + n % 8)).toNat, rfl, rfl, hy, ixN_lt hm.1 (by rw [List.length_map]; omega), ?_⟩
      have h2 : ∀ y ∈ ys.set (n / 8 % (1 + n % 8)).toNat ⟨#[c]⟩, y.length = 1 ∧ PyData.strOk y = true := fun y hy => by
        rcases List.mem_or_eq_of_mem_set hy with z | z
        · exact h1 y z
        · rw [z]
          exact ⟨rfl, ho⟩
      refine ⟨⟨_, rfl⟩, _, rfl, _, D, ys.set (n / 8 % (1 + n % 8)).toNat ⟨#[c]⟩, rfl, rfl, .inl (SqL.of (by rw [upd_same, List.map_set])), ?_, q _ _ (fun b o z => by rw [upd_ne (ne_of_none z hD)]; exact g b o z) (ok_join (by decide +kernel) _ fun y hy => (h2 y hy).2)⟩
      rw [sum_ones _ fun y hy => (h2 y hy).1, List.length_set, show ("" : Str).length = 0 by decide +kernel]
      omega
end

/-! ### terms as data -/
inductive Bin where
  | sum | product | less
  deriving DecidableEq
inductive Un where
  | quote | hole | lift | run
  deriving DecidableEq
def Bin.word : Bin → Str
  | .sum => "sum"
  | .product => "product"
  | .less => "less"
def Un.word : Un → Str
  | .quote => "quote"
  | .hole => "hole"
  | .lift => "lift"
  | .run => "run"
/-- number (false), piece (true) -/
def kindS : Bool → Str
  | false => "number"
  | true => "piece"
inductive Tm where
  | num (n : Int)
  | name (x : Str)
  | bin (o : Bin) (a b : Tm)
  | cond (c a b : Tm)
  | letx (x : Str) (a b : Tm)
  | turns (n : Int) (x : Str) (a b : Tm)
  | deff (f x : Str) (k : Bool) (a b : Tm)
  | use (f : Str) (a : Tm)
  | un (o : Un) (a : Tm)
def Tm.head : Tm → List V
  | .num n => [.str "num", .int n]
  | .name x => [.str "name", .str x]
  | .bin o _ _ => [.str o.word]
  | .cond _ _ _ => [.str "when"]
  | .letx x _ _ => [.str "let", .str x]
  | .turns n x _ _ => [.str "turns", .int n, .str x]
  | .deff f x k _ _ => [.str "def", .str f, .str x, .str (kindS k)]
  | .use f _ => [.str "use", .str f]
  | .un o _ => [.str o.word]
def Tm.parts : Tm → List Tm
  | .num _ => []
  | .name _ => []
  | .bin _ a b => [a, b]
  | .cond c a b => [c, a, b]
  | .letx _ a b => [a, b]
  | .turns _ _ a b => [a, b]
  | .deff _ _ _ a b => [a, b]
  | .use _ a => [a]
  | .un _ a => [a]
def Tm.size : Tm → Nat
  | .num _ => 1
  | .name _ => 1
  | .bin _ a b => 1 + (a.size + b.size)
  | .cond c a b => 1 + (c.size + (a.size + b.size))
  | .letx _ a b => 1 + (a.size + b.size)
  | .turns _ _ a b => 1 + (a.size + b.size)
  | .deff _ _ _ a b => 1 + (a.size + b.size)
  | .use _ a => 1 + a.size
  | .un _ a => 1 + a.size
def Tm.deep : Tm → Nat
  | .num _ => 1
  | .name _ => 1
  | .bin _ a b => 1 + max a.deep b.deep
  | .cond c a b => 1 + max c.deep (max a.deep b.deep)
  | .letx _ a b => 1 + max a.deep b.deep
  | .turns _ _ a b => 1 + max a.deep b.deep
  | .deff _ _ _ a b => 1 + max a.deep b.deep
  | .use _ a => 1 + a.deep
  | .un _ a => 1 + a.deep
/-- turns from 0 to 9, names of signs -/
def Tm.Ok : Tm → Prop
  | .num _ => True
  | .name x => PyData.strOk x = true
  | .bin _ a b => a.Ok ∧ b.Ok
  | .cond c a b => c.Ok ∧ a.Ok ∧ b.Ok
  | .letx x a b => PyData.strOk x = true ∧ a.Ok ∧ b.Ok
  | .turns n x a b => ((0 ≤ n ∧ n ≤ 9) ∧ PyData.strOk x = true) ∧ a.Ok ∧ b.Ok
  | .deff f x _ a b => (PyData.strOk f = true ∧ PyData.strOk x = true) ∧ a.Ok ∧ b.Ok
  | .use f a => PyData.strOk f = true ∧ a.Ok
  | .un _ a => a.Ok
/-- the heap bears the term at v -/
def TmAt (H : Hp) : Tm → V → Prop
  | .num n, v => ∃ p, v = .ref p ∧ H p = some (.tup [.str "num", .int n])
  | .name x, v => ∃ p, v = .ref p ∧ H p = some (.tup [.str "name", .str x])
  | .bin o a b, v => ∃ p x y, v = .ref p ∧ H p = some (.tup [.str o.word, x, y]) ∧ TmAt H a x ∧ TmAt H b y
  | .cond c a b, v => ∃ p x y z, v = .ref p ∧ H p = some (.tup [.str "when", x, y, z]) ∧ TmAt H c x ∧ TmAt H a y ∧ TmAt H b z
  | .letx n a b, v => ∃ p x y, v = .ref p ∧ H p = some (.tup [.str "let", .str n, x, y]) ∧ TmAt H a x ∧ TmAt H b y
  | .turns k n a b, v => ∃ p x y, v = .ref p ∧ H p = some (.tup [.str "turns", .int k, .str n, x, y]) ∧ TmAt H a x ∧ TmAt H b y
  | .deff f n k a b, v => ∃ p x y, v = .ref p ∧ H p = some (.tup [.str "def", .str f, .str n, .str (kindS k), x, y]) ∧ TmAt H a x ∧ TmAt H b y
  | .use f a, v => ∃ p x, v = .ref p ∧ H p = some (.tup [.str "use", .str f, x]) ∧ TmAt H a x
  | .un o a, v => ∃ p x, v = .ref p ∧ H p = some (.tup [.str o.word, x]) ∧ TmAt H a x
/-- tuples stay -/
def Tups (H H' : Hp) : Prop := ∀ b xs, H b = some (.tup xs) → H' b = some (.tup xs)
theorem Tups.of_same {H H' : Hp} (h : Same H H') : Tups H H' := fun b _ q => h b _ q
theorem Tups.of_but {H H' : Hp} {st : Addr} {ys : List V} (h : But st H H') (hs : H st = some (.lst ys)) : Tups H H' := fun b _ q => h b _ (ne_of q hs (by intro z; cases z)) q
theorem Tups.trans {H H1 H2 : Hp} (a : Tups H H1) (b : Tups H1 H2) : Tups H H2 := fun c xs h => b c xs (a c xs h)
theorem TmAt.mono {H H' : Hp} (e : Tups H H') : ∀ {t : Tm} {v : V}, TmAt H t v → TmAt H' t v
  | .num _, _, ⟨p, h, q⟩ => ⟨p, h, e _ _ q⟩
  | .name _, _, ⟨p, h, q⟩ => ⟨p, h, e _ _ q⟩
  | .bin _ _ _, _, ⟨p, x, y, h, q, a, b⟩ => ⟨p, x, y, h, e _ _ q, TmAt.mono e a, TmAt.mono e b⟩
  | .cond _ _ _, _, ⟨p, x, y, z, h, q, a, b, c⟩ => ⟨p, x, y, z, h, e _ _ q, TmAt.mono e a, TmAt.mono e b, TmAt.mono e c⟩
  | .letx _ _ _, _, ⟨p, x, y, h, q, a, b⟩ => ⟨p, x, y, h, e _ _ q, TmAt.mono e a, TmAt.mono e b⟩
  | .turns _ _ _ _, _, ⟨p, x, y, h, q, a, b⟩ => ⟨p, x, y, h, e _ _ q, TmAt.mono e a, TmAt.mono e b⟩
  | .deff _ _ _ _ _, _, ⟨p, x, y, h, q, a, b⟩ => ⟨p, x, y, h, e _ _ q, TmAt.mono e a, TmAt.mono e b⟩
  | .use _ _, _, ⟨p, x, h, q, a⟩ => ⟨p, x, h, e _ _ q, TmAt.mono e a⟩
  | .un _ _, _, ⟨p, x, h, q, a⟩ => ⟨p, x, h, e _ _ q, TmAt.mono e a⟩
/-- the parts of a term, one by one -/
def TmsAt (H : Hp) : List Tm → List V → Prop
  | [], [] => True
  | t :: ts, v :: vs => TmAt H t v ∧ TmsAt H ts vs
  | _, _ => False
theorem TmsAt.mono {H H' : Hp} (e : Tups H H') : ∀ {ts : List Tm} {vs : List V}, TmsAt H ts vs → TmsAt H' ts vs
  | [], [], _ => True.intro
  | _ :: _, _ :: _, ⟨h, r⟩ => ⟨h.mono e, TmsAt.mono e r⟩
  | [], _ :: _, h => h.elim
  | _ :: _, [], h => h.elim
theorem TmsAt.len {H : Hp} : ∀ {ts : List Tm} {vs : List V}, TmsAt H ts vs → vs.length = ts.length
  | [], [], _ => rfl
  | _ :: _, _ :: _, ⟨_, r⟩ => congrArg (· + 1) (TmsAt.len r)
  | [], _ :: _, h => h.elim
  | _ :: _, [], h => h.elim
/-- a term as a tuple: its head, then its parts -/
theorem TmAt.open {H : Hp} {t : Tm} {v : V} (h : TmAt H t v) : ∃ p vs, v = .ref p ∧ H p = some (.tup (t.head ++ vs)) ∧ TmsAt H t.parts vs := by
  cases t with
  | num n => obtain ⟨p, e, q⟩ := h; exact ⟨p, [], e, q, True.intro⟩
  | name n => obtain ⟨p, e, q⟩ := h; exact ⟨p, [], e, q, True.intro⟩
  | bin o a b => obtain ⟨p, x, y, e, q, ha, hb⟩ := h; exact ⟨p, [x, y], e, q, ha, hb, True.intro⟩
  | cond c a b => obtain ⟨p, x, y, z, e, q, ha, hb, hc⟩ := h; exact ⟨p, [x, y, z], e, q, ha, hb, hc, True.intro⟩
  | letx n a b => obtain ⟨p, x, y, e, q, ha, hb⟩ := h; exact ⟨p, [x, y], e, q, ha, hb, True.intro⟩
  | turns k n a b => obtain ⟨p, x, y, e, q, ha, hb⟩ := h; exact ⟨p, [x, y], e, q, ha, hb, True.intro⟩
  | deff f n k a b => obtain ⟨p, x, y, e, q, ha, hb⟩ := h; exact ⟨p, [x, y], e, q, ha, hb, True.intro⟩
  | use f a => obtain ⟨p, x, e, q, ha⟩ := h; exact ⟨p, [x], e, q, ha, True.intro⟩
  | un o a => obtain ⟨p, x, e, q, ha⟩ := h; exact ⟨p, [x], e, q, ha, True.intro⟩
theorem TmAt.close {H : Hp} {t : Tm} {p : Addr} {vs : List V} (q : H p = some (.tup (t.head ++ vs))) (h : TmsAt H t.parts vs) : TmAt H t (.ref p) := by
  cases t with
  | num n => match vs, h with | [], _ => exact ⟨p, rfl, q⟩
  | name n => match vs, h with | [], _ => exact ⟨p, rfl, q⟩
  | bin o a b => match vs, h with | [x, y], ⟨ha, hb, _⟩ => exact ⟨p, x, y, rfl, q, ha, hb⟩
  | cond c a b => match vs, h with | [x, y, z], ⟨ha, hb, hc, _⟩ => exact ⟨p, x, y, z, rfl, q, ha, hb, hc⟩
  | letx n a b => match vs, h with | [x, y], ⟨ha, hb, _⟩ => exact ⟨p, x, y, rfl, q, ha, hb⟩
  | turns k n a b => match vs, h with | [x, y], ⟨ha, hb, _⟩ => exact ⟨p, x, y, rfl, q, ha, hb⟩
  | deff f n k a b => match vs, h with | [x, y], ⟨ha, hb, _⟩ => exact ⟨p, x, y, rfl, q, ha, hb⟩
  | use f a => match vs, h with | [x], ⟨ha, _⟩ => exact ⟨p, x, rfl, q, ha⟩
  | un o a => match vs, h with | [x], ⟨ha, _⟩ => exact ⟨p, x, rfl, q, ha⟩
theorem sz (n : Nat) (h : n ≤ 1000 := by decide) : n ≤ sizeLine := small h
theorem Tm.deep_le : ∀ t : Tm, t.deep ≤ t.size
  | .num _ => Nat.le_refl _
  | .name _ => Nat.le_refl _
  | .bin _ a b => by have := Tm.deep_le a; have := Tm.deep_le b; simp only [Tm.deep, Tm.size]; omega
  | .cond c a b => by have := Tm.deep_le c; have := Tm.deep_le a; have := Tm.deep_le b; simp only [Tm.deep, Tm.size]; omega
  | .letx _ a b => by have := Tm.deep_le a; have := Tm.deep_le b; simp only [Tm.deep, Tm.size]; omega
  | .turns _ _ a b => by have := Tm.deep_le a; have := Tm.deep_le b; simp only [Tm.deep, Tm.size]; omega
  | .deff _ _ _ a b => by have := Tm.deep_le a; have := Tm.deep_le b; simp only [Tm.deep, Tm.size]; omega
  | .use _ a => by have := Tm.deep_le a; simp only [Tm.deep, Tm.size]; omega
  | .un _ a => by have := Tm.deep_le a; simp only [Tm.deep, Tm.size]; omega

/-! ### the words -/
inductive W where
  | num | name | sum | product | less | «when» | «let» | turns | «def» | use | quote | hole | lift | run
  deriving DecidableEq
def W.str : W → Str
  | .num => "num"
  | .name => "name"
  | .sum => "sum"
  | .product => "product"
  | .less => "less"
  | .when => "when"
  | .let => "let"
  | .turns => "turns"
  | .def => "def"
  | .use => "use"
  | .quote => "quote"
  | .hole => "hole"
  | .lift => "lift"
  | .run => "run"
theorem W.inj : ∀ {a b : W}, a.str = b.str → a = b := by
  intro a b
  cases a <;> cases b <;> first | (intro _; rfl) | (intro h; exact absurd h (by decide +kernel))
def Bin.w : Bin → W
  | .sum => .sum
  | .product => .product
  | .less => .less
def Un.w : Un → W
  | .quote => .quote
  | .hole => .hole
  | .lift => .lift
  | .run => .run
def Tm.w : Tm → W
  | .num _ => .num
  | .name _ => .name
  | .bin o _ _ => o.w
  | .cond _ _ _ => .when
  | .letx _ _ _ => .let
  | .turns _ _ _ _ => .turns
  | .deff _ _ _ _ _ => .def
  | .use _ _ => .use
  | .un o _ => o.w
theorem Bin.word_eq (o : Bin) : o.word = o.w.str := by cases o <;> rfl
theorem Un.word_eq (o : Un) : o.word = o.w.str := by cases o <;> rfl
theorem Tm.head_eq (t : Tm) : t.head = .str t.w.str :: t.head.tail := by
  cases t with
  | bin o _ _ => show [V.str o.word] = [V.str o.w.str]; rw [o.word_eq]
  | un o _ => show [V.str o.word] = [V.str o.w.str]; rw [o.word_eq]
  | _ => rfl
theorem w_num {t : Tm} (h : t.w = .num) : ∃ n, t = .num n := by
  cases t with
  | num n => exact ⟨_, rfl⟩
  | bin o _ _ => cases o <;> cases h
  | un o _ => cases o <;> cases h
  | _ => cases h
theorem w_name {t : Tm} (h : t.w = .name) : ∃ x, t = .name x := by
  cases t with
  | name x => exact ⟨_, rfl⟩
  | bin o _ _ => cases o <;> cases h
  | un o _ => cases o <;> cases h
  | _ => cases h
theorem w_let {t : Tm} (h : t.w = .let) : ∃ x a b, t = .letx x a b := by
  cases t with
  | letx x a b => exact ⟨_, _, _, rfl⟩
  | bin o _ _ => cases o <;> cases h
  | un o _ => cases o <;> cases h
  | _ => cases h
theorem w_turns {t : Tm} (h : t.w = .turns) : ∃ n x a b, t = .turns n x a b := by
  cases t with
  | turns n x a b => exact ⟨_, _, _, _, rfl⟩
  | bin o _ _ => cases o <;> cases h
  | un o _ => cases o <;> cases h
  | _ => cases h
theorem w_def {t : Tm} (h : t.w = .def) : ∃ f x k a b, t = .deff f x k a b := by
  cases t with
  | deff f x k a b => exact ⟨_, _, _, _, _, rfl⟩
  | bin o _ _ => cases o <;> cases h
  | un o _ => cases o <;> cases h
  | _ => cases h
theorem w_use {t : Tm} (h : t.w = .use) : ∃ f a, t = .use f a := by
  cases t with
  | use f a => exact ⟨_, _, rfl⟩
  | bin o _ _ => cases o <;> cases h
  | un o _ => cases o <;> cases h
  | _ => cases h
theorem w_when {t : Tm} (h : t.w = .when) : ∃ c a b, t = .cond c a b := by
  cases t with
  | cond c a b => exact ⟨_, _, _, rfl⟩
  | bin o _ _ => cases o <;> cases h
  | un o _ => cases o <;> cases h
  | _ => cases h
/-- a word as it is asked for -/
theorem str_w {t : Tm} (u : W) (h : decide (V.str t.w.str = V.str u.str) = true) : t.w = u := W.inj (V.str.inj (of_decide_eq_true h))
theorem str_nw {t : Tm} (u : W) (h : ¬ decide (V.str t.w.str = V.str u.str) = true) : t.w ≠ u := fun e => h (by rw [e]; exact decide_eq_true rfl)
theorem eqV_str (a b : Str) : eqV (.str a) (.str b) = true ↔ a = b := by
  show (a == b) = true ↔ a = b
  exact ⟨fun h => eq_of_beq h, fun h => by rw [h]; exact beq_self_eq_true b⟩
/-- a text among written texts -/
theorem inV_str {x : Str} : ∀ {ys : List Str}, inV (.str x) (ys.map V.str) = true ↔ x ∈ ys
  | [] => by constructor <;> intro h <;> cases h
  | y :: r => by
    have ih := inV_str (x := x) (ys := r)
    unfold inV at ih ⊢
    rw [List.map_cons, List.any_cons, Bool.or_eq_true, ih, eqV_str, List.mem_cons]
    exact ⟨fun h => h.elim (fun e => .inl e.symm) .inr, fun h => h.elim (fun e => .inl e.symm) .inr⟩
/-- t[k:] and t[:k] of a tuple -/
theorem slA_from {K : PySem.W.Frag} {H : Hp} {a : Addr} {xs : List V} {k : Nat} {Q : VK} (h : H a = some (.tup xs)) (hk : k ≤ xs.length) (q : ∀ p H', Same H H' → H' p = some (.tup (xs.drop k)) → Q (.ref p) H') : rSlA K (.ref a) (some (k : Int)) none H Q := by
  have e1 : HT.sIx xs.length 0 (some (k : Int)) = k := by rw [HT.sIx_nat]; exact Nat.min_eq_left hk
  have e2 : HT.sIx xs.length xs.length none = xs.length := rfl
  refine ⟨a, xs, rfl, SqT.of h, fun z => ?_, fun _ p hp => ?_⟩
  · have k0 : k = 0 := by rw [e1] at z; exact z.1
    exact q a H (Same.refl H) (by rw [k0]; exact h)
  · refine q p _ (same_new hp _) ?_
    rw [upd_same]
    unfold cutV
    rw [e1, e2, List.take_of_length_le (by rw [List.length_drop]; omega)]
theorem slA_to {K : PySem.W.Frag} {H : Hp} {a : Addr} {xs : List V} {k : Nat} {Q : VK} (h : H a = some (.tup xs)) (hk : k ≤ xs.length) (q : ∀ p H', Same H H' → H' p = some (.tup (xs.take k)) → Q (.ref p) H') : rSlA K (.ref a) none (some (k : Int)) H Q := by
  have e1 : HT.sIx xs.length xs.length (some (k : Int)) = k := by rw [HT.sIx_nat]; exact Nat.min_eq_left hk
  have e2 : HT.sIx xs.length 0 none = 0 := rfl
  refine ⟨a, xs, rfl, SqT.of h, fun z => ?_, fun _ p hp => ?_⟩
  · have k0 : k = xs.length := by rw [e1] at z; exact z.2
    exact q a H (Same.refl H) (by rw [k0, List.take_length]; exact h)
  · refine q p _ (same_new hp _) ?_
    rw [upd_same]
    unfold cutV
    rw [e1, e2, List.drop_zero, Nat.sub_zero]
theorem sqT_len {K : PySem.W.Frag} {H : Hp} {a : Addr} {xs ys : List V} (e : xs = ys) (h : SqT K H a xs) : SqT K H a ys := e ▸ h
theorem Tm.len_parts (t : Tm) : t.parts.length ≤ 3 := by
  cases t <;> simp only [Tm.parts, List.length_cons, List.length_nil] <;> omega
theorem same_sqT {K : PySem.W.Frag} {H H' : Hp} {a : Addr} {xs : List V} (e : Same H H') (h : SqT K H a xs) : SqT K H' a xs := by
  rcases h with (h | ⟨o, h⟩) | h
  · exact .inl (.inl (e _ _ h))
  · exact .inl (.inr ⟨o, e _ _ h⟩)
  · exact .inr h

/-! ### terms as plain data: == of two of them -/
def kindD (k : Bool) : PyData := .str (kindS k)
def Tm.data : Tm → PyData
  | .num n => .tuple [.str W.num.str, .int n]
  | .name x => .tuple [.str W.name.str, .str x]
  | .bin o a b => .tuple [.str o.w.str, a.data, b.data]
  | .cond c a b => .tuple [.str W.when.str, c.data, a.data, b.data]
  | .letx x a b => .tuple [.str W.let.str, .str x, a.data, b.data]
  | .turns n x a b => .tuple [.str W.turns.str, .int n, .str x, a.data, b.data]
  | .deff f x k a b => .tuple [.str W.def.str, .str f, .str x, .str (kindS k), a.data, b.data]
  | .use f a => .tuple [.str W.use.str, .str f, a.data]
  | .un o a => .tuple [.str o.w.str, a.data]
theorem W.ok : ∀ u : W, PyData.strOk u.str = true := by intro u; cases u <;> decide +kernel
theorem kindS_ok : ∀ k : Bool, PyData.strOk (kindS k) = true := by intro k; cases k <;> decide +kernel
theorem kindS_inj : ∀ {k l : Bool}, kindS k = kindS l → k = l := by
  intro k l
  cases k <;> cases l <;> first | (intro _; rfl) | (intro h; exact absurd h (by decide +kernel))
theorem Tm.data_w (t : Tm) : ∃ r, t.data = .tuple (.str t.w.str :: r) := by
  cases t <;> exact ⟨_, rfl⟩
theorem Tm.data_lay : ∀ t : Tm, t.Ok → t.data.canLay0 = true
  | .num _, _ => by simp only [Tm.data, PyData.canLay0, PyData.canLayAll0, W.ok, Bool.and_self]
  | .name _, h => by simp only [Tm.data, PyData.canLay0, PyData.canLayAll0, W.ok, show PyData.strOk _ = true from h, Bool.and_self]
  | .bin _ a b, h => by simp only [Tm.data, PyData.canLay0, PyData.canLayAll0, W.ok, Tm.data_lay a h.1, Tm.data_lay b h.2, Bool.and_self]
  | .cond c a b, h => by simp only [Tm.data, PyData.canLay0, PyData.canLayAll0, W.ok, Tm.data_lay c h.1, Tm.data_lay a h.2.1, Tm.data_lay b h.2.2, Bool.and_self]
  | .letx _ a b, h => by simp only [Tm.data, PyData.canLay0, PyData.canLayAll0, W.ok, h.1, Tm.data_lay a h.2.1, Tm.data_lay b h.2.2, Bool.and_self]
  | .turns _ _ a b, h => by simp only [Tm.data, PyData.canLay0, PyData.canLayAll0, W.ok, h.1.2, Tm.data_lay a h.2.1, Tm.data_lay b h.2.2, Bool.and_self]
  | .deff _ _ _ a b, h => by simp only [Tm.data, PyData.canLay0, PyData.canLayAll0, W.ok, kindS_ok, h.1.1, h.1.2, Tm.data_lay a h.2.1, Tm.data_lay b h.2.2, Bool.and_self]
  | .use _ a, h => by simp only [Tm.data, PyData.canLay0, PyData.canLayAll0, W.ok, h.1, Tm.data_lay a h.2, Bool.and_self]
  | .un _ a, h => by simp only [Tm.data, PyData.canLay0, PyData.canLayAll0, W.ok, Tm.data_lay a h, Bool.and_self]
theorem Tm.data_deep : ∀ t : Tm, t.data.depth ≤ t.deep
  | .num _ => by simp [Tm.data, Tm.deep, PyData.depth, PyData.depthAll]
  | .name _ => by simp [Tm.data, Tm.deep, PyData.depth, PyData.depthAll]
  | .bin _ a b => by have := Tm.data_deep a; have := Tm.data_deep b; simp only [Tm.data, Tm.deep, PyData.depth, PyData.depthAll]; omega
  | .cond c a b => by have := Tm.data_deep a; have := Tm.data_deep b; have := Tm.data_deep c; simp only [Tm.data, Tm.deep, PyData.depth, PyData.depthAll]; omega
  | .letx _ a b => by have := Tm.data_deep a; have := Tm.data_deep b; simp only [Tm.data, Tm.deep, PyData.depth, PyData.depthAll]; omega
  | .turns _ _ a b => by have := Tm.data_deep a; have := Tm.data_deep b; simp only [Tm.data, Tm.deep, PyData.depth, PyData.depthAll]; omega
  | .deff _ _ _ a b => by have := Tm.data_deep a; have := Tm.data_deep b; simp only [Tm.data, Tm.deep, PyData.depth, PyData.depthAll]; omega
  | .use _ a => by have := Tm.data_deep a; simp only [Tm.data, Tm.deep, PyData.depth, PyData.depthAll]; omega
  | .un _ a => by have := Tm.data_deep a; simp only [Tm.data, Tm.deep, PyData.depth, PyData.depthAll]; omega
theorem w_bin {t : Tm} {o : Bin} (h : t.w = o.w) : ∃ a b, t = .bin o a b := by
  cases t with
  | bin o' a b => cases o <;> cases o' <;> first | exact ⟨_, _, rfl⟩ | cases h
  | un o' _ => cases o <;> cases o' <;> cases h
  | _ => cases o <;> cases h
theorem w_un {t : Tm} {o : Un} (h : t.w = o.w) : ∃ a, t = .un o a := by
  cases t with
  | un o' a => cases o <;> cases o' <;> first | exact ⟨_, rfl⟩ | cases h
  | bin o' _ _ => cases o <;> cases o' <;> cases h
  | _ => cases o <;> cases h
theorem data_weq {t u : Tm} (h : PyData.eqv t.data u.data = true) : t.w = u.w := by
  obtain ⟨r, e⟩ := t.data_w
  obtain ⟨r', e'⟩ := u.data_w
  rw [e, e'] at h
  simp only [PyData.eqv, PyData.eqvAll, Bool.and_eq_true, beq_iff_eq] at h
  exact W.inj h.1
theorem Tm.data_eq : ∀ t u : Tm, PyData.eqv t.data u.data = true → t = u := by
  intro t
  induction t with
  | num n =>
    intro u h
    obtain ⟨m, rfl⟩ := w_num (data_weq h).symm
    simp only [Tm.data, PyData.eqv, PyData.eqvAll, Bool.and_eq_true, beq_iff_eq] at h
    rw [h.2.1]
  | name n =>
    intro u h
    obtain ⟨m, rfl⟩ := w_name (data_weq h).symm
    simp only [Tm.data, PyData.eqv, PyData.eqvAll, Bool.and_eq_true, beq_iff_eq] at h
    rw [h.2.1]
  | bin o a b iha ihb =>
    intro u h
    obtain ⟨a', b', rfl⟩ := w_bin (o := o) (data_weq h).symm
    simp only [Tm.data, PyData.eqv, PyData.eqvAll, Bool.and_eq_true, beq_iff_eq] at h
    rw [iha _ h.2.1, ihb _ h.2.2.1]
  | cond c a b ihc iha ihb =>
    intro u h
    obtain ⟨c', a', b', rfl⟩ := w_when (data_weq h).symm
    simp only [Tm.data, PyData.eqv, PyData.eqvAll, Bool.and_eq_true, beq_iff_eq] at h
    rw [ihc _ h.2.1, iha _ h.2.2.1, ihb _ h.2.2.2.1]
  | letx x a b iha ihb =>
    intro u h
    obtain ⟨x', a', b', rfl⟩ := w_let (data_weq h).symm
    simp only [Tm.data, PyData.eqv, PyData.eqvAll, Bool.and_eq_true, beq_iff_eq] at h
    rw [h.2.1, iha _ h.2.2.1, ihb _ h.2.2.2.1]
  | turns n x a b iha ihb =>
    intro u h
    obtain ⟨n', x', a', b', rfl⟩ := w_turns (data_weq h).symm
    simp only [Tm.data, PyData.eqv, PyData.eqvAll, Bool.and_eq_true, beq_iff_eq] at h
    rw [h.2.1, h.2.2.1, iha _ h.2.2.2.1, ihb _ h.2.2.2.2.1]
  | deff f x k a b iha ihb =>
    intro u h
    obtain ⟨f', x', k', a', b', rfl⟩ := w_def (data_weq h).symm
    simp only [Tm.data, PyData.eqv, PyData.eqvAll, Bool.and_eq_true, beq_iff_eq] at h
    rw [h.2.1, h.2.2.1, kindS_inj h.2.2.2.1, iha _ h.2.2.2.2.1, ihb _ h.2.2.2.2.2.1]
  | use f a iha =>
    intro u h
    obtain ⟨f', a', rfl⟩ := w_use (data_weq h).symm
    simp only [Tm.data, PyData.eqv, PyData.eqvAll, Bool.and_eq_true, beq_iff_eq] at h
    rw [h.2.1, iha _ h.2.2.1]
  | un o a iha =>
    intro u h
    obtain ⟨a', rfl⟩ := w_un (o := o) (data_weq h).symm
    simp only [Tm.data, PyData.eqv, PyData.eqvAll, Bool.and_eq_true, beq_iff_eq] at h
    rw [iha _ h.2.1]
theorem Tm.data_self (t : Tm) (h : t.Ok) : PyData.eqv t.data t.data = true := SeqAt.eqv_refl _ (t.data_lay h)
theorem Tm.shaped {t : Tm} (h : t.Ok) (hd : t.deep ≤ 60) : SeqAt.shaped t.data = true := by
  unfold SeqAt.shaped
  rw [t.data_lay h, decide_eq_true (by have := t.data_deep; omega)]
  rfl
theorem TmAt.dp {K : PySem.W.Frag} {H : Hp} : ∀ {t : Tm} {v : V}, TmAt H t v → Dp K H v t.data
  | .num _, _, ⟨p, e, q⟩ => by rw [e]; exact .tup (SqT.of q) (.cons (.str _) (.cons (.int _) .nil))
  | .name _, _, ⟨p, e, q⟩ => by rw [e]; exact .tup (SqT.of q) (.cons (.str _) (.cons (.str _) .nil))
  | .bin o _ _, _, ⟨p, x, y, e, q, a, b⟩ => by rw [e]; rw [o.word_eq] at q; exact .tup (SqT.of q) (.cons (.str _) (.cons (TmAt.dp a) (.cons (TmAt.dp b) .nil)))
  | .cond _ _ _, _, ⟨p, x, y, z, e, q, a, b, c⟩ => by rw [e]; exact .tup (SqT.of q) (.cons (.str _) (.cons (TmAt.dp a) (.cons (TmAt.dp b) (.cons (TmAt.dp c) .nil))))
  | .letx _ _ _, _, ⟨p, x, y, e, q, a, b⟩ => by rw [e]; exact .tup (SqT.of q) (.cons (.str _) (.cons (.str _) (.cons (TmAt.dp a) (.cons (TmAt.dp b) .nil))))
  | .turns _ _ _ _, _, ⟨p, x, y, e, q, a, b⟩ => by rw [e]; exact .tup (SqT.of q) (.cons (.str _) (.cons (.int _) (.cons (.str _) (.cons (TmAt.dp a) (.cons (TmAt.dp b) .nil)))))
  | .deff _ _ _ _ _, _, ⟨p, x, y, e, q, a, b⟩ => by rw [e]; exact .tup (SqT.of q) (.cons (.str _) (.cons (.str _) (.cons (.str _) (.cons (.str _) (.cons (TmAt.dp a) (.cons (TmAt.dp b) .nil))))))
  | .use _ _, _, ⟨p, x, e, q, a⟩ => by rw [e]; exact .tup (SqT.of q) (.cons (.str _) (.cons (.str _) (.cons (TmAt.dp a) .nil)))
  | .un o _, _, ⟨p, x, e, q, a⟩ => by rw [e]; rw [o.word_eq] at q; exact .tup (SqT.of q) (.cons (.str _) (.cons (TmAt.dp a) .nil))

/-! ### sizes of the parts -/
def sizes : List Tm → Nat
  | [] => 0
  | t :: r => t.size + sizes r
theorem sizes_snoc (t : Tm) : ∀ r : List Tm, sizes (r ++ [t]) = sizes r + t.size
  | [] => by show t.size + 0 = 0 + t.size; omega
  | a :: r => by show a.size + sizes (r ++ [t]) = a.size + sizes r + t.size; rw [sizes_snoc t r]; omega
theorem sizes_take : ∀ (r : List Tm) (i : Nat), sizes (r.take i) ≤ sizes r
  | [], i => by rw [List.take_nil]; exact Nat.le_refl _
  | a :: r, 0 => Nat.zero_le _
  | a :: r, i + 1 => by show a.size + sizes (r.take i) ≤ a.size + sizes r; exact Nat.add_le_add_left (sizes_take r i) _
theorem Tm.size_parts (t : Tm) : t.size = 1 + sizes t.parts := by
  cases t <;> simp only [Tm.size, Tm.parts, sizes] <;> omega
theorem Tm.Ok.part {t u : Tm} (h : t.Ok) (m : u ∈ t.parts) : u.Ok := by
  cases t with
  | num n => cases m
  | name n => cases m
  | bin o a b =>
    simp only [Tm.parts, List.mem_cons, List.not_mem_nil, or_false] at m
    rcases m with rfl | rfl
    · exact h.1
    · exact h.2
  | cond c a b =>
    simp only [Tm.parts, List.mem_cons, List.not_mem_nil, or_false] at m
    rcases m with rfl | rfl | rfl
    · exact h.1
    · exact h.2.1
    · exact h.2.2
  | letx x a b =>
    simp only [Tm.parts, List.mem_cons, List.not_mem_nil, or_false] at m
    rcases m with rfl | rfl
    · exact h.2.1
    · exact h.2.2
  | turns n x a b =>
    simp only [Tm.parts, List.mem_cons, List.not_mem_nil, or_false] at m
    rcases m with rfl | rfl
    · exact h.2.1
    · exact h.2.2
  | deff f x k a b =>
    simp only [Tm.parts, List.mem_cons, List.not_mem_nil, or_false] at m
    rcases m with rfl | rfl
    · exact h.2.1
    · exact h.2.2
  | use f a =>
    simp only [Tm.parts, List.mem_cons, List.not_mem_nil, or_false] at m
    subst m
    exact h.2
  | un o a =>
    simp only [Tm.parts, List.mem_cons, List.not_mem_nil, or_false] at m
    subst m
    exact h
theorem sizes_mem {r : List Tm} {u : Tm} : u ∈ r → u.size ≤ sizes r := by
  intro h
  induction r with
  | nil => cases h
  | cons t r ih =>
    show u.size ≤ t.size + sizes r
    rcases List.mem_cons.mp h with rfl | h
    · omega
    · have := ih h
      omega
theorem Tm.part_size {t u : Tm} (h : u ∈ t.parts) : u.size ≤ t.size := by
  have := sizes_mem h
  have := t.size_parts
  omega
theorem sizes_sum : ∀ r : List Tm, sizes r = (r.map Tm.size).sum
  | [] => rfl
  | t :: r => by show t.size + sizes r = _; rw [sizes_sum r]; rfl
theorem TmsAt.get {H : Hp} : ∀ {ts : List Tm} {vs : List V} {i : Nat} {t : Tm}, TmsAt H ts vs → ts[i]? = some t → ∃ v, vs[i]? = some v ∧ TmAt H t v
  | [], [], _, _, _, e => by simp at e
  | t :: ts, v :: vs, 0, _, ⟨h, _⟩, e => by
    simp only [List.getElem?_cons_zero, Option.some.injEq] at e
    subst e
    exact ⟨v, rfl, h⟩
  | t :: ts, v :: vs, i + 1, _, ⟨_, r⟩, e => by
    simp only [List.getElem?_cons_succ] at e
    obtain ⟨u, h1, h2⟩ := TmsAt.get r e
    exact ⟨u, by simpa using h1, h2⟩
  | [], _ :: _, _, _, h, _ => h.elim
  | _ :: _, [], _, _, h, _ => h.elim
theorem TmsAt.snoc {H : Hp} {t : Tm} {v : V} (h : TmAt H t v) : ∀ {ts : List Tm} {vs : List V}, TmsAt H ts vs → TmsAt H (ts ++ [t]) (vs ++ [v])
  | [], [], _ => ⟨h, True.intro⟩
  | _ :: _, _ :: _, ⟨a, b⟩ => ⟨a, TmsAt.snoc h b⟩
  | [], _ :: _, h => h.elim
  | _ :: _, [], h => h.elim
/-- another list is written: the terms stay -/
theorem Tups.put {H : Hp} {S : Addr} {ys zs : List V} (hS : H S = some (.lst ys)) : Tups H (upd H S (.lst zs)) := fun b xs q => by
  rw [upd_ne (ne_of q hS (by intro z; cases z))]
  exact q
theorem fn_none {P : Program} {w : World} {K : PySem.W.Frag} {mg : Str → Option Value} {base : Heap} {f : Addr} {fd : FuncData} {k : Nat} {ps : List Str} {sp : Sp} (no : ∀ vs H Q E, ¬ sp vs H Q E) : FnOk P w K mg base CX0 k f fd ps sp :=
  ⟨fun vs H Q E h => absurd h (no vs H Q E), fun A outer s H args us vs Q E _ _ _ _ h => absurd h (no vs H Q E)⟩

/-! ### a dict whose keys are tuples of any depth, its values objects: d.setdefault(k, v) -/
mutual
inductive KAt (H : Hp) : NestedKey → V → Prop
  | int (i : Int) : KAt H (.num i) (.int i)
  | str (x : Str) : KAt H (.text x) (.str x)
  | tup {a : Addr} {xs : List V} {ks : List NestedKey} : H a = some (.tup xs) → KAll H ks xs → KAt H (.tup ks) (.ref a)
inductive KAll (H : Hp) : List NestedKey → List V → Prop
  | nil : KAll H [] []
  | cons {k : NestedKey} {v : V} {ks : List NestedKey} {vs : List V} : KAt H k v → KAll H ks vs → KAll H (k :: ks) (v :: vs)
end
mutual
theorem KAt.mono {H H' : Hp} (e : Tups H H') : ∀ (k : NestedKey) (v : V), KAt H k v → KAt H' k v
  | .num _, _, h => by cases h; exact .int _
  | .text _, _, h => by cases h; exact .str _
  | .tup ks, _, h => by
    cases h with
    | tup ha hk => exact .tup (e _ _ ha) (KAll.mono e ks _ hk)
  | .none, _, h => by cases h
theorem KAll.mono {H H' : Hp} (e : Tups H H') : ∀ (ks : List NestedKey) (vs : List V), KAll H ks vs → KAll H' ks vs
  | [], _, h => by cases h; exact .nil
  | k :: ks, _, h => by
    cases h with
    | cons h1 h2 => exact .cons (KAt.mono e k _ h1) (KAll.mono e ks _ h2)
end
theorem KAll.snoc {H : Hp} {k : NestedKey} {v : V} (hk : KAt H k v) : ∀ {ks : List NestedKey} {vs : List V}, KAll H ks vs → KAll H (ks ++ [k]) (vs ++ [v])
  | _, _, .nil => .cons hk .nil
  | _, _, .cons h1 h2 => .cons h1 (KAll.snoc hk h2)
section
variable {X : Cx} {pins : List (Addr × Obj)} {σ : L2.St} {H : Hp} {s : Shared}
mutual
theorem KAt.is (I : Inv X pins σ H s) : ∀ (k : NestedKey) (v : V) (u : Value), KAt H k v → RelV v u → NestedIs s.heap k u
  | .num _, _, _, h, r => by
    cases h
    obtain ⟨t, rfl⟩ := r
    exact .int _ t
  | .text _, _, _, h, r => by
    cases h
    obtain ⟨t, rfl⟩ := r
    exact .text _ t
  | .tup ks, _, _, h, r => by
    cases h with
    | tup ha hk =>
      obtain rfl := r
      obtain ⟨its, rv, ⟨o, ho, hc, n, hd⟩, _⟩ := I.tuple (SqT.of ha)
      exact .tup ho hc hd (KAll.is I ks _ _ hk rv)
  | .none, _, _, h, _ => by cases h
theorem KAll.is (I : Inv X pins σ H s) : ∀ (ks : List NestedKey) (vs : List V) (us : List Value), KAll H ks vs → Vals vs us → NestedAll s.heap ks us
  | [], _, _, h, r => by
    cases h
    cases r
    exact .nil
  | k :: ks, _, _, h, r => by
    cases h with
    | cons h1 h2 =>
      cases r with
      | cons r1 r2 => exact .cons (KAt.is I k _ _ h1 r1) (KAll.is I ks _ _ h2 r2)
end
end
/-- an entry: its key, where the key's tuple stands, where the value stands -/
abbrev NE := List (NestedKey × Addr × Addr)
def valN (x : NestedKey × Addr × Addr) : NestedKey × Addr × Value := (x.1, x.2.1, .ref x.2.2)
def rawD (P : Program) (w : World) (d : Addr) (xs : NE) : HO := .ext fun h => (d == sysModules) = false ∧ xs.length ≤ sizeLine ∧ (xs.map (·.1)).Nodup ∧
  ∃ o es ep, h.get? d = some o ∧ o.ExactDict ∧ o.data = .dict es ep ∧ es.toList = (xs.map valN).map (entryOfKey (nestedKind P w))
/-- the dict at d has the entries xs -/
def IsNx (P : Program) (w : World) (H : Hp) (d : Addr) (xs : NE) : Prop := H d = some (rawD P w d xs) ∨ (H d = some (.dK []) ∧ xs = [])
def tNSetd (P : Program) (w : World) (td ty tx : TE) : TE := fun σ H Q => td σ H fun x H1 => ∃ d, x = .ref d ∧ (∃ xs, IsNx P w H1 d xs) ∧ ty σ H1 fun y H2 => tx σ H2 fun z H3 => ∃ (xs : NE) (k : NestedKey) (a b : Addr), IsNx P w H3 d xs ∧ y = .ref a ∧ z = .ref b ∧
  KAt H3 k y ∧ k.depth ≤ 8 ∧ (∀ e ∈ xs, KAt H3 e.1 (.ref e.2.1) ∧ e.1.depth ≤ 8) ∧ xs.length < sizeLine ∧ (∀ c b', (k, c, b') ∈ xs → Q (.ref b') H3) ∧ Q z (upd H3 d (rawD P w d (xs ++ [(k, a, b)])))
section
variable {X : Cx} {pins : List (Addr × Obj)} {σ : L2.St} {H : Hp} {s : Shared} {d : Addr} {xs : NE} {A : Around} {E : Value → Shared → Prop}
theorem isN_at (I : Inv X pins σ H s) (h : IsNx X.prog X.w H d xs) : (d == sysModules) = false ∧ xs.length ≤ sizeLine ∧ (xs.map (·.1)).Nodup ∧
    ∃ o es ep, s.heap.get? d = some o ∧ o.ExactDict ∧ o.data = .dict es ep ∧ es.toList = (xs.map valN).map (entryOfKey (nestedKind X.prog X.w)) := by
  rcases h with h | ⟨h, rfl⟩
  · exact (I.hok d _ h).1
  · obtain ⟨_, hd, vs, rel, o, es, ep, ho, he, hdat, hes, q1, q2⟩ := I.hok d _ h
    cases rel
    refine ⟨hd, Nat.zero_le _, List.Pairwise.nil, o, es, ep, ho, he, hdat, ?_⟩
    generalize es.toList = l at q1
    cases q1
    rfl
theorem isN_dict (I : Inv X pins σ H s) (h : IsNx X.prog X.w H d xs) (hk : ∀ e ∈ xs, KAt H e.1 (.ref e.2.1) ∧ e.1.depth ≤ 8) : s.heap.DictOfH (nestedKind X.prog X.w) d (xs.map valN) := by
  obtain ⟨_, _, nd, o, es, ep, ho, he, hdat, hes⟩ := isN_at I h
  refine ⟨o, es, ep, ho, he, hdat, hes, fun x hx => ?_, by rw [List.map_map]; exact nd⟩
  obtain ⟨e, he', rfl⟩ := List.mem_map.mp hx
  exact ⟨KAt.is I _ _ _ (hk e he').1 rfl, (hk e he').2⟩
theorem isN_mut (h : IsNx X.prog X.w H d xs) : Mut (H d) := by
  rcases h with h | ⟨h, _⟩ <;> rw [h] <;> exact True.intro
theorem n_setd {k : NestedKey} {a b : Addr} {Q : Value → Shared → Prop} (I : Inv X pins σ H s) (e : IsNx X.prog X.w H d xs) (hk : KAt H k (.ref a)) (hd : k.depth ≤ 8) (hks : ∀ e ∈ xs, KAt H e.1 (.ref e.2.1) ∧ e.1.depth ≤ 8) (hl : xs.length < sizeLine) (hu : A.in1.units + 8 < cLine)
    (h1 : ∀ c b', (k, c, b') ∈ xs → ∀ s' : Shared, Inv X pins σ H s' → Q (.ref b') s') (h2 : ∀ s' : Shared, Inv X pins σ (upd H d (rawD X.prog X.w d (xs ++ [(k, a, b)]))) s' → Q (.ref b) s') :
    wpAny (model X.prog X.w) A (call (.builtin "dict.setdefault") [.ref d, .ref a, .ref b]) Q E s := by
  obtain ⟨hsy, _, nd, _⟩ := isN_at I e
  refine call_setdefault_heap (knd := nestedKind X.prog X.w) (k := k) (xs := xs.map valN) hu ⟨KAt.is I _ _ _ hk rfl, hd⟩ hsy (isN_dict I e hks) (fun p hp => ?_) (fun hn h' dd hs => ?_) (by rw [List.length_map]; exact Nat.le_of_lt hl)
  · unfold atKey at hp
    cases hf : (xs.map valN).find? (fun x => decide (x.1 = k)) with
    | none =>
      rw [hf] at hp
      cases hp
    | some x =>
      rw [hf] at hp
      have hp' : x.2 = p := Option.some.inj hp
      have hx1 : x.1 = k := of_decide_eq_true (List.find?_some (p := fun x : NestedKey × Addr × Value => decide (x.1 = k)) hf)
      obtain ⟨y, hy, rfl⟩ := List.mem_map.mp (List.mem_of_find?_eq_some hf)
      rw [← hp']
      refine h1 y.2.1 y.2.2 ?_ _ (I.tok _)
      rw [← hx1]
      exact hy
  · rw [storedH_new hn] at dd
    obtain ⟨o, es, ep, ho, he, hdat, hes, _, nd'⟩ := dd
    have e1 : xs.map valN ++ [(k, a, Value.ref b)] = (xs ++ [(k, a, b)]).map valN := by rw [List.map_append]; rfl
    rw [e1] at hes nd'
    have new : ObjOk X.prog X.w (upd H d (rawD X.prog X.w d (xs ++ [(k, a, b)]))) h' d (rawD X.prog X.w d (xs ++ [(k, a, b)])) := by
      refine ⟨⟨hsy, by rw [List.length_append]; exact hl, by rw [List.map_map] at nd'; exact nd', o, es, ep, ho, he, hdat, hes⟩, ⟨o, ho⟩, ?_⟩
      rintro g1 g2 ⟨p1, p2, p3, o1, es1, ep1, q1, q⟩ kp
      exact ⟨p1, p2, p3, o1, es1, ep1, kp _ q1, q⟩
    exact h2 _ (d_write (t' := s.toks + (nestedKind X.prog X.w).draws k) I (isN_mut e) hs ⟨o, ho⟩ new)
theorem pe_nsetd {o e f : Expr} {td ty tx : TE} {apos cpos : Pos} (hu : X.A.units + 64 < cLine) (ho : PE X o td) (he : PE X e ty) (hf : PE X f tx) (m : M2 X o "setdefault" apos e f cpos) : PE X (.Call (.Attribute o "setdefault" apos) [e, f] [] cpos) (tNSetd X.prog X.w td ty tx) := by
  refine ⟨fun pins s σ H Q I h => ?_⟩
  refine wpAny_Call_method m.base m.few m.line PySem.F.plainAttrs_dict PySem.F.slot_dict_setdefault PySem.F.type_dict_setdefault (thn (ho.run pins s σ H _ I h) fun u s1 ⟨x, H1, I1, rx, d, ex, ⟨xs0, hd⟩, q1⟩ => ?_)
  subst ex
  obtain rfl : u = Value.ref d := rx
  obtain ⟨_, _, _, ob, es, ep, h1, h2, h3, _⟩ := isN_at I1 hd
  refine ⟨⟨ob, h1, h2.1⟩, fun b q => ?_, ?_⟩
  · cases q
    exact ⟨ob, h1, h2.2.1⟩
  rw [m.trees]
  refine Calls.callWith_builtin rfl (Calls.evalArgs_plain (Calls.spliced_cons (thn (he.run pins s1 σ H1 _ I1 q1) fun iv s2 ⟨y, H2, I2, ry, q2⟩ =>
    Calls.spliced_cons (thn (hf.run pins s2 σ H2 _ I2 q2) fun fv s3 ⟨z, H3, I3, rz, xs, k, a, b, hx, ey, ez, hk, hkd, hks, hl, q3, q4⟩ => Calls.spliced_nil ?_))))
  subst ey ez
  obtain rfl : iv = Value.ref a := ry
  obtain rfl : fv = Value.ref b := rz
  exact n_setd I3 hx hk hkd hks hl (by show _ + 1 + 8 < _; omega) (fun c b' hm s4 I4 => ⟨.ref b', _, I4, rfl, q3 c b' hm⟩) fun s4 I4 => ⟨.ref b, _, I4, rfl, q4⟩
end

/-! ### heads and parts by the program's table -/
def W.pos : W → Nat
  | .num => 2
  | .name => 2
  | .sum => 1
  | .product => 1
  | .less => 1
  | .when => 1
  | .let => 2
  | .turns => 3
  | .def => 4
  | .use => 2
  | .quote => 1
  | .hole => 1
  | .lift => 1
  | .run => 1
theorem Tm.head_len (t : Tm) : t.head.length = t.w.pos := by
  cases t with
  | bin o _ _ => cases o <;> rfl
  | un o _ => cases o <;> rfl
  | _ => rfl
structure KParts (K : PySem.W.Frag) (w : World) (mg : Str → Option Value) (pa : Addr) : Prop where
  m : mg "PARTS_AT" = some (.ref pa)
  is : ∀ u : W, KDct K w pa u.str (.int (u.pos : Int))
/-- head_of, parts_of -/
def spHead : Sp := fun vs H Q _ => ∃ (t : Tm) (v : V), vs = [v] ∧ TmAt H t v ∧ ∀ (r : Addr) (H' : Hp), Same H H' → H' r = some (.tup t.head) → Q (.ref r) H'
def spPartsOf : Sp := fun vs H Q _ => ∃ (t : Tm) (v : V), vs = [v] ∧ TmAt H t v ∧ ∀ (r : Addr) (ws : List V) (H' : Hp), Same H H' → H' r = some (.tup ws) → TmsAt H' t.parts ws → Q (.ref r) H'
abbrev s_head_of : Stmt := topS 10
theorem sc_head_of : FnScope ["term"] ["term"] (defScope s_head_of) := ⟨rfl, rfl, rfl, by decide +kernel, rfl, by decide +kernel, by decide +kernel⟩
abbrev s_parts_of : Stmt := topS 11
theorem sc_parts_of : FnScope ["term"] ["term"] (defScope s_parts_of) := ⟨rfl, rfl, rfl, by decide +kernel, rfl, by decide +kernel, by decide +kernel⟩
section
variable {P : Program} {w : World} {K : PySem.W.Frag} {mg : Str → Option Value} {base : Heap} {pa f f1 f2 f3 f4 f5 f6 f7 f8 : Addr} {fd fd1 fd2 fd3 fd4 fd5 fd6 fd7 fd8 : FuncData}
theorem ok_head_of (F : Fun K "head_of" "head_of" s_head_of f fd) (Z : KParts K w mg pa) : FnOk P w K mg base CX0 1 f fd ["term"] spHead := by
  refine F.ok sc_head_of (fun vs H Q E h => ?_) (fun cdv A outer s H vs Q E hr h => ?_)
  · obtain ⟨t, v, rfl, _⟩ := h
    rfl
  obtain ⟨t, v, rfl, ht, q⟩ := h
  obtain ⟨p, vs, rfl, hp, hvs⟩ := ht.open
  refine ⟨_, (pss_one (ps_ret (pe_slice sl_tupA (pv 0) po_none (po_some (pe_ix ix_kdict (pe_glob (v := V.ref pa) rfl Z.m rfl) (pe_ix ix_tup (pv 0) pe_int (fun _ _ => rfl)) (fun _ _ => rfl)))))), ?_⟩
  refine ⟨_, rfl, ?_⟩
  unfold tNoPart
  have hp' := hp
  rw [t.head_eq] at hp'
  refine ⟨_, rfl, p, _, _, _, rfl, rfl, SqT.of hp', atI_n (n := 0) rfl rfl, pa, _, _, rfl, rfl, Z.is t.w, _, rfl, ?_⟩
  rw [← t.head_len]
  show rSlA K (V.ref p) none (some ((t.head.length : Nat) : Int)) _ _
  refine slA_to hp (by rw [List.length_append]; omega) fun r H' e hr => q r H' e ?_
  rw [hr, List.take_left]
theorem ok_parts_of (F : Fun K "parts_of" "parts_of" s_parts_of f fd) (Z : KParts K w mg pa) : FnOk P w K mg base CX0 1 f fd ["term"] spPartsOf := by
  refine F.ok sc_parts_of (fun vs H Q E h => ?_) (fun cdv A outer s H vs Q E hr h => ?_)
  · obtain ⟨t, v, rfl, _⟩ := h
    rfl
  obtain ⟨t, v, rfl, ht, q⟩ := h
  obtain ⟨p, vs, rfl, hp, hvs⟩ := ht.open
  refine ⟨_, (pss_one (ps_ret (pe_slice sl_tupA (pv 0) (po_some (pe_ix ix_kdict (pe_glob (v := V.ref pa) rfl Z.m rfl) (pe_ix ix_tup (pv 0) pe_int (fun _ _ => rfl)) (fun _ _ => rfl))) po_none))), ?_⟩
  refine ⟨_, rfl, ?_⟩
  have hp' := hp
  rw [t.head_eq] at hp'
  refine ⟨_, rfl, p, _, _, _, rfl, rfl, SqT.of hp', atI_n (n := 0) rfl rfl, pa, _, _, rfl, rfl, Z.is t.w, _, rfl, ?_⟩
  unfold tNoPart
  rw [← t.head_len]
  show rSlA K (V.ref p) (some ((t.head.length : Nat) : Int)) none _ _
  refine slA_from hp (by rw [List.length_append]; omega) fun r H' e hr => q r vs H' e ?_ (hvs.mono (.of_same e))
  rw [hr, List.drop_left]
end

/-! ### the key of a term -/
def vk : V → NestedKey
  | .int i => .num i
  | .str x => .text x
  | _ => .none
theorem Tm.head_key (H : Hp) (t : Tm) : KAll H (t.head.map vk) t.head := by
  cases t with
  | num n => exact .cons (.str _) (.cons (.int _) .nil)
  | name n => exact .cons (.str _) (.cons (.str _) .nil)
  | bin o a b => exact .cons (.str _) .nil
  | cond c a b => exact .cons (.str _) .nil
  | letx n a b => exact .cons (.str _) (.cons (.str _) .nil)
  | turns k n a b => exact .cons (.str _) (.cons (.int _) (.cons (.str _) .nil))
  | deff f n k a b => exact .cons (.str _) (.cons (.str _) (.cons (.str _) (.cons (.str _) .nil)))
  | use f a => exact .cons (.str _) (.cons (.str _) .nil)
  | un o a => exact .cons (.str _) .nil
theorem Tm.head_flat (t : Tm) : NestedKey.depthAll (t.head.map vk) = 0 := by
  cases t <;> rfl
theorem depthAll_snoc (k : NestedKey) : ∀ ks : List NestedKey, NestedKey.depthAll (ks ++ [k]) = max (NestedKey.depthAll ks) k.depth
  | [] => by show max k.depth 0 = max 0 k.depth; omega
  | a :: ks => by
    show max a.depth (NestedKey.depthAll (ks ++ [k])) = max (max a.depth (NestedKey.depthAll ks)) k.depth
    rw [depthAll_snoc k ks]
    omega
theorem Tm.part_deep {t u : Tm} (h : u ∈ t.parts) : u.deep < t.deep := by
  cases t <;> simp only [Tm.parts, List.mem_cons, List.not_mem_nil, or_false] at h <;> simp only [Tm.deep]
  all_goals first
    | exact h.elim
    | (rcases h with rfl | rfl | rfl <;> omega)
    | (rcases h with rfl | rfl <;> omega)
    | (subst h; omega)
theorem TmsAt.at {H : Hp} : ∀ {ts : List Tm} {vs : List V} {i : Nat} {v : V}, TmsAt H ts vs → vs[i]? = some v → ∃ t, ts[i]? = some t ∧ TmAt H t v
  | [], [], _, _, _, e => by simp at e
  | t :: ts, v :: vs, 0, _, ⟨h, _⟩, e => by
    simp only [List.getElem?_cons_zero, Option.some.injEq] at e
    subst e
    exact ⟨t, rfl, h⟩
  | t :: ts, v :: vs, i + 1, _, ⟨_, r⟩, e => by
    simp only [List.getElem?_cons_succ] at e
    obtain ⟨u, h1, h2⟩ := TmsAt.at r e
    exact ⟨u, by simpa using h1, h2⟩
  | [], _ :: _, _, _, h, _ => h.elim
  | _ :: _, [], _, _, h, _ => h.elim
theorem TmsAt.side {H : Hp} {ts : List Tm} {vs : List V} {side : Int} (h : TmsAt H ts vs) (ne : vs ≠ []) (hs : side = 0 ∨ side = -1) : ∃ u v, u ∈ ts ∧ atI vs side = some v ∧ TmAt H u v := by
  have hl : 0 < vs.length := List.length_pos_iff.mpr ne
  rcases hs with rfl | rfl
  · obtain ⟨t, e, ht⟩ := h.at (i := 0) (List.getElem?_eq_getElem hl)
    exact ⟨t, _, List.mem_of_getElem? e, atI_n (n := 0) rfl (List.getElem?_eq_getElem hl), ht⟩
  · have hk : vs.length - 1 < vs.length := by omega
    obtain ⟨t, e, ht⟩ := h.at (i := vs.length - 1) (List.getElem?_eq_getElem hk)
    refine ⟨t, _, List.mem_of_getElem? e, ?_, ht⟩
    unfold atI ixN
    rw [if_neg (by decide), if_pos (by omega), show (-1 + (vs.length : Int)).toNat = vs.length - 1 by omega]
    exact List.getElem?_eq_getElem hk
def spEdge : Sp := fun vs H Q _ => ∃ (t : Tm) (v : V) (side : Int), vs = [v, .int side] ∧ (side = 0 ∨ side = -1) ∧ TmAt H t v ∧ t.deep ≤ 60 ∧ ∀ (r : Addr) (H' : Hp) (k : NestedKey), Same H H' → KAt H' k (.ref r) → k.depth ≤ 2 → Q (.ref r) H'
def spEnds : Sp := fun vs H Q _ => ∃ (t : Tm) (v : V), vs = [v] ∧ TmAt H t v ∧ t.deep ≤ 60 ∧ ∀ (r : Addr) (H' : Hp) (k : NestedKey), Same H H' → KAt H' k (.ref r) → k.depth ≤ 8 → Q (.ref r) H'
abbrev s_edge_of : Stmt := topS 15
theorem sc_edge_of : FnScope ["term", "side", "heads", "parts"] ["term", "side"] (defScope s_edge_of) := ⟨rfl, rfl, rfl, by decide +kernel, rfl, by decide +kernel, by decide +kernel⟩
abbrev s_ends_of : Stmt := topS 14
theorem sc_ends_of : FnScope ["term"] ["term"] (defScope s_ends_of) := ⟨rfl, rfl, rfl, by decide +kernel, rfl, by decide +kernel, by decide +kernel⟩
section
variable {P : Program} {w : World} {K : PySem.W.Frag} {mg : Str → Option Value} {base : Heap} {pa f f1 f2 f3 f4 f5 f6 f7 f8 : Addr} {fd fd1 fd2 fd3 fd4 fd5 fd6 fd7 fd8 : FuncData}
theorem ok_edge_of (F : Fun K "edge_of" "edge_of" s_edge_of f fd) (T : Txt mg) (C_head_of : Cal P w K mg base "head_of" ["term"] 1 spHead f1 fd1) (C_parts_of : Cal P w K mg base "parts_of" ["term"] 1 spPartsOf f2 fd2) :
    FnOk P w K mg base CX0 2 f fd ["term", "side"] spEdge := by
  refine F.ok sc_edge_of (fun vs H Q E h => ?_) (fun cdv A outer s H vs Q E hr h => ?_)
  · obtain ⟨t, v, side, rfl, _⟩ := h
    rfl
  obtain ⟨t, v, side, rfl, hside, ht, h60, q⟩ := h
  refine ⟨_, (pss_cons (ps_set (i := 2) sc_edge_of.nd rfl (Or.inl rfl) (pe_lst (pa_cons (pe_call C_head_of.ok (hr.mono (by first | decide | omega)) rfl C_head_of.m C_head_of.kp C_head_of.b .nil pass0 (pa_cons (pv 0) pa_nil)) pa_nil)))
      (pss_cons (ps_set (i := 3) sc_edge_of.nd rfl (Or.inl rfl) (pe_call C_parts_of.ok (hr.mono (by first | decide | omega)) rfl C_parts_of.m C_parts_of.kp C_parts_of.b .nil pass0 (pa_cons (pv 0) pa_nil)))
      (pss_cons (ps_while PassesOwn.never (pt_truth (pv 3) (by intro _; rfl)) (pss_cons (ps_expr (pe_bm PySem.F.plainAttrs_list PySem.F.slot_list_append PySem.F.type_list_append mt_append (pv 2) (pa_cons (pe_call C_head_of.ok (hr.mono (by first | decide | omega)) rfl C_head_of.m C_head_of.kp C_head_of.b .nil pass0 (pa_cons (pe_ix ix_tup (pv 3) (pv 1) (fun _ _ => rfl)) pa_nil)) pa_nil)))
      (pss_one (ps_set (i := 3) sc_edge_of.nd rfl (Or.inl rfl) (pe_call C_parts_of.ok (hr.mono (by first | decide | omega)) rfl C_parts_of.m C_parts_of.kp C_parts_of.b .nil pass0 (pa_cons (pe_ix ix_tup (pv 3) (pv 1) (fun _ _ => rfl)) pa_nil))))))
      (pss_one (ps_ret (pe_callTy call_tuple_of (by rfl) T.tuple (by decide +kernel) (pa_cons (pv 2) pa_nil))))))), ?_⟩
  refine ⟨_, rfl, t, v, rfl, ht, fun r1 H1 e1 h1 => ⟨sz 1, fun l nl => ?_⟩⟩
  have l0 : H l = none := e1.free nl
  have s1 := same_new nl (.lst [V.ref r1])
  refine ⟨_, rfl, t, v, rfl, ht.mono (.of_same (e1.trans s1)), fun r2 ws H2 e2 h2 hws => ?_⟩
  refine ⟨fun m σ H' => ∃ (u : Tm) (ws : List V) (pr : Addr) (hs : List V) (ks : List NestedKey), σ = [some v, some (.int side), some (.ref l), some (.ref pr)] ∧ Same H H' ∧ H' l = some (.lst hs) ∧ KAll H' ks hs ∧ NestedKey.depthAll ks ≤ 1 ∧
      H' pr = some (.tup ws) ∧ TmsAt H' u.parts ws ∧ m = u.deep ∧ hs.length + u.deep ≤ 61, ?_, ?_⟩
  · refine ⟨_, t, ws, r2, [.ref r1], [.tup (t.head.map vk)], rfl, e1.trans (s1.trans e2), e2 _ _ upd_same, .cons (.tup (e2 _ _ (s1 _ _ h1)) (t.head_key _)) .nil, ?_, h2, hws, rfl, by show 1 + t.deep ≤ 61; omega⟩
    show max (NestedKey.depthAll (t.head.map vk) + 1) 0 ≤ 1
    rw [t.head_flat]
    decide
  rintro m σ H' ⟨u, us, pr, hs, ks, rfl, g, hl, hk, hd, hp, hu, rfl, hz⟩
  refine ⟨_, rfl, _, .inr (.inl ⟨us, SqT.of hp, rfl⟩), ite2 (fun c => ?_) fun c => ?_⟩
  · have ne : us ≠ [] := fun z => by rw [z] at c; cases c
    obtain ⟨u1, v1, hm, ha, hv⟩ := hu.side ne hside
    have dp := Tm.part_deep hm
    refine ⟨fun σ' H' => ∃ m', m' < u.deep ∧ ∃ (u : Tm) (ws : List V) (pr : Addr) (hs : List V) (ks : List NestedKey), σ' = [some v, some (.int side), some (.ref l), some (.ref pr)] ∧ Same H H' ∧ H' l = some (.lst hs) ∧ KAll H' ks hs ∧ NestedKey.depthAll ks ≤ 1 ∧
      H' pr = some (.tup ws) ∧ TmsAt H' u.parts ws ∧ m' = u.deep ∧ hs.length + u.deep ≤ 61, fun _ _ z => z, ?_⟩
    refine ⟨_, rfl, .inl ⟨rfl, _, SqL.of hl⟩, _, rfl, _, rfl, pr, _, _, v1, rfl, rfl, SqT.of hp, ha, u1, v1, rfl, hv, fun r3 H3 e3 h3 => ?_⟩
    refine ⟨l, _, _, rfl, rfl, e3 _ _ hl, small1000 (by omega), ?_⟩
    have g3 : Same H (upd H3 l (.lst (hs ++ [V.ref r3]))) := fun b o z => by
      rw [upd_ne (ne_of_none z l0)]
      exact e3 _ _ (g _ _ z)
    have t3 : Tups H3 (upd H3 l (.lst (hs ++ [V.ref r3]))) := fun b xs z => by
      rw [upd_ne (ne_of z (e3 _ _ hl) (by intro y; cases y))]
      exact z
    have t4 : Tups H' (upd H3 l (.lst (hs ++ [V.ref r3]))) := (Tups.of_same e3).trans t3
    have l3 : upd H3 l (.lst (hs ++ [V.ref r3])) l = some (.lst (hs ++ [V.ref r3])) := upd_same
    generalize upd H3 l (.lst (hs ++ [V.ref r3])) = H4 at g3 t3 t4 l3 ⊢
    refine ⟨_, rfl, _, rfl, pr, _, _, v1, rfl, rfl, SqT.of (t4 _ _ hp), ha, u1, v1, rfl, hv.mono t4, fun r5 ws5 H5 e5 h5 hw5 => ?_⟩
    refine ⟨_, dp, u1, ws5, r5, _, ks ++ [.tup (u1.head.map vk)], rfl, g3.trans e5, e5 _ _ l3, KAll.snoc (.tup (e5 _ _ (t3 _ _ h3)) (u1.head_key _)) (KAll.mono (t4.trans (.of_same e5)) _ _ hk), ?_, h5, hw5, rfl, ?_⟩
    · rw [depthAll_snoc]
      show max _ (NestedKey.depthAll (u1.head.map vk) + 1) ≤ 1
      rw [u1.head_flat]
      omega
    · rw [List.length_append, List.length_singleton]
      omega
  · refine ⟨_, rfl, l, _, rfl, .inl ⟨SqL.of hl, fun r nr => ?_⟩⟩
    have sr := same_new nr (.tup hs)
    refine q r _ (.tup ks) (g.trans sr) (.tup upd_same (KAll.mono (.of_same sr) _ _ hk)) ?_
    show NestedKey.depthAll ks + 1 ≤ 2
    omega
theorem ok_ends_of (F : Fun K "ends_of" "ends_of" s_ends_of f fd) (C_edge_of : Cal P w K mg base "edge_of" ["term", "side"] 2 spEdge f1 fd1) : FnOk P w K mg base CX0 3 f fd ["term"] spEnds := by
  refine F.ok sc_ends_of (fun vs H Q E h => ?_) (fun cdv A outer s H vs Q E hr h => ?_)
  · obtain ⟨t, v, rfl, _⟩ := h
    rfl
  obtain ⟨t, v, rfl, ht, h60, q⟩ := h
  refine ⟨_, (pss_one (ps_ret (pe_tup (pa_cons (pe_call C_edge_of.ok (hr.mono (by first | decide | omega)) rfl C_edge_of.m C_edge_of.kp C_edge_of.b .nil pass0 (pa_cons (pv 0) (pa_cons pe_int pa_nil))) (pa_cons (pe_call C_edge_of.ok (hr.mono (by first | decide | omega)) rfl C_edge_of.m C_edge_of.kp C_edge_of.b .nil pass0 (pa_cons (pv 0) (pa_cons (pe_un un_neg pe_int) pa_nil))) pa_nil))))), ?_⟩
  refine ⟨_, rfl, t, v, 0, rfl, .inl rfl, ht, h60, fun r1 H1 k1 e1 h1 d1 => ?_⟩
  refine ⟨_, rfl, _, rfl, t, v, -1, rfl, .inr rfl, ht.mono (.of_same e1), h60, fun r2 H2 k2 e2 h2 d2 => ⟨sz 2, fun r nr => ?_⟩⟩
  have sr := same_new nr (.tup [V.ref r1, .ref r2])
  refine q r _ (.tup [k1, k2]) (e1.trans (e2.trans sr)) (.tup upd_same (.cons (KAt.mono (.of_same (e2.trans sr)) _ _ h1) (.cons (KAt.mono (.of_same sr) _ _ h2) .nil))) ?_
  show max k1.depth (max k2.depth 0) + 1 ≤ 8
  omega
end

/-! ### the table of rows: what holds of it between two calls -/
def nats (ps : List Nat) : List V := ps.map fun (n : Nat) => V.int (n : Int)
theorem nats_snoc (ps : List Nat) (k : Nat) : nats ps ++ [.int (k : Int)] = nats (ps ++ [k]) := by
  unfold nats
  rw [List.map_append]
  rfl
/-- for each part the place of its row, ahead of i -/
def PlacesOf (ts : List Tm) (i : Nat) : List Tm → List Nat → Prop
  | [], [] => True
  | t :: r, p :: ps => (p < i ∧ ts[p]? = some t) ∧ PlacesOf ts i r ps
  | _, _ => False
theorem PlacesOf.mono {ts more : List Tm} {i j : Nat} (h : i ≤ j) : ∀ {r : List Tm} {ps : List Nat}, PlacesOf ts i r ps → PlacesOf (ts ++ more) j r ps
  | [], [], _ => True.intro
  | _ :: _, _ :: _, ⟨⟨a, b⟩, c⟩ => ⟨⟨Nat.lt_of_lt_of_le a h, List.getElem?_append_left (List.getElem?_eq_some_iff.mp b).1 ▸ b⟩, PlacesOf.mono h c⟩
  | [], _ :: _, h => h.elim
  | _ :: _, [], h => h.elim
theorem PlacesOf.snoc {ts : List Tm} {i p : Nat} {t : Tm} (h1 : p < i) (h2 : ts[p]? = some t) : ∀ {r : List Tm} {ps : List Nat}, PlacesOf ts i r ps → PlacesOf ts i (r ++ [t]) (ps ++ [p])
  | [], [], _ => ⟨⟨h1, h2⟩, True.intro⟩
  | _ :: _, _ :: _, ⟨a, c⟩ => ⟨a, PlacesOf.snoc h1 h2 c⟩
  | [], _ :: _, h => h.elim
  | _ :: _, [], h => h.elim
theorem PlacesOf.len {ts : List Tm} {i : Nat} : ∀ {r : List Tm} {ps : List Nat}, PlacesOf ts i r ps → ps.length = r.length
  | [], [], _ => rfl
  | _ :: _, _ :: _, ⟨_, c⟩ => congrArg (· + 1) (PlacesOf.len c)
  | [], _ :: _, h => h.elim
  | _ :: _, [], h => h.elim
theorem rk_ : ¬ (("rows" : Str) = "known") := by decide +kernel
theorem kr_ : ¬ (("known" : Str) = "rows") := by decide +kernel
def pf (R D : Addr) : List (Str × V) := putF "known" (.ref D) (putF "rows" (.ref R) [])
theorem pf_rows (R D : Addr) : (pf R D).lookup ("rows" : Str) = some (.ref R) := by
  unfold pf
  rw [lookup_putF, if_neg rk_, lookup_putF, if_pos rfl]
theorem pf_known (R D : Addr) : (pf R D).lookup ("known" : Str) = some (.ref D) := by
  unfold pf
  rw [lookup_putF, if_pos rfl]
theorem pf_no (R D : Addr) {m : Str} (h1 : ¬ m = "known") (h2 : ¬ m = "rows") : (pf R D).lookup m = none := by
  unfold pf
  rw [lookup_putF, if_neg h1, lookup_putF, if_neg h2]
  all_goals rfl
/-- rows of the terms ts in the list at R; the lists of places are among Ps -/
def RowsAt (H : Hp) (R : Addr) (ts : List Tm) (Ps : List Addr) : Prop := ∃ rs : List V, H R = some (.lst rs) ∧ rs.length = ts.length ∧ ∀ (i : Nat) (t : Tm), ts[i]? = some t →
  ∃ (r h pl : Addr) (ps : List Nat), rs[i]? = some (.ref r) ∧ H r = some (.tup [.ref h, .ref pl]) ∧ H h = some (.tup t.head) ∧ H pl = some (.lst (nats ps)) ∧ pl ∈ Ps ∧ PlacesOf ts i t.parts ps
/-- a list of pairs of a term and its place -/
def AlikeAt (H : Hp) (L : Addr) (ts : List Tm) : Prop := ∃ items : List V, H L = some (.lst items) ∧ items.length ≤ ts.length ∧ ∀ it ∈ items, ∃ (q : Addr) (v : V) (k : Nat) (t : Tm), it = .ref q ∧ H q = some (.tup [v, .int (k : Int)]) ∧ TmAt H t v ∧ t.Ok ∧ t.deep ≤ 60 ∧ ts[k]? = some t
structure Tab (P : Program) (w : World) (C : Addr) (H : Hp) (tb R D : Addr) (ts : List Tm) (Ls Ps : List Addr) (cnt : Nat) : Prop where
  ins : ∃ dx, H tb = some (.ins C dx (pf R D))
  rows : RowsAt H R ts Ps
  dict : ∃ xs : NE, IsNx P w H D xs ∧ xs.length ≤ cnt ∧ ∀ e ∈ xs, (KAt H e.1 (.ref e.2.1) ∧ e.1.depth ≤ 8) ∧ e.2.2 ∈ Ls
  alike : ∀ L ∈ Ls, AlikeAt H L ts
  plist : ∀ p ∈ Ps, ∃ ys, H p = some (.lst ys)
  nRL : R ∉ Ls
  nRP : R ∉ Ps
  nLP : ∀ L ∈ Ls, L ∉ Ps
/-- tuples stay, and the table's own lists -/
def Keeps (R : Addr) (Ls Ps : List Addr) (H H' : Hp) : Prop := ∀ b o, H b = some o → (b = R ∨ b ∈ Ls ∨ b ∈ Ps ∨ ∃ ys, o = .tup ys) → H' b = some o
section
variable {P : Program} {w : World} {C : Addr} {H H' H1 : Hp} {tb R D : Addr} {ts ts' : List Tm} {Ls Ps Ls' Ps' : List Addr} {cnt : Nat}
theorem Keeps.tups (e : Keeps R Ls Ps H H') : Tups H H' := fun b xs h => e b _ h (.inr (.inr (.inr ⟨_, rfl⟩)))
theorem AlikeAt.keep {L : Addr} (e : Keeps R Ls Ps H H') (hL : L ∈ Ls) (h : AlikeAt H L ts) : AlikeAt H' L ts := by
  obtain ⟨items, h1, h2, h3⟩ := h
  refine ⟨items, e _ _ h1 (.inr (.inl hL)), h2, fun it hit => ?_⟩
  obtain ⟨q, v, k, t, a, b, c, d⟩ := h3 it hit
  exact ⟨q, v, k, t, a, e.tups _ _ b, c.mono e.tups, d⟩
theorem RowsAt.keep (e : Keeps R Ls Ps H H') (h : RowsAt H R ts Ps) : RowsAt H' R ts Ps := by
  obtain ⟨rs, h1, h2, h3⟩ := h
  refine ⟨rs, e _ _ h1 (.inl rfl), h2, fun i t hi => ?_⟩
  obtain ⟨r, hh, pl, ps, a, b, c, d, m, p⟩ := h3 i t hi
  exact ⟨r, hh, pl, ps, a, e.tups _ _ b, e.tups _ _ c, e _ _ d (.inr (.inr (.inl m))), m, p⟩
theorem IsNx.keep {xs : NE} (h : IsNx P w H D xs) (e : ∀ o, H D = some o → H' D = some o) : IsNx P w H' D xs := by
  rcases h with h | ⟨h, z⟩
  · exact .inl (e _ h)
  · exact .inr ⟨e _ h, z⟩
theorem IsNx.some {xs : NE} (h : IsNx P w H D xs) : ∃ o, H D = some o ∧ (∀ ys, o ≠ .lst ys) ∧ (∀ ys, o ≠ .tup ys) ∧ ∀ c d f, o ≠ .ins c d f := by
  rcases h with h | ⟨h, _⟩
  · exact ⟨_, h, fun ys z => (by unfold rawD at z; cases z), fun ys z => (by unfold rawD at z; cases z), fun c d f z => (by unfold rawD at z; cases z)⟩
  · exact ⟨_, h, fun ys z => (by cases z), fun ys z => (by cases z), fun c d f z => (by cases z)⟩
theorem Tab.keep (e : Keeps R Ls Ps H H') (i : ∀ o, H tb = some o → H' tb = some o) (d : ∀ o, H D = some o → H' D = some o) (h : Tab P w C H tb R D ts Ls Ps cnt) : Tab P w C H' tb R D ts Ls Ps cnt := by
  obtain ⟨⟨dx, hi⟩, hr, ⟨xs, hd, hl, hx⟩, ha, hp, n1, n2, n3⟩ := h
  refine ⟨⟨dx, i _ hi⟩, hr.keep e, ⟨xs, hd.keep d, hl, fun x hm => ⟨⟨KAt.mono e.tups _ _ (hx x hm).1.1, (hx x hm).1.2⟩, (hx x hm).2⟩⟩, fun L hL => (ha L hL).keep e hL, fun p hm => ?_, n1, n2, n3⟩
  obtain ⟨ys, q⟩ := hp p hm
  exact ⟨ys, e _ _ q (.inr (.inr (.inl hm)))⟩
theorem Tab.more {c : Nat} (h : Tab P w C H tb R D ts Ls Ps cnt) (l : cnt ≤ c) : Tab P w C H tb R D ts Ls Ps c := by
  obtain ⟨hi, hr, ⟨xs, hd, hl, hx⟩, ha, hp, n1, n2, n3⟩ := h
  exact ⟨hi, hr, ⟨xs, hd, Nat.le_trans hl l, hx⟩, ha, hp, n1, n2, n3⟩
theorem Keeps.of_same (e : Same H H') : Keeps R Ls Ps H H' := fun b o h _ => e b o h
theorem Tab.same (e : Same H H') (h : Tab P w C H tb R D ts Ls Ps cnt) : Tab P w C H' tb R D ts Ls Ps cnt := h.keep (.of_same e) (fun o q => e _ o q) fun o q => e _ o q
/-- a list that is none of the table's is written -/
theorem Keeps.put {x : Addr} {ys zs : List V} (hx : H x = some (.lst ys)) (n1 : x ≠ R) (n2 : x ∉ Ls) (n3 : x ∉ Ps) : Keeps R Ls Ps H (upd H x (.lst zs)) := fun b o h q => by
  rw [upd_ne ?_]
  · exact h
  · rintro rfl
    rw [hx] at h
    cases h
    rcases q with q | q | q | q
    · exact n1 q
    · exact n2 q
    · exact n3 q
    · obtain ⟨_, z⟩ := q
      cases z
/-- behind some calls: the table has more rows, nothing else has changed but its own lists and dict -/
structure Step (P : Program) (w : World) (C tb R D : Addr) (H H' : Hp) (ts : List Tm) (Ls Ps : List Addr) (ts' : List Tm) (Ls' Ps' : List Addr) (cnt' : Nat) : Prop where
  tab : Tab P w C H' tb R D ts' Ls' Ps' cnt'
  pre : ∃ more, ts' = ts ++ more
  subL : ∀ L ∈ Ls, L ∈ Ls'
  frame : ∀ b o, H b = some o → b ≠ R → b ≠ D → b ∉ Ls → H' b = some o
  newL : ∀ b ∈ Ls', b ∈ Ls ∨ H b = none
  newP : ∀ b ∈ Ps', b ∈ Ps ∨ H b = none
theorem Step.refl (h : Tab P w C H tb R D ts Ls Ps cnt) : Step P w C tb R D H H ts Ls Ps ts Ls Ps cnt := ⟨h, ⟨[], by simp⟩, fun _ h => h, fun _ _ h _ _ _ => h, fun _ h => .inl h, fun _ h => .inl h⟩
/-- what is free behind was free ahead -/
theorem Step.free {x : Addr} (a : Step P w C tb R D H H1 ts Ls Ps ts' Ls' Ps' cnt) (q : H1 x = none) : H x = none := by
  cases e : H x with
  | none => rfl
  | some o =>
    by_cases hx : x ∈ Ls
    · obtain ⟨it, z, _⟩ := a.tab.alike x (a.subL x hx)
      rw [z] at q
      cases q
    by_cases hR : x = R
    · obtain ⟨rs, z, _⟩ := a.tab.rows
      rw [hR, z] at q
      cases q
    by_cases hD : x = D
    · obtain ⟨xs, z, _⟩ := a.tab.dict
      rcases z with z | ⟨z, _⟩ <;> rw [hD, z] at q <;> cases q
    rw [a.frame x o e hR hD hx] at q
    cases q
theorem Step.tups (T : Tab P w C H tb R D ts Ls Ps cnt) {c : Nat} (a : Step P w C tb R D H H1 ts Ls Ps ts' Ls' Ps' c) : Tups H H1 := fun b ys z => a.frame b _ z
  (fun y => by obtain ⟨rs, y1, _⟩ := T.rows; rw [y, y1] at z; cases z)
  (fun y => by obtain ⟨xs, hd, _⟩ := T.dict; obtain ⟨o, y1, _, y2, _⟩ := hd.some; rw [y, y1] at z; exact y2 _ (Option.some.inj z))
  (fun y => by obtain ⟨it, y1, _⟩ := T.alike _ y; rw [y1] at z; cases z)
theorem Step.trans {ts1 : List Tm} {Ls1 Ps1 : List Addr} {c1 c2 : Nat} (a : Step P w C tb R D H H1 ts Ls Ps ts1 Ls1 Ps1 c1) (b : Step P w C tb R D H1 H' ts1 Ls1 Ps1 ts' Ls' Ps' c2) : Step P w C tb R D H H' ts Ls Ps ts' Ls' Ps' c2 where
  tab := b.tab
  pre := by
    obtain ⟨m, e⟩ := a.pre
    obtain ⟨n, e'⟩ := b.pre
    exact ⟨m ++ n, by rw [e', e, List.append_assoc]⟩
  subL := fun L h => b.subL L (a.subL L h)
  frame := fun x o h n1 n2 n3 => b.frame x o (a.frame x o h n1 n2 n3) n1 n2 fun z => (a.newL x z).elim n3 fun q => by rw [h] at q; cases q
  newL := fun x h => (b.newL x h).elim (a.newL x) fun q => .inr (a.free q)
  newP := fun x h => (b.newP x h).elim (a.newP x) fun q => .inr (a.free q)
theorem Step.same (a : Step P w C tb R D H H1 ts Ls Ps ts' Ls' Ps' cnt) (e : Same H1 H') : Step P w C tb R D H H' ts Ls Ps ts' Ls' Ps' cnt :=
  ⟨a.tab.same e, a.pre, a.subL, fun b o h n1 n2 n3 => e _ _ (a.frame b o h n1 n2 n3), a.newL, a.newP⟩
theorem Step.more {c : Nat} (a : Step P w C tb R D H H1 ts Ls Ps ts' Ls' Ps' cnt) (l : cnt ≤ c) : Step P w C tb R D H H1 ts Ls Ps ts' Ls' Ps' c := ⟨a.tab.more l, a.pre, a.subL, a.frame, a.newL, a.newP⟩
/-- a list that is none of the table's and was not there is written -/
theorem Step.put {x : Addr} {ys zs : List V} (a : Step P w C tb R D H H1 ts Ls Ps ts' Ls' Ps' cnt) (hx : H1 x = some (.lst ys)) (h0 : H x = none) (n1 : x ≠ R) (n2 : x ∉ Ls') (n3 : x ∉ Ps') : Step P w C tb R D H (upd H1 x (.lst zs)) ts Ls Ps ts' Ls' Ps' cnt := by
  refine ⟨a.tab.keep (.put hx n1 n2 n3) (fun o q => ?_) (fun o q => ?_), a.pre, a.subL, fun b o h m1 m2 m3 => ?_, a.newL, a.newP⟩
  · obtain ⟨dx, z⟩ := a.tab.ins
    rw [upd_ne (ne_of z hx (by intro y; cases y))]
    exact q
  · obtain ⟨xs, z, _⟩ := a.tab.dict
    obtain ⟨o', z1, z2, _⟩ := z.some
    rw [upd_ne (ne_of z1 hx (z2 _))]
    exact q
  · rw [upd_ne (ne_of_none h h0)]
    exact a.frame b o h m1 m2 m3
end
/-- the terms behind a place_of: n calls, one within another -/
def spPlace (P : Program) (w : World) (C : Addr) (n : Nat) : Sp := fun vs H Q _ => ∃ (tb R D : Addr) (ts : List Tm) (Ls Ps : List Addr) (cnt : Nat) (t : Tm) (v : V), vs = [.ref tb, v] ∧ Tab P w C H tb R D ts Ls Ps cnt ∧ TmAt H t v ∧ t.Ok ∧ t.deep ≤ n ∧ t.deep ≤ 60 ∧
  ts.length + t.size ≤ 900000 ∧ cnt + t.size ≤ 900000 ∧
  ∀ (k : Nat) (ts' : List Tm) (Ls' Ps' : List Addr) (H' : Hp), Step P w C tb R D H H' ts Ls Ps ts' Ls' Ps' (cnt + t.size) → ts'.length ≤ ts.length + t.size → ts'[k]? = some t → (k < ts.length ∨ k + 1 = ts'.length) → (∀ u ∈ ts', u ∈ ts ∨ u.size ≤ t.size) → Q (.int (k : Int)) H'
abbrev s_TermTable_init : Stmt := inClass (topS 13) 0
theorem sc_TermTable_init : FnScope ["self"] ["self"] (defScope s_TermTable_init) := ⟨rfl, rfl, rfl, by decide +kernel, rfl, by decide +kernel, by decide +kernel⟩
abbrev s_TermTable_place_of : Stmt := inClass (topS 13) 1
theorem sc_TermTable_place_of : FnScope ["self", "term", "alike", "other", "place", "places", "part"] ["self", "term"] (defScope s_TermTable_place_of) := ⟨rfl, rfl, rfl, by decide +kernel, rfl, by decide +kernel, by decide +kernel⟩
abbrev s_rows_of : Stmt := topS 12
theorem sc_rows_of : FnScope ["term", "table"] ["term"] (defScope s_rows_of) := ⟨rfl, rfl, rfl, by decide +kernel, rfl, by decide +kernel, by decide +kernel⟩

structure TxtC (K : PySem.W.Frag) (C : Addr) : Prop where
  cl : Cls K C
  nR : NoAttr K C "rows"
  nK : NoAttr K C "known"
def spTabInit (P : Program) (w : World) (C : Addr) : Sp := fun vs H Q _ => ∃ (p dx : Addr), vs = [.ref p] ∧ H p = some (.ins C dx []) ∧
  ∀ (R D : Addr) (H' : Hp), (∀ b o, b ≠ p → H b = some o → H' b = some o) → Tab P w C H' p R D [] [] [] 0 → H R = none → H D = none → Q .non H'
section
variable {P : Program} {w : World} {K : PySem.W.Frag} {mg : Str → Option Value} {base : Heap} {pa C f f1 f2 f3 f4 f5 f6 f7 f8 : Addr} {fd fd1 fd2 fd3 fd4 fd5 fd6 fd7 fd8 : FuncData}
theorem ok_tab_init (F : Fun K "__init__" "TermTable.__init__" s_TermTable_init f fd) (TC : TxtC K C) : FnOk P w K mg base CX0 1 f fd ["self"] (spTabInit P w C) := by
  refine F.ok sc_TermTable_init (fun vs H Q E h => ?_) (fun cdv A outer s H vs Q E hr h => ?_)
  · obtain ⟨p, dx, rfl, _⟩ := h
    rfl
  obtain ⟨p, dx, rfl, hp, q⟩ := h
  refine ⟨_, (pss_cons (ps_fld (pv 0) (pe_lst pa_nil) rfl)
      (pss_one (ps_fld (pv 0) pe_dnewK rfl))), ?_⟩
  refine ⟨Nat.zero_le _, fun R nR => ?_⟩
  have npR : p ≠ R := ne_of_none hp nR
  refine ⟨_, rfl, p, C, dx, [], rfl, (by rw [upd_ne npR]; exact hp), TC.cl, TC.nR, (by show 0 < 1000; decide), fun D nD => ?_⟩
  have npD : p ≠ D := fun z => by rw [z, upd_same] at nD; cases nD
  have nRD : R ≠ D := fun z => by rw [z, upd_ne npD.symm, upd_same] at nD; cases nD
  have nD0 : H D = none := by
    rw [upd_ne npD.symm, upd_ne nRD.symm] at nD
    exact nD
  refine ⟨_, rfl, p, C, dx, _, rfl, (by rw [upd_ne npD]; exact upd_same), TC.cl, TC.nK, (by show 1 < 1000; decide), ?_⟩
  refine q R D _ (fun b o n e => ?_) ?_ nR nD0
  · rw [upd_ne n, upd_ne (ne_of_none e nD0), upd_ne n, upd_ne (ne_of_none e nR)]
    exact e
  · refine ⟨⟨dx, upd_same⟩, ⟨[], ?_, rfl, fun i t h => by simp at h⟩, ⟨[], .inr ⟨?_, rfl⟩, Nat.le_refl _, (fun e h => by cases h)⟩, (fun L h => by cases h), (fun L h => by cases h), (fun h => by cases h), (fun h => by cases h), (fun L h => by cases h)⟩
    · rw [upd_ne npR.symm, upd_ne nRD, upd_ne npR.symm, upd_same]
    · rw [upd_ne npD.symm, upd_same]
theorem ok_place {n : Nat} (F : Fun K "place_of" "TermTable.place_of" s_TermTable_place_of f fd) (T : Txt mg) (TC : TxtC K C)
    (C_ends_of : Cal P w K mg base "ends_of" ["term"] 3 spEnds f1 fd1) (C_head_of : Cal P w K mg base "head_of" ["term"] 1 spHead f2 fd2) (C_parts_of : Cal P w K mg base "parts_of" ["term"] 1 spPartsOf f3 fd3)
    (C_place_of : CalM P w K mg base C "place_of" ["self", "term"] (4 + n) (spPlace P w C n) f fd) : FnOk P w K mg base CX0 (4 + n + 1) f fd ["self", "term"] (spPlace P w C (n + 1)) := by
  refine F.ok sc_TermTable_place_of (fun vs H Q E h => ?_) (fun cdv A outer s H vs Q E hr h => ?_)
  · obtain ⟨tb, R, D, ts, Ls, Ps, cnt, t, v, rfl, _⟩ := h
    rfl
  obtain ⟨tb, R, D, ts, Ls, Ps, cnt, t, v, rfl, hT, ht, hok, hn, h60, hz1, hz2, q⟩ := h
  refine ⟨_, (pss_cut (ps_set (i := 2) sc_TermTable_place_of.nd rfl (Or.inl rfl) (pe_nsetd hr.units (pe_fld (pv 0) rfl) (pe_call C_ends_of.ok (hr.mono (by first | decide | omega)) rfl C_ends_of.m C_ends_of.kp C_ends_of.b .nil pass0 (pa_cons (pv 1) pa_nil)) (pe_lst pa_nil) ⟨rfl, rfl, rfl, rfl⟩))
      (pss_cons (ps_for PassesOwn.never rfl (pi_list (pv 2)) (pg_tup rfl (pgs_cons (pg_name (i := 3) sc_TermTable_place_of.nd rfl (Or.inl rfl)) (pgs_cons (pg_name (i := 4) sc_TermTable_place_of.nd rfl (Or.inl rfl)) pgs_nil))) (pss_one (ps_if (pt_cmpR (op_eqD hr.units) (pv 3) (pv 1) (nomark _)) (pss_one (ps_ret (pv 4))) pss_nil)))
      (pss_cons (ps_setLc (i := 5) (own := [("part", 6)]) (g := (gName 6)) (tt := tYes) (by rfl) sc_TermTable_place_of.nd rfl rfl (sw_true rfl rfl rfl (by decide +kernel)) (pi_tup (pe_call C_parts_of.ok (hr.mono (by first | decide | omega)) rfl C_parts_of.m C_parts_of.kp C_parts_of.b .nil pass0 (pa_cons (pv 1) pa_nil))) (blkOk_by (own := [("part", 6)]) (N := ["self", "term", "alike", "other", "place", "places", "part"]) (sc := defScope s_TermTable_place_of) (by decide +kernel)) (fun _ _ _ _ _ => (pg_name (i := 6) sc_TermTable_place_of.nd rfl (Or.inl rfl))) (fun _ _ _ _ _ => pts_nil) (fun _ _ _ _ _ => (pe_meth (pv 0) TC.cl C_place_of.m C_place_of.ok (hr.mono (by first | decide | omega)) C_place_of.b .nil pass0 (pa_cons (pv 6) pa_nil))))
      (pss_cons (ps_expr (pe_bm PySem.F.plainAttrs_list PySem.F.slot_list_append PySem.F.type_list_append mt_append (pe_fld (pv 0) rfl) (pa_cons (pe_tup (pa_cons (pe_call C_head_of.ok (hr.mono (by first | decide | omega)) rfl C_head_of.m C_head_of.kp C_head_of.b .nil pass0 (pa_cons (pv 1) pa_nil)) (pa_cons (pv 5) pa_nil))) pa_nil)))
      (pss_cons (ps_expr (pe_bm PySem.F.plainAttrs_list PySem.F.slot_list_append PySem.F.type_list_append mt_append (pv 2) (pa_cons (pe_tup (pa_cons (pv 1) (pa_cons (pe_op op_sub (pe_callB call_len_seq (by rfl) T.len PySem.boot_len (pa_cons (pe_fld (pv 0) rfl) pa_nil)) pe_int) pa_nil))) pa_nil)))
      (pss_one (ps_ret (pe_op op_sub (pe_callB call_len_seq (by rfl) T.len PySem.boot_len (pa_cons (pe_fld (pv 0) rfl) pa_nil)) pe_int)))))))), ?_⟩
  obtain ⟨dx, hi⟩ := hT.ins
  obtain ⟨xs, hd, hxl, hx⟩ := hT.dict
  have tpos : 1 ≤ t.size := by cases t <;> simp only [Tm.size] <;> omega
  -- alike = self.known.setdefault(ends_of(term), [])
  refine ⟨fun σ H' => ∃ (al : Addr) (Ls1 : List Addr), σ = [some (.ref tb), some v, some (.ref al), none, none, none, none] ∧ al ∈ Ls1 ∧ Step P w C tb R D H H' ts Ls Ps ts Ls1 Ps (cnt + 1), ?_, ?_⟩
  · refine ⟨_, rfl, tb, C, dx, _, _, rfl, hi, TC.cl, TC.nK, pf_known _ _, D, rfl, ⟨xs, hd⟩, _, rfl, t, v, rfl, ht, h60, fun r H1 k e1 hk hkd => ⟨Nat.zero_le _, fun L nL => ?_⟩⟩
    have s2 := same_new nL (.lst [])
    have e2 : Same H (upd H1 L (.lst [])) := e1.trans s2
    have L0 : H L = none := e1.free nL
    have l2 : upd H1 L (.lst []) L = some (.lst []) := upd_same
    have hk2 := KAt.mono (.of_same s2) _ _ hk
    generalize upd H1 L (.lst []) = H2 at e2 l2 hk2 ⊢
    have hd2 := hd.keep fun o z => e2 _ _ z
    refine ⟨xs, k, r, L, hd2, rfl, rfl, hk2, hkd, fun e he => ⟨KAt.mono (.of_same e2) _ _ (hx e he).1.1, (hx e he).1.2⟩, Nat.lt_of_le_of_lt hxl (Nat.lt_of_le_of_lt (by omega : cnt ≤ 900000) (by decide)), fun c b hm => ?_, ?_⟩
    · exact ⟨b, Ls, rfl, (hx _ hm).2, ((Step.refl hT).same e2).more (Nat.le_succ _)⟩
    · obtain ⟨od, z1, z2, z3, z4⟩ := hd2.some
      have T2 := hT.same e2
      have K3 : ∀ b o, b ≠ D → H2 b = some o → upd H2 D (rawD P w D (xs ++ [(k, r, L)])) b = some o := fun b o nb z => by rw [upd_ne nb]; exact z
      have k3 : Keeps R Ls Ps H2 (upd H2 D (rawD P w D (xs ++ [(k, r, L)]))) := fun b o z y => by
        refine K3 b o ?_ z
        rintro rfl
        rw [z1] at z
        cases z
        rcases y with y | y | y | ⟨ys, y⟩
        · obtain ⟨rs, y1, _⟩ := T2.rows
          rw [← y, z1] at y1
          exact z2 _ (Option.some.inj y1)
        · obtain ⟨it, y1, _⟩ := T2.alike _ y
          rw [z1] at y1
          exact z2 _ (Option.some.inj y1)
        · obtain ⟨it, y1⟩ := T2.plist _ y
          rw [z1] at y1
          exact z2 _ (Option.some.inj y1)
        · exact z3 _ y
      have nLD : L ≠ D := ne_of l2 z1 fun y => z2 _ y.symm
      refine ⟨L, L :: Ls, rfl, List.mem_cons_self, ⟨⟨?_, T2.rows.keep k3, ⟨_, .inl upd_same, by rw [List.length_append]; exact Nat.succ_le_succ hxl, fun e he => ?_⟩, fun L' hL' => ?_, fun p hp => ?_, ?_, T2.nRP, fun L' hL' hP => ?_⟩, ⟨[], by simp⟩, fun L' hL' => List.mem_cons_of_mem _ hL', fun b o z n1 n2 n3 => ?_, fun b hb => ?_, fun b hb => .inl hb⟩⟩
      · obtain ⟨dx', y⟩ := T2.ins
        exact ⟨dx', K3 _ _ (ne_of y z1 fun u => z4 _ _ _ u.symm) y⟩
      · rcases List.mem_append.mp he with he | he
        · exact ⟨⟨KAt.mono ((Tups.of_same e2).trans k3.tups) _ _ (hx e he).1.1, (hx e he).1.2⟩, List.mem_cons_of_mem _ (hx e he).2⟩
        · rw [List.mem_singleton.mp he]
          exact ⟨⟨KAt.mono k3.tups _ _ hk2, hkd⟩, List.mem_cons_self⟩
      · rcases List.mem_cons.mp hL' with rfl | hL'
        · exact ⟨[], K3 _ _ nLD l2, Nat.zero_le _, fun it h => by cases h⟩
        · exact (T2.alike L' hL').keep k3 hL'
      · obtain ⟨ys, y⟩ := T2.plist p hp
        exact ⟨ys, k3 _ _ y (.inr (.inr (.inl hp)))⟩
      · intro y
        rcases List.mem_cons.mp y with y | y
        · obtain ⟨rs, y1, _⟩ := hT.rows
          rw [y, L0] at y1
          cases y1
        · exact T2.nRL y
      · rcases List.mem_cons.mp hL' with rfl | hL'
        · obtain ⟨ys, y⟩ := hT.plist _ hP
          rw [L0] at y
          cases y
        · exact T2.nLP L' hL' hP
      · exact K3 _ _ n2 (e2 _ _ z)
      · rcases List.mem_cons.mp hb with rfl | hb
        · exact .inr L0
        · exact .inl hb
  rintro σ H1 ⟨al, Ls1, rfl, hal, st1⟩
  have ht1 : TmAt H1 t v := ht.mono (st1.tups hT)
  obtain ⟨items, hit, hil, hall⟩ := st1.tab.alike al hal
  -- for other, place in alike: if other == term: return place
  refine ⟨_, rfl, al, rfl, ⟨_, SqL.of hit⟩, for_list (K := K) (a := al) (xs := items) (fun i σ H' => H1 = H' ∧ ∃ o1 o2, σ = [some (.ref tb), some v, some (.ref al), o1, o2, none, none]) ⟨rfl, none, none, rfl⟩ (fun i σ H' _ z => by rw [← z.1]; exact SqL.of hit) ?_ ?_⟩
  · rintro i x σ H' hi' ⟨rfl, o1, o2, rfl⟩
    obtain ⟨qa, v', k, t', rfl, hq, ht', ok', d', hk'⟩ := hall x (List.mem_of_getElem? hi')
    refine ⟨qa, _, rfl, SqT.of hq, rfl, _, _, rfl, _, _, rfl, rfl, ?_⟩
    refine ⟨_, rfl, _, rfl, _, _, ht'.dp, ht1.dp, Tm.shaped ok' d', Tm.shaped hok h60, _, rfl, ite2 (fun c => ?_) fun c => ?_⟩
    · have e := Tm.data_eq _ _ c
      subst e
      exact ⟨_, rfl, q k ts Ls1 Ps H1 (st1.more (by omega)) (by omega) hk' (.inl (List.getElem?_eq_some_iff.mp hk').1) fun u hu => .inl hu⟩
    · exact ⟨rfl, _, _, rfl⟩
  rintro σ H' ⟨rfl, o1, o2, rfl⟩
  -- places = [self.place_of(part) for part in parts_of(term)]
  refine ⟨_, rfl, t, v, rfl, ht1, fun r ws H2 e2 hr2 hws => ⟨r, rfl, ⟨_, SqT.of hr2⟩, fun Dl nDl => ?_⟩⟩
  have st2 := st1.same e2
  have T2 := st2.tab
  have tz := t.size_parts
  have hwl := hws.len
  refine lc_tup (K := K) (a := r) (xs := ws) (fun i H' => ∃ (ts3 : List Tm) (Ls3 Ps3 : List Addr) (ps : List Nat), Step P w C tb R D H2 H' ts Ls1 Ps ts3 Ls3 Ps3 (cnt + 1 + sizes (t.parts.take i)) ∧ H' Dl = some (.lst (nats ps)) ∧
    PlacesOf ts3 ts3.length (t.parts.take i) ps ∧ ts3.length ≤ ts.length + sizes (t.parts.take i) ∧ (Dl ≠ R ∧ Dl ∉ Ls3 ∧ Dl ∉ Ps3) ∧ ∀ u ∈ ts3, u ∈ ts ∨ u.size ≤ t.size) ?_ (fun i H' _ z => ?_) ?_ ?_
  · refine ⟨ts, Ls1, Ps, [], ((Step.refl T2).same (same_new nDl _)).more (by rw [List.take_zero]; exact Nat.le_refl _), upd_same, by rw [List.take_zero]; exact True.intro, Nat.le_add_right _ _, ⟨?_, ?_, ?_⟩, fun u hu => .inl hu⟩
    · rintro rfl
      obtain ⟨rs, z, _⟩ := T2.rows
      rw [nDl] at z
      cases z
    · intro m
      obtain ⟨it, z, _⟩ := T2.alike _ m
      rw [nDl] at z
      cases z
    · intro m
      obtain ⟨it, z⟩ := T2.plist _ m
      rw [nDl] at z
      cases z
  · obtain ⟨ts3, Ls3, Ps3, ps, st3, _⟩ := z
    exact SqT.of (st3.tups T2 _ _ hr2)
  · rintro i x H' hi' ⟨ts3, Ls3, Ps3, ps, st3, hDl, hpl, hlen, ⟨n1, n2, n3⟩, hsub⟩
    obtain ⟨t', ht', hx'⟩ := hws.at hi'
    have hm := List.mem_of_getElem? ht'
    have dp := Tm.part_deep hm
    obtain ⟨dx3, hi3⟩ := st3.tab.ins
    have tk : t.parts.take (i + 1) = t.parts.take i ++ [t'] := by rw [List.take_add_one, ht']; rfl
    have zs := sizes_take t.parts (i + 1)
    rw [tk, sizes_snoc] at zs
    have pl := hpl.len
    have pl2 : (t.parts.take i).length ≤ 3 := Nat.le_trans (by rw [List.length_take]; exact Nat.min_le_right _ _) t.len_parts
    refine ⟨rfl, ?_⟩
    refine ⟨_, rfl, tb, dx3, _, rfl, hi3, pf_no _ _ (by decide +kernel) (by decide +kernel), _, rfl, tb, R, D, ts3, Ls3, Ps3, _, t', x, rfl, st3.tab, hx'.mono (st3.tups T2), hok.part hm, by omega, by omega, by omega, by omega, fun k ts4 Ls4 Ps4 H4 st4 l4 hk4 _ sub4 => ?_⟩
    have nD : Dl ≠ D := by
      obtain ⟨xs4, z, _⟩ := st3.tab.dict
      obtain ⟨o, y1, y2, _⟩ := z.some
      exact ne_of hDl y1 fun y => y2 _ y.symm
    have hDl4 := st4.frame _ _ hDl n1 nD n2
    have m2 : Dl ∉ Ls4 := fun z => (st4.newL _ z).elim n2 fun y => by rw [hDl] at y; cases y
    have m3 : Dl ∉ Ps4 := fun z => (st4.newP _ z).elim n3 fun y => by rw [hDl] at y; cases y
    obtain ⟨more, e4⟩ := st4.pre
    have hkl := (List.getElem?_eq_some_iff.mp hk4).1
    refine ⟨nats ps, hDl4, small1000 (by unfold nats; rw [List.length_map]; omega), ts4, Ls4, Ps4, ps ++ [k], ?_, ?_, ?_, ?_, ⟨n1, m2, m3⟩, fun u hu => (sub4 u hu).elim (hsub u) fun z => .inr (Nat.le_trans z (Tm.part_size hm))⟩
    · refine ((st3.trans st4).put hDl4 nDl n1 m2 m3).more ?_
      rw [tk, sizes_snoc]
      omega
    · rw [upd_same, nats_snoc]
    · rw [tk]
      refine PlacesOf.snoc hkl hk4 ?_
      rw [e4]
      exact hpl.mono (by rw [List.length_append]; omega)
    · rw [tk, sizes_snoc]
      omega
  rintro H3 ⟨ts3, Ls3, Ps3, ps, st3, hDl, hpl, hlen, ⟨n1, n2, n3⟩, hsub⟩
  rw [hwl, List.take_length] at st3 hpl hlen
  have st5 := st2.trans st3
  have ht3 : TmAt H3 t v := ht1.mono ((Tups.of_same e2).trans (st3.tups T2))
  have T3 := st5.tab
  obtain ⟨dx3, hi3⟩ := T3.ins
  obtain ⟨rs, hR, rl, hrs⟩ := T3.rows
  obtain ⟨its, hal3, il3, hall3⟩ := T3.alike al (st3.subL al hal)
  have hal' := st3.subL al hal
  obtain ⟨xs3, hd3, hxl3, hx3⟩ := T3.dict
  obtain ⟨od, d1, d2, d3, d4⟩ := hd3.some
  have nAR : al ≠ R := fun z => T3.nRL (z ▸ hal')
  have nAP : al ∉ Ps3 := T3.nLP al hal'
  have nAD : al ≠ Dl := fun z => n2 (z ▸ hal')
  have l9 : ts3.length < 900000 := by omega
  -- self.rows.append((head_of(term), places))
  refine ⟨_, rfl, tb, C, dx3, _, _, rfl, hi3, TC.cl, TC.nR, pf_rows _ _, .inl ⟨rfl, _, SqL.of hR⟩, _, rfl, t, v, rfl, ht3, fun h H4 e4 hh => ⟨_, rfl, sz 2, fun r5 nr5 => ?_⟩⟩
  have s5 := same_new nr5 (.tup [V.ref h, .ref Dl])
  have g5 : Same H3 (upd H4 r5 (.tup [V.ref h, .ref Dl])) := e4.trans s5
  have hr5 : upd H4 r5 (.tup [V.ref h, .ref Dl]) r5 = some (.tup [V.ref h, .ref Dl]) := upd_same
  have hh5 := s5 _ _ hh
  generalize upd H4 r5 (.tup [V.ref h, .ref Dl]) = H5 at g5 hr5 hh5 ⊢
  refine ⟨R, _, _, rfl, rfl, g5 _ _ hR, Nat.lt_of_lt_of_le (by rw [rl]; exact l9) (by decide), ?_⟩
  have k6 : ∀ b o, b ≠ R → H5 b = some o → upd H5 R (.lst (rs ++ [V.ref r5])) b = some o := fun b o nb z => by rw [upd_ne nb]; exact z
  have hR6 : upd H5 R (.lst (rs ++ [V.ref r5])) R = some (.lst (rs ++ [V.ref r5])) := upd_same
  generalize upd H5 R (.lst (rs ++ [V.ref r5])) = H6 at k6 hR6 ⊢
  have g6 : ∀ b o, b ≠ R → H3 b = some o → H6 b = some o := fun b o nb z => k6 b o nb (g5 b o z)
  have nTR : tb ≠ R := ne_of hi3 hR fun y => by cases y
  have al6 := g6 _ _ nAR hal3
  have hi6 := g6 _ _ nTR hi3
  -- alike.append((term, len(self.rows) - 1))
  refine ⟨_, rfl, .inl ⟨rfl, _, SqL.of al6⟩, _, rfl, _, rfl, tb, C, dx3, _, _, rfl, hi6, TC.cl, TC.nR, pf_rows _ _, R, _, rfl, .inl (SqL.of hR6), _, _, rfl, rfl, sz 2, fun qa nq => ?_⟩
  have ek : V.int ((((rs ++ [V.ref r5]).length : Nat) : Int) - 1) = V.int ((ts3.length : Nat) : Int) := congrArg V.int (by rw [List.length_append, List.length_singleton, rl]; omega)
  dsimp only
  rw [ek]
  have s7 := same_new nq (.tup [v, V.int ((ts3.length : Nat) : Int)])
  have hq7 : upd H6 qa (.tup [v, V.int ((ts3.length : Nat) : Int)]) qa = some (.tup [v, V.int ((ts3.length : Nat) : Int)]) := upd_same
  generalize upd H6 qa (.tup [v, V.int ((ts3.length : Nat) : Int)]) = H7 at s7 hq7 ⊢
  refine ⟨al, _, _, rfl, rfl, s7 _ _ al6, Nat.lt_of_le_of_lt il3 (Nat.lt_of_lt_of_le l9 (by decide)), ?_⟩
  have k8 : ∀ b o, b ≠ al → H7 b = some o → upd H7 al (.lst (its ++ [V.ref qa])) b = some o := fun b o nb z => by rw [upd_ne nb]; exact z
  have al8 : upd H7 al (.lst (its ++ [V.ref qa])) al = some (.lst (its ++ [V.ref qa])) := upd_same
  generalize upd H7 al (.lst (its ++ [V.ref qa])) = H8 at k8 al8 ⊢
  have g8 : ∀ b o, b ≠ R → b ≠ al → H3 b = some o → H8 b = some o := fun b o n1 n2 z => k8 b o n2 (s7 _ _ (g6 b o n1 z))
  have t8 : Tups H3 H8 := fun b ys z => g8 b _ (ne_of z hR fun y => by cases y) (ne_of z hal3 fun y => by cases y) z
  have hR8 := k8 _ _ nAR.symm (s7 _ _ hR6)
  have hi8 := g8 _ _ nTR (ne_of hi3 hal3 fun y => by cases y) hi3
  refine ⟨_, rfl, tb, C, dx3, _, _, rfl, hi8, TC.cl, TC.nR, pf_rows _ _, R, _, rfl, .inl (SqL.of hR8), _, _, rfl, rfl, ?_⟩
  show Q (V.int ((((rs ++ [V.ref r5]).length : Nat) : Int) - 1)) H8
  rw [ek]
  have nDlR : Dl ≠ R := n1
  have hDl8 := g8 _ _ n1 nAD.symm hDl
  have pt : ∀ {i j : Nat} {r : List Tm} {ps : List Nat}, i ≤ j → PlacesOf ts3 i r ps → PlacesOf (ts3 ++ [t]) j r ps := fun h z => z.mono h
  have ix : ∀ {k : Nat} {u : Tm}, ts3[k]? = some u → (ts3 ++ [t])[k]? = some u := fun {k u} z => by rw [List.getElem?_append_left (List.getElem?_eq_some_iff.mp z).1]; exact z
  have last : (ts3 ++ [t])[ts3.length]? = some t := by rw [List.getElem?_append_right (Nat.le_refl _), Nat.sub_self]; rfl
  have h58 : ∀ {b : Addr} {ys : List V}, H5 b = some (.tup ys) → H8 b = some (.tup ys) := fun {b ys} z => k8 _ _ (ne_of z (g5 _ _ hal3) fun y => by cases y) (s7 _ _ (k6 _ _ (ne_of z (g5 _ _ hR) fun y => by cases y) z))
  refine q ts3.length (ts3 ++ [t]) Ls3 (Dl :: Ps3) H8 ⟨⟨⟨dx3, hi8⟩, ⟨_, hR8, by rw [List.length_append, List.length_append, rl]; rfl, fun i u hu => ?_⟩, ⟨xs3, hd3.keep fun o z => ?_, ?_, fun e he => ⟨⟨KAt.mono t8 _ _ (hx3 e he).1.1, (hx3 e he).1.2⟩, (hx3 e he).2⟩⟩, fun L hL => ?_, fun p hp => ?_, T3.nRL, ?_, fun L hL hP => ?_⟩, ?_, fun L hL => st5.subL L hL, fun b o z m1 m2 m3 => ?_, st5.newL, fun b hb => ?_⟩ ?_ last (.inr (by rw [List.length_append]; rfl)) fun u hu => (List.mem_append.mp hu).elim (hsub u) fun z => .inr (by rw [List.mem_singleton.mp z]; exact Nat.le_refl _)
  · by_cases hi3' : i < ts3.length
    · rw [List.getElem?_append_left hi3'] at hu
      obtain ⟨r0, h0, pl0, ps0, a1, a2, a3, a4, a5, a6⟩ := hrs i u hu
      refine ⟨r0, h0, pl0, ps0, by rw [List.getElem?_append_left (by rw [rl]; exact hi3')]; exact a1, t8 _ _ a2, t8 _ _ a3, g8 _ _ (fun z => T3.nRP (z ▸ a5)) (fun z => nAP (z ▸ a5)) a4, List.mem_cons_of_mem _ a5, pt (Nat.le_refl _) a6⟩
    · have hlt := (List.getElem?_eq_some_iff.mp hu).1
      rw [List.length_append, List.length_singleton] at hlt
      obtain rfl : i = ts3.length := by omega
      rw [last] at hu
      cases hu
      refine ⟨r5, h, Dl, ps, by rw [List.getElem?_append_right (by rw [rl]; exact Nat.le_refl _), rl, Nat.sub_self]; rfl, h58 hr5, h58 hh5, hDl8, List.mem_cons_self, pt (Nat.le_refl _) hpl⟩
  · rw [d1] at z
    cases z
    exact g8 _ _ (ne_of d1 hR (d2 _)) (ne_of d1 hal3 (d2 _)) d1
  · omega
  · by_cases hLa : L = al
    · subst hLa
      refine ⟨_, al8, by rw [List.length_append, List.length_append]; exact Nat.succ_le_succ il3, fun it hit => ?_⟩
      rcases List.mem_append.mp hit with hit | hit
      · obtain ⟨q0, v0, k0, t0, b1, b2, b3, b4, b5, b6⟩ := hall3 it hit
        exact ⟨q0, v0, k0, t0, b1, t8 _ _ b2, b3.mono t8, b4, b5, ix b6⟩
      · rw [List.mem_singleton.mp hit]
        exact ⟨qa, v, ts3.length, t, rfl, k8 _ _ (ne_of hq7 (s7 _ _ al6) fun y => by cases y) hq7, ht3.mono t8, hok, h60, last⟩
    · obtain ⟨it0, c1, c2, c3⟩ := T3.alike L hL
      refine ⟨it0, g8 _ _ (fun z => T3.nRL (z ▸ hL)) hLa c1, by rw [List.length_append]; exact Nat.le_succ_of_le c2, fun it hit => ?_⟩
      obtain ⟨q0, v0, k0, t0, b1, b2, b3, b4, b5, b6⟩ := c3 it hit
      exact ⟨q0, v0, k0, t0, b1, t8 _ _ b2, b3.mono t8, b4, b5, ix b6⟩
  · rcases List.mem_cons.mp hp with rfl | hp
    · exact ⟨_, hDl8⟩
    · obtain ⟨ys, y⟩ := T3.plist p hp
      exact ⟨ys, g8 _ _ (fun z => T3.nRP (z ▸ hp)) (fun z => nAP (z ▸ hp)) y⟩
  · intro z
    rcases List.mem_cons.mp z with z | z
    · exact n1 z.symm
    · exact T3.nRP z
  · rcases List.mem_cons.mp hP with rfl | hP
    · exact n2 hL
    · exact T3.nLP L hL hP
  · obtain ⟨more, e⟩ := st5.pre
    exact ⟨more ++ [t], by rw [e, List.append_assoc]⟩
  · have z3 := st5.frame b o z m1 m2 m3
    by_cases hba : b = al
    · subst hba
      rcases st5.newL _ hal' with y | y
      · exact absurd y m3
      · rw [z] at y
        cases y
    · exact g8 b o m1 hba z3
  · rcases List.mem_cons.mp hb with rfl | hb
    · exact .inr (st2.free nDl)
    · exact st5.newP b hb
  · rw [List.length_append, List.length_singleton]
    omega
end

/-! ### rows_of -/
def spRows : Sp := fun vs H Q _ => ∃ (t : Tm) (v : V), vs = [v] ∧ TmAt H t v ∧ t.Ok ∧ t.deep ≤ 60 ∧ t.size ≤ 900000 ∧
  ∀ (R : Addr) (ts : List Tm) (Ps : List Addr) (H' : Hp), Same H H' → RowsAt H' R ts Ps → H R = none → (∀ p ∈ Ps, H p = none) → ts.length ≤ t.size → (∃ more, ts = more ++ [t]) → (∀ u ∈ ts, u.size ≤ t.size) → Q (.ref R) H'
theorem last_split {ts : List Tm} {k : Nat} {t : Tm} (h : ts[k]? = some t) (m : k + 1 = ts.length) : ∃ more, ts = more ++ [t] := by
  obtain ⟨h1, h2⟩ := List.getElem?_eq_some_iff.mp h
  refine ⟨ts.take k, ?_⟩
  have e := List.take_succ_eq_append_getElem h1
  rw [m, List.take_length, h2] at e
  exact e
theorem nats_map (ns : List Nat) : nats ns = (ns.map fun (n : Nat) => (n : Int)).map V.int := by
  unfold nats
  rw [List.map_map]
  rfl
section
variable {P : Program} {w : World} {K : PySem.W.Frag} {mg : Str → Option Value} {base : Heap} {pa C f f1 f2 f3 f4 f5 f6 f7 f8 : Addr} {fd fd1 fd2 fd3 fd4 fd5 fd6 fd7 fd8 : FuncData}
theorem ok_rows_of (F : Fun K "rows_of" "rows_of" s_rows_of f fd) (TC : TxtC K C) (MK_TermTable : CalC P w K mg base "TermTable" C ["self"] 1 (spTabInit P w C) f1 fd1)
    (C_place_of : CalM P w K mg base C "place_of" ["self", "term"] 64 (spPlace P w C 60) f2 fd2) : FnOk P w K mg base CX0 65 f fd ["term"] spRows := by
  refine F.ok sc_rows_of (fun vs H Q E h => ?_) (fun cdv A outer s H vs Q E hr h => ?_)
  · obtain ⟨t, v, rfl, _⟩ := h
    rfl
  obtain ⟨t, v, rfl, ht, hok, h60, hz, q⟩ := h
  refine ⟨_, (pss_cons (ps_set (i := 1) sc_rows_of.nd rfl (Or.inl rfl) (pe_make0 MK_TermTable.mkr MK_TermTable.ok (hr.mono (by first | decide | omega)) rfl MK_TermTable.m MK_TermTable.b .nil pass0))
      (pss_cons (ps_expr (pe_meth (pv 1) TC.cl C_place_of.m C_place_of.ok (hr.mono (by first | decide | omega)) C_place_of.b .nil pass0 (pa_cons (pv 0) pa_nil)))
      (pss_one (ps_ret (pe_fld (pv 1) rfl))))), ?_⟩
  intro x dx nx ndx nex
  refine ⟨x, dx, rfl, upd_same, fun R D H1 k1 T1 nR nD => ⟨rfl, ?_⟩⟩
  have e1 : Same H H1 := fun b o z => k1 b o (ne_of_none z nx) (by rw [upd_ne (ne_of_none z nx), upd_ne (ne_of_none z ndx)]; exact z)
  have nR0 : H R = none := by
    cases z : H R with
    | none => rfl
    | some o =>
      rw [upd_ne (ne_of_none z nx), upd_ne (ne_of_none z ndx), z] at nR
      cases nR
  have nD0 : H D = none := by
    cases z : H D with
    | none => rfl
    | some o =>
      rw [upd_ne (ne_of_none z nx), upd_ne (ne_of_none z ndx), z] at nD
      cases nD
  obtain ⟨dx1, hi1⟩ := T1.ins
  refine ⟨_, rfl, x, dx1, _, rfl, hi1, pf_no _ _ (by decide +kernel) (by decide +kernel), _, rfl, x, R, D, [], [], [], 0, t, v, rfl, T1, ht.mono (.of_same e1), hok, h60, h60, by show 0 + t.size ≤ 900000; omega, by omega, fun k ts' Ls' Ps' H2 st l hk last subs => ?_⟩
  obtain ⟨dx2, hi2⟩ := st.tab.ins
  refine ⟨_, rfl, x, C, dx2, _, _, rfl, hi2, TC.cl, TC.nR, pf_rows _ _, ?_⟩
  refine q R ts' Ps' H2 (fun b o z => st.frame b o (e1 _ _ z) (ne_of_none z nR0) (ne_of_none z nD0) (fun m => by cases m)) st.tab.rows nR0 (fun p hp => ?_) (by simpa using l) ?_ fun u hu => (subs u hu).elim (fun z => by cases z) id
  · rcases st.newP p hp with m | m
    · cases m
    · cases z : H p with
      | none => rfl
      | some o =>
        rw [e1 _ _ z] at m
        cases m
  · rcases last with m | m
    · exact absurd m (Nat.not_lt_zero _)
    · exact last_split hk m
/-- what stands at the places of the parts -/
theorem PlacesOf.at {ts : List Tm} {i : Nat} : ∀ {r : List Tm} {ps : List Nat} {j p : Nat}, PlacesOf ts i r ps → ps[j]? = some p → ∃ u, r[j]? = some u ∧ p < i ∧ ts[p]? = some u
  | [], [], _, _, _, e => by simp at e
  | t :: r, q :: ps, 0, _, ⟨h, _⟩, e => by
    simp only [List.getElem?_cons_zero, Option.some.injEq] at e
    subst e
    exact ⟨t, rfl, h⟩
  | t :: r, q :: ps, j + 1, _, ⟨_, h⟩, e => by
    simp only [List.getElem?_cons_succ] at e
    obtain ⟨u, h1, h2⟩ := PlacesOf.at h e
    exact ⟨u, by simpa using h1, h2⟩
  | [], _ :: _, _, _, h, _ => h.elim
  | _ :: _, [], _, _, h, _ => h.elim
theorem sz9 {n : Nat} (h : n ≤ 900000) : n < sizeLine := Nat.lt_of_le_of_lt h (by decide)
/-- a list of no one else's is written: the rows stay -/
theorem RowsAt.put {H : Hp} {R S : Addr} {ts : List Tm} {Ps : List Addr} {ys zs : List V} (h : RowsAt H R ts Ps) (hS : H S = some (.lst ys)) (nR : S ≠ R) (nP : S ∉ Ps) : RowsAt (upd H S (.lst zs)) R ts Ps :=
  h.keep (Keeps.put (Ls := []) hS nR (fun m => by cases m) nP)
end

/-! ### names that are loose -/
def put (l : List Str) (x : Str) : List Str := if x ∈ l then l else l ++ [x]
def putAll (l r : List Str) : List Str := r.foldl put l
def keep (b : V) (l : List Str) : List Str := l.filter fun x => !decide (V.str x = b)
theorem putAll_app (l a b : List Str) : putAll l (a ++ b) = putAll (putAll l a) b := List.foldl_append
theorem mem_put {l : List Str} {x y : Str} : y ∈ put l x ↔ y ∈ l ∨ y = x := by
  unfold put
  by_cases h : x ∈ l
  · rw [if_pos h]
    exact ⟨.inl, fun z => z.elim id fun e => e ▸ h⟩
  · rw [if_neg h, List.mem_append, List.mem_singleton]
theorem mem_putAll {y : Str} : ∀ {r l : List Str}, y ∈ putAll l r ↔ y ∈ l ∨ y ∈ r
  | [], l => by show y ∈ l ↔ y ∈ l ∨ y ∈ []; simp
  | x :: r, l => by
    show y ∈ putAll (put l x) r ↔ _
    rw [mem_putAll, mem_put, List.mem_cons]
    exact ⟨fun h => h.elim (fun h => h.elim .inl fun e => .inr (.inl e)) fun h => .inr (.inr h), fun h => h.elim (fun h => .inl (.inl h)) fun h => h.elim (fun e => .inl (.inr e)) .inr⟩
theorem put_old {l : List Str} {x : Str} (h : x ∈ l) : put l x = l := if_pos h
theorem snoc_ind {p : List Str → Prop} (h0 : p []) (h1 : ∀ l x, p l → p (l ++ [x])) : ∀ l, p l := fun l => by
  rw [← List.reverse_reverse l]
  induction l.reverse with
  | nil => exact h0
  | cons x r ih =>
    rw [List.reverse_cons]
    exact h1 _ _ ih
theorem putAll_snoc (l r : List Str) (x : Str) : putAll l (r ++ [x]) = put (putAll l r) x := by
  rw [putAll_app]
  rfl
theorem keep_app (b : V) (a c : List Str) : keep b (a ++ c) = keep b a ++ keep b c := List.filter_append _ _
theorem keep_mem {b : V} {l : List Str} {x : Str} : x ∈ keep b l ↔ x ∈ l ∧ ¬ V.str x = b := by
  unfold keep
  rw [List.mem_filter]
  by_cases h : V.str x = b <;> simp [h]
/-- a list that was thinned out adds the same names -/
theorem putAll_thin (b : V) : ∀ (r l : List Str), putAll l (keep b (putAll [] r)) = putAll l (keep b r) := by
  refine snoc_ind (fun l => rfl) fun r x ih l => ?_
  rw [putAll_snoc, keep_app, putAll_app]
  by_cases hx : x ∈ putAll [] r
  · rw [put_old hx, ih]
    by_cases hb : V.str x = b
    · rw [show keep b [x] = [] by unfold keep; rw [List.filter_cons_of_neg (by simp [hb])]; rfl]
      rfl
    · rw [show keep b [x] = [x] by unfold keep; rw [List.filter_cons_of_pos (by simp [hb])]; rfl]
      have m : x ∈ putAll l (keep b r) := mem_putAll.mpr (.inr (keep_mem.mpr ⟨(mem_putAll.mp hx).elim (fun z => by cases z) id, hb⟩))
      exact (put_old m).symm
  · rw [show put (putAll [] r) x = putAll [] r ++ [x] from if_neg hx, keep_app, putAll_app, ih]
def Tm.raw : Tm → List Str
  | .num _ => []
  | .name x => [x]
  | .bin _ a b => a.raw ++ b.raw
  | .cond c a b => c.raw ++ (a.raw ++ b.raw)
  | .letx x a b => a.raw ++ keep (.str x) b.raw
  | .turns _ x a b => a.raw ++ keep (.str x) b.raw
  | .deff f x _ a b => keep (.str x) a.raw ++ keep (.str f) b.raw
  | .use f a => f :: a.raw
  | .un _ a => a.raw
def Tm.loose (t : Tm) : List Str := putAll [] t.raw
def Tm.own : Tm → List Str
  | .name x => [x]
  | .use f _ => [f]
  | _ => []
def Tm.bounds : Tm → List V
  | .letx x _ _ => [.non, .str x]
  | .turns _ x _ _ => [.non, .str x]
  | .deff f x _ _ _ => [.str x, .str f]
  | t => List.replicate t.parts.length .non
def rawAll : List V → List (List Str) → List Str
  | b :: bs, l :: ls => keep b l ++ rawAll bs ls
  | _, _ => []
theorem keep_non (l : List Str) : keep .non l = l := by
  unfold keep
  rw [List.filter_eq_self]
  intro x _
  rfl
theorem Tm.raw_eq (t : Tm) : t.raw = t.own ++ rawAll t.bounds (t.parts.map Tm.raw) := by
  cases t <;> simp only [Tm.raw, Tm.own, Tm.bounds, Tm.parts, List.map_cons, List.map_nil, List.length_cons, List.length_nil, List.replicate, rawAll, keep_non, List.append_nil, List.nil_append, List.cons_append]
theorem Tm.bounds_len (t : Tm) : t.bounds.length = t.parts.length := by
  cases t <;> rfl
theorem rawAll_take : ∀ {bs : List V} {ls : List (List Str)} {i : Nat} {b : V} {l : List Str}, bs[i]? = some b → ls[i]? = some l → rawAll (bs.take (i + 1)) (ls.take (i + 1)) = rawAll (bs.take i) (ls.take i) ++ keep b l
  | [], _, _, _, _, h, _ => by simp at h
  | _ :: _, [], _, _, _, _, h => by simp at h
  | b0 :: bs, l0 :: ls, 0, b, l, h1, h2 => by
    simp only [List.getElem?_cons_zero, Option.some.injEq] at h1 h2
    subst h1 h2
    simp only [List.take_succ_cons, List.take_zero, rawAll, List.append_nil, List.nil_append]
  | b0 :: bs, l0 :: ls, i + 1, b, l, h1, h2 => by
    simp only [List.getElem?_cons_succ] at h1 h2
    rw [List.take_succ_cons, List.take_succ_cons, List.take_succ_cons, List.take_succ_cons]
    show keep b0 l0 ++ rawAll (bs.take (i + 1)) (ls.take (i + 1)) = keep b0 l0 ++ rawAll (bs.take i) (ls.take i) ++ keep b l
    rw [rawAll_take h1 h2, List.append_assoc]
theorem own_put (t : Tm) : putAll [] t.own = t.own := by
  cases t <;> first | rfl | (show put [] _ = _; exact if_neg (by simp))
theorem Tm.raw_len : ∀ t : Tm, t.raw.length ≤ t.size := by
  have kl : ∀ (b : V) (l : List Str), (keep b l).length ≤ l.length := fun b l => List.length_filter_le _ _
  intro t
  induction t with
  | num n => exact Nat.zero_le _
  | name n => exact Nat.le_refl _
  | bin o a b iha ihb => simp only [Tm.raw, Tm.size, List.length_append]; omega
  | cond c a b ihc iha ihb => simp only [Tm.raw, Tm.size, List.length_append]; omega
  | letx x a b iha ihb => have := kl (.str x) b.raw; simp only [Tm.raw, Tm.size, List.length_append]; omega
  | turns n x a b iha ihb => have := kl (.str x) b.raw; simp only [Tm.raw, Tm.size, List.length_append]; omega
  | deff f x k a b iha ihb => have := kl (.str x) a.raw; have := kl (.str f) b.raw; simp only [Tm.raw, Tm.size, List.length_append]; omega
  | use f a iha => simp only [Tm.raw, Tm.size, List.length_cons]; omega
  | un o a iha => simp only [Tm.raw, Tm.size]; omega
theorem putAll_len : ∀ (r l : List Str), (putAll l r).length ≤ l.length + r.length
  | [], l => Nat.le_refl _
  | x :: r, l => by
    have h := putAll_len r (put l x)
    have h2 : (put l x).length ≤ l.length + 1 := by
      unfold put
      split
      · omega
      · rw [List.length_append]
        exact Nat.le_refl _
    show (putAll (put l x) r).length ≤ l.length + (r.length + 1)
    omega
theorem Tm.loose_len (t : Tm) : t.loose.length ≤ t.size := by
  have h := putAll_len t.raw []
  have h2 := t.raw_len
  unfold Tm.loose
  simp only [List.length_nil] at h
  omega
/-- a dict of True by name -/
def trues (l : List Str) : List (Key × V) := l.map fun x => (.inr x, .bl true)
theorem trues_put (l : List Str) (x : Str) : putK (trues l) (.inr x) (.bl true) = trues (put l x) := by
  unfold putK put trues
  by_cases h : x ∈ l
  · have e : ((l.map fun x => ((Sum.inr x : Key), V.bl true)).any fun kv => decide (kv.1 = Sum.inr x)) = true := by
      rw [List.any_eq_true]
      exact ⟨_, List.mem_map.mpr ⟨x, h, rfl⟩, decide_eq_true rfl⟩
    rw [if_pos e, if_pos h, List.map_map]
    refine List.map_congr_left fun y _ => ?_
    show (if (Sum.inr y : Key) = Sum.inr x then _ else _) = _
    by_cases hy : (Sum.inr y : Key) = Sum.inr x
    · rw [if_pos hy]
    · rw [if_neg hy]
  · have e : ¬ ((l.map fun x => ((Sum.inr x : Key), V.bl true)).any fun kv => decide (kv.1 = Sum.inr x)) = true := fun z => by
      obtain ⟨kv, hk, hd⟩ := List.any_eq_true.mp z
      obtain ⟨y, hy, rfl⟩ := List.mem_map.mp hk
      have := Sum.inr.inj (of_decide_eq_true hd)
      exact h (this ▸ hy)
    rw [if_neg e, if_neg h, List.map_append]
    rfl
theorem trues_len (l : List Str) : (trues l).length = l.length := List.length_map _
theorem trues_keys (l : List Str) : (trues l).map (fun kv => kV kv.1) = l.map V.str := by
  unfold trues
  rw [List.map_map]
  rfl
/-- lists of names, none of them at S -/
def NmsAt (H : Hp) (S : List Addr) : List V → List (List Str) → Prop
  | [], [] => True
  | v :: vs, l :: ls => (∃ a, v = .ref a ∧ a ∉ S ∧ H a = some (.lst (l.map V.str))) ∧ NmsAt H S vs ls
  | _, _ => False
theorem NmsAt.mono {H H' : Hp} {S : List Addr} (e : ∀ b o, b ∉ S → H b = some o → H' b = some o) : ∀ {vs : List V} {ls : List (List Str)}, NmsAt H S vs ls → NmsAt H' S vs ls
  | [], [], _ => True.intro
  | _ :: _, _ :: _, ⟨⟨a, h1, h2, h3⟩, r⟩ => ⟨⟨a, h1, h2, e _ _ h2 h3⟩, NmsAt.mono e r⟩
  | [], _ :: _, h => h.elim
  | _ :: _, [], h => h.elim
theorem NmsAt.len {H : Hp} {S : List Addr} : ∀ {vs : List V} {ls : List (List Str)}, NmsAt H S vs ls → vs.length = ls.length
  | [], [], _ => rfl
  | _ :: _, _ :: _, ⟨_, r⟩ => congrArg (· + 1) (NmsAt.len r)
  | [], _ :: _, h => h.elim
  | _ :: _, [], h => h.elim
theorem NmsAt.get {H : Hp} {S : List Addr} : ∀ {vs : List V} {ls : List (List Str)} {i : Nat} {l : List Str}, NmsAt H S vs ls → ls[i]? = some l → ∃ a, vs[i]? = some (.ref a) ∧ a ∉ S ∧ H a = some (.lst (l.map V.str))
  | [], [], _, _, _, e => by simp at e
  | v :: vs, l :: ls, 0, _, ⟨⟨a, h1, h2, h3⟩, _⟩, e => by
    simp only [List.getElem?_cons_zero, Option.some.injEq] at e
    subst e h1
    exact ⟨a, rfl, h2, h3⟩
  | v :: vs, l :: ls, i + 1, _, ⟨_, r⟩, e => by
    simp only [List.getElem?_cons_succ] at e
    obtain ⟨a, q1, q2⟩ := NmsAt.get r e
    exact ⟨a, by simpa using q1, q2⟩
  | [], _ :: _, _, _, h, _ => h.elim
  | _ :: _, [], _, _, h, _ => h.elim
theorem NmsAt.snoc {H : Hp} {S : List Addr} {a : Addr} {l : List Str} (h1 : a ∉ S) (h2 : H a = some (.lst (l.map V.str))) : ∀ {vs : List V} {ls : List (List Str)}, NmsAt H S vs ls → NmsAt H S (vs ++ [.ref a]) (ls ++ [l])
  | [], [], _ => ⟨⟨a, rfl, h1, h2⟩, True.intro⟩
  | _ :: _, _ :: _, ⟨h, r⟩ => ⟨h, NmsAt.snoc h1 h2 r⟩
  | [], _ :: _, h => h.elim
  | _ :: _, [], h => h.elim
theorem NmsAt.more {H : Hp} {S : List Addr} {D : Addr} (n : H D = none) : ∀ {vs : List V} {ls : List (List Str)}, NmsAt H S vs ls → NmsAt H (D :: S) vs ls
  | [], [], _ => True.intro
  | _ :: _, _ :: _, ⟨⟨a, h1, h2, h3⟩, r⟩ => ⟨⟨a, h1, fun z => (List.mem_cons.mp z).elim (ne_of_none h3 n) h2, h3⟩, NmsAt.more n r⟩
  | [], _ :: _, h => h.elim
  | _ :: _, [], h => h.elim
def spBounds : Sp := fun vs H Q _ => ∃ (t : Tm) (h : Addr), vs = [.ref h, .int (t.parts.length : Int)] ∧ H h = some (.tup t.head) ∧ ∀ (r : Addr) (H' : Hp), H r = none → Same H H' → H' r = some (.lst t.bounds) → Q (.ref r) H'
def spLooseNames : Sp := fun vs H Q _ => ∃ (t : Tm) (h pl : Addr) (S : List Addr) (ws : List V), vs = [.ref h, .ref pl] ∧ H h = some (.tup t.head) ∧ H pl = some (.lst ws) ∧ NmsAt H S ws (t.parts.map Tm.loose) ∧ t.size ≤ 900000 ∧
  ∀ (r : Addr) (H' : Hp), H r = none → Same H H' → H' r = some (.lst (t.loose.map V.str)) → Q (.ref r) H'
def spLoose : Sp := fun vs H Q _ => ∃ (t : Tm) (v : V), vs = [v] ∧ TmAt H t v ∧ t.Ok ∧ t.deep ≤ 60 ∧ t.size ≤ 900000 ∧ ∀ (r : Addr) (H' : Hp), H r = none → Same H H' → H' r = some (.lst (t.loose.map V.str)) → Q (.ref r) H'
abbrev s_bound_in_parts : Stmt := topS 9
theorem sc_bound_in_parts : FnScope ["head", "many"] ["head", "many"] (defScope s_bound_in_parts) := ⟨rfl, rfl, rfl, by decide +kernel, rfl, by decide +kernel, by decide +kernel⟩
abbrev s_loose_names : Stmt := topS 8
theorem sc_loose_names : FnScope ["head", "loose_in_parts", "found", "names", "bound", "name"] ["head", "loose_in_parts"] (defScope s_loose_names) := ⟨rfl, rfl, rfl, by decide +kernel, rfl, by decide +kernel, by decide +kernel⟩
section
variable {P : Program} {w : World} {K : PySem.W.Frag} {mg : Str → Option Value} {base : Heap} {pa ta C f f1 f2 f3 f4 f5 f6 f7 f8 : Addr} {fd fd1 fd2 fd3 fd4 fd5 fd6 fd7 fd8 : FuncData}
theorem ok_bounds (F : Fun K "bound_in_parts" "bound_in_parts" s_bound_in_parts f fd) : FnOk P w K mg base CX0 1 f fd ["head", "many"] spBounds := by
  refine F.ok sc_bound_in_parts (fun vs H Q E h => ?_) (fun cdv A outer s H vs Q E hr h => ?_)
  · obtain ⟨t, h, rfl, _⟩ := h
    rfl
  obtain ⟨t, h, rfl, hh, q⟩ := h
  have hh' := hh
  rw [t.head_eq] at hh'
  refine ⟨_, (pss_cons (ps_if (pt_cmpR op_eq (pe_ix ix_tup (pv 0) pe_int (fun _ _ => rfl)) pe_str (nomark _)) (pss_one (ps_ret (pe_lst (pa_cons pe_non (pa_cons (pe_ix ix_tup (pv 0) pe_int (fun _ _ => rfl)) pa_nil))))) pss_nil)
      (pss_cons (ps_if (pt_cmpR op_eq (pe_ix ix_tup (pv 0) pe_int (fun _ _ => rfl)) pe_str (nomark _)) (pss_one (ps_ret (pe_lst (pa_cons pe_non (pa_cons (pe_ix ix_tup (pv 0) pe_int (fun _ _ => rfl)) pa_nil))))) pss_nil)
      (pss_cons (ps_if (pt_cmpR op_eq (pe_ix ix_tup (pv 0) pe_int (fun _ _ => rfl)) pe_str (nomark _)) (pss_one (ps_ret (pe_lst (pa_cons (pe_ix ix_tup (pv 0) pe_int (fun _ _ => rfl)) (pa_cons (pe_ix ix_tup (pv 0) pe_int (fun _ _ => rfl)) pa_nil))))) pss_nil)
      (pss_one (ps_ret (pe_op op_rep (pe_lst (pa_cons pe_non pa_nil)) (pv 1))))))), ?_⟩
  refine ⟨_, rfl, h, _, _, _, rfl, rfl, SqT.of hh', atI_n (n := 0) rfl rfl, rfl, _, rfl, ite2 (fun c1 => ?_) fun c1 => ?_⟩
  · obtain ⟨x, a, b, rfl⟩ := w_let (str_w .let c1)
    exact ⟨_, rfl, h, _, _, _, rfl, rfl, SqT.of hh, atI_n (n := 1) rfl rfl, sz 2, fun r nr => q r _ nr (same_new nr _) upd_same⟩
  refine ⟨_, rfl, h, _, _, _, rfl, rfl, SqT.of hh', atI_n (n := 0) rfl rfl, rfl, _, rfl, ite2 (fun c2 => ?_) fun c2 => ?_⟩
  · obtain ⟨n, x, a, b, rfl⟩ := w_turns (str_w .turns c2)
    exact ⟨_, rfl, h, _, _, _, rfl, rfl, SqT.of hh, atI_n (n := 2) rfl rfl, sz 2, fun r nr => q r _ nr (same_new nr _) upd_same⟩
  refine ⟨_, rfl, h, _, _, _, rfl, rfl, SqT.of hh', atI_n (n := 0) rfl rfl, rfl, _, rfl, ite2 (fun c3 => ?_) fun c3 => ?_⟩
  · obtain ⟨g, x, k, a, b, rfl⟩ := w_def (str_w .def c3)
    exact ⟨_, rfl, h, _, _, _, rfl, rfl, SqT.of hh, atI_n (n := 2) rfl rfl, _, rfl, h, _, _, _, rfl, rfl, SqT.of hh, atI_n (n := 1) rfl rfl, sz 2, fun r nr => q r _ nr (same_new nr _) upd_same⟩
  have h3 := t.len_parts
  have e : (List.replicate ((t.parts.length : Int).toNat) [V.non]).flatten = t.bounds := by
    rw [Int.toNat_natCast]
    cases t with
    | letx x a b => exact absurd rfl (str_nw .let c1)
    | turns n x a b => exact absurd rfl (str_nw .turns c2)
    | deff g x k a b => exact absurd rfl (str_nw .def c3)
    | _ => rfl
  refine ⟨sz 1, fun p np => ⟨_, rfl, p, _, _, rfl, rfl, upd_same, by omega, by omega, sz _ (by rw [Int.toNat_natCast]; show 1 * _ ≤ _; omega), fun r nr => ?_⟩⟩
  have s1 := same_new np (.lst [V.non])
  rw [e]
  exact q r _ (s1.free nr) (s1.trans (same_new nr _)) upd_same
end

section
variable {P : Program} {w : World} {K : PySem.W.Frag} {mg : Str → Option Value} {base : Heap} {pa ta C f f1 f2 f3 f4 f5 f6 f7 f8 : Addr} {fd fd1 fd2 fd3 fd4 fd5 fd6 fd7 fd8 : FuncData}
theorem bounds_scal {t : Tm} {b : V} (h : b ∈ t.bounds) (n : Str) : scal (.str n) b = true := by
  have h' : b = .non ∨ ∃ x, b = .str x := by
    cases t with
    | num n => cases h
    | name n => cases h
    | letx x a b => simp only [Tm.bounds, List.mem_cons, List.not_mem_nil, or_false] at h; exact h.imp id fun e => ⟨_, e⟩
    | turns n x a b => simp only [Tm.bounds, List.mem_cons, List.not_mem_nil, or_false] at h; exact h.imp id fun e => ⟨_, e⟩
    | deff f x k a b => simp only [Tm.bounds, List.mem_cons, List.not_mem_nil, or_false] at h; exact .inr (h.elim (fun e => ⟨_, e⟩) fun e => ⟨_, e⟩)
    | bin o a b => exact .inl (List.eq_of_mem_replicate h)
    | cond c a b => exact .inl (List.eq_of_mem_replicate h)
    | use f a => exact .inl (List.eq_of_mem_replicate h)
    | un o a => exact .inl (List.eq_of_mem_replicate h)
  rcases h' with rfl | ⟨x, rfl⟩ <;> rfl
theorem loose_eq (t : Tm) : t.loose = putAll t.own (rawAll t.bounds (t.parts.map Tm.raw)) := by
  unfold Tm.loose
  rw [t.raw_eq, putAll_app, own_put]
theorem keep_take (b : V) {l : List Str} {j : Nat} {n : Str} (h : l[j]? = some n) : keep b (l.take (j + 1)) = keep b (l.take j) ++ if V.str n = b then [] else [n] := by
  rw [List.take_add_one, h, keep_app]
  congr 1
  unfold keep
  by_cases e : V.str n = b
  · rw [if_pos e]
    exact List.filter_cons_of_neg (by simp [e])
  · rw [if_neg e]
    exact List.filter_cons_of_pos (by simp [e])
theorem rawAll_len : ∀ (bs : List V) (ls : List (List Str)), (rawAll bs ls).length ≤ (ls.map List.length).sum
  | [], ls => Nat.zero_le _
  | _ :: _, [] => Nat.le_refl _
  | b :: bs, l :: ls => by
    have h1 : (keep b l).length ≤ l.length := List.length_filter_le _ _
    have h2 := rawAll_len bs ls
    show (keep b l ++ rawAll bs ls).length ≤ _
    rw [List.length_append, List.map_cons, List.sum_cons]
    omega
theorem ok_loose_names (F : Fun K "loose_names" "loose_names" s_loose_names f fd) (T : Txt mg) (C_bound_in_parts : Cal P w K mg base "bound_in_parts" ["head", "many"] 1 spBounds f1 fd1) : FnOk P w K mg base CX0 2 f fd ["head", "loose_in_parts"] spLooseNames := by
  refine F.ok sc_loose_names (fun vs H Q E h => ?_) (fun cdv A outer s H vs Q E hr h => ?_)
  · obtain ⟨t, h, pl, S, ws, rfl, _⟩ := h
    rfl
  obtain ⟨t, h, pl, S, ws, rfl, hh, hp, hw, hz, q⟩ := h
  have hh' := hh
  rw [t.head_eq] at hh'
  have wl := hw.len
  rw [List.length_map] at wl
  have bl := t.bounds_len
  have zl : ∀ i, (putAll t.own (rawAll (t.bounds.take i) ((t.parts.map Tm.raw).take i))).length ≤ 900001 := fun i => by
    have h1 := putAll_len (rawAll (t.bounds.take i) ((t.parts.map Tm.raw).take i)) t.own
    have h2 := rawAll_len (t.bounds.take i) ((t.parts.map Tm.raw).take i)
    have h3 : (((t.parts.map Tm.raw).take i).map List.length).sum ≤ sizes t.parts := by
      rw [sizes_sum]
      generalize t.parts = ps
      clear h1 h2 q hw wl bl hh hh' hp hz
      induction ps generalizing i with
      | nil => rw [List.map_nil, List.take_nil]; exact Nat.le_refl _
      | cons a r ih =>
        cases i with
        | zero => exact Nat.zero_le _
        | succ i =>
          have := ih i
          have := a.raw_len
          rw [List.map_cons, List.take_succ_cons, List.map_cons, List.sum_cons, List.map_cons, List.sum_cons]
          omega
    have h4 := t.size_parts
    have h5 : t.own.length ≤ 1 := by cases t <;> simp [Tm.own]
    omega
  refine ⟨_, (pss_cons (ps_set (i := 2) sc_loose_names.nd rfl (Or.inl rfl) pe_dnewK)
      (pss_cut (ps_if (pt_k (PW.pt (pw_or (pt_cmpR op_eq (pe_ix ix_tup (pv 0) pe_int (fun _ _ => rfl)) pe_str (nomark _)) (pw_or1 (pt_cmpR op_eq (pe_ix ix_tup (pv 0) pe_int (fun _ _ => rfl)) pe_str (nomark _)))))) (pss_one (ps_dput (hu_of hr) (pv 2) (pe_ix ix_tup (pv 0) pe_int (fun _ _ => rfl)) pe_bl rfl)) pss_nil)
      (pss_cons (ps_for PassesOwn.never rfl (pi_zip (by rfl) T.zip (pa_cons (pv 1) (pa_cons (pe_call C_bound_in_parts.ok (hr.mono (by first | decide | omega)) rfl C_bound_in_parts.m C_bound_in_parts.kp C_bound_in_parts.b .nil pass0 (pa_cons (pv 0) (pa_cons (pe_callB call_len_seq (by rfl) T.len PySem.boot_len (pa_cons (pv 1) pa_nil)) pa_nil))) pa_nil))) (pg_tup rfl (pgs_cons (pg_name (i := 3) sc_loose_names.nd rfl (Or.inl rfl)) (pgs_cons (pg_name (i := 4) sc_loose_names.nd rfl (Or.inl rfl)) pgs_nil))) (pss_one (ps_for PassesOwn.never rfl (pi_list (pv 3)) (pg_name (i := 5) sc_loose_names.nd rfl (Or.inl rfl)) (pss_one (ps_if (pt_cmpR op_ne (pv 5) (pv 4) (nomark _)) (pss_one (ps_dput (hu_of hr) (pv 2) (pv 5) pe_bl rfl)) pss_nil)))))
      (pss_one (ps_ret (pe_callTy (call_list_dK rfl) (by rfl) T.list (by decide +kernel) (pa_cons (pv 2) pa_nil))))))), ?_⟩
  intro fa nfa
  have sfa : ∀ o, Same H (upd H fa o) := fun o => same_new nfa o
  refine ⟨fun σ H' => σ = [some (.ref h), some (.ref pl), some (.ref fa), none, none, none] ∧ Same H H' ∧ H' fa = some (.dK (trues t.own)), ?_, ?_⟩
  · refine ⟨fun b H' => upd H fa (.dK []) = H' ∧ b = decide (t.w = .name ∨ t.w = .use), ?_, ?_⟩
    · refine ⟨_, rfl, h, _, _, _, rfl, rfl, SqT.of (sfa _ _ _ hh'), atI_n (n := 0) rfl rfl, rfl, _, rfl, ite2 (fun c => ?_) fun c => ?_⟩
      · exact ⟨rfl, (decide_eq_true (.inl (str_w .name c))).symm⟩
      · refine ⟨_, rfl, h, _, _, _, rfl, rfl, SqT.of (sfa _ _ _ hh'), atI_n (n := 0) rfl rfl, rfl, _, rfl, rfl, ?_⟩
        by_cases c2 : t.w = .use
        · have e : decide (t.w = .name ∨ t.w = .use) = true := decide_eq_true (.inr c2)
          rw [e, c2]
          exact decide_eq_true rfl
        · have e : decide (t.w = .name ∨ t.w = .use) = false := decide_eq_false fun z => z.elim (str_nw .name c) c2
          rw [e]
          exact decide_eq_false fun z => c2 (W.inj (V.str.inj z))
    rintro b _ ⟨rfl, rfl⟩
    refine ite2 (fun c => ?_) fun c => ?_
    · rcases of_decide_eq_true c with c | c
      · obtain ⟨x, rfl⟩ := w_name c
        refine ⟨_, rfl, _, rfl, h, _, _, _, rfl, rfl, SqT.of (sfa _ _ _ hh), atI_n (n := 1) rfl rfl, fa, _, rfl, DPut.k (k := .inr x) upd_same (by decide), rfl, ?_, ?_⟩
        · rw [upd_upd]
          exact sfa _
        · rw [upd_same]
          exact congrArg (fun z => some (HO.dK z)) (trues_put [] x)
      · obtain ⟨g, a, rfl⟩ := w_use c
        refine ⟨_, rfl, _, rfl, h, _, _, _, rfl, rfl, SqT.of (sfa _ _ _ hh), atI_n (n := 1) rfl rfl, fa, _, rfl, DPut.k (k := .inr g) upd_same (by decide), rfl, ?_, ?_⟩
        · rw [upd_upd]
          exact sfa _
        · rw [upd_same]
          exact congrArg (fun z => some (HO.dK z)) (trues_put [] g)
    · have c' : ¬ (t.w = .name ∨ t.w = .use) := fun z => c (decide_eq_true z)
      refine ⟨rfl, sfa _, ?_⟩
      have e : t.own = [] := by
        cases t with
        | name x => exact absurd (.inl rfl) c'
        | use g a => exact absurd (.inr rfl) c'
        | _ => rfl
      rw [e]
      exact upd_same
  rintro σ H1 ⟨rfl, g1, hfa⟩
  -- for names, bound in zip(loose_in_parts, bound_in_parts(head, len(loose_in_parts)))
  refine ⟨_, rfl, _, rfl, _, rfl, pl, _, rfl, .inl (SqL.of (g1 _ _ hp)), t, h, by rw [wl]; rfl, g1 _ _ hh, fun rb H3 nrb e3 hrb => ?_⟩
  have g3 := g1.trans e3
  have hp3 := g3 _ _ hp
  have npf : pl ≠ fa := ne_of_none hp nfa
  have nrf : rb ≠ fa := fun z => by rw [z, hfa] at nrb; cases nrb
  refine ⟨pl, rb, ws, t.bounds, rfl, SqL.of hp3, SqL.of hrb, RZ.for_zipL (K := K) (by omega) (fun i σ H' => ∃ o1 o2 o3 : Option V, σ = [some (.ref h), some (.ref pl), some (.ref fa), o1, o2, o3] ∧ (∀ b o, b ≠ fa → H3 b = some o → H' b = some o) ∧
      H' fa = some (.dK (trues (putAll t.own (rawAll (t.bounds.take i) ((t.parts.map Tm.raw).take i)))))) ⟨none, none, none, rfl, fun _ _ _ z => z, by rw [List.take_zero]; exact e3 _ _ hfa⟩ (fun i σ H' ⟨_, _, _, _, z, _⟩ => ⟨SqL.of (z _ _ npf hp3), SqL.of (z _ _ nrf hrb)⟩) ?_ ?_⟩
  · rintro i x y Tn σ H' hx hy ⟨o1, o2, o3, rfl, k3, hf3⟩ nT
    have il : i < t.parts.length := by
      have := (List.getElem?_eq_some_iff.mp hx).1
      omega
    obtain ⟨la, hla, _, ha⟩ := hw.get (i := i) (l := t.parts[i].loose) (by rw [List.getElem?_map, List.getElem?_eq_getElem il]; rfl)
    rw [hx] at hla
    cases hla
    have naf : la ≠ fa := ne_of_none ha nfa
    have s9 := same_new nT (.tup [V.ref la, y])
    have ha9 := s9 _ _ (k3 _ _ naf (g3 _ _ ha))
    have hf9 := s9 _ _ hf3
    have k9 : ∀ b o, b ≠ fa → H3 b = some o → upd H' Tn (.tup [V.ref la, y]) b = some o := fun b o n z => s9 _ _ (k3 b o n z)
    refine ⟨Tn, _, rfl, SqT.of upd_same, rfl, _, _, rfl, _, _, rfl, rfl, ?_⟩
    generalize upd H' Tn (.tup [V.ref la, y]) = H9 at ha9 hf9 k9 ⊢
    refine ⟨_, rfl, la, rfl, ⟨_, SqL.of ha9⟩, for_list (K := K) (a := la) (xs := t.parts[i].loose.map V.str) (fun j σ H'' => ∃ o5 : Option V, σ = [some (.ref h), some (.ref pl), some (.ref fa), some (.ref la), some y, o5] ∧ (∀ b o, b ≠ fa → H9 b = some o → H'' b = some o) ∧
      H'' fa = some (.dK (trues (putAll (putAll t.own (rawAll (t.bounds.take i) ((t.parts.map Tm.raw).take i))) (keep y (t.parts[i].loose.take j)))))) ⟨o3, rfl, fun _ _ _ z => z, by rw [List.take_zero]; exact hf9⟩ (fun j σ H'' _ ⟨_, _, z, _⟩ => SqL.of (z _ _ naf ha9)) ?_ ?_⟩
    · rintro j nv σ H'' hj ⟨o5, rfl, k5, hf5⟩
      rw [List.getElem?_map] at hj
      obtain ⟨nm, hn⟩ : ∃ nm, t.parts[i].loose[j]? = some nm := by
        cases z : t.parts[i].loose[j]? with
        | none => rw [z] at hj; cases hj
        | some p => exact ⟨p, rfl⟩
      rw [hn] at hj
      cases hj
      refine ⟨_, rfl, _, rfl, bounds_scal (List.mem_of_getElem? hy) nm, _, rfl, ite2 (fun c => ?_) fun c => ?_⟩
      · have ne : ¬ V.str nm = y := fun z => by rw [decide_eq_true z] at c; cases c
        have lt9 : (trues (putAll (putAll t.own (rawAll (t.bounds.take i) ((t.parts.map Tm.raw).take i))) (keep y (t.parts[i].loose.take j)))).length < sizeLine := by
          rw [trues_len]
          have h1 := putAll_len (keep y (t.parts[i].loose.take j)) (putAll t.own (rawAll (t.bounds.take i) ((t.parts.map Tm.raw).take i)))
          have h2 := zl i
          have h3 : (keep y (t.parts[i].loose.take j)).length ≤ (t.parts[i].loose.take j).length := List.length_filter_le _ _
          have h4 : (t.parts[i].loose.take j).length ≤ t.parts[i].loose.length := by rw [List.length_take]; exact Nat.min_le_right _ _
          have h5 := t.parts[i].loose_len
          have h6 := Tm.part_size (List.getElem_mem il)
          exact Nat.lt_of_le_of_lt (by omega : _ ≤ 1900000) (by decide)
        refine ⟨_, rfl, _, rfl, fa, _, rfl, DPut.k (k := .inr nm) hf5 lt9, _, rfl, fun b o n z => ?_, ?_⟩
        · rw [upd_ne n]
          exact k5 b o n z
        · rw [upd_same, trues_put, keep_take y hn, if_neg ne, putAll_snoc]
      · have e : V.str nm = y := by
          by_cases z : V.str nm = y
          · exact z
          · rw [decide_eq_false z] at c
            exact absurd rfl c
        refine ⟨_, rfl, k5, ?_⟩
        rw [keep_take y hn, if_pos e, List.append_nil]
        exact hf5
    · rintro σ H'' ⟨o5, rfl, k5, hf5⟩
      rw [List.length_map, List.take_length] at hf5
      refine ⟨_, _, _, rfl, fun b o n z => k5 b o n (k9 b o n z), ?_⟩
      have e1 : putAll (putAll t.own (rawAll (t.bounds.take i) ((t.parts.map Tm.raw).take i))) (keep y t.parts[i].loose) = putAll t.own (rawAll (t.bounds.take (i + 1)) ((t.parts.map Tm.raw).take (i + 1))) := by
        rw [rawAll_take hy (show (t.parts.map Tm.raw)[i]? = some t.parts[i].raw by rw [List.getElem?_map, List.getElem?_eq_getElem il]; rfl), putAll_app]
        exact putAll_thin y _ _
      rw [← e1]
      exact hf5
  · rintro σ H' ⟨o1, o2, o3, rfl, k3, hf3⟩
    have e1 : t.bounds.take ws.length = t.bounds := List.take_of_length_le (by omega)
    have e2 : (t.parts.map Tm.raw).take ws.length = t.parts.map Tm.raw := List.take_of_length_le (by rw [List.length_map]; omega)
    rw [e1, e2, ← loose_eq] at hf3
    refine ⟨_, rfl, fa, _, rfl, hf3, fun r nr => ?_⟩
    rw [trues_keys]
    have gg : Same H H' := fun b o z => k3 b o (ne_of_none z nfa) (g3 _ _ z)
    exact q r _ (gg.free nr) (gg.trans (same_new nr _)) upd_same
end

section
variable {P : Program} {w : World} {K : PySem.W.Frag} {mg : Str → Option Value} {base : Heap} {pa ta C f f1 f2 f3 f4 f5 f6 f7 f8 : Addr} {fd fd1 fd2 fd3 fd4 fd5 fd6 fd7 fd8 : FuncData}
/-- only the lists that stand there count -/
theorem RowsAt.live {H : Hp} {R : Addr} {ts : List Tm} {Ps : List Addr} (h : RowsAt H R ts Ps) : ∃ Ps', RowsAt H R ts Ps' ∧ ∀ p ∈ Ps', H p ≠ none := by
  classical
  obtain ⟨rs, h1, h2, h3⟩ := h
  refine ⟨Ps.filter fun p => decide (H p ≠ none), ⟨rs, h1, h2, fun i t hi => ?_⟩, fun p hp => of_decide_eq_true (List.mem_filter.mp hp).2⟩
  obtain ⟨r, h, pl, ps, a1, a2, a3, a4, a5, a6⟩ := h3 i t hi
  exact ⟨r, h, pl, ps, a1, a2, a3, a4, List.mem_filter.mpr ⟨a5, decide_eq_true (by rw [a4]; exact fun z => nomatch z)⟩, a6⟩
/-- for each row the names loose in its term, in new lists -/
def spLooseRows : Sp := fun vs H Q _ => ∃ (R : Addr) (ts : List Tm) (Ps : List Addr), vs = [.ref R] ∧ RowsAt H R ts Ps ∧ ts.length ≤ 900000 ∧ (∀ u ∈ ts, u.size ≤ 900000) ∧
  ∀ (S : Addr) (ws : List V) (H' : Hp), H S = none → Same H H' → H' S = some (.lst ws) → NmsAt H' [S] ws (ts.map Tm.loose) → (∀ u ∈ ws, ∀ a, u = .ref a → H a = none) → Q (.ref S) H'
abbrev s_loose_in_rows : Stmt := topS 7
theorem sc_loose_in_rows : FnScope ["rows", "loose", "head", "places", "place"] ["rows"] (defScope s_loose_in_rows) := ⟨rfl, rfl, rfl, by decide +kernel, rfl, by decide +kernel, by decide +kernel⟩
theorem ok_loose_rows (F : Fun K "loose_in_rows" "loose_in_rows" s_loose_in_rows f fd) (C_loose_names : Cal P w K mg base "loose_names" ["head", "loose_in_parts"] 2 spLooseNames f2 fd2) : FnOk P w K mg base CX0 3 f fd ["rows"] spLooseRows := by
  refine F.ok sc_loose_in_rows (fun vs H Q E h => ?_) (fun cdv A outer s H vs Q E hr h => ?_)
  · obtain ⟨R, ts, Ps, rfl, _⟩ := h
    rfl
  obtain ⟨R, ts, Ps0, rfl, hrows0, hln, hall, q⟩ := h
  obtain ⟨Ps, hrows1, hPs⟩ := hrows0.live
  refine ⟨_, (pss_cons (ps_set (i := 1) sc_loose_in_rows.nd rfl (Or.inr rfl) (pe_lst pa_nil))
      (pss_cons (ps_for PassesOwn.never rfl (pi_list (pv 0)) (pg_tup rfl (pgs_cons (pg_name (i := 2) sc_loose_in_rows.nd rfl (Or.inl rfl)) (pgs_cons (pg_name (i := 3) sc_loose_in_rows.nd rfl (Or.inl rfl)) pgs_nil))) (pss_one (ps_expr (pe_bm PySem.F.plainAttrs_list PySem.F.slot_list_append PySem.F.type_list_append mt_append (pv 1) (pa_cons (pe_call C_loose_names.ok (hr.mono (by first | decide | omega)) rfl C_loose_names.m C_loose_names.kp C_loose_names.b .nil pass0 (pa_cons (pv 2) (pa_cons (pe_lc (own := [("place", 4)]) (g := (gName 4)) (tt := tYes) (by rfl) sc_loose_in_rows.nd (pi_list (pv 3)) (blkOk_by (own := [("place", 4)]) (N := ["rows", "loose", "head", "places", "place"]) (sc := defScope s_loose_in_rows) (by decide +kernel)) (fun _ _ _ _ _ => (pg_name (i := 4) sc_loose_in_rows.nd rfl (Or.inl rfl))) (fun _ _ _ _ _ => pts_nil) (fun _ _ _ _ _ => (pe_ix (r := rIxL K) ix_list (pv 1) (pv 4) (fun _ _ => rfl)))) pa_nil))) pa_nil)))))
      (pss_one (ps_ret (pv 1))))), ?_⟩
  refine ⟨Nat.zero_le _, fun S nS => ?_⟩
  have sS := same_new nS (.lst [])
  have hrows := hrows1.keep (Keeps.of_same (Ls := []) sS)
  have hS2 : upd H S (.lst []) S = some (.lst []) := upd_same
  obtain ⟨rs, hR, rl, hrs⟩ := id hrows
  have nSR : S ≠ R := fun z => by obtain ⟨_, z1, _⟩ := id hrows1; rw [← z, nS] at z1; cases z1
  have nSP : S ∉ Ps := fun m => hPs _ m nS
  generalize upd H S (.lst []) = H2 at sS hrows hS2 hR hrs ⊢
  -- the lists are new: none of them stood at the start
  refine ⟨_, rfl, R, rfl, ⟨_, SqL.of hR⟩, for_list (K := K) (a := R) (xs := rs) (fun i σ H' => ∃ (o1 o2 : Option V) (vs : List V), σ = [some (.ref R), some (.ref S), o1, o2, none] ∧ Same H H' ∧ RowsAt H' R ts Ps ∧ H' R = some (.lst rs) ∧ H' S = some (.lst vs) ∧ NmsAt H' [S] vs ((ts.take i).map Tm.loose) ∧
      (∀ u ∈ vs, ∀ a, u = .ref a → H a = none)) ⟨none, none, [], rfl, sS, hrows, hR, hS2, by rw [List.take_zero]; exact True.intro, fun u hu => by cases hu⟩ (fun i σ H' _ ⟨_, _, _, _, _, _, z, _⟩ => SqL.of z) ?_ ?_⟩
  · rintro i x σ H' hi ⟨o1, o2, vs, rfl, g, hrows', hR', hS', hvs, hnew⟩
    have hil : i < ts.length := by
      have z := (List.getElem?_eq_some_iff.mp hi).1
      rw [rl] at z
      exact z
    obtain ⟨rs', hR'', _, hrs'⟩ := id hrows'
    rw [hR'] at hR''
    cases hR''
    obtain ⟨r, h, pl, ps, a1, a2, a3, a4, a5, a6⟩ := hrs' i _ (List.getElem?_eq_getElem hil)
    rw [hi] at a1
    cases a1
    have psl : ps.length ≤ 3 := by rw [a6.len]; exact Tm.len_parts _
    have vl := hvs.len
    rw [List.length_map, List.length_take] at vl
    refine ⟨r, _, rfl, SqT.of a2, rfl, _, _, rfl, _, _, rfl, rfl, ?_⟩
    refine ⟨_, rfl, .inl ⟨rfl, _, SqL.of hS'⟩, _, rfl, _, rfl, pl, rfl, ⟨_, SqL.of a4⟩, fun D nD => ?_⟩
    refine lc_list (K := K) (a := pl) (xs := nats ps) (fun j H3 => Same H' H3 ∧ ∃ ws, H3 D = some (.lst ws) ∧ NmsAt H3 [D, S] ws ((ts[i].parts.take j).map Tm.loose)) ⟨same_new nD _, [], upd_same, by rw [List.take_zero]; exact True.intro⟩ (fun j H3 _ z => SqL.of (z.1 _ _ a4)) ?_ ?_
    · rintro j y H3 hj ⟨g3, ws, hD, hws⟩
      unfold nats at hj
      rw [List.getElem?_map] at hj
      obtain ⟨p, hp⟩ : ∃ p, ps[j]? = some p := by
        cases z : ps[j]? with
        | none => rw [z] at hj; cases hj
        | some p => exact ⟨p, rfl⟩
      rw [hp] at hj
      cases hj
      obtain ⟨u, u1, u2, u3⟩ := a6.at hp
      obtain ⟨la, e9, n9, w9⟩ := hvs.get (i := p) (l := u.loose) (by rw [List.getElem?_map, List.getElem?_take_of_lt u2, u3]; rfl)
      have jl : j < ps.length := (List.getElem?_eq_some_iff.mp hp).1
      have wl := hws.len
      rw [List.length_map, List.length_take] at wl
      have naD : la ≠ D := ne_of_none w9 nD
      refine ⟨rfl, _, rfl, _, rfl, S, _, _, _, rfl, rfl, SqL.of (g3 _ _ hS'), atI_nat e9, _, hD, small1000 (by omega), fun b o z => ?_, _, upd_same, ?_⟩
      · rw [upd_ne (ne_of_none z nD)]
        exact g3 b o z
      · rw [List.take_add_one, u1, List.map_append]
        refine NmsAt.snoc (fun z => (List.mem_cons.mp z).elim naD n9) ?_ (hws.mono fun b o n z => ?_)
        · rw [upd_ne naD]
          exact g3 _ _ w9
        · rw [upd_ne fun (z : b = D) => n (by rw [z]; exact List.mem_cons_self)]
          exact z
    · rintro H3 ⟨g3, ws, hD, hws⟩
      have e9 : (nats ps).length = ts[i].parts.length := by unfold nats; rw [List.length_map]; exact a6.len
      rw [e9, List.take_length] at hws
      have hsz : ts[i].size ≤ 900000 := hall _ (List.getElem_mem hil)
      refine ⟨ts[i], h, D, [D, S], ws, rfl, g3 _ _ a3, hD, hws, hsz, fun u H4 nu e4 wu => ?_⟩
      have g4 := g3.trans e4
      have hS4 := g4 _ _ hS'
      have nuS : u ≠ S := fun z => by rw [z, g3 _ _ hS'] at nu; cases nu
      refine ⟨S, _, _, rfl, rfl, hS4, sz9 (by omega), ?_⟩
      have kS : ∀ b o, b ∉ [S] → H4 b = some o → upd H4 S (.lst (vs ++ [V.ref u])) b = some o := fun b o n z => by
        rw [upd_ne fun (y : b = S) => n (by rw [y]; exact List.mem_cons_self)]
        exact z
      refine ⟨_, _, vs ++ [.ref u], rfl, fun b o z => ?_, (hrows'.keep (Keeps.of_same (Ls := []) g4)).put hS4 nSR nSP, ?_, upd_same, ?_, fun y hy a ea => ?_⟩
      · rw [upd_ne (ne_of_none z nS)]
        exact g4 _ _ (g _ _ z)
      · rw [upd_ne nSR.symm]
        exact g4 _ _ hR'
      · rw [List.take_succ_eq_append_getElem hil, List.map_append]
        refine NmsAt.snoc (fun z => nuS (List.mem_singleton.mp z)) (kS _ _ (fun z => nuS (List.mem_singleton.mp z)) wu) ((hvs.mono fun b o _ z => g4 _ _ z).mono kS)
      · rcases List.mem_append.mp hy with hy | hy
        · exact hnew y hy a ea
        · rw [List.mem_singleton.mp hy] at ea
          cases ea
          exact (g.trans g3).free nu
  · rintro σ H' ⟨o1, o2, vs, rfl, g, hrows', hR', hS', hvs, hnew⟩
    rw [rl, List.take_length] at hvs
    exact ⟨_, rfl, q S vs H' nS g hS' hvs hnew⟩
end

/-! ### kinds and levels of terms, as the document's points 4 to 6 tell -/
theorem _root_.L2.Room.units1 {k : Nat} {A : Around} (r : Room k A) : A.units + 65 < cLine := by have := r.un; omega
inductive Er where
  | noName | level | kind
  deriving DecidableEq
/-- what a name means: its level, for a function the kind of its x, its kind -/
structure Ent where
  lv : Bool
  dom : Option Bool
  k : Bool
  deriving DecidableEq
abbrev Env := Str → Option Ent
def Env.set (e : Env) (x : Str) (u : Ent) : Env := fun y => if y = x then some u else e y
def Env.nil : Env := fun _ => none
abbrev Kd := Except Er Bool
def Kd.want (r : Kd) (k : Bool) : Kd := match r with
  | .error e => .error e
  | .ok j => if j = k then .ok k else .error .kind
def Kd.and (r : Kd) (f : Bool → Kd) : Kd := match r with
  | .error e => .error e
  | .ok j => f j
def kd : Tm → Bool → Env → Bool → Kd
  | .num _, _, _, _ => .ok false
  | .name x, l, E, _ => match E x with
    | none => .error .noName
    | some u => if u.lv = l then (match u.dom with
      | none => .ok u.k
      | some _ => .error .kind) else .error .level
  | .use f a, l, E, fr => match E f with
    | none => .error .noName
    | some u => if u.lv = l then (match u.dom with
      | none => .error .kind
      | some d => ((kd a l E fr).want d).and fun _ => .ok u.k) else .error .level
  | .bin _ a b, l, E, fr => ((kd a l E fr).want false).and fun _ => ((kd b l E fr).want false)
  | .cond c a b, l, E, fr => ((kd c l E fr).want false).and fun _ => (kd a l E fr).and fun k => (kd b l E fr).want k
  | .letx x a b, l, E, fr => (kd a l E fr).and fun k => kd b l (E.set x ⟨l, none, k⟩) fr
  | .turns _ x a b, l, E, fr => (kd a l E fr).and fun k => (kd b l (E.set x ⟨l, none, k⟩) fr).want k
  | .deff f x k a b, l, E, fr => if l = true ∧ k = true then .error .kind else
      (kd a l (E.set x ⟨l, none, k⟩) false).and fun j => kd b l (E.set f ⟨l, some k, j⟩) fr
  | .un .quote a, l, E, _ => if l = true then .error .level else ((kd a true E false).want false).and fun _ => .ok true
  | .un .hole a, l, E, _ => if l = false then .error .level else ((kd a false E false).want true).and fun _ => .ok false
  | .un .lift a, l, E, fr => if l = true then .error .level else ((kd a false E fr).want false).and fun _ => .ok true
  | .un .run a, l, E, fr => if l = true ∨ fr = false then .error .level else ((kd a false E fr).want true).and fun _ => .ok false

/-! ### a scope: names with what they mean, the innermost last -/
abbrev Sc := List (Str × Ent)
def look (sc : Sc) : Env := sc.foldl (fun E p => E.set p.1 p.2) Env.nil
theorem look_snoc (sc : Sc) (x : Str) (u : Ent) : look (sc ++ [(x, u)]) = (look sc).set x u := by
  unfold look
  rw [List.foldl_append]
  rfl
theorem foldl_off {x : Str} : ∀ (post : Sc) (E : Env), (∀ p ∈ post, p.1 ≠ x) → (post.foldl (fun E p => E.set p.1 p.2) E) x = E x
  | [], _, _ => rfl
  | p :: r, E, h => by
    show (r.foldl (fun E p => E.set p.1 p.2) (E.set p.1 p.2)) x = E x
    rw [foldl_off r _ fun q m => h q (List.mem_cons_of_mem _ m)]
    exact if_neg fun e => h p List.mem_cons_self e.symm
theorem look_at {sc : Sc} {i : Nat} {x : Str} {u : Ent} (h : sc[i]? = some (x, u)) (off : ∀ p ∈ sc.drop (i + 1), p.1 ≠ x) : look sc x = some u := by
  have hi : i < sc.length := (List.getElem?_eq_some_iff.mp h).1
  have e : sc = sc.take i ++ (x, u) :: sc.drop (i + 1) := by
    have e1 := (List.take_append_drop i sc).symm
    rw [List.drop_eq_getElem_cons hi] at e1
    rw [List.getElem?_eq_getElem hi] at h
    rw [Option.some.inj h] at e1
    exact e1
  rw [e]
  unfold look
  rw [List.foldl_append]
  show ((sc.drop (i + 1)).foldl (fun E p => E.set p.1 p.2) (Env.set _ x u)) x = some u
  rw [foldl_off _ _ off]
  exact if_pos rfl
def lvI (l : Bool) : Int := if l then 1 else 0
def Ent.sig (u : Ent) : List Bool := match u.dom with
  | none => [u.k]
  | some d => [d, u.k]
theorem sig_val {u : Ent} {k : Bool} (h : u.sig = [k]) : u.dom = none ∧ u.k = k := by
  cases u with
  | mk l d j =>
    cases d with
    | none => cases h; exact ⟨rfl, rfl⟩
    | some d => cases h
theorem sig_fn {u : Ent} {d k : Bool} (h : u.sig = [d, k]) : u.dom = some d ∧ u.k = k := by
  cases u with
  | mk l d j =>
    cases d with
    | none => cases h
    | some d => cases h; exact ⟨rfl, rfl⟩
def sigV (s : List Bool) : List V := s.map fun k => .str (kindS k)
def sigD (s : List Bool) : PyData := .tuple (s.map kindD)
def EntAt (H : Hp) (e : Str × Ent) (v : V) : Prop := ∃ p q, v = .ref p ∧ H p = some (.tup [.str e.1, .int (lvI e.2.lv), .ref q]) ∧ H q = some (.tup (sigV e.2.sig))
def entD (e : Str × Ent) : PyData := .tuple [.str e.1, .int (lvI e.2.lv), sigD e.2.sig]
theorem EntAt.mono {H H' : Hp} {e : Str × Ent} {v : V} (t : Tups H H') : EntAt H e v → EntAt H' e v := fun ⟨p, q, h, a, b⟩ => ⟨p, q, h, t _ _ a, t _ _ b⟩
theorem sig_dps {K : PySem.W.Frag} {H : Hp} : ∀ s : List Bool, DpAll K H (sigV s) (s.map kindD)
  | [] => .nil
  | _ :: r => .cons (.str _) (sig_dps r)
theorem sig_dp {K : PySem.W.Frag} {H : Hp} {q : Addr} {s : List Bool} (h : H q = some (.tup (sigV s))) : Dp K H (.ref q) (sigD s) := .tup (SqT.of h) (sig_dps s)
theorem EntAt.dp {K : PySem.W.Frag} {H : Hp} {e : Str × Ent} {v : V} : EntAt H e v → Dp K H v (entD e) := fun ⟨p, q, h, a, b⟩ => by
  rw [h]
  exact .tup (SqT.of a) (.cons (.str _) (.cons (.int _) (.cons (sig_dp b) .nil)))
def ScAt (H : Hp) : Sc → List V → Prop
  | [], [] => True
  | e :: es, v :: vs => EntAt H e v ∧ ScAt H es vs
  | _, _ => False
theorem ScAt.mono {H H' : Hp} (t : Tups H H') : ∀ {es : Sc} {vs : List V}, ScAt H es vs → ScAt H' es vs
  | [], [], _ => True.intro
  | _ :: _, _ :: _, ⟨h, r⟩ => ⟨h.mono t, ScAt.mono t r⟩
  | [], _ :: _, h => h.elim
  | _ :: _, [], h => h.elim
theorem ScAt.len {H : Hp} : ∀ {es : Sc} {vs : List V}, ScAt H es vs → vs.length = es.length
  | [], [], _ => rfl
  | _ :: _, _ :: _, ⟨_, r⟩ => congrArg (· + 1) (ScAt.len r)
  | [], _ :: _, h => h.elim
  | _ :: _, [], h => h.elim
theorem ScAt.app {H : Hp} : ∀ {es fs : Sc} {vs us : List V}, ScAt H es vs → ScAt H fs us → ScAt H (es ++ fs) (vs ++ us)
  | [], _, [], _, _, g => g
  | _ :: _, _, _ :: _, _, ⟨h, r⟩, g => ⟨h, ScAt.app r g⟩
  | [], _, _ :: _, _, h, _ => h.elim
  | _ :: _, _, [], _, h, _ => h.elim
theorem ScAt.get {H : Hp} : ∀ {es : Sc} {vs : List V} {i : Nat} {v : V}, ScAt H es vs → vs[i]? = some v → ∃ e, es[i]? = some e ∧ EntAt H e v
  | e :: _, v :: _, 0, _, ⟨h, _⟩, g => by rw [← Option.some.inj g]; exact ⟨e, rfl, h⟩
  | _ :: _, _ :: _, i + 1, _, ⟨_, r⟩, g => ScAt.get (i := i) r (by simpa using g)
  | [], [], _, _, _, g => by cases g
  | [], _ :: _, _, _, h, _ => h.elim
  | _ :: _, [], _, _, h, _ => h.elim
theorem ScAt.drop {H : Hp} : ∀ {es : Sc} {vs : List V} (n : Nat), ScAt H es vs → ScAt H (es.drop n) (vs.drop n)
  | _, _, 0, h => h
  | [], [], _ + 1, h => h
  | _ :: _, _ :: _, n + 1, ⟨_, r⟩ => ScAt.drop n r
  | [], _ :: _, _ + 1, h => h.elim
  | _ :: _, [], _ + 1, h => h.elim
theorem ScAt.dps {K : PySem.W.Frag} {H : Hp} : ∀ {es : Sc} {vs : List V}, ScAt H es vs → DpAll K H vs (es.map entD)
  | [], [], _ => .nil
  | _ :: _, _ :: _, ⟨h, r⟩ => .cons h.dp (ScAt.dps r)
  | [], _ :: _, h => h.elim
  | _ :: _, [], h => h.elim
/-- a list of ints is no scope's list -/
theorem ScAt.off {H : Hp} {es : Sc} {vs : List V} {c : Int} {r : List V} {a st : Addr} (h : ScAt H es vs) (ha : H a = some (.lst vs)) (hst : H st = some (.lst (.int c :: r))) : a ≠ st := fun z => by
  rw [z, hst] at ha
  cases ha
  match es, h with
  | e :: _, ⟨⟨p, q, z, _⟩, _⟩ => cases z
def Sc.Ok (sc : Sc) : Prop := ∀ p ∈ sc, PyData.strOk p.1 = true
/-- at level 1 a function's x is a number -/
def Sc.Lv (sc : Sc) : Prop := ∀ p ∈ sc, p.2.lv = true → ∀ d, p.2.dom = some d → d = false
def Sc.Good (sc : Sc) : Prop := sc.Ok ∧ sc.Lv
theorem Sc.Good.snoc {sc : Sc} {x : Str} {u : Ent} (h : sc.Good) (hx : PyData.strOk x = true) (hu : u.lv = true → ∀ d, u.dom = some d → d = false) : Sc.Good (sc ++ [(x, u)]) := by
  refine ⟨fun p hp => ?_, fun p hp => ?_⟩ <;> rcases List.mem_append.mp hp with m | m
  · exact h.1 p m
  · rw [List.mem_singleton.mp m]
    exact hx
  · exact h.2 p m
  · rw [List.mem_singleton.mp m]
    exact hu
theorem Sc.Good.val {sc : Sc} {x : Str} {l k : Bool} (h : sc.Good) (hx : PyData.strOk x = true) : Sc.Good (sc ++ [(x, ⟨l, none, k⟩)]) := h.snoc hx fun _ _ z => nomatch z
theorem ext1 {H : Hp} {sc : Sc} {ws : List V} (hA : ScAt H sc ws) (x : Str) (u : Ent) {pa pb pc pd : Addr} {o : HO} (na : H pa = none) (nb : upd H pa (.tup (sigV u.sig)) pb = none)
    (nc : upd (upd H pa (.tup (sigV u.sig))) pb (.tup [.str x, .int (lvI u.lv), .ref pa]) pc = none) (nd : upd (upd (upd H pa (.tup (sigV u.sig))) pb (.tup [.str x, .int (lvI u.lv), .ref pa])) pc o pd = none) (o2 : HO) :
    Same H (upd (upd (upd (upd H pa (.tup (sigV u.sig))) pb (.tup [.str x, .int (lvI u.lv), .ref pa])) pc o) pd o2) ∧ ScAt (upd (upd (upd (upd H pa (.tup (sigV u.sig))) pb (.tup [.str x, .int (lvI u.lv), .ref pa])) pc o) pd o2) (sc ++ [(x, u)]) (ws ++ [.ref pb]) := by
  have ga := same_new na (.tup (sigV u.sig))
  have gb := same_new nb (.tup [.str x, .int (lvI u.lv), .ref pa])
  have gc := same_new nc o
  have gd := same_new nd o2
  have g := ga.trans (gb.trans (gc.trans gd))
  exact ⟨g, (hA.mono (.of_same g)).app ⟨⟨pb, pa, rfl, gd _ _ (gc _ _ upd_same), gd _ _ (gc _ _ (gb _ _ upd_same))⟩, True.intro⟩⟩
theorem sigD_lay (s : List Bool) : (sigD s).canLay0 = true := by
  have h : ∀ s : List Bool, PyData.canLayAll0 (s.map kindD) = true := fun s => by
    induction s with
    | nil => rfl
    | cons k r ih => simp only [List.map_cons, PyData.canLayAll0, kindD, PyData.canLay0, kindS_ok, ih, Bool.and_self]
  simp only [sigD, PyData.canLay0, h]
theorem sigs_lay : ∀ s : List (List Bool), PyData.canLayAll0 (s.map sigD) = true
  | [] => rfl
  | a :: r => by simp only [List.map_cons, PyData.canLayAll0, sigD_lay, sigs_lay r, Bool.and_self]
theorem ents_lay : ∀ {sc : Sc}, sc.Ok → PyData.canLayAll0 (sc.map entD) = true
  | [], _ => rfl
  | e :: r, h => by
    have := ents_lay (sc := r) fun p m => h p (List.mem_cons_of_mem _ m)
    simp only [List.map_cons, PyData.canLayAll0, entD, PyData.canLay0, sigD_lay, this, h e List.mem_cons_self, Bool.and_self]
theorem sigD_deep (s : List Bool) : (sigD s).depth ≤ 2 := by
  have h : ∀ s : List Bool, PyData.depthAll (s.map kindD) ≤ 1 := fun s => by
    induction s with
    | nil => simp [PyData.depthAll]
    | cons k r ih => simp only [List.map_cons, PyData.depthAll, kindD, PyData.depth]; omega
  have := h s
  simp only [sigD, PyData.depth]
  omega
theorem sigs_deep : ∀ s : List (List Bool), PyData.depthAll (s.map sigD) ≤ 2
  | [] => by simp [PyData.depthAll]
  | a :: r => by have := sigD_deep a; have := sigs_deep r; simp only [List.map_cons, PyData.depthAll]; omega
theorem ents_deep : ∀ sc : Sc, PyData.depthAll (sc.map entD) ≤ 4
  | [] => by simp [PyData.depthAll]
  | a :: r => by have := sigD_deep a.2.sig; have := ents_deep r; simp only [List.map_cons, PyData.depthAll, entD, PyData.depth]; omega
theorem sigD_shaped (s : List Bool) : SeqAt.shaped (sigD s) = true := by
  unfold SeqAt.shaped
  rw [sigD_lay, decide_eq_true (by have := sigD_deep s; omega)]
  rfl
theorem sigs_shaped (s : List (List Bool)) : SeqAt.shaped (.list (s.map sigD)) = true := by
  unfold SeqAt.shaped
  rw [show PyData.canLay0 (.list (s.map sigD)) = true from sigs_lay s, decide_eq_true (by have := sigs_deep s; simp only [PyData.depth]; omega)]
  rfl
theorem ents_shaped {sc : Sc} (h : sc.Ok) : SeqAt.shaped (.list (sc.map entD)) = true := by
  unfold SeqAt.shaped
  rw [show PyData.canLay0 (.list (sc.map entD)) = true from ents_lay h, decide_eq_true (by have := ents_deep sc; simp only [PyData.depth]; omega)]
  rfl
theorem sigD_eq : ∀ {s t : List Bool}, PyData.eqv (sigD s) (sigD t) = true → s = t := by
  have h : ∀ s t : List Bool, PyData.eqvAll (s.map kindD) (t.map kindD) = true → s = t := by
    intro s
    induction s with
    | nil =>
      intro t h
      cases t with
      | nil => rfl
      | cons _ _ => simp [PyData.eqvAll] at h
    | cons a r ih =>
      intro t h
      cases t with
      | nil => simp [PyData.eqvAll] at h
      | cons b q =>
        simp only [List.map_cons, kindD, PyData.eqvAll, PyData.eqv, Bool.and_eq_true, beq_iff_eq] at h
        rw [kindS_inj h.1, ih q h.2]
  intro s t e
  simp only [sigD, PyData.eqv] at e
  exact h s t e
/-- a list of entries == [] -/
theorem ents_nil {sc : Sc} : PyData.eqv (.list (sc.map entD)) (.list []) = true ↔ sc = [] := by
  cases sc with
  | nil => exact ⟨fun _ => rfl, fun _ => by simp [PyData.eqv, PyData.eqvAll]⟩
  | cons a r => exact ⟨fun h => by simp [PyData.eqv, PyData.eqvAll] at h, fun h => by cases h⟩
theorem sig_in {s : List Bool} {ss : List (List Bool)} (h : ((ss.map sigD).any fun z => PyData.eqv z (sigD s)) = true) : s ∈ ss := by
  obtain ⟨z, hz, e⟩ := List.any_eq_true.mp h
  obtain ⟨t, ht, rfl⟩ := List.mem_map.mp hz
  rw [← sigD_eq e]
  exact ht

/-! ### how great a grown term is: depth, going through, size -/
/-- how deep going through it goes, where a function's a is gone through at its use -/
def Tm.hh : Tm → Nat
  | .num _ => 1
  | .name _ => 1
  | .bin _ a b => 1 + max a.hh b.hh
  | .cond c a b => 1 + max c.hh (max a.hh b.hh)
  | .letx _ a b => 1 + max a.hh b.hh
  | .turns _ _ a b => 1 + max a.hh b.hh
  | .deff _ _ _ a b => 1 + (a.hh + b.hh)
  | .use _ a => 1 + a.hh
  | .un _ a => 1 + a.hh
def Tm.vh : Tm → Nat
  | .num _ => 1
  | .name _ => 1
  | .bin _ a b => 1 + max a.vh b.vh
  | .cond c a b => 1 + max c.vh (max a.vh b.vh)
  | .letx _ a b => 2 + max a.vh b.vh
  | .turns _ _ a b => 2 + max a.vh b.vh
  | .deff _ _ _ a b => 2 + (a.vh + b.vh)
  | .use _ a => 2 + a.vh
  | .un _ a => 1 + a.vh
def vB : Nat → Nat
  | 0 => 2
  | 1 => 11
  | d + 2 => 2 * vB (d + 1) + 2
theorem vB_two (d : Nat) : 2 * vB d + 2 ≤ vB (d + 1) := by cases d <;> simp only [vB] <;> omega
theorem vB_low (d : Nat) : 2 ≤ vB d := by
  induction d with
  | zero => simp [vB]
  | succ d ih => have := vB_two d; omega
theorem vB_low1 (d : Nat) : 11 ≤ vB (d + 1) := by
  induction d with
  | zero => simp [vB]
  | succ d ih => have := vB_two (d + 1); omega
theorem vB_up (d : Nat) : vB d + 2 ≤ vB (d + 1) := by have := vB_two d; have := vB_low d; omega
def dB : Nat → Nat
  | 0 => 2
  | d + 1 => 2 * d + 8
def hB : Nat → Nat
  | 0 => 2
  | 1 => 8
  | d + 2 => 2 * hB (d + 1) + 1
def sB : Nat → Nat
  | 0 => 2
  | d + 1 => 3 * sB d + 12
theorem dB_up (d : Nat) : dB d + 1 ≤ dB (d + 1) := by cases d <;> simp only [dB] <;> omega
theorem hB_two (d : Nat) : 2 * hB d + 1 ≤ hB (d + 1) := by cases d <;> simp only [hB] <;> omega
theorem hB_low (d : Nat) : 2 ≤ hB d := by
  induction d with
  | zero => simp [hB]
  | succ d ih => have := hB_two d; omega
theorem hB_low1 (d : Nat) : 8 ≤ hB (d + 1) := by
  induction d with
  | zero => simp [hB]
  | succ d ih => have := hB_two (d + 1); omega
theorem hB_up (d : Nat) : hB d + 1 ≤ hB (d + 1) := by have := hB_two d; omega
theorem sB_low (d : Nat) : 2 ≤ sB d := by cases d <;> simp only [sB] <;> omega
theorem sB_up (d : Nat) : sB d ≤ sB (d + 1) := by simp only [sB]; omega
theorem mono_of {f : Nat → Nat} (h : ∀ d, f d ≤ f (d + 1)) : ∀ {d e : Nat}, d ≤ e → f d ≤ f e := fun {d e} l => by
  induction l with
  | refl => exact Nat.le_refl _
  | step _ ih => exact Nat.le_trans ih (h _)
theorem dB_mono {d e : Nat} (h : d ≤ e) : dB d ≤ dB e := mono_of (fun d => by have := dB_up d; omega) h
theorem hB_mono {d e : Nat} (h : d ≤ e) : hB d ≤ hB e := mono_of (fun d => by have := hB_up d; omega) h
theorem vB_mono {d e : Nat} (h : d ≤ e) : vB d ≤ vB e := mono_of (fun d => by have := vB_up d; omega) h
theorem sB_mono {d e : Nat} (h : d ≤ e) : sB d ≤ sB e := mono_of sB_up h
structure Grown (t : Tm) (d : Nat) : Prop where
  ok : t.Ok
  deep : t.deep ≤ dB d
  hh : t.hh ≤ hB d
  size : t.size ≤ sB d
  vh : t.vh ≤ vB d
theorem Grown.mono {t : Tm} {d e : Nat} (h : d ≤ e) (g : Grown t d) : Grown t e := ⟨g.ok, Nat.le_trans g.deep (dB_mono h), Nat.le_trans g.hh (hB_mono h), Nat.le_trans g.size (sB_mono h), Nat.le_trans g.vh (vB_mono h)⟩
theorem Grown.num (n : Int) (d : Nat) : Grown (.num n) d := .mono (Nat.zero_le d) ⟨True.intro, by show 1 ≤ 2; decide, by show 1 ≤ 2; decide, by show 1 ≤ 2; decide, by show 1 ≤ 2; decide⟩
theorem Grown.name {x : Str} (h : PyData.strOk x = true) (d : Nat) : Grown (.name x) d := .mono (Nat.zero_le d) ⟨h, by show 1 ≤ 2; decide, by show 1 ≤ 2; decide, by show 1 ≤ 2; decide, by show 1 ≤ 2; decide⟩
theorem Grown.unName {o : Un} {x : Str} (h : PyData.strOk x = true) (d : Nat) : Grown (.un o (.name x)) d := .mono (Nat.zero_le d) ⟨h, by show 1 + 1 ≤ 2; decide, by show 1 + 1 ≤ 2; decide, by show 1 + 1 ≤ 2; decide, by show 1 + 1 ≤ 2; decide⟩
theorem Grown.unNum {o : Un} (n : Int) (d : Nat) : Grown (.un o (.num n)) d := .mono (Nat.zero_le d) ⟨True.intro, by show 1 + 1 ≤ 2; decide, by show 1 + 1 ≤ 2; decide, by show 1 + 1 ≤ 2; decide, by show 1 + 1 ≤ 2; decide⟩
section
variable {a b c : Tm} {d : Nat}
theorem Grown.un {o : Un} (g : Grown a d) : Grown (.un o a) (d + 1) := by
  have := dB_up d; have := hB_up d; have := sB_low d; have h1 := g.deep; have h2 := g.hh; have h3 := g.size; have v1 := g.vh; have v0 := vB_two d; have v00 := vB_low d
  refine ⟨g.ok, ?_, ?_, ?_, ?_⟩ <;> simp only [Tm.deep, Tm.hh, Tm.size, Tm.vh, sB] <;> omega
theorem Grown.bin {o : Bin} (g : Grown a d) (k : Grown b d) : Grown (.bin o a b) (d + 1) := by
  have := dB_up d; have := hB_up d; have := sB_low d; have h1 := g.deep; have h2 := g.hh; have h3 := g.size; have v1 := g.vh; have v0 := vB_two d; have v00 := vB_low d; have h4 := k.deep; have h5 := k.hh; have h6 := k.size; have v2 := k.vh
  refine ⟨⟨g.ok, k.ok⟩, ?_, ?_, ?_, ?_⟩ <;> simp only [Tm.deep, Tm.hh, Tm.size, Tm.vh, sB] <;> omega
theorem Grown.cond (m : Grown c d) (g : Grown a d) (k : Grown b d) : Grown (.cond c a b) (d + 1) := by
  have := dB_up d; have := hB_up d; have := sB_low d; have h1 := g.deep; have h2 := g.hh; have h3 := g.size; have v1 := g.vh; have v0 := vB_two d; have v00 := vB_low d; have h4 := k.deep; have h5 := k.hh; have h6 := k.size; have v2 := k.vh; have h7 := m.deep; have h8 := m.hh; have h9 := m.size; have v3 := m.vh
  refine ⟨⟨m.ok, g.ok, k.ok⟩, ?_, ?_, ?_, ?_⟩ <;> simp only [Tm.deep, Tm.hh, Tm.size, Tm.vh, sB] <;> omega
theorem Grown.letx {x : Str} (hx : PyData.strOk x = true) (g : Grown a d) (k : Grown b d) : Grown (.letx x a b) (d + 1) := by
  have := dB_up d; have := hB_up d; have := sB_low d; have h1 := g.deep; have h2 := g.hh; have h3 := g.size; have v1 := g.vh; have v0 := vB_two d; have v00 := vB_low d; have h4 := k.deep; have h5 := k.hh; have h6 := k.size; have v2 := k.vh
  refine ⟨⟨hx, g.ok, k.ok⟩, ?_, ?_, ?_, ?_⟩ <;> simp only [Tm.deep, Tm.hh, Tm.size, Tm.vh, sB] <;> omega
theorem Grown.turns {x : Str} {n : Int} (hn : 0 ≤ n ∧ n ≤ 9) (hx : PyData.strOk x = true) (g : Grown a d) (k : Grown b d) : Grown (.turns n x a b) (d + 1) := by
  have := dB_up d; have := hB_up d; have := sB_low d; have h1 := g.deep; have h2 := g.hh; have h3 := g.size; have v1 := g.vh; have v0 := vB_two d; have v00 := vB_low d; have h4 := k.deep; have h5 := k.hh; have h6 := k.size; have v2 := k.vh
  refine ⟨⟨⟨hn, hx⟩, g.ok, k.ok⟩, ?_, ?_, ?_, ?_⟩ <;> simp only [Tm.deep, Tm.hh, Tm.size, Tm.vh, sB] <;> omega
theorem Grown.deff {f x : Str} {j : Bool} (hf : PyData.strOk f = true) (hx : PyData.strOk x = true) (g : Grown a d) (k : Grown b d) : Grown (.deff f x j a b) (d + 1) := by
  have := dB_up d; have := hB_two d; have := sB_low d; have h1 := g.deep; have h2 := g.hh; have h3 := g.size; have v1 := g.vh; have v0 := vB_two d; have v00 := vB_low d; have h4 := k.deep; have h5 := k.hh; have h6 := k.size; have v2 := k.vh
  refine ⟨⟨⟨hf, hx⟩, g.ok, k.ok⟩, ?_, ?_, ?_, ?_⟩ <;> simp only [Tm.deep, Tm.hh, Tm.size, Tm.vh, sB] <;> omega
theorem Grown.use {f : Str} (hf : PyData.strOk f = true) (g : Grown a d) : Grown (.use f a) (d + 1) := by
  have := dB_up d; have := hB_up d; have := sB_low d; have h1 := g.deep; have h2 := g.hh; have h3 := g.size; have v1 := g.vh; have v0 := vB_two d; have v00 := vB_low d
  refine ⟨⟨hf, g.ok⟩, ?_, ?_, ?_, ?_⟩ <;> simp only [Tm.deep, Tm.hh, Tm.size, Tm.vh, sB] <;> omega
end
/-- what stands within a kept piece's quote -/
structure Inner (t : Tm) (e : Nat) : Prop where
  ok : t.Ok
  deep : t.deep ≤ 2 + dB e
  hh : t.hh ≤ 2 + hB e
  size : t.size ≤ 5 + sB e
  vh : t.vh ≤ 3 + vB e
theorem Inner.twice {x : Str} {n : Int} {a b : Tm} {e : Nat} (hx : PyData.strOk x = true) (ha : Grown a 0) (g : Grown b e) : Inner (.letx x (.num n) (.bin .sum a b)) e := by
  have h1 := ha.deep; have h2 := ha.hh; have h3 := ha.size; have h4 := g.deep; have h5 := g.hh; have h6 := g.size
  have := hB_low e; have := dB_mono (Nat.zero_le e); have e1 : dB 0 = 2 := rfl; have e2 : hB 0 = 2 := rfl; have e3 : sB 0 = 2 := rfl; have v1 := ha.vh; have v2 := g.vh; have v3 := vB_low e; have e4 : vB 0 = 2 := rfl
  refine ⟨⟨hx, True.intro, ha.ok, g.ok⟩, ?_, ?_, ?_, ?_⟩ <;> simp only [Tm.deep, Tm.hh, Tm.size, Tm.vh] <;> omega
theorem Grown.kept {x f : Str} {a b : Tm} {d : Nat} (hx : PyData.strOk x = true) (hf : PyData.strOk f = true) (g : Grown a d) (k : (∃ e, e = d - 2 ∧ Inner b e) ∨ Grown b (d - 1)) :
    Grown (.letx x a (.un .hole (.letx f (.un .quote (.name x)) (.un .quote b)))) (d + 1) := by
  have h1 := g.deep; have h2 := g.hh; have h3 := g.size; have v1 := g.vh; have v0 := vB_up d; have v00 := vB_low1 d
  have q1 := dB_up d; have q2 := hB_up d; have q3 := sB_low d; have q4 := hB_low1 d
  have q5 : 8 ≤ dB (d + 1) := by simp only [dB]; omega
  have okb : b.Ok := by rcases k with ⟨_, _, k⟩ | k <;> exact k.ok
  have hd : 4 + b.deep ≤ dB (d + 1) := by
    rcases k with ⟨e, rfl, k⟩ | k
    · have z := k.deep
      match d, z with
      | 0, z => have y : b.deep ≤ 2 + 2 := z; show 4 + b.deep ≤ 8; omega
      | 1, z => have y : b.deep ≤ 2 + 2 := z; show 4 + b.deep ≤ 2 * 1 + 8; omega
      | 2, z => have y : b.deep ≤ 2 + 2 := z; show 4 + b.deep ≤ 2 * 2 + 8; omega
      | d + 3, z => simp only [show d + 3 - 2 = d + 1 by omega, dB] at z ⊢; omega
    · have z := k.deep
      match d, z with
      | 0, z => have y : b.deep ≤ 2 := z; show 4 + b.deep ≤ 8; omega
      | 1, z => have y : b.deep ≤ 2 := z; show 4 + b.deep ≤ 2 * 1 + 8; omega
      | d + 2, z => simp only [show d + 2 - 1 = d + 1 by omega, dB] at z ⊢; omega
  have hh : 4 + b.hh ≤ hB (d + 1) := by
    rcases k with ⟨e, rfl, k⟩ | k
    · have z := k.hh
      match d, z with
      | 0, z => have y : b.hh ≤ 2 + 2 := z; omega
      | 1, z => have y : b.hh ≤ 2 + 2 := z; omega
      | 2, z => have y : b.hh ≤ 2 + 2 := z; omega
      | d + 3, z => have y1 : 2 * hB (d + 3) + 1 ≤ hB (d + 3 + 1) := hB_two (d + 3); have y2 : 2 * hB (d + 2) + 1 ≤ hB (d + 3) := hB_two (d + 2); have y3 : 2 * hB (d + 1) + 1 ≤ hB (d + 2) := hB_two (d + 1); have y4 := hB_low1 d; simp only [show d + 3 - 2 = d + 1 by omega] at z ⊢; omega
    · have z := k.hh
      match d, z with
      | 0, z => have y : b.hh ≤ 2 := z; omega
      | 1, z => have y : b.hh ≤ 2 := z; omega
      | d + 2, z => have y1 : 2 * hB (d + 2) + 1 ≤ hB (d + 2 + 1) := hB_two (d + 2); have y2 : 2 * hB (d + 1) + 1 ≤ hB (d + 2) := hB_two (d + 1); have y4 := hB_low1 d; simp only [show d + 2 - 1 = d + 1 by omega] at z ⊢; omega
  have hv : 6 + b.vh ≤ vB (d + 1) := by
    rcases k with ⟨e, rfl, k⟩ | k
    · have z := k.vh
      match d, z with
      | 0, z => have y : b.vh ≤ 3 + 2 := z; omega
      | 1, z => have y : b.vh ≤ 3 + 2 := z; omega
      | 2, z => have y : b.vh ≤ 3 + 2 := z; omega
      | d + 3, z => have y1 : 2 * vB (d + 3) + 2 ≤ vB (d + 3 + 1) := vB_two (d + 3); have y2 : 2 * vB (d + 2) + 2 ≤ vB (d + 3) := vB_two (d + 2); have y3 : 2 * vB (d + 1) + 2 ≤ vB (d + 2) := vB_two (d + 1); have y4 := vB_low1 d; simp only [show d + 3 - 2 = d + 1 by omega] at z ⊢; omega
    · have z := k.vh
      match d, z with
      | 0, z => have y : b.vh ≤ 2 := z; omega
      | 1, z => have y : b.vh ≤ 2 := z; omega
      | d + 2, z => have y1 : 2 * vB (d + 2) + 2 ≤ vB (d + 2 + 1) := vB_two (d + 2); have y2 : 2 * vB (d + 1) + 2 ≤ vB (d + 2) := vB_two (d + 1); have y4 := vB_low1 d; simp only [show d + 2 - 1 = d + 1 by omega] at z ⊢; omega
  have hs : b.size ≤ 5 + sB d := by
    rcases k with ⟨e, rfl, k⟩ | k
    · have z := k.size; have y := sB_mono (show d - 2 ≤ d by omega); omega
    · have z := k.size; have y := sB_mono (show d - 1 ≤ d by omega); omega
  refine ⟨⟨hx, g.ok, hf, hx, okb⟩, ?_, ?_, ?_, ?_⟩ <;> simp only [Tm.deep, Tm.hh, Tm.size, Tm.vh, sB] <;> omega

/-! ### what is in force: the names of a scope that may be used -/
/-- those that are in force, of the level, of one of the kinds -/
def spSeen (K : PySem.W.Frag) : Sp := fun vs H Q _ => ∃ (sa ka : Addr) (l : Bool) (sc : Sc) (ws : List V) (ss : List (List Bool)), vs = [.ref sa, .int (lvI l), .ref ka] ∧ H sa = some (.lst ws) ∧ ScAt H sc ws ∧ sc.Ok ∧ sc.length ≤ 100 ∧
  (∀ H', Same H H' → Dp K H' (.ref ka) (.list (ss.map sigD))) ∧ ∀ (r : Addr) (es : Sc) (us : List V) (H' : Hp), H r = none → Same H H' → H' r = some (.lst us) → ScAt H' es us → es.length ≤ 100 → (∀ e ∈ es, e ∈ sc ∧ look sc e.1 = some e.2 ∧ e.2.lv = l ∧ e.2.sig ∈ ss) → Q (.ref r) H'
abbrev s_seen : Stmt := topS 41
theorem sc_seen : FnScope ["_law_scope", "_law_level", "_law_kinds", "_law_found", "_law_k", "_law_hidden", "_law_one"] ["_law_scope", "_law_level", "_law_kinds"] (defScope s_seen) := ⟨rfl, rfl, rfl, by decide +kernel, rfl, by decide +kernel, by decide +kernel⟩
section
variable {P : Program} {w : World} {K : PySem.W.Frag} {mg : Str → Option Value} {base : Heap} {f f1 f2 f3 f4 f5 f6 f7 f8 : Addr} {fd fd1 fd2 fd3 fd4 fd5 fd6 fd7 fd8 : FuncData}
theorem ok_seen (F : Fun K "_law_seen" "_law_seen" s_seen f fd) (T : Txt mg) : FnOk P w K mg base CX0 1 f fd ["_law_scope", "_law_level", "_law_kinds"] (spSeen K) := by
  refine F.ok sc_seen (fun vs H Q E h => ?_) (fun cdv A outer s H vs Q E hr h => ?_)
  · obtain ⟨sa, ka, l, sc, ws, ss, rfl, _⟩ := h
    rfl
  obtain ⟨sa, ka, l, sc, ws, ss, rfl, hS, hA, hok, hlen, hK, q⟩ := h
  have hwl := hA.len
  refine ⟨_, (pss_cons (ps_set (i := 3) sc_seen.nd rfl (Or.inl rfl) (pe_lst pa_nil))
      (pss_cons (ps_for PassesOwn.never rfl (pi_range1 (by rfl) T.range (pa_cons (pe_callB call_len_seq (by rfl) T.len PySem.boot_len (pa_cons (pv 0) pa_nil)) pa_nil)) (pg_name (i := 4) sc_seen.nd rfl (Or.inr rfl)) (pss_cons (ps_setLc (i := 5) (own := [("_law_one", 6)]) (g := (gName 6)) (by rfl) sc_seen.nd rfl rfl (sw_true rfl rfl rfl (by decide +kernel)) (pi_list (pe_slice sl_list (pv 0) (po_some (pe_op op_add (pv 4) pe_int)) po_none)) (blkOk_by (own := [("_law_one", 6)]) (N := ["_law_scope", "_law_level", "_law_kinds", "_law_found", "_law_k", "_law_hidden", "_law_one"]) (sc := defScope s_seen) (by decide +kernel)) (fun _ _ _ _ _ => (pg_name (i := 6) sc_seen.nd rfl (Or.inl rfl))) (fun _ _ _ _ _ => (pts_one (pt_cmpR op_eq (pe_ix (r := rIxT K) ix_tup (pv 6) pe_int (fun _ _ => rfl)) (pe_ix (r := rIxT K) ix_tup (pe_ix (r := rIxL K) ix_list (pv 0) (pv 4) (fun _ _ => rfl)) pe_int (fun _ _ => rfl)) (nomark _)))) (fun _ _ _ _ _ => (pv 6)))
      (pss_one (ps_if (pt_k (PW.pt (pw_and (pt_cmpR (op_eqD hr.units) (pv 5) (pe_lst pa_nil) (nomark _)) (pw_and (pt_cmpR op_eq (pe_ix ix_tup (pe_ix ix_list (pv 0) (pv 4) (fun _ _ => rfl)) pe_int (fun _ _ => rfl)) (pv 1) (nomark _)) (pw_and1 (pt_cmpR (op_inD hr.units1) (pe_ix ix_tup (pe_ix ix_list (pv 0) (pv 4) (fun _ _ => rfl)) pe_int (fun _ _ => rfl)) (pv 2) (by rfl))))))) (pss_one (ps_expr (pe_bm PySem.F.plainAttrs_list PySem.F.slot_list_append PySem.F.type_list_append mt_append (pv 3) (pa_cons (pe_ix ix_list (pv 0) (pv 4) (fun _ _ => rfl)) pa_nil)))) pss_nil))))
      (pss_one (ps_ret (pv 3))))), ?_⟩
  refine ⟨Nat.zero_le _, fun r hr => ?_⟩
  have g0 := same_new hr (.lst [])
  refine ⟨_, rfl, sa, _, rfl, .inl (SqL.of (g0 _ _ hS)), (ws.length : Int), rfl, by omega, by omega, ?_⟩
  rw [Int.toNat_natCast]
  refine for_range (lo := 0) (n := ws.length) (fun i σ H' => ∃ (o1 o2 : Option V) (es : Sc) (us : List V), σ = [some (.ref sa), some (.int (lvI l)), some (.ref ka), some (.ref r), o1, o2, none] ∧ Same H H' ∧
    H' r = some (.lst us) ∧ ScAt H' es us ∧ es.length ≤ i ∧ ∀ e ∈ es, e ∈ sc ∧ look sc e.1 = some e.2 ∧ e.2.lv = l ∧ e.2.sig ∈ ss) ⟨none, none, [], [], rfl, g0, upd_same, True.intro, Nat.le_refl _, fun _ h => by cases h⟩ ?_ ?_
  · rintro i σ H' hi ⟨o1, o2, es, us, rfl, g, hr', hE, hEl, hEp⟩
    have hvi : ws[i]? = some ws[i] := List.getElem?_eq_getElem hi
    generalize ws[i] = v at hvi
    obtain ⟨⟨x, u⟩, hxi, pv, pq, ev, hpv, hpq⟩ := hA.get hvi
    have hxm : (x, u) ∈ sc := List.mem_of_getElem? hxi
    refine ⟨_, rfl, ?_⟩
    refine ⟨_, rfl, _, _, rfl, rfl, _, rfl, ?_⟩
    unfold tNoPart
    refine ⟨sa, ws, rfl, SqL.of (g _ _ hS), fun p hp => ?_⟩
    have hid : ScAt H' (sc.drop (i + 1)) (cutV ws (some (0 + (i : Int) + 1)) none) := by
      unfold cutV
      rw [show (0 : Int) + (i : Int) + 1 = ((i + 1 : Nat) : Int) by omega, HT.sIx_nat, Nat.min_eq_left (by omega)]
      rw [List.take_of_length_le (by rw [List.length_drop]; show _ ≤ ws.length - _; omega)]
      exact (hA.mono (.of_same g)).drop (i + 1)
    generalize hcs : cutV ws (some (0 + (i : Int) + 1)) none = cs at hid ⊢
    have g1 := same_new hp (.lst cs)
    refine ⟨p, rfl, ⟨_, SqL.of upd_same⟩, fun D hD => ?_⟩
    have gD := same_new hD (.lst [])
    refine lc_list (K := K) (a := p) (xs := cs) (fun j H2 => Same (upd H' p (.lst cs)) H2 ∧ ∃ (hs : Sc) (hv : List V), H2 D = some (.lst hv) ∧ ScAt H2 hs hv ∧ hs.Ok ∧ hs.length ≤ j ∧ (hs = [] → ∀ e ∈ (sc.drop (i + 1)).take j, e.1 ≠ x))
      ⟨gD, [], [], upd_same, True.intro, (fun _ h => by cases h), Nat.le_refl _, (fun _ e h => by rw [List.take_zero] at h; cases h)⟩ (fun j H2 _ ⟨g2, _⟩ => SqL.of (g2 _ _ upd_same)) ?_ ?_
    · rintro j y H2 hj ⟨g2, hs, hv, hD2, hs2, hsO, hsl, hsp⟩
      obtain ⟨⟨x', u'⟩, hxj, py, qy, ey, hpy, hqy⟩ := hid.get hj
      have gall := g.trans (g1.trans g2)
      have hpy2 := g2 _ _ (g1 _ _ hpy)
      have htk : (sc.drop (i + 1)).take (j + 1) = (sc.drop (i + 1)).take j ++ [(x', u')] := by rw [List.take_add_one, hxj]; rfl
      subst ey
      refine ⟨rfl, _, rfl, py, _, _, _, rfl, rfl, SqT.of hpy2, atI_n (n := 0) rfl rfl, ?_⟩
      refine ⟨_, rfl, _, rfl, sa, _, _, _, rfl, rfl, SqL.of (gall _ _ hS), atI_n (n := i) (by omega) hvi, pv, _, _, _, ev, rfl, SqT.of (gall _ _ hpv), atI_n (n := 0) rfl rfl, ?_⟩
      refine ⟨rfl, _, rfl, ite2 (fun c => ?_) fun c => ?_⟩
      · have c' : x' = x := V.str.inj (of_decide_eq_true c)
        have hjl : j < sc.length - (i + 1) := by
          have z := (List.getElem?_eq_some_iff.mp hxj).1
          rw [List.length_drop] at z
          exact z
        refine ⟨_, rfl, hv, hD2, small1000 (by have := hs2.len; omega), ?_⟩
        have t2 : Tups H2 (upd H2 D (.lst (hv ++ [V.ref py]))) := Tups.put hD2
        refine ⟨fun b o z => ?_, hs ++ [(x', u')], _, upd_same, (hs2.mono t2).app ⟨⟨py, qy, rfl, t2 _ _ hpy2, t2 _ _ (g2 _ _ (g1 _ _ hqy))⟩, True.intro⟩, ?_, ?_, ?_⟩
        · rw [upd_ne (ne_of_none z hD)]
          exact g2 b o z
        · intro e m
          rcases List.mem_append.mp m with m | m
          · exact hsO e m
          · rw [List.mem_singleton.mp m]
            exact hok _ (List.mem_of_mem_drop (List.mem_of_getElem? hxj))
        · rw [List.length_append]
          show hs.length + 1 ≤ j + 1
          omega
        · intro z
          cases hs <;> cases z
      · have c' : x' ≠ x := fun z => c (by rw [z]; exact decide_eq_true rfl)
        refine ⟨g2, hs, hv, hD2, hs2, hsO, by omega, fun z e m => ?_⟩
        rw [htk, List.mem_append] at m
        rcases m with m | m
        · exact hsp z e m
        · rw [List.mem_singleton.mp m]
          exact c'
    · rintro H2 ⟨g2, hs, hv, hD2, hs2, hsO, hsl, hsp⟩
      have cl := hid.len
      rw [cl, List.take_length] at hsp
      have gall := g.trans (g1.trans g2)
      have hr2 := g2 _ _ (g1 _ _ hr')
      have rD : r ≠ D := ne_of_none (g1 _ _ hr') hD
      have hE2 : ScAt H2 es us := hE.mono (.of_same (g1.trans g2))
      refine ⟨fun b H3 => Same H2 H3 ∧ (b = true → hs = [] ∧ u.lv = l ∧ u.sig ∈ ss), ?_, ?_⟩
      · refine ⟨_, rfl, Nat.zero_le _, fun p3 n3 => ?_⟩
        have g3 := same_new n3 (.lst [])
        have d3 := hs2.mono (.of_same g3)
        refine ⟨.list (hs.map entD), .list [], .lst (SqL.of (g3 _ _ hD2)) d3.dps, .lst (SqL.of upd_same) .nil, ents_shaped hsO, by decide +kernel, _, rfl, ?_⟩
        refine ite2 (fun c1 => ?_) fun _ => ⟨g3, fun z => nomatch z⟩
        have hn := ents_nil.mp c1
        have G3 := gall.trans g3
        have hpv3 := G3 _ _ hpv
        refine ⟨_, rfl, _, rfl, sa, _, _, _, rfl, rfl, SqL.of (G3 _ _ hS), atI_n (n := i) (by omega) hvi, pv, _, _, _, ev, rfl, SqT.of hpv3, atI_n (n := 1) rfl rfl, ?_⟩
        refine ⟨_, rfl, rfl, _, rfl, ite2 (fun c2 => ?_) fun _ => ⟨g3, fun z => nomatch z⟩⟩
        have hl : u.lv = l := by
          have z : lvI u.lv = lvI l := V.int.inj (of_decide_eq_true c2)
          revert z
          cases u.lv <;> cases l <;> first | (intro _; rfl) | (intro z; exact absurd z (by decide))
        refine ⟨_, rfl, _, rfl, sa, _, _, _, rfl, rfl, SqL.of (G3 _ _ hS), atI_n (n := i) (by omega) hvi, pv, _, _, _, ev, rfl, SqT.of hpv3, atI_n (n := 2) rfl rfl, ?_⟩
        refine ⟨_, rfl, _, _, sig_dp (G3 _ _ hpq), hK _ G3, sigD_shaped _, sigs_shaped _, _, rfl, g3, fun z => ⟨hn, hl, sig_in z⟩⟩
      · rintro b H3 ⟨g3, hb⟩
        have G3 := gall.trans g3
        have hr3 := g3 _ _ hr2
        have hE3 := hE2.mono (.of_same g3)
        cases b with
        | false => exact iteF ⟨_, _, es, us, rfl, G3, hr3, hE3, by omega, hEp⟩
        | true =>
          obtain ⟨hn, hl, hs⟩ := hb rfl
          refine iteT ⟨_, rfl, .inl ⟨rfl, _, SqL.of hr3⟩, _, rfl, _, rfl, sa, _, _, _, rfl, rfl, SqL.of (G3 _ _ hS), atI_n (n := i) (by omega) hvi, r, _, _, rfl, rfl, hr3, small1000 (by have := hE.len; omega), ?_⟩
          have t3 : Tups H3 (upd H3 r (.lst (us ++ [v]))) := Tups.put hr3
          refine ⟨_, _, es ++ [(x, u)], us ++ [v], rfl, fun b o z => ?_, upd_same, (hE3.mono t3).app ⟨⟨pv, pq, ev, t3 _ _ (G3 _ _ hpv), t3 _ _ (G3 _ _ hpq)⟩, True.intro⟩, ?_, ?_⟩
          · rw [upd_ne (ne_of_none z hr)]
            exact G3 b o z
          · rw [List.length_append]
            show es.length + 1 ≤ i + 1
            omega
          · intro e m
            rcases List.mem_append.mp m with m | m
            · exact hEp e m
            · rw [List.mem_singleton.mp m]
              exact ⟨hxm, look_at hxi (hsp hn), hl, hs⟩
  · rintro σ H' ⟨o1, o2, es, us, rfl, g, hr', hE, hEl, hEp⟩
    refine ⟨_, rfl, q r es us H' hr g hr' hE (by omega) hEp⟩
end

/-! ### leaves -/
/-- a leaf of the kind that is asked for; at level 1 all is number -/
def spLeaf (K : PySem.W.Frag) : Sp := fun vs H Q _ => ∃ (a st sa : Addr) (l k : Bool) (sc : Sc) (ws : List V) (n : Int), vs = [.ref a, .ref st, .int (lvI l), .str (kindS k), .ref sa, .int n] ∧ H sa = some (.lst ws) ∧ ScAt H sc ws ∧ sc.Ok ∧ sc.length ≤ 100 ∧
  0 ≤ n ∧ n < 2147483629 ∧ (l = true → k = false) ∧ ∀ (t : Tm) (v : V) (H' : Hp), Same H H' → TmAt H' t v → Grown t 0 → (∀ fr, kd t l (look sc) fr = .ok k) → Q v H'
abbrev s_leaf : Stmt := topS 42
theorem sc_leaf : FnScope ["_law_script", "_law_state", "_law_level", "_law_kind", "_law_scope", "_law_number_here", "_law_found", "_law_other", "_law_leaf_here"] ["_law_script", "_law_state", "_law_level", "_law_kind", "_law_scope", "_law_number_here"] (defScope s_leaf) := ⟨rfl, rfl, rfl, by decide +kernel, rfl, by decide +kernel, by decide +kernel⟩
theorem sigs1_dp {K : PySem.W.Frag} {H : Hp} {p q : Addr} {s : List Bool} (h1 : H p = some (.tup (sigV s))) (h2 : H q = some (.lst [.ref p])) : ∀ H', Same H H' → Dp K H' (.ref q) (.list ([s].map sigD)) := fun _ e => .lst (SqL.of (e _ _ h2)) (.cons (sig_dp (e _ _ h1)) .nil)
theorem sigs2_dp {K : PySem.W.Frag} {H : Hp} {p1 p2 q : Addr} {s t : List Bool} (h1 : H p1 = some (.tup (sigV s))) (h3 : H p2 = some (.tup (sigV t))) (h2 : H q = some (.lst [.ref p1, .ref p2])) : ∀ H', Same H H' → Dp K H' (.ref q) (.list ([s, t].map sigD)) := fun _ e => .lst (SqL.of (e _ _ h2)) (.cons (sig_dp (e _ _ h1)) (.cons (sig_dp (e _ _ h3)) .nil))
theorem ScAt.pick {H : Hp} {es : Sc} {us : List V} (h : ScAt H es us) {j : Int} (h0 : 0 ≤ j) (h1 : j < (us.length : Int)) : ∃ e p q, e ∈ es ∧ atI us j = some (.ref p) ∧ H p = some (.tup [.str e.1, .int (lvI e.2.lv), .ref q]) ∧ H q = some (.tup (sigV e.2.sig)) := by
  have hj : j.toNat < us.length := by omega
  obtain ⟨e, he, p, q, ev, hp, hq⟩ := h.get (List.getElem?_eq_getElem hj)
  exact ⟨e, p, q, List.mem_of_getElem? he, atI_n (n := j.toNat) (by omega) (by rw [List.getElem?_eq_getElem hj, ev]), hp, hq⟩
theorem ents_nilb (zs : Sc) : PyData.eqv (.list (zs.map entD)) (.list []) = decide (zs = []) := by
  by_cases c : zs = []
  · rw [decide_eq_true c, ents_nil.mpr c]
  · rw [decide_eq_false c]
    exact Bool.eq_false_iff.mpr fun z => c (ents_nil.mp z)
theorem seq_ne {K : PySem.W.Frag} {r : Addr} {zs : Sc} {us : List V} {G : Hp} {Q' : VK} (hz : ScAt G zs us) (hg : G r = some (.lst us)) (hk : Sc.Ok zs) (hq : ∀ G', Same G G' → Q' (.bl (!decide (zs = []))) G') (p : Addr) (hp : G p = none) : rNeD K (.ref r) (.ref p) (upd G p (.lst [])) Q' := by
  have g := same_new hp (.lst [])
  refine ⟨.list (zs.map entD), .list [], .lst (SqL.of (g _ _ hg)) (hz.mono (.of_same g)).dps, .lst (SqL.of upd_same) .nil, ents_shaped hk, by decide +kernel, ?_⟩
  rw [ents_nilb]
  exact hq _ g
theorem seq_eq {K : PySem.W.Frag} {r : Addr} {zs : Sc} {us : List V} {G : Hp} {Q' : VK} (hz : ScAt G zs us) (hg : G r = some (.lst us)) (hk : Sc.Ok zs) (hq : ∀ G', Same G G' → Q' (.bl (decide (zs = []))) G') (p : Addr) (hp : G p = none) : rEqD K (.ref r) (.ref p) (upd G p (.lst [])) Q' := by
  have g := same_new hp (.lst [])
  refine ⟨.list (zs.map entD), .list [], .lst (SqL.of (g _ _ hg)) (hz.mono (.of_same g)).dps, .lst (SqL.of upd_same) .nil, ents_shaped hk, by decide +kernel, ?_⟩
  rw [ents_nilb]
  exact hq _ g
theorem off_nil {zs : Sc} (h : (!decide (zs = [])) = true) : zs ≠ [] := fun z => by rw [z] at h; cases h
theorem kd_name {x : Str} {l k : Bool} {E : Env} {u : Ent} (h : E x = some u) (hl : u.lv = l) (hs : u.sig = [k]) (fr : Bool) : kd (.name x) l E fr = .ok k := by
  obtain ⟨h1, h2⟩ := sig_val hs
  simp only [kd, h, hl, h1, h2, if_true]
theorem kd_hole {a : Tm} {E : Env} (h : kd a false E false = .ok true) (fr : Bool) : kd (.un .hole a) true E fr = .ok false := by
  simp [kd, h, Kd.want, Kd.and]
theorem kd_quote {a : Tm} {E : Env} (h : kd a true E false = .ok false) (fr : Bool) : kd (.un .quote a) false E fr = .ok true := by
  simp [kd, h, Kd.want, Kd.and]
theorem kd_lift {a : Tm} {E : Env} {fr : Bool} (h : kd a false E fr = .ok false) : kd (.un .lift a) false E fr = .ok true := by
  simp [kd, h, Kd.want, Kd.and]
theorem kd_run {a : Tm} {E : Env} (h : kd a false E true = .ok true) : kd (.un .run a) false E true = .ok false := by
  simp [kd, h, Kd.want, Kd.and]
section
variable {P : Program} {w : World} {K : PySem.W.Frag} {mg : Str → Option Value} {base : Heap} {f f1 f2 f3 f4 f5 f6 f7 f8 : Addr} {fd fd1 fd2 fd3 fd4 fd5 fd6 fd7 fd8 : FuncData}
theorem ok_leaf (F : Fun K "_law_leaf" "_law_leaf" s_leaf f fd) (T : Txt mg) (C_law_seen : Cal P w K mg base "_law_seen" ["_law_scope", "_law_level", "_law_kinds"] 1 (spSeen K) f1 fd1) (C_law_number : Cal P w K mg base "_law_number" ["_law_number_here"] 1 spNumber f2 fd2) : FnOk P w K mg base CX0 2 f fd ["_law_script", "_law_state", "_law_level", "_law_kind", "_law_scope", "_law_number_here"] (spLeaf K) := by
  refine F.ok sc_leaf (fun vs H Q E h => ?_) (fun cdv A outer s H vs Q E hr h => ?_)
  · obtain ⟨a, st, sa, l, k, sc, ws, n, rfl, _⟩ := h
    rfl
  obtain ⟨a, st, sa, l, k, sc, ws, n, rfl, hS, hA, hok, hlen, n0, n1, hlk, q⟩ := h
  refine ⟨_, (pss_cons (ps_set (i := 6) sc_leaf.nd rfl (Or.inl rfl) (pe_call C_law_seen.ok (hr.mono (by first | decide | omega)) rfl C_law_seen.m C_law_seen.kp C_law_seen.b .nil pass0 (pa_cons (pv 4) (pa_cons (pv 2) (pa_cons (pe_lst (pa_cons (pe_tup (pa_cons (pv 3) pa_nil)) pa_nil)) pa_nil)))))
      (pss_cons (ps_set (i := 7) sc_leaf.nd rfl (Or.inl rfl) (pe_call C_law_seen.ok (hr.mono (by first | decide | omega)) rfl C_law_seen.m C_law_seen.kp C_law_seen.b .nil pass0 (pa_cons (pv 4) (pa_cons (pe_op op_sub pe_int (pv 2)) (pa_cons (pe_ix ix_list (pe_lst (pa_cons (pe_lst (pa_cons (pe_tup (pa_cons pe_str pa_nil)) pa_nil)) (pa_cons (pe_lst (pa_cons (pe_tup (pa_cons pe_str pa_nil)) pa_nil)) pa_nil))) (pv 2) (fun _ _ => rfl)) pa_nil)))))
      (pss_cons (ps_if (pt_k (PW.pt (pw_and (pt_cmpR op_gt (pe_op op_mod (pv 5) pe_int) pe_int (nomark _)) (pw_and (pt_cmpR (op_neD hr.units) (pv 6) (pe_lst pa_nil) (nomark _)) (pw_and1 (pt_k (PW.pt (pw_or (pt_cmpR op_eq (pe_op op_mod (pe_op op_fdiv (pv 5) pe_int) pe_int) pe_int (nomark _)) (pw_or1 (pt_cmpR (op_eqD hr.units) (pv 7) (pe_lst pa_nil) (nomark _))))))))))) (pss_one (ps_ret (pe_tup (pa_cons pe_str (pa_cons (pe_ix ix_tup (pe_ix ix_list (pv 6) (pe_op op_mod (pe_op op_fdiv (pv 5) pe_int) (pe_callB call_len_seq (by rfl) T.len PySem.boot_len (pa_cons (pv 6) pa_nil))) (fun _ _ => rfl)) pe_int (fun _ _ => rfl)) pa_nil))))) pss_nil)
      (pss_cons (ps_set (i := 8) sc_leaf.nd rfl (Or.inl rfl) (pe_tup (pa_cons pe_str (pa_cons (pe_call C_law_number.ok (hr.mono (by first | decide | omega)) rfl C_law_number.m C_law_number.kp C_law_number.b .nil pass0 (pa_cons (pe_op op_fdiv (pv 5) pe_int) pa_nil)) pa_nil))))
      (pss_cons (ps_if (pt_k (PW.pt (pw_and (pt_cmpR op_eq (pv 2) pe_int (nomark _)) (pw_and (pt_cmpR (op_neD hr.units) (pv 7) (pe_lst pa_nil) (nomark _)) (pw_and1 (pt_cmpR op_gt (pe_op op_mod (pv 5) pe_int) pe_int (nomark _))))))) (pss_one (ps_ret (pe_tup (pa_cons pe_str (pa_cons (pe_tup (pa_cons pe_str (pa_cons (pe_ix ix_tup (pe_ix ix_list (pv 7) (pe_op op_mod (pe_op op_fdiv (pv 5) pe_int) (pe_callB call_len_seq (by rfl) T.len PySem.boot_len (pa_cons (pv 7) pa_nil))) (fun _ _ => rfl)) pe_int (fun _ _ => rfl)) pa_nil))) pa_nil))))) pss_nil)
      (pss_cons (ps_if (pt_cmpR op_eq (pv 3) pe_str (nomark _)) (pss_one (ps_ret (pv 8))) pss_nil)
      (pss_cons (ps_if (pt_k (PW.pt (pw_and (pt_cmpR (op_neD hr.units) (pv 7) (pe_lst pa_nil) (nomark _)) (pw_and1 (pt_cmpR op_gt (pe_op op_mod (pv 5) pe_int) pe_int (nomark _)))))) (pss_one (ps_ret (pe_tup (pa_cons pe_str (pa_cons (pe_tup (pa_cons pe_str (pa_cons (pe_ix ix_tup (pe_ix ix_list (pv 7) (pe_op op_mod (pe_op op_fdiv (pv 5) pe_int) (pe_callB call_len_seq (by rfl) T.len PySem.boot_len (pa_cons (pv 7) pa_nil))) (fun _ _ => rfl)) pe_int (fun _ _ => rfl)) pa_nil))) pa_nil))))) pss_nil)
      (pss_one (ps_ret (pe_ix ix_list (pe_lst (pa_cons (pe_tup (pa_cons pe_str (pa_cons (pv 8) pa_nil))) (pa_cons (pe_tup (pa_cons pe_str (pa_cons (pv 8) pa_nil))) pa_nil))) (pe_op op_mod (pe_op op_fdiv (pv 5) pe_int) pe_int) (fun _ _ => rfl))))))))))), ?_⟩
  refine ⟨_, rfl, _, rfl, _, rfl, sz 1, fun p1 h1 => ⟨sz 1, fun p2 h2 => ?_⟩⟩
  have s2 := (same_new h1 (.tup [.str (kindS k)])).trans (same_new h2 (.lst [.ref p1]))
  have hp1 : upd (upd H p1 (.tup [.str (kindS k)])) p2 (.lst [.ref p1]) p1 = some (.tup (sigV [k])) := same_new h2 _ _ _ upd_same
  have hp2 : upd (upd H p1 (.tup [.str (kindS k)])) p2 (.lst [.ref p1]) p2 = some (.lst [.ref p1]) := upd_same
  generalize upd (upd H p1 (.tup [.str (kindS k)])) p2 (.lst [.ref p1]) = H2 at s2 hp1 hp2 ⊢
  refine ⟨sa, p2, l, sc, ws, [[k]], rfl, s2 _ _ hS, hA.mono (.of_same s2), hok, hlen, sigs1_dp hp1 hp2, fun r1 es us H3 _ e3 hr1 hE hEl hEp => ?_⟩
  have s3 := s2.trans e3
  refine ⟨_, rfl, _, rfl, _, _, rfl, rfl, sz 1, fun p3 h3 => ⟨sz 1, fun p4 h4 => ⟨sz 1, fun p5 h5 => ⟨sz 1, fun p6 h6 => ⟨sz 2, fun p7 h7 => ?_⟩⟩⟩⟩⟩
  have e7 := same_new h7 (.lst [.ref p4, .ref p6])
  have e6 := (same_new h6 (.lst [.ref p5])).trans e7
  have e5 := (same_new h5 (.tup [.str "piece"])).trans e6
  have e4 := (same_new h4 (.lst [.ref p3])).trans e5
  have e3' := (same_new h3 (.tup [.str "number"])).trans e4
  have w3 := e4 _ _ (upd_same (H := H3) (a := p3) (o := .tup [.str "number"]))
  have w4 := e5 _ _ (upd_same (H := upd H3 p3 (.tup [.str "number"])) (a := p4) (o := .lst [.ref p3]))
  have w5 := e6 _ _ (upd_same (H := upd (upd H3 p3 (.tup [.str "number"])) p4 (.lst [.ref p3])) (a := p5) (o := .tup [.str "piece"]))
  have w6 := e7 _ _ (upd_same (H := upd (upd (upd H3 p3 (.tup [.str "number"])) p4 (.lst [.ref p3])) p5 (.tup [.str "piece"])) (a := p6) (o := .lst [.ref p5]))
  have w7 := upd_same (H := upd (upd (upd (upd H3 p3 (.tup [.str "number"])) p4 (.lst [.ref p3])) p5 (.tup [.str "piece"])) p6 (.lst [.ref p5])) (a := p7) (o := .lst [.ref p4, .ref p6])
  generalize upd (upd (upd (upd (upd H3 p3 (.tup [.str "number"])) p4 (.lst [.ref p3])) p5 (.tup [.str "piece"])) p6 (.lst [.ref p5])) p7 (.lst [.ref p4, .ref p6]) = H7 at e3' w3 w4 w5 w6 w7 ⊢
  clear e4 e5 e6 e7
  have s7 := s3.trans e3'
  obtain ⟨pp, qq, eat, hqq, hpp⟩ : ∃ (pp qq : Addr), atI [V.ref p4, .ref p6] (lvI l) = some (.ref qq) ∧ H7 qq = some (.lst [.ref pp]) ∧ H7 pp = some (.tup (sigV [l])) := by
    cases l
    · exact ⟨p3, p4, atI_n (n := 0) rfl rfl, w4, w3⟩
    · exact ⟨p5, p6, atI_n (n := 1) rfl rfl, w6, w5⟩
  have e1 : (1 : Int) - lvI l = lvI (!l) := by cases l <;> rfl
  refine ⟨_, rfl, p7, _, _, .ref qq, rfl, rfl, SqL.of w7, eat, ?_⟩
  refine ⟨sa, qq, !l, sc, ws, [[l]], congrArg (fun z => [V.ref sa, .int z, .ref qq]) e1, s7 _ _ hS, hA.mono (.of_same s7), hok, hlen, sigs1_dp hpp hqq, fun r2 es2 us2 H8 _ e8 hr2 hE2 hE2l hE2p => ?_⟩
  have s8 := s7.trans e8
  have hr1' := e8 _ _ (e3' _ _ hr1)
  have hE' := hE.mono (.of_same (e3'.trans e8))
  have ok1 : Sc.Ok es := fun e m => hok e (hEp e m).1
  have ok2 : Sc.Ok es2 := fun e m => hok e (hE2p e m).1
  refine ⟨fun b H' => Same H8 H' ∧ (b = true → es ≠ []), ?_, ?_⟩
  · refine ⟨_, rfl, _, _, rfl, rfl, (by show (0 : Int) < _; decide), _, _, rfl, rfl, _, rfl, ite2 (fun c1 => ?_) fun _ => ⟨Same.refl _, fun z => nomatch z⟩⟩
    refine ⟨_, rfl, Nat.zero_le _, seq_ne hE' hr1' ok1 fun G g => ⟨_, rfl, ite2 (fun c2 => ?_) fun _ => ⟨g, fun z => nomatch z⟩⟩⟩
    have ne := off_nil c2
    refine ⟨fun b H' => Same H8 H', ?_, fun b H' h => ⟨h, fun _ => ne⟩⟩
    refine ⟨_, rfl, _, _, rfl, rfl, ⟨by decide, by decide⟩, _, _, rfl, rfl, (by show (0 : Int) < _; decide), rfl, _, rfl, ite2 (fun _ => g) fun _ => ?_⟩
    refine ⟨_, rfl, Nat.zero_le _, seq_eq ((hE2.mono (.of_same g))) (g _ _ hr2) ok2 fun G' g' => ⟨_, rfl, g.trans g'⟩⟩
  rintro b H9 ⟨e9, hb⟩
  cases b with
  | true =>
    have ne := hb rfl
    have hE9 := hE'.mono (.of_same e9)
    have hl := hE9.len
    have pos : (0 : Int) < (us.length : Int) := by
      have : es.length ≠ 0 := fun z => ne (List.length_eq_zero_iff.mp z)
      omega
    have hm := mod_in (n / 12) pos
    obtain ⟨⟨y, u⟩, p, q', he, ea, hp, hq⟩ := hE9.pick hm.1 hm.2
    obtain ⟨hy, hly, hlv, hsg⟩ := hEp _ he
    refine iteT ⟨_, rfl, _, rfl, _, _, rfl, rfl, ⟨by decide, by decide⟩, _, rfl, r1, _, rfl, .inl (SqL.of (e9 _ _ hr1')), _, _, rfl, rfl, pos, r1, _, _, _, rfl, rfl, SqL.of (e9 _ _ hr1'), ea, p, _, _, _, rfl, rfl, SqT.of hp, atI_n (n := 0) rfl rfl, sz 2, fun p9 n9 => ?_⟩
    refine q (.name y) _ _ ((s8.trans e9).trans (same_new n9 _)) ⟨p9, rfl, upd_same⟩ (.name (hok _ hy) 0) fun fr => kd_name hly hlv (List.mem_singleton.mp hsg) fr
  | false =>
    refine iteF ?_
    refine ⟨_, rfl, _, _, rfl, rfl, ⟨by decide, by decide⟩, n / 16, rfl, by omega, by omega, fun c H10 e10 _ => ⟨sz 2, fun p11 n11 => ?_⟩⟩
    have e11 := e9.trans (e10.trans (same_new n11 (.tup [.str "num", .int c])))
    have w11 : TmAt (upd H10 p11 (.tup [.str "num", .int c])) (.num c) (.ref p11) := ⟨p11, rfl, upd_same⟩
    generalize upd H10 p11 (.tup [.str "num", .int c]) = H11 at e11 w11 ⊢
    have hE11 := hE2.mono (.of_same e11)
    have hr11 := e11 _ _ hr2
    refine ⟨fun b H' => Same H11 H' ∧ (b = true → l = true ∧ es2 ≠ []), ?_, ?_⟩
    · refine ⟨_, rfl, rfl, _, rfl, ite2 (fun c1 => ?_) fun _ => ⟨Same.refl _, fun z => nomatch z⟩⟩
      have hl : l = true := by
        have z : lvI l = 1 := V.int.inj (of_decide_eq_true c1)
        revert z
        cases l <;> first | (intro _; rfl) | (intro z; exact absurd z (by decide))
      refine ⟨_, rfl, Nat.zero_le _, seq_ne hE11 hr11 ok2 fun G g => ⟨_, rfl, ite2 (fun c2 => ?_) fun _ => ⟨g, fun z => nomatch z⟩⟩⟩
      exact ⟨_, rfl, _, _, rfl, rfl, (by show (0 : Int) < _; decide), _, _, rfl, rfl, _, rfl, g, fun _ => ⟨hl, off_nil c2⟩⟩
    rintro b H12 ⟨e12, hb⟩
    have hE12 := hE11.mono (.of_same e12)
    have hr12 := e12 _ _ hr11
    have s12 := s8.trans (e11.trans e12)
    have hl12 := hE12.len
    -- the other level's name, drawn
    have other : es2 ≠ [] → (0 : Int) < (us2.length : Int) ∧ ∀ {G : Hp}, Same H12 G → ∃ y p q' u, y ∈ sc.map (·.1) ∧ atI us2 (n / 12 % (us2.length : Int)) = some (.ref p) ∧ G p = some (.tup [.str y, .int (lvI (!l)), .ref q']) ∧ look sc y = some u ∧ u.lv = (!l) ∧ u.sig = [l] := fun ne => by
      have pos : (0 : Int) < (us2.length : Int) := by
        have : es2.length ≠ 0 := fun z => ne (List.length_eq_zero_iff.mp z)
        omega
      refine ⟨pos, fun {G} g => ?_⟩
      have hm := mod_in (n / 12) pos
      obtain ⟨⟨y, u⟩, p, q', he, ea, hp, hq⟩ := (hE12.mono (.of_same g)).pick hm.1 hm.2
      obtain ⟨hy, hly, hlv, hsg⟩ := hE2p _ he
      exact ⟨y, p, q', u, List.mem_map_of_mem hy, ea, by rw [← hlv]; exact hp, hly, hlv, List.mem_singleton.mp hsg⟩
    have okn : ∀ y, y ∈ sc.map (·.1) → PyData.strOk y = true := fun y m => by
      obtain ⟨e, he, rfl⟩ := List.mem_map.mp m
      exact hok e he
    cases b with
    | true =>
      obtain ⟨rfl, ne⟩ := hb rfl
      obtain ⟨pos, pk⟩ := other ne
      obtain ⟨y, p, q', u, hy, ea, hp, hly, hlv, hsg⟩ := pk (Same.refl _)
      refine iteT ⟨_, rfl, _, rfl, _, _, rfl, rfl, ⟨by decide, by decide⟩, _, rfl, r2, _, rfl, .inl (SqL.of hr12), _, _, rfl, rfl, pos, r2, _, _, _, rfl, rfl, SqL.of hr12, ea, p, _, _, _, rfl, rfl, SqT.of hp, atI_n (n := 0) rfl rfl, sz 2, fun p13 n13 => ⟨sz 2, fun p14 n14 => ?_⟩⟩
      have g13 := same_new n13 (.tup [.str "name", .str y])
      have g14 := same_new n14 (.tup [.str "hole", .ref p13])
      have kf := hlk rfl
      subst kf
      exact q (.un .hole (.name y)) _ _ (s12.trans (g13.trans g14)) ⟨p14, _, rfl, upd_same, p13, rfl, g14 _ _ upd_same⟩ (.unName (okn y hy) 0) fun fr => kd_hole (kd_name hly hlv hsg _) fr
    | false =>
      refine iteF ⟨_, rfl, rfl, _, rfl, ite2 (fun ck => ?_) fun ck => ?_⟩
      · have kf : k = false := by
          have z := V.str.inj (of_decide_eq_true ck)
          exact kindS_inj (l := false) z
        subst kf
        exact ⟨_, rfl, q (.num c) _ _ s12 (w11.mono (.of_same e12)) (.num c 0) fun fr => rfl⟩
      · have kt : k = true := by
          cases k
          · exact absurd (decide_eq_true rfl) ck
          · rfl
        subst kt
        have lf : l = false := by
          cases l
          · rfl
          · exact absurd (hlk rfl) (by decide)
        subst lf
        refine ⟨fun b H' => Same H12 H' ∧ (b = true → es2 ≠ []), ?_, ?_⟩
        · refine ⟨_, rfl, Nat.zero_le _, seq_ne hE12 hr12 ok2 fun G g => ⟨_, rfl, ite2 (fun c2 => ?_) fun _ => ⟨g, fun z => nomatch z⟩⟩⟩
          exact ⟨_, rfl, _, _, rfl, rfl, (by show (0 : Int) < _; decide), _, _, rfl, rfl, _, rfl, g, fun _ => off_nil c2⟩
        rintro b H13 ⟨e13, hb⟩
        have s13 := s12.trans e13
        cases b with
        | true =>
          obtain ⟨pos, pk⟩ := other (hb rfl)
          obtain ⟨y, p, q', u, hy, ea, hp, hly, hlv, hsg⟩ := pk e13
          refine iteT ⟨_, rfl, _, rfl, _, _, rfl, rfl, ⟨by decide, by decide⟩, _, rfl, r2, _, rfl, .inl (SqL.of (e13 _ _ hr12)), _, _, rfl, rfl, pos, r2, _, _, _, rfl, rfl, SqL.of (e13 _ _ hr12), ea, p, _, _, _, rfl, rfl, SqT.of hp, atI_n (n := 0) rfl rfl, sz 2, fun p13 n13 => ⟨sz 2, fun p14 n14 => ?_⟩⟩
          have g13 := same_new n13 (.tup [.str "name", .str y])
          have g14 := same_new n14 (.tup [.str "quote", .ref p13])
          exact q (.un .quote (.name y)) _ _ (s13.trans (g13.trans g14)) ⟨p14, _, rfl, upd_same, p13, rfl, g14 _ _ upd_same⟩ (.unName (okn y hy) 0) fun fr => kd_quote (kd_name hly hlv hsg _) fr
        | false =>
          refine iteF ⟨_, rfl, sz 2, fun p13 n13 => ⟨_, rfl, sz 2, fun p14 n14 => ⟨sz 2, fun p15 n15 => ?_⟩⟩⟩
          have g13 := same_new n13 (.tup [.str "lift", .ref p11])
          have g14 := same_new n14 (.tup [.str "quote", .ref p11])
          have g15 := same_new n15 (.lst [.ref p13, .ref p14])
          have hm := mod_in (n / 16) (n := 2) (by decide)
          obtain ⟨v, hv, ea⟩ := at_any (ys := [V.ref p13, .ref p14]) hm.1 hm.2
          refine ⟨_, rfl, _, _, rfl, rfl, ⟨by decide, by decide⟩, _, _, rfl, rfl, (by show (0 : Int) < _; decide), p15, _, _, _, rfl, rfl, SqL.of upd_same, ea, ?_⟩
          have ww := (w11.mono (.of_same e12)).mono (.of_same (e13.trans (g13.trans (g14.trans g15))))
          simp only [List.mem_cons, List.not_mem_nil, or_false] at hv
          rcases hv with rfl | rfl
          · exact q (.un .lift (.num c)) _ _ (s13.trans (g13.trans (g14.trans g15))) ⟨p13, _, rfl, g15 _ _ (g14 _ _ upd_same), ww⟩ (.unNum c 0) fun fr => kd_lift rfl
          · exact q (.un .quote (.num c)) _ _ (s13.trans (g13.trans (g14.trans g15))) ⟨p14, _, rfl, g15 _ _ upd_same, ww⟩ (.unNum c 0) fun fr => kd_quote rfl fr
end

/-! ### the words to draw from -/
def WordOk (l k fr : Bool) (y : Str) : Prop := y ∈ (["let", "turns", "def", "when", "use"] : List Str) ∨ (k = true ∧ y ∈ (["quote", "lift"] : List Str)) ∨ (k = false ∧ y ∈ (["sum", "product", "less"] : List Str)) ∨
  (k = false ∧ l = true ∧ y ∈ (["hole", "kept"] : List Str)) ∨ (k = false ∧ l = false ∧ fr = true ∧ y = "run")
def spWords : Sp := fun vs H Q _ => ∃ (l k fr : Bool), vs = [.int (lvI l), .str (kindS k), .bl fr] ∧ (l = true → k = false) ∧ ∀ (r : Addr) (ys : List Str) (H' : Hp), Same H H' → H' r = some (.lst (ys.map V.str)) → ys.length ≤ 20 → 0 < ys.length → (∀ y ∈ ys, WordOk l k fr y) → Q (.ref r) H'
abbrev s_words : Stmt := topS 43
theorem sc_words : FnScope ["_law_level", "_law_kind", "_law_free", "_law_some"] ["_law_level", "_law_kind", "_law_free"] (defScope s_words) := ⟨rfl, rfl, rfl, by decide +kernel, rfl, by decide +kernel, by decide +kernel⟩
section
variable {P : Program} {w : World} {K : PySem.W.Frag} {mg : Str → Option Value} {base : Heap} {f f1 f2 f3 f4 f5 f6 f7 f8 : Addr} {fd fd1 fd2 fd3 fd4 fd5 fd6 fd7 fd8 : FuncData}
theorem lvI_eq {l m : Bool} (h : lvI l = lvI m) : l = m := by
  revert h
  cases l <;> cases m <;> first | (intro _; rfl) | (intro z; exact absurd z (by decide))
theorem ok_words (F : Fun K "_law_words" "_law_words" s_words f fd) : FnOk P w K mg base CX0 1 f fd ["_law_level", "_law_kind", "_law_free"] spWords := by
  refine F.ok sc_words (fun vs H Q E h => ?_) (fun cdv A outer s H vs Q E hr h => ?_)
  · obtain ⟨l, k, fr, rfl, _⟩ := h
    rfl
  obtain ⟨l, k, fr, rfl, hlk, q⟩ := h
  refine ⟨_, (pss_cons (ps_set (i := 3) sc_words.nd rfl (Or.inl rfl) (pe_lst (pa_cons pe_str (pa_cons pe_str (pa_cons pe_str (pa_cons pe_str (pa_cons pe_str (pa_cons pe_str pa_nil))))))))
      (pss_cons (ps_if (pt_cmpR op_eq (pv 1) pe_str (nomark _)) (pss_one (ps_ret (pe_op op_cat (pv 3) (pe_lst (pa_cons pe_str (pa_cons pe_str (pa_cons pe_str (pa_cons pe_str (pa_cons pe_str (pa_cons pe_str (pa_cons pe_str pa_nil))))))))))) pss_nil)
      (pss_cons (ps_if (pt_cmpR op_eq (pv 0) pe_int (nomark _)) (pss_one (ps_ret (pe_op op_cat (pv 3) (pe_lst (pa_cons pe_str (pa_cons pe_str (pa_cons pe_str (pa_cons pe_str (pa_cons pe_str (pa_cons pe_str (pa_cons pe_str (pa_cons pe_str (pa_cons pe_str (pa_cons pe_str (pa_cons pe_str pa_nil))))))))))))))) pss_nil)
      (pss_cons (ps_if (pt_val (pv 2)) (pss_one (ps_ret (pe_op op_cat (pv 3) (pe_lst (pa_cons pe_str (pa_cons pe_str (pa_cons pe_str (pa_cons pe_str (pa_cons pe_str (pa_cons pe_str (pa_cons pe_str (pa_cons pe_str (pa_cons pe_str pa_nil))))))))))))) pss_nil)
      (pss_one (ps_ret (pe_op op_cat (pv 3) (pe_lst (pa_cons pe_str (pa_cons pe_str (pa_cons pe_str pa_nil))))))))))), ?_⟩
  refine ⟨sz 6, fun p1 n1 => ?_⟩
  have g1 := same_new n1 (.lst [V.str "let", .str "turns", .str "def", .str "when", .str "use", .str "use"])
  have w1 : upd H p1 (.lst [V.str "let", .str "turns", .str "def", .str "when", .str "use", .str "use"]) p1 = some (.lst ((["let", "turns", "def", "when", "use", "use"] : List Str).map V.str)) := upd_same
  refine ⟨_, rfl, rfl, _, rfl, ite2 (fun c1 => ?_) fun c1 => ?_⟩
  · have hk : k = true := kindS_inj (l := true) (V.str.inj (of_decide_eq_true c1))
    subst hk
    refine ⟨_, rfl, sz 7, fun p2 n2 => ⟨p1, p2, _, _, rfl, rfl, same_new n2 _ _ _ upd_same, upd_same, sz 13, fun p3 n3 => ?_⟩⟩
    refine q p3 ((["let", "turns", "def", "when", "use", "use"] : List Str) ++ (["quote", "quote", "quote", "quote", "quote", "quote", "lift"] : List Str)) _ (g1.trans ((same_new n2 _).trans (same_new n3 _))) upd_same (by decide) (by decide) fun y hy => ?_
    simp only [List.cons_append, List.nil_append, List.mem_cons, List.not_mem_nil, or_false] at hy
    unfold WordOk
    simp only [List.mem_cons, List.not_mem_nil, or_false]
    rcases hy with h | h | h | h | h | h | h | h | h | h | h | h | h <;> subst h <;> simp
  have hk : k = false := by
    cases k
    · rfl
    · exact absurd (decide_eq_true rfl) c1
  subst hk
  refine ⟨_, rfl, rfl, _, rfl, ite2 (fun c2 => ?_) fun c2 => ?_⟩
  · have hl : l = true := lvI_eq (m := true) (V.int.inj (of_decide_eq_true c2))
    subst hl
    refine ⟨_, rfl, sz 11, fun p2 n2 => ⟨p1, p2, _, _, rfl, rfl, same_new n2 _ _ _ upd_same, upd_same, sz 17, fun p3 n3 => ?_⟩⟩
    refine q p3 ((["let", "turns", "def", "when", "use", "use"] : List Str) ++ (["sum", "sum", "product", "less", "hole", "hole", "kept", "kept", "kept", "kept", "kept"] : List Str)) _ (g1.trans ((same_new n2 _).trans (same_new n3 _))) upd_same (by decide) (by decide) fun y hy => ?_
    simp only [List.cons_append, List.nil_append, List.mem_cons, List.not_mem_nil, or_false] at hy
    unfold WordOk
    simp only [List.mem_cons, List.not_mem_nil, or_false]
    rcases hy with h | h | h | h | h | h | h | h | h | h | h | h | h | h | h | h | h <;> subst h <;> simp
  have hl : l = false := by
    cases l
    · rfl
    · exact absurd (decide_eq_true rfl) c2
  subst hl
  refine ⟨_, rfl, _, rfl, ite2 (fun c3 => ?_) fun c3 => ?_⟩
  · have hf : fr = true := c3
    subst hf
    refine ⟨_, rfl, sz 9, fun p2 n2 => ⟨p1, p2, _, _, rfl, rfl, same_new n2 _ _ _ upd_same, upd_same, sz 15, fun p3 n3 => ?_⟩⟩
    refine q p3 ((["let", "turns", "def", "when", "use", "use"] : List Str) ++ (["sum", "product", "less", "run", "run", "run", "run", "run", "run"] : List Str)) _ (g1.trans ((same_new n2 _).trans (same_new n3 _))) upd_same (by decide) (by decide) fun y hy => ?_
    simp only [List.cons_append, List.nil_append, List.mem_cons, List.not_mem_nil, or_false] at hy
    unfold WordOk
    simp only [List.mem_cons, List.not_mem_nil, or_false]
    rcases hy with h | h | h | h | h | h | h | h | h | h | h | h | h | h | h <;> subst h <;> simp
  · refine ⟨_, rfl, sz 3, fun p2 n2 => ⟨p1, p2, _, _, rfl, rfl, same_new n2 _ _ _ upd_same, upd_same, sz 9, fun p3 n3 => ?_⟩⟩
    refine q p3 ((["let", "turns", "def", "when", "use", "use"] : List Str) ++ (["sum", "product", "less"] : List Str)) _ (g1.trans ((same_new n2 _).trans (same_new n3 _))) upd_same (by decide) (by decide) fun y hy => ?_
    simp only [List.cons_append, List.nil_append, List.mem_cons, List.not_mem_nil, or_false] at hy
    unfold WordOk
    simp only [List.mem_cons, List.not_mem_nil, or_false]
    rcases hy with h | h | h | h | h | h | h | h | h <;> subst h <;> simp
end

/-! ### the growers -/
/-- a term of the level and the kind, of what is in force; n calls, one within another, are allowed -/
def spTerm (K : PySem.W.Frag) (n : Nat) : Sp := fun vs H Q _ => ∃ (a st sa : Addr) (l k fr : Bool) (sc : Sc) (ws : List V) (c m d : Int) (e : Nat), vs = [.ref a, .ref st, .int (lvI l), .str (kindS k), .ref sa, .int d, .bl fr] ∧
  Ints K H a ∧ H st = some (.lst [.int c, .int m]) ∧ 0 ≤ c ∧ H sa = some (.lst ws) ∧ ScAt H sc ws ∧ sc.Good ∧ sc.length + 4 * e ≤ 60 ∧ d = (e : Int) ∧ e < n ∧ (l = true → k = false) ∧
  ∀ (t : Tm) (v : V) (c' m' : Int) (H' : Hp), But st H H' → H' st = some (.lst [.int c', .int m']) → 0 ≤ c' → TmAt H' t v → Grown t e → kd t l (look sc) fr = .ok k → Q v H'
def spTwice (K : PySem.W.Frag) (n : Nat) : Sp := fun vs H Q _ => ∃ (a st sa : Addr) (sc : Sc) (ws : List V) (c m d x : Int) (e : Nat), vs = [.ref a, .ref st, .ref sa, .int d, .int x] ∧
  Ints K H a ∧ H st = some (.lst [.int c, .int m]) ∧ 0 ≤ c ∧ H sa = some (.lst ws) ∧ ScAt H sc ws ∧ sc.Good ∧ sc.length + 1 + 4 * e ≤ 60 ∧ d = (e : Int) ∧ e < n ∧
  ∀ (t : Tm) (v : V) (c' m' : Int) (H' : Hp), But st H H' → H' st = some (.lst [.int c', .int m']) → 0 ≤ c' → TmAt H' t v → Inner t e → (∀ fr, kd t true (look sc) fr = .ok false) → Q v H'
def spGBound (K : PySem.W.Frag) (n : Nat) : Sp := fun vs H Q _ => ∃ (a st sa wa : Addr) (y : Str) (l k fr : Bool) (sc : Sc) (ws : List V) (c m d x : Int) (e : Nat), vs = [.ref a, .ref st, .ref wa, .ref sa, .int d, .int x] ∧
  Ints K H a ∧ H st = some (.lst [.int c, .int m]) ∧ 0 ≤ c ∧ H wa = some (.lst [.str y, .int (lvI l), .str (kindS k), .bl fr]) ∧ H sa = some (.lst ws) ∧ ScAt H sc ws ∧ sc.Good ∧ sc.length + 4 * (e + 1) ≤ 60 ∧ d = (e : Int) ∧ e < n ∧ 0 ≤ x ∧ x < 2147483629 ∧ (l = true → k = false) ∧
  (y = "let" ∨ y = "turns" ∨ y = "def" ∨ y = "use" ∨ (y = "kept" ∧ l = true ∧ k = false)) ∧
  ∀ (t : Tm) (v : V) (c' m' : Int) (H' : Hp), But st H H' → H' st = some (.lst [.int c', .int m']) → 0 ≤ c' → TmAt H' t v → Grown t (e + 1) → kd t l (look sc) fr = .ok k → Q v H'
abbrev s_term : Stmt := topS 44
theorem sc_term : FnScope ["_law_script", "_law_state", "_law_level", "_law_kind", "_law_scope", "_law_depth", "_law_free", "_law_number_here", "_law_words_here", "_law_word", "_law_one", "_law_other"] ["_law_script", "_law_state", "_law_level", "_law_kind", "_law_scope", "_law_depth", "_law_free"] (defScope s_term) := ⟨rfl, rfl, rfl, by decide +kernel, rfl, by decide +kernel, by decide +kernel⟩
abbrev s_twice : Stmt := topS 45
theorem sc_twice : FnScope ["_law_script", "_law_state", "_law_scope", "_law_depth", "_law_number_here", "_law_x", "_law_more", "_law_found", "_law_one", "_law_other"] ["_law_script", "_law_state", "_law_scope", "_law_depth", "_law_number_here"] (defScope s_twice) := ⟨rfl, rfl, rfl, by decide +kernel, rfl, by decide +kernel, by decide +kernel⟩
abbrev s_bound : Stmt := topS 46
theorem sc_bound : FnScope ["_law_script", "_law_state", "_law_what", "_law_scope", "_law_depth", "_law_number_here", "_law_word", "_law_level", "_law_kind", "_law_free", "_law_x", "_law_f", "_law_other", "_law_one", "_law_more", "_law_inner", "_law_many", "_law_found", "_law_whole", "_law_body"] ["_law_script", "_law_state", "_law_what", "_law_scope", "_law_depth", "_law_number_here"] (defScope s_bound) := ⟨rfl, rfl, rfl, by decide +kernel, rfl, by decide +kernel, by decide +kernel⟩
section
variable {P : Program} {w : World} {K : PySem.W.Frag} {mg : Str → Option Value} {base : Heap} {f f1 f2 f3 f4 f5 f6 f7 f8 : Addr} {fd fd1 fd2 fd3 fd4 fd5 fd6 fd7 fd8 : FuncData}
/-- at level 1 it is no matter whether run may stand there -/
theorem kd_free1 : ∀ (t : Tm) (E : Env) (fr fs : Bool), kd t true E fr = kd t true E fs
  | .num _, _, _, _ => rfl
  | .name _, _, _, _ => rfl
  | .use g a, E, fr, fs => by simp only [kd, kd_free1 a E fr fs]
  | .bin _ a b, E, fr, fs => by simp only [kd, kd_free1 a E fr fs, kd_free1 b E fr fs]
  | .cond c a b, E, fr, fs => by simp only [kd, kd_free1 c E fr fs, kd_free1 a E fr fs, kd_free1 b E fr fs]
  | .letx x a b, E, fr, fs => by simp only [kd, kd_free1 a E fr fs, fun E => kd_free1 b E fr fs]
  | .turns _ x a b, E, fr, fs => by simp only [kd, kd_free1 a E fr fs, fun E => kd_free1 b E fr fs]
  | .deff g x k a b, E, fr, fs => by simp only [kd, fun E => kd_free1 b E fr fs]
  | .un .quote a, _, _, _ => rfl
  | .un .hole a, _, _, _ => rfl
  | .un .lift a, _, _, _ => rfl
  | .un .run a, E, fr, fs => by simp [kd]
theorem ok_twice {n j : Nat} (F : Fun K "_law_twice" "_law_twice" s_twice f fd) (T : Txt mg)
    (C_law_seen : Cal P w K mg base "_law_seen" ["_law_scope", "_law_level", "_law_kinds"] 1 (spSeen K) f1 fd1) (C_law_name : Cal P w K mg base "_law_name" ["_law_script", "_law_which"] 3 (spName K) f2 fd2) (C_law_term : Cal P w K mg base "_law_term" ["_law_script", "_law_state", "_law_level", "_law_kind", "_law_scope", "_law_depth", "_law_free"] (4 + j) (spTerm K n) f3 fd3) : FnOk P w K mg base CX0 (4 + j + 1) f fd ["_law_script", "_law_state", "_law_scope", "_law_depth", "_law_number_here"] (spTwice K n) := by
  refine F.ok sc_twice (fun vs H Q E h => ?_) (fun cdv A outer s H vs Q E hr h => ?_)
  · obtain ⟨a, st, sa, sc, ws, c, m, d, x, e, rfl, _⟩ := h
    rfl
  obtain ⟨a, st, sa, sc, ws, c, m, d, x, e, rfl, hI, hst, hc, hS, hA, ⟨hok, hlv⟩, hl, rfl, hen, q⟩ := h
  refine ⟨_, (pss_cons (ps_set (i := 5) sc_twice.nd rfl (Or.inl rfl) (pe_call C_law_name.ok (hr.mono (by first | decide | omega)) rfl C_law_name.m C_law_name.kp C_law_name.b .nil pass0 (pa_cons (pv 0) (pa_cons (pe_ix ix_list (pe_lst (pa_cons pe_int (pa_cons pe_int (pa_cons pe_int (pa_cons pe_int pa_nil))))) (pe_op op_mod (pv 4) pe_int) (fun _ _ => rfl)) pa_nil))))
      (pss_cons (ps_set (i := 6) sc_twice.nd rfl (Or.inl rfl) (pe_op op_cat (pv 2) (pe_lst (pa_cons (pe_tup (pa_cons (pv 5) (pa_cons pe_int (pa_cons (pe_tup (pa_cons pe_str pa_nil)) pa_nil)))) pa_nil))))
      (pss_cons (ps_set (i := 7) sc_twice.nd rfl (Or.inl rfl) (pe_call C_law_seen.ok (hr.mono (by first | decide | omega)) rfl C_law_seen.m C_law_seen.kp C_law_seen.b .nil pass0 (pa_cons (pv 6) (pa_cons pe_int (pa_cons (pe_lst (pa_cons (pe_tup (pa_cons pe_str pa_nil)) pa_nil)) pa_nil)))))
      (pss_cons (ps_set (i := 8) sc_twice.nd rfl (Or.inl rfl) (pe_tup (pa_cons pe_str (pa_cons (pv 5) pa_nil))))
      (pss_cut (ps_if (pt_cmpR (op_neD hr.units) (pv 7) (pe_lst pa_nil) (nomark _)) (pss_one (ps_set (i := 8) sc_twice.nd rfl (Or.inl rfl) (pe_tup (pa_cons pe_str (pa_cons (pe_tup (pa_cons pe_str (pa_cons (pe_ix ix_tup (pe_ix ix_list (pv 7) (pe_op op_mod (pe_op op_fdiv (pv 4) pe_int) (pe_callB call_len_seq (by rfl) T.len PySem.boot_len (pa_cons (pv 7) pa_nil))) (fun _ _ => rfl)) pe_int (fun _ _ => rfl)) pa_nil))) pa_nil))))) pss_nil)
      (pss_cons (ps_set (i := 9) sc_twice.nd rfl (Or.inl rfl) (pe_call C_law_term.ok (hr.mono (by first | decide | omega)) rfl C_law_term.m C_law_term.kp C_law_term.b .nil pass0 (pa_cons (pv 0) (pa_cons (pv 1) (pa_cons pe_int (pa_cons pe_str (pa_cons (pv 6) (pa_cons (pv 3) (pa_cons pe_bl pa_nil)))))))))
      (pss_one (ps_ret (pe_tup (pa_cons pe_str (pa_cons (pv 5) (pa_cons (pe_tup (pa_cons pe_str (pa_cons (pe_op op_mod (pe_op op_fdiv (pv 4) pe_int) pe_int) pa_nil))) (pa_cons (pe_tup (pa_cons pe_str (pa_cons (pv 8) (pa_cons (pv 9) pa_nil)))) pa_nil))))))))))))), ?_⟩
  refine ⟨_, rfl, sz 4, fun p1 n1 => ?_⟩
  have g1 := same_new n1 (.lst [V.int 0, .int 0, .int 1, .int 2])
  have h4 := mod_in x (n := 4) (by decide)
  obtain ⟨k0, hk0, ek0⟩ := at_int (ys := [0, 0, 1, 2]) h4.1 h4.2
  refine ⟨_, rfl, _, _, rfl, rfl, (by show (0 : Int) < _; decide), p1, _, _, _, rfl, rfl, SqL.of upd_same, ek0, a, _, rfl, hI.same g1, fun nm H2 e2 hnm => ?_⟩
  have s2 := g1.trans e2
  refine ⟨_, rfl, _, rfl, sz 1, fun p3 n3 => ⟨sz 3, fun p4 n4 => ⟨sz 1, fun p5 n5 => ⟨sa, p5, ws, [V.ref p4], rfl, rfl, ?_, upd_same, sz _ (by have := hA.len; show ws.length + 1 ≤ _; omega), fun p6 n6 => ?_⟩⟩⟩⟩
  · exact same_new n5 _ _ _ (same_new n4 _ _ _ (same_new n3 _ _ _ (s2 _ _ hS)))
  have g3 := same_new n3 (.tup [.str "number"])
  have g4 := same_new n4 (.tup [.str nm, .int 1, .ref p3])
  have g5 := same_new n5 (.lst [.ref p4])
  have g6 := same_new n6 (.lst (ws ++ [.ref p4]))
  have s6 := s2.trans (g3.trans (g4.trans (g5.trans g6)))
  have hSc : ScAt _ (sc ++ [(nm, ⟨true, none, false⟩)]) (ws ++ [.ref p4]) := (hA.mono (.of_same s6)).app ⟨⟨p4, p3, rfl, g6 _ _ (g5 _ _ upd_same), g6 _ _ (g5 _ _ (g4 _ _ upd_same))⟩, True.intro⟩
  have h6 : upd (upd (upd (upd H2 p3 (.tup [.str "number"])) p4 (.tup [.str nm, .int 1, .ref p3])) p5 (.lst [.ref p4])) p6 (.lst (ws ++ [.ref p4])) p6 = some (.lst (ws ++ [.ref p4])) := upd_same
  generalize upd (upd (upd (upd H2 p3 (.tup [.str "number"])) p4 (.tup [.str nm, .int 1, .ref p3])) p5 (.lst [.ref p4])) p6 (.lst (ws ++ [.ref p4])) = H6 at s6 hSc h6 ⊢
  clear g3 g4 g5 g6
  have hgd : Sc.Good (sc ++ [(nm, ⟨true, none, false⟩)]) := Sc.Good.val ⟨hok, hlv⟩ hnm
  have hlk : look (sc ++ [(nm, ⟨true, none, false⟩)]) = (look sc).set nm ⟨true, none, false⟩ := look_snoc _ _ _
  have hln : (sc ++ [(nm, (⟨true, none, false⟩ : Ent))]).length = sc.length + 1 := List.length_append
  generalize hsc' : sc ++ [(nm, (⟨true, none, false⟩ : Ent))] = sc' at hSc hgd hlk hln
  have hok' := hgd.1
  generalize ws ++ [V.ref p4] = ws' at h6 hSc
  refine ⟨_, rfl, sz 1, fun p7 n7 => ⟨sz 1, fun p8 n8 => ?_⟩⟩
  have g7 := same_new n7 (.tup [.str "piece"])
  have g8 := same_new n8 (.lst [.ref p7])
  have s8 := s6.trans (g7.trans g8)
  refine ⟨p6, p8, false, sc', ws', [[true]], rfl, g8 _ _ (g7 _ _ h6), hSc.mono (.of_same (g7.trans g8)), hok', by omega, sigs1_dp (g8 _ _ upd_same) upd_same, fun r1 es us H9 _ e9 hr1 hE hEl hEp => ?_⟩
  have s9 := s8.trans e9
  have h69 := e9 _ _ (g8 _ _ (g7 _ _ h6))
  have hSc9 := hSc.mono (.of_same (g7.trans (g8.trans e9)))
  have ok1 : Sc.Ok es := fun z m => hok' z (hEp z m).1
  refine ⟨_, rfl, sz 2, fun p10 n10 => ?_⟩
  have g10 := same_new n10 (.tup [.str "name", .str nm])
  have w10 : TmAt (upd H9 p10 (.tup [.str "name", .str nm])) (.name nm) (.ref p10) := ⟨p10, rfl, upd_same⟩
  have s10 := s9.trans g10
  have h6a := g10 _ _ h69
  have hSca := hSc9.mono (.of_same g10)
  have hEa := hE.mono (.of_same g10)
  have hra := g10 _ _ hr1
  generalize upd H9 p10 (.tup [.str "name", .str nm]) = Ha at s10 w10 h6a hSca hEa hra ⊢
  refine ⟨fun σ' H' => ∃ (t1 : Tm) (v1 : V), σ' = [some (.ref a), some (.ref st), some (.ref sa), some (.int e), some (.int x), some (.str nm), some (.ref p6), some (.ref r1), some v1, none] ∧ Same Ha H' ∧ TmAt H' t1 v1 ∧ Grown t1 0 ∧ ∀ fr, kd t1 true (look sc') fr = .ok false, ?_, ?_⟩
  · refine ⟨_, rfl, Nat.zero_le _, seq_ne hEa hra ok1 fun G g => ⟨_, rfl, ite2 (fun c2 => ?_) fun _ => ?_⟩⟩
    · have ne := off_nil c2
      have hEg := hEa.mono (.of_same g)
      have hl' := hEg.len
      have pos : (0 : Int) < (us.length : Int) := by
        have : es.length ≠ 0 := fun z => ne (List.length_eq_zero_iff.mp z)
        omega
      have hm := mod_in (x / 4) pos
      obtain ⟨⟨y, u⟩, p, q', he, ea, hp, hq⟩ := hEg.pick hm.1 hm.2
      obtain ⟨hy, hly, hlv, hsg⟩ := hEp _ he
      refine ⟨_, rfl, _, rfl, _, _, rfl, rfl, ⟨by decide, by decide⟩, _, rfl, r1, _, rfl, .inl (SqL.of (g _ _ hra)), _, _, rfl, rfl, pos, r1, _, _, _, rfl, rfl, SqL.of (g _ _ hra), ea, p, _, _, _, rfl, rfl, SqT.of hp, atI_n (n := 0) rfl rfl, sz 2, fun p11 n11 => ⟨sz 2, fun p12 n12 => ?_⟩⟩
      have g11 := same_new n11 (.tup [.str "name", .str y])
      have g12 := same_new n12 (.tup [.str "hole", .ref p11])
      exact ⟨.un .hole (.name y), _, rfl, g.trans (g11.trans g12), ⟨p12, _, rfl, upd_same, p11, rfl, g12 _ _ upd_same⟩, .unName (hok' _ hy) 0, fun fr => kd_hole (kd_name hly hlv (List.mem_singleton.mp hsg) _) fr⟩
    · refine ⟨.name nm, _, rfl, g, w10.mono (.of_same g), .name hnm 0, fun fr => kd_name (u := ⟨true, none, false⟩) ?_ rfl rfl fr⟩
      rw [hlk]
      exact if_pos rfl
  rintro σ' Hb ⟨t1, v1, rfl, gb, w1, gr1, k1⟩
  have sb := s10.trans gb
  refine ⟨_, rfl, _, rfl, _, rfl, _, rfl, a, st, p6, true, false, false, sc', ws', c, m, e, e, rfl, hI.same sb, sb _ _ hst, hc, gb _ _ h6a, hSca.mono (.of_same gb), hgd, by omega, rfl, hen, fun _ => rfl, fun t2 v2 c' m' H' b' hst' hc' w2 gr2 k2 => ?_⟩
  have w1' := w1.mono (.of_but b' (sb _ _ hst))
  have b2 := (But.of_same sb).trans b'
  refine ⟨_, rfl, _, rfl, _, _, rfl, rfl, ⟨by decide, by decide⟩, _, _, rfl, rfl, (by show (0 : Int) < _; decide), sz 2, fun p13 n13 => ⟨_, rfl, _, rfl, sz 3, fun p14 n14 => ⟨sz 4, fun p15 n15 => ?_⟩⟩⟩
  have g13 := same_new n13 (.tup [.str "num", .int (x / 16 % 50)])
  have g14 := same_new n14 (.tup [.str "sum", v1, v2])
  have g15 := same_new n15 (.tup [.str "let", .str nm, .ref p13, .ref p14])
  refine q (.letx nm (.num (x / 16 % 50)) (.bin .sum t1 t2)) _ c' m' _ (b2.trans (.of_same (g13.trans (g14.trans g15)))) (g15 _ _ (g14 _ _ (g13 _ _ hst'))) hc' ⟨p15, _, _, rfl, upd_same, ⟨p13, rfl, g15 _ _ (g14 _ _ upd_same)⟩, p14, _, _, rfl, g15 _ _ upd_same, w1'.mono (.of_same (g13.trans (g14.trans g15))), w2.mono (.of_same (g13.trans (g14.trans g15)))⟩ (.twice hnm gr1 gr2) fun fr => ?_
  show Kd.and (.ok false) (fun k => kd (.bin .sum t1 t2) true ((look sc).set nm ⟨true, none, k⟩) fr) = .ok false
  show kd (.bin .sum t1 t2) true ((look sc).set nm ⟨true, none, false⟩) fr = .ok false
  rw [← hlk]
  simp only [kd, k1 fr, kd_free1 t2 _ fr false, k2, Kd.want, Kd.and, if_true]
end

section
variable {P : Program} {w : World} {K : PySem.W.Frag} {mg : Str → Option Value} {base : Heap} {f f1 f2 f3 f4 f5 f6 f7 f8 : Addr} {fd fd1 fd2 fd3 fd4 fd5 fd6 fd7 fd8 : FuncData}
theorem ok_term {n j : Nat} (F : Fun K "_law_term" "_law_term" s_term f fd) (T : Txt mg)
    (C_law_next : Cal P w K mg base "_law_next" ["_law_script", "_law_state"] 3 (spNext K) f1 fd1) (C_law_leaf : Cal P w K mg base "_law_leaf" ["_law_script", "_law_state", "_law_level", "_law_kind", "_law_scope", "_law_number_here"] 2 (spLeaf K) f2 fd2) (C_law_words : Cal P w K mg base "_law_words" ["_law_level", "_law_kind", "_law_free"] 1 spWords f3 fd3)
    (C_law_bound : Cal P w K mg base "_law_bound" ["_law_script", "_law_state", "_law_what", "_law_scope", "_law_depth", "_law_number_here"] (4 + j + 2) (spGBound K n) f4 fd4) (C_law_term : Cal P w K mg base "_law_term" ["_law_script", "_law_state", "_law_level", "_law_kind", "_law_scope", "_law_depth", "_law_free"] (4 + j) (spTerm K n) f fd) : FnOk P w K mg base CX0 (4 + j + 3) f fd ["_law_script", "_law_state", "_law_level", "_law_kind", "_law_scope", "_law_depth", "_law_free"] (spTerm K (n + 1)) := by
  refine F.ok sc_term (fun vs H Q E h => ?_) (fun cdv A outer s H vs Q E hr h => ?_)
  · obtain ⟨a, st, sa, l, k, fr, sc, ws, c, m, d, e, rfl, _⟩ := h
    rfl
  obtain ⟨a, st, sa, l, k, fr, sc, ws, c, m, d, e, rfl, hI, hst, hc, hS, hA, ⟨hok, hlv⟩, hln, rfl, hen, hlk, q⟩ := h
  have nsa := hA.off hS hst
  refine ⟨_, (pss_cons (ps_set (i := 7) sc_term.nd rfl (Or.inl rfl) (pe_call C_law_next.ok (hr.mono (by first | decide | omega)) rfl C_law_next.m C_law_next.kp C_law_next.b .nil pass0 (pa_cons (pv 0) (pa_cons (pv 1) pa_nil))))
      (pss_cons (ps_asg (pe_op op_add (pe_ix ix_list (pv 1) pe_int (fun _ _ => rfl)) pe_int) (pg_sub (pv 1) pe_int set_list))
      (pss_cons (ps_if (pt_k (PW.pt (pw_or (pt_cmpR op_eq (pv 5) pe_int (nomark _)) (pw_or1 (pt_cmpR op_gt (pe_ix ix_list (pv 1) pe_int (fun _ _ => rfl)) pe_int (nomark _)))))) (pss_one (ps_ret (pe_call C_law_leaf.ok (hr.mono (by first | decide | omega)) rfl C_law_leaf.m C_law_leaf.kp C_law_leaf.b .nil pass0 (pa_cons (pv 0) (pa_cons (pv 1) (pa_cons (pv 2) (pa_cons (pv 3) (pa_cons (pv 4) (pa_cons (pv 7) pa_nil))))))))) pss_nil)
      (pss_cons (ps_set (i := 8) sc_term.nd rfl (Or.inl rfl) (pe_call C_law_words.ok (hr.mono (by first | decide | omega)) rfl C_law_words.m C_law_words.kp C_law_words.b .nil pass0 (pa_cons (pv 2) (pa_cons (pv 3) (pa_cons (pv 6) pa_nil)))))
      (pss_cons (ps_set (i := 9) sc_term.nd rfl (Or.inl rfl) (pe_ix ix_list (pv 8) (pe_op op_mod (pv 7) (pe_callB call_len_seq (by rfl) T.len PySem.boot_len (pa_cons (pv 8) pa_nil))) (fun _ _ => rfl)))
      (pss_cons (ps_set (i := 7) sc_term.nd rfl (Or.inl rfl) (pe_op op_fdiv (pv 7) (pe_callB call_len_seq (by rfl) T.len PySem.boot_len (pa_cons (pv 8) pa_nil))))
      (pss_cons (ps_if (pt_cmpR op_in_seq (pv 9) (pe_tup (pa_cons pe_str (pa_cons pe_str (pa_cons pe_str (pa_cons pe_str (pa_cons pe_str pa_nil)))))) (by rfl)) (pss_one (ps_ret (pe_call C_law_bound.ok (hr.mono (by first | decide | omega)) rfl C_law_bound.m C_law_bound.kp C_law_bound.b .nil pass0 (pa_cons (pv 0) (pa_cons (pv 1) (pa_cons (pe_lst (pa_cons (pv 9) (pa_cons (pv 2) (pa_cons (pv 3) (pa_cons (pv 6) pa_nil))))) (pa_cons (pv 4) (pa_cons (pe_op op_sub (pv 5) pe_int) (pa_cons (pv 7) pa_nil))))))))) pss_nil)
      (pss_cons (ps_if (pt_cmpR op_eq (pv 9) pe_str (nomark _)) (pss_one (ps_ret (pe_tup (pa_cons pe_str (pa_cons (pe_call C_law_term.ok (hr.mono (by first | decide | omega)) rfl C_law_term.m C_law_term.kp C_law_term.b .nil pass0 (pa_cons (pv 0) (pa_cons (pv 1) (pa_cons pe_int (pa_cons pe_str (pa_cons (pv 4) (pa_cons (pe_op op_sub (pv 5) pe_int) (pa_cons pe_bl pa_nil)))))))) pa_nil))))) pss_nil)
      (pss_cons (ps_if (pt_cmpR op_eq (pv 9) pe_str (nomark _)) (pss_one (ps_ret (pe_tup (pa_cons pe_str (pa_cons (pe_call C_law_term.ok (hr.mono (by first | decide | omega)) rfl C_law_term.m C_law_term.kp C_law_term.b .nil pass0 (pa_cons (pv 0) (pa_cons (pv 1) (pa_cons pe_int (pa_cons pe_str (pa_cons (pv 4) (pa_cons (pe_op op_sub (pv 5) pe_int) (pa_cons pe_bl pa_nil)))))))) pa_nil))))) pss_nil)
      (pss_cons (ps_if (pt_cmpR op_eq (pv 9) pe_str (nomark _)) (pss_one (ps_ret (pe_tup (pa_cons pe_str (pa_cons (pe_call C_law_term.ok (hr.mono (by first | decide | omega)) rfl C_law_term.m C_law_term.kp C_law_term.b .nil pass0 (pa_cons (pv 0) (pa_cons (pv 1) (pa_cons pe_int (pa_cons pe_str (pa_cons (pv 4) (pa_cons (pe_op op_sub (pv 5) pe_int) (pa_cons (pv 6) pa_nil)))))))) pa_nil))))) pss_nil)
      (pss_cons (ps_if (pt_cmpR op_eq (pv 9) pe_str (nomark _)) (pss_one (ps_ret (pe_tup (pa_cons pe_str (pa_cons (pe_call C_law_term.ok (hr.mono (by first | decide | omega)) rfl C_law_term.m C_law_term.kp C_law_term.b .nil pass0 (pa_cons (pv 0) (pa_cons (pv 1) (pa_cons pe_int (pa_cons pe_str (pa_cons (pv 4) (pa_cons (pe_op op_sub (pv 5) pe_int) (pa_cons (pv 6) pa_nil)))))))) pa_nil))))) pss_nil)
      (pss_cons (ps_set (i := 10) sc_term.nd rfl (Or.inl rfl) (pe_call C_law_term.ok (hr.mono (by first | decide | omega)) rfl C_law_term.m C_law_term.kp C_law_term.b .nil pass0 (pa_cons (pv 0) (pa_cons (pv 1) (pa_cons (pv 2) (pa_cons pe_str (pa_cons (pv 4) (pa_cons (pe_op op_sub (pv 5) pe_int) (pa_cons (pv 6) pa_nil)))))))))
      (pss_cons (ps_if (pt_cmpR op_ne (pv 9) pe_str (nomark _)) (pss_one (ps_ret (pe_tup (pa_cons (pv 9) (pa_cons (pv 10) (pa_cons (pe_call C_law_term.ok (hr.mono (by first | decide | omega)) rfl C_law_term.m C_law_term.kp C_law_term.b .nil pass0 (pa_cons (pv 0) (pa_cons (pv 1) (pa_cons (pv 2) (pa_cons pe_str (pa_cons (pv 4) (pa_cons (pe_op op_sub (pv 5) pe_int) (pa_cons (pv 6) pa_nil)))))))) pa_nil)))))) pss_nil)
      (pss_cons (ps_set (i := 11) sc_term.nd rfl (Or.inl rfl) (pe_call C_law_term.ok (hr.mono (by first | decide | omega)) rfl C_law_term.m C_law_term.kp C_law_term.b .nil pass0 (pa_cons (pv 0) (pa_cons (pv 1) (pa_cons (pv 2) (pa_cons (pv 3) (pa_cons (pv 4) (pa_cons (pe_op op_sub (pv 5) pe_int) (pa_cons (pv 6) pa_nil)))))))))
      (pss_one (ps_ret (pe_tup (pa_cons pe_str (pa_cons (pv 10) (pa_cons (pv 11) (pa_cons (pe_call C_law_term.ok (hr.mono (by first | decide | omega)) rfl C_law_term.m C_law_term.kp C_law_term.b .nil pass0 (pa_cons (pv 0) (pa_cons (pv 1) (pa_cons (pv 2) (pa_cons (pv 3) (pa_cons (pv 4) (pa_cons (pe_op op_sub (pv 5) pe_int) (pa_cons (pv 6) pa_nil)))))))) pa_nil))))))))))))))))))))), ?_⟩
  refine ⟨_, rfl, _, rfl, a, st, c, [.int m], rfl, hI, hst, hc, fun x x0 x1 => ?_⟩
  refine ⟨_, rfl, st, _, _, _, rfl, rfl, SqL.of upd_same, atI_n (n := 1) rfl rfl, _, _, rfl, rfl, _, rfl, st, _, _, 1, rfl, rfl, upd_same, ixN_lt (by decide) (by show (1 : Int) < 2; decide), ?_⟩
  have b2 : But st H (upd (upd H st (.lst [V.int (c + 1), .int m])) st (.lst [V.int (c + 1), .int (m + 1)])) := (But.put _ _ _).trans (.put _ _ _)
  have st2 : upd (upd H st (.lst [V.int (c + 1), .int m])) st (.lst [V.int (c + 1), .int (m + 1)]) st = some (.lst [V.int (c + 1), .int (m + 1)]) := upd_same
  dsimp only [List.set]
  generalize upd (upd H st (.lst [V.int (c + 1), .int m])) st (.lst [V.int (c + 1), .int (m + 1)]) = H2 at b2 st2 ⊢
  have hS2 := b2 _ _ nsa hS
  have hA2 := hA.mono (.of_but b2 hst)
  have hI2 := hI.but hst b2
  refine ⟨fun b H' => H2 = H' ∧ (b = false → e ≠ 0), ?_, ?_⟩
  · refine ⟨_, rfl, rfl, _, rfl, ite2 (fun _ => ⟨rfl, fun z => nomatch z⟩) fun c1 => ?_⟩
    exact ⟨_, rfl, st, _, _, _, rfl, rfl, SqL.of st2, atI_n (n := 1) rfl rfl, _, _, rfl, rfl, _, rfl, rfl, fun _ z => c1 (by rw [z]; exact decide_eq_true rfl)⟩
  rintro b _ ⟨rfl, hb⟩
  cases b with
  | true =>
    exact iteT ⟨_, rfl, _, rfl, _, rfl, _, rfl, _, rfl, _, rfl, a, st, sa, l, k, sc, ws, x, rfl, hS2, hA2, hok, by omega, x0, x1, hlk, fun t v H' e' w g kk => q t v _ _ H' (b2.trans (.of_same e')) (e' _ _ st2) (by omega) w (g.mono (Nat.zero_le _)) (kk fr)⟩
  | false =>
    obtain ⟨e', rfl⟩ : ∃ e', e = e' + 1 := ⟨e - 1, by have := hb rfl; omega⟩
    refine iteF ⟨_, rfl, _, rfl, _, rfl, l, k, fr, rfl, hlk, fun r ys H3 e3 hr hy20 hy0 hyok => ?_⟩
    have hlen : ((ys.map V.str).length : Int) = (ys.length : Int) := by rw [List.length_map]
    have hm := mod_in x (n := (ys.length : Int)) (by omega)
    obtain ⟨y, hy, ey⟩ := at_str (ys := ys) hm.1 hm.2
    have wok := hyok y hy
    refine ⟨_, rfl, _, rfl, _, rfl, r, _, rfl, .inl (SqL.of hr), _, _, rfl, rfl, (by rw [hlen]; omega), r, _, _, _, rfl, rfl, SqL.of hr, (by rw [hlen]; exact ey), ?_⟩
    refine ⟨_, rfl, _, rfl, r, _, rfl, .inl (SqL.of hr), _, _, rfl, rfl, ⟨by rw [hlen]; omega, by rw [hlen]; omega⟩, ?_⟩
    have xq : 0 ≤ x / ((ys.map V.str).length : Int) ∧ x / ((ys.map V.str).length : Int) < 2147483629 := by
      rw [hlen]
      have hp : (0 : Int) < (ys.length : Int) := by omega
      refine ⟨Int.ediv_nonneg x0 (by omega), Int.lt_of_le_of_lt (Int.ediv_le_self _ x0) x1⟩
    refine ⟨_, rfl, sz 5, fun p4 n4 => ?_⟩
    have e4 := e3.trans (same_new n4 (.tup [.str "let", .str "turns", .str "def", .str "use", .str "kept"]))
    refine ⟨p4, _, rfl, .inr (SqT.of upd_same), rfl, rfl, _, rfl, ?_⟩
    generalize upd H3 p4 (.tup [.str "let", .str "turns", .str "def", .str "use", .str "kept"]) = H4 at e4 ⊢
    have b4 := b2.trans (.of_same e4)
    have st4 := e4 _ _ st2
    have hS4 := e4 _ _ hS2
    have hA4 := hA2.mono (.of_same e4)
    have hI4 := hI2.same e4
    refine ite2 (fun cw => ?_) fun cw => ?_
    · have cw' := inV_str.mp (show inV (V.str y) ((["let", "turns", "def", "use", "kept"] : List Str).map V.str) = true from cw)
      refine ⟨_, rfl, _, rfl, _, rfl, _, rfl, _, rfl, _, rfl, sz 4, fun p5 n5 => ?_⟩
      have g5 := same_new n5 (.lst [V.str y, .int (lvI l), .str (kindS k), .bl fr])
      refine ⟨_, rfl, _, rfl, _, _, rfl, rfl, _, rfl, a, st, sa, p5, y, l, k, fr, sc, ws, c + 1, m + 1, ((e' + 1 : Nat) : Int) - 1, x / ((ys.map V.str).length : Int), e', rfl, hI4.same g5, g5 _ _ st4, by omega, upd_same, g5 _ _ hS4, hA4.mono (.of_same g5), ⟨hok, hlv⟩, by omega, by omega, by omega, xq.1, xq.2, hlk, ?_, fun t v c' m' H' b' hst' hc' w g kk => q t v c' m' H' ((b4.trans (.of_same g5)).trans b') hst' hc' w g kk⟩
      simp only [List.mem_cons, List.not_mem_nil, or_false] at cw'
      rcases cw' with h | h | h | h | h
      · exact .inl h
      · exact .inr (.inl h)
      · exact .inr (.inr (.inl h))
      · exact .inr (.inr (.inr (.inl h)))
      · refine .inr (.inr (.inr (.inr ⟨h, ?_⟩)))
        subst h
        rcases wok with z | ⟨_, z⟩ | ⟨_, z⟩ | ⟨k0, l1, _⟩ | ⟨_, _, _, z⟩
        · exact absurd z (by decide +kernel)
        · exact absurd z (by decide +kernel)
        · exact absurd z (by decide +kernel)
        · exact ⟨l1, k0⟩
        · exact absurd z (by decide +kernel)
    have cw' : ¬ y ∈ (["let", "turns", "def", "use", "kept"] : List Str) := fun z => cw (inV_str.mpr z)
    refine ⟨_, rfl, rfl, _, rfl, ite2 (fun cq => ?_) fun cq => ?_⟩
    · have hy' : y = "quote" := V.str.inj (of_decide_eq_true cq)
      subst hy'
      have hkl : k = true ∧ l = false := by
        rcases wok with z | ⟨k1, z⟩ | ⟨_, z⟩ | ⟨k0, l1, z⟩ | ⟨_, _, _, z⟩
        · exact absurd z (by decide +kernel)
        · exact ⟨k1, by cases l with | false => rfl | true => exact absurd (k1.symm.trans (hlk rfl)) (by decide)⟩
        · exact absurd z (by decide +kernel)
        · exact absurd z (by decide +kernel)
        · exact absurd z (by decide +kernel)
      obtain ⟨rfl, rfl⟩ := hkl
      refine ⟨_, rfl, _, rfl, _, rfl, _, rfl, _, _, rfl, rfl, a, st, sa, true, false, false, sc, ws, c + 1, m + 1, ((e' + 1 : Nat) : Int) - 1, e', rfl, hI4, st4, by omega, hS4, hA4, ⟨hok, hlv⟩, by omega, by omega, by omega, fun _ => rfl, fun t v c' m' H' b' hst' hc' w g kk => ⟨sz 2, fun p n => ?_⟩⟩
      have g5 := same_new n (.tup [.str "quote", v])
      exact q (.un .quote t) _ c' m' _ ((b4.trans b').trans (.of_same g5)) (g5 _ _ hst') hc' ⟨p, v, rfl, upd_same, w.mono (.of_same g5)⟩ (.un g) (kd_quote kk fr)
    refine ⟨_, rfl, rfl, _, rfl, ite2 (fun ch => ?_) fun ch => ?_⟩
    · have hy' : y = "hole" := V.str.inj (of_decide_eq_true ch)
      subst hy'
      have hkl : k = false ∧ l = true := by
        rcases wok with z | ⟨k1, z⟩ | ⟨_, z⟩ | ⟨k0, l1, z⟩ | ⟨_, _, _, z⟩
        · exact absurd z (by decide +kernel)
        · exact absurd z (by decide +kernel)
        · exact absurd z (by decide +kernel)
        · exact ⟨k0, l1⟩
        · exact absurd z (by decide +kernel)
      obtain ⟨rfl, rfl⟩ := hkl
      refine ⟨_, rfl, _, rfl, _, rfl, _, rfl, _, _, rfl, rfl, a, st, sa, false, true, false, sc, ws, c + 1, m + 1, ((e' + 1 : Nat) : Int) - 1, e', rfl, hI4, st4, by omega, hS4, hA4, ⟨hok, hlv⟩, by omega, by omega, by omega, (fun z => nomatch z), fun t v c' m' H' b' hst' hc' w g kk => ⟨sz 2, fun p n => ?_⟩⟩
      have g5 := same_new n (.tup [.str "hole", v])
      exact q (.un .hole t) _ c' m' _ ((b4.trans b').trans (.of_same g5)) (g5 _ _ hst') hc' ⟨p, v, rfl, upd_same, w.mono (.of_same g5)⟩ (.un g) (kd_hole kk fr)
    refine ⟨_, rfl, rfl, _, rfl, ite2 (fun cl => ?_) fun cl => ?_⟩
    · have hy' : y = "lift" := V.str.inj (of_decide_eq_true cl)
      subst hy'
      have hkl : k = true ∧ l = false := by
        rcases wok with z | ⟨k1, z⟩ | ⟨_, z⟩ | ⟨k0, l1, z⟩ | ⟨_, _, _, z⟩
        · exact absurd z (by decide +kernel)
        · exact ⟨k1, by cases l with | false => rfl | true => exact absurd (k1.symm.trans (hlk rfl)) (by decide)⟩
        · exact absurd z (by decide +kernel)
        · exact absurd z (by decide +kernel)
        · exact absurd z (by decide +kernel)
      obtain ⟨rfl, rfl⟩ := hkl
      refine ⟨_, rfl, _, rfl, _, rfl, _, rfl, _, _, rfl, rfl, _, rfl, a, st, sa, false, false, fr, sc, ws, c + 1, m + 1, ((e' + 1 : Nat) : Int) - 1, e', rfl, hI4, st4, by omega, hS4, hA4, ⟨hok, hlv⟩, by omega, by omega, by omega, (fun z => nomatch z), fun t v c' m' H' b' hst' hc' w g kk => ⟨sz 2, fun p n => ?_⟩⟩
      have g5 := same_new n (.tup [.str "lift", v])
      exact q (.un .lift t) _ c' m' _ ((b4.trans b').trans (.of_same g5)) (g5 _ _ hst') hc' ⟨p, v, rfl, upd_same, w.mono (.of_same g5)⟩ (.un g) (kd_lift kk)
    refine ⟨_, rfl, rfl, _, rfl, ite2 (fun cr => ?_) fun cr => ?_⟩
    · have hy' : y = "run" := V.str.inj (of_decide_eq_true cr)
      subst hy'
      have hkl : k = false ∧ l = false ∧ fr = true := by
        rcases wok with z | ⟨k1, z⟩ | ⟨_, z⟩ | ⟨k0, l1, z⟩ | ⟨k0, l0, f1, z⟩
        · exact absurd z (by decide +kernel)
        · exact absurd z (by decide +kernel)
        · exact absurd z (by decide +kernel)
        · exact absurd z (by decide +kernel)
        · exact ⟨k0, l0, f1⟩
      obtain ⟨rfl, rfl, rfl⟩ := hkl
      refine ⟨_, rfl, _, rfl, _, rfl, _, rfl, _, _, rfl, rfl, _, rfl, a, st, sa, false, true, true, sc, ws, c + 1, m + 1, ((e' + 1 : Nat) : Int) - 1, e', rfl, hI4, st4, by omega, hS4, hA4, ⟨hok, hlv⟩, by omega, by omega, by omega, (fun z => nomatch z), fun t v c' m' H' b' hst' hc' w g kk => ⟨sz 2, fun p n => ?_⟩⟩
      have g5 := same_new n (.tup [.str "run", v])
      exact q (.un .run t) _ c' m' _ ((b4.trans b').trans (.of_same g5)) (g5 _ _ hst') hc' ⟨p, v, rfl, upd_same, w.mono (.of_same g5)⟩ (.un g) (kd_run kk)
    have nq : y ≠ "quote" := fun z => cq (by rw [z]; exact decide_eq_true rfl)
    have nh : y ≠ "hole" := fun z => ch (by rw [z]; exact decide_eq_true rfl)
    have nl : y ≠ "lift" := fun z => cl (by rw [z]; exact decide_eq_true rfl)
    have nr : y ≠ "run" := fun z => cr (by rw [z]; exact decide_eq_true rfl)
    have hyy : y = "when" ∨ (k = false ∧ ∃ o : Bin, y = o.word) := by
      rcases wok with z | ⟨k1, z⟩ | ⟨k0, z⟩ | ⟨k0, l1, z⟩ | ⟨k0, l0, f1, z⟩
      · simp only [List.mem_cons, List.not_mem_nil, or_false, not_or] at z cw'
        rcases z with z | z | z | z | z
        · exact absurd z cw'.1
        · exact absurd z cw'.2.1
        · exact absurd z cw'.2.2.1
        · exact .inl z
        · exact absurd z cw'.2.2.2.1
      · simp only [List.mem_cons, List.not_mem_nil, or_false] at z
        rcases z with z | z
        · exact absurd z nq
        · exact absurd z nl
      · simp only [List.mem_cons, List.not_mem_nil, or_false] at z
        rcases z with z | z | z
        · exact .inr ⟨k0, .sum, z⟩
        · exact .inr ⟨k0, .product, z⟩
        · exact .inr ⟨k0, .less, z⟩
      · simp only [List.mem_cons, List.not_mem_nil, or_false, not_or] at z cw'
        rcases z with z | z
        · exact absurd z nh
        · exact absurd z cw'.2.2.2.2
      · exact absurd z nr
    refine ⟨_, rfl, _, rfl, _, rfl, _, rfl, _, rfl, _, _, rfl, rfl, _, rfl, a, st, sa, l, false, fr, sc, ws, c + 1, m + 1, ((e' + 1 : Nat) : Int) - 1, e', rfl, hI4, st4, by omega, hS4, hA4, ⟨hok, hlv⟩, by omega, by omega, by omega, (fun _ => rfl), fun t1 v1 c5 m5 H5 b5 st5 hc5 w1 g1 k1 => ?_⟩
    have hS5 := b5 _ _ nsa hS4
    have hA5 := hA4.mono (.of_but b5 st4)
    have hI5 := hI4.but st4 b5
    refine ⟨_, rfl, rfl, _, rfl, ite2 (fun cn => ?_) fun cn => ?_⟩
    · have ny : y ≠ "when" := fun z => by rw [z] at cn; exact absurd cn (by decide +kernel)
      obtain ⟨rfl, o, rfl⟩ := hyy.resolve_left ny
      refine ⟨_, rfl, _, rfl, _, rfl, _, rfl, _, rfl, _, rfl, _, rfl, _, _, rfl, rfl, _, rfl, a, st, sa, l, false, fr, sc, ws, c5, m5, ((e' + 1 : Nat) : Int) - 1, e', rfl, hI5, st5, hc5, hS5, hA5, ⟨hok, hlv⟩, by omega, by omega, by omega, (fun _ => rfl), fun t2 v2 c6 m6 H6 b6 st6 hc6 w2 g2 k2 => ⟨sz 3, fun p n => ?_⟩⟩
      have g5 := same_new n (.tup [.str o.word, v1, v2])
      refine q (.bin o t1 t2) _ c6 m6 _ ((b4.trans b5).trans (b6.trans (.of_same g5))) (g5 _ _ st6) hc6 ⟨p, v1, v2, rfl, upd_same, (w1.mono (.of_but b6 st5)).mono (.of_same g5), w2.mono (.of_same g5)⟩ (.bin g1 g2) ?_
      simp only [kd, k1, k2, Kd.want, Kd.and, if_true]
    · have hw : y = "when" := by
        rcases hyy with z | ⟨_, o, z⟩
        · exact z
        · exfalso
          refine cn ?_
          rw [z]
          cases o <;> decide +kernel
      subst hw
      refine ⟨_, rfl, _, rfl, _, rfl, _, rfl, _, rfl, _, rfl, _, _, rfl, rfl, _, rfl, a, st, sa, l, k, fr, sc, ws, c5, m5, ((e' + 1 : Nat) : Int) - 1, e', rfl, hI5, st5, hc5, hS5, hA5, ⟨hok, hlv⟩, by omega, by omega, by omega, hlk, fun t2 v2 c6 m6 H6 b6 st6 hc6 w2 g2 k2 => ?_⟩
      refine ⟨_, rfl, _, rfl, _, rfl, _, rfl, _, rfl, _, rfl, _, rfl, _, rfl, _, _, rfl, rfl, _, rfl, a, st, sa, l, k, fr, sc, ws, c6, m6, ((e' + 1 : Nat) : Int) - 1, e', rfl, hI5.but st5 b6, st6, hc6, b6 _ _ (hA5.off hS5 st5) hS5, hA5.mono (.of_but b6 st5), ⟨hok, hlv⟩, by omega, by omega, by omega, hlk, fun t3 v3 c7 m7 H7 b7 st7 hc7 w3 g3 k3 => ⟨sz 4, fun p n => ?_⟩⟩
      have g5 := same_new n (.tup [.str "when", v1, v2, v3])
      refine q (.cond t1 t2 t3) _ c7 m7 _ ((b4.trans b5).trans (b6.trans (b7.trans (.of_same g5)))) (g5 _ _ st7) hc7 ⟨p, v1, v2, v3, rfl, upd_same, ((w1.mono (.of_but b6 st5)).mono (.of_but b7 st6)).mono (.of_same g5), (w2.mono (.of_but b7 st6)).mono (.of_same g5), w3.mono (.of_same g5)⟩ (.cond g1 g2 g3) ?_
      simp only [kd, k1, k2, k3, Kd.want, Kd.and, if_true]
end

section
variable {P : Program} {w : World} {K : PySem.W.Frag} {mg : Str → Option Value} {base : Heap} {f f1 f2 f3 f4 f5 f6 f7 f8 : Addr} {fd fd1 fd2 fd3 fd4 fd5 fd6 fd7 fd8 : FuncData}
theorem extV {H : Hp} {sc : Sc} {ws : List V} (hA : ScAt H sc ws) (x : Str) (l k : Bool) {pa pb pc pd : Addr} {o : HO} (na : H pa = none) (nb : upd H pa (.tup [V.str (kindS k)]) pb = none)
    (nc : upd (upd H pa (.tup [V.str (kindS k)])) pb (.tup [.str x, .int (lvI l), .ref pa]) pc = none) (nd : upd (upd (upd H pa (.tup [V.str (kindS k)])) pb (.tup [.str x, .int (lvI l), .ref pa])) pc o pd = none) (o2 : HO) :
    Same H (upd (upd (upd (upd H pa (.tup [V.str (kindS k)])) pb (.tup [.str x, .int (lvI l), .ref pa])) pc o) pd o2) ∧ ScAt (upd (upd (upd (upd H pa (.tup [V.str (kindS k)])) pb (.tup [.str x, .int (lvI l), .ref pa])) pc o) pd o2) (sc ++ [(x, (⟨l, none, k⟩ : Ent))]) (ws ++ [.ref pb]) :=
  ext1 (u := (⟨l, none, k⟩ : Ent)) hA x na nb nc nd o2
theorem extF {H : Hp} {sc : Sc} {ws : List V} (hA : ScAt H sc ws) (x : Str) (l d k : Bool) {pa pb pc pd : Addr} {o : HO} (na : H pa = none) (nb : upd H pa (.tup [V.str (kindS d), V.str (kindS k)]) pb = none)
    (nc : upd (upd H pa (.tup [V.str (kindS d), V.str (kindS k)])) pb (.tup [.str x, .int (lvI l), .ref pa]) pc = none) (nd : upd (upd (upd H pa (.tup [V.str (kindS d), V.str (kindS k)])) pb (.tup [.str x, .int (lvI l), .ref pa])) pc o pd = none) (o2 : HO) :
    Same H (upd (upd (upd (upd H pa (.tup [V.str (kindS d), V.str (kindS k)])) pb (.tup [.str x, .int (lvI l), .ref pa])) pc o) pd o2) ∧ ScAt (upd (upd (upd (upd H pa (.tup [V.str (kindS d), V.str (kindS k)])) pb (.tup [.str x, .int (lvI l), .ref pa])) pc o) pd o2) (sc ++ [(x, (⟨l, some d, k⟩ : Ent))]) (ws ++ [.ref pb]) :=
  ext1 (u := (⟨l, some d, k⟩ : Ent)) hA x na nb nc nd o2
set_option maxHeartbeats 0 in
theorem ok_gbound {n j : Nat} (F : Fun K "_law_bound" "_law_bound" s_bound f fd) (T : Txt mg)
    (C_law_seen : Cal P w K mg base "_law_seen" ["_law_scope", "_law_level", "_law_kinds"] 1 (spSeen K) f1 fd1) (C_law_name : Cal P w K mg base "_law_name" ["_law_script", "_law_which"] 3 (spName K) f2 fd2) (C_law_number : Cal P w K mg base "_law_number" ["_law_number_here"] 1 spNumber f3 fd3)
    (C_law_twice : Cal P w K mg base "_law_twice" ["_law_script", "_law_state", "_law_scope", "_law_depth", "_law_number_here"] (4 + j + 1) (spTwice K n) f4 fd4) (C_law_term : Cal P w K mg base "_law_term" ["_law_script", "_law_state", "_law_level", "_law_kind", "_law_scope", "_law_depth", "_law_free"] (4 + j) (spTerm K n) f5 fd5) : FnOk P w K mg base CX0 (4 + j + 2) f fd ["_law_script", "_law_state", "_law_what", "_law_scope", "_law_depth", "_law_number_here"] (spGBound K n) := by
  refine F.ok sc_bound (fun vs H Q E h => ?_) (fun cdv A outer s H vs Q E hr h => ?_)
  · obtain ⟨a, st, sa, wa, y, l, k, fr, sc, ws, c, m, d, x, e, rfl, _⟩ := h
    rfl
  obtain ⟨a, st, sa, wa, y, l, k, fr, sc, ws, c, m, d, n0, e, rfl, hI, hst, hc, hW, hS, hA, ⟨hok, hlv⟩, hln, rfl, hen, x0, x1, hlk, hy, q⟩ := h
  have nsa := hA.off hS hst
  refine ⟨_, (pss_cons (ps_asg (pv 2) (pg_lst rfl (pgs_cons (pg_name (i := 6) sc_bound.nd rfl (Or.inl rfl)) (pgs_cons (pg_name (i := 7) sc_bound.nd rfl (Or.inl rfl)) (pgs_cons (pg_name (i := 8) sc_bound.nd rfl (Or.inl rfl)) (pgs_cons (pg_name (i := 9) sc_bound.nd rfl (Or.inl rfl)) pgs_nil))))))
      (pss_cons (ps_set (i := 10) sc_bound.nd rfl (Or.inl rfl) (pe_call C_law_name.ok (hr.mono (by first | decide | omega)) rfl C_law_name.m C_law_name.kp C_law_name.b .nil pass0 (pa_cons (pv 0) (pa_cons (pe_ix ix_list (pe_lst (pa_cons pe_int (pa_cons pe_int (pa_cons pe_int (pa_cons pe_int pa_nil))))) (pe_op op_mod (pv 5) pe_int) (fun _ _ => rfl)) pa_nil))))
      (pss_cons (ps_set (i := 11) sc_bound.nd rfl (Or.inl rfl) (pe_call C_law_name.ok (hr.mono (by first | decide | omega)) rfl C_law_name.m C_law_name.kp C_law_name.b .nil pass0 (pa_cons (pv 0) (pa_cons (pe_ix ix_list (pe_lst (pa_cons pe_int (pa_cons pe_int (pa_cons pe_int (pa_cons pe_int pa_nil))))) (pe_op op_mod (pe_op op_fdiv (pv 5) pe_int) pe_int) (fun _ _ => rfl)) pa_nil))))
      (pss_cons (ps_set (i := 12) sc_bound.nd rfl (Or.inl rfl) (pe_ix ix_list (pe_lst (pa_cons pe_str (pa_cons pe_str pa_nil))) (pe_op op_mul (pe_op op_mod (pe_op op_fdiv (pv 5) pe_int) pe_int) (pe_op op_sub pe_int (pv 7))) (fun _ _ => rfl)))
      (pss_cons (ps_set (i := 5) sc_bound.nd rfl (Or.inl rfl) (pe_op op_fdiv (pv 5) pe_int))
      (pss_cons (ps_if (pt_cmpR op_eq (pv 6) pe_str (nomark _)) (pss_cons (ps_set (i := 13) sc_bound.nd rfl (Or.inl rfl) (pe_tup (pa_cons pe_str (pa_cons (pe_call C_law_number.ok (hr.mono (by first | decide | omega)) rfl C_law_number.m C_law_number.kp C_law_number.b .nil pass0 (pa_cons (pe_op op_fdiv (pv 5) pe_int) pa_nil)) pa_nil))))
      (pss_cut (ps_if (pt_cmpR op_eq (pe_op op_mod (pe_op op_fdiv (pv 5) pe_int) pe_int) pe_int (nomark _)) (pss_one (ps_set (i := 13) sc_bound.nd rfl (Or.inl rfl) (pe_call C_law_term.ok (hr.mono (by first | decide | omega)) rfl C_law_term.m C_law_term.kp C_law_term.b .nil pass0 (pa_cons (pv 0) (pa_cons (pv 1) (pa_cons pe_int (pa_cons pe_str (pa_cons (pv 3) (pa_cons (pe_callB (call_max2 rfl) (by rfl) T.max (by decide +kernel) (pa_cons pe_int (pa_cons (pe_op op_sub (pv 4) pe_int) pa_nil))) (pa_cons pe_bl pa_nil)))))))))) pss_nil)
      (pss_cons (ps_set (i := 14) sc_bound.nd rfl (Or.inl rfl) (pe_op op_cat (pv 3) (pe_lst (pa_cons (pe_tup (pa_cons (pv 10) (pa_cons pe_int (pa_cons (pe_tup (pa_cons pe_str pa_nil)) pa_nil)))) (pa_cons (pe_tup (pa_cons (pv 11) (pa_cons pe_int (pa_cons (pe_tup (pa_cons pe_str pa_nil)) pa_nil)))) pa_nil)))))
      (pss_cut (ps_if (pt_cmpR op_eq (pe_op op_mod (pe_op op_fdiv (pv 5) pe_int) pe_int) pe_int (nomark _)) (pss_one (ps_set (i := 15) sc_bound.nd rfl (Or.inl rfl) (pe_call C_law_twice.ok (hr.mono (by first | decide | omega)) rfl C_law_twice.m C_law_twice.kp C_law_twice.b .nil pass0 (pa_cons (pv 0) (pa_cons (pv 1) (pa_cons (pv 14) (pa_cons (pe_callB (call_max2 rfl) (by rfl) T.max (by decide +kernel) (pa_cons pe_int (pa_cons (pe_op op_sub (pv 4) pe_int) pa_nil))) (pa_cons (pe_op op_fdiv (pv 5) pe_int) pa_nil)))))))) (pss_one (ps_set (i := 15) sc_bound.nd rfl (Or.inl rfl) (pe_call C_law_term.ok (hr.mono (by first | decide | omega)) rfl C_law_term.m C_law_term.kp C_law_term.b .nil pass0 (pa_cons (pv 0) (pa_cons (pv 1) (pa_cons pe_int (pa_cons pe_str (pa_cons (pv 14) (pa_cons (pe_callB (call_max2 rfl) (by rfl) T.max (by decide +kernel) (pa_cons pe_int (pa_cons (pe_op op_sub (pv 4) pe_int) pa_nil))) (pa_cons pe_bl pa_nil)))))))))))
      (pss_one (ps_ret (pe_tup (pa_cons pe_str (pa_cons (pv 10) (pa_cons (pv 13) (pa_cons (pe_tup (pa_cons pe_str (pa_cons (pe_tup (pa_cons pe_str (pa_cons (pv 11) (pa_cons (pe_tup (pa_cons pe_str (pa_cons (pe_tup (pa_cons pe_str (pa_cons (pv 10) pa_nil))) pa_nil))) (pa_cons (pe_tup (pa_cons pe_str (pa_cons (pv 15) pa_nil))) pa_nil))))) pa_nil))) pa_nil))))))))))) pss_nil)
      (pss_cons (ps_if (pt_cmpR op_eq (pv 6) pe_str (nomark _)) (pss_cons (ps_set (i := 13) sc_bound.nd rfl (Or.inl rfl) (pe_call C_law_term.ok (hr.mono (by first | decide | omega)) rfl C_law_term.m C_law_term.kp C_law_term.b .nil pass0 (pa_cons (pv 0) (pa_cons (pv 1) (pa_cons (pv 7) (pa_cons (pv 12) (pa_cons (pv 3) (pa_cons (pv 4) (pa_cons (pv 9) pa_nil)))))))))
      (pss_one (ps_ret (pe_tup (pa_cons pe_str (pa_cons (pv 10) (pa_cons (pv 13) (pa_cons (pe_call C_law_term.ok (hr.mono (by first | decide | omega)) rfl C_law_term.m C_law_term.kp C_law_term.b .nil pass0 (pa_cons (pv 0) (pa_cons (pv 1) (pa_cons (pv 7) (pa_cons (pv 8) (pa_cons (pe_op op_cat (pv 3) (pe_lst (pa_cons (pe_tup (pa_cons (pv 10) (pa_cons (pv 7) (pa_cons (pe_tup (pa_cons (pv 12) pa_nil)) pa_nil)))) pa_nil))) (pa_cons (pv 4) (pa_cons (pv 9) pa_nil)))))))) pa_nil)))))))) pss_nil)
      (pss_cons (ps_if (pt_cmpR op_eq (pv 6) pe_str (nomark _)) (pss_cons (ps_set (i := 16) sc_bound.nd rfl (Or.inl rfl) (pe_ix ix_list (pe_lst (pa_cons pe_int (pa_cons pe_int (pa_cons pe_int (pa_cons pe_int (pa_cons pe_int (pa_cons pe_int (pa_cons pe_int (pa_cons pe_int pa_nil))))))))) (pe_op op_mod (pe_op op_fdiv (pv 5) pe_int) pe_int) (fun _ _ => rfl)))
      (pss_cut (ps_if (pt_cmpR op_gt (pv 4) pe_int (nomark _)) (pss_one (ps_set (i := 16) sc_bound.nd rfl (Or.inl rfl) (pe_op op_mod (pv 16) pe_int))) pss_nil)
      (pss_cons (ps_set (i := 13) sc_bound.nd rfl (Or.inl rfl) (pe_call C_law_term.ok (hr.mono (by first | decide | omega)) rfl C_law_term.m C_law_term.kp C_law_term.b .nil pass0 (pa_cons (pv 0) (pa_cons (pv 1) (pa_cons (pv 7) (pa_cons (pv 8) (pa_cons (pv 3) (pa_cons (pv 4) (pa_cons (pv 9) pa_nil)))))))))
      (pss_cons (ps_set (i := 14) sc_bound.nd rfl (Or.inl rfl) (pe_op op_cat (pv 3) (pe_lst (pa_cons (pe_tup (pa_cons (pv 10) (pa_cons (pv 7) (pa_cons (pe_tup (pa_cons (pv 8) pa_nil)) pa_nil)))) pa_nil))))
      (pss_one (ps_ret (pe_tup (pa_cons pe_str (pa_cons (pv 16) (pa_cons (pv 10) (pa_cons (pv 13) (pa_cons (pe_call C_law_term.ok (hr.mono (by first | decide | omega)) rfl C_law_term.m C_law_term.kp C_law_term.b .nil pass0 (pa_cons (pv 0) (pa_cons (pv 1) (pa_cons (pv 7) (pa_cons (pv 8) (pa_cons (pv 14) (pa_cons (pv 4) (pa_cons (pv 9) pa_nil)))))))) pa_nil)))))))))))) pss_nil)
      (pss_cons (ps_set (i := 17) sc_bound.nd rfl (Or.inl rfl) (pe_call C_law_seen.ok (hr.mono (by first | decide | omega)) rfl C_law_seen.m C_law_seen.kp C_law_seen.b .nil pass0 (pa_cons (pv 3) (pa_cons (pv 7) (pa_cons (pe_lst (pa_cons (pe_tup (pa_cons pe_str (pa_cons (pv 8) pa_nil))) (pa_cons (pe_tup (pa_cons pe_str (pa_cons (pv 8) pa_nil))) pa_nil))) pa_nil)))))
      (pss_cons (ps_if (pt_k (PW.pt (pw_and (pt_cmpR op_eq (pv 6) pe_str (nomark _)) (pw_and1 (pt_cmpR (op_neD hr.units) (pv 17) (pe_lst pa_nil) (nomark _)))))) (pss_cons (ps_set (i := 13) sc_bound.nd rfl (Or.inl rfl) (pe_ix ix_list (pv 17) (pe_op op_mod (pe_op op_fdiv (pv 5) pe_int) (pe_callB call_len_seq (by rfl) T.len PySem.boot_len (pa_cons (pv 17) pa_nil))) (fun _ _ => rfl)))
      (pss_one (ps_ret (pe_tup (pa_cons pe_str (pa_cons (pe_ix ix_tup (pv 13) pe_int (fun _ _ => rfl)) (pa_cons (pe_call C_law_term.ok (hr.mono (by first | decide | omega)) rfl C_law_term.m C_law_term.kp C_law_term.b .nil pass0 (pa_cons (pv 0) (pa_cons (pv 1) (pa_cons (pv 7) (pa_cons (pe_ix ix_tup (pe_ix ix_tup (pv 13) pe_int (fun _ _ => rfl)) pe_int (fun _ _ => rfl)) (pa_cons (pv 3) (pa_cons (pv 4) (pa_cons (pv 9) pa_nil)))))))) pa_nil))))))) pss_nil)
      (pss_cons (ps_set (i := 18) sc_bound.nd rfl (Or.inl rfl) (pe_ix ix_list (pe_lst (pa_cons pe_str (pa_cons pe_str pa_nil))) (pe_op op_mul (pe_op op_mod (pe_op op_fdiv (pv 5) pe_int) pe_int) (pe_op op_sub pe_int (pv 7))) (fun _ _ => rfl)))
      (pss_cons (ps_set (i := 19) sc_bound.nd rfl (Or.inl rfl) (pe_call C_law_term.ok (hr.mono (by first | decide | omega)) rfl C_law_term.m C_law_term.kp C_law_term.b .nil pass0 (pa_cons (pv 0) (pa_cons (pv 1) (pa_cons (pv 7) (pa_cons (pv 18) (pa_cons (pe_op op_cat (pv 3) (pe_lst (pa_cons (pe_tup (pa_cons (pv 10) (pa_cons (pv 7) (pa_cons (pe_tup (pa_cons (pv 12) pa_nil)) pa_nil)))) pa_nil))) (pa_cons (pv 4) (pa_cons pe_bl pa_nil)))))))))
      (pss_cons (ps_set (i := 14) sc_bound.nd rfl (Or.inl rfl) (pe_op op_cat (pv 3) (pe_lst (pa_cons (pe_tup (pa_cons (pv 11) (pa_cons (pv 7) (pa_cons (pe_tup (pa_cons (pv 12) (pa_cons (pv 18) pa_nil))) pa_nil)))) pa_nil))))
      (pss_one (ps_ret (pe_tup (pa_cons pe_str (pa_cons (pv 11) (pa_cons (pv 10) (pa_cons (pv 12) (pa_cons (pv 19) (pa_cons (pe_call C_law_term.ok (hr.mono (by first | decide | omega)) rfl C_law_term.m C_law_term.kp C_law_term.b .nil pass0 (pa_cons (pv 0) (pa_cons (pv 1) (pa_cons (pv 7) (pa_cons (pv 8) (pa_cons (pv 14) (pa_cons (pv 4) (pa_cons (pv 9) pa_nil)))))))) pa_nil)))))))))))))))))))))), ?_⟩
  refine ⟨_, rfl, wa, _, rfl, SqL.of hW, rfl, _, _, rfl, _, _, rfl, _, _, rfl, _, _, rfl, rfl, ?_⟩
  -- the names
  refine ⟨_, rfl, sz 4, fun p1 n1 => ?_⟩
  have g1 := same_new n1 (.lst [V.int 0, .int 0, .int 1, .int 2])
  have h4 := mod_in n0 (n := 4) (by decide)
  obtain ⟨k0, hk0, ek0⟩ := at_int (ys := [0, 0, 1, 2]) h4.1 h4.2
  refine ⟨_, rfl, _, _, rfl, rfl, (by show (0 : Int) < _; decide), p1, _, _, _, rfl, rfl, SqL.of upd_same, ek0, a, _, rfl, hI.same g1, fun nx H2 e2 hnx => ?_⟩
  have s2 := g1.trans e2
  refine ⟨_, rfl, sz 4, fun p2 n2 => ?_⟩
  have g2 := same_new n2 (.lst [V.int 1, .int 2, .int 1, .int 0])
  have h5 := mod_in (n0 / 4) (n := 4) (by decide)
  obtain ⟨k1, hk1, ek1⟩ := at_int (ys := [1, 2, 1, 0]) h5.1 h5.2
  refine ⟨_, rfl, _, _, rfl, rfl, ⟨by decide, by decide⟩, _, _, rfl, rfl, (by show (0 : Int) < _; decide), p2, _, _, _, rfl, rfl, SqL.of upd_same, ek1, a, _, rfl, hI.same (s2.trans g2), fun nf H3 e3 hnf => ?_⟩
  have s3 := s2.trans (g2.trans e3)
  -- the other kind
  obtain ⟨ok, hok0, eok⟩ : ∃ ok : Bool, (l = true → ok = false) ∧ atI [V.str "number", V.str "piece"] (n0 / 16 % 2 * (1 - lvI l)) = some (.str (kindS ok)) := by
    have h2 := mod_in (n0 / 16) (n := 2) (by decide)
    cases l with
    | true => exact ⟨false, fun _ => rfl, atI_n (n := 0) (by show n0 / 16 % 2 * (1 - 1) = 0; omega) rfl⟩
    | false =>
      have e : n0 / 16 % 2 * (1 - lvI false) = n0 / 16 % 2 := by show n0 / 16 % 2 * (1 - 0) = _; omega
      rw [e]
      by_cases z : n0 / 16 % 2 = 0
      · exact ⟨false, (fun z => nomatch z), atI_n (n := 0) (by omega) rfl⟩
      · exact ⟨true, (fun z => nomatch z), atI_n (n := 1) (by omega) rfl⟩
  refine ⟨sz 2, fun p4 n4 => ?_⟩
  have g4 := same_new n4 (.lst [V.str "number", .str "piece"])
  refine ⟨_, rfl, _, _, rfl, rfl, ⟨by decide, by decide⟩, _, _, rfl, rfl, (by show (0 : Int) < _; decide), _, rfl, _, _, rfl, rfl, _, _, rfl, rfl, .inl ⟨by omega, by omega⟩, p4, _, _, _, rfl, rfl, SqL.of upd_same, eok, ?_⟩
  have s4 := s3.trans g4
  generalize upd H3 p4 (.lst [V.str "number", .str "piece"]) = H4 at s4 ⊢
  refine ⟨_, rfl, _, _, rfl, rfl, ⟨by decide, by decide⟩, ?_⟩
  dsimp only
  have y0 : 0 ≤ n0 / 2 ∧ n0 / 2 < 2147483629 := by omega
  generalize n0 / 2 = n1' at y0 ⊢
  have hI4 := hI.same s4
  have st4 := s4 _ _ hst
  have hS4 := s4 _ _ hS
  have hA4 := hA.mono (.of_same s4)
  have b4 : But st H H4 := .of_same s4
  clear g1 e2 s2 g2 e3 s3 g4
  refine ⟨_, rfl, rfl, _, rfl, ite2 (fun ck => ?_) fun ck => ?_⟩
  · have hyk : y = "kept" := V.str.inj (of_decide_eq_true ck)
    have hlk2 : l = true ∧ k = false := by
      rcases hy with z | z | z | z | ⟨_, z⟩
      · rw [hyk] at z; exact absurd z (by decide +kernel)
      · rw [hyk] at z; exact absurd z (by decide +kernel)
      · rw [hyk] at z; exact absurd z (by decide +kernel)
      · rw [hyk] at z; exact absurd z (by decide +kernel)
      · exact z
    obtain ⟨rfl, rfl⟩ := hlk2
    refine ⟨_, rfl, _, _, rfl, rfl, ⟨by decide, by decide⟩, n1' / 18, rfl, by omega, by omega, fun cn H5 e5 _ => ⟨sz 2, fun p5 n5 => ?_⟩⟩
    have g5 := e5.trans (same_new n5 (.tup [.str "num", .int cn]))
    have w5 : TmAt (upd H5 p5 (.tup [.str "num", .int cn])) (.num cn) (.ref p5) := ⟨p5, rfl, upd_same⟩
    generalize upd H5 p5 (.tup [.str "num", .int cn]) = H6 at g5 w5 ⊢
    have st6 := g5 _ _ st4
    have hI6 := hI4.same g5
    have hS6 := g5 _ _ hS4
    have hA6 := hA4.mono (.of_same g5)
    have b6 := b4.trans (.of_same g5)
    have mx1 : (if (e : Int) - 1 > 0 then (e : Int) - 1 else 0) = ((e - 1 : Nat) : Int) := by split <;> omega
    have mx2 : (if (e : Int) - 2 > 0 then (e : Int) - 2 else 0) = ((e - 2 : Nat) : Int) := by split <;> omega
    refine ⟨fun σ' H' => ∃ (t1 : Tm) (v1 : V) (c1 m1 : Int), σ' = [some (.ref a), some (.ref st), some (.ref wa), some (.ref sa), some (.int e), some (.int n1'), some (.str y), some (.int (lvI true)), some (.str (kindS false)), some (.bl fr), some (.str nx), some (.str nf), some (.str (kindS ok)), some v1, none, none, none, none, none, none] ∧
      But st H6 H' ∧ H' st = some (.lst [.int c1, .int m1]) ∧ 0 ≤ c1 ∧ TmAt H' t1 v1 ∧ Grown t1 e ∧ kd t1 true (look sc) fr = .ok false, ?_, ?_⟩
    · refine ⟨_, rfl, _, _, rfl, rfl, ⟨by decide, by decide⟩, _, _, rfl, rfl, (by show (0 : Int) < _; decide), rfl, _, rfl, ite2 (fun _ => ?_) fun _ => ?_⟩
      · refine ⟨_, rfl, _, rfl, _, rfl, _, rfl, _, _, rfl, rfl, _, _, rfl, ?_⟩
        exact ⟨a, st, sa, true, false, false, sc, ws, c, m, _, e - 1, rfl, hI6, st6, hc, hS6, hA6, ⟨hok, hlv⟩, by omega, mx1, by omega, fun _ => rfl, fun t v c' m' H' b' hst' hc' w g kk => ⟨t, v, c', m', rfl, b', hst', hc', w, g.mono (by omega), (kd_free1 t _ fr false).trans kk⟩⟩
      · exact ⟨.num cn, _, c, m, rfl, .refl _ _, st6, hc, w5, .num cn e, rfl⟩
    rintro σ' H7 ⟨t1, v1, c1, m1, rfl, b7, st7, hc7, w7, gr1, kd1⟩
    have hS7 := b7 _ _ nsa hS6
    have hA7 := hA6.mono (.of_but b7 st6)
    have hI7 := hI6.but st6 b7
    refine ⟨_, rfl, _, rfl, sz 1, fun pa na => ⟨sz 3, fun pb nb => ⟨_, rfl, sz 1, fun pc nc => ⟨sz 3, fun pd nd => ⟨sz 2, fun pe ne => ⟨sa, pe, ws, [V.ref pb, V.ref pd], rfl, rfl, ?_, upd_same, sz _ (by have := hA7.len; show ws.length + 2 ≤ _; omega), fun pf nf' => ?_⟩⟩⟩⟩⟩⟩
    · exact same_new ne _ _ _ (same_new nd _ _ _ (same_new nc _ _ _ (same_new nb _ _ _ (same_new na _ _ _ hS7))))
    have ga := same_new na (.tup [.str "number"])
    have gb := same_new nb (.tup [.str nx, .int 1, .ref pa])
    have gc := same_new nc (.tup [.str "piece"])
    have gd := same_new nd (.tup [.str nf, .int 0, .ref pc])
    have ge := same_new ne (.lst [.ref pb, .ref pd])
    have gf := same_new nf' (.lst (ws ++ [.ref pb, .ref pd]))
    have gcf := gc.trans (gd.trans (ge.trans gf))
    have gaf := ga.trans (gb.trans gcf)
    have u1 : EntAt _ (nx, (⟨true, none, false⟩ : Ent)) (.ref pb) := ⟨pb, pa, rfl, gcf _ _ upd_same, gcf _ _ (gb _ _ upd_same)⟩
    have u2 : EntAt _ (nf, (⟨false, none, true⟩ : Ent)) (.ref pd) := ⟨pd, pc, rfl, gf _ _ (ge _ _ upd_same), gf _ _ (ge _ _ (gd _ _ upd_same))⟩
    have hSc : ScAt _ (sc ++ [(nx, ⟨true, none, false⟩), (nf, ⟨false, none, true⟩)]) (ws ++ [.ref pb, .ref pd]) := (hA7.mono (.of_same gaf)).app ⟨u1, u2, True.intro⟩
    have hpf := upd_same (H := upd (upd (upd (upd (upd H7 pa (.tup [.str "number"])) pb (.tup [.str nx, .int 1, .ref pa])) pc (.tup [.str "piece"])) pd (.tup [.str nf, .int 0, .ref pc])) pe (.lst [.ref pb, .ref pd])) (a := pf) (o := .lst (ws ++ [.ref pb, .ref pd]))
    generalize upd (upd (upd (upd (upd (upd H7 pa (.tup [.str "number"])) pb (.tup [.str nx, .int 1, .ref pa])) pc (.tup [.str "piece"])) pd (.tup [.str nf, .int 0, .ref pc])) pe (.lst [.ref pb, .ref pd])) pf (.lst (ws ++ [.ref pb, .ref pd])) = H8 at gaf hSc hpf ⊢
    have hgd : Sc.Good (sc ++ [(nx, ⟨true, none, false⟩), (nf, ⟨false, none, true⟩)]) := by
      have z := Sc.Good.val (l := false) (k := true) (Sc.Good.val (l := true) (k := false) ⟨hok, hlv⟩ hnx) hnf
      rw [List.append_assoc] at z
      exact z
    have hlk2 : look (sc ++ [(nx, ⟨true, none, false⟩), (nf, ⟨false, none, true⟩)]) = ((look sc).set nx ⟨true, none, false⟩).set nf ⟨false, none, true⟩ := by
      have z := look_snoc (sc ++ [(nx, ⟨true, none, false⟩)]) nf ⟨false, none, true⟩
      rw [List.append_assoc, look_snoc] at z
      exact z
    have hln2 : (sc ++ [(nx, (⟨true, none, false⟩ : Ent)), (nf, ⟨false, none, true⟩)]).length = sc.length + 2 := List.length_append
    generalize sc ++ [(nx, (⟨true, none, false⟩ : Ent)), (nf, ⟨false, none, true⟩)] = sc2 at hSc hgd hlk2 hln2
    generalize ws ++ [V.ref pb, V.ref pd] = ws2 at hSc hpf
    have st8 := gaf _ _ st7
    have hI8 := hI7.same gaf
    have w8 := w7.mono (.of_same gaf)
    refine ⟨fun σ' H' => ∃ (t2 : Tm) (v2 : V) (c2 m2 : Int), σ' = [some (.ref a), some (.ref st), some (.ref wa), some (.ref sa), some (.int e), some (.int n1'), some (.str y), some (.int (lvI true)), some (.str (kindS false)), some (.bl fr), some (.str nx), some (.str nf), some (.str (kindS ok)), some v1, some (.ref pf), some v2, none, none, none, none] ∧
      But st H8 H' ∧ H' st = some (.lst [.int c2, .int m2]) ∧ 0 ≤ c2 ∧ TmAt H' t2 v2 ∧ ((∃ e', e' = e - 2 ∧ Inner t2 e') ∨ Grown t2 (e - 1)) ∧ kd t2 true (look sc2) false = .ok false, ?_, ?_⟩
    · refine ⟨_, rfl, _, _, rfl, rfl, ⟨by decide, by decide⟩, _, _, rfl, rfl, (by show (0 : Int) < _; decide), rfl, _, rfl, ite2 (fun _ => ?_) fun _ => ?_⟩
      · refine ⟨_, rfl, _, rfl, _, rfl, _, rfl, _, _, rfl, rfl, _, _, rfl, _, rfl, _, _, rfl, rfl, ⟨by decide, by decide⟩, ?_⟩
        exact ⟨a, st, pf, sc2, ws2, c1, m1, _, _, e - 2, rfl, hI8, st8, hc7, hpf, hSc, hgd, by omega, mx2, by omega, fun t v c' m' H' b' hst' hc' w g kk => ⟨t, v, c', m', rfl, b', hst', hc', w, .inl ⟨e - 2, rfl, g⟩, kk false⟩⟩
      · refine ⟨_, rfl, _, rfl, _, rfl, _, rfl, _, _, rfl, rfl, _, _, rfl, ?_⟩
        exact ⟨a, st, pf, true, false, false, sc2, ws2, c1, m1, _, e - 1, rfl, hI8, st8, hc7, hpf, hSc, hgd, by omega, mx1, by omega, fun _ => rfl, fun t v c' m' H' b' hst' hc' w g kk => ⟨t, v, c', m', rfl, b', hst', hc', w, .inr g, kk⟩⟩
    rintro σ' H9 ⟨t2, v2, c2, m2, rfl, b9, st9, hc9, w9, gr2, kd2⟩
    have w89 := w8.mono (.of_but b9 st8)
    refine ⟨_, rfl, _, rfl, _, rfl, _, rfl, sz 2, fun q1 k1 => ⟨sz 2, fun q2 k2 => ⟨_, rfl, sz 2, fun q3 k3 => ⟨sz 4, fun q4 k4 => ⟨sz 2, fun q5 k5 => ⟨sz 4, fun q6 k6 => ?_⟩⟩⟩⟩⟩⟩
    have r1 := same_new k1 (.tup [.str "name", .str nx])
    have r2 := same_new k2 (.tup [.str "quote", .ref q1])
    have r3 := same_new k3 (.tup [.str "quote", v2])
    have r4 := same_new k4 (.tup [.str "let", .str nf, .ref q2, .ref q3])
    have r5 := same_new k5 (.tup [.str "hole", .ref q4])
    have r6 := same_new k6 (.tup [.str "let", .str nx, v1, .ref q5])
    have r46 := r4.trans (r5.trans r6)
    have r16 := r1.trans (r2.trans (r3.trans r46))
    refine q (.letx nx t1 (.un .hole (.letx nf (.un .quote (.name nx)) (.un .quote t2)))) _ c2 m2 _ (b6.trans (b7.trans ((But.of_same gaf).trans (b9.trans (.of_same r16))))) (r16 _ _ st9) hc9 ?_ (.kept hnx hnf gr1 gr2) ?_
    · exact ⟨q6, _, _, rfl, upd_same, w89.mono (.of_same r16), q5, _, rfl, r6 _ _ upd_same, q4, _, _, rfl, r6 _ _ (r5 _ _ upd_same), ⟨q2, _, rfl, r46 _ _ (r3 _ _ upd_same), q1, rfl, r46 _ _ (r3 _ _ (r2 _ _ upd_same))⟩, q3, _, rfl, r46 _ _ upd_same, w9.mono (.of_same r16)⟩
    · show Kd.and (kd t1 true (look sc) fr) (fun k => kd (.un .hole (.letx nf (.un .quote (.name nx)) (.un .quote t2))) true ((look sc).set nx ⟨true, none, k⟩) fr) = .ok false
      rw [kd1]
      refine kd_hole ?_ fr
      show Kd.and (kd (.un .quote (.name nx)) false ((look sc).set nx ⟨true, none, false⟩) false) (fun k => kd (.un .quote t2) false (((look sc).set nx ⟨true, none, false⟩).set nf ⟨false, none, k⟩) false) = .ok true
      rw [kd_quote (kd_name (u := ⟨true, none, false⟩) (if_pos rfl) rfl rfl false) false]
      refine kd_quote ?_ false
      rw [← hlk2]
      exact kd2
  · have nk : y ≠ "kept" := fun z => ck (by rw [z]; exact decide_eq_true rfl)
    have hy4 : y = "let" ∨ y = "turns" ∨ y = "def" ∨ y = "use" := by
      rcases hy with z | z | z | z | ⟨z, _⟩
      · exact .inl z
      · exact .inr (.inl z)
      · exact .inr (.inr (.inl z))
      · exact .inr (.inr (.inr z))
      · exact absurd z nk
    refine ⟨_, rfl, rfl, _, rfl, ite2 (fun cl => ?_) fun cl => ?_⟩
    · -- let
      refine ⟨_, rfl, _, rfl, _, rfl, _, rfl, _, rfl, _, rfl, _, rfl, a, st, sa, l, ok, fr, sc, ws, c, m, _, e, rfl, hI4, st4, hc, hS4, hA4, ⟨hok, hlv⟩, by omega, rfl, hen, hok0, fun t1 v1 c1 m1 H5 b5 st5 hc5 w1 g1 k1 => ?_⟩
      have hS5 := b5 _ _ nsa hS4
      have hA5 := hA4.mono (.of_but b5 st4)
      have hI5 := hI4.but st4 b5
      refine ⟨_, rfl, _, rfl, _, rfl, _, rfl, _, rfl, _, rfl, _, rfl, _, rfl, _, rfl, _, rfl, sz 1, fun pa na => ⟨sz 3, fun pb nb => ⟨sz 1, fun pc nc => ⟨sa, pc, ws, [V.ref pb], rfl, rfl, ?_, upd_same, sz _ (by have := hA5.len; show ws.length + 1 ≤ _; omega), fun pd nd => ?_⟩⟩⟩⟩
      · exact same_new nc _ _ _ (same_new nb _ _ _ (same_new na _ _ _ hS5))
      obtain ⟨gx, hSc⟩ := extV hA5 nx l ok na nb nc nd (.lst (ws ++ [.ref pb]))
      have hpd : upd (upd (upd (upd H5 pa (.tup [V.str (kindS ok)])) pb (.tup [.str nx, .int (lvI l), .ref pa])) pc (.lst [V.ref pb])) pd (.lst (ws ++ [V.ref pb])) pd = some (.lst (ws ++ [.ref pb])) := upd_same
      generalize upd (upd (upd (upd H5 pa (.tup [V.str (kindS ok)])) pb (.tup [.str nx, .int (lvI l), .ref pa])) pc (.lst [V.ref pb])) pd (.lst (ws ++ [V.ref pb])) = Hx at gx hSc hpd ⊢
      clear na nb nc nd
      refine ⟨_, rfl, _, rfl, a, st, pd, l, k, fr, sc ++ [(nx, ⟨l, none, ok⟩)], ws ++ [.ref pb], c1, m1, _, e, rfl, hI5.same gx, gx _ _ st5, hc5, hpd, hSc, Sc.Good.val ⟨hok, hlv⟩ hnx, by rw [List.length_append]; show sc.length + 1 + _ ≤ _; omega, rfl, hen, hlk, fun t2 v2 c2 m2 H6 b6 st6 hc6 w2 g2 k2 => ⟨sz 4, fun p n => ?_⟩⟩
      have g5 := same_new n (.tup [.str "let", .str nx, v1, v2])
      refine q (.letx nx t1 t2) _ c2 m2 _ ((b4.trans b5).trans ((But.of_same gx).trans (b6.trans (.of_same g5)))) (g5 _ _ st6) hc6 ⟨p, v1, v2, rfl, upd_same, ((w1.mono (.of_same gx)).mono (.of_but b6 (gx _ _ st5))).mono (.of_same g5), w2.mono (.of_same g5)⟩ (.letx hnx g1 g2) ?_
      rw [look_snoc] at k2
      show Kd.and (kd t1 l (look sc) fr) (fun k => kd t2 l ((look sc).set nx ⟨l, none, k⟩) fr) = .ok k
      rw [k1]
      exact k2
    have nl : y ≠ "let" := fun z => cl (by rw [z]; exact decide_eq_true rfl)
    refine ⟨_, rfl, rfl, _, rfl, ite2 (fun ct => ?_) fun ct => ?_⟩
    · -- turns
      refine ⟨sz 8, fun p5 n5 => ?_⟩
      have g5 := same_new n5 (.lst [V.int 0, .int 1, .int 2, .int 3, .int 2, .int 3, .int 1, .int 9])
      have h8 := mod_in (n1' / 18) (n := 8) (by decide)
      obtain ⟨k8, hk8, ek8⟩ := at_int (ys := [0, 1, 2, 3, 2, 3, 1, 9]) h8.1 h8.2
      have hk9 : 0 ≤ k8 ∧ k8 ≤ 9 := by
        simp only [List.mem_cons, List.not_mem_nil, or_false] at hk8
        omega
      refine ⟨_, rfl, _, _, rfl, rfl, ⟨by decide, by decide⟩, _, _, rfl, rfl, (by show (0 : Int) < _; decide), p5, _, _, _, rfl, rfl, SqL.of upd_same, ek8, ?_⟩
      generalize upd H4 p5 (.lst [V.int 0, .int 1, .int 2, .int 3, .int 2, .int 3, .int 1, .int 9]) = H5 at g5 ⊢
      refine ⟨fun σ' H' => H5 = H' ∧ ∃ mn : Int, (0 ≤ mn ∧ mn ≤ 9) ∧ σ' = [some (.ref a), some (.ref st), some (.ref wa), some (.ref sa), some (.int e), some (.int n1'), some (.str y), some (.int (lvI l)), some (.str (kindS k)), some (.bl fr), some (.str nx), some (.str nf), some (.str (kindS ok)), none, none, none, some (.int mn), none, none, none], ?_, ?_⟩
      · refine ⟨_, rfl, _, _, rfl, rfl, _, rfl, ite2 (fun _ => ?_) fun _ => ⟨rfl, k8, hk9, rfl⟩⟩
        refine ⟨_, rfl, _, _, rfl, rfl, (by show (0 : Int) < _; decide), rfl, k8 % 4, by omega, rfl⟩
      rintro σ' _ ⟨rfl, mn, hmn, rfl⟩
      have hS5 := g5 _ _ hS4
      have hA5 := hA4.mono (.of_same g5)
      have st5 := g5 _ _ st4
      have hI5 := hI4.same g5
      refine ⟨_, rfl, _, rfl, _, rfl, _, rfl, _, rfl, _, rfl, _, rfl, a, st, sa, l, k, fr, sc, ws, c, m, _, e, rfl, hI5, st5, hc, hS5, hA5, ⟨hok, hlv⟩, by omega, rfl, hen, hlk, fun t1 v1 c1 m1 H6 b6 st6 hc6 w1 g1 k1 => ?_⟩
      have hS6 := b6 _ _ nsa hS5
      have hA6 := hA5.mono (.of_but b6 st5)
      have hI6 := hI5.but st5 b6
      refine ⟨_, rfl, _, rfl, _, rfl, _, rfl, sz 1, fun pa na => ⟨sz 3, fun pb nb => ⟨sz 1, fun pc nc => ⟨sa, pc, ws, [V.ref pb], rfl, rfl, ?_, upd_same, sz _ (by have := hA6.len; show ws.length + 1 ≤ _; omega), fun pd nd => ?_⟩⟩⟩⟩
      · exact same_new nc _ _ _ (same_new nb _ _ _ (same_new na _ _ _ hS6))
      obtain ⟨gx, hSc⟩ := extV hA6 nx l k na nb nc nd (.lst (ws ++ [.ref pb]))
      have hpd : upd (upd (upd (upd H6 pa (.tup [V.str (kindS k)])) pb (.tup [.str nx, .int (lvI l), .ref pa])) pc (.lst [V.ref pb])) pd (.lst (ws ++ [V.ref pb])) pd = some (.lst (ws ++ [.ref pb])) := upd_same
      generalize upd (upd (upd (upd H6 pa (.tup [V.str (kindS k)])) pb (.tup [.str nx, .int (lvI l), .ref pa])) pc (.lst [V.ref pb])) pd (.lst (ws ++ [V.ref pb])) = Hx at gx hSc hpd ⊢
      clear na nb nc nd
      refine ⟨_, rfl, _, rfl, _, rfl, _, rfl, _, rfl, _, rfl, _, rfl, _, rfl, _, rfl, _, rfl, a, st, pd, l, k, fr, sc ++ [(nx, ⟨l, none, k⟩)], ws ++ [.ref pb], c1, m1, _, e, rfl, hI6.same gx, gx _ _ st6, hc6, hpd, hSc, Sc.Good.val ⟨hok, hlv⟩ hnx, by rw [List.length_append]; show sc.length + 1 + _ ≤ _; omega, rfl, hen, hlk, fun t2 v2 c2 m2 H7 b7 st7 hc7 w2 g2 k2 => ⟨sz 5, fun p n => ?_⟩⟩
      have g7 := same_new n (.tup [.str "turns", .int mn, .str nx, v1, v2])
      refine q (.turns mn nx t1 t2) _ c2 m2 _ (((b4.trans (.of_same g5)).trans b6).trans ((But.of_same gx).trans (b7.trans (.of_same g7)))) (g7 _ _ st7) hc7 ⟨p, v1, v2, rfl, upd_same, ((w1.mono (.of_same gx)).mono (.of_but b7 (gx _ _ st6))).mono (.of_same g7), w2.mono (.of_same g7)⟩ (.turns hmn hnx g1 g2) ?_
      rw [look_snoc] at k2
      show Kd.and (kd t1 l (look sc) fr) (fun k => (kd t2 l ((look sc).set nx ⟨l, none, k⟩) fr).want k) = .ok k
      rw [k1]
      show (kd t2 l ((look sc).set nx ⟨l, none, k⟩) fr).want k = .ok k
      rw [k2]
      exact if_pos rfl
    have nt : y ≠ "turns" := fun z => ct (by rw [z]; exact decide_eq_true rfl)
    -- use, def
    refine ⟨_, rfl, _, rfl, _, rfl, sz 2, fun p1 n1 => ⟨_, rfl, sz 2, fun p2 n2 => ⟨sz 2, fun p3 n3 => ?_⟩⟩⟩
    have g1 := same_new n1 (.tup [V.str "number", .str (kindS k)])
    have g2 := same_new n2 (.tup [V.str "piece", .str (kindS k)])
    have g3 := same_new n3 (.lst [.ref p1, .ref p2])
    have g := g1.trans (g2.trans g3)
    have kdp := sigs2_dp (K := K) (s := [false, k]) (t := [true, k]) (g3 _ _ (g2 _ _ (upd_same (H := H4) (a := p1) (o := .tup [V.str "number", .str (kindS k)])))) (g3 _ _ (upd_same (H := upd H4 p1 (.tup [V.str "number", .str (kindS k)])) (a := p2) (o := .tup [V.str "piece", .str (kindS k)]))) (upd_same (a := p3) (o := .lst [.ref p1, .ref p2]))
    refine ⟨sa, p3, l, sc, ws, [[false, k], [true, k]], rfl, g _ _ hS4, hA4.mono (.of_same g), hok, by omega, kdp, fun r es us H5 _ e5 hr5 hE hEl hEp => ?_⟩
    have g5 := g.trans e5
    have hS5 := g5 _ _ hS4
    have hA5 := hA4.mono (.of_same g5)
    have st5 := g5 _ _ st4
    have hI5 := hI4.same g5
    have ok1 : Sc.Ok es := fun e m => hok e (hEp e m).1
    refine ⟨fun b H' => Same H5 H' ∧ (b = true → y = "use" ∧ es ≠ []) ∧ (b = false → True), ?_, ?_⟩
    · refine ⟨_, rfl, rfl, _, rfl, ite2 (fun cu => ?_) fun _ => ⟨Same.refl _, (fun z => nomatch z), fun _ => True.intro⟩⟩
      exact ⟨_, rfl, Nat.zero_le _, seq_ne hE hr5 ok1 fun G gg => ⟨_, rfl, gg, fun z => ⟨V.str.inj (of_decide_eq_true cu), off_nil z⟩, fun _ => True.intro⟩⟩
    rintro b H6 ⟨g6, hb, _⟩
    have hS6 := g6 _ _ hS5
    have hA6 := hA5.mono (.of_same g6)
    have st6 := g6 _ _ st5
    have hI6 := hI5.same g6
    have hE6 := hE.mono (.of_same g6)
    have hr6 := g6 _ _ hr5
    have b6 := b4.trans (.of_same (g5.trans g6))
    cases b with
    | true =>
      obtain ⟨_, ne⟩ := hb rfl
      have hl := hE6.len
      have pos : (0 : Int) < (us.length : Int) := by
        have : es.length ≠ 0 := fun z => ne (List.length_eq_zero_iff.mp z)
        omega
      have hm := mod_in (n1' / 18) pos
      obtain ⟨⟨z, u⟩, p, q', he, ea, hp, hq⟩ := hE6.pick hm.1 hm.2
      obtain ⟨hz, hlz, hvz, hsg⟩ := hEp _ he
      obtain ⟨d, hd⟩ : ∃ d, u.sig = [d, k] := by
        simp only [List.mem_cons, List.not_mem_nil, or_false] at hsg
        rcases hsg with h | h
        · exact ⟨false, h⟩
        · exact ⟨true, h⟩
      obtain ⟨hdom, huk⟩ := sig_fn hd
      have hld : l = true → d = false := fun z => hlv _ hz (hvz.trans z) d hdom
      rw [show sigV (z, u).2.sig = sigV [d, k] from congrArg sigV hd] at hq
      refine iteT ⟨_, rfl, _, rfl, _, _, rfl, rfl, ⟨by decide, by decide⟩, _, rfl, r, _, rfl, .inl (SqL.of hr6), _, _, rfl, rfl, pos, r, _, _, _, rfl, rfl, SqL.of hr6, ea, ?_⟩
      refine ⟨_, rfl, p, _, _, _, rfl, rfl, SqT.of hp, atI_n (n := 0) rfl rfl, _, rfl, _, rfl, _, rfl, _, rfl, p, _, _, _, rfl, rfl, SqT.of hp, atI_n (n := 2) rfl rfl, q', _, _, _, rfl, rfl, SqT.of hq, atI_n (n := 0) rfl rfl, _, rfl, _, rfl, _, rfl, ?_⟩
      refine ⟨a, st, sa, l, d, fr, sc, ws, c, m, _, e, rfl, hI6, st6, hc, hS6, hA6, ⟨hok, hlv⟩, by omega, rfl, hen, hld, fun t1 v1 c1 m1 H7 b7 st7 hc7 w1 gr1 k1 => ⟨sz 3, fun p n => ?_⟩⟩
      have g7 := same_new n (.tup [.str "use", .str z, v1])
      refine q (.use z t1) _ c1 m1 _ (b6.trans (b7.trans (.of_same g7))) (g7 _ _ st7) hc7 ⟨p, v1, rfl, upd_same, w1.mono (.of_same g7)⟩ (.use (hok _ hz) gr1) ?_
      have hlz' : look sc z = some u := hlz
      have hvz' : u.lv = l := hvz
      simp only [kd, hlz', hdom, k1, Kd.want, Kd.and, if_true, huk]
      exact if_pos hvz'
    | false =>
      refine iteF ?_
      obtain ⟨wk, hwk, ewk⟩ : ∃ wk : Bool, (l = true → wk = false) ∧ atI [V.str "number", V.str "piece"] (n1' / 18 % 2 * (1 - lvI l)) = some (.str (kindS wk)) := by
        have h2 := mod_in (n1' / 18) (n := 2) (by decide)
        cases l with
        | true => exact ⟨false, fun _ => rfl, atI_n (n := 0) (by show n1' / 18 % 2 * (1 - 1) = 0; omega) rfl⟩
        | false =>
          have e : n1' / 18 % 2 * (1 - lvI false) = n1' / 18 % 2 := by show n1' / 18 % 2 * (1 - 0) = _; omega
          rw [e]
          by_cases z : n1' / 18 % 2 = 0
          · exact ⟨false, (fun z => nomatch z), atI_n (n := 0) (by omega) rfl⟩
          · exact ⟨true, (fun z => nomatch z), atI_n (n := 1) (by omega) rfl⟩
      refine ⟨sz 2, fun p7 n7 => ?_⟩
      have g7 := same_new n7 (.lst [V.str "number", .str "piece"])
      refine ⟨_, rfl, _, _, rfl, rfl, ⟨by decide, by decide⟩, _, _, rfl, rfl, (by show (0 : Int) < _; decide), _, rfl, _, _, rfl, rfl, _, _, rfl, rfl, .inl ⟨by omega, by omega⟩, p7, _, _, _, rfl, rfl, SqL.of upd_same, ewk, ?_⟩
      have b7 := b6.trans (.of_same g7)
      have hS7 := g7 _ _ hS6
      have hA7 := hA6.mono (.of_same g7)
      have st7 := g7 _ _ st6
      have hI7 := hI6.same g7
      generalize upd H6 p7 (.lst [V.str "number", .str "piece"]) = H7 at b7 hS7 hA7 st7 hI7 ⊢
      refine ⟨_, rfl, _, rfl, _, rfl, _, rfl, _, rfl, _, rfl, _, rfl, _, rfl, sz 1, fun pa na => ⟨sz 3, fun pb nb => ⟨sz 1, fun pc nc => ⟨sa, pc, ws, [V.ref pb], rfl, rfl, ?_, upd_same, sz _ (by have := hA7.len; show ws.length + 1 ≤ _; omega), fun pd nd => ?_⟩⟩⟩⟩
      · exact same_new nc _ _ _ (same_new nb _ _ _ (same_new na _ _ _ hS7))
      obtain ⟨gx, hSc⟩ := extV hA7 nx l ok na nb nc nd (.lst (ws ++ [.ref pb]))
      have hpd : upd (upd (upd (upd H7 pa (.tup [V.str (kindS ok)])) pb (.tup [.str nx, .int (lvI l), .ref pa])) pc (.lst [V.ref pb])) pd (.lst (ws ++ [V.ref pb])) pd = some (.lst (ws ++ [.ref pb])) := upd_same
      generalize upd (upd (upd (upd H7 pa (.tup [V.str (kindS ok)])) pb (.tup [.str nx, .int (lvI l), .ref pa])) pc (.lst [V.ref pb])) pd (.lst (ws ++ [V.ref pb])) = Hx at gx hSc hpd ⊢
      clear na nb nc nd
      refine ⟨_, rfl, a, st, pd, l, wk, false, sc ++ [(nx, ⟨l, none, ok⟩)], ws ++ [.ref pb], c, m, _, e, rfl, hI7.same gx, gx _ _ st7, hc, hpd, hSc, Sc.Good.val ⟨hok, hlv⟩ hnx, by rw [List.length_append]; show sc.length + 1 + _ ≤ _; omega, rfl, hen, hwk, fun t1 v1 c1 m1 H8 b8 st8 hc8 w1 gr1 k1 => ?_⟩
      have hA8 := (hA7.mono (.of_same gx)).mono (.of_but b8 (gx _ _ st7))
      have hSa8 := b8 _ _ nsa (gx _ _ hS7)
      have hI8 := (hI7.same gx).but (gx _ _ st7) b8
      have b08 := b7.trans ((But.of_same gx).trans b8)
      refine ⟨_, rfl, _, rfl, _, rfl, _, rfl, _, rfl, sz 2, fun qa ma => ⟨sz 3, fun qb mb => ⟨sz 1, fun qc mc => ⟨sa, qc, ws, [V.ref qb], rfl, rfl, ?_, upd_same, sz _ (by have := hA7.len; show ws.length + 1 ≤ _; omega), fun qd md => ?_⟩⟩⟩⟩
      · exact same_new mc _ _ _ (same_new mb _ _ _ (same_new ma _ _ _ hSa8))
      obtain ⟨gy, hSf⟩ := extF hA8 nf l ok wk ma mb mc md (.lst (ws ++ [.ref qb]))
      have hqd : upd (upd (upd (upd H8 qa (.tup [V.str (kindS ok), V.str (kindS wk)])) qb (.tup [.str nf, .int (lvI l), .ref qa])) qc (.lst [V.ref qb])) qd (.lst (ws ++ [V.ref qb])) qd = some (.lst (ws ++ [.ref qb])) := upd_same
      generalize upd (upd (upd (upd H8 qa (.tup [V.str (kindS ok), V.str (kindS wk)])) qb (.tup [.str nf, .int (lvI l), .ref qa])) qc (.lst [V.ref qb])) qd (.lst (ws ++ [V.ref qb])) = Hy at gy hSf hqd ⊢
      clear ma mb mc md
      refine ⟨_, rfl, _, rfl, _, rfl, _, rfl, _, rfl, _, rfl, _, rfl, _, rfl, _, rfl, _, rfl, _, rfl, a, st, qd, l, k, fr, sc ++ [(nf, ⟨l, some ok, wk⟩)], ws ++ [.ref qb], c1, m1, _, e, rfl, hI8.same gy, gy _ _ st8, hc8, hqd, hSf, Sc.Good.snoc ⟨hok, hlv⟩ hnf (fun z d hd => by cases hd; exact hok0 z), by rw [List.length_append]; show sc.length + 1 + _ ≤ _; omega, rfl, hen, hlk, fun t2 v2 c2 m2 H9 b9 st9 hc9 w2 gr2 k2 => ⟨sz 6, fun p n => ?_⟩⟩
      have g9 := same_new n (.tup [.str "def", .str nf, .str nx, .str (kindS ok), v1, v2])
      refine q (.deff nf nx ok t1 t2) _ c2 m2 _ (b08.trans ((But.of_same gy).trans (b9.trans (.of_same g9)))) (g9 _ _ st9) hc9 ⟨p, v1, v2, rfl, upd_same, ((w1.mono (.of_same gy)).mono (.of_but b9 (gy _ _ st8))).mono (.of_same g9), w2.mono (.of_same g9)⟩ (.deff hnf hnx gr1 gr2) ?_
      rw [look_snoc] at k1 k2
      show (if l = true ∧ ok = true then (.error .kind : Kd) else Kd.and (kd t1 l ((look sc).set nx ⟨l, none, ok⟩) false) fun j => kd t2 l ((look sc).set nf ⟨l, some ok, j⟩) fr) = .ok k
      rw [if_neg (fun z => by have := hok0 z.1; rw [z.2] at this; cases this), k1]
      exact k2
end

section
variable {P : Program} {w : World} {K : PySem.W.Frag} {mg : Str → Option Value} {base : Heap} {f f1 f2 f3 f4 f5 f6 f7 f8 g h : Addr} {fd fd1 fd2 fd3 fd4 fd5 fd6 fd7 fd8 fg fh : FuncData}
theorem all_term (F : Fun K "_law_term" "_law_term" s_term f fd) (F2 : Fun K "_law_twice" "_law_twice" s_twice g fg) (F3 : Fun K "_law_bound" "_law_bound" s_bound h fh) (T : Txt mg)
    (C_law_next : Cal P w K mg base "_law_next" ["_law_script", "_law_state"] 3 (spNext K) f1 fd1) (C_law_leaf : Cal P w K mg base "_law_leaf" ["_law_script", "_law_state", "_law_level", "_law_kind", "_law_scope", "_law_number_here"] 2 (spLeaf K) f2 fd2) (C_law_words : Cal P w K mg base "_law_words" ["_law_level", "_law_kind", "_law_free"] 1 spWords f3 fd3)
    (C_law_seen : Cal P w K mg base "_law_seen" ["_law_scope", "_law_level", "_law_kinds"] 1 (spSeen K) f4 fd4) (C_law_name : Cal P w K mg base "_law_name" ["_law_script", "_law_which"] 3 (spName K) f5 fd5) (C_law_number : Cal P w K mg base "_law_number" ["_law_number_here"] 1 spNumber f6 fd6)
    (m : mg "_law_term" = some (.ref f)) (kp : PySem.W.keepIn K (.ref f) = true) (b : Binds K fd ["_law_script", "_law_state", "_law_level", "_law_kind", "_law_scope", "_law_depth", "_law_free"] [])
    (m2 : mg "_law_twice" = some (.ref g)) (kp2 : PySem.W.keepIn K (.ref g) = true) (b2 : Binds K fg ["_law_script", "_law_state", "_law_scope", "_law_depth", "_law_number_here"] [])
    (m3 : mg "_law_bound" = some (.ref h)) (kp3 : PySem.W.keepIn K (.ref h) = true) (b3 : Binds K fh ["_law_script", "_law_state", "_law_what", "_law_scope", "_law_depth", "_law_number_here"] []) : ∀ n, FnOk P w K mg base CX0 (4 + 3 * n) f fd ["_law_script", "_law_state", "_law_level", "_law_kind", "_law_scope", "_law_depth", "_law_free"] (spTerm K n)
  | 0 => fn_none fun vs H Q E hh => by
    obtain ⟨a, st, sa, l, k, fr, sc, ws, c, m, d, e, _, _, _, _, _, _, _, _, _, h0, _⟩ := hh
    omega
  | n + 1 =>
    have t : Cal P w K mg base "_law_term" ["_law_script", "_law_state", "_law_level", "_law_kind", "_law_scope", "_law_depth", "_law_free"] (4 + 3 * n) (spTerm K n) f fd := ⟨all_term F F2 F3 T C_law_next C_law_leaf C_law_words C_law_seen C_law_name C_law_number m kp b m2 kp2 b2 m3 kp3 b3 n, m, kp, b⟩
    have tw : Cal P w K mg base "_law_twice" ["_law_script", "_law_state", "_law_scope", "_law_depth", "_law_number_here"] (4 + 3 * n + 1) (spTwice K n) g fg := ⟨ok_twice F2 T C_law_seen C_law_name t, m2, kp2, b2⟩
    have bd : Cal P w K mg base "_law_bound" ["_law_script", "_law_state", "_law_what", "_law_scope", "_law_depth", "_law_number_here"] (4 + 3 * n + 2) (spGBound K n) h fh := ⟨ok_gbound F3 T C_law_seen C_law_name C_law_number tw t, m3, kp3, b3⟩
    ok_term F T C_law_next C_law_leaf C_law_words bd t
end

/-! ### a dict by keys of any depth, its values as they are -/
mutual
inductive KyAt (H : Hp) : NestedKey → V → Prop
  | non : KyAt H .none .non
  | bl (b : Bool) : KyAt H (.num (if b = true then 1 else 0)) (.bl b)
  | int (i : Int) : KyAt H (.num i) (.int i)
  | str (x : Str) : KyAt H (.text x) (.str x)
  | tup {a : Addr} {xs : List V} {ks : List NestedKey} : H a = some (.tup xs) → KyAll H ks xs → KyAt H (.tup ks) (.ref a)
inductive KyAll (H : Hp) : List NestedKey → List V → Prop
  | nil : KyAll H [] []
  | cons {k : NestedKey} {v : V} {ks : List NestedKey} {vs : List V} : KyAt H k v → KyAll H ks vs → KyAll H (k :: ks) (v :: vs)
end
mutual
theorem KyAt.mono {H H' : Hp} (e : Tups H H') : ∀ (k : NestedKey) (v : V), KyAt H k v → KyAt H' k v
  | .num _, _, h => by
    cases h with
    | bl b => exact .bl b
    | int _ => exact .int _
  | .text _, _, h => by cases h; exact .str _
  | .tup ks, _, h => by
    cases h with
    | tup ha hk => exact .tup (e _ _ ha) (KyAll.mono e ks _ hk)
  | .none, _, h => by cases h; exact .non
theorem KyAll.mono {H H' : Hp} (e : Tups H H') : ∀ (ks : List NestedKey) (vs : List V), KyAll H ks vs → KyAll H' ks vs
  | [], _, h => by cases h; exact .nil
  | k :: ks, _, h => by
    cases h with
    | cons h1 h2 => exact .cons (KyAt.mono e k _ h1) (KyAll.mono e ks _ h2)
end
section
variable {X : Cx} {pins : List (Addr × Obj)} {σ : L2.St} {H : Hp} {s : Shared}
mutual
theorem KyAt.is (I : Inv X pins σ H s) : ∀ (k : NestedKey) (v : V) (u : Value), KyAt H k v → RelV v u → NestedIs s.heap k u
  | .num _, _, _, h, r => by
    cases h with
    | bl b =>
      obtain rfl := r
      exact .bool rfl
    | int _ =>
      obtain ⟨t, rfl⟩ := r
      exact .int _ t
  | .text _, _, _, h, r => by
    cases h
    obtain ⟨t, rfl⟩ := r
    exact .text _ t
  | .tup ks, _, _, h, r => by
    cases h with
    | tup ha hk =>
      obtain rfl := r
      obtain ⟨its, rv, ⟨o, ho, hc, n, hd⟩, _⟩ := I.tuple (SqT.of ha)
      exact .tup ho hc hd (KyAll.is I ks _ _ hk rv)
  | .none, _, _, h, r => by
    cases h
    obtain rfl := r
    exact .none
theorem KyAll.is (I : Inv X pins σ H s) : ∀ (ks : List NestedKey) (vs : List V) (us : List Value), KyAll H ks vs → Vals vs us → NestedAll s.heap ks us
  | [], _, _, h, r => by
    cases h
    cases r
    exact .nil
  | k :: ks, _, _, h, r => by
    cases h with
    | cons h1 h2 =>
      cases r with
      | cons r1 r2 => exact .cons (KyAt.is I k _ _ h1 r1) (KyAll.is I ks _ _ h2 r2)
end
end
/-- an entry: its key, where the key's tuple stands, its value -/
abbrev KE := List (NestedKey × Addr × V)
abbrev RelE (x : NestedKey × Addr × V) (y : NestedKey × Addr × Value) : Prop := x.1 = y.1 ∧ x.2.1 = y.2.1 ∧ RelV x.2.2 y.2.2
def rawE (P : Program) (w : World) (d : Addr) (xs : KE) : HO := .ext fun h => (d == sysModules) = false ∧ xs.length ≤ sizeLine ∧ (xs.map (·.1)).Nodup ∧
  ∃ ys : List (NestedKey × Addr × Value), Paired RelE xs ys ∧ ∃ o es ep, h.get? d = some o ∧ o.ExactDict ∧ o.data = .dict es ep ∧ es.toList = ys.map (entryOfKey (nestedKind P w))
def IsEx (P : Program) (w : World) (H : Hp) (d : Addr) (xs : KE) : Prop := H d = some (rawE P w d xs) ∨ (H d = some (.dK []) ∧ xs = [])
def atE (xs : KE) (k : NestedKey) : Option V := (xs.find? fun x => decide (x.1 = k)).map (·.2.2)
def KsAt (H : Hp) (xs : KE) : Prop := ∀ e ∈ xs, KyAt H e.1 (.ref e.2.1) ∧ e.1.depth ≤ 8
open PySem PySem.Spec PyProof.Rows
theorem rel_keys : ∀ {xs : KE} {ys : List (NestedKey × Addr × Value)}, Paired RelE xs ys → ys.map (·.1) = xs.map (·.1)
  | _, _, .nil => rfl
  | _, _, .cons h t => by rw [List.map_cons, List.map_cons, rel_keys t, h.1]
theorem rel_mem : ∀ {xs : KE} {ys : List (NestedKey × Addr × Value)}, Paired RelE xs ys → ∀ y ∈ ys, ∃ x ∈ xs, RelE x y
  | _, _, .nil, _, h => by cases h
  | _, _, .cons h t, y, m => by
    rcases List.mem_cons.mp m with e | m
    · rw [e]
      exact ⟨_, List.mem_cons_self, h⟩
    · obtain ⟨x, hx, r⟩ := rel_mem t y m
      exact ⟨x, List.mem_cons_of_mem _ hx, r⟩
theorem rel_at {k : NestedKey} : ∀ {xs : KE} {ys : List (NestedKey × Addr × Value)}, Paired RelE xs ys → (∀ v, atE xs k = some v → ∃ p, atKey ys k = some p ∧ RelV v p.2) ∧ (atE xs k = none → atKey ys k = none)
  | _, _, .nil => ⟨fun v h => (by cases h), fun _ => rfl⟩
  | x :: xs, y :: ys, .cons h t => by
    have ih := rel_at (k := k) t
    unfold atE atKey at ih ⊢
    by_cases e : x.1 = k
    · have e' : y.1 = k := h.1.symm.trans e
      rw [List.find?_cons_of_pos (by exact decide_eq_true e), List.find?_cons_of_pos (by exact decide_eq_true e')]
      exact ⟨fun v hv => ⟨y.2, rfl, by cases hv; exact h.2.2⟩, fun z => by cases z⟩
    · have e' : ¬ y.1 = k := fun z => e (h.1.trans z)
      rw [List.find?_cons_of_neg (by simpa using e), List.find?_cons_of_neg (by simpa using e')]
      exact ih
theorem hu9 {k : Nat} {A : Around} (r : Room k A) : A.in1.units + 8 < cLine := by have := r.un; show A.units + 1 + 8 < _; omega
section
variable {X : Cx} {pins : List (Addr × Obj)} {σ : L2.St} {H : Hp} {s : Shared} {d : Addr} {xs : KE} {A : Around} {E : Value → Shared → Prop}
theorem isE_at (I : Inv X pins σ H s) (h : IsEx X.prog X.w H d xs) : (d == sysModules) = false ∧ xs.length ≤ sizeLine ∧ (xs.map (·.1)).Nodup ∧
    ∃ ys : List (NestedKey × Addr × Value), Paired RelE xs ys ∧ ∃ o es ep, s.heap.get? d = some o ∧ o.ExactDict ∧ o.data = .dict es ep ∧ es.toList = ys.map (entryOfKey (nestedKind X.prog X.w)) := by
  rcases h with h | ⟨h, rfl⟩
  · exact (I.hok d _ h).1
  · obtain ⟨_, hd, vs, rel, o, es, ep, ho, he, hdat, hes, q1, q2⟩ := I.hok d _ h
    cases rel
    refine ⟨hd, Nat.zero_le _, List.Pairwise.nil, [], .nil, o, es, ep, ho, he, hdat, ?_⟩
    generalize es.toList = l at q1
    cases q1
    rfl
theorem isE_dict (I : Inv X pins σ H s) (h : IsEx X.prog X.w H d xs) (hk : KsAt H xs) : (d == sysModules) = false ∧ xs.length ≤ sizeLine ∧ ∃ ys, Paired RelE xs ys ∧ s.heap.DictOfH (nestedKind X.prog X.w) d ys := by
  obtain ⟨hsy, hl, nd, ys, rel, o, es, ep, ho, he, hdat, hes⟩ := isE_at I h
  refine ⟨hsy, hl, ys, rel, o, es, ep, ho, he, hdat, hes, fun y hy => ?_, by rw [rel_keys rel]; exact nd⟩
  obtain ⟨x, hx, r1, r2, _⟩ := rel_mem rel y hy
  rw [← r1, ← r2]
  exact ⟨KyAt.is I _ _ _ (hk x hx).1 rfl, (hk x hx).2⟩
theorem isE_mut (h : IsEx X.prog X.w H d xs) : Mut (H d) := by
  rcases h with h | ⟨h, _⟩ <;> rw [h] <;> exact True.intro
def tKNotIn (P : Program) (w : World) (ty td : TE) : TE := fun σ H Q => ty σ H fun y H1 => td σ H1 fun x H2 => ∃ (d a : Addr) (xs : KE) (k : NestedKey), x = .ref d ∧ y = .ref a ∧ IsEx P w H2 d xs ∧ KsAt H2 xs ∧ KyAt H2 k (.ref a) ∧ k.depth ≤ 8 ∧ Q (.bl (!(atE xs k).isSome)) H2
theorem pc_knotin {i o : Expr} {ty td : TE} (hu : X.A.in1.units + 8 < cLine) (hi : PE X i ty) (ho : PE X o td) : PC X .NotIn i o (tKNotIn X.prog X.w ty td) := by
  refine ⟨fun pins s σ H Q I h => ?_⟩
  refine thn (hi.run pins s σ H _ I h) fun iv s1 ⟨y, H1, I1, ry, q1⟩ => thn (ho.run pins s1 σ H1 _ I1 q1) fun u s2 ⟨x, H2, I2, rx, d, a, xs, k, ex, ey, hx, hks, hk, hd, q2⟩ => ?_
  subst ex ey
  obtain rfl : u = Value.ref d := rx
  obtain rfl : iv = Value.ref a := ry
  obtain ⟨hsy, _, ys, rel, dd⟩ := isE_dict I2 hx hks
  refine wpAny_notIn_heap (knd := nestedKind X.prog X.w) (k := k) hu ⟨KyAt.is I2 _ _ _ hk rfl, hd⟩ hsy dd ?_
  have e : (atKey ys k).isSome = (atE xs k).isSome := by
    obtain ⟨r1, r2⟩ := rel_at (k := k) rel
    cases z : atE xs k with
    | none => rw [r2 z]; rfl
    | some v => obtain ⟨p, hp, _⟩ := r1 v z; rw [hp]; rfl
  rw [e]
  exact ⟨.bl (!(atE xs k).isSome), H2, I2.tok _, rfl, q2⟩
def tKGet (P : Program) (w : World) (td ty : TE) : TE := fun σ H Q => td σ H fun x H1 => ty σ H1 fun y H2 => ∃ (d a : Addr) (xs : KE) (k : NestedKey) (v : V), x = .ref d ∧ y = .ref a ∧ IsEx P w H2 d xs ∧ KsAt H2 xs ∧ KyAt H2 k (.ref a) ∧ k.depth ≤ 8 ∧ atE xs k = some v ∧ Q v H2
theorem pe_kget {o i : Expr} {pos : Pos} {td ty : TE} (hu : X.A.in1.units + 8 < cLine) (ho : PE X o td) (hi : PE X i ty) (hs : NoSl i) : PE X (.Subscript o i pos) (tKGet X.prog X.w td ty) := by
  refine ⟨fun pins s σ H Q I h => ?_⟩
  refine subD_of PySem.F.slot_dict_getitem.lookup hs (thn (ho.run pins s σ H _ I h) fun u s1 ⟨x, H1, I1, rx, q1⟩ => thn (hi.run pins s1 σ H1 _ I1 q1) fun iv s2 ⟨y, H2, I2, ry, d, a, xs, k, v, ex, ey, hx, hks, hk, hd, hv, q2⟩ => ?_)
  subst ex ey
  obtain rfl : u = Value.ref d := rx
  obtain rfl : iv = Value.ref a := ry
  obtain ⟨hsy, _, ys, rel, dd⟩ := isE_dict I2 hx hks
  obtain ⟨p, hp, rv⟩ := (rel_at (k := k) rel).1 v hv
  exact ⟨dd.typeIs, wpAny_getItem_heap (knd := nestedKind X.prog X.w) (k := k) hu ⟨KyAt.is I2 _ _ _ hk rfl, hd⟩ dd hp ⟨v, H2, I2.tok _, rv, q2⟩⟩
def putAtE (k : NestedKey) (v : V) (x : NestedKey × Addr × V) : NestedKey × Addr × V := if x.1 = k then (x.1, x.2.1, v) else x
def putE (xs : KE) (k : NestedKey) (a : Addr) (v : V) : KE := if (atE xs k).isSome then xs.map (putAtE k v) else xs ++ [(k, a, v)]
theorem rel_put {k : NestedKey} {v : V} {r : Value} (rv : RelV v r) : ∀ {xs : KE} {ys : List (NestedKey × Addr × Value)}, Paired RelE xs ys → Paired RelE (xs.map (putAtE k v)) (ys.map (putAt k r))
  | _, _, .nil => .nil
  | x :: _, y :: _, .cons h t => by
    refine .cons ?_ (rel_put rv t)
    unfold putAtE putAt
    by_cases e : x.1 = k
    · rw [if_pos e, if_pos (h.1.symm.trans e)]
      exact ⟨h.1, h.2.1, rv⟩
    · rw [if_neg e, if_neg fun z => e (h.1.trans z)]
      exact h
theorem rel_isSome {k : NestedKey} {xs : KE} {ys : List (NestedKey × Addr × Value)} (rel : Paired RelE xs ys) : (atKey ys k).isSome = (atE xs k).isSome := by
  obtain ⟨r1, r2⟩ := rel_at (k := k) rel
  cases z : atE xs k with
  | none => rw [r2 z]; rfl
  | some v => obtain ⟨p, hp, _⟩ := r1 v z; rw [hp]; rfl
theorem atE_mem {k : NestedKey} {v : V} : ∀ {xs : KE}, atE xs k = some v → ∃ x ∈ xs, x.1 = k ∧ x.2.2 = v
  | [], h => by cases h
  | x :: xs, h => by
    unfold atE at h
    by_cases e : x.1 = k
    · rw [List.find?_cons_of_pos (by exact decide_eq_true e)] at h
      exact ⟨x, List.mem_cons_self, e, Option.some.inj h⟩
    · rw [List.find?_cons_of_neg (by simpa using e)] at h
      obtain ⟨y, hy, z⟩ := atE_mem (xs := xs) h
      exact ⟨y, List.mem_cons_of_mem _ hy, z⟩
theorem mem_putE {xs : KE} {k : NestedKey} {a : Addr} {v : V} {x : NestedKey × Addr × V} (h : x ∈ putE xs k a v) : x ∈ xs ∨ (x.1 = k ∧ x.2.2 = v ∧ (x.2.1 = a ∨ ∃ y ∈ xs, y.1 = k ∧ y.2.1 = x.2.1)) := by
  unfold putE at h
  split at h
  · obtain ⟨y, hy, e⟩ := List.mem_map.mp h
    unfold putAtE at e
    by_cases z : y.1 = k
    · rw [if_pos z] at e
      rw [← e]
      exact .inr ⟨z, rfl, .inr ⟨y, hy, z, rfl⟩⟩
    · rw [if_neg z] at e
      rw [← e]
      exact .inl hy
  · rcases List.mem_append.mp h with h | h
    · exact .inl h
    · rw [List.mem_singleton.mp h]
      exact .inr ⟨rfl, rfl, .inl rfl⟩
theorem atE_map {k : NestedKey} {v : V} : ∀ {xs : KE}, (atE xs k).isSome = true → atE (xs.map (putAtE k v)) k = some v
  | [], h => by cases h
  | x :: xs, h => by
    unfold atE at h ⊢
    rw [List.map_cons]
    by_cases e : x.1 = k
    · have e1 : putAtE k v x = (x.1, x.2.1, v) := if_pos e
      rw [e1, List.find?_cons_of_pos (by exact decide_eq_true e)]
      rfl
    · have e1 : putAtE k v x = x := if_neg e
      rw [List.find?_cons_of_neg (by simpa using e)] at h
      rw [e1, List.find?_cons_of_neg (by simpa using e)]
      exact atE_map (xs := xs) h
theorem atE_put (xs : KE) (k : NestedKey) (a : Addr) (v : V) : atE (putE xs k a v) k = some v := by
  unfold putE
  split
  · rename_i h
    exact atE_map h
  · rename_i h
    unfold atE at h ⊢
    have n : xs.find? (fun x => decide (x.1 = k)) = none := by
      cases z : xs.find? (fun x => decide (x.1 = k)) with
      | none => rfl
      | some y => rw [z] at h; exact absurd rfl h
    rw [List.find?_append, n]
    simp
theorem putE_len (xs : KE) (k : NestedKey) (a : Addr) (v : V) : (putE xs k a v).length ≤ xs.length + 1 := by
  unfold putE
  split
  · rw [List.length_map]; omega
  · rw [List.length_append]; exact Nat.le_refl _
def sKPut (P : Program) (w : World) (td ty tv : TE) : TS := fun D σ H => tv σ H fun v H1 => td σ H1 fun x H2 => ty σ H2 fun y H3 => ∃ (d a : Addr) (xs : KE) (k : NestedKey), x = .ref d ∧ y = .ref a ∧ IsEx P w H3 d xs ∧ KsAt H3 xs ∧ KyAt H3 k (.ref a) ∧ k.depth ≤ 8 ∧
  xs.length < sizeLine ∧ D.nx σ (upd H3 d (rawE P w d (putE xs k a v)))
theorem ps_kput {o i value : Expr} {pos pos' : Pos} {td ty tv : TE} (hu : X.A.in1.units + 8 < cLine) (ho : PE X o td) (hi : PE X i ty) (hv : PE X value tv) (hs : swapsWith value (some (.Subscript o i pos')) pos.line X.env = pure false) :
    PS X (.Assign [.Subscript o i pos'] value pos) (sKPut X.prog X.w td ty tv) := by
  refine ⟨fun pins s σ H D I h => ?_⟩
  refine wpAny_Assign_Subscript (thn (hv.run pins s σ H _ I h) fun r s1 ⟨v, H1, I1, rv, q1⟩ => thn (ho.run pins s1 σ H1 _ I1 q1) fun u s2 ⟨x, H2, I2, rx, q2⟩ => thn (hi.run pins s2 σ H2 _ I2 q2) fun iv s3 ⟨y, H3, I3, ry, d, a, xs, k, ex, ey, hx, hks, hk, hd, hl, q3⟩ => ?_) hs
  subst ex ey
  obtain rfl : u = Value.ref d := rx
  obtain rfl : iv = Value.ref a := ry
  obtain ⟨hsy, hl0, ys, rel, dd⟩ := isE_dict I3 hx hks
  refine wpAny_setItem_heap (knd := nestedKind X.prog X.w) (k := k) (hsz := by rw [← Paired.length rel]; exact hl0) hu ⟨KyAt.is I3 _ _ _ hk rfl, hd⟩ dd fun h' dd' hs' => ?_
  have rel' : Paired RelE (putE xs k a v) (storedH ys k a r) := by
    unfold putE storedH
    rw [rel_isSome (k := k) rel]
    by_cases z : (atE xs k).isSome = true
    · rw [if_pos z, if_pos z]
      exact rel_put rv rel
    · rw [if_neg z, if_neg z]
      exact Paired.snoc rel ⟨rfl, rfl, rv⟩
  obtain ⟨ob, es, ep, ho', he, hdat, hes, _, nd'⟩ := dd'
  have new : ObjOk X.prog X.w (upd H3 d (rawE X.prog X.w d (putE xs k a v))) h' d (rawE X.prog X.w d (putE xs k a v)) := by
    refine ⟨⟨hsy, Nat.le_trans (putE_len _ _ _ _) hl, by rw [← rel_keys rel']; exact nd', _, rel', ob, es, ep, ho', he, hdat, hes⟩, ⟨ob, ho'⟩, ?_⟩
    rintro g1 g2 ⟨p1, p2, p3, zs, p4, o1, es1, ep1, q1, q⟩ kp
    exact ⟨p1, p2, p3, zs, p4, o1, es1, ep1, kp _ q1, q⟩
  exact ⟨σ, _, d_write (t' := s3.toks + (nestedKind X.prog X.w).draws k) I3 (isE_mut hx) hs' ⟨ob, ho'⟩ new, q3⟩
end

/-! ### {**d, k: v} -/
section
open PySem PySem.Spec
variable {prog : Program} {w : World} {κ : Type} [DecidableEq κ] {knd : KeyKind prog w κ} {A : Around} {E : Value → Shared → Prop} {s : Shared}
theorem wpAny_dictPut_pairs {d : Addr} {kvs : List (κ × Value)} {k : κ} {key v : Value} {Q : Unit → Shared → Prop} (hkey : knd.is k key = true) (hm : s.heap.DictOf knd d kvs)
    (hQ : ∀ h', h'.DictOf knd d (stored kvs k v) → Heap.SameBut d s.heap h' → Q () { s with heap := h' })
    (hsz : kvs.length ≤ sizeLine) :
    wpAny (model prog w) A (dictPut d (knd.hash k) key v) Q E s := by
  obtain ⟨o, es, ep, ho, hc, hd, hk, hp, hn⟩ := hm
  have hes : es.size ≤ sizeLine := by have e1 := hp.length; have e2 : es.toList.length = es.size := by simp
                                      omega
  unfold dictPut
  refine wpAny_bind (wpAny_dictFind_of hkey ho hd hk ?_)
  have hidx : (es.findIdx? fun e => knd.is k e.key) = kvs.findIdx? fun kv => decide (kv.1 = k) := by
    rw [← hp.findIdx k]; obtain ⟨l⟩ := es; simp
  cases hi : es.findIdx? fun e => knd.is k e.key with
  | some i =>
    refine wpAny_updateDict ho hd (hQ _ ⟨_, _, ep, Heap.get?_update_self _ ho (Obj.isFreed_of_dict (Obj.data_mapDict hd _)),
      hc.mapDict _, Obj.data_mapDict hd _, hk.modify _ _, ?_, ?_⟩ (Heap.SameBut.update ..))
    · rw [stored, if_pos (any_of_findIdx_some (hidx ▸ hi))]
      have hl : (es.toList.findIdx? fun e => knd.is k e.key) = some i := by rw [← hi]; obtain ⟨l⟩ := es; simp
      have := hp.modify hn hl v
      obtain ⟨l⟩ := es
      simpa using this
    · rw [stored, if_pos (any_of_findIdx_some (hidx ▸ hi)), keys_map_store]; exact hn
  | none =>
    have hnot : k ∉ kvs.map (·.1) := not_mem_of_findIdx_none (hidx ▸ hi)
    have hany : ¬ (kvs.any fun kv => decide (kv.1 = k)) = true := by
      rw [List.any_eq_true]; rintro ⟨kv, hkv, he⟩
      exact hnot (List.mem_map.mpr ⟨kv, hkv, of_decide_eq_true he⟩)
    refine wpAny_updateDictKeys (hz := hes) ho hd (hQ _ ⟨_, _, ep + 1, Heap.get?_update_self _ ho (Obj.isFreed_of_dict (Obj.data_mapDictKeys hd _)),
      hc.mapDictKeys _, Obj.data_mapDictKeys hd _, hk.push hkey _, ?_, ?_⟩ (Heap.SameBut.update ..))
    · rw [stored, if_neg hany]
      have := hp.append hkey (knd.hash k) v
      obtain ⟨l⟩ := es
      simpa using this
    · rw [stored, if_neg hany, List.map_append, List.nodup_append]
      refine ⟨hn, by simp, ?_⟩
      intro a ha b hb
      simp only [List.map_cons, List.map_nil, List.mem_singleton] at hb
      subst hb
      exact fun e => hnot (e ▸ ha)
theorem noRefKeys {es : Array DictEntry} (hk : KeysOf knd es) {P : DictEntry → Sem (ForInStep PUnit)} (hP : ∀ e ∈ es.toList, carriedByValue e.key = true → P e = pure (.yield PUnit.unit)) :
    (forIn es PUnit.unit fun e (_ : PUnit) => P e) = pure PUnit.unit := by
  rw [← Array.forIn_toList]
  refine forIn_yield_id _ fun e he c => ?_
  obtain ⟨k, hkey, _⟩ := hk e (Array.mem_toList_iff.mp he)
  exact hP e he (knd.byValue k _ hkey)
set_option pp.maxSteps 100000 in
theorem wpAny_mergeMapping {d o : Addr} {kvs more : List (κ × Value)} {Q : Unit → Shared → Prop} (hdo : d ≠ o) (hoS : (o == sysModules) = false)
    (hd : s.heap.DictOf knd d kvs) (ho : s.heap.DictOf knd o more)
    (hQ : ∀ h', h'.DictOf knd d (merged kvs more) → h'.DictOf knd o more → Heap.SameBut d s.heap h' → Q () { s with heap := h' })
    (hsz : kvs.length + more.length ≤ sizeLine) :
    wpAny (model prog w) A (mergeMapping d (.ref o) false) Q E s := by
  obtain ⟨od, esd, epd, hod, hcd, hdd, hkd, hpd, hnd⟩ := id hd
  obtain ⟨oo, eso, epo, hoo, hco, hdo', hko, hpo, hno⟩ := id ho
  have hlen : more.length = eso.size := by rw [← hpo.length]; simp
  unfold mergeMapping
  refine wpAny_bind (wpAny_isInstance ho.typeIs isSubtype_dict_dict ?_)
  dsimp only
  rw [if_pos rfl]
  refine wpAny_bind (wpAny_specialOf ho.typeIs F.slot_dict_iter.lookup (wpAny_bind (wpAny_pure ?_)))
  simp only [beq_self_eq_true]
  rw [if_neg (by rw [hoS]; exact Bool.false_ne_true)]
  refine wpAny_bind (wpAny_dictEntries hod hdd ?_)
  have pre : ∀ {J : Sem Unit} {P : Array DictEntry → DictEntry → Sem (ForInStep PUnit)}, (∀ e ∈ eso.toList, carriedByValue e.key = true → P eso e = pure (.yield PUnit.unit)) → wpAny (model prog w) A J Q E s →
      wpAny (model prog w) A (if esd.isEmpty = true then (do let es ← dictEntries o; forIn es PUnit.unit fun e (_ : PUnit) => P es e; J) else J) Q E s := fun hP hJ => by
    split
    · refine wpAny_bind (wpAny_dictEntries hoo hdo' (wpAny_bind ?_))
      rw [noRefKeys hko hP]
      exact wpAny_pure hJ
    · exact hJ
  refine pre (fun e he c => ?_) ?_
  · cases h : e.key <;> first | rfl | (rw [h] at c; cases c)
  refine wpAny_bind (wpAny_dictEntries hoo hdo' ?_)
  refine wpAny_bind (wpAny_dictEpoch hoo hdo' ?_)
  refine wpAny_bind ?_
  rw [List.range_eq_range']
  refine wpAny_forIn_list _
    (fun rest _ s' => ∃ h' i, s' = { s with heap := h' } ∧ rest = List.range' i (eso.size - i) ∧ i ≤ eso.size ∧ h'.DictOf knd d (merged kvs (more.take i)) ∧ h'.get? o = some oo ∧ Heap.SameBut d s.heap h')
    _ ?_ ?_ _ _ ⟨s.heap, 0, rfl, by simp, Nat.zero_le _, by simpa [merged] using hd, hoo, Heap.SameBut.refl _ _⟩
  · rintro x rest b s' ⟨h', i, rfl, hr, hi, hd', hoo', hs'⟩
    have hlt : i < eso.size := by
      rcases Nat.lt_or_ge i eso.size with h | h
      · exact h
      · rw [Nat.sub_eq_zero_of_le h] at hr; simp at hr
    obtain ⟨rfl, hrest⟩ : x = i ∧ rest = List.range' (i + 1) (eso.size - (i + 1)) := by
      have e : eso.size - i = (eso.size - (i + 1)) + 1 := by omega
      rw [e, List.range'_succ] at hr
      injection hr with h1 h2
      exact ⟨h1, h2⟩
    refine wpAny_bind (wpAny_dictEntries hoo' hdo' ?_)
    rw [Array.getElem?_eq_getElem hlt]
    obtain ⟨kv, hkv⟩ : ∃ kv, more[x]? = some kv := ⟨more[x]'(by rw [hlen]; exact hlt), List.getElem?_eq_getElem _⟩
    obtain ⟨k, v⟩ := kv
    obtain ⟨hkey, hval⟩ := hpo.get? (e := eso[x]) (by simp [hlt]) hkv
    obtain ⟨k', hkey', hhash⟩ := hko eso[x] (Array.getElem_mem hlt)
    obtain rfl : k' = k := knd.inj _ _ _ hkey' hkey
    have hmx : (merged kvs (more.take x)).length ≤ sizeLine := by
      have e1 := merged_length_le kvs (more.take x)
      have e2 : (more.take x).length ≤ more.length := by rw [List.length_take]; omega
      omega
    refine wpAny_bind (wpAny_holding ?_)
    rw [if_neg Bool.false_ne_true]
    rw [hhash, hval]
    refine wpAny_dictPut_pairs (hsz := hmx) hkey hd' fun h'' hd'' hs'' => ?_
    have hoo'' : h''.get? o = some oo := (hs''.2 o (Ne.symm hdo)).trans hoo'
    refine wpAny_bind (wpAny_dictEpoch hoo'' hdo' ?_)
    rw [if_neg (by simp)]
    exact wpAny_pure ⟨h'', x + 1, rfl, hrest, hlt, by rw [merged_take_succ kvs more x (k', v) hkv]; exact hd'', hoo'', hs'.trans hs''⟩
  · rintro b s' ⟨h', i, rfl, hr, hi, hd', hoo', hs'⟩
    have hin : i = eso.size := by
      rcases Nat.lt_or_ge i eso.size with h | h
      · have e : eso.size - i = (eso.size - (i + 1)) + 1 := by omega
        rw [e, List.range'_succ] at hr; exact nomatch hr
      · exact Nat.le_antisymm hi h
    refine wpAny_pure (hQ h' ?_ ⟨oo, eso, epo, hoo', hco, hdo', hko, hpo, hno⟩ hs')
    rw [hin, ← hlen, List.take_length] at hd'; exact hd'
end
section
open PySem PySem.Spec
variable {X : Cx}
/-- {**m, k: v}: the new dict p is filled from m, then from one more new dict q that holds k alone -/
def tStarD (tm tk tv : TE) : TE := fun σ H Q => ∀ p, H p = none → tm σ (upd H p (.dK [])) fun x H1 => ∃ (a : Addr) (kvs : List (Key × V)), x = .ref a ∧ p ≠ a ∧ H1 a = some (.dK kvs) ∧ H1 p = some (.dK []) ∧ kvs.length < sizeLine ∧
  ∀ q, upd H1 p (.dK kvs) q = none → tk σ (upd (upd H1 p (.dK kvs)) q (.dK [])) fun y H2 => tv σ H2 fun z H3 => H3 p = some (.dK kvs) ∧ H3 q = some (.dK []) ∧ ∃ k, y = kV k ∧ Q (.ref p) (upd (upd H3 q (.dK [(k, z)])) p (.dK (putK kvs k z)))
theorem KV.keys {κ : Type} [DecidableEq κ] {kvs : List (κ × V)} {vs : List (κ × Value)} (r : KV kvs vs) : kvs.map (·.1) = vs.map (·.1) := by
  unfold KV at r
  induction r with
  | nil => rfl
  | cons h t ih => rw [List.map_cons, List.map_cons, ih, h.1]
theorem pe_star {m k v : Expr} {pos : Pos} {tm tk tv : TE} (hm : PE X m tm) (hk : PE X k tk) (hv : PE X v tv) : PE X (.Dict [none, some k] [m, v] pos) (tStarD tm tk tv) := by
  refine ⟨fun pins s σ H Q I q => ?_⟩
  have hn := I.hok.fresh (Nat.le_refl s.heap.objs.size)
  have I1 := I.laid (a := s.heap.objs.size) (o := .dK []) (h' := s.heap.push { cls := .type "dict", data := .dict #[] }) (t' := s.toks) (fun _ _ q => Heap.get?_push_of_some _ q) (Nat.le_refl _) (dk_empty s.heap I.big)
  rw [arm_eval_Dict]
  refine wpAny_bind (wpAny_standAt ?_)
  show wpAny _ _ (dictDisplay [(none, do let x ← eval m X.env; standAt pos; pure x), (some (eval k X.env), do let x ← eval v X.env; standAt pos; pure x)]) _ _ _
  unfold dictDisplay
  dsimp only
  simp only [List.forIn_cons, List.forIn_nil, List.isEmpty_nil, if_true, pure_bind, bind_assoc]
  refine wpAny_bind (wpAny_alloc ?_)
  refine wpAny_bind (wpAny_holding (wpAny_bind (thn (hm.run pins _ σ _ _ I1 (q _ hn)) fun u s1 ⟨x, H1, I2, rx, a, kvs, ex, pa, ha, hp, hz, q2⟩ => wpAny_bind (wpAny_standAt (wpAny_pure ?_)))))
  subst ex
  obtain rfl : u = Value.ref a := rx
  obtain ⟨z0, hsp, vs0, r0, dp⟩ := dk_of I2.hok hp
  cases r0
  obtain ⟨z1, hsa, vs, rel, da⟩ := dk_of I2.hok ha
  have lv : kvs.length = vs.length := by have e := congrArg List.length rel.keys; simpa using e
  have nv : (vs.map (·.1)).Nodup := let ⟨_, _, _, _, _, _, _, _, n⟩ := da; n
  refine wpAny_bind (wpAny_onRaise (wpAny_tryCatch (wpAny_onRaise (wpAny_holding (wpAny_mergeMapping (knd := mixKind X.prog X.w) pa hsa dp da (fun h' dp' _ hs => ?_) (by simp; omega))))))
  rw [merged_nil_of_nodup _ nv] at dp'
  have hex : ∀ {h' : Heap} {b : Addr} {zs : List (Key × Value)}, h'.DictOf (mixKind X.prog X.w) b zs → ∃ q, h'.get? b = some q := fun dd' => let ⟨q, _, _, hq, _⟩ := dd'; ⟨q, hq⟩
  have I3 := d_write (t' := s1.toks) I2 (by rw [hp]; exact True.intro) hs (hex dp') (dk_new z1 hsp rel dp')
  simp only [List.nil_append, List.length_singleton, show ((1 : Nat) == 17) = false from rfl, Bool.false_eq_true, if_false, pure_bind, List.isEmpty_cons]
  have hn3 := I3.hok.fresh (Nat.le_refl _)
  have I4 := I3.laid (a := h'.objs.size) (o := .dK []) (h' := h'.push { cls := .type "dict", data := .dict #[] }) (t' := s1.toks) (fun _ _ q => Heap.get?_push_of_some _ q) (Nat.le_refl _) (dk_empty h' I3.big)
  refine wpAny_bind (wpAny_bind (wpAny_holding (wpAny_subDict (knd := mixKind X.prog X.w) (by simp) (evalPairs_cons (thn (hk.run pins _ σ _ _ I4 (q2 _ hn3)) fun u2 s2 ⟨y, H2, I5, ry, q3⟩ => wpAny_bind (thn (hv.run pins _ σ _ _ I5 q3) fun u3 s3 ⟨z, H3, I6, rz, hp3, hq3, key, ey, q4⟩ => wpAny_bind (wpAny_standAt (wpAny_pure (evalPairs_nil ?_)))))))))
  subst ey
  obtain ⟨_, hsq, vs4, r4, dq⟩ := dk_of I6.hok hq3
  cases r4
  refine ⟨[(key, u3)], ⟨kV_is ry, rfl, True.intro⟩, dq, fun h5 dq' hs5 => ?_⟩
  rw [merged_nil_of_nodup [(key, u3)] (List.nodup_cons.mpr ⟨List.not_mem_nil, List.nodup_nil⟩)] at dq'
  have rel5 : KV [(key, z)] [(key, u3)] := .cons ⟨rfl, rz⟩ .nil
  have I7 := d_write (t' := s3.toks + 1) I6 (by rw [hq3]; exact True.intro) hs5 (hex dq') (dk_new (kvs := [(key, z)]) (small (by show 1 ≤ 1000; decide)) hsq rel5 dq')
  have npq : s.heap.objs.size ≠ h'.objs.size := fun e => by rw [← e, upd_same] at hn3; cases hn3
  have hp7 : upd H3 h'.objs.size (.dK [(key, z)]) s.heap.objs.size = some (.dK kvs) := by rw [upd_ne npq]; exact hp3
  obtain ⟨_, _, vs7, rel7, dp7⟩ := dk_of I7.hok hp7
  have lv7 : kvs.length = vs7.length := by have e := congrArg List.length rel7.keys; simpa using e
  refine wpAny_bind (wpAny_onRaise (wpAny_holding (wpAny_mergeMapping (knd := mixKind X.prog X.w) npq hsq dp7 dq' (fun h8 dp8 _ hs8 => ?_) (by rw [List.length_singleton]; omega))))
  refine wpAny_pure (wpAny_pure ⟨.ref s.heap.objs.size, _, ?_, rfl, q4⟩)
  refine d_write I7 (by rw [hp7]; exact True.intro) hs8 (hex dp8) (dk_new ?_ hsp (rel7.put key rz) dp8)
  have := length_putK kvs key z
  omega
end

/-! ### what a name means, as the program keeps it -/
theorem ps_never {X : Cx} {st : Stmt} : PS X st (fun _ _ _ => False) := ⟨fun _ _ _ _ _ _ h => h.elim⟩
def mean (u : Ent) : List V := match u.dom with
  | none => [.str "value", .int (lvI u.lv), .str (kindS u.k)]
  | some d => [.str "function", .int (lvI u.lv), .str (kindS d), .str (kindS u.k)]
def meanK (u : Ent) : List NestedKey := match u.dom with
  | none => [.text "value", .num (lvI u.lv), .text (kindS u.k)]
  | some d => [.text "function", .num (lvI u.lv), .text (kindS d), .text (kindS u.k)]
def entK : Option Ent → NestedKey
  | none => .none
  | some u => .tup (meanK u)
theorem mean_key (H : Hp) (u : Ent) : KyAll H (meanK u) (mean u) := by
  unfold meanK mean
  cases u.dom with
  | none => exact .cons (.str _) (.cons (.int _) (.cons (.str _) .nil))
  | some d => exact .cons (.str _) (.cons (.int _) (.cons (.str _) (.cons (.str _) .nil)))
theorem lvI_inj {a b : Bool} (h : lvI a = lvI b) : a = b := by cases a <;> cases b <;> first | rfl | cases h
theorem entK_inj : ∀ {a b : Option Ent}, entK a = entK b → a = b
  | none, none, _ => rfl
  | none, some _, h => by cases h
  | some _, none, h => by cases h
  | some ⟨l, none, k⟩, some ⟨l', none, k'⟩, h => by
    simp only [entK, meanK, NestedKey.tup.injEq, List.cons.injEq, NestedKey.num.injEq, NestedKey.text.injEq] at h
    rw [lvI_inj h.2.1, kindS_inj h.2.2.1]
  | some ⟨l, some d, k⟩, some ⟨l', some d', k'⟩, h => by
    simp only [entK, meanK, NestedKey.tup.injEq, List.cons.injEq, NestedKey.num.injEq, NestedKey.text.injEq] at h
    rw [lvI_inj h.2.1, kindS_inj h.2.2.1, kindS_inj h.2.2.2.1]
  | some ⟨l, none, k⟩, some ⟨l', some d', k'⟩, h => by simp [entK, meanK] at h
  | some ⟨l, some d, k⟩, some ⟨l', none, k'⟩, h => by simp [entK, meanK] at h
theorem entK_deep (o : Option Ent) : (entK o).depth ≤ 1 := by
  rcases o with _ | ⟨l, d, k⟩
  · exact Nat.zero_le _
  · cases d <;> simp [entK, meanK, NestedKey.depth, NestedKey.depthAll]
theorem ents_flat (E : Env) : ∀ ls : List Str, NestedKey.depthAll (ls.map fun x => entK (E x)) ≤ 1
  | [] => Nat.zero_le _
  | x :: r => by
    have := entK_deep (E x)
    have := ents_flat E r
    simp only [List.map_cons, NestedKey.depthAll]
    omega
def keyOf (p : Nat) (l b : Bool) (ms : List NestedKey) : NestedKey := .tup [.num (p : Int), .num (lvI l), .num (if b = true then 1 else 0), .tup ms]
theorem keyOf_deep (p : Nat) (l b : Bool) (E : Env) (ls : List Str) : (keyOf p l b (ls.map fun x => entK (E x))).depth ≤ 8 := by
  have := ents_flat E ls
  simp only [keyOf, NestedKey.depth, NestedKey.depthAll]
  omega
theorem num_b_inj {a b : Bool} (h : (if a = true then (1 : Int) else 0) = if b = true then 1 else 0) : a = b := by cases a <;> cases b <;> first | rfl | simp at h
theorem keyOf_inj {p q : Nat} {l l' b b' : Bool} {ms ns : List NestedKey} (h : keyOf p l b ms = keyOf q l' b' ns) : p = q ∧ l = l' ∧ b = b' ∧ ms = ns := by
  unfold keyOf at h
  simp only [NestedKey.tup.injEq, List.cons.injEq, NestedKey.num.injEq, and_true] at h
  exact ⟨Int.ofNat.inj h.1, lvI_inj h.2.1, num_b_inj h.2.2.1, h.2.2.2⟩
/-! ### a kind rests on the loose names alone -/
theorem set_agree {E E' : Env} {x : Str} {u : Ent} {r : List Str} (h : ∀ y ∈ keep (.str x) r, E y = E' y) : ∀ y ∈ r, E.set x u y = E'.set x u y := fun y hy => by
  unfold Env.set
  by_cases e : y = x
  · rw [if_pos e, if_pos e]
  · rw [if_neg e, if_neg e]
    exact h y (keep_mem.mpr ⟨hy, fun z => e (V.str.inj z)⟩)
theorem kd_agree : ∀ (t : Tm) {E E' : Env} (l fr : Bool), (∀ x ∈ t.raw, E x = E' x) → kd t l E fr = kd t l E' fr := by
  intro t
  induction t with
  | num n => intro E E' l fr _; rfl
  | name x => intro E E' l fr h; simp only [kd, h x (by simp [Tm.raw])]
  | bin o a b iha ihb => intro E E' l fr h; simp only [kd, iha l fr fun x m => h x (List.mem_append_left _ m), ihb l fr fun x m => h x (List.mem_append_right _ m)]
  | cond c a b ihc iha ihb => intro E E' l fr h; simp only [kd, ihc l fr fun x m => h x (List.mem_append_left _ m), iha l fr fun x m => h x (List.mem_append_right _ (List.mem_append_left _ m)), ihb l fr fun x m => h x (List.mem_append_right _ (List.mem_append_right _ m))]
  | letx x a b iha ihb =>
    intro E E' l fr h
    have e : (fun k => kd b l (E.set x ⟨l, none, k⟩) fr) = fun k => kd b l (E'.set x ⟨l, none, k⟩) fr := funext fun k => ihb l fr (set_agree fun y m => h y (List.mem_append_right _ m))
    simp only [kd, iha l fr fun y m => h y (List.mem_append_left _ m), e]
  | turns n x a b iha ihb =>
    intro E E' l fr h
    have e : (fun k => (kd b l (E.set x ⟨l, none, k⟩) fr).want k) = fun k => (kd b l (E'.set x ⟨l, none, k⟩) fr).want k := funext fun k => by rw [ihb l fr (set_agree fun y m => h y (List.mem_append_right _ m))]
    simp only [kd, iha l fr fun y m => h y (List.mem_append_left _ m), e]
  | deff f x k a b iha ihb =>
    intro E E' l fr h
    have e : (fun j => kd b l (E.set f ⟨l, some k, j⟩) fr) = fun j => kd b l (E'.set f ⟨l, some k, j⟩) fr := funext fun j => ihb l fr (set_agree fun y m => h y (List.mem_append_right _ m))
    simp only [kd, iha l false (set_agree (u := ⟨l, none, k⟩) fun y m => h y (List.mem_append_left _ m)), e]
  | use f a iha => intro E E' l fr h; simp only [kd, h f List.mem_cons_self, iha l fr fun x m => h x (List.mem_cons_of_mem _ m)]
  | un o a iha =>
    intro E E' l fr h
    have h' : ∀ x ∈ a.raw, E x = E' x := h
    cases o <;> simp only [kd, iha _ _ h']
theorem kd_loose {t : Tm} {E E' : Env} {l fr : Bool} (h : (t.loose.map fun x => entK (E x)) = t.loose.map fun x => entK (E' x)) : kd t l E fr = kd t l E' fr :=
  kd_agree t l fr fun x m => entK_inj (List.map_inj_left.mp h x (mem_putAll.mpr (.inr m)))
/-! ### a written dict: .get -/
def WD (K : PySem.W.Frag) (w : World) (p : Addr) : Prop := ∃ es n, K.lookup p = some ⟨.type "dict", none, .dict es n, #[]⟩ ∧ PySem.W.KeysLit w.params es.toList ∧ (p == sysModules) = false
def WGot : Option Value → V → VK → Hp → Prop
  | none, z, Q, H => Q z H
  | some u, _, Q, H => ∃ v, RelV v u ∧ Q v H
def tWGet2 (K : PySem.W.Frag) (w : World) (td ty tx : TE) : TE := fun σ H Q => td σ H fun x H1 => ∃ p, x = .ref p ∧ WD K w p ∧ ty σ H1 fun y H2 => tx σ H2 fun z H3 => ∃ (x0 : Str) (r : Option Value), y = .str x0 ∧ PySem.W.nsIn K p x0 = some r ∧ WGot r z Q H3
theorem pe_wget2 {X : Cx} {o e f : Expr} {apos cpos : Pos} {td ty tx : TE} (ho : PE X o td) (he : PE X e ty) (hf : PE X f tx) (m : M2 X o "get" apos e f cpos) : PE X (.Call (.Attribute o "get" apos) [e, f] [] cpos) (tWGet2 X.K X.w td ty tx) := by
  refine ⟨fun pins s σ H Q I h => ?_⟩
  refine wpAny_Call_method m.base m.few m.line PySem.F.plainAttrs_dict PySem.F.slot_dict_get PySem.F.type_dict_get (thn (ho.run pins s σ H _ I h) fun u s1 ⟨x, H1, I1, rx, p, ex, ⟨es, n, hl, hk, low⟩, q1⟩ => ?_)
  subst ex
  obtain rfl : u = Value.ref p := rx
  have hm1 := PySem.W.mapOf_K (prog := X.prog) (w := X.w) I1.kIn hl hk
  refine ⟨hm1.typeIs, fun b q => ?_, ?_⟩
  · cases q
    exact ⟨_, I1.kIn _ _ hl, rfl⟩
  rw [m.trees]
  refine Calls.callWith_builtin rfl (Calls.evalArgs_plain (Calls.spliced_cons (thn (he.run pins s1 σ H1 _ I1 q1) fun iv s2 ⟨y, H2, I2, ry, q2⟩ =>
    Calls.spliced_cons (thn (hf.run pins s2 σ H2 _ I2 q2) fun fv s3 ⟨z, H3, I3, rz, x0, r, ey, hr, q3⟩ => Calls.spliced_nil ?_))))
  subst ey
  obtain ⟨t, rfl⟩ := (show ∃ t, iv = Value.str x0 t from ry)
  have hm := PySem.W.mapOf_K (prog := X.prog) (w := X.w) I3.kIn hl hk
  have hf := PySem.W.find_K hl hr
  refine call_meetsIn PySem.F.slot_dict_get hm.typeIs PySem.F.entry_dict_get (PySem.F.args_dict_get_3 _ _ _) (meets_dict_get_default (strKind X.prog X.w) p (strKind_is X.prog X.w x0 t) low fv) ⟨_, hm, ?_⟩
  rw [hf]
  cases r with
  | none => exact ⟨z, H3, I3.tok _, rz, q3⟩
  | some u => obtain ⟨v, rv, q⟩ := q3; exact ⟨v, H3, I3.tok _, rv, q⟩
/-! ### a local name that holds a def -/
structure HeldK (P : Program) (w : World) (K : PySem.W.Frag) (mg : Str → Option Value) (base : Heap) (k : Nat) (f : Addr) (sp : Sp) : Prop where
  ex : ∃ (fd : FuncData) (ps : List Str), FnOk P w K mg base CX0 k f fd ps sp ∧ PySem.W.keepIn K (.ref f) = true ∧ Binds K fd ps []
def tCallK (P : Program) (w : World) (K : PySem.W.Frag) (mg : Str → Option Value) (base : Heap) (k i : Nat) (E : XK) (t : TA) : TE := fun σ H Q => ∃ f sp, σ[i]? = some (some (.ref f)) ∧ HeldK P w K mg base k f sp ∧ t σ H fun vs H1 => sp vs H1 Q E
theorem pe_callK {X : Cx} {k i : Nat} {E : XK} {x : Str} {p pos : Pos} {e : Expr} {es : List Expr} {t : TA} (hr : Room k X.A) (hN : X.N[i]? = some x) (hv : Vis X.env.scope x) (ha : PA X (e :: es) t)
    (hdb : (x == ("__debug__" : Str)) = false := by decide) (hcd : (x == ("__classdict__" : Str)) = false := by decide)
    (he : starEach (e :: es) X.env = (false, eval e X.env) :: starEach es X.env := by rfl) (hpl : (backTo pos (starEach es X.env)).any (·.1) = false := by rfl) : PE X (.Call (.Name x p) (e :: es) [] pos) (tCallK X.prog X.w X.K X.mg X.base k i E t) := by
  refine ⟨fun pins s σ H Q I h => ?_⟩
  obtain ⟨f, sp, hs, ⟨⟨fd, ps, F, hk, hb⟩⟩, ht⟩ := h
  refine (pe_callL (i := i) (f := f) (sp := sp) (dvs := []) (E := E) F hr hN hv hk hb .nil (fun _ _ _ _ _ _ _ z => z.elim) ha hdb hcd he hpl).run pins s σ H Q I ⟨hs, ?_⟩
  have e0 : (fun (vs : List V) (H1 : Hp) => sp (vs ++ []) H1 Q E) = fun vs H1 => sp vs H1 Q E := by
    funext vs H1
    rw [List.append_nil]
  show t σ H (fun vs H1 => sp (vs ++ []) H1 Q E)
  rw [e0]
  exact ht
theorem FnOk.weakK {P : Program} {w : World} {K : PySem.W.Frag} {mg : Str → Option Value} {base : Heap} {CX : CXT} {k : Nat} {f : Addr} {fd : FuncData} {ps : List Str} {sp sp' : Sp} (F : FnOk P w K mg base CX k f fd ps sp) (h : ∀ vs H Q E, sp' vs H Q E → sp vs H Q E) :
    FnOk P w K mg base CX k f fd ps sp' := ⟨fun vs H Q E q => F.len vs H Q E (h _ _ _ _ q), fun A outer s H args us vs Q E hr e b v q => F.run A outer s H args us vs Q E hr e b v (h _ _ _ _ q)⟩

/-! ### how the heap bears it -/
theorem iteN {c A B : Prop} [Decidable c] (h : ¬ c) (b : B) : if c then A else B := by
  rw [if_neg h]
  exact b
theorem iteY {c A B : Prop} [Decidable c] (h : c) (a : A) : if c then A else B := by
  rw [if_pos h]
  exact a
theorem fk_lb : ¬ (("level" : Str) = "barred") := by decide +kernel
theorem fk_ln : ¬ (("level" : Str) = "names") := by decide +kernel
theorem fk_bn : ¬ (("barred" : Str) = "names") := by decide +kernel
theorem fk_rl : ¬ (("rows" : Str) = "loose") := by decide +kernel
theorem fk_rk : ¬ (("rows" : Str) = "known") := by decide +kernel
theorem fk_lk : ¬ (("loose" : Str) = "known") := by decide +kernel
theorem putG_few {f : Str} {v : V} {fs : List (Str × V)} {n : Nat} (h : fs.length ≤ n) (l : n + 1 < 1000 := by decide) : (putF f v fs).length < 1000 := by have := length_putF f v fs; omega
def af (l b n : V) : List (Str × V) := putF "names" n (putF "barred" b (putF "level" l []))
theorem af_level (l b n : V) : (af l b n).lookup ("level" : Str) = some l := by
  unfold af
  rw [lookup_putF, if_neg fk_ln, lookup_putF, if_neg fk_lb, lookup_putF, if_pos rfl]
theorem af_barred (l b n : V) : (af l b n).lookup ("barred" : Str) = some b := by
  unfold af
  rw [lookup_putF, if_neg fk_bn, lookup_putF, if_pos rfl]
theorem af_names (l b n : V) : (af l b n).lookup ("names" : Str) = some n := by
  unfold af
  rw [lookup_putF, if_pos rfl]
theorem af_no (l b n : V) {m : Str} (h1 : ¬ m = "names") (h2 : ¬ m = "barred") (h3 : ¬ m = "level") : (af l b n).lookup m = none := by
  unfold af
  rw [lookup_putF, if_neg h1, lookup_putF, if_neg h2, lookup_putF, if_neg h3]
  rfl
def kf (R S D : Addr) : List (Str × V) := putF "known" (.ref D) (putF "loose" (.ref S) (putF "rows" (.ref R) []))
theorem kf_rows (R S D : Addr) : (kf R S D).lookup ("rows" : Str) = some (.ref R) := by
  unfold kf
  rw [lookup_putF, if_neg fk_rk, lookup_putF, if_neg fk_rl, lookup_putF, if_pos rfl]
theorem kf_loose (R S D : Addr) : (kf R S D).lookup ("loose" : Str) = some (.ref S) := by
  unfold kf
  rw [lookup_putF, if_neg fk_lk, lookup_putF, if_pos rfl]
theorem kf_known (R S D : Addr) : (kf R S D).lookup ("known" : Str) = some (.ref D) := by
  unfold kf
  rw [lookup_putF, if_pos rfl]
theorem kf_no (R S D : Addr) {m : Str} (h1 : ¬ m = "known") (h2 : ¬ m = "loose") (h3 : ¬ m = "rows") : (kf R S D).lookup m = none := by
  unfold kf
  rw [lookup_putF, if_neg h1, lookup_putF, if_neg h2, lookup_putF, if_neg h3]
  rfl
/-- at D stands a dict -/
def Nd (H : Hp) (D : Addr) : Prop := ∃ o, H D = some o ∧ (∀ ys, o ≠ .lst ys) ∧ (∀ ys, o ≠ .tup ys) ∧ ∀ c d f, o ≠ .ins c d f
theorem Nd.lst {H : Hp} {D b : Addr} {ys : List V} (n : Nd H D) (h : H b = some (.lst ys)) : b ≠ D := fun e => by
  obtain ⟨o, h1, h2, _⟩ := n
  rw [e, h1] at h
  exact h2 _ (Option.some.inj h)
theorem Nd.tup {H : Hp} {D b : Addr} {ys : List V} (n : Nd H D) (h : H b = some (.tup ys)) : b ≠ D := fun e => by
  obtain ⟨o, h1, _, h2, _⟩ := n
  rw [e, h1] at h
  exact h2 _ (Option.some.inj h)
theorem Nd.ins {H : Hp} {D b c d : Addr} {f : List (Str × V)} (n : Nd H D) (h : H b = some (.ins c d f)) : b ≠ D := fun e => by
  obtain ⟨o, h1, _, _, h2⟩ := n
  rw [e, h1] at h
  exact h2 _ _ _ (Option.some.inj h)
theorem Nd.tups {H H' : Hp} {D : Addr} (n : Nd H D) (b : But D H H') : Tups H H' := fun a ys h => b a _ (n.tup h) h
theorem IsEx.nd {P : Program} {w : World} {H : Hp} {D : Addr} {xs : KE} (h : IsEx P w H D xs) : Nd H D := by
  rcases h with h | ⟨h, _⟩
  · exact ⟨_, h, fun ys z => (by unfold rawE at z; cases z), fun ys z => (by unfold rawE at z; cases z), fun c d f z => (by unfold rawE at z; cases z)⟩
  · exact ⟨_, h, fun ys z => (by cases z), fun ys z => (by cases z), fun c d f z => (by cases z)⟩
def RowK (H : Hp) (R : Addr) (ts : List Tm) : Prop := ∃ rs : List V, H R = some (.lst rs) ∧ rs.length = ts.length ∧ ∀ (i : Nat) (t : Tm), ts[i]? = some t →
  ∃ (r h pl : Addr) (ps : List Nat), rs[i]? = some (.ref r) ∧ H r = some (.tup [.ref h, .ref pl]) ∧ H h = some (.tup t.head) ∧ H pl = some (.lst (nats ps)) ∧ PlacesOf ts i t.parts ps
theorem RowsAt.rowK {H : Hp} {R : Addr} {ts : List Tm} {Ps : List Addr} (h : RowsAt H R ts Ps) : RowK H R ts := by
  obtain ⟨rs, h1, h2, h3⟩ := h
  refine ⟨rs, h1, h2, fun i t hi => ?_⟩
  obtain ⟨r, h, pl, ps, a1, a2, a3, a4, _, a6⟩ := h3 i t hi
  exact ⟨r, h, pl, ps, a1, a2, a3, a4, a6⟩
theorem RowK.but {H H' : Hp} {R D : Addr} {ts : List Tm} (n : Nd H D) (b : But D H H') (h : RowK H R ts) : RowK H' R ts := by
  obtain ⟨rs, h1, h2, h3⟩ := h
  refine ⟨rs, b _ _ (n.lst h1) h1, h2, fun i t hi => ?_⟩
  obtain ⟨r, h, pl, ps, a1, a2, a3, a4, a6⟩ := h3 i t hi
  exact ⟨r, h, pl, ps, a1, b _ _ (n.tup a2) a2, b _ _ (n.tup a3) a3, b _ _ (n.lst a4) a4, a6⟩
def LsAt (H : Hp) (ws : List V) (ts : List Tm) : Prop := ws.length = ts.length ∧ ∀ (i : Nat) (t : Tm), ts[i]? = some t → ∃ a, ws[i]? = some (.ref a) ∧ H a = some (.lst (t.loose.map V.str))
theorem LsAt.but {H H' : Hp} {D : Addr} {ws : List V} {ts : List Tm} (n : Nd H D) (b : But D H H') (h : LsAt H ws ts) : LsAt H' ws ts := ⟨h.1, fun i t hi => by
  obtain ⟨a, h1, h2⟩ := h.2 i t hi
  exact ⟨a, h1, b _ _ (n.lst h2) h2⟩⟩
/-- an entry of the memo tells right -/
def Tells (ts : List Tm) (x : NestedKey × Addr × V) : Prop := ∃ (p : Nat) (t : Tm) (l b k : Bool) (ms : List NestedKey), x.1 = keyOf p l b ms ∧ ts[p]? = some t ∧ x.2.2 = .str (kindS k) ∧ ∀ E : Env, (t.loose.map fun x => entK (E x)) = ms → kd t l E (!b) = .ok k
structure KI (P : Program) (w : World) (CK : Addr) (H : Hp) (kb R S D : Addr) (ts : List Tm) (c : Nat) : Prop where
  ins : ∃ dx, H kb = some (.ins CK dx (kf R S D))
  rows : RowK H R ts
  loose : ∃ ws, H S = some (.lst ws) ∧ LsAt H ws ts
  few : ts.length ≤ 900000 ∧ ∀ u ∈ ts, u.size ≤ 900000
  memo : ∃ xs, IsEx P w H D xs ∧ KsAt H xs ∧ xs.length ≤ c ∧ ∀ x ∈ xs, Tells ts x
section
variable {P : Program} {w : World} {CK CA : Addr} {H H' : Hp} {kb R S D : Addr} {ts : List Tm} {c c' : Nat}
theorem KI.nd (h : KI P w CK H kb R S D ts c) : Nd H D := by
  obtain ⟨xs, h1, _⟩ := h.memo
  exact h1.nd
theorem KI.keep (h : KI P w CK H kb R S D ts c) (b : But D H H') (m : ∃ xs, IsEx P w H' D xs ∧ KsAt H' xs ∧ xs.length ≤ c' ∧ ∀ x ∈ xs, Tells ts x) : KI P w CK H' kb R S D ts c' where
  ins := by
    obtain ⟨dx, z⟩ := h.ins
    exact ⟨dx, b _ _ (h.nd.ins z) z⟩
  rows := h.rows.but h.nd b
  loose := by
    obtain ⟨ws, z, y⟩ := h.loose
    exact ⟨ws, b _ _ (h.nd.lst z) z, y.but h.nd b⟩
  few := h.few
  memo := m
theorem KsAt.mono {xs : KE} (e : Tups H H') (h : KsAt H xs) : KsAt H' xs := fun x hx => ⟨KyAt.mono e _ _ (h x hx).1, (h x hx).2⟩
theorem IsEx.keep {xs : KE} (h : IsEx P w H D xs) (e : ∀ o, H D = some o → H' D = some o) : IsEx P w H' D xs := by
  rcases h with h | ⟨h, z⟩
  · exact .inl (e _ h)
  · exact .inr ⟨e _ h, z⟩
theorem KI.same (h : KI P w CK H kb R S D ts c) (e : Same H H') : KI P w CK H' kb R S D ts c := by
  obtain ⟨xs, h1, h2, h3, h4⟩ := h.memo
  exact h.keep (.of_same e) ⟨xs, h1.keep fun o z => e _ _ z, h2.mono (.of_same e), h3, h4⟩
theorem KI.more (h : KI P w CK H kb R S D ts c) (l : c ≤ c') : KI P w CK H kb R S D ts c' := by
  obtain ⟨xs, h1, h2, h3, h4⟩ := h.memo
  exact h.keep (.refl _ _) ⟨xs, h1, h2, Nat.le_trans h3 l, h4⟩
/-- what stands around a term -/
def Names (H : Hp) (kvs : List (Key × V)) (E : Env) : Prop := ∀ x, match E x with
  | none => valV kvs (.inr x) = none
  | some u => ∃ p, valV kvs (.inr x) = some (.ref p) ∧ H p = some (.tup (mean u))
def Ard (CA : Addr) (H : Hp) (D r : Addr) (l b : Bool) (E : Env) (e : Nat) : Prop := ∃ (dx nd : Addr) (kvs : List (Key × V)), H r = some (.ins CA dx (af (.int (lvI l)) (.bl b) (.ref nd))) ∧ nd ≠ D ∧ H nd = some (.dK kvs) ∧ kvs.length ≤ e ∧ Names H kvs E
theorem Names.mono {kvs : List (Key × V)} {E : Env} (t : Tups H H') (h : Names H kvs E) : Names H' kvs E := fun x => by
  have z := h x
  cases e : E x with
  | none => rw [e] at z; exact z
  | some u => rw [e] at z; obtain ⟨p, z1, z2⟩ := z; exact ⟨p, z1, t _ _ z2⟩
theorem Ard.but {r : Addr} {l b : Bool} {E : Env} {e : Nat} (n : Nd H D) (k : But D H H') (h : Ard CA H D r l b E e) : Ard CA H' D r l b E e := by
  obtain ⟨dx, nd, kvs, h1, h2, h3, h4, h5⟩ := h
  exact ⟨dx, nd, kvs, k _ _ (n.ins h1) h1, h2, k _ _ h2 h3, h4, h5.mono (n.tups k)⟩
theorem Ard.same {r : Addr} {l b : Bool} {E : Env} {e : Nat} (k : Same H H') (h : Ard CA H D r l b E e) : Ard CA H' D r l b E e := by
  obtain ⟨dx, nd, kvs, h1, h2, h3, h4, h5⟩ := h
  exact ⟨dx, nd, kvs, k _ _ h1, h2, k _ _ h3, h4, h5.mono (.of_same k)⟩
theorem Ard.more {r : Addr} {l b : Bool} {E : Env} {e e' : Nat} (h : Ard CA H D r l b E e) (k : e ≤ e') : Ard CA H D r l b E e' := by
  obtain ⟨dx, nd, kvs, h1, h2, h3, h4, h5⟩ := h
  exact ⟨dx, nd, kvs, h1, h2, h3, Nat.le_trans h4 k, h5⟩
theorem Names.set {kvs : List (Key × V)} {E : Env} {x : Str} {u : Ent} {p : Addr} (t : Tups H H') (h : Names H kvs E) (hp : H' p = some (.tup (mean u))) : Names H' (putK kvs (.inr x) (.ref p)) (E.set x u) := fun y => by
  have z := h.mono t y
  unfold Env.set
  by_cases e : y = x
  · rw [if_pos e]
    show ∃ p, _ ∧ _
    rw [valV_put, if_pos (by rw [e])]
    exact ⟨p, rfl, hp⟩
  · rw [if_neg e]
    have e' : ¬ (Sum.inr y : Key) = Sum.inr x := fun q => e (Sum.inr.inj q)
    rw [valV_put, if_neg e']
    exact z
end
structure TcA (K : PySem.W.Frag) (C : Addr) : Prop where
  cl : Cls K C
  nL : NoAttr K C "level"
  nB : NoAttr K C "barred"
  nN : NoAttr K C "names"
structure TcK (K : PySem.W.Frag) (C : Addr) : Prop where
  cl : Cls K C
  nR : NoAttr K C "rows"
  nL : NoAttr K C "loose"
  nK : NoAttr K C "known"
def spArInit (CA : Addr) : Sp := fun vs H Q _ => ∃ (p dx : Addr) (a b c : V), vs = [.ref p, a, b, c] ∧ H p = some (.ins CA dx []) ∧ ∀ H', (∀ b, b ≠ p → H' b = H b) → H' p = some (.ins CA dx (af a b c)) → Q .non H'
def spIn (CA : Addr) (lv : Bool) : Sp := fun vs H Q _ => ∃ (r D : Addr) (l b : Bool) (E : Env) (e : Nat), vs = [.ref r] ∧ Ard CA H D r l b E e ∧ Nd H D ∧ ∀ r' H', Same H H' → Ard CA H' D r' lv true E e → Q (.ref r') H'
def spWithV (CA : Addr) : Sp := fun vs H Q _ => ∃ (r D : Addr) (l b k : Bool) (E : Env) (e : Nat) (x : Str), vs = [.ref r, .str x, .str (kindS k)] ∧ Ard CA H D r l b E e ∧ e ≤ 100000 ∧ Nd H D ∧ ∀ r' H', Same H H' → Ard CA H' D r' l b (E.set x ⟨l, none, k⟩) (e + 1) → Q (.ref r') H'
def spInF (CA : Addr) : Sp := fun vs H Q _ => ∃ (r D : Addr) (l b k : Bool) (E : Env) (e : Nat) (x : Str), vs = [.ref r, .str x, .str (kindS k)] ∧ Ard CA H D r l b E e ∧ e ≤ 100000 ∧ Nd H D ∧ ∀ r' H', Same H H' → Ard CA H' D r' l true (E.set x ⟨l, none, k⟩) (e + 1) → Q (.ref r') H'
def spWithF (CA : Addr) : Sp := fun vs H Q _ => ∃ (r D : Addr) (l b d k : Bool) (E : Env) (e : Nat) (x : Str), vs = [.ref r, .str x, .str (kindS d), .str (kindS k)] ∧ Ard CA H D r l b E e ∧ e ≤ 100000 ∧ Nd H D ∧ ∀ r' H', Same H H' → Ard CA H' D r' l b (E.set x ⟨l, some d, k⟩) (e + 1) → Q (.ref r') H'
def spMeaning (CA : Addr) : Sp := fun vs H Q _ => ∃ (r D : Addr) (l b : Bool) (E : Env) (e : Nat) (x : Str) (u : Ent), vs = [.ref r, .str x] ∧ Ard CA H D r l b E e ∧ E x = some u ∧ u.lv = l ∧ ∀ p, H p = some (.tup (mean u)) → Q (.ref p) H
abbrev s_Around_init : Stmt := inClass (topS 19) 0
theorem sc_Around_init : FnScope ["self", "level", "barred", "names"] ["self", "level", "barred", "names"] (defScope s_Around_init) := ⟨rfl, rfl, rfl, by decide +kernel, rfl, by decide +kernel, by decide +kernel⟩
abbrev s_Around_within_quote : Stmt := inClass (topS 19) 1
theorem sc_Around_within_quote : FnScope ["self"] ["self"] (defScope s_Around_within_quote) := ⟨rfl, rfl, rfl, by decide +kernel, rfl, by decide +kernel, by decide +kernel⟩
abbrev s_Around_within_hole : Stmt := inClass (topS 19) 2
theorem sc_Around_within_hole : FnScope ["self"] ["self"] (defScope s_Around_within_hole) := ⟨rfl, rfl, rfl, by decide +kernel, rfl, by decide +kernel, by decide +kernel⟩
abbrev s_Around_with_value : Stmt := inClass (topS 19) 3
theorem sc_Around_with_value : FnScope ["self", "name", "kind"] ["self", "name", "kind"] (defScope s_Around_with_value) := ⟨rfl, rfl, rfl, by decide +kernel, rfl, by decide +kernel, by decide +kernel⟩
abbrev s_Around_with_function : Stmt := inClass (topS 19) 4
theorem sc_Around_with_function : FnScope ["self", "name", "wanted", "kind"] ["self", "name", "wanted", "kind"] (defScope s_Around_with_function) := ⟨rfl, rfl, rfl, by decide +kernel, rfl, by decide +kernel, by decide +kernel⟩
abbrev s_Around_within_function : Stmt := inClass (topS 19) 5
theorem sc_Around_within_function : FnScope ["self", "name", "kind"] ["self", "name", "kind"] (defScope s_Around_within_function) := ⟨rfl, rfl, rfl, by decide +kernel, rfl, by decide +kernel, by decide +kernel⟩
abbrev s_Around_meaning_of : Stmt := inClass (topS 19) 6
theorem sc_Around_meaning_of : FnScope ["self", "name", "meaning"] ["self", "name"] (defScope s_Around_meaning_of) := ⟨rfl, rfl, rfl, by decide +kernel, rfl, by decide +kernel, by decide +kernel⟩
section
variable {P : Program} {w : World} {K : PySem.W.Frag} {mg : Str → Option Value} {base : Heap} {CA f f1 f2 f3 f4 f5 f6 f7 f8 : Addr} {fd fd1 fd2 fd3 fd4 fd5 fd6 fd7 fd8 : FuncData}
theorem ok_ar_init (F : Fun K "__init__" "Around.__init__" s_Around_init f fd) (TC_Around : TcA K CA) : FnOk P w K mg base CX0 1 f fd ["self", "level", "barred", "names"] (spArInit CA) := by
  refine F.ok sc_Around_init (fun vs H Q E h => ?_) (fun cdv A outer s H vs Q E hr h => ?_)
  · obtain ⟨p, dx, a, b, c, rfl, _⟩ := h
    rfl
  obtain ⟨p, dx, a, b, c, rfl, hp, q⟩ := h
  refine ⟨_, (pss_cons (ps_fld (pv 0) (pv 1) rfl)
      (pss_cons (ps_fld (pv 0) (pv 2) rfl)
      (pss_one (ps_fld (pv 0) (pv 3) rfl)))), ?_⟩
  refine ⟨_, rfl, _, rfl, p, CA, dx, _, rfl, hp, TC_Around.cl, TC_Around.nL, by show 0 < 1000; decide, ?_⟩
  refine ⟨_, rfl, _, rfl, p, CA, dx, _, rfl, upd_same, TC_Around.cl, TC_Around.nB, putG_few (n := 0) (Nat.le_refl _), ?_⟩
  refine ⟨_, rfl, _, rfl, p, CA, dx, _, rfl, upd_same, TC_Around.cl, TC_Around.nN, putG_few (n := 1) (length_putF _ _ _), ?_⟩
  exact q _ (fun b n => by rw [upd_ne n, upd_ne n, upd_ne n]) upd_same
/-- a new object: what stood there stands -/
theorem made_same {H H' : Hp} {p dx C : Addr} (np : H p = none) (nd : H dx = none) (k : ∀ b, b ≠ p → H' b = upd (upd H dx (.own p)) p (.ins C dx []) b) : Same H H' := fun b o z => by
  have b1 := ne_of_none z np
  rw [k b b1, upd_ne b1, upd_ne (ne_of_none z nd)]
  exact z
theorem ard_made {H H1 : Hp} {nd D : Addr} {kvs : List (Key × V)} {l b : Bool} {E : Env} {e : Nat} {Q : VK} (g : Same H H1) (h3 : H1 nd = some (.dK kvs)) (h4 : kvs.length ≤ e) (h5 : Names H1 kvs E) (h2 : nd ≠ D)
    (q : ∀ r' H', Same H H' → Ard CA H' D r' l b E e → Q (.ref r') H') : ∀ x dx, H1 x = none → H1 dx = none → dx ≠ x → spArInit CA (.ref x :: ([.int (lvI l), .bl b, .ref nd] ++ [])) (upd (upd H1 dx (.own x)) x (.ins CA dx [])) (fun v H2 => v = .non ∧ Q (.ref x) H2) E0 := by
  intro x dx nx ndx ne
  refine ⟨x, dx, _, _, _, rfl, upd_same, fun H' k hx => ⟨rfl, ?_⟩⟩
  have s := made_same nx ndx k
  exact q x H' (g.trans s) ⟨dx, nd, kvs, hx, h2, s _ _ h3, h4, h5.mono (.of_same s)⟩
theorem star_end {H : Hp} {p q0 pt : Addr} {kvs : List (Key × V)} {k : Key} {z : V} {o : List V} (np : H p = none) (nq : upd (upd H p (.dK [])) p (.dK kvs) q0 = none) (nt : upd (upd (upd H p (.dK [])) p (.dK kvs)) q0 (.dK []) pt = none) :
    Same H (upd (upd (upd (upd (upd (upd H p (.dK [])) p (.dK kvs)) q0 (.dK [])) pt (.tup o)) q0 (.dK [(k, z)])) p (.dK (putK kvs k z))) ∧ upd (upd (upd (upd (upd (upd H p (.dK [])) p (.dK kvs)) q0 (.dK [])) pt (.tup o)) q0 (.dK [(k, z)])) p (.dK (putK kvs k z)) pt = some (.tup o) ∧
    upd (upd (upd (upd H p (.dK [])) p (.dK kvs)) q0 (.dK [])) pt (.tup o) p = some (.dK kvs) ∧ upd (upd (upd (upd H p (.dK [])) p (.dK kvs)) q0 (.dK [])) pt (.tup o) q0 = some (.dK []) := by
  have n1 : q0 ≠ p := fun e => by rw [e, upd_same] at nq; cases nq
  have n2 : pt ≠ q0 := fun e => by rw [e, upd_same] at nt; cases nt
  have n3 : pt ≠ p := fun e => by rw [e, upd_ne n1.symm, upd_same] at nt; cases nt
  have hq : H q0 = none := by rw [upd_ne n1, upd_ne n1] at nq; exact nq
  have ht : H pt = none := by rw [upd_ne n2, upd_ne n3, upd_ne n3] at nt; exact nt
  refine ⟨fun b u h => ?_, ?_, ?_, ?_⟩
  · have b1 := ne_of_none h np
    have b2 := ne_of_none h hq
    have b3 := ne_of_none h ht
    rw [upd_ne b1, upd_ne b2, upd_ne b3, upd_ne b2, upd_ne b1, upd_ne b1]
    exact h
  · rw [upd_ne n3, upd_ne n2, upd_same]
  · rw [upd_ne n3.symm, upd_ne n1.symm, upd_same]
  · rw [upd_ne n2.symm, upd_same]
theorem szE {n : Nat} (h : n ≤ 100000) : n < sizeLine := Nat.lt_of_le_of_lt h (by decide)
theorem ok_within_quote (F : Fun K "within_quote" "Around.within_quote" s_Around_within_quote f fd) (TC_Around : TcA K CA) (MK_Around : CalC P w K mg base "Around" CA ["self", "level", "barred", "names"] 1 (spArInit CA) f1 fd1) : FnOk P w K mg base CX0 3 f fd ["self"] (spIn CA true) := by
  refine F.ok sc_Around_within_quote (fun vs H Q E h => ?_) (fun cdv A outer s H vs Q E hr h => ?_)
  · obtain ⟨r, D, l, b, E, e, rfl, _⟩ := h
    rfl
  obtain ⟨r, D, l, b, E, e, rfl, ⟨dx, nd, kvs, h1, h2, h3, h4, h5⟩, hn, q⟩ := h
  refine ⟨_, (pss_one (ps_ret (pe_make MK_Around.mkr MK_Around.ok (hr.mono (by first | decide | omega)) rfl MK_Around.m MK_Around.b .nil pass0 (pa_cons pe_int (pa_cons pe_bl (pa_cons (pe_fld (pv 0) rfl) pa_nil)))))), ?_⟩
  refine ⟨_, rfl, r, CA, dx, _, _, rfl, h1, TC_Around.cl, TC_Around.nN, af_names _ _ _, ?_⟩
  exact ard_made (Same.refl _) h3 h4 h5 h2 q
theorem ok_within_hole (F : Fun K "within_hole" "Around.within_hole" s_Around_within_hole f fd) (TC_Around : TcA K CA) (MK_Around : CalC P w K mg base "Around" CA ["self", "level", "barred", "names"] 1 (spArInit CA) f1 fd1) : FnOk P w K mg base CX0 3 f fd ["self"] (spIn CA false) := by
  refine F.ok sc_Around_within_hole (fun vs H Q E h => ?_) (fun cdv A outer s H vs Q E hr h => ?_)
  · obtain ⟨r, D, l, b, E, e, rfl, _⟩ := h
    rfl
  obtain ⟨r, D, l, b, E, e, rfl, ⟨dx, nd, kvs, h1, h2, h3, h4, h5⟩, hn, q⟩ := h
  refine ⟨_, (pss_one (ps_ret (pe_make MK_Around.mkr MK_Around.ok (hr.mono (by first | decide | omega)) rfl MK_Around.m MK_Around.b .nil pass0 (pa_cons pe_int (pa_cons pe_bl (pa_cons (pe_fld (pv 0) rfl) pa_nil)))))), ?_⟩
  refine ⟨_, rfl, r, CA, dx, _, _, rfl, h1, TC_Around.cl, TC_Around.nN, af_names _ _ _, ?_⟩
  exact ard_made (Same.refl _) h3 h4 h5 h2 q
theorem ok_with_value (F : Fun K "with_value" "Around.with_value" s_Around_with_value f fd) (TC_Around : TcA K CA) (MK_Around : CalC P w K mg base "Around" CA ["self", "level", "barred", "names"] 1 (spArInit CA) f1 fd1) : FnOk P w K mg base CX0 3 f fd ["self", "name", "kind"] (spWithV CA) := by
  refine F.ok sc_Around_with_value (fun vs H Q E h => ?_) (fun cdv A outer s H vs Q E hr h => ?_)
  · obtain ⟨r, D, l, b, k, E, e, x, rfl, _⟩ := h
    rfl
  obtain ⟨r, D, l, b, k, E, e, x, rfl, ⟨dx, nd, kvs, h1, h2, h3, h4, h5⟩, he, hn, q⟩ := h
  refine ⟨_, (pss_one (ps_ret (pe_make MK_Around.mkr MK_Around.ok (hr.mono (by first | decide | omega)) rfl MK_Around.m MK_Around.b .nil pass0 (pa_cons (pe_fld (pv 0) rfl) (pa_cons (pe_fld (pv 0) rfl) (pa_cons (pe_star (pe_fld (pv 0) rfl) (pv 1) (pe_tup (pa_cons pe_str (pa_cons (pe_fld (pv 0) rfl) (pa_cons (pv 2) pa_nil))))) pa_nil)))))), ?_⟩
  refine ⟨_, rfl, r, CA, dx, _, _, rfl, h1, TC_Around.cl, TC_Around.nL, af_level _ _ _, _, rfl, r, CA, dx, _, _, rfl, h1, TC_Around.cl, TC_Around.nB, af_barred _ _ _, fun p np => ?_⟩
  have s1 := same_new np (.dK [])
  refine ⟨_, rfl, r, CA, dx, _, _, rfl, s1 _ _ h1, TC_Around.cl, TC_Around.nN, af_names _ _ _, nd, kvs, rfl, (ne_of_none h3 np).symm, s1 _ _ h3, upd_same, szE (by omega), fun q0 nq => ?_⟩
  have n1 : q0 ≠ p := fun z => by rw [z, upd_same] at nq; cases nq
  have hq : H q0 = none := by rw [upd_ne n1, upd_ne n1] at nq; exact nq
  have h1' : upd (upd (upd H p (.dK [])) p (.dK kvs)) q0 (.dK []) r = some (.ins CA dx (af (.int (lvI l)) (.bl b) (.ref nd))) := by rw [upd_ne (ne_of_none h1 hq), upd_ne (ne_of_none h1 np), upd_ne (ne_of_none h1 np)]; exact h1
  refine ⟨_, rfl, _, rfl, r, CA, dx, _, _, rfl, h1', TC_Around.cl, TC_Around.nL, af_level _ _ _, _, rfl, sz 3, fun pt nt => ?_⟩
  obtain ⟨g, g1, g2, g3⟩ := star_end (o := _) (k := .inr x) (z := .ref pt) np nq nt
  refine ⟨g2, g3, .inr x, rfl, ?_⟩
  have pD : p ≠ D := fun z => by obtain ⟨o, ho, _⟩ := hn; rw [← z, np] at ho; cases ho
  refine ard_made (e := e + 1) g upd_same (by have := length_putK kvs (.inr x) (.ref pt); omega) ?_ pD q
  exact h5.set (.of_same g) g1
theorem ok_with_function (F : Fun K "with_function" "Around.with_function" s_Around_with_function f fd) (TC_Around : TcA K CA) (MK_Around : CalC P w K mg base "Around" CA ["self", "level", "barred", "names"] 1 (spArInit CA) f1 fd1) : FnOk P w K mg base CX0 3 f fd ["self", "name", "wanted", "kind"] (spWithF CA) := by
  refine F.ok sc_Around_with_function (fun vs H Q E h => ?_) (fun cdv A outer s H vs Q E hr h => ?_)
  · obtain ⟨r, D, l, b, d, k, E, e, x, rfl, _⟩ := h
    rfl
  obtain ⟨r, D, l, b, d, k, E, e, x, rfl, ⟨dx, nd, kvs, h1, h2, h3, h4, h5⟩, he, hn, q⟩ := h
  refine ⟨_, (pss_one (ps_ret (pe_make MK_Around.mkr MK_Around.ok (hr.mono (by first | decide | omega)) rfl MK_Around.m MK_Around.b .nil pass0 (pa_cons (pe_fld (pv 0) rfl) (pa_cons (pe_fld (pv 0) rfl) (pa_cons (pe_star (pe_fld (pv 0) rfl) (pv 1) (pe_tup (pa_cons pe_str (pa_cons (pe_fld (pv 0) rfl) (pa_cons (pv 2) (pa_cons (pv 3) pa_nil)))))) pa_nil)))))), ?_⟩
  refine ⟨_, rfl, r, CA, dx, _, _, rfl, h1, TC_Around.cl, TC_Around.nL, af_level _ _ _, _, rfl, r, CA, dx, _, _, rfl, h1, TC_Around.cl, TC_Around.nB, af_barred _ _ _, fun p np => ?_⟩
  have s1 := same_new np (.dK [])
  refine ⟨_, rfl, r, CA, dx, _, _, rfl, s1 _ _ h1, TC_Around.cl, TC_Around.nN, af_names _ _ _, nd, kvs, rfl, (ne_of_none h3 np).symm, s1 _ _ h3, upd_same, szE (by omega), fun q0 nq => ?_⟩
  have n1 : q0 ≠ p := fun z => by rw [z, upd_same] at nq; cases nq
  have hq : H q0 = none := by rw [upd_ne n1, upd_ne n1] at nq; exact nq
  have h1' : upd (upd (upd H p (.dK [])) p (.dK kvs)) q0 (.dK []) r = some (.ins CA dx (af (.int (lvI l)) (.bl b) (.ref nd))) := by rw [upd_ne (ne_of_none h1 hq), upd_ne (ne_of_none h1 np), upd_ne (ne_of_none h1 np)]; exact h1
  refine ⟨_, rfl, _, rfl, r, CA, dx, _, _, rfl, h1', TC_Around.cl, TC_Around.nL, af_level _ _ _, _, rfl, _, rfl, sz 4, fun pt nt => ?_⟩
  obtain ⟨g, g1, g2, g3⟩ := star_end (o := _) (k := .inr x) (z := .ref pt) np nq nt
  refine ⟨g2, g3, .inr x, rfl, ?_⟩
  have pD : p ≠ D := fun z => by obtain ⟨o, ho, _⟩ := hn; rw [← z, np] at ho; cases ho
  refine ard_made (e := e + 1) g upd_same (by have := length_putK kvs (.inr x) (.ref pt); omega) ?_ pD q
  exact h5.set (.of_same g) g1
theorem ok_within_function (F : Fun K "within_function" "Around.within_function" s_Around_within_function f fd) (TC_Around : TcA K CA) (MK_Around : CalC P w K mg base "Around" CA ["self", "level", "barred", "names"] 1 (spArInit CA) f1 fd1) : FnOk P w K mg base CX0 3 f fd ["self", "name", "kind"] (spInF CA) := by
  refine F.ok sc_Around_within_function (fun vs H Q E h => ?_) (fun cdv A outer s H vs Q E hr h => ?_)
  · obtain ⟨r, D, l, b, k, E, e, x, rfl, _⟩ := h
    rfl
  obtain ⟨r, D, l, b, k, E, e, x, rfl, ⟨dx, nd, kvs, h1, h2, h3, h4, h5⟩, he, hn, q⟩ := h
  refine ⟨_, (pss_one (ps_ret (pe_make MK_Around.mkr MK_Around.ok (hr.mono (by first | decide | omega)) rfl MK_Around.m MK_Around.b .nil pass0 (pa_cons (pe_fld (pv 0) rfl) (pa_cons pe_bl (pa_cons (pe_star (pe_fld (pv 0) rfl) (pv 1) (pe_tup (pa_cons pe_str (pa_cons (pe_fld (pv 0) rfl) (pa_cons (pv 2) pa_nil))))) pa_nil)))))), ?_⟩
  refine ⟨_, rfl, r, CA, dx, _, _, rfl, h1, TC_Around.cl, TC_Around.nL, af_level _ _ _, fun p np => ?_⟩
  have s1 := same_new np (.dK [])
  refine ⟨_, rfl, r, CA, dx, _, _, rfl, s1 _ _ h1, TC_Around.cl, TC_Around.nN, af_names _ _ _, nd, kvs, rfl, (ne_of_none h3 np).symm, s1 _ _ h3, upd_same, szE (by omega), fun q0 nq => ?_⟩
  have n1 : q0 ≠ p := fun z => by rw [z, upd_same] at nq; cases nq
  have hq : H q0 = none := by rw [upd_ne n1, upd_ne n1] at nq; exact nq
  have h1' : upd (upd (upd H p (.dK [])) p (.dK kvs)) q0 (.dK []) r = some (.ins CA dx (af (.int (lvI l)) (.bl b) (.ref nd))) := by rw [upd_ne (ne_of_none h1 hq), upd_ne (ne_of_none h1 np), upd_ne (ne_of_none h1 np)]; exact h1
  refine ⟨_, rfl, _, rfl, r, CA, dx, _, _, rfl, h1', TC_Around.cl, TC_Around.nL, af_level _ _ _, _, rfl, sz 3, fun pt nt => ?_⟩
  obtain ⟨g, g1, g2, g3⟩ := star_end (o := _) (k := .inr x) (z := .ref pt) np nq nt
  refine ⟨g2, g3, .inr x, rfl, ?_⟩
  have pD : p ≠ D := fun z => by obtain ⟨o, ho, _⟩ := hn; rw [← z, np] at ho; cases ho
  refine ard_made (e := e + 1) g upd_same (by have := length_putK kvs (.inr x) (.ref pt); omega) ?_ pD q
  exact h5.set (.of_same g) g1
theorem ok_meaning_of (F : Fun K "meaning_of" "Around.meaning_of" s_Around_meaning_of f fd) (TC_Around : TcA K CA) : FnOk P w K mg base CX0 1 f fd ["self", "name"] (spMeaning CA) := by
  refine F.ok sc_Around_meaning_of (fun vs H Q E h => ?_) (fun cdv A outer s H vs Q E hr h => ?_)
  · obtain ⟨r, D, l, b, E, e, x, u, rfl, _⟩ := h
    rfl
  obtain ⟨r, D, l, b, E, e, x, u, rfl, ⟨dx, nd, kvs, h1, h2, h3, h4, h5⟩, hu, hl, q⟩ := h
  have z := h5 x
  rw [hu] at z
  obtain ⟨p, hp, hm⟩ := z
  obtain ⟨m0, ms, em, e1⟩ : ∃ m0 ms, mean u = m0 :: .int (lvI l) :: ms ∧ True := by
    unfold mean
    rw [hl]
    cases u.dom with
    | none => exact ⟨_, _, rfl, True.intro⟩
    | some d => exact ⟨_, _, rfl, True.intro⟩
  refine ⟨_, (pss_cons (ps_if (pt_cmp (pc_dnotin (hu_of hr) (pv 1) (pe_fld (pv 0) rfl))) (pss_one ps_never) pss_nil)
      (pss_cons (ps_set (i := 2) sc_Around_meaning_of.nd rfl (Or.inl rfl) (pe_dget (hu_of hr) (pe_fld (pv 0) rfl) (pv 1) (fun _ _ => rfl)))
      (pss_cons (ps_if (pt_cmpR op_ne (pe_ix ix_tup (pv 2) pe_int (fun _ _ => rfl)) (pe_fld (pv 0) rfl) (nomark _)) (pss_one ps_never) pss_nil)
      (pss_one (ps_ret (pv 2)))))), ?_⟩
  refine ⟨_, rfl, _, rfl, r, CA, dx, _, _, rfl, h1, TC_Around.cl, TC_Around.nN, af_names _ _ _, nd, _, rfl, .inl ⟨kvs, .inr x, .inl h3, rfl, hp.symm⟩, _, rfl, iteN (by simp) ?_⟩
  refine ⟨_, rfl, r, CA, dx, _, _, rfl, h1, TC_Around.cl, TC_Around.nN, af_names _ _ _, _, rfl, nd, _, rfl, .inl ⟨kvs, .inr x, .inl h3, rfl, hp.symm⟩, ?_⟩
  have hm2 := hm
  rw [em] at hm2
  refine ⟨_, rfl, p, _, _, _, rfl, rfl, SqT.of hm2, atI_n (n := 1) rfl rfl, _, rfl, r, CA, dx, _, _, rfl, h1, TC_Around.cl, TC_Around.nL, af_level _ _ _, rfl, ?_⟩
  refine ⟨_, rfl, iteN (by simp) ?_⟩
  exact ⟨_, rfl, q p hm⟩
end

/-! ### the kinds of the rows -/
theorem want_ok' {r : Kd} {k j : Bool} (h : r.want k = .ok j) : r = .ok k ∧ j = k := by
  cases r with
  | error e => cases h
  | ok i =>
    unfold Kd.want at h
    dsimp only at h
    by_cases e : i = k
    · rw [if_pos e] at h
      cases h
      exact ⟨by rw [e], rfl⟩
    · rw [if_neg e] at h
      cases h
theorem and_ok' {r : Kd} {f : Bool → Kd} {k : Bool} (h : r.and f = .ok k) : ∃ j, r = .ok j ∧ f j = .ok k := by
  cases r with
  | error e => cases h
  | ok i => exact ⟨i, rfl, h⟩
theorem places1 {ts : List Tm} {i : Nat} {a : Tm} {ps : List Nat} (h : PlacesOf ts i [a] ps) : ∃ p, ps = [p] ∧ ts[p]? = some a := by
  match ps, h with
  | [p], ⟨⟨_, h1⟩, _⟩ => exact ⟨p, rfl, h1⟩
theorem places2 {ts : List Tm} {i : Nat} {a b : Tm} {ps : List Nat} (h : PlacesOf ts i [a, b] ps) : ∃ p q, ps = [p, q] ∧ ts[p]? = some a ∧ ts[q]? = some b := by
  match ps, h with
  | [p, q], ⟨⟨_, h1⟩, ⟨_, h2⟩, _⟩ => exact ⟨p, q, rfl, h1, h2⟩
theorem places3 {ts : List Tm} {i : Nat} {a b c : Tm} {ps : List Nat} (h : PlacesOf ts i [a, b, c] ps) : ∃ p q r, ps = [p, q, r] ∧ ts[p]? = some a ∧ ts[q]? = some b ∧ ts[r]? = some c := by
  match ps, h with
  | [p, q, r], ⟨⟨_, h1⟩, ⟨_, h2⟩, ⟨_, h3⟩, _⟩ => exact ⟨p, q, r, rfl, h1, h2, h3⟩
def spKinInit (P : Program) (w : World) (CK : Addr) : Sp := fun vs H Q _ => ∃ (p dx R : Addr) (ts : List Tm) (Ps : List Addr), vs = [.ref p, .ref R] ∧ H p = some (.ins CK dx []) ∧ RowsAt H R ts Ps ∧ ts.length ≤ 900000 ∧ (∀ u ∈ ts, u.size ≤ 900000) ∧
  ∀ (S D : Addr) (H' : Hp), (∀ b o, b ≠ p → H b = some o → H' b = some o) → KI P w CK H' p R S D ts 0 → H D = none → Q .non H'
def spKind (P : Program) (w : World) (CK CA : Addr) (n : Nat) : Sp := fun vs H Q _ => ∃ (kb R S D r : Addr) (ts : List Tm) (c p : Nat) (t : Tm) (l b k : Bool) (E : Env) (e : Nat), vs = [.ref kb, .int (p : Int), .ref r] ∧ KI P w CK H kb R S D ts c ∧ Ard CA H D r l b E e ∧ ts[p]? = some t ∧
  kd t l E (!b) = .ok k ∧ t.deep ≤ n ∧ c + t.size ≤ 900000 ∧ e + t.deep ≤ 900 ∧ ∀ H', But D H H' → KI P w CK H' kb R S D ts (c + t.size) → Q (.str (kindS k)) H'
def spLooked (P : Program) (w : World) (CK CA : Addr) (n : Nat) : Sp := fun vs H Q _ => ∃ (kb R S D r : Addr) (ts : List Tm) (c p : Nat) (t : Tm) (l b k : Bool) (E : Env) (e : Nat), vs = [.ref kb, .int (p : Int), .ref r] ∧ KI P w CK H kb R S D ts c ∧ Ard CA H D r l b E e ∧ ts[p]? = some t ∧
  kd t l E (!b) = .ok k ∧ t.deep ≤ n + 1 ∧ c + sizes t.parts ≤ 900000 ∧ e + t.deep ≤ 900 ∧ ∀ H', But D H H' → KI P w CK H' kb R S D ts (c + sizes t.parts) → Q (.str (kindS k)) H'
def spWant (P : Program) (w : World) (CK CA : Addr) (n : Nat) : Sp := fun vs H Q _ => ∃ (kb R S D r : Addr) (ts : List Tm) (c p : Nat) (t : Tm) (l b k : Bool) (E : Env) (e : Nat), vs = [.ref kb, .str (kindS k), .int (p : Int), .ref r] ∧ KI P w CK H kb R S D ts c ∧ Ard CA H D r l b E e ∧ ts[p]? = some t ∧
  kd t l E (!b) = .ok k ∧ t.deep ≤ n ∧ c + t.size ≤ 900000 ∧ e + t.deep ≤ 900 ∧ ∀ H', But D H H' → KI P w CK H' kb R S D ts (c + t.size) → Q .non H'
def spLook (P : Program) (w : World) (CK CA : Addr) (n : Nat) (u : W) : Sp := fun vs H Q _ => ∃ (kb R S D r hd pl : Addr) (ts : List Tm) (c i : Nat) (ps : List Nat) (t : Tm) (l b k : Bool) (E : Env) (e : Nat), vs = [.ref kb, .ref hd, .ref pl, .ref r] ∧ t.w = u ∧ KI P w CK H kb R S D ts c ∧ Ard CA H D r l b E e ∧
  H hd = some (.tup t.head) ∧ H pl = some (.lst (nats ps)) ∧ PlacesOf ts i t.parts ps ∧ kd t l E (!b) = .ok k ∧ t.deep ≤ n + 1 ∧ c + sizes t.parts ≤ 900000 ∧ e + t.deep ≤ 900 ∧ ∀ H', But D H H' → KI P w CK H' kb R S D ts (c + sizes t.parts) → Q (.str (kindS k)) H'
structure KLk (K : PySem.W.Frag) (w : World) (mg : Str → Option Value) (FL : W → Addr) (DL DO : Addr) : Prop where
  lev : mg "LEVEL_OF" = some (.ref DL)
  looks : mg "LOOKS" = some (.ref DO)
  wd : WD K w DL
  at' : ∀ u : W, ∃ r, PySem.W.nsIn K DL u.str = some r ∧ match r with
    | none => u ≠ .quote ∧ u ≠ .hole ∧ u ≠ .lift ∧ u ≠ .run
    | some v => (u = .quote ∨ u = .hole ∨ u = .lift ∨ u = .run) ∧ RelV (.int (lvI (decide (u = .hole)))) v
  fn : ∀ u : W, KDct K w DO u.str (.ref (FL u))
abbrev s_Kinds_init : Stmt := inClass (topS 20) 0
theorem sc_Kinds_init : FnScope ["self", "rows"] ["self", "rows"] (defScope s_Kinds_init) := ⟨rfl, rfl, rfl, by decide +kernel, rfl, by decide +kernel, by decide +kernel⟩
abbrev s_Kinds_kind_at : Stmt := inClass (topS 20) 1
theorem sc_Kinds_kind_at : FnScope ["self", "place", "around", "meanings", "key", "name"] ["self", "place", "around"] (defScope s_Kinds_kind_at) := ⟨rfl, rfl, rfl, by decide +kernel, rfl, by decide +kernel, by decide +kernel⟩
abbrev s_Kinds_looked_at : Stmt := inClass (topS 20) 2
theorem sc_Kinds_looked_at : FnScope ["self", "place", "around", "head", "places", "look"] ["self", "place", "around"] (defScope s_Kinds_looked_at) := ⟨rfl, rfl, rfl, by decide +kernel, rfl, by decide +kernel, by decide +kernel⟩
abbrev s_Kinds_want : Stmt := inClass (topS 20) 3
theorem sc_Kinds_want : FnScope ["self", "kind", "place", "around"] ["self", "kind", "place", "around"] (defScope s_Kinds_want) := ⟨rfl, rfl, rfl, by decide +kernel, rfl, by decide +kernel, by decide +kernel⟩
abbrev s_look_at_num : Stmt := topS 21
theorem sc_look_at_num : FnScope ["kinds", "head", "places", "around"] ["kinds", "head", "places", "around"] (defScope s_look_at_num) := ⟨rfl, rfl, rfl, by decide +kernel, rfl, by decide +kernel, by decide +kernel⟩
abbrev s_look_at_name : Stmt := topS 22
theorem sc_look_at_name : FnScope ["kinds", "head", "places", "around", "meaning"] ["kinds", "head", "places", "around"] (defScope s_look_at_name) := ⟨rfl, rfl, rfl, by decide +kernel, rfl, by decide +kernel, by decide +kernel⟩
abbrev s_look_at_numbers : Stmt := topS 23
theorem sc_look_at_numbers : FnScope ["kinds", "head", "places", "around", "place"] ["kinds", "head", "places", "around"] (defScope s_look_at_numbers) := ⟨rfl, rfl, rfl, by decide +kernel, rfl, by decide +kernel, by decide +kernel⟩
abbrev s_look_at_when : Stmt := topS 24
theorem sc_look_at_when : FnScope ["kinds", "head", "places", "around", "kind"] ["kinds", "head", "places", "around"] (defScope s_look_at_when) := ⟨rfl, rfl, rfl, by decide +kernel, rfl, by decide +kernel, by decide +kernel⟩
abbrev s_look_at_let : Stmt := topS 25
theorem sc_look_at_let : FnScope ["kinds", "head", "places", "around", "kind"] ["kinds", "head", "places", "around"] (defScope s_look_at_let) := ⟨rfl, rfl, rfl, by decide +kernel, rfl, by decide +kernel, by decide +kernel⟩
abbrev s_look_at_turns : Stmt := topS 26
theorem sc_look_at_turns : FnScope ["kinds", "head", "places", "around", "kind"] ["kinds", "head", "places", "around"] (defScope s_look_at_turns) := ⟨rfl, rfl, rfl, by decide +kernel, rfl, by decide +kernel, by decide +kernel⟩
abbrev s_look_at_def : Stmt := topS 27
theorem sc_look_at_def : FnScope ["kinds", "head", "places", "around", "kind"] ["kinds", "head", "places", "around"] (defScope s_look_at_def) := ⟨rfl, rfl, rfl, by decide +kernel, rfl, by decide +kernel, by decide +kernel⟩
abbrev s_look_at_use : Stmt := topS 28
theorem sc_look_at_use : FnScope ["kinds", "head", "places", "around", "meaning"] ["kinds", "head", "places", "around"] (defScope s_look_at_use) := ⟨rfl, rfl, rfl, by decide +kernel, rfl, by decide +kernel, by decide +kernel⟩
abbrev s_look_at_quote : Stmt := topS 29
theorem sc_look_at_quote : FnScope ["kinds", "head", "places", "around"] ["kinds", "head", "places", "around"] (defScope s_look_at_quote) := ⟨rfl, rfl, rfl, by decide +kernel, rfl, by decide +kernel, by decide +kernel⟩
abbrev s_look_at_hole : Stmt := topS 30
theorem sc_look_at_hole : FnScope ["kinds", "head", "places", "around"] ["kinds", "head", "places", "around"] (defScope s_look_at_hole) := ⟨rfl, rfl, rfl, by decide +kernel, rfl, by decide +kernel, by decide +kernel⟩
abbrev s_look_at_lift : Stmt := topS 31
theorem sc_look_at_lift : FnScope ["kinds", "head", "places", "around"] ["kinds", "head", "places", "around"] (defScope s_look_at_lift) := ⟨rfl, rfl, rfl, by decide +kernel, rfl, by decide +kernel, by decide +kernel⟩
abbrev s_look_at_run : Stmt := topS 32
theorem sc_look_at_run : FnScope ["kinds", "head", "places", "around"] ["kinds", "head", "places", "around"] (defScope s_look_at_run) := ⟨rfl, rfl, rfl, by decide +kernel, rfl, by decide +kernel, by decide +kernel⟩
section
variable {P : Program} {w : World} {K : PySem.W.Frag} {mg : Str → Option Value} {base : Heap} {CK CA C DL DO f f1 f2 f3 f4 f5 f6 f7 f8 : Addr} {FL : W → Addr} {fd fd1 fd2 fd3 fd4 fd5 fd6 fd7 fd8 : FuncData} {n : Nat}
theorem ok_look_num (F : Fun K "look_at_num" "look_at_num" s_look_at_num f fd) (TC_Kinds : TcK K CK) (TC_Around : TcA K CA) : FnOk P w K mg base CX0 (4 * n + 4) f fd ["kinds", "head", "places", "around"] (spLook P w CK CA n .num) := by
  refine F.ok (k := 4 * n + 3) sc_look_at_num (fun vs H Q E h => ?_) (fun cdv A outer s H vs Q E hr h => ?_)
  · obtain ⟨kb, R, S, D, r, hd, pl, ts, c, i, ps, t, l, b, k, E, e, rfl, _⟩ := h
    rfl
  obtain ⟨kb, R, S, D, r, hd, pl, ts, c, i, ps, t, l, b, k, E, e, rfl, hw, hK, hA, hh, hp, hps, hk, hdp, hc, he, q⟩ := h
  obtain ⟨m, rfl⟩ := w_num hw
  cases hk
  refine ⟨_, (pss_one (ps_ret pe_str)), ?_⟩
  exact q H (.refl _ _) (hK.more (by omega))
theorem ok_look_quote (F : Fun K "look_at_quote" "look_at_quote" s_look_at_quote f fd) (TC_Kinds : TcK K CK) (TC_Around : TcA K CA) (C_want : CalM P w K mg base CK "want" ["self", "kind", "place", "around"] (4 * n + 3) (spWant P w CK CA n) f1 fd1) (C_within_quote : CalM P w K mg base CA "within_quote" ["self"] 3 (spIn CA true) f3 fd3) : FnOk P w K mg base CX0 (4 * n + 4) f fd ["kinds", "head", "places", "around"] (spLook P w CK CA n .quote) := by
  refine F.ok (k := 4 * n + 3) sc_look_at_quote (fun vs H Q E h => ?_) (fun cdv A outer s H vs Q E hr h => ?_)
  · obtain ⟨kb, R, S, D, r, hd, pl, ts, c, i, ps, t, l, b, k, E, e, rfl, _⟩ := h
    rfl
  obtain ⟨kb, R, S, D, r, hd, pl, ts, c, i, ps, t, l, b, k, E, e, rfl, hw, hK, hA, hh, hp, hps, hk, hdp, hc, he, q⟩ := h
  obtain ⟨a, rfl⟩ := w_un (o := .quote) hw
  obtain ⟨p0, rfl, h0⟩ := places1 hps
  have hs : sizes (Tm.un .quote a).parts = a.size := by simp [Tm.parts, sizes]
  rw [hs] at hc q
  simp only [Tm.deep] at hdp he
  have ⟨h1, ek⟩ : kd a true E false = .ok false ∧ k = true := by
    simp only [kd] at hk
    split at hk
    · cases hk
    · obtain ⟨_, z1, z2⟩ := and_ok' hk
      cases z2
      exact ⟨(want_ok' z1).1, rfl⟩
  subst ek
  obtain ⟨dx, hkb⟩ := hK.ins
  have hn := hK.nd
  obtain ⟨ax, nd, kvs, ha, _⟩ := id hA
  refine ⟨_, (pss_cons (ps_expr (pe_meth (pv 0) TC_Kinds.cl C_want.m C_want.ok (hr.mono (by first | decide | omega)) C_want.b .nil pass0 (pa_cons pe_str (pa_cons (pe_ix ix_list (pv 2) pe_int (fun _ _ => rfl)) (pa_cons (pe_meth0 (pv 3) TC_Around.cl C_within_quote.m C_within_quote.ok (hr.mono (by first | decide | omega)) C_within_quote.b .nil pass0) pa_nil)))))
      (pss_one (ps_ret pe_str))), ?_⟩
  refine ⟨_, rfl, kb, dx, _, rfl, hkb, kf_no _ _ _ (by decide +kernel) (by decide +kernel) (by decide +kernel), _, rfl, pl, _, _, _, rfl, rfl, SqL.of hp, atI_n (n := 0) rfl rfl, _, rfl, r, ax, _, rfl, ha, af_no _ _ _ (by decide +kernel) (by decide +kernel) (by decide +kernel), r, D, l, b, E, e, rfl, hA, hn, fun r1 H1 g hA1 => ?_⟩
  refine ⟨kb, R, S, D, r1, ts, c, p0, a, true, true, false, E, e, rfl, hK.same g, hA1, h0, h1, by omega, by omega, by omega, fun H2 b2 K2 => ?_⟩
  exact q H2 ((But.of_same g).trans b2) K2
theorem ok_look_hole (F : Fun K "look_at_hole" "look_at_hole" s_look_at_hole f fd) (TC_Kinds : TcK K CK) (TC_Around : TcA K CA) (C_want : CalM P w K mg base CK "want" ["self", "kind", "place", "around"] (4 * n + 3) (spWant P w CK CA n) f1 fd1) (C_within_hole : CalM P w K mg base CA "within_hole" ["self"] 3 (spIn CA false) f3 fd3) : FnOk P w K mg base CX0 (4 * n + 4) f fd ["kinds", "head", "places", "around"] (spLook P w CK CA n .hole) := by
  refine F.ok (k := 4 * n + 3) sc_look_at_hole (fun vs H Q E h => ?_) (fun cdv A outer s H vs Q E hr h => ?_)
  · obtain ⟨kb, R, S, D, r, hd, pl, ts, c, i, ps, t, l, b, k, E, e, rfl, _⟩ := h
    rfl
  obtain ⟨kb, R, S, D, r, hd, pl, ts, c, i, ps, t, l, b, k, E, e, rfl, hw, hK, hA, hh, hp, hps, hk, hdp, hc, he, q⟩ := h
  obtain ⟨a, rfl⟩ := w_un (o := .hole) hw
  obtain ⟨p0, rfl, h0⟩ := places1 hps
  have hs : sizes (Tm.un .hole a).parts = a.size := by simp [Tm.parts, sizes]
  rw [hs] at hc q
  simp only [Tm.deep] at hdp he
  have ⟨h1, ek⟩ : kd a false E false = .ok true ∧ k = false := by
    simp only [kd] at hk
    split at hk
    · cases hk
    · obtain ⟨_, z1, z2⟩ := and_ok' hk
      cases z2
      exact ⟨(want_ok' z1).1, rfl⟩
  subst ek
  obtain ⟨dx, hkb⟩ := hK.ins
  have hn := hK.nd
  obtain ⟨ax, nd, kvs, ha, _⟩ := id hA
  refine ⟨_, (pss_cons (ps_expr (pe_meth (pv 0) TC_Kinds.cl C_want.m C_want.ok (hr.mono (by first | decide | omega)) C_want.b .nil pass0 (pa_cons pe_str (pa_cons (pe_ix ix_list (pv 2) pe_int (fun _ _ => rfl)) (pa_cons (pe_meth0 (pv 3) TC_Around.cl C_within_hole.m C_within_hole.ok (hr.mono (by first | decide | omega)) C_within_hole.b .nil pass0) pa_nil)))))
      (pss_one (ps_ret pe_str))), ?_⟩
  refine ⟨_, rfl, kb, dx, _, rfl, hkb, kf_no _ _ _ (by decide +kernel) (by decide +kernel) (by decide +kernel), _, rfl, pl, _, _, _, rfl, rfl, SqL.of hp, atI_n (n := 0) rfl rfl, _, rfl, r, ax, _, rfl, ha, af_no _ _ _ (by decide +kernel) (by decide +kernel) (by decide +kernel), r, D, l, b, E, e, rfl, hA, hn, fun r1 H1 g hA1 => ?_⟩
  refine ⟨kb, R, S, D, r1, ts, c, p0, a, false, true, true, E, e, rfl, hK.same g, hA1, h0, h1, by omega, by omega, by omega, fun H2 b2 K2 => ?_⟩
  exact q H2 ((But.of_same g).trans b2) K2
theorem ok_look_lift (F : Fun K "look_at_lift" "look_at_lift" s_look_at_lift f fd) (TC_Kinds : TcK K CK) (TC_Around : TcA K CA) (C_want : CalM P w K mg base CK "want" ["self", "kind", "place", "around"] (4 * n + 3) (spWant P w CK CA n) f1 fd1) : FnOk P w K mg base CX0 (4 * n + 4) f fd ["kinds", "head", "places", "around"] (spLook P w CK CA n .lift) := by
  refine F.ok (k := 4 * n + 3) sc_look_at_lift (fun vs H Q E h => ?_) (fun cdv A outer s H vs Q E hr h => ?_)
  · obtain ⟨kb, R, S, D, r, hd, pl, ts, c, i, ps, t, l, b, k, E, e, rfl, _⟩ := h
    rfl
  obtain ⟨kb, R, S, D, r, hd, pl, ts, c, i, ps, t, l, b, k, E, e, rfl, hw, hK, hA, hh, hp, hps, hk, hdp, hc, he, q⟩ := h
  obtain ⟨a, rfl⟩ := w_un (o := .lift) hw
  obtain ⟨p0, rfl, h0⟩ := places1 hps
  have hs : sizes (Tm.un .lift a).parts = a.size := by simp [Tm.parts, sizes]
  rw [hs] at hc q
  simp only [Tm.deep] at hdp he
  have ⟨h1, ek⟩ : kd a l E (!b) = .ok false ∧ k = true := by
    simp only [kd] at hk
    split at hk
    · cases hk
    · rename_i z
      obtain ⟨_, z1, z2⟩ := and_ok' hk
      cases z2
      cases l with
      | true => exact absurd rfl z
      | false => exact ⟨(want_ok' z1).1, rfl⟩
  subst ek
  obtain ⟨dx, hkb⟩ := hK.ins
  have hn := hK.nd
  obtain ⟨ax, nd, kvs, ha, _⟩ := id hA
  refine ⟨_, (pss_cons (ps_expr (pe_meth (pv 0) TC_Kinds.cl C_want.m C_want.ok (hr.mono (by first | decide | omega)) C_want.b .nil pass0 (pa_cons pe_str (pa_cons (pe_ix ix_list (pv 2) pe_int (fun _ _ => rfl)) (pa_cons (pv 3) pa_nil)))))
      (pss_one (ps_ret pe_str))), ?_⟩
  refine ⟨_, rfl, kb, dx, _, rfl, hkb, kf_no _ _ _ (by decide +kernel) (by decide +kernel) (by decide +kernel), _, rfl, pl, _, _, _, rfl, rfl, SqL.of hp, atI_n (n := 0) rfl rfl, _, rfl, kb, R, S, D, r, ts, c, p0, a, l, b, false, E, e, rfl, hK, hA, h0, h1, by omega, by omega, by omega, fun H2 b2 K2 => ?_⟩
  exact q H2 b2 K2
theorem ok_look_run (F : Fun K "look_at_run" "look_at_run" s_look_at_run f fd) (TC_Kinds : TcK K CK) (TC_Around : TcA K CA) (C_want : CalM P w K mg base CK "want" ["self", "kind", "place", "around"] (4 * n + 3) (spWant P w CK CA n) f1 fd1) : FnOk P w K mg base CX0 (4 * n + 4) f fd ["kinds", "head", "places", "around"] (spLook P w CK CA n .run) := by
  refine F.ok (k := 4 * n + 3) sc_look_at_run (fun vs H Q E h => ?_) (fun cdv A outer s H vs Q E hr h => ?_)
  · obtain ⟨kb, R, S, D, r, hd, pl, ts, c, i, ps, t, l, b, k, E, e, rfl, _⟩ := h
    rfl
  obtain ⟨kb, R, S, D, r, hd, pl, ts, c, i, ps, t, l, b, k, E, e, rfl, hw, hK, hA, hh, hp, hps, hk, hdp, hc, he, q⟩ := h
  obtain ⟨a, rfl⟩ := w_un (o := .run) hw
  obtain ⟨p0, rfl, h0⟩ := places1 hps
  have hs : sizes (Tm.un .run a).parts = a.size := by simp [Tm.parts, sizes]
  rw [hs] at hc q
  simp only [Tm.deep] at hdp he
  have ⟨h1, ek, eb⟩ : kd a l E (!b) = .ok true ∧ k = false ∧ b = false := by
    simp only [kd] at hk
    split at hk
    · cases hk
    · rename_i z
      obtain ⟨_, z1, z2⟩ := and_ok' hk
      cases z2
      cases l with
      | true => exact absurd (.inl rfl) z
      | false =>
        cases b with
        | true => exact absurd (.inr rfl) z
        | false => exact ⟨(want_ok' z1).1, rfl, rfl⟩
  subst ek eb
  obtain ⟨dx, hkb⟩ := hK.ins
  have hn := hK.nd
  obtain ⟨ax, nd, kvs, ha, _⟩ := id hA
  refine ⟨_, (pss_cons (ps_if (pt_truth (pe_fld (pv 3) rfl) (by intro _; rfl)) (pss_one ps_never) pss_nil)
      (pss_cons (ps_expr (pe_meth (pv 0) TC_Kinds.cl C_want.m C_want.ok (hr.mono (by first | decide | omega)) C_want.b .nil pass0 (pa_cons pe_str (pa_cons (pe_ix ix_list (pv 2) pe_int (fun _ _ => rfl)) (pa_cons (pv 3) pa_nil)))))
      (pss_one (ps_ret pe_str)))), ?_⟩
  refine ⟨_, rfl, r, CA, ax, _, _, rfl, ha, TC_Around.cl, TC_Around.nB, af_barred _ _ _, ?_⟩
  refine ⟨_, rfl, iteN (by decide) ?_⟩
  refine ⟨_, rfl, kb, dx, _, rfl, hkb, kf_no _ _ _ (by decide +kernel) (by decide +kernel) (by decide +kernel), _, rfl, pl, _, _, _, rfl, rfl, SqL.of hp, atI_n (n := 0) rfl rfl, _, rfl, kb, R, S, D, r, ts, c, p0, a, l, false, true, E, e, rfl, hK, hA, h0, h1, by omega, by omega, by omega, fun H2 b2 K2 => ?_⟩
  exact q H2 b2 K2
theorem ok_look_let (F : Fun K "look_at_let" "look_at_let" s_look_at_let f fd) (TC_Kinds : TcK K CK) (TC_Around : TcA K CA) (C_kind_at : CalM P w K mg base CK "kind_at" ["self", "place", "around"] (4 * n + 2) (spKind P w CK CA n) f2 fd2) (C_with_value : CalM P w K mg base CA "with_value" ["self", "name", "kind"] 3 (spWithV CA) f3 fd3) : FnOk P w K mg base CX0 (4 * n + 4) f fd ["kinds", "head", "places", "around"] (spLook P w CK CA n .let) := by
  refine F.ok (k := 4 * n + 3) sc_look_at_let (fun vs H Q E h => ?_) (fun cdv A outer s H vs Q E hr h => ?_)
  · obtain ⟨kb, R, S, D, r, hd, pl, ts, c, i, ps, t, l, b, k, E, e, rfl, _⟩ := h
    rfl
  obtain ⟨kb, R, S, D, r, hd, pl, ts, c, i, ps, t, l, b, k, E, e, rfl, hw, hK, hA, hh, hp, hps, hk, hdp, hc, he, q⟩ := h
  obtain ⟨x, a, b2, rfl⟩ := w_let hw
  obtain ⟨p0, p1, rfl, h0, h1⟩ := places2 hps
  have hs : sizes (Tm.letx x a b2).parts = a.size + b2.size := by simp [Tm.parts, sizes]
  rw [hs] at hc q
  simp only [Tm.deep] at hdp he
  obtain ⟨j, k0, k1⟩ := and_ok' (show Kd.and (kd a l E (!b)) (fun k => kd b2 l (E.set x ⟨l, none, k⟩) (!b)) = .ok k from hk)
  obtain ⟨dx, hkb⟩ := hK.ins
  have hn := hK.nd
  obtain ⟨ax, nd, kvs, ha, _⟩ := id hA
  refine ⟨_, (pss_cons (ps_set (i := 4) sc_look_at_let.nd rfl (Or.inl rfl) (pe_meth (pv 0) TC_Kinds.cl C_kind_at.m C_kind_at.ok (hr.mono (by first | decide | omega)) C_kind_at.b .nil pass0 (pa_cons (pe_ix ix_list (pv 2) pe_int (fun _ _ => rfl)) (pa_cons (pv 3) pa_nil))))
      (pss_one (ps_ret (pe_meth (pv 0) TC_Kinds.cl C_kind_at.m C_kind_at.ok (hr.mono (by first | decide | omega)) C_kind_at.b .nil pass0 (pa_cons (pe_ix ix_list (pv 2) pe_int (fun _ _ => rfl)) (pa_cons (pe_meth (pv 3) TC_Around.cl C_with_value.m C_with_value.ok (hr.mono (by first | decide | omega)) C_with_value.b .nil pass0 (pa_cons (pe_ix ix_tup (pv 1) pe_int (fun _ _ => rfl)) (pa_cons (pv 4) pa_nil))) pa_nil)))))), ?_⟩
  refine ⟨_, rfl, kb, dx, _, rfl, hkb, kf_no _ _ _ (by decide +kernel) (by decide +kernel) (by decide +kernel), _, rfl, pl, _, _, _, rfl, rfl, SqL.of hp, atI_n (n := 0) rfl rfl, _, rfl, kb, R, S, D, r, ts, c, p0, a, l, b, j, E, e, rfl, hK, hA, h0, k0, by omega, by omega, by omega, fun H1 g1 K1 => ?_⟩
  have hA1 := hA.but hn g1
  have hp1 := g1 _ _ (hn.lst hp) hp
  have hh1 := g1 _ _ (hn.tup hh) hh
  obtain ⟨dx1, hkb1⟩ := K1.ins
  have hn1 := K1.nd
  obtain ⟨ax1, nd1, kvs1, ha1, _⟩ := id hA1
  refine ⟨_, rfl, kb, dx1, _, rfl, hkb1, kf_no _ _ _ (by decide +kernel) (by decide +kernel) (by decide +kernel), _, rfl, pl, _, _, _, rfl, rfl, SqL.of hp1, atI_n (n := 1) rfl rfl, _, rfl, r, ax1, _, rfl, ha1, af_no _ _ _ (by decide +kernel) (by decide +kernel) (by decide +kernel), _, rfl, hd, _, _, _, rfl, rfl, SqT.of hh1, atI_n (n := 1) rfl rfl, _, rfl, r, D, l, b, j, E, e, x, rfl, hA1, by omega, hn1, fun r2 H2 g2 hA2 => ?_⟩
  refine ⟨kb, R, S, D, r2, ts, c + a.size, p1, b2, l, b, k, _, e + 1, rfl, K1.same g2, hA2, h1, k1, by omega, by omega, by omega, fun H3 g3 K3 => ?_⟩
  exact q H3 (g1.trans ((But.of_same g2).trans g3)) (by rw [← Nat.add_assoc]; exact K3)
theorem ok_look_turns (F : Fun K "look_at_turns" "look_at_turns" s_look_at_turns f fd) (TC_Kinds : TcK K CK) (TC_Around : TcA K CA) (C_want : CalM P w K mg base CK "want" ["self", "kind", "place", "around"] (4 * n + 3) (spWant P w CK CA n) f1 fd1) (C_kind_at : CalM P w K mg base CK "kind_at" ["self", "place", "around"] (4 * n + 2) (spKind P w CK CA n) f2 fd2) (C_with_value : CalM P w K mg base CA "with_value" ["self", "name", "kind"] 3 (spWithV CA) f3 fd3) : FnOk P w K mg base CX0 (4 * n + 4) f fd ["kinds", "head", "places", "around"] (spLook P w CK CA n .turns) := by
  refine F.ok (k := 4 * n + 3) sc_look_at_turns (fun vs H Q E h => ?_) (fun cdv A outer s H vs Q E hr h => ?_)
  · obtain ⟨kb, R, S, D, r, hd, pl, ts, c, i, ps, t, l, b, k, E, e, rfl, _⟩ := h
    rfl
  obtain ⟨kb, R, S, D, r, hd, pl, ts, c, i, ps, t, l, b, k, E, e, rfl, hw, hK, hA, hh, hp, hps, hk, hdp, hc, he, q⟩ := h
  obtain ⟨m, x, a, b2, rfl⟩ := w_turns hw
  obtain ⟨p0, p1, rfl, h0, h1⟩ := places2 hps
  have hs : sizes (Tm.turns m x a b2).parts = a.size + b2.size := by simp [Tm.parts, sizes]
  rw [hs] at hc q
  simp only [Tm.deep] at hdp he
  obtain ⟨j, k0, k1⟩ := and_ok' (show Kd.and (kd a l E (!b)) (fun k => (kd b2 l (E.set x ⟨l, none, k⟩) (!b)).want k) = .ok k from hk)
  obtain ⟨k1, ek⟩ := want_ok' k1
  subst ek
  obtain ⟨dx, hkb⟩ := hK.ins
  have hn := hK.nd
  obtain ⟨ax, nd, kvs, ha, _⟩ := id hA
  refine ⟨_, (pss_cons (ps_set (i := 4) sc_look_at_turns.nd rfl (Or.inl rfl) (pe_meth (pv 0) TC_Kinds.cl C_kind_at.m C_kind_at.ok (hr.mono (by first | decide | omega)) C_kind_at.b .nil pass0 (pa_cons (pe_ix ix_list (pv 2) pe_int (fun _ _ => rfl)) (pa_cons (pv 3) pa_nil))))
      (pss_cons (ps_expr (pe_meth (pv 0) TC_Kinds.cl C_want.m C_want.ok (hr.mono (by first | decide | omega)) C_want.b .nil pass0 (pa_cons (pv 4) (pa_cons (pe_ix ix_list (pv 2) pe_int (fun _ _ => rfl)) (pa_cons (pe_meth (pv 3) TC_Around.cl C_with_value.m C_with_value.ok (hr.mono (by first | decide | omega)) C_with_value.b .nil pass0 (pa_cons (pe_ix ix_tup (pv 1) pe_int (fun _ _ => rfl)) (pa_cons (pv 4) pa_nil))) pa_nil)))))
      (pss_one (ps_ret (pv 4))))), ?_⟩
  refine ⟨_, rfl, kb, dx, _, rfl, hkb, kf_no _ _ _ (by decide +kernel) (by decide +kernel) (by decide +kernel), _, rfl, pl, _, _, _, rfl, rfl, SqL.of hp, atI_n (n := 0) rfl rfl, _, rfl, kb, R, S, D, r, ts, c, p0, a, l, b, k, E, e, rfl, hK, hA, h0, k0, by omega, by omega, by omega, fun H1 g1 K1 => ?_⟩
  have hA1 := hA.but hn g1
  have hp1 := g1 _ _ (hn.lst hp) hp
  have hh1 := g1 _ _ (hn.tup hh) hh
  obtain ⟨dx1, hkb1⟩ := K1.ins
  have hn1 := K1.nd
  obtain ⟨ax1, nd1, kvs1, ha1, _⟩ := id hA1
  refine ⟨_, rfl, kb, dx1, _, rfl, hkb1, kf_no _ _ _ (by decide +kernel) (by decide +kernel) (by decide +kernel), _, rfl, _, rfl, pl, _, _, _, rfl, rfl, SqL.of hp1, atI_n (n := 1) rfl rfl, _, rfl, r, ax1, _, rfl, ha1, af_no _ _ _ (by decide +kernel) (by decide +kernel) (by decide +kernel), _, rfl, hd, _, _, _, rfl, rfl, SqT.of hh1, atI_n (n := 2) rfl rfl, _, rfl, r, D, l, b, k, E, e, x, rfl, hA1, by omega, hn1, fun r2 H2 g2 hA2 => ?_⟩
  refine ⟨kb, R, S, D, r2, ts, c + a.size, p1, b2, l, b, k, _, e + 1, rfl, K1.same g2, hA2, h1, k1, by omega, by omega, by omega, fun H3 g3 K3 => ?_⟩
  exact ⟨_, rfl, q H3 (g1.trans ((But.of_same g2).trans g3)) (by rw [← Nat.add_assoc]; exact K3)⟩
theorem ok_look_when (F : Fun K "look_at_when" "look_at_when" s_look_at_when f fd) (TC_Kinds : TcK K CK) (TC_Around : TcA K CA) (C_want : CalM P w K mg base CK "want" ["self", "kind", "place", "around"] (4 * n + 3) (spWant P w CK CA n) f1 fd1) (C_kind_at : CalM P w K mg base CK "kind_at" ["self", "place", "around"] (4 * n + 2) (spKind P w CK CA n) f2 fd2) : FnOk P w K mg base CX0 (4 * n + 4) f fd ["kinds", "head", "places", "around"] (spLook P w CK CA n .when) := by
  refine F.ok (k := 4 * n + 3) sc_look_at_when (fun vs H Q E h => ?_) (fun cdv A outer s H vs Q E hr h => ?_)
  · obtain ⟨kb, R, S, D, r, hd, pl, ts, c, i, ps, t, l, b, k, E, e, rfl, _⟩ := h
    rfl
  obtain ⟨kb, R, S, D, r, hd, pl, ts, c, i, ps, t, l, b, k, E, e, rfl, hw, hK, hA, hh, hp, hps, hk, hdp, hc, he, q⟩ := h
  obtain ⟨x, a, b2, rfl⟩ := w_when hw
  obtain ⟨p0, p1, p2, rfl, h0, h1, h2⟩ := places3 hps
  have hs : sizes (Tm.cond x a b2).parts = x.size + (a.size + b2.size) := by simp [Tm.parts, sizes]
  rw [hs] at hc q
  simp only [Tm.deep] at hdp he
  obtain ⟨_, k0, k1⟩ := and_ok' (show Kd.and ((kd x l E (!b)).want false) (fun _ => (kd a l E (!b)).and fun k => (kd b2 l E (!b)).want k) = .ok k from hk)
  obtain ⟨k0, _⟩ := want_ok' k0
  obtain ⟨j, k1, k2⟩ := and_ok' k1
  obtain ⟨k2, ek⟩ := want_ok' k2
  subst ek
  obtain ⟨dx, hkb⟩ := hK.ins
  have hn := hK.nd
  obtain ⟨ax, nd, kvs, ha, _⟩ := id hA
  refine ⟨_, (pss_cons (ps_expr (pe_meth (pv 0) TC_Kinds.cl C_want.m C_want.ok (hr.mono (by first | decide | omega)) C_want.b .nil pass0 (pa_cons pe_str (pa_cons (pe_ix ix_list (pv 2) pe_int (fun _ _ => rfl)) (pa_cons (pv 3) pa_nil)))))
      (pss_cons (ps_set (i := 4) sc_look_at_when.nd rfl (Or.inl rfl) (pe_meth (pv 0) TC_Kinds.cl C_kind_at.m C_kind_at.ok (hr.mono (by first | decide | omega)) C_kind_at.b .nil pass0 (pa_cons (pe_ix ix_list (pv 2) pe_int (fun _ _ => rfl)) (pa_cons (pv 3) pa_nil))))
      (pss_cons (ps_expr (pe_meth (pv 0) TC_Kinds.cl C_want.m C_want.ok (hr.mono (by first | decide | omega)) C_want.b .nil pass0 (pa_cons (pv 4) (pa_cons (pe_ix ix_list (pv 2) pe_int (fun _ _ => rfl)) (pa_cons (pv 3) pa_nil)))))
      (pss_one (ps_ret (pv 4)))))), ?_⟩
  refine ⟨_, rfl, kb, dx, _, rfl, hkb, kf_no _ _ _ (by decide +kernel) (by decide +kernel) (by decide +kernel), _, rfl, pl, _, _, _, rfl, rfl, SqL.of hp, atI_n (n := 0) rfl rfl, _, rfl, kb, R, S, D, r, ts, c, p0, x, l, b, false, E, e, rfl, hK, hA, h0, k0, by omega, by omega, by omega, fun H1 g1 K1 => ?_⟩
  have hA1 := hA.but hn g1
  have hp1 := g1 _ _ (hn.lst hp) hp
  obtain ⟨dx1, hkb1⟩ := K1.ins
  have hn1 := K1.nd
  obtain ⟨ax1, nd1, kvs1, ha1, _⟩ := id hA1
  refine ⟨_, rfl, kb, dx1, _, rfl, hkb1, kf_no _ _ _ (by decide +kernel) (by decide +kernel) (by decide +kernel), _, rfl, pl, _, _, _, rfl, rfl, SqL.of hp1, atI_n (n := 1) rfl rfl, _, rfl, kb, R, S, D, r, ts, _, p1, a, l, b, k, E, e, rfl, K1, hA1, h1, k1, by omega, by omega, by omega, fun H2 g2 K2 => ?_⟩
  have hA2 := hA1.but hn1 g2
  have hp2 := g2 _ _ (hn1.lst hp1) hp1
  obtain ⟨dx2, hkb2⟩ := K2.ins
  have hn2 := K2.nd
  obtain ⟨ax2, nd2, kvs2, ha2, _⟩ := id hA2
  refine ⟨_, rfl, kb, dx2, _, rfl, hkb2, kf_no _ _ _ (by decide +kernel) (by decide +kernel) (by decide +kernel), _, rfl, _, rfl, pl, _, _, _, rfl, rfl, SqL.of hp2, atI_n (n := 2) rfl rfl, _, rfl, kb, R, S, D, r, ts, _, p2, b2, l, b, k, E, e, rfl, K2, hA2, h2, k2, by omega, by omega, by omega, fun H3 g3 K3 => ?_⟩
  exact ⟨_, rfl, q H3 (g1.trans (g2.trans g3)) (by rw [← Nat.add_assoc, ← Nat.add_assoc]; exact K3)⟩
theorem ok_look_def (F : Fun K "look_at_def" "look_at_def" s_look_at_def f fd) (TC_Kinds : TcK K CK) (TC_Around : TcA K CA) (C_kind_at : CalM P w K mg base CK "kind_at" ["self", "place", "around"] (4 * n + 2) (spKind P w CK CA n) f2 fd2) (C_with_function : CalM P w K mg base CA "with_function" ["self", "name", "wanted", "kind"] 3 (spWithF CA) f3 fd3) (C_within_function : CalM P w K mg base CA "within_function" ["self", "name", "kind"] 3 (spInF CA) f4 fd4) : FnOk P w K mg base CX0 (4 * n + 4) f fd ["kinds", "head", "places", "around"] (spLook P w CK CA n .def) := by
  refine F.ok (k := 4 * n + 3) sc_look_at_def (fun vs H Q E h => ?_) (fun cdv A outer s H vs Q E hr h => ?_)
  · obtain ⟨kb, R, S, D, r, hd, pl, ts, c, i, ps, t, l, b, k, E, e, rfl, _⟩ := h
    rfl
  obtain ⟨kb, R, S, D, r, hd, pl, ts, c, i, ps, t, l, b, k, E, e, rfl, hw, hK, hA, hh, hp, hps, hk, hdp, hc, he, q⟩ := h
  obtain ⟨g, x, d, a, b2, rfl⟩ := w_def hw
  obtain ⟨p0, p1, rfl, h0, h1⟩ := places2 hps
  have hs : sizes (Tm.deff g x d a b2).parts = a.size + b2.size := by simp [Tm.parts, sizes]
  rw [hs] at hc q
  simp only [Tm.deep] at hdp he
  have ⟨hld, j, k0, k1⟩ : ¬ (l = true ∧ d = true) ∧ ∃ j, kd a l (E.set x ⟨l, none, d⟩) false = .ok j ∧ kd b2 l (E.set g ⟨l, some d, j⟩) (!b) = .ok k := by
    simp only [kd] at hk
    split at hk
    · cases hk
    · rename_i z
      exact ⟨z, and_ok' hk⟩
  obtain ⟨dx, hkb⟩ := hK.ins
  have hn := hK.nd
  obtain ⟨ax, nd, kvs, ha, _⟩ := id hA
  refine ⟨_, (pss_cons (ps_if (pt_k (PW.pt (pw_and (pt_cmpR op_eq (pe_fld (pv 3) rfl) pe_int (nomark _)) (pw_and1 (pt_cmpR op_ne (pe_ix ix_tup (pv 1) pe_int (fun _ _ => rfl)) pe_str (nomark _)))))) (pss_one ps_never) pss_nil)
      (pss_cons (ps_set (i := 4) sc_look_at_def.nd rfl (Or.inl rfl) (pe_meth (pv 0) TC_Kinds.cl C_kind_at.m C_kind_at.ok (hr.mono (by first | decide | omega)) C_kind_at.b .nil pass0 (pa_cons (pe_ix ix_list (pv 2) pe_int (fun _ _ => rfl)) (pa_cons (pe_meth (pv 3) TC_Around.cl C_within_function.m C_within_function.ok (hr.mono (by first | decide | omega)) C_within_function.b .nil pass0 (pa_cons (pe_ix ix_tup (pv 1) pe_int (fun _ _ => rfl)) (pa_cons (pe_ix ix_tup (pv 1) pe_int (fun _ _ => rfl)) pa_nil))) pa_nil))))
      (pss_one (ps_ret (pe_meth (pv 0) TC_Kinds.cl C_kind_at.m C_kind_at.ok (hr.mono (by first | decide | omega)) C_kind_at.b .nil pass0 (pa_cons (pe_ix ix_list (pv 2) pe_int (fun _ _ => rfl)) (pa_cons (pe_meth (pv 3) TC_Around.cl C_with_function.m C_with_function.ok (hr.mono (by first | decide | omega)) C_with_function.b .nil pass0 (pa_cons (pe_ix ix_tup (pv 1) pe_int (fun _ _ => rfl)) (pa_cons (pe_ix ix_tup (pv 1) pe_int (fun _ _ => rfl)) (pa_cons (pv 4) pa_nil)))) pa_nil))))))), ?_⟩
  refine ⟨fun bb H1 => bb = false ∧ H1 = H, ⟨_, rfl, r, CA, ax, _, _, rfl, ha, TC_Around.cl, TC_Around.nL, af_level _ _ _, rfl, ?_⟩, ?_⟩
  · by_cases hl : l = true
    · have hdf : d = false := by
        cases d with
        | false => rfl
        | true => exact absurd ⟨hl, rfl⟩ hld
      exact ⟨_, rfl, iteY (by simp [hl, lvI]) ⟨_, rfl, hd, _, _, _, rfl, rfl, SqT.of hh, atI_n (n := 3) rfl rfl, rfl, _, rfl, by simp [hdf, kindS], rfl⟩⟩
    · exact ⟨_, rfl, iteN (by cases l with | true => exact absurd rfl hl | false => decide) ⟨rfl, rfl⟩⟩
  rintro _ _ ⟨rfl, rfl⟩
  refine iteN (by decide) ?_
  refine ⟨_, rfl, kb, dx, _, rfl, hkb, kf_no _ _ _ (by decide +kernel) (by decide +kernel) (by decide +kernel), _, rfl, pl, _, _, _, rfl, rfl, SqL.of hp, atI_n (n := 0) rfl rfl, _, rfl, r, ax, _, rfl, ha, af_no _ _ _ (by decide +kernel) (by decide +kernel) (by decide +kernel), _, rfl, hd, _, _, _, rfl, rfl, SqT.of hh, atI_n (n := 2) rfl rfl, _, rfl, hd, _, _, _, rfl, rfl, SqT.of hh, atI_n (n := 3) rfl rfl, r, D, l, b, d, E, e, x, rfl, hA, by omega, hn, fun r1 H1 g1 hA1 => ?_⟩
  refine ⟨kb, R, S, D, r1, ts, c, p0, a, l, true, j, _, e + 1, rfl, hK.same g1, hA1, h0, k0, by omega, by omega, by omega, fun H2 g2 K2 => ?_⟩
  have g12 := (But.of_same g1).trans g2
  have hA2 := hA.but hn g12
  have hp2 := g12 _ _ (hn.lst hp) hp
  have hh2 := g12 _ _ (hn.tup hh) hh
  obtain ⟨dx2, hkb2⟩ := K2.ins
  have hn2 := K2.nd
  obtain ⟨ax2, nd2, kvs2, ha2, _⟩ := id hA2
  refine ⟨_, rfl, kb, dx2, _, rfl, hkb2, kf_no _ _ _ (by decide +kernel) (by decide +kernel) (by decide +kernel), _, rfl, pl, _, _, _, rfl, rfl, SqL.of hp2, atI_n (n := 1) rfl rfl, _, rfl, r, ax2, _, rfl, ha2, af_no _ _ _ (by decide +kernel) (by decide +kernel) (by decide +kernel), _, rfl, hd, _, _, _, rfl, rfl, SqT.of hh2, atI_n (n := 1) rfl rfl, _, rfl, hd, _, _, _, rfl, rfl, SqT.of hh2, atI_n (n := 3) rfl rfl, _, rfl, r, D, l, b, d, j, E, e, g, rfl, hA2, by omega, hn2, fun r3 H3 g3 hA3 => ?_⟩
  refine ⟨kb, R, S, D, r3, ts, c + a.size, p1, b2, l, b, k, _, e + 1, rfl, K2.same g3, hA3, h1, k1, by omega, by omega, by omega, fun H4 g4 K4 => ?_⟩
  exact q H4 (g12.trans ((But.of_same g3).trans g4)) (by rw [← Nat.add_assoc]; exact K4)
theorem ok_look_name (F : Fun K "look_at_name" "look_at_name" s_look_at_name f fd) (TC_Kinds : TcK K CK) (TC_Around : TcA K CA) (C_meaning_of : CalM P w K mg base CA "meaning_of" ["self", "name"] 1 (spMeaning CA) f3 fd3) : FnOk P w K mg base CX0 (4 * n + 4) f fd ["kinds", "head", "places", "around"] (spLook P w CK CA n .name) := by
  refine F.ok (k := 4 * n + 3) sc_look_at_name (fun vs H Q E h => ?_) (fun cdv A outer s H vs Q E hr h => ?_)
  · obtain ⟨kb, R, S, D, r, hd, pl, ts, c, i, ps, t, l, b, k, E, e, rfl, _⟩ := h
    rfl
  obtain ⟨kb, R, S, D, r, hd, pl, ts, c, i, ps, t, l, b, k, E, e, rfl, hw, hK, hA, hh, hp, hps, hk, hdp, hc, he, q⟩ := h
  obtain ⟨x, rfl⟩ := w_name hw
  have ⟨u, hu, hl, hd0, ek⟩ : ∃ u, E x = some u ∧ u.lv = l ∧ u.dom = none ∧ u.k = k := by
    simp only [kd] at hk
    cases z : E x with
    | none => rw [z] at hk; cases hk
    | some u =>
      rw [z] at hk
      dsimp only at hk
      split at hk
      · rename_i y
        cases z2 : u.dom with
        | none => rw [z2] at hk; cases hk; exact ⟨u, rfl, y, z2, rfl⟩
        | some d => rw [z2] at hk; cases hk
      · cases hk
  obtain ⟨dx, hkb⟩ := hK.ins
  have hn := hK.nd
  obtain ⟨ax, nd, kvs, ha, _⟩ := id hA
  refine ⟨_, (pss_cons (ps_set (i := 4) sc_look_at_name.nd rfl (Or.inl rfl) (pe_meth (pv 3) TC_Around.cl C_meaning_of.m C_meaning_of.ok (hr.mono (by first | decide | omega)) C_meaning_of.b .nil pass0 (pa_cons (pe_ix ix_tup (pv 1) pe_int (fun _ _ => rfl)) pa_nil)))
      (pss_cons (ps_if (pt_cmpR op_eq (pe_ix ix_tup (pv 4) pe_int (fun _ _ => rfl)) pe_str (nomark _)) (pss_one ps_never) pss_nil)
      (pss_one (ps_ret (pe_ix ix_tup (pv 4) pe_int (fun _ _ => rfl)))))), ?_⟩
  refine ⟨_, rfl, r, ax, _, rfl, ha, af_no _ _ _ (by decide +kernel) (by decide +kernel) (by decide +kernel), _, rfl, hd, _, _, _, rfl, rfl, SqT.of hh, atI_n (n := 1) rfl rfl, r, D, l, b, E, e, x, u, rfl, hA, hu, hl, fun p hm => ?_⟩
  have em : mean u = [.str "value", .int (lvI u.lv), .str (kindS u.k)] := by unfold mean; rw [hd0]
  rw [em] at hm
  refine ⟨_, rfl, p, _, _, _, rfl, rfl, SqT.of hm, atI_n (n := 0) rfl rfl, rfl, ?_⟩
  refine ⟨_, rfl, iteN (by decide) ?_⟩
  refine ⟨_, rfl, p, _, _, _, rfl, rfl, SqT.of hm, atI_n (n := 2) rfl rfl, ?_⟩
  rw [ek]
  exact q H (.refl _ _) (hK.more (Nat.le_add_right _ _))
theorem ok_look_use (F : Fun K "look_at_use" "look_at_use" s_look_at_use f fd) (TC_Kinds : TcK K CK) (TC_Around : TcA K CA) (C_want : CalM P w K mg base CK "want" ["self", "kind", "place", "around"] (4 * n + 3) (spWant P w CK CA n) f1 fd1) (C_meaning_of : CalM P w K mg base CA "meaning_of" ["self", "name"] 1 (spMeaning CA) f3 fd3) : FnOk P w K mg base CX0 (4 * n + 4) f fd ["kinds", "head", "places", "around"] (spLook P w CK CA n .use) := by
  refine F.ok (k := 4 * n + 3) sc_look_at_use (fun vs H Q E h => ?_) (fun cdv A outer s H vs Q E hr h => ?_)
  · obtain ⟨kb, R, S, D, r, hd, pl, ts, c, i, ps, t, l, b, k, E, e, rfl, _⟩ := h
    rfl
  obtain ⟨kb, R, S, D, r, hd, pl, ts, c, i, ps, t, l, b, k, E, e, rfl, hw, hK, hA, hh, hp, hps, hk, hdp, hc, he, q⟩ := h
  obtain ⟨x, a, rfl⟩ := w_use hw
  obtain ⟨p0, rfl, h0⟩ := places1 hps
  have hs : sizes (Tm.use x a).parts = a.size := by simp [Tm.parts, sizes]
  rw [hs] at hc q
  simp only [Tm.deep] at hdp he
  have ⟨u, d, hu, hl, hd0, k0, ek⟩ : ∃ u d, E x = some u ∧ u.lv = l ∧ u.dom = some d ∧ kd a l E (!b) = .ok d ∧ u.k = k := by
    simp only [kd] at hk
    cases z : E x with
    | none => rw [z] at hk; cases hk
    | some u =>
      rw [z] at hk
      dsimp only at hk
      split at hk
      · rename_i y
        cases z2 : u.dom with
        | none => rw [z2] at hk; cases hk
        | some d =>
          rw [z2] at hk
          obtain ⟨_, z3, z4⟩ := and_ok' hk
          cases z4
          exact ⟨u, d, rfl, y, z2, (want_ok' z3).1, rfl⟩
      · cases hk
  obtain ⟨dx, hkb⟩ := hK.ins
  have hn := hK.nd
  obtain ⟨ax, nd, kvs, ha, _⟩ := id hA
  refine ⟨_, (pss_cons (ps_set (i := 4) sc_look_at_use.nd rfl (Or.inl rfl) (pe_meth (pv 3) TC_Around.cl C_meaning_of.m C_meaning_of.ok (hr.mono (by first | decide | omega)) C_meaning_of.b .nil pass0 (pa_cons (pe_ix ix_tup (pv 1) pe_int (fun _ _ => rfl)) pa_nil)))
      (pss_cons (ps_if (pt_cmpR op_ne (pe_ix ix_tup (pv 4) pe_int (fun _ _ => rfl)) pe_str (nomark _)) (pss_one ps_never) pss_nil)
      (pss_cons (ps_expr (pe_meth (pv 0) TC_Kinds.cl C_want.m C_want.ok (hr.mono (by first | decide | omega)) C_want.b .nil pass0 (pa_cons (pe_ix ix_tup (pv 4) pe_int (fun _ _ => rfl)) (pa_cons (pe_ix ix_list (pv 2) pe_int (fun _ _ => rfl)) (pa_cons (pv 3) pa_nil)))))
      (pss_one (ps_ret (pe_ix ix_tup (pv 4) pe_int (fun _ _ => rfl))))))), ?_⟩
  refine ⟨_, rfl, r, ax, _, rfl, ha, af_no _ _ _ (by decide +kernel) (by decide +kernel) (by decide +kernel), _, rfl, hd, _, _, _, rfl, rfl, SqT.of hh, atI_n (n := 1) rfl rfl, r, D, l, b, E, e, x, u, rfl, hA, hu, hl, fun p hm => ?_⟩
  have em : mean u = [.str "function", .int (lvI u.lv), .str (kindS d), .str (kindS u.k)] := by unfold mean; rw [hd0]
  rw [em] at hm
  refine ⟨_, rfl, p, _, _, _, rfl, rfl, SqT.of hm, atI_n (n := 0) rfl rfl, rfl, ?_⟩
  refine ⟨_, rfl, iteN (by decide) ?_⟩
  refine ⟨_, rfl, kb, dx, _, rfl, hkb, kf_no _ _ _ (by decide +kernel) (by decide +kernel) (by decide +kernel), _, rfl, p, _, _, _, rfl, rfl, SqT.of hm, atI_n (n := 2) rfl rfl, _, rfl, pl, _, _, _, rfl, rfl, SqL.of hp, atI_n (n := 0) rfl rfl, _, rfl, kb, R, S, D, r, ts, c, p0, a, l, b, d, E, e, rfl, hK, hA, h0, k0, by omega, by omega, by omega, fun H1 g1 K1 => ?_⟩
  refine ⟨_, rfl, p, _, _, _, rfl, rfl, SqT.of (g1 _ _ (hn.tup hm) hm), atI_n (n := 3) rfl rfl, ?_⟩
  rw [ek]
  exact q H1 g1 K1
theorem ok_look_numbers (F : Fun K "look_at_numbers" "look_at_numbers" s_look_at_numbers f fd) (TC_Kinds : TcK K CK) (TC_Around : TcA K CA) (C_want : CalM P w K mg base CK "want" ["self", "kind", "place", "around"] (4 * n + 3) (spWant P w CK CA n) f1 fd1) : FnOk P w K mg base CX0 (4 * n + 4) f fd ["kinds", "head", "places", "around"] (fun vs H Q E => ∃ o : Bin, spLook P w CK CA n o.w vs H Q E) := by
  refine F.ok (k := 4 * n + 3) sc_look_at_numbers (fun vs H Q E h => ?_) (fun cdv A outer s H vs Q E hr h => ?_)
  · obtain ⟨o, kb, R, S, D, r, hd, pl, ts, c, i, ps, t, l, b, k, E, e, rfl, _⟩ := h
    rfl
  obtain ⟨o, kb, R, S, D, r, hd, pl, ts, c, i, ps, t, l, b, k, E, e, rfl, hw, hK, hA, hh, hp, hps, hk, hdp, hc, he, q⟩ := h
  obtain ⟨a, b2, rfl⟩ := w_bin hw
  obtain ⟨p0, p1, rfl, h0, h1⟩ := places2 hps
  have hs : sizes (Tm.bin o a b2).parts = a.size + b2.size := by simp [Tm.parts, sizes]
  rw [hs] at hc q
  simp only [Tm.deep] at hdp he
  obtain ⟨_, k0, k1⟩ := and_ok' (show Kd.and ((kd a l E (!b)).want false) (fun _ => (kd b2 l E (!b)).want false) = .ok k from hk)
  obtain ⟨k0, _⟩ := want_ok' k0
  obtain ⟨k1b, ek⟩ := want_ok' k1
  subst ek
  obtain ⟨dx, hkb⟩ := hK.ins
  have hn := hK.nd
  obtain ⟨ax, nd, kvs, ha, _⟩ := id hA
  refine ⟨_, (pss_cons (ps_for PassesOwn.never rfl (pi_list (pv 2)) (pg_name (i := 4) sc_look_at_numbers.nd rfl (Or.inl rfl)) (pss_one (ps_expr (pe_meth (pv 0) TC_Kinds.cl C_want.m C_want.ok (hr.mono (by first | decide | omega)) C_want.b .nil pass0 (pa_cons pe_str (pa_cons (pv 4) (pa_cons (pv 3) pa_nil)))))))
      (pss_one (ps_ret pe_str))), ?_⟩
  refine ⟨_, rfl, pl, rfl, ⟨_, SqL.of hp⟩, for_list (K := K) (a := pl) (xs := nats [p0, p1]) (fun i σ H' => ∃ o1 : Option V, σ = [some (.ref kb), some (.ref hd), some (.ref pl), some (.ref r), o1] ∧ But D H H' ∧ KI P w CK H' kb R S D ts (c + sizes ([a, b2].take i)))
    ⟨none, rfl, .refl _ _, hK⟩ (fun i σ H' _ ⟨_, _, z, _⟩ => SqL.of (z _ _ (hn.lst hp) hp)) ?_ ?_⟩
  · rintro i x σ H' hi ⟨o1, rfl, g, K1⟩
    obtain ⟨u, p, ex, hu, ku, hz, hz2, hz3⟩ : ∃ (u : Tm) (p : Nat), x = .int (p : Int) ∧ ts[p]? = some u ∧ kd u l E (!b) = .ok false ∧ sizes ([a, b2].take (i + 1)) = sizes ([a, b2].take i) + u.size ∧ sizes ([a, b2].take i) + u.size ≤ a.size + b2.size ∧ u.deep ≤ max a.deep b2.deep := by
      match i, hi with
      | 0, hi => cases hi; exact ⟨a, p0, rfl, h0, k0, by simp [sizes], by simp [sizes], by omega⟩
      | 1, hi => cases hi; exact ⟨b2, p1, rfl, h1, k1b, by simp [sizes], by simp [sizes], by omega⟩
      | i + 2, hi => simp [nats] at hi
    subst ex
    obtain ⟨dx1, hkb1⟩ := K1.ins
    refine ⟨_, rfl, kb, dx1, _, rfl, hkb1, kf_no _ _ _ (by decide +kernel) (by decide +kernel) (by decide +kernel), _, rfl, _, rfl, kb, R, S, D, r, ts, _, p, u, l, b, false, E, e, rfl, K1, hA.but hn g, hu, ku, by omega, by omega, by omega, fun H2 g2 K2 => ⟨_, rfl, g.trans g2, ?_⟩⟩
    rw [hz, ← Nat.add_assoc]
    exact K2
  · rintro σ H' ⟨o1, rfl, g, K1⟩
    exact q H' g (K1.more (by simp [nats, sizes]))
end

/-! ### the memo; the kind of a term -/
section
variable {P : Program} {w : World} {K : PySem.W.Frag} {mg : Str → Option Value} {base : Heap} {CK CA C DL DO f f1 f2 f3 f4 f5 f6 f7 f8 : Addr} {FL : W → Addr} {fd fd1 fd2 fd3 fd4 fd5 fd6 fd7 fd8 : FuncData} {n : Nat}
theorem ok_want (F : Fun K "want" "Kinds.want" s_Kinds_want f fd) (TC_Kinds : TcK K CK) (C_kind_at : CalM P w K mg base CK "kind_at" ["self", "place", "around"] (4 * n + 2) (spKind P w CK CA n) f2 fd2) : FnOk P w K mg base CX0 (4 * n + 3) f fd ["self", "kind", "place", "around"] (spWant P w CK CA n) := by
  refine F.ok (k := 4 * n + 2) sc_Kinds_want (fun vs H Q E h => ?_) (fun cdv A outer s H vs Q E hr h => ?_)
  · obtain ⟨kb, R, S, D, r, ts, c, p, t, l, b, k, E, e, rfl, _⟩ := h
    rfl
  obtain ⟨kb, R, S, D, r, ts, c, p, t, l, b, k, E, e, rfl, hK, hA, ht, hk, hdp, hc, he, q⟩ := h
  refine ⟨_, (pss_one (ps_if (pt_cmpR op_ne (pe_meth (pv 0) TC_Kinds.cl C_kind_at.m C_kind_at.ok (hr.mono (by first | decide | omega)) C_kind_at.b .nil pass0 (pa_cons (pv 2) (pa_cons (pv 3) pa_nil))) (pv 1) (nomark _)) (pss_one ps_never) pss_nil)), ?_⟩
  obtain ⟨dx, hkb⟩ := hK.ins
  refine ⟨_, rfl, kb, dx, _, rfl, hkb, kf_no _ _ _ (by decide +kernel) (by decide +kernel) (by decide +kernel), _, rfl, _, rfl, kb, R, S, D, r, ts, c, p, t, l, b, k, E, e, rfl, hK, hA, ht, hk, hdp, hc, he, fun H1 g1 K1 => ?_⟩
  refine ⟨_, rfl, rfl, ?_⟩
  refine ⟨_, rfl, iteN (by simp) ?_⟩
  exact q H1 g1 K1
theorem KyAll.snocK {H : Hp} {k : NestedKey} {v : V} (hk : KyAt H k v) : ∀ {ks : List NestedKey} {vs : List V}, KyAll H ks vs → KyAll H (ks ++ [k]) (vs ++ [v])
  | _, _, .nil => .cons hk .nil
  | _, _, .cons h1 h2 => .cons h1 (KyAll.snocK hk h2)
theorem wg_end {r : Option Value} {z : V} {Q : VK} {H : Hp} (h : ∀ u, r = some u → RelV z u) (q : Q z H) : WGot r z Q H := by
  cases r with
  | none => exact q
  | some u => exact ⟨z, h u rfl, q⟩
theorem kd_level {t : Tm} {l fr k : Bool} {E : Env} (h : kd t l E fr = .ok k) (hw : t.w = .quote ∨ t.w = .hole ∨ t.w = .lift ∨ t.w = .run) : l = decide (t.w = .hole) := by
  cases t with
  | un o a =>
    cases o <;> cases l <;> first | rfl | (simp [kd] at h)
  | bin o a b => cases o <;> simp [Tm.w, Bin.w] at hw
  | _ => simp [Tm.w] at hw
theorem ok_looked_at (F : Fun K "looked_at" "Kinds.looked_at" s_Kinds_looked_at f fd) (TC_Kinds : TcK K CK) (TC_Around : TcA K CA) (KL : KLk K w mg FL DL DO) (HL : ∀ u : W, HeldK P w K mg base (4 * n + 4) (FL u) (spLook P w CK CA n u)) : FnOk P w K mg base CX0 (4 * n + 5) f fd ["self", "place", "around"] (spLooked P w CK CA n) := by
  refine F.ok (k := 4 * n + 4) sc_Kinds_looked_at (fun vs H Q E h => ?_) (fun cdv A outer s H vs Q E hr h => ?_)
  · obtain ⟨kb, R, S, D, r, ts, c, p, t, l, b, k, E, e, rfl, _⟩ := h
    rfl
  obtain ⟨kb, R, S, D, r, ts, c, p, t, l, b, k, E, e, rfl, hK, hA, ht, hk, hdp, hc, he, q⟩ := h
  refine ⟨_, (pss_cons (ps_asg (pe_ix ix_list (pe_fld (pv 0) rfl) (pv 1) (fun _ _ => rfl)) (pg_tup rfl (pgs_cons (pg_name (i := 3) sc_Kinds_looked_at.nd rfl (Or.inl rfl)) (pgs_cons (pg_name (i := 4) sc_Kinds_looked_at.nd rfl (Or.inl rfl)) pgs_nil))))
      (pss_cons (ps_if (pt_cmpR op_ne (pe_wget2 (pe_glob (v := V.ref _) rfl KL.lev rfl) (pe_ix ix_tup (pv 3) pe_int (fun _ _ => rfl)) (pe_fld (pv 2) rfl) ⟨rfl, rfl, rfl, rfl⟩) (pe_fld (pv 2) rfl) (nomark _)) (pss_one ps_never) pss_nil)
      (pss_cons (ps_set (i := 5) sc_Kinds_looked_at.nd rfl (Or.inl rfl) (pe_ix ix_kdict (pe_glob (v := V.ref _) rfl KL.looks rfl) (pe_ix ix_tup (pv 3) pe_int (fun _ _ => rfl)) (fun _ _ => rfl)))
      (pss_one (ps_ret (pe_callK (k := 4 * n + 4) (E := E0) (i := 5) (hr.mono (by first | decide | omega)) rfl (Or.inl rfl) (pa_cons (pv 0) (pa_cons (pv 3) (pa_cons (pv 4) (pa_cons (pv 2) pa_nil)))))))))), ?_⟩
  obtain ⟨dx, hkb⟩ := hK.ins
  have hn := hK.nd
  obtain ⟨ax, nd, kvs, ha, _⟩ := id hA
  obtain ⟨rs, hR, rl, hrs⟩ := hK.rows
  obtain ⟨rw, hd, pl, ps, a1, a2, a3, a4, a6⟩ := hrs p t ht
  refine ⟨_, rfl, kb, CK, dx, _, _, rfl, hkb, TC_Kinds.cl, TC_Kinds.nR, kf_rows _ _ _, _, rfl, R, _, _, _, rfl, rfl, SqL.of hR, atI_n (n := p) rfl a1, ?_⟩
  refine ⟨rw, _, rfl, SqT.of a2, rfl, _, _, rfl, _, _, rfl, rfl, ?_⟩
  have a3' := a3
  rw [t.head_eq] at a3'
  obtain ⟨r0, hr0, hc0⟩ := KL.at' t.w
  refine ⟨DL, rfl, KL.wd, _, rfl, hd, _, _, _, rfl, rfl, SqT.of a3', atI_n (n := 0) rfl rfl, _, rfl, r, CA, ax, _, _, rfl, ha, TC_Around.cl, TC_Around.nL, af_level _ _ _, t.w.str, r0, rfl, hr0, ?_⟩
  refine wg_end (z := .int (lvI l)) ?_ ?_
  · intro u eu
    subst eu
    obtain ⟨z1, z2⟩ := hc0
    rw [kd_level hk z1]
    exact z2
  refine ⟨_, rfl, r, CA, ax, _, _, rfl, ha, TC_Around.cl, TC_Around.nL, af_level _ _ _, rfl, ?_⟩
  refine ⟨_, rfl, iteN (by simp) ?_⟩
  refine ⟨_, rfl, hd, _, _, _, rfl, rfl, SqT.of a3', atI_n (n := 0) rfl rfl, DO, _, _, rfl, rfl, KL.fn t.w, ?_⟩
  exact ⟨FL t.w, _, rfl, HL t.w, _, rfl, _, rfl, _, rfl, _, rfl, kb, R, S, D, r, hd, pl, ts, c, p, ps, t, l, b, k, E, e, rfl, rfl, hK, hA, a3, a4, a6, hk, hdp, hc, he, fun H1 g1 K1 => q H1 g1 K1⟩
theorem ok_kind_at (F : Fun K "kind_at" "Kinds.kind_at" s_Kinds_kind_at f fd) (T : Txt mg) (TC_Kinds : TcK K CK) (TC_Around : TcA K CA) (C_looked_at : CalM P w K mg base CK "looked_at" ["self", "place", "around"] (4 * n + 5) (spLooked P w CK CA n) f1 fd1) : FnOk P w K mg base CX0 (4 * n + 6) f fd ["self", "place", "around"] (spKind P w CK CA (n + 1)) := by
  refine F.ok (k := 4 * n + 5) sc_Kinds_kind_at (fun vs H Q E h => ?_) (fun cdv A outer s H vs Q E hr h => ?_)
  · obtain ⟨kb, R, S, D, r, ts, c, p, t, l, b, k, E, e, rfl, _⟩ := h
    rfl
  obtain ⟨kb, R, S, D, r, ts, c, p, t, l, b, k, E, e, rfl, hK, hA, ht, hk, hdp, hc, he, q⟩ := h
  refine ⟨_, (pss_cons (ps_set (i := 3) sc_Kinds_kind_at.nd rfl (Or.inl rfl) (pe_callTy call_tuple_of (by rfl) T.tuple (by decide +kernel) (pa_cons (pe_lc (own := [("name", 5)]) (g := (gName 5)) (tt := tYes) (te := tDGet1 (tFld K (tVar 2) "names") (tVar 5)) (by rfl) sc_Kinds_kind_at.nd (pi_list (pe_ix ix_list (pe_fld (pv 0) rfl) (pv 1) (fun _ _ => rfl))) (blkOk_by (own := [("name", 5)]) (N := ["self", "place", "around", "meanings", "key", "name"]) (sc := defScope s_Kinds_kind_at) (by decide +kernel)) (fun _ _ _ _ _ => (pg_name (i := 5) sc_Kinds_kind_at.nd rfl (Or.inl rfl))) (fun _ _ _ _ _ => pts_nil) (fun _ _ _ _ _ => (pe_dget1 (hu_of hr) (pe_fld (pv 2) rfl) (pv 5) ⟨rfl, rfl, rfl, rfl⟩))) pa_nil)))
      (pss_cons (ps_set (i := 4) sc_Kinds_kind_at.nd rfl (Or.inl rfl) (pe_tup (pa_cons (pv 1) (pa_cons (pe_fld (pv 2) rfl) (pa_cons (pe_fld (pv 2) rfl) (pa_cons (pv 3) pa_nil))))))
      (pss_cut (ps_if (pt_cmp (pc_knotin (hu9 hr) (pv 4) (pe_fld (pv 0) rfl))) (pss_one (ps_kput (hu9 hr) (pe_fld (pv 0) rfl) (pv 4) (pe_meth (pv 0) TC_Kinds.cl C_looked_at.m C_looked_at.ok (hr.mono (by first | decide | omega)) C_looked_at.b .nil pass0 (pa_cons (pv 1) (pa_cons (pv 2) pa_nil))) rfl)) pss_nil)
      (pss_one (ps_ret (pe_kget (hu9 hr) (pe_fld (pv 0) rfl) (pv 4) (fun _ _ => rfl))))))), ?_⟩
  obtain ⟨dx, hkb⟩ := hK.ins
  have hn := hK.nd
  obtain ⟨ax, nd, kvs, ha, hnd, hkv, hl, hN⟩ := id hA
  obtain ⟨ws, hS, wl, hws⟩ := hK.loose
  obtain ⟨la, hla, hlo⟩ := hws p t ht
  have ha0 : ∀ {H3 : Hp}, Same H H3 → H3 r = some (.ins CA ax (af (.int (lvI l)) (.bl b) (.ref nd))) := fun g => g _ _ ha
  refine ⟨_, rfl, kb, CK, dx, _, _, rfl, hkb, TC_Kinds.cl, TC_Kinds.nL, kf_loose _ _ _, _, rfl, S, _, _, _, rfl, rfl, SqL.of hS, atI_n (n := p) rfl hla, la, rfl, ⟨_, SqL.of hlo⟩, fun M nM => ?_⟩
  refine lc_list (K := K) (a := la) (xs := t.loose.map V.str) (fun j H3 => Same H H3 ∧ ∃ vs, H3 M = some (.lst vs) ∧ vs.length = j ∧ KyAll H3 ((t.loose.take j).map fun x => entK (E x)) vs) ⟨same_new nM _, [], upd_same, rfl, by rw [List.take_zero]; exact .nil⟩ (fun j H3 _ z => SqL.of (z.1 _ _ hlo)) ?_ ?_
  · rintro j y H3 hj ⟨g3, vs, hM, vl, hvs⟩
    rw [List.getElem?_map] at hj
    obtain ⟨x, hx⟩ : ∃ x, t.loose[j]? = some x := by
      cases z : t.loose[j]? with
      | none => rw [z] at hj; cases hj
      | some x => exact ⟨x, rfl⟩
    rw [hx] at hj
    cases hj
    have jl : j < t.loose.length := (List.getElem?_eq_some_iff.mp hx).1
    have ll := t.loose_len
    refine ⟨rfl, _, rfl, r, CA, ax, _, _, rfl, ha0 g3, TC_Around.cl, TC_Around.nN, af_names _ _ _, nd, rfl, .inl ⟨kvs, .inl (g3 _ _ hkv)⟩, _, rfl, _, .inl ⟨kvs, .inr x, .inl (g3 _ _ hkv), rfl, rfl⟩, _, hM, sz9 (by omega), fun b2 o2 z => ?_, _, upd_same, ?_, ?_⟩
    · rw [upd_ne (ne_of_none z nM)]
      exact g3 b2 o2 z
    · rw [List.length_append, vl]; rfl
    · have tM : Tups H3 (upd H3 M (.lst (vs ++ [(valV kvs (.inr x)).getD .non]))) := Tups.put hM
      rw [List.take_add_one, hx, List.map_append]
      refine KyAll.snocK ?_ (KyAll.mono tM _ _ hvs)
      have z := hN x
      cases ex : E x with
      | none =>
        rw [ex] at z
        rw [show valV kvs (.inr x) = none from z]
        show KyAt _ (entK (E x)) _
        rw [ex]
        exact .non
      | some u =>
        rw [ex] at z
        obtain ⟨pu, z1, z2⟩ := z
        rw [z1]
        have tM' := tM
        rw [z1] at tM'
        show KyAt _ (entK (E x)) _
        rw [ex]
        exact .tup (tM' _ _ (g3 _ _ z2)) (mean_key _ u)
  · rintro H3 ⟨g3, vs, hM, vl, hvs⟩
    have e9 : (t.loose.map V.str).length = t.loose.length := List.length_map _
    rw [e9, List.take_length] at hvs
    refine ⟨M, vs, rfl, .inl ⟨SqL.of hM, fun mt nmt => ?_⟩⟩
    have s1 := same_new nmt (.tup vs)
    have g4 := g3.trans s1
    have hmt : upd H3 mt (.tup vs) mt = some (.tup vs) := upd_same
    have hvs4 : KyAll (upd H3 mt (.tup vs)) _ vs := KyAll.mono (.of_same s1) _ _ hvs
    generalize upd H3 mt (.tup vs) = H4 at g4 hmt hvs4 ⊢
    refine ⟨_, rfl, _, rfl, r, CA, ax, _, _, rfl, ha0 g4, TC_Around.cl, TC_Around.nL, af_level _ _ _, _, rfl, r, CA, ax, _, _, rfl, ha0 g4, TC_Around.cl, TC_Around.nB, af_barred _ _ _, _, rfl, sz 4, fun kt nkt => ?_⟩
    have s2 := same_new nkt (.tup [V.int (p : Int), .int (lvI l), .bl b, .ref mt])
    have g5 := g4.trans s2
    have hky : KyAt (upd H4 kt (.tup [V.int (p : Int), .int (lvI l), .bl b, .ref mt])) (keyOf p l b (t.loose.map fun x => entK (E x))) (.ref kt) := .tup upd_same (.cons (.int _) (.cons (.int _) (.cons (.bl _) (.cons (.tup (s2 _ _ hmt) (KyAll.mono (.of_same s2) _ _ hvs4)) .nil))))
    generalize upd H4 kt (.tup [V.int (p : Int), .int (lvI l), .bl b, .ref mt]) = H5 at g5 hky ⊢
    have K5 := hK.same g5
    have hn5 := K5.nd
    have hA5 := hA.same g5
    have hdk := keyOf_deep p l b E t.loose
    have hsz := t.size_parts
    refine ⟨fun σ H' => ∃ o, σ = [some (.ref kb), some (.int (p : Int)), some (.ref r), some (.ref mt), some (.ref kt), o] ∧ But D H H' ∧ KI P w CK H' kb R S D ts (c + t.size) ∧ ∃ xs, IsEx P w H' D xs ∧ KsAt H' xs ∧ KyAt H' (keyOf p l b (t.loose.map fun x => entK (E x))) (.ref kt) ∧ atE xs (keyOf p l b (t.loose.map fun x => entK (E x))) = some (.str (kindS k)), ?_, ?_⟩
    · obtain ⟨xs, m1, m2, m3, m4⟩ := K5.memo
      obtain ⟨dx5, hkb5⟩ := K5.ins
      refine ⟨_, rfl, _, rfl, kb, CK, dx5, _, _, rfl, hkb5, TC_Kinds.cl, TC_Kinds.nK, kf_known _ _ _, D, kt, xs, keyOf p l b (t.loose.map fun x => entK (E x)), rfl, rfl, m1, m2, hky, hdk, _, rfl, ?_⟩
      cases hat : atE xs (keyOf p l b (t.loose.map fun x => entK (E x))) with
      | none =>
        refine iteY (by simp) ?_
        refine ⟨_, rfl, kb, dx5, _, rfl, hkb5, kf_no _ _ _ (by decide +kernel) (by decide +kernel) (by decide +kernel), _, rfl, _, rfl, kb, R, S, D, r, ts, c, p, t, l, b, k, E, e, rfl, K5, hA5, ht, hk, hdp, by omega, he, fun H6 g6 K6 => ?_⟩
        obtain ⟨xs6, n1, n2, n3, n4⟩ := K6.memo
        obtain ⟨dx6, hkb6⟩ := K6.ins
        have hn6 := K6.nd
        have hky6 := KyAt.mono (hn5.tups g6) _ _ hky
        refine ⟨_, rfl, kb, CK, dx6, _, _, rfl, hkb6, TC_Kinds.cl, TC_Kinds.nK, kf_known _ _ _, _, rfl, D, kt, xs6, _, rfl, rfl, n1, n2, hky6, hdk, sz9 (by omega), ?_⟩
        have g7 := But.put D H6 (rawE P w D (putE xs6 (keyOf p l b (t.loose.map fun x => entK (E x))) kt (.str (kindS k))))
        have t7 := hn6.tups g7
        have hky7 := KyAt.mono t7 _ _ hky6
        have hks7 : KsAt (upd H6 D (rawE P w D (putE xs6 (keyOf p l b (t.loose.map fun x => entK (E x))) kt (.str (kindS k))))) (putE xs6 (keyOf p l b (t.loose.map fun x => entK (E x))) kt (.str (kindS k))) := fun y hy => by
          rcases mem_putE hy with z | ⟨z1, _, z3⟩
          · exact (n2.mono t7) y z
          · rw [z1]
            refine ⟨?_, hdk⟩
            rcases z3 with z3 | ⟨y2, y3, y4, y5⟩
            · rw [z3]; exact hky7
            · have w9 := ((n2.mono t7) y2 y3).1
              rw [y4, y5] at w9
              exact w9
        have len7 := putE_len xs6 (keyOf p l b (t.loose.map fun x => entK (E x))) kt (.str (kindS k))
        have tells7 : ∀ y ∈ putE xs6 (keyOf p l b (t.loose.map fun x => entK (E x))) kt (.str (kindS k)), Tells ts y := fun y hy => by
          rcases mem_putE hy with z | ⟨z1, z2, _⟩
          · exact n4 y z
          · exact ⟨p, t, l, b, k, _, z1, ht, z2, fun E' he' => by rw [kd_loose he']; exact hk⟩
        exact ⟨_, rfl, (But.of_same g5).trans (g6.trans g7), K6.keep g7 ⟨_, .inl upd_same, hks7, by omega, tells7⟩, _, .inl upd_same, hks7, hky7, atE_put _ _ _ _⟩
      | some v =>
        refine iteN (by simp) ?_
        obtain ⟨y, hy, e1, e2⟩ := atE_mem hat
        obtain ⟨p', t', l', b', k', ms', f1, f2, f3, f4⟩ := m4 y hy
        rw [e1] at f1
        obtain ⟨j1, j2, j3, j4⟩ := keyOf_inj f1
        subst j1 j2 j3 j4
        rw [ht] at f2
        cases f2
        have f5 := f4 E rfl
        rw [hk] at f5
        cases f5
        exact ⟨_, rfl, .of_same g5, K5.more (by omega), xs, m1, m2, hky, by rw [hat, ← e2, f3]⟩
    · rintro σ H' ⟨o, rfl, gb, K6, xs, m1, m2, m3, m4⟩
      obtain ⟨dx6, hkb6⟩ := K6.ins
      exact ⟨_, rfl, kb, CK, dx6, _, _, rfl, hkb6, TC_Kinds.cl, TC_Kinds.nK, kf_known _ _ _, _, rfl, D, kt, xs, _, .str (kindS k), rfl, rfl, m1, m2, m3, hdk, m4, q H' gb K6⟩
end

/-! ### kind_of -/
def spKindOf : Sp := fun vs H Q _ => ∃ (t : Tm) (v : V) (k : Bool), vs = [v] ∧ TmAt H t v ∧ t.Ok ∧ t.deep ≤ 18 ∧ t.size ≤ 900000 ∧ kd t false Env.nil true = .ok k ∧ ∀ H', Same H H' → Q (.str (kindS k)) H'
abbrev s_kind_of : Stmt := topS 18
theorem sc_kind_of : FnScope ["term", "rows"] ["term"] (defScope s_kind_of) := ⟨rfl, rfl, rfl, by decide +kernel, rfl, by decide +kernel, by decide +kernel⟩
theorem RowsAt.lists {H : Hp} {R : Addr} {ts : List Tm} {Ps : List Addr} (h : RowsAt H R ts Ps) : ∃ Ps', RowsAt H R ts Ps' ∧ ∀ p ∈ Ps', ∃ ys, H p = some (.lst ys) := by
  classical
  obtain ⟨rs, h1, h2, h3⟩ := h
  refine ⟨Ps.filter fun p => decide (∃ ys, H p = some (.lst ys)), ⟨rs, h1, h2, fun i t hi => ?_⟩, fun p hp => of_decide_eq_true (List.mem_filter.mp hp).2⟩
  obtain ⟨r, h, pl, ps, a1, a2, a3, a4, a5, a6⟩ := h3 i t hi
  exact ⟨r, h, pl, ps, a1, a2, a3, a4, List.mem_filter.mpr ⟨a5, decide_eq_true ⟨_, a4⟩⟩, a6⟩
theorem RowK.move {H H' : Hp} {R : Addr} {ts : List Tm} (m : ∀ b o, ((∃ ys, o = HO.lst ys) ∨ ∃ ys, o = HO.tup ys) → H b = some o → H' b = some o) (h : RowK H R ts) : RowK H' R ts := by
  obtain ⟨rs, h1, h2, h3⟩ := h
  refine ⟨rs, m _ _ (.inl ⟨_, rfl⟩) h1, h2, fun i t hi => ?_⟩
  obtain ⟨r, h, pl, ps, a1, a2, a3, a4, a6⟩ := h3 i t hi
  exact ⟨r, h, pl, ps, a1, m _ _ (.inr ⟨_, rfl⟩) a2, m _ _ (.inr ⟨_, rfl⟩) a3, m _ _ (.inl ⟨_, rfl⟩) a4, a6⟩
section
variable {P : Program} {w : World} {K : PySem.W.Frag} {mg : Str → Option Value} {base : Heap} {CK CA C DL DO f f1 f2 f3 f4 f5 f6 f7 f8 g : Addr} {FL : W → Addr} {fd fd1 fd2 fd3 fd4 fd5 fd6 fd7 fd8 fg : FuncData} {n : Nat}
theorem ok_kin_init (F : Fun K "__init__" "Kinds.__init__" s_Kinds_init f fd) (TC_Kinds : TcK K CK) (C_loose_in_rows : Cal P w K mg base "loose_in_rows" ["rows"] 3 spLooseRows f1 fd1) : FnOk P w K mg base CX0 4 f fd ["self", "rows"] (spKinInit P w CK) := by
  refine F.ok (k := 3) sc_Kinds_init (fun vs H Q E h => ?_) (fun cdv A outer s H vs Q E hr h => ?_)
  · obtain ⟨p, dx, R, ts, Ps, rfl, _⟩ := h
    rfl
  obtain ⟨p, dx, R, ts, Ps, rfl, hp, hR, hl, hall, q⟩ := h
  refine ⟨_, (pss_cons (ps_fld (pv 0) (pv 1) rfl)
      (pss_cons (ps_fld (pv 0) (pe_call C_loose_in_rows.ok (hr.mono (by first | decide | omega)) rfl C_loose_in_rows.m C_loose_in_rows.kp C_loose_in_rows.b .nil pass0 (pa_cons (pv 1) pa_nil)) rfl)
      (pss_one (ps_fld (pv 0) pe_dnewK rfl)))), ?_⟩
  obtain ⟨Ps', hR', hPs⟩ := hR.lists
  have hRK := hR.rowK
  obtain ⟨rs, hRl, _⟩ := id hRK
  have pR : R ≠ p := fun z => by rw [z, hp] at hRl; cases hRl
  refine ⟨_, rfl, _, rfl, p, CK, dx, _, rfl, hp, TC_Kinds.cl, TC_Kinds.nR, by show 0 < 1000; decide, ?_⟩
  have k1 : Keeps R [] Ps' H (upd H p (.ins CK dx (putF "rows" (.ref R) []))) := fun b o h z => by
    rw [upd_ne fun e => ?_]
    · exact h
    · rw [e, hp] at h
      cases h
      rcases z with z | z | z | ⟨ys, z⟩
      · exact pR (z.symm.trans e)
      · cases z
      · obtain ⟨ys, y⟩ := hPs _ z
        rw [e, hp] at y
        cases y
      · cases z
  have hR1 := hR'.keep k1
  have hp1 : upd H p (.ins CK dx (putF "rows" (.ref R) [])) p = some (.ins CK dx (putF "rows" (.ref R) [])) := upd_same
  have m1 : ∀ b o, b ≠ p → H b = some o → upd H p (.ins CK dx (putF "rows" (.ref R) [])) b = some o := fun b o n h => by rw [upd_ne n]; exact h
  have f1 : ∀ b, upd H p (.ins CK dx (putF "rows" (.ref R) [])) b = none → H b = none := fun b h => by
    have n : b ≠ p := fun e => by rw [e, upd_same] at h; cases h
    rw [upd_ne n] at h
    exact h
  generalize upd H p (.ins CK dx (putF "rows" (.ref R) [])) = H1 at hR1 hp1 m1 f1 ⊢
  refine ⟨_, rfl, R, ts, Ps', rfl, hR1, hl, hall, fun S ws H2 nS e2 hS hvs hnew => ?_⟩
  have hp2 := e2 _ _ hp1
  have Sp : S ≠ p := fun e => by rw [e, hp1] at nS; cases nS
  refine ⟨_, rfl, p, CK, dx, _, rfl, hp2, TC_Kinds.cl, TC_Kinds.nL, putG_few (n := 0) (Nat.le_refl _), fun D nD => ?_⟩
  have Dp : D ≠ p := fun e => by rw [e, upd_same] at nD; cases nD
  rw [upd_ne Dp] at nD
  refine ⟨_, rfl, p, CK, dx, _, rfl, by rw [upd_ne Dp.symm]; exact upd_same, TC_Kinds.cl, TC_Kinds.nK, putG_few (n := 1) (length_putF _ _ _), ?_⟩
  have mv : ∀ b o, b ≠ p → H2 b = some o → upd (upd (upd H2 p (.ins CK dx (putF "loose" (.ref S) (putF "rows" (.ref R) [])))) D (.dK [])) p (.ins CK dx (kf R S D)) b = some o := fun b o n h => by
    rw [upd_ne n, upd_ne (ne_of_none h nD), upd_ne n]
    exact h
  refine q S D _ (fun b o n h => mv b o n (e2 _ _ (m1 b o n h))) ⟨⟨dx, upd_same⟩, hRK.move fun b o z h => ?_, ⟨ws, mv _ _ Sp hS, ?_, fun i t hi => ?_⟩, ⟨hl, hall⟩, [], .inr ⟨by rw [upd_ne Dp, upd_same], rfl⟩, fun x hx => (by cases hx), Nat.le_refl _, fun x hx => (by cases hx)⟩ (f1 _ (e2.free nD))
  · have n : b ≠ p := fun e => by
      rw [e, hp] at h
      cases h
      rcases z with ⟨_, z⟩ | ⟨_, z⟩ <;> cases z
    exact mv b o n (e2 _ _ (m1 b o n h))
  · have z := hvs.len
    rw [List.length_map] at z
    exact z
  · obtain ⟨a, a1, _, a3⟩ := hvs.get (i := i) (l := t.loose) (by rw [List.getElem?_map, hi]; rfl)
    refine ⟨a, a1, mv a _ (fun e => ?_) a3⟩
    rw [e, hp2] at a3
    cases a3
theorem ok_kind_of (F : Fun K "kind_of" "kind_of" s_kind_of f fd) (TC_Kinds : TcK K CK) (TC_Around : TcA K CA) (C_rows_of : Cal P w K mg base "rows_of" ["term"] 65 spRows f1 fd1) (MK_Kinds : CalC P w K mg base "Kinds" CK ["self", "rows"] 4 (spKinInit P w CK) f2 fd2)
    (MK_Around : CalC P w K mg base "Around" CA ["self", "level", "barred", "names"] 1 (spArInit CA) f3 fd3) (C_kind_at : CalM P w K mg base CK "kind_at" ["self", "place", "around"] 74 (spKind P w CK CA 18) f4 fd4) (T : Txt mg) : FnOk P w K mg base CX0 75 f fd ["term"] spKindOf := by
  refine F.ok (k := 74) sc_kind_of (fun vs H Q E h => ?_) (fun cdv A outer s H vs Q E hr h => ?_)
  · obtain ⟨t, v, k, rfl, _⟩ := h
    rfl
  obtain ⟨t, v, k, rfl, ht, hok, hd, hz, hk, q⟩ := h
  refine ⟨_, (pss_cons (ps_set (i := 1) sc_kind_of.nd rfl (Or.inl rfl) (pe_call C_rows_of.ok (hr.mono (by first | decide | omega)) rfl C_rows_of.m C_rows_of.kp C_rows_of.b .nil pass0 (pa_cons (pv 0) pa_nil)))
      (pss_one (ps_ret (pe_meth (pe_make MK_Kinds.mkr MK_Kinds.ok (hr.mono (by first | decide | omega)) rfl MK_Kinds.m MK_Kinds.b .nil pass0 (pa_cons (pv 1) pa_nil)) TC_Kinds.cl C_kind_at.m C_kind_at.ok (hr.mono (by first | decide | omega)) C_kind_at.b .nil pass0 (pa_cons (pe_op op_sub (pe_callB call_len_seq (by rfl) T.len PySem.boot_len (pa_cons (pv 1) pa_nil)) pe_int) (pa_cons (pe_make MK_Around.mkr MK_Around.ok (hr.mono (by first | decide | omega)) rfl MK_Around.m MK_Around.b .nil pass0 (pa_cons pe_int (pa_cons pe_bl (pa_cons pe_dnewK pa_nil)))) pa_nil)))))), ?_⟩
  refine ⟨_, rfl, t, v, rfl, ht, hok, by omega, hz, fun R ts Ps H1 e1 hrows nR nP hl hlast hall => ?_⟩
  refine ⟨_, rfl, fun x dx nx ndx ne => ?_⟩
  have sx : Same H1 (upd (upd H1 dx (.own x)) x (.ins CK dx [])) := fun b o z => by rw [upd_ne (ne_of_none z nx), upd_ne (ne_of_none z ndx)]; exact z
  have hrows' := hrows.keep (Keeps.of_same (Ls := []) sx)
  refine ⟨x, dx, R, ts, Ps, rfl, upd_same, hrows', by omega, fun u hu => Nat.le_trans (hall u hu) hz, fun S D H2 k2 K2 nD => ⟨rfl, ?_⟩⟩
  have e12 : Same H1 H2 := fun b o z => k2 b o (ne_of_none z nx) (sx b o z)
  obtain ⟨dx2, hx2⟩ := K2.ins
  obtain ⟨rs, hR2, rl, _⟩ := id K2.rows
  have n2 := K2.nd
  obtain ⟨more, em⟩ := hlast
  have lt : ts.length = more.length + 1 := by rw [em, List.length_append]; rfl
  refine ⟨x, dx2, _, rfl, hx2, kf_no _ _ _ (by decide +kernel) (by decide +kernel) (by decide +kernel), _, rfl, R, rs, rfl, .inl (SqL.of hR2), _, _, rfl, rfl, fun nd nnd => ?_⟩
  have s3 := same_new nnd (.dK [])
  refine fun r ax nr nax nrax => ⟨r, ax, _, _, _, rfl, upd_same, fun H4 k4 hr4 => ⟨rfl, ?_⟩⟩
  have s4 : Same (upd H2 nd (.dK [])) H4 := made_same nr nax k4
  have e24 := s3.trans s4
  have hA : Ard CA H4 D r false false Env.nil 0 := by
    refine ⟨ax, nd, [], hr4, fun e => ?_, s4 _ _ upd_same, Nat.le_refl _, fun y => rfl⟩
    obtain ⟨o, ho, _⟩ := n2
    rw [← e, nnd] at ho
    cases ho
  have htl : ts[more.length]? = some t := by rw [em, List.getElem?_append_right (Nat.le_refl _), Nat.sub_self]; rfl
  refine ⟨x, R, S, D, r, ts, 0, more.length, t, false, false, k, Env.nil, 0, by simp; omega, K2.same e24, hA, htl, hk, hd, by omega, by omega, fun H5 g5 _ => ?_⟩
  have nD1 : H1 D = none := sx.free nD
  exact q H5 fun b o z => g5 b o (ne_of_none (e1 _ _ z) nD1) (e24 _ _ (e12 _ _ (e1 _ _ z)))
end

/-! ### k05's law -/
abbrev s_law_kind_of : Stmt := topS 47
theorem sc_law_kind_of : FnScope ["_law_term_here"] ["_law_term_here"] (defScope s_law_kind_of) := ⟨rfl, rfl, rfl, by decide +kernel, rfl, by decide +kernel, by decide +kernel⟩
def spLaw (K : PySem.W.Frag) : Sp := fun vs H Q _ => ∃ a : Addr, vs = [.ref a] ∧ Ints K H a ∧ ∀ H', Q (.bl true) H'
abbrev s_law : Stmt := topS 48
theorem sc_law : FnScope ["_law_script", "_law_kind", "_law_term_here", "_law_other"] ["_law_script"] (defScope s_law) := ⟨rfl, rfl, rfl, by decide +kernel, rfl, by decide +kernel, by decide +kernel⟩
theorem all_kind {P : Program} {w : World} {K : PySem.W.Frag} {mg : Str → Option Value} {base : Heap} {CK CA f : Addr} {fd : FuncData} (F : Fun K "kind_at" "Kinds.kind_at" s_Kinds_kind_at f fd)
    (step : ∀ n, FnOk P w K mg base CX0 (4 * n + 2) f fd ["self", "place", "around"] (spKind P w CK CA n) → FnOk P w K mg base CX0 (4 * n + 6) f fd ["self", "place", "around"] (spKind P w CK CA (n + 1))) : ∀ n, FnOk P w K mg base CX0 (4 * n + 2) f fd ["self", "place", "around"] (spKind P w CK CA n)
  | 0 => fn_none fun vs H Q E h => by
      obtain ⟨kb, R, S, D, r, ts, c, p, t, l, b, k, E, e, _, _, _, _, _, h0, _⟩ := h
      cases t <;> simp only [Tm.deep] at h0 <;> omega
  | n + 1 => step n (all_kind F step n)
section
variable {P : Program} {w : World} {K : PySem.W.Frag} {mg : Str → Option Value} {base : Heap} {f f1 f2 f3 f4 f5 f6 f7 f8 f9 : Addr} {fd fd1 fd2 fd3 fd4 fd5 fd6 fd7 fd8 fd9 : FuncData}
theorem ok_law_kind_of (F : Fun K "_law_kind_of" "_law_kind_of" s_law_kind_of f fd) (C_kind_of : Cal P w K mg base "kind_of" ["term"] 75 spKindOf f1 fd1) : FnOk P w K mg base CX0 76 f fd ["_law_term_here"] spKindOf := by
  refine F.ok (k := 75) sc_law_kind_of (fun vs H Q E h => ?_) (fun cdv A outer s H vs Q E hr h => ?_)
  · obtain ⟨t, v, k, rfl, _⟩ := h
    rfl
  obtain ⟨t, v, k, rfl, ht, hok, hd, hz, hk, q⟩ := h
  refine ⟨_, (pss_one (ps_try_thru0 (pss_one (ps_ret (pe_call C_kind_of.ok (hr.mono (by first | decide | omega)) rfl C_kind_of.m C_kind_of.kp C_kind_of.b .nil pass0 (pa_cons (pv 0) pa_nil)))))), ?_⟩
  exact ⟨_, rfl, t, v, k, rfl, ht, hok, hd, hz, hk, q⟩
theorem ok_law (F : Fun K "law" "law" s_law f fd) (T : Txt mg) (C_law_mixed : Cal P w K mg base "_law_mixed" ["_law_script", "_law_k"] 2 (spMixed K) f1 fd1) (C_law_term : Cal P w K mg base "_law_term" ["_law_script", "_law_state", "_law_level", "_law_kind", "_law_scope", "_law_depth", "_law_free"] 22 (spTerm K 6) f2 fd2)
    (C_law_kind_of : Cal P w K mg base "_law_kind_of" ["_law_term_here"] 76 spKindOf f3 fd3) : FnOk P w K mg base CX0 77 f fd ["_law_script"] (spLaw K) := by
  refine F.ok sc_law (fun vs H Q E h => ?_) (fun cdv A outer s H vs Q E hr h => ?_)
  · obtain ⟨a, rfl, _⟩ := h
    rfl
  obtain ⟨a, rfl, hI, q⟩ := h
  refine ⟨_, (pss_cons (ps_set (i := 1) sc_law.nd rfl (Or.inl rfl) (pe_ix ix_list (pe_lst (pa_cons pe_str (pa_cons pe_str pa_nil))) (pe_op op_mod (pe_call C_law_mixed.ok (hr.mono (by first | decide | omega)) rfl C_law_mixed.m C_law_mixed.kp C_law_mixed.b .nil pass0 (pa_cons (pv 0) (pa_cons pe_int pa_nil))) pe_int) (fun _ _ => rfl)))
      (pss_cons (ps_set (i := 2) sc_law.nd rfl (Or.inl rfl) (pe_call C_law_term.ok (hr.mono (by first | decide | omega)) rfl C_law_term.m C_law_term.kp C_law_term.b .nil pass0 (pa_cons (pv 0) (pa_cons (pe_lst (pa_cons pe_int (pa_cons pe_int pa_nil))) (pa_cons pe_int (pa_cons (pv 1) (pa_cons (pe_lst pa_nil) (pa_cons (pe_op op_sub pe_int (pe_op op_fdiv (pe_op op_mod (pe_op op_fdiv (pe_call C_law_mixed.ok (hr.mono (by first | decide | omega)) rfl C_law_mixed.m C_law_mixed.kp C_law_mixed.b .nil pass0 (pa_cons (pv 0) (pa_cons pe_int pa_nil))) pe_int) pe_int) pe_int)) (pa_cons pe_bl pa_nil)))))))))
      (pss_cons (ps_if (pt_cmpR op_ne (pe_call C_law_kind_of.ok (hr.mono (by first | decide | omega)) rfl C_law_kind_of.m C_law_kind_of.kp C_law_kind_of.b .nil pass0 (pa_cons (pv 2) pa_nil)) (pv 1) (nomark _)) (pss_one (ps_ret pe_bl)) pss_nil)
      (pss_cons (ps_if (pt_cmpR op_eq (pv 1) pe_str (nomark _)) (pss_one (ps_ret (pe_and (pe_cmpR op_eq (pe_call C_law_kind_of.ok (hr.mono (by first | decide | omega)) rfl C_law_kind_of.m C_law_kind_of.kp C_law_kind_of.b .nil pass0 (pa_cons (pe_tup (pa_cons pe_str (pa_cons (pv 2) pa_nil))) pa_nil)) pe_str (nomark _)) (pe_one (pe_cmpR op_eq (pe_call C_law_kind_of.ok (hr.mono (by first | decide | omega)) rfl C_law_kind_of.m C_law_kind_of.kp C_law_kind_of.b .nil pass0 (pa_cons (pv 2) pa_nil)) (pv 1) (nomark _)))))) pss_nil)
      (pss_cons (ps_set (i := 3) sc_law.nd rfl (Or.inl rfl) (pe_tup (pa_cons pe_str (pa_cons (pe_tup (pa_cons pe_str (pa_cons (pe_tup (pa_cons pe_str (pa_cons (pe_tup (pa_cons pe_str (pa_cons pe_int pa_nil))) pa_nil))) pa_nil))) pa_nil))))
      (pss_one (ps_ret (pe_and (pe_cmpR op_eq (pe_call C_law_kind_of.ok (hr.mono (by first | decide | omega)) rfl C_law_kind_of.m C_law_kind_of.kp C_law_kind_of.b .nil pass0 (pa_cons (pe_tup (pa_cons pe_str (pa_cons (pv 2) pa_nil))) pa_nil)) pe_str (nomark _)) (pe_one (pe_cmpR op_eq (pe_call C_law_kind_of.ok (hr.mono (by first | decide | omega)) rfl C_law_kind_of.m C_law_kind_of.kp C_law_kind_of.b .nil pass0 (pa_cons (pv 3) pa_nil)) pe_str (nomark _))))))))))), ?_⟩
  refine ⟨sz 2, fun L nL => ?_⟩
  have s1 := same_new nL (.lst [V.str "number", .str "piece"])
  have hL : upd H L (.lst [V.str "number", .str "piece"]) L = some (.lst [V.str "number", .str "piece"]) := upd_same
  generalize upd H L (.lst [V.str "number", .str "piece"]) = H1 at s1 hL ⊢
  have hI1 := hI.same s1
  refine ⟨_, rfl, a, 1, rfl, hI1, by decide, fun m m0 m1 => ?_⟩
  obtain ⟨kk, hkk⟩ : ∃ kk : Bool, atI [V.str "number", .str "piece"] (m % 2) = some (.str (kindS kk)) := by
    rcases Int.emod_two_eq m with h | h
    · exact ⟨false, atI_n (n := 0) h rfl⟩
    · exact ⟨true, atI_n (n := 1) h rfl⟩
  refine ⟨_, _, rfl, rfl, (by show (0 : Int) < _; decide), L, _, _, _, rfl, rfl, SqL.of hL, hkk, ?_⟩
  refine ⟨_, rfl, sz 2, fun st nst => ⟨_, rfl, sz 0, fun sa nsa => ?_⟩⟩
  have g1 := same_new nst (.lst [V.int 1, .int 0])
  have g2 := same_new nsa (.lst [])
  have s2 := g1.trans g2
  have hst := g2 _ _ (show upd H1 st (.lst [V.int 1, .int 0]) st = some (.lst [V.int 1, .int 0]) from upd_same)
  have hsa : upd (upd H1 st (.lst [V.int 1, .int 0])) sa (.lst []) sa = some (.lst []) := upd_same
  generalize upd (upd H1 st (.lst [V.int 1, .int 0])) sa (.lst []) = H2 at s2 hst hsa ⊢
  have hI2 := hI1.same s2
  refine ⟨_, rfl, a, 1, rfl, hI2, by decide, fun m2 m20 m21 => ?_⟩
  refine ⟨_, _, rfl, rfl, ⟨by decide, by decide⟩, _, _, rfl, rfl, (by show (0 : Int) < _; decide), _, _, rfl, rfl, ⟨by decide, by decide⟩, _, _, rfl, rfl, ?_⟩
  obtain ⟨e, he, he5⟩ : ∃ e : Nat, (5 : Int) - m2 / 2 % 8 / 3 = (e : Int) ∧ e ≤ 5 := ⟨(5 - m2 / 2 % 8 / 3).toNat, by omega, by omega⟩
  refine ⟨a, st, sa, false, kk, true, [], [], 1, 0, _, e, rfl, hI2, hst, by decide, hsa, True.intro, ⟨(fun _ h => nomatch h), (fun _ h => nomatch h)⟩, by show 0 + 4 * e ≤ 60; omega, he, by omega, (fun z => nomatch z), fun t tv c' m' H3 b3 st3 hc' ht hg hk => ?_⟩
  have hd16 : t.deep ≤ 16 := Nat.le_trans hg.deep (dB_mono he5)
  have hz : t.size ≤ 2000 := Nat.le_trans (Nat.le_trans hg.size (sB_mono he5)) (by decide)
  have hk' : kd t false Env.nil true = .ok kk := hk
  refine ⟨_, rfl, t, tv, kk, rfl, ht, hg.ok, by omega, by omega, hk', fun H4 e4 => ⟨_, rfl, rfl, ?_⟩⟩
  refine ⟨_, rfl, iteN (by simp) ?_⟩
  have ht4 := ht.mono (.of_same e4)
  refine ⟨_, rfl, rfl, ?_⟩
  cases kk with
  | true =>
    refine ⟨_, rfl, iteY (by decide) ⟨_, rfl, sz 2, fun p np => ?_⟩⟩
    have s5 := same_new np (.tup [V.str "run", tv])
    have hT : TmAt (upd H4 p (.tup [V.str "run", tv])) (.un .run t) (.ref p) := ⟨p, _, rfl, upd_same, ht4.mono (.of_same s5)⟩
    have ht5 := ht4.mono (.of_same s5)
    generalize upd H4 p (.tup [V.str "run", tv]) = H5 at hT ht5 ⊢
    refine ⟨.un .run t, _, false, rfl, hT, hg.ok, by simp only [Tm.deep]; omega, by simp only [Tm.size]; omega, by simp [kd, hk', Kd.want, Kd.and], fun H6 e6 => ⟨rfl, _, rfl, iteY (by decide) ⟨_, rfl, t, tv, true, rfl, ht5.mono (.of_same e6), hg.ok, by omega, by omega, hk', fun H7 e7 => ⟨_, rfl, rfl, ?_⟩⟩⟩⟩
    exact q _
  | false =>
    refine ⟨_, rfl, iteN (by decide) ⟨sz 2, fun p1 n1 => ⟨sz 2, fun p2 n2 => ⟨sz 2, fun p3 n3 => ⟨sz 2, fun p4 n4 => ?_⟩⟩⟩⟩⟩
    have k1 := same_new n1 (.tup [V.str "num", .int 1])
    have k2 := same_new n2 (.tup [V.str "lift", .ref p1])
    have k3 := same_new n3 (.tup [V.str "hole", .ref p2])
    have k4 := same_new n4 (.tup [V.str "quote", .ref p3])
    have k14 := k1.trans (k2.trans (k3.trans k4))
    have hO : TmAt (upd (upd (upd (upd H4 p1 (.tup [V.str "num", .int 1])) p2 (.tup [V.str "lift", .ref p1])) p3 (.tup [V.str "hole", .ref p2])) p4 (.tup [V.str "quote", .ref p3])) (.un .quote (.un .hole (.un .lift (.num 1)))) (.ref p4) :=
      ⟨p4, _, rfl, upd_same, p3, _, rfl, k4 _ _ upd_same, p2, _, rfl, k4 _ _ (k3 _ _ upd_same), p1, rfl, k4 _ _ (k3 _ _ (k2 _ _ upd_same))⟩
    have ht5 := ht4.mono (.of_same k14)
    generalize upd (upd (upd (upd H4 p1 (.tup [V.str "num", .int 1])) p2 (.tup [V.str "lift", .ref p1])) p3 (.tup [V.str "hole", .ref p2])) p4 (.tup [V.str "quote", .ref p3]) = H5 at hO ht5 ⊢
    refine ⟨_, rfl, sz 2, fun p np => ?_⟩
    have s5 := same_new np (.tup [V.str "lift", tv])
    have hT : TmAt (upd H5 p (.tup [V.str "lift", tv])) (.un .lift t) (.ref p) := ⟨p, _, rfl, upd_same, ht5.mono (.of_same s5)⟩
    have hO6 := hO.mono (.of_same s5)
    generalize upd H5 p (.tup [V.str "lift", tv]) = H6 at hT hO6 ⊢
    refine ⟨.un .lift t, _, true, rfl, hT, hg.ok, by simp only [Tm.deep]; omega, by simp only [Tm.size]; omega, by simp [kd, hk', Kd.want, Kd.and], fun H7 e7 => ⟨rfl, _, rfl, iteY (by decide) ⟨_, rfl, .un .quote (.un .hole (.un .lift (.num 1))), _, true, rfl, hO6.mono (.of_same e7), True.intro, by decide, by decide, rfl, fun H8 e8 => ⟨rfl, ?_⟩⟩⟩⟩
    exact q _
end

/-! ### the program's top: what stands where -/
theorem Tm.deep_pos (t : Tm) : 1 ≤ t.deep := by
  cases t <;> simp only [Tm.deep] <;> omega
section
variable {P : Program} {w : World} {K : PySem.W.Frag} {mg : Str → Option Value} {base : Heap} {pa C f f1 f2 f3 f4 f5 f6 f7 f8 : Addr} {fd fd1 fd2 fd3 fd4 fd5 fd6 fd7 fd8 : FuncData}
theorem all_place (F : Fun K "place_of" "TermTable.place_of" s_TermTable_place_of f fd) (T : Txt mg) (TC : TxtC K C)
    (C_ends_of : Cal P w K mg base "ends_of" ["term"] 3 spEnds f1 fd1) (C_head_of : Cal P w K mg base "head_of" ["term"] 1 spHead f2 fd2) (C_parts_of : Cal P w K mg base "parts_of" ["term"] 1 spPartsOf f3 fd3)
    (m : Meth K C "place_of" f) (b : Binds K fd ["self", "term"] []) : ∀ n, FnOk P w K mg base CX0 (4 + n) f fd ["self", "term"] (spPlace P w C n)
  | 0 => fn_none fun vs H Q E h => by
    obtain ⟨tb, R, D, ts, Ls, Ps, cnt, t, v, _, _, _, _, h0, _⟩ := h
    have := t.deep_pos
    omega
  | n + 1 => ok_place F T TC C_ends_of C_head_of C_parts_of ⟨all_place F T TC C_ends_of C_head_of C_parts_of m b n, m, b⟩
end
set_option maxHeartbeats 0 in
theorem all_mk {l : PySem.W.OpenLaw} {w : World} {K : PySem.W.Frag} {h : Heap} {mg : Str → Option Value} {fa : Addr} (X : K.In h) (G : h.Ns mainGlobals mg) (hfa : mg "law" = some (.ref fa))
    {C_HallError C_NoName C_WrongLevel C_WrongKind C_TermTable C_Around C_Kinds f_loose_in_rows f_loose_names f_bound_in_parts f_head_of f_parts_of f_rows_of f_TermTable_init f_TermTable_place_of f_ends_of f_edge_of f_kind_of f_Around_init f_Around_within_quote f_Around_within_hole f_Around_with_value f_Around_with_function f_Around_within_function f_Around_meaning_of f_Kinds_init f_Kinds_kind_at f_Kinds_looked_at f_Kinds_want f_look_at_num f_look_at_name f_look_at_numbers f_look_at_when f_look_at_let f_look_at_turns f_look_at_def f_look_at_use f_look_at_quote f_look_at_hole f_look_at_lift f_look_at_run f_law_cell_at f_law_mixed f_law_name f_law_next f_law_number f_law_seen f_law_leaf f_law_words f_law_term f_law_twice f_law_bound f_law_kind_of f_law D_PARTS_AT D_LEVEL_OF D_LOOKS : Addr}
    {od_loose_in_rows an_loose_in_rows od_loose_names an_loose_names od_bound_in_parts an_bound_in_parts od_head_of an_head_of od_parts_of an_parts_of od_rows_of an_rows_of od_TermTable_init an_TermTable_init od_TermTable_place_of an_TermTable_place_of od_ends_of an_ends_of od_edge_of an_edge_of od_kind_of an_kind_of od_Around_init an_Around_init od_Around_within_quote an_Around_within_quote od_Around_within_hole an_Around_within_hole od_Around_with_value an_Around_with_value od_Around_with_function an_Around_with_function od_Around_within_function an_Around_within_function od_Around_meaning_of an_Around_meaning_of od_Kinds_init an_Kinds_init od_Kinds_kind_at an_Kinds_kind_at od_Kinds_looked_at an_Kinds_looked_at od_Kinds_want an_Kinds_want od_look_at_num an_look_at_num od_look_at_name an_look_at_name od_look_at_numbers an_look_at_numbers od_look_at_when an_look_at_when od_look_at_let an_look_at_let od_look_at_turns an_look_at_turns od_look_at_def an_look_at_def od_look_at_use an_look_at_use od_look_at_quote an_look_at_quote od_look_at_hole an_look_at_hole od_look_at_lift an_look_at_lift od_look_at_run an_look_at_run od_law_cell_at an_law_cell_at od_law_mixed an_law_mixed od_law_name an_law_name od_law_next an_law_next od_law_number an_law_number od_law_seen an_law_seen od_law_leaf an_law_leaf od_law_words an_law_words od_law_term an_law_term od_law_twice an_law_twice od_law_bound an_law_bound od_law_kind_of an_law_kind_of od_law an_law : Option Addr}
    {sl_loose_in_rows sl_loose_names sl_bound_in_parts sl_head_of sl_parts_of sl_rows_of sl_TermTable_init sl_TermTable_place_of sl_ends_of sl_edge_of sl_kind_of sl_Around_init sl_Around_within_quote sl_Around_within_hole sl_Around_with_value sl_Around_with_function sl_Around_within_function sl_Around_meaning_of sl_Kinds_init sl_Kinds_kind_at sl_Kinds_looked_at sl_Kinds_want sl_look_at_num sl_look_at_name sl_look_at_numbers sl_look_at_when sl_look_at_let sl_look_at_turns sl_look_at_def sl_look_at_use sl_look_at_quote sl_look_at_hole sl_look_at_lift sl_look_at_run sl_law_cell_at sl_law_mixed sl_law_name sl_law_next sl_law_number sl_law_seen sl_law_leaf sl_law_words sl_law_term sl_law_twice sl_law_bound sl_law_kind_of sl_law : Array (Option Value)}
    {oc_loose_in_rows kV_loose_in_rows dc_loose_in_rows pm_loose_in_rows cd_loose_in_rows ct_loose_in_rows oc_loose_names kV_loose_names dc_loose_names pm_loose_names cd_loose_names ct_loose_names oc_bound_in_parts kV_bound_in_parts dc_bound_in_parts pm_bound_in_parts cd_bound_in_parts ct_bound_in_parts oc_head_of kV_head_of dc_head_of pm_head_of cd_head_of ct_head_of oc_parts_of kV_parts_of dc_parts_of pm_parts_of cd_parts_of ct_parts_of oc_rows_of kV_rows_of dc_rows_of pm_rows_of cd_rows_of ct_rows_of oc_TermTable_init kV_TermTable_init dc_TermTable_init pm_TermTable_init cd_TermTable_init ct_TermTable_init oc_TermTable_place_of kV_TermTable_place_of dc_TermTable_place_of pm_TermTable_place_of cd_TermTable_place_of ct_TermTable_place_of oc_ends_of kV_ends_of dc_ends_of pm_ends_of cd_ends_of ct_ends_of oc_edge_of kV_edge_of dc_edge_of pm_edge_of cd_edge_of ct_edge_of oc_kind_of kV_kind_of dc_kind_of pm_kind_of cd_kind_of ct_kind_of oc_Around_init kV_Around_init dc_Around_init pm_Around_init cd_Around_init ct_Around_init oc_Around_within_quote kV_Around_within_quote dc_Around_within_quote pm_Around_within_quote cd_Around_within_quote ct_Around_within_quote oc_Around_within_hole kV_Around_within_hole dc_Around_within_hole pm_Around_within_hole cd_Around_within_hole ct_Around_within_hole oc_Around_with_value kV_Around_with_value dc_Around_with_value pm_Around_with_value cd_Around_with_value ct_Around_with_value oc_Around_with_function kV_Around_with_function dc_Around_with_function pm_Around_with_function cd_Around_with_function ct_Around_with_function oc_Around_within_function kV_Around_within_function dc_Around_within_function pm_Around_within_function cd_Around_within_function ct_Around_within_function oc_Around_meaning_of kV_Around_meaning_of dc_Around_meaning_of pm_Around_meaning_of cd_Around_meaning_of ct_Around_meaning_of oc_Kinds_init kV_Kinds_init dc_Kinds_init pm_Kinds_init cd_Kinds_init ct_Kinds_init oc_Kinds_kind_at kV_Kinds_kind_at dc_Kinds_kind_at pm_Kinds_kind_at cd_Kinds_kind_at ct_Kinds_kind_at oc_Kinds_looked_at kV_Kinds_looked_at dc_Kinds_looked_at pm_Kinds_looked_at cd_Kinds_looked_at ct_Kinds_looked_at oc_Kinds_want kV_Kinds_want dc_Kinds_want pm_Kinds_want cd_Kinds_want ct_Kinds_want oc_look_at_num kV_look_at_num dc_look_at_num pm_look_at_num cd_look_at_num ct_look_at_num oc_look_at_name kV_look_at_name dc_look_at_name pm_look_at_name cd_look_at_name ct_look_at_name oc_look_at_numbers kV_look_at_numbers dc_look_at_numbers pm_look_at_numbers cd_look_at_numbers ct_look_at_numbers oc_look_at_when kV_look_at_when dc_look_at_when pm_look_at_when cd_look_at_when ct_look_at_when oc_look_at_let kV_look_at_let dc_look_at_let pm_look_at_let cd_look_at_let ct_look_at_let oc_look_at_turns kV_look_at_turns dc_look_at_turns pm_look_at_turns cd_look_at_turns ct_look_at_turns oc_look_at_def kV_look_at_def dc_look_at_def pm_look_at_def cd_look_at_def ct_look_at_def oc_look_at_use kV_look_at_use dc_look_at_use pm_look_at_use cd_look_at_use ct_look_at_use oc_look_at_quote kV_look_at_quote dc_look_at_quote pm_look_at_quote cd_look_at_quote ct_look_at_quote oc_look_at_hole kV_look_at_hole dc_look_at_hole pm_look_at_hole cd_look_at_hole ct_look_at_hole oc_look_at_lift kV_look_at_lift dc_look_at_lift pm_look_at_lift cd_look_at_lift ct_look_at_lift oc_look_at_run kV_look_at_run dc_look_at_run pm_look_at_run cd_look_at_run ct_look_at_run oc_law_cell_at kV_law_cell_at dc_law_cell_at pm_law_cell_at cd_law_cell_at ct_law_cell_at oc_law_mixed kV_law_mixed dc_law_mixed pm_law_mixed cd_law_mixed ct_law_mixed oc_law_name kV_law_name dc_law_name pm_law_name cd_law_name ct_law_name oc_law_next kV_law_next dc_law_next pm_law_next cd_law_next ct_law_next oc_law_number kV_law_number dc_law_number pm_law_number cd_law_number ct_law_number oc_law_seen kV_law_seen dc_law_seen pm_law_seen cd_law_seen ct_law_seen oc_law_leaf kV_law_leaf dc_law_leaf pm_law_leaf cd_law_leaf ct_law_leaf oc_law_words kV_law_words dc_law_words pm_law_words cd_law_words ct_law_words oc_law_term kV_law_term dc_law_term pm_law_term cd_law_term ct_law_term oc_law_twice kV_law_twice dc_law_twice pm_law_twice cd_law_twice ct_law_twice oc_law_bound kV_law_bound dc_law_bound pm_law_bound cd_law_bound ct_law_bound oc_law_kind_of kV_law_kind_of dc_law_kind_of pm_law_kind_of cd_law_kind_of ct_law_kind_of oc_law kV_law dc_law pm_law cd_law ct_law : Value}
    {eD_PARTS_AT : Array DictEntry} {nD_PARTS_AT : Nat} {t_PARTS_AT_num t_PARTS_AT_name t_PARTS_AT_sum t_PARTS_AT_product t_PARTS_AT_less t_PARTS_AT_when t_PARTS_AT_let t_PARTS_AT_turns t_PARTS_AT_def t_PARTS_AT_use t_PARTS_AT_quote t_PARTS_AT_hole t_PARTS_AT_lift t_PARTS_AT_run : Tok}
    {eD_LEVEL_OF : Array DictEntry} {nD_LEVEL_OF : Nat} {t_LEVEL_OF_quote t_LEVEL_OF_hole t_LEVEL_OF_lift t_LEVEL_OF_run : Tok}
    {eD_LOOKS : Array DictEntry} {nD_LOOKS : Nat}
    (aC_HallError : PySem.W.nsIn K mainGlobals "HallError" = some (some (.ref C_HallError)))
    (aC_NoName : PySem.W.nsIn K mainGlobals "NoName" = some (some (.ref C_NoName)))
    (aC_WrongLevel : PySem.W.nsIn K mainGlobals "WrongLevel" = some (some (.ref C_WrongLevel)))
    (aC_WrongKind : PySem.W.nsIn K mainGlobals "WrongKind" = some (some (.ref C_WrongKind)))
    (aC_TermTable : PySem.W.nsIn K mainGlobals "TermTable" = some (some (.ref C_TermTable)))
    (pg_TermTable : PySem.W.plainGet K C_TermTable Str.empty = true)
    (hd_TermTable : PySem.W.hasDictIn K C_TermTable = true)
    (po_TermTable : PySem.W.plainOver K C_TermTable = true)
    (sa_TermTable : PySem.W.findIn K (.ref C_TermTable) "__setattr__" = some (some (.builtin "object.__setattr__")))
    (mk_TermTable : PySem.W.makesIn K C_TermTable = true)
    (kc_TermTable : PySem.W.keepIn K (.ref C_TermTable) = true)
    (no_TermTable_rows : PySem.W.findIn K (.ref C_TermTable) "rows" = some none)
    (no_TermTable_known : PySem.W.findIn K (.ref C_TermTable) "known" = some none)
    (aC_Around : PySem.W.nsIn K mainGlobals "Around" = some (some (.ref C_Around)))
    (pg_Around : PySem.W.plainGet K C_Around Str.empty = true)
    (hd_Around : PySem.W.hasDictIn K C_Around = true)
    (po_Around : PySem.W.plainOver K C_Around = true)
    (sa_Around : PySem.W.findIn K (.ref C_Around) "__setattr__" = some (some (.builtin "object.__setattr__")))
    (mk_Around : PySem.W.makesIn K C_Around = true)
    (kc_Around : PySem.W.keepIn K (.ref C_Around) = true)
    (no_Around_level : PySem.W.findIn K (.ref C_Around) "level" = some none)
    (no_Around_barred : PySem.W.findIn K (.ref C_Around) "barred" = some none)
    (no_Around_names : PySem.W.findIn K (.ref C_Around) "names" = some none)
    (aC_Kinds : PySem.W.nsIn K mainGlobals "Kinds" = some (some (.ref C_Kinds)))
    (pg_Kinds : PySem.W.plainGet K C_Kinds Str.empty = true)
    (hd_Kinds : PySem.W.hasDictIn K C_Kinds = true)
    (po_Kinds : PySem.W.plainOver K C_Kinds = true)
    (sa_Kinds : PySem.W.findIn K (.ref C_Kinds) "__setattr__" = some (some (.builtin "object.__setattr__")))
    (mk_Kinds : PySem.W.makesIn K C_Kinds = true)
    (kc_Kinds : PySem.W.keepIn K (.ref C_Kinds) = true)
    (no_Kinds_rows : PySem.W.findIn K (.ref C_Kinds) "rows" = some none)
    (no_Kinds_loose : PySem.W.findIn K (.ref C_Kinds) "loose" = some none)
    (no_Kinds_known : PySem.W.findIn K (.ref C_Kinds) "known" = some none)
    (a_loose_in_rows : PySem.W.nsIn K mainGlobals "loose_in_rows" = some (some (.ref f_loose_in_rows)))
    (l_loose_in_rows : K.lookup f_loose_in_rows = some ⟨oc_loose_in_rows, od_loose_in_rows, .func (PySem.W.fnOf "loose_in_rows" "loose_in_rows" (defArgs s_loose_in_rows) (defBody s_loose_in_rows) (defScope s_loose_in_rows) .none kV_loose_in_rows dc_loose_in_rows pm_loose_in_rows an_loose_in_rows cd_loose_in_rows ct_loose_in_rows), sl_loose_in_rows⟩)
    (c_loose_in_rows : PySem.W.codeIn K cd_loose_in_rows "loose_in_rows" = true)
    (k_loose_in_rows : PySem.W.keepIn K (.ref f_loose_in_rows) = true)
    (a_loose_names : PySem.W.nsIn K mainGlobals "loose_names" = some (some (.ref f_loose_names)))
    (l_loose_names : K.lookup f_loose_names = some ⟨oc_loose_names, od_loose_names, .func (PySem.W.fnOf "loose_names" "loose_names" (defArgs s_loose_names) (defBody s_loose_names) (defScope s_loose_names) .none kV_loose_names dc_loose_names pm_loose_names an_loose_names cd_loose_names ct_loose_names), sl_loose_names⟩)
    (c_loose_names : PySem.W.codeIn K cd_loose_names "loose_names" = true)
    (k_loose_names : PySem.W.keepIn K (.ref f_loose_names) = true)
    (a_bound_in_parts : PySem.W.nsIn K mainGlobals "bound_in_parts" = some (some (.ref f_bound_in_parts)))
    (l_bound_in_parts : K.lookup f_bound_in_parts = some ⟨oc_bound_in_parts, od_bound_in_parts, .func (PySem.W.fnOf "bound_in_parts" "bound_in_parts" (defArgs s_bound_in_parts) (defBody s_bound_in_parts) (defScope s_bound_in_parts) .none kV_bound_in_parts dc_bound_in_parts pm_bound_in_parts an_bound_in_parts cd_bound_in_parts ct_bound_in_parts), sl_bound_in_parts⟩)
    (c_bound_in_parts : PySem.W.codeIn K cd_bound_in_parts "bound_in_parts" = true)
    (k_bound_in_parts : PySem.W.keepIn K (.ref f_bound_in_parts) = true)
    (a_head_of : PySem.W.nsIn K mainGlobals "head_of" = some (some (.ref f_head_of)))
    (l_head_of : K.lookup f_head_of = some ⟨oc_head_of, od_head_of, .func (PySem.W.fnOf "head_of" "head_of" (defArgs s_head_of) (defBody s_head_of) (defScope s_head_of) .none kV_head_of dc_head_of pm_head_of an_head_of cd_head_of ct_head_of), sl_head_of⟩)
    (c_head_of : PySem.W.codeIn K cd_head_of "head_of" = true)
    (k_head_of : PySem.W.keepIn K (.ref f_head_of) = true)
    (a_parts_of : PySem.W.nsIn K mainGlobals "parts_of" = some (some (.ref f_parts_of)))
    (l_parts_of : K.lookup f_parts_of = some ⟨oc_parts_of, od_parts_of, .func (PySem.W.fnOf "parts_of" "parts_of" (defArgs s_parts_of) (defBody s_parts_of) (defScope s_parts_of) .none kV_parts_of dc_parts_of pm_parts_of an_parts_of cd_parts_of ct_parts_of), sl_parts_of⟩)
    (c_parts_of : PySem.W.codeIn K cd_parts_of "parts_of" = true)
    (k_parts_of : PySem.W.keepIn K (.ref f_parts_of) = true)
    (a_rows_of : PySem.W.nsIn K mainGlobals "rows_of" = some (some (.ref f_rows_of)))
    (l_rows_of : K.lookup f_rows_of = some ⟨oc_rows_of, od_rows_of, .func (PySem.W.fnOf "rows_of" "rows_of" (defArgs s_rows_of) (defBody s_rows_of) (defScope s_rows_of) .none kV_rows_of dc_rows_of pm_rows_of an_rows_of cd_rows_of ct_rows_of), sl_rows_of⟩)
    (c_rows_of : PySem.W.codeIn K cd_rows_of "rows_of" = true)
    (k_rows_of : PySem.W.keepIn K (.ref f_rows_of) = true)
    (a_TermTable_init : PySem.W.findIn K (.ref C_TermTable) "__init__" = some (some (.ref f_TermTable_init)))
    (i_TermTable_init : PySem.W.isFn K (.ref f_TermTable_init) = true)
    (l_TermTable_init : K.lookup f_TermTable_init = some ⟨oc_TermTable_init, od_TermTable_init, .func (PySem.W.fnOf "__init__" "TermTable.__init__" (defArgs s_TermTable_init) (defBody s_TermTable_init) (defScope s_TermTable_init) .none kV_TermTable_init dc_TermTable_init pm_TermTable_init an_TermTable_init cd_TermTable_init ct_TermTable_init), sl_TermTable_init⟩)
    (c_TermTable_init : PySem.W.codeIn K cd_TermTable_init "TermTable.__init__" = true)
    (k_TermTable_init : PySem.W.keepIn K (.ref f_TermTable_init) = true)
    (a_TermTable_place_of : PySem.W.findIn K (.ref C_TermTable) "place_of" = some (some (.ref f_TermTable_place_of)))
    (i_TermTable_place_of : PySem.W.isFn K (.ref f_TermTable_place_of) = true)
    (l_TermTable_place_of : K.lookup f_TermTable_place_of = some ⟨oc_TermTable_place_of, od_TermTable_place_of, .func (PySem.W.fnOf "place_of" "TermTable.place_of" (defArgs s_TermTable_place_of) (defBody s_TermTable_place_of) (defScope s_TermTable_place_of) .none kV_TermTable_place_of dc_TermTable_place_of pm_TermTable_place_of an_TermTable_place_of cd_TermTable_place_of ct_TermTable_place_of), sl_TermTable_place_of⟩)
    (c_TermTable_place_of : PySem.W.codeIn K cd_TermTable_place_of "TermTable.place_of" = true)
    (k_TermTable_place_of : PySem.W.keepIn K (.ref f_TermTable_place_of) = true)
    (a_ends_of : PySem.W.nsIn K mainGlobals "ends_of" = some (some (.ref f_ends_of)))
    (l_ends_of : K.lookup f_ends_of = some ⟨oc_ends_of, od_ends_of, .func (PySem.W.fnOf "ends_of" "ends_of" (defArgs s_ends_of) (defBody s_ends_of) (defScope s_ends_of) .none kV_ends_of dc_ends_of pm_ends_of an_ends_of cd_ends_of ct_ends_of), sl_ends_of⟩)
    (c_ends_of : PySem.W.codeIn K cd_ends_of "ends_of" = true)
    (k_ends_of : PySem.W.keepIn K (.ref f_ends_of) = true)
    (a_edge_of : PySem.W.nsIn K mainGlobals "edge_of" = some (some (.ref f_edge_of)))
    (l_edge_of : K.lookup f_edge_of = some ⟨oc_edge_of, od_edge_of, .func (PySem.W.fnOf "edge_of" "edge_of" (defArgs s_edge_of) (defBody s_edge_of) (defScope s_edge_of) .none kV_edge_of dc_edge_of pm_edge_of an_edge_of cd_edge_of ct_edge_of), sl_edge_of⟩)
    (c_edge_of : PySem.W.codeIn K cd_edge_of "edge_of" = true)
    (k_edge_of : PySem.W.keepIn K (.ref f_edge_of) = true)
    (a_kind_of : PySem.W.nsIn K mainGlobals "kind_of" = some (some (.ref f_kind_of)))
    (l_kind_of : K.lookup f_kind_of = some ⟨oc_kind_of, od_kind_of, .func (PySem.W.fnOf "kind_of" "kind_of" (defArgs s_kind_of) (defBody s_kind_of) (defScope s_kind_of) .none kV_kind_of dc_kind_of pm_kind_of an_kind_of cd_kind_of ct_kind_of), sl_kind_of⟩)
    (c_kind_of : PySem.W.codeIn K cd_kind_of "kind_of" = true)
    (k_kind_of : PySem.W.keepIn K (.ref f_kind_of) = true)
    (a_Around_init : PySem.W.findIn K (.ref C_Around) "__init__" = some (some (.ref f_Around_init)))
    (i_Around_init : PySem.W.isFn K (.ref f_Around_init) = true)
    (l_Around_init : K.lookup f_Around_init = some ⟨oc_Around_init, od_Around_init, .func (PySem.W.fnOf "__init__" "Around.__init__" (defArgs s_Around_init) (defBody s_Around_init) (defScope s_Around_init) .none kV_Around_init dc_Around_init pm_Around_init an_Around_init cd_Around_init ct_Around_init), sl_Around_init⟩)
    (c_Around_init : PySem.W.codeIn K cd_Around_init "Around.__init__" = true)
    (k_Around_init : PySem.W.keepIn K (.ref f_Around_init) = true)
    (a_Around_within_quote : PySem.W.findIn K (.ref C_Around) "within_quote" = some (some (.ref f_Around_within_quote)))
    (i_Around_within_quote : PySem.W.isFn K (.ref f_Around_within_quote) = true)
    (l_Around_within_quote : K.lookup f_Around_within_quote = some ⟨oc_Around_within_quote, od_Around_within_quote, .func (PySem.W.fnOf "within_quote" "Around.within_quote" (defArgs s_Around_within_quote) (defBody s_Around_within_quote) (defScope s_Around_within_quote) .none kV_Around_within_quote dc_Around_within_quote pm_Around_within_quote an_Around_within_quote cd_Around_within_quote ct_Around_within_quote), sl_Around_within_quote⟩)
    (c_Around_within_quote : PySem.W.codeIn K cd_Around_within_quote "Around.within_quote" = true)
    (k_Around_within_quote : PySem.W.keepIn K (.ref f_Around_within_quote) = true)
    (a_Around_within_hole : PySem.W.findIn K (.ref C_Around) "within_hole" = some (some (.ref f_Around_within_hole)))
    (i_Around_within_hole : PySem.W.isFn K (.ref f_Around_within_hole) = true)
    (l_Around_within_hole : K.lookup f_Around_within_hole = some ⟨oc_Around_within_hole, od_Around_within_hole, .func (PySem.W.fnOf "within_hole" "Around.within_hole" (defArgs s_Around_within_hole) (defBody s_Around_within_hole) (defScope s_Around_within_hole) .none kV_Around_within_hole dc_Around_within_hole pm_Around_within_hole an_Around_within_hole cd_Around_within_hole ct_Around_within_hole), sl_Around_within_hole⟩)
    (c_Around_within_hole : PySem.W.codeIn K cd_Around_within_hole "Around.within_hole" = true)
    (k_Around_within_hole : PySem.W.keepIn K (.ref f_Around_within_hole) = true)
    (a_Around_with_value : PySem.W.findIn K (.ref C_Around) "with_value" = some (some (.ref f_Around_with_value)))
    (i_Around_with_value : PySem.W.isFn K (.ref f_Around_with_value) = true)
    (l_Around_with_value : K.lookup f_Around_with_value = some ⟨oc_Around_with_value, od_Around_with_value, .func (PySem.W.fnOf "with_value" "Around.with_value" (defArgs s_Around_with_value) (defBody s_Around_with_value) (defScope s_Around_with_value) .none kV_Around_with_value dc_Around_with_value pm_Around_with_value an_Around_with_value cd_Around_with_value ct_Around_with_value), sl_Around_with_value⟩)
    (c_Around_with_value : PySem.W.codeIn K cd_Around_with_value "Around.with_value" = true)
    (k_Around_with_value : PySem.W.keepIn K (.ref f_Around_with_value) = true)
    (a_Around_with_function : PySem.W.findIn K (.ref C_Around) "with_function" = some (some (.ref f_Around_with_function)))
    (i_Around_with_function : PySem.W.isFn K (.ref f_Around_with_function) = true)
    (l_Around_with_function : K.lookup f_Around_with_function = some ⟨oc_Around_with_function, od_Around_with_function, .func (PySem.W.fnOf "with_function" "Around.with_function" (defArgs s_Around_with_function) (defBody s_Around_with_function) (defScope s_Around_with_function) .none kV_Around_with_function dc_Around_with_function pm_Around_with_function an_Around_with_function cd_Around_with_function ct_Around_with_function), sl_Around_with_function⟩)
    (c_Around_with_function : PySem.W.codeIn K cd_Around_with_function "Around.with_function" = true)
    (k_Around_with_function : PySem.W.keepIn K (.ref f_Around_with_function) = true)
    (a_Around_within_function : PySem.W.findIn K (.ref C_Around) "within_function" = some (some (.ref f_Around_within_function)))
    (i_Around_within_function : PySem.W.isFn K (.ref f_Around_within_function) = true)
    (l_Around_within_function : K.lookup f_Around_within_function = some ⟨oc_Around_within_function, od_Around_within_function, .func (PySem.W.fnOf "within_function" "Around.within_function" (defArgs s_Around_within_function) (defBody s_Around_within_function) (defScope s_Around_within_function) .none kV_Around_within_function dc_Around_within_function pm_Around_within_function an_Around_within_function cd_Around_within_function ct_Around_within_function), sl_Around_within_function⟩)
    (c_Around_within_function : PySem.W.codeIn K cd_Around_within_function "Around.within_function" = true)
    (k_Around_within_function : PySem.W.keepIn K (.ref f_Around_within_function) = true)
    (a_Around_meaning_of : PySem.W.findIn K (.ref C_Around) "meaning_of" = some (some (.ref f_Around_meaning_of)))
    (i_Around_meaning_of : PySem.W.isFn K (.ref f_Around_meaning_of) = true)
    (l_Around_meaning_of : K.lookup f_Around_meaning_of = some ⟨oc_Around_meaning_of, od_Around_meaning_of, .func (PySem.W.fnOf "meaning_of" "Around.meaning_of" (defArgs s_Around_meaning_of) (defBody s_Around_meaning_of) (defScope s_Around_meaning_of) .none kV_Around_meaning_of dc_Around_meaning_of pm_Around_meaning_of an_Around_meaning_of cd_Around_meaning_of ct_Around_meaning_of), sl_Around_meaning_of⟩)
    (c_Around_meaning_of : PySem.W.codeIn K cd_Around_meaning_of "Around.meaning_of" = true)
    (k_Around_meaning_of : PySem.W.keepIn K (.ref f_Around_meaning_of) = true)
    (a_Kinds_init : PySem.W.findIn K (.ref C_Kinds) "__init__" = some (some (.ref f_Kinds_init)))
    (i_Kinds_init : PySem.W.isFn K (.ref f_Kinds_init) = true)
    (l_Kinds_init : K.lookup f_Kinds_init = some ⟨oc_Kinds_init, od_Kinds_init, .func (PySem.W.fnOf "__init__" "Kinds.__init__" (defArgs s_Kinds_init) (defBody s_Kinds_init) (defScope s_Kinds_init) .none kV_Kinds_init dc_Kinds_init pm_Kinds_init an_Kinds_init cd_Kinds_init ct_Kinds_init), sl_Kinds_init⟩)
    (c_Kinds_init : PySem.W.codeIn K cd_Kinds_init "Kinds.__init__" = true)
    (k_Kinds_init : PySem.W.keepIn K (.ref f_Kinds_init) = true)
    (a_Kinds_kind_at : PySem.W.findIn K (.ref C_Kinds) "kind_at" = some (some (.ref f_Kinds_kind_at)))
    (i_Kinds_kind_at : PySem.W.isFn K (.ref f_Kinds_kind_at) = true)
    (l_Kinds_kind_at : K.lookup f_Kinds_kind_at = some ⟨oc_Kinds_kind_at, od_Kinds_kind_at, .func (PySem.W.fnOf "kind_at" "Kinds.kind_at" (defArgs s_Kinds_kind_at) (defBody s_Kinds_kind_at) (defScope s_Kinds_kind_at) .none kV_Kinds_kind_at dc_Kinds_kind_at pm_Kinds_kind_at an_Kinds_kind_at cd_Kinds_kind_at ct_Kinds_kind_at), sl_Kinds_kind_at⟩)
    (c_Kinds_kind_at : PySem.W.codeIn K cd_Kinds_kind_at "Kinds.kind_at" = true)
    (k_Kinds_kind_at : PySem.W.keepIn K (.ref f_Kinds_kind_at) = true)
    (a_Kinds_looked_at : PySem.W.findIn K (.ref C_Kinds) "looked_at" = some (some (.ref f_Kinds_looked_at)))
    (i_Kinds_looked_at : PySem.W.isFn K (.ref f_Kinds_looked_at) = true)
    (l_Kinds_looked_at : K.lookup f_Kinds_looked_at = some ⟨oc_Kinds_looked_at, od_Kinds_looked_at, .func (PySem.W.fnOf "looked_at" "Kinds.looked_at" (defArgs s_Kinds_looked_at) (defBody s_Kinds_looked_at) (defScope s_Kinds_looked_at) .none kV_Kinds_looked_at dc_Kinds_looked_at pm_Kinds_looked_at an_Kinds_looked_at cd_Kinds_looked_at ct_Kinds_looked_at), sl_Kinds_looked_at⟩)
    (c_Kinds_looked_at : PySem.W.codeIn K cd_Kinds_looked_at "Kinds.looked_at" = true)
    (k_Kinds_looked_at : PySem.W.keepIn K (.ref f_Kinds_looked_at) = true)
    (a_Kinds_want : PySem.W.findIn K (.ref C_Kinds) "want" = some (some (.ref f_Kinds_want)))
    (i_Kinds_want : PySem.W.isFn K (.ref f_Kinds_want) = true)
    (l_Kinds_want : K.lookup f_Kinds_want = some ⟨oc_Kinds_want, od_Kinds_want, .func (PySem.W.fnOf "want" "Kinds.want" (defArgs s_Kinds_want) (defBody s_Kinds_want) (defScope s_Kinds_want) .none kV_Kinds_want dc_Kinds_want pm_Kinds_want an_Kinds_want cd_Kinds_want ct_Kinds_want), sl_Kinds_want⟩)
    (c_Kinds_want : PySem.W.codeIn K cd_Kinds_want "Kinds.want" = true)
    (k_Kinds_want : PySem.W.keepIn K (.ref f_Kinds_want) = true)
    (a_look_at_num : PySem.W.nsIn K mainGlobals "look_at_num" = some (some (.ref f_look_at_num)))
    (l_look_at_num : K.lookup f_look_at_num = some ⟨oc_look_at_num, od_look_at_num, .func (PySem.W.fnOf "look_at_num" "look_at_num" (defArgs s_look_at_num) (defBody s_look_at_num) (defScope s_look_at_num) .none kV_look_at_num dc_look_at_num pm_look_at_num an_look_at_num cd_look_at_num ct_look_at_num), sl_look_at_num⟩)
    (c_look_at_num : PySem.W.codeIn K cd_look_at_num "look_at_num" = true)
    (k_look_at_num : PySem.W.keepIn K (.ref f_look_at_num) = true)
    (a_look_at_name : PySem.W.nsIn K mainGlobals "look_at_name" = some (some (.ref f_look_at_name)))
    (l_look_at_name : K.lookup f_look_at_name = some ⟨oc_look_at_name, od_look_at_name, .func (PySem.W.fnOf "look_at_name" "look_at_name" (defArgs s_look_at_name) (defBody s_look_at_name) (defScope s_look_at_name) .none kV_look_at_name dc_look_at_name pm_look_at_name an_look_at_name cd_look_at_name ct_look_at_name), sl_look_at_name⟩)
    (c_look_at_name : PySem.W.codeIn K cd_look_at_name "look_at_name" = true)
    (k_look_at_name : PySem.W.keepIn K (.ref f_look_at_name) = true)
    (a_look_at_numbers : PySem.W.nsIn K mainGlobals "look_at_numbers" = some (some (.ref f_look_at_numbers)))
    (l_look_at_numbers : K.lookup f_look_at_numbers = some ⟨oc_look_at_numbers, od_look_at_numbers, .func (PySem.W.fnOf "look_at_numbers" "look_at_numbers" (defArgs s_look_at_numbers) (defBody s_look_at_numbers) (defScope s_look_at_numbers) .none kV_look_at_numbers dc_look_at_numbers pm_look_at_numbers an_look_at_numbers cd_look_at_numbers ct_look_at_numbers), sl_look_at_numbers⟩)
    (c_look_at_numbers : PySem.W.codeIn K cd_look_at_numbers "look_at_numbers" = true)
    (k_look_at_numbers : PySem.W.keepIn K (.ref f_look_at_numbers) = true)
    (a_look_at_when : PySem.W.nsIn K mainGlobals "look_at_when" = some (some (.ref f_look_at_when)))
    (l_look_at_when : K.lookup f_look_at_when = some ⟨oc_look_at_when, od_look_at_when, .func (PySem.W.fnOf "look_at_when" "look_at_when" (defArgs s_look_at_when) (defBody s_look_at_when) (defScope s_look_at_when) .none kV_look_at_when dc_look_at_when pm_look_at_when an_look_at_when cd_look_at_when ct_look_at_when), sl_look_at_when⟩)
    (c_look_at_when : PySem.W.codeIn K cd_look_at_when "look_at_when" = true)
    (k_look_at_when : PySem.W.keepIn K (.ref f_look_at_when) = true)
    (a_look_at_let : PySem.W.nsIn K mainGlobals "look_at_let" = some (some (.ref f_look_at_let)))
    (l_look_at_let : K.lookup f_look_at_let = some ⟨oc_look_at_let, od_look_at_let, .func (PySem.W.fnOf "look_at_let" "look_at_let" (defArgs s_look_at_let) (defBody s_look_at_let) (defScope s_look_at_let) .none kV_look_at_let dc_look_at_let pm_look_at_let an_look_at_let cd_look_at_let ct_look_at_let), sl_look_at_let⟩)
    (c_look_at_let : PySem.W.codeIn K cd_look_at_let "look_at_let" = true)
    (k_look_at_let : PySem.W.keepIn K (.ref f_look_at_let) = true)
    (a_look_at_turns : PySem.W.nsIn K mainGlobals "look_at_turns" = some (some (.ref f_look_at_turns)))
    (l_look_at_turns : K.lookup f_look_at_turns = some ⟨oc_look_at_turns, od_look_at_turns, .func (PySem.W.fnOf "look_at_turns" "look_at_turns" (defArgs s_look_at_turns) (defBody s_look_at_turns) (defScope s_look_at_turns) .none kV_look_at_turns dc_look_at_turns pm_look_at_turns an_look_at_turns cd_look_at_turns ct_look_at_turns), sl_look_at_turns⟩)
    (c_look_at_turns : PySem.W.codeIn K cd_look_at_turns "look_at_turns" = true)
    (k_look_at_turns : PySem.W.keepIn K (.ref f_look_at_turns) = true)
    (a_look_at_def : PySem.W.nsIn K mainGlobals "look_at_def" = some (some (.ref f_look_at_def)))
    (l_look_at_def : K.lookup f_look_at_def = some ⟨oc_look_at_def, od_look_at_def, .func (PySem.W.fnOf "look_at_def" "look_at_def" (defArgs s_look_at_def) (defBody s_look_at_def) (defScope s_look_at_def) .none kV_look_at_def dc_look_at_def pm_look_at_def an_look_at_def cd_look_at_def ct_look_at_def), sl_look_at_def⟩)
    (c_look_at_def : PySem.W.codeIn K cd_look_at_def "look_at_def" = true)
    (k_look_at_def : PySem.W.keepIn K (.ref f_look_at_def) = true)
    (a_look_at_use : PySem.W.nsIn K mainGlobals "look_at_use" = some (some (.ref f_look_at_use)))
    (l_look_at_use : K.lookup f_look_at_use = some ⟨oc_look_at_use, od_look_at_use, .func (PySem.W.fnOf "look_at_use" "look_at_use" (defArgs s_look_at_use) (defBody s_look_at_use) (defScope s_look_at_use) .none kV_look_at_use dc_look_at_use pm_look_at_use an_look_at_use cd_look_at_use ct_look_at_use), sl_look_at_use⟩)
    (c_look_at_use : PySem.W.codeIn K cd_look_at_use "look_at_use" = true)
    (k_look_at_use : PySem.W.keepIn K (.ref f_look_at_use) = true)
    (a_look_at_quote : PySem.W.nsIn K mainGlobals "look_at_quote" = some (some (.ref f_look_at_quote)))
    (l_look_at_quote : K.lookup f_look_at_quote = some ⟨oc_look_at_quote, od_look_at_quote, .func (PySem.W.fnOf "look_at_quote" "look_at_quote" (defArgs s_look_at_quote) (defBody s_look_at_quote) (defScope s_look_at_quote) .none kV_look_at_quote dc_look_at_quote pm_look_at_quote an_look_at_quote cd_look_at_quote ct_look_at_quote), sl_look_at_quote⟩)
    (c_look_at_quote : PySem.W.codeIn K cd_look_at_quote "look_at_quote" = true)
    (k_look_at_quote : PySem.W.keepIn K (.ref f_look_at_quote) = true)
    (a_look_at_hole : PySem.W.nsIn K mainGlobals "look_at_hole" = some (some (.ref f_look_at_hole)))
    (l_look_at_hole : K.lookup f_look_at_hole = some ⟨oc_look_at_hole, od_look_at_hole, .func (PySem.W.fnOf "look_at_hole" "look_at_hole" (defArgs s_look_at_hole) (defBody s_look_at_hole) (defScope s_look_at_hole) .none kV_look_at_hole dc_look_at_hole pm_look_at_hole an_look_at_hole cd_look_at_hole ct_look_at_hole), sl_look_at_hole⟩)
    (c_look_at_hole : PySem.W.codeIn K cd_look_at_hole "look_at_hole" = true)
    (k_look_at_hole : PySem.W.keepIn K (.ref f_look_at_hole) = true)
    (a_look_at_lift : PySem.W.nsIn K mainGlobals "look_at_lift" = some (some (.ref f_look_at_lift)))
    (l_look_at_lift : K.lookup f_look_at_lift = some ⟨oc_look_at_lift, od_look_at_lift, .func (PySem.W.fnOf "look_at_lift" "look_at_lift" (defArgs s_look_at_lift) (defBody s_look_at_lift) (defScope s_look_at_lift) .none kV_look_at_lift dc_look_at_lift pm_look_at_lift an_look_at_lift cd_look_at_lift ct_look_at_lift), sl_look_at_lift⟩)
    (c_look_at_lift : PySem.W.codeIn K cd_look_at_lift "look_at_lift" = true)
    (k_look_at_lift : PySem.W.keepIn K (.ref f_look_at_lift) = true)
    (a_look_at_run : PySem.W.nsIn K mainGlobals "look_at_run" = some (some (.ref f_look_at_run)))
    (l_look_at_run : K.lookup f_look_at_run = some ⟨oc_look_at_run, od_look_at_run, .func (PySem.W.fnOf "look_at_run" "look_at_run" (defArgs s_look_at_run) (defBody s_look_at_run) (defScope s_look_at_run) .none kV_look_at_run dc_look_at_run pm_look_at_run an_look_at_run cd_look_at_run ct_look_at_run), sl_look_at_run⟩)
    (c_look_at_run : PySem.W.codeIn K cd_look_at_run "look_at_run" = true)
    (k_look_at_run : PySem.W.keepIn K (.ref f_look_at_run) = true)
    (a_law_cell_at : PySem.W.nsIn K mainGlobals "_law_cell_at" = some (some (.ref f_law_cell_at)))
    (l_law_cell_at : K.lookup f_law_cell_at = some ⟨oc_law_cell_at, od_law_cell_at, .func (PySem.W.fnOf "_law_cell_at" "_law_cell_at" (defArgs s_cell_at) (defBody s_cell_at) (defScope s_cell_at) .none kV_law_cell_at dc_law_cell_at pm_law_cell_at an_law_cell_at cd_law_cell_at ct_law_cell_at), sl_law_cell_at⟩)
    (c_law_cell_at : PySem.W.codeIn K cd_law_cell_at "_law_cell_at" = true)
    (k_law_cell_at : PySem.W.keepIn K (.ref f_law_cell_at) = true)
    (a_law_mixed : PySem.W.nsIn K mainGlobals "_law_mixed" = some (some (.ref f_law_mixed)))
    (l_law_mixed : K.lookup f_law_mixed = some ⟨oc_law_mixed, od_law_mixed, .func (PySem.W.fnOf "_law_mixed" "_law_mixed" (defArgs s_mixed) (defBody s_mixed) (defScope s_mixed) .none kV_law_mixed dc_law_mixed pm_law_mixed an_law_mixed cd_law_mixed ct_law_mixed), sl_law_mixed⟩)
    (c_law_mixed : PySem.W.codeIn K cd_law_mixed "_law_mixed" = true)
    (k_law_mixed : PySem.W.keepIn K (.ref f_law_mixed) = true)
    (a_law_name : PySem.W.nsIn K mainGlobals "_law_name" = some (some (.ref f_law_name)))
    (l_law_name : K.lookup f_law_name = some ⟨oc_law_name, od_law_name, .func (PySem.W.fnOf "_law_name" "_law_name" (defArgs s_name) (defBody s_name) (defScope s_name) .none kV_law_name dc_law_name pm_law_name an_law_name cd_law_name ct_law_name), sl_law_name⟩)
    (c_law_name : PySem.W.codeIn K cd_law_name "_law_name" = true)
    (k_law_name : PySem.W.keepIn K (.ref f_law_name) = true)
    (a_law_next : PySem.W.nsIn K mainGlobals "_law_next" = some (some (.ref f_law_next)))
    (l_law_next : K.lookup f_law_next = some ⟨oc_law_next, od_law_next, .func (PySem.W.fnOf "_law_next" "_law_next" (defArgs s_next) (defBody s_next) (defScope s_next) .none kV_law_next dc_law_next pm_law_next an_law_next cd_law_next ct_law_next), sl_law_next⟩)
    (c_law_next : PySem.W.codeIn K cd_law_next "_law_next" = true)
    (k_law_next : PySem.W.keepIn K (.ref f_law_next) = true)
    (a_law_number : PySem.W.nsIn K mainGlobals "_law_number" = some (some (.ref f_law_number)))
    (l_law_number : K.lookup f_law_number = some ⟨oc_law_number, od_law_number, .func (PySem.W.fnOf "_law_number" "_law_number" (defArgs s_number) (defBody s_number) (defScope s_number) .none kV_law_number dc_law_number pm_law_number an_law_number cd_law_number ct_law_number), sl_law_number⟩)
    (c_law_number : PySem.W.codeIn K cd_law_number "_law_number" = true)
    (k_law_number : PySem.W.keepIn K (.ref f_law_number) = true)
    (a_law_seen : PySem.W.nsIn K mainGlobals "_law_seen" = some (some (.ref f_law_seen)))
    (l_law_seen : K.lookup f_law_seen = some ⟨oc_law_seen, od_law_seen, .func (PySem.W.fnOf "_law_seen" "_law_seen" (defArgs s_seen) (defBody s_seen) (defScope s_seen) .none kV_law_seen dc_law_seen pm_law_seen an_law_seen cd_law_seen ct_law_seen), sl_law_seen⟩)
    (c_law_seen : PySem.W.codeIn K cd_law_seen "_law_seen" = true)
    (k_law_seen : PySem.W.keepIn K (.ref f_law_seen) = true)
    (a_law_leaf : PySem.W.nsIn K mainGlobals "_law_leaf" = some (some (.ref f_law_leaf)))
    (l_law_leaf : K.lookup f_law_leaf = some ⟨oc_law_leaf, od_law_leaf, .func (PySem.W.fnOf "_law_leaf" "_law_leaf" (defArgs s_leaf) (defBody s_leaf) (defScope s_leaf) .none kV_law_leaf dc_law_leaf pm_law_leaf an_law_leaf cd_law_leaf ct_law_leaf), sl_law_leaf⟩)
    (c_law_leaf : PySem.W.codeIn K cd_law_leaf "_law_leaf" = true)
    (k_law_leaf : PySem.W.keepIn K (.ref f_law_leaf) = true)
    (a_law_words : PySem.W.nsIn K mainGlobals "_law_words" = some (some (.ref f_law_words)))
    (l_law_words : K.lookup f_law_words = some ⟨oc_law_words, od_law_words, .func (PySem.W.fnOf "_law_words" "_law_words" (defArgs s_words) (defBody s_words) (defScope s_words) .none kV_law_words dc_law_words pm_law_words an_law_words cd_law_words ct_law_words), sl_law_words⟩)
    (c_law_words : PySem.W.codeIn K cd_law_words "_law_words" = true)
    (k_law_words : PySem.W.keepIn K (.ref f_law_words) = true)
    (a_law_term : PySem.W.nsIn K mainGlobals "_law_term" = some (some (.ref f_law_term)))
    (l_law_term : K.lookup f_law_term = some ⟨oc_law_term, od_law_term, .func (PySem.W.fnOf "_law_term" "_law_term" (defArgs s_term) (defBody s_term) (defScope s_term) .none kV_law_term dc_law_term pm_law_term an_law_term cd_law_term ct_law_term), sl_law_term⟩)
    (c_law_term : PySem.W.codeIn K cd_law_term "_law_term" = true)
    (k_law_term : PySem.W.keepIn K (.ref f_law_term) = true)
    (a_law_twice : PySem.W.nsIn K mainGlobals "_law_twice" = some (some (.ref f_law_twice)))
    (l_law_twice : K.lookup f_law_twice = some ⟨oc_law_twice, od_law_twice, .func (PySem.W.fnOf "_law_twice" "_law_twice" (defArgs s_twice) (defBody s_twice) (defScope s_twice) .none kV_law_twice dc_law_twice pm_law_twice an_law_twice cd_law_twice ct_law_twice), sl_law_twice⟩)
    (c_law_twice : PySem.W.codeIn K cd_law_twice "_law_twice" = true)
    (k_law_twice : PySem.W.keepIn K (.ref f_law_twice) = true)
    (a_law_bound : PySem.W.nsIn K mainGlobals "_law_bound" = some (some (.ref f_law_bound)))
    (l_law_bound : K.lookup f_law_bound = some ⟨oc_law_bound, od_law_bound, .func (PySem.W.fnOf "_law_bound" "_law_bound" (defArgs s_bound) (defBody s_bound) (defScope s_bound) .none kV_law_bound dc_law_bound pm_law_bound an_law_bound cd_law_bound ct_law_bound), sl_law_bound⟩)
    (c_law_bound : PySem.W.codeIn K cd_law_bound "_law_bound" = true)
    (k_law_bound : PySem.W.keepIn K (.ref f_law_bound) = true)
    (a_law_kind_of : PySem.W.nsIn K mainGlobals "_law_kind_of" = some (some (.ref f_law_kind_of)))
    (l_law_kind_of : K.lookup f_law_kind_of = some ⟨oc_law_kind_of, od_law_kind_of, .func (PySem.W.fnOf "_law_kind_of" "_law_kind_of" (defArgs s_law_kind_of) (defBody s_law_kind_of) (defScope s_law_kind_of) .none kV_law_kind_of dc_law_kind_of pm_law_kind_of an_law_kind_of cd_law_kind_of ct_law_kind_of), sl_law_kind_of⟩)
    (c_law_kind_of : PySem.W.codeIn K cd_law_kind_of "_law_kind_of" = true)
    (k_law_kind_of : PySem.W.keepIn K (.ref f_law_kind_of) = true)
    (a_law : PySem.W.nsIn K mainGlobals "law" = some (some (.ref f_law)))
    (l_law : K.lookup f_law = some ⟨oc_law, od_law, .func (PySem.W.fnOf "law" "law" (defArgs s_law) (defBody s_law) (defScope s_law) .none kV_law dc_law pm_law an_law cd_law ct_law), sl_law⟩)
    (c_law : PySem.W.codeIn K cd_law "law" = true)
    (k_law : PySem.W.keepIn K (.ref f_law) = true)
    (z_len : PySem.W.nsIn K mainGlobals "len" = some none)
    (z_list : PySem.W.nsIn K mainGlobals "list" = some none)
    (z_max : PySem.W.nsIn K mainGlobals "max" = some none)
    (z_range : PySem.W.nsIn K mainGlobals "range" = some none)
    (z_tuple : PySem.W.nsIn K mainGlobals "tuple" = some none)
    (z_zip : PySem.W.nsIn K mainGlobals "zip" = some none)
    (aD_PARTS_AT : PySem.W.nsIn K mainGlobals "PARTS_AT" = some (some (.ref D_PARTS_AT)))
    (lD_PARTS_AT : K.lookup D_PARTS_AT = some ⟨.type "dict", none, .dict eD_PARTS_AT nD_PARTS_AT, #[]⟩)
    (kD_PARTS_AT : PySem.W.KeysLit w.params eD_PARTS_AT.toList)
    (d_PARTS_AT_num : PySem.W.nsIn K D_PARTS_AT "num" = some (some (.int 2 t_PARTS_AT_num)))
    (d_PARTS_AT_name : PySem.W.nsIn K D_PARTS_AT "name" = some (some (.int 2 t_PARTS_AT_name)))
    (d_PARTS_AT_sum : PySem.W.nsIn K D_PARTS_AT "sum" = some (some (.int 1 t_PARTS_AT_sum)))
    (d_PARTS_AT_product : PySem.W.nsIn K D_PARTS_AT "product" = some (some (.int 1 t_PARTS_AT_product)))
    (d_PARTS_AT_less : PySem.W.nsIn K D_PARTS_AT "less" = some (some (.int 1 t_PARTS_AT_less)))
    (d_PARTS_AT_when : PySem.W.nsIn K D_PARTS_AT "when" = some (some (.int 1 t_PARTS_AT_when)))
    (d_PARTS_AT_let : PySem.W.nsIn K D_PARTS_AT "let" = some (some (.int 2 t_PARTS_AT_let)))
    (d_PARTS_AT_turns : PySem.W.nsIn K D_PARTS_AT "turns" = some (some (.int 3 t_PARTS_AT_turns)))
    (d_PARTS_AT_def : PySem.W.nsIn K D_PARTS_AT "def" = some (some (.int 4 t_PARTS_AT_def)))
    (d_PARTS_AT_use : PySem.W.nsIn K D_PARTS_AT "use" = some (some (.int 2 t_PARTS_AT_use)))
    (d_PARTS_AT_quote : PySem.W.nsIn K D_PARTS_AT "quote" = some (some (.int 1 t_PARTS_AT_quote)))
    (d_PARTS_AT_hole : PySem.W.nsIn K D_PARTS_AT "hole" = some (some (.int 1 t_PARTS_AT_hole)))
    (d_PARTS_AT_lift : PySem.W.nsIn K D_PARTS_AT "lift" = some (some (.int 1 t_PARTS_AT_lift)))
    (d_PARTS_AT_run : PySem.W.nsIn K D_PARTS_AT "run" = some (some (.int 1 t_PARTS_AT_run)))
    (aD_LEVEL_OF : PySem.W.nsIn K mainGlobals "LEVEL_OF" = some (some (.ref D_LEVEL_OF)))
    (lD_LEVEL_OF : K.lookup D_LEVEL_OF = some ⟨.type "dict", none, .dict eD_LEVEL_OF nD_LEVEL_OF, #[]⟩)
    (kD_LEVEL_OF : PySem.W.KeysLit w.params eD_LEVEL_OF.toList)
    (sy_LEVEL_OF : (D_LEVEL_OF == sysModules) = false)
    (n_LEVEL_OF_num : PySem.W.nsIn K D_LEVEL_OF "num" = some none)
    (n_LEVEL_OF_name : PySem.W.nsIn K D_LEVEL_OF "name" = some none)
    (n_LEVEL_OF_sum : PySem.W.nsIn K D_LEVEL_OF "sum" = some none)
    (n_LEVEL_OF_product : PySem.W.nsIn K D_LEVEL_OF "product" = some none)
    (n_LEVEL_OF_less : PySem.W.nsIn K D_LEVEL_OF "less" = some none)
    (n_LEVEL_OF_when : PySem.W.nsIn K D_LEVEL_OF "when" = some none)
    (n_LEVEL_OF_let : PySem.W.nsIn K D_LEVEL_OF "let" = some none)
    (n_LEVEL_OF_turns : PySem.W.nsIn K D_LEVEL_OF "turns" = some none)
    (n_LEVEL_OF_def : PySem.W.nsIn K D_LEVEL_OF "def" = some none)
    (n_LEVEL_OF_use : PySem.W.nsIn K D_LEVEL_OF "use" = some none)
    (d_LEVEL_OF_quote : PySem.W.nsIn K D_LEVEL_OF "quote" = some (some (.int 0 t_LEVEL_OF_quote)))
    (d_LEVEL_OF_hole : PySem.W.nsIn K D_LEVEL_OF "hole" = some (some (.int 1 t_LEVEL_OF_hole)))
    (d_LEVEL_OF_lift : PySem.W.nsIn K D_LEVEL_OF "lift" = some (some (.int 0 t_LEVEL_OF_lift)))
    (d_LEVEL_OF_run : PySem.W.nsIn K D_LEVEL_OF "run" = some (some (.int 0 t_LEVEL_OF_run)))
    (aD_LOOKS : PySem.W.nsIn K mainGlobals "LOOKS" = some (some (.ref D_LOOKS)))
    (lD_LOOKS : K.lookup D_LOOKS = some ⟨.type "dict", none, .dict eD_LOOKS nD_LOOKS, #[]⟩)
    (kD_LOOKS : PySem.W.KeysLit w.params eD_LOOKS.toList)
    (d_LOOKS_num : PySem.W.nsIn K D_LOOKS "num" = some (some (.ref f_look_at_num)))
    (d_LOOKS_name : PySem.W.nsIn K D_LOOKS "name" = some (some (.ref f_look_at_name)))
    (d_LOOKS_sum : PySem.W.nsIn K D_LOOKS "sum" = some (some (.ref f_look_at_numbers)))
    (d_LOOKS_product : PySem.W.nsIn K D_LOOKS "product" = some (some (.ref f_look_at_numbers)))
    (d_LOOKS_less : PySem.W.nsIn K D_LOOKS "less" = some (some (.ref f_look_at_numbers)))
    (d_LOOKS_when : PySem.W.nsIn K D_LOOKS "when" = some (some (.ref f_look_at_when)))
    (d_LOOKS_let : PySem.W.nsIn K D_LOOKS "let" = some (some (.ref f_look_at_let)))
    (d_LOOKS_turns : PySem.W.nsIn K D_LOOKS "turns" = some (some (.ref f_look_at_turns)))
    (d_LOOKS_def : PySem.W.nsIn K D_LOOKS "def" = some (some (.ref f_look_at_def)))
    (d_LOOKS_use : PySem.W.nsIn K D_LOOKS "use" = some (some (.ref f_look_at_use)))
    (d_LOOKS_quote : PySem.W.nsIn K D_LOOKS "quote" = some (some (.ref f_look_at_quote)))
    (d_LOOKS_hole : PySem.W.nsIn K D_LOOKS "hole" = some (some (.ref f_look_at_hole)))
    (d_LOOKS_lift : PySem.W.nsIn K D_LOOKS "lift" = some (some (.ref f_look_at_lift)))
    (d_LOOKS_run : PySem.W.nsIn K D_LOOKS "run" = some (some (.ref f_look_at_run))) :
    ∃ fd : FuncData, (∀ (s : Shared) (v : Value), BindsTo s fd ⟨[v], []⟩ [("_law_script", v)]) ∧ ∀ base : Heap, K.In base → base.Ns mainGlobals mg → FnOk l.prog w K mg base CX0 77 fa fd ["_law_script"] (spLaw K) := by
  have e := hfa.symm.trans (PySem.W.mg_of X G a_law)
  cases e
  have cl_TermTable : Cls K C_TermTable := ⟨pg_TermTable, hd_TermTable, po_TermTable, sa_TermTable⟩
  have mC_TermTable := PySem.W.mg_of X G aC_TermTable
  have cl_Around : Cls K C_Around := ⟨pg_Around, hd_Around, po_Around, sa_Around⟩
  have mC_Around := PySem.W.mg_of X G aC_Around
  have cl_Kinds : Cls K C_Kinds := ⟨pg_Kinds, hd_Kinds, po_Kinds, sa_Kinds⟩
  have mC_Kinds := PySem.W.mg_of X G aC_Kinds
  have F_loose_in_rows := fun_mk (st := s_loose_in_rows) l_loose_in_rows c_loose_in_rows k_loose_in_rows
  have b_loose_in_rows := F_loose_in_rows.binds (ps := ["rows"]) fun _ _ _ _ _ _ us hl => match us, hl with | [_], _ => rfl
  have m_loose_in_rows := PySem.W.mg_of X G a_loose_in_rows
  have F_loose_names := fun_mk (st := s_loose_names) l_loose_names c_loose_names k_loose_names
  have b_loose_names := F_loose_names.binds (ps := ["head", "loose_in_parts"]) fun _ _ _ _ _ _ us hl => match us, hl with | [_, _], _ => rfl
  have m_loose_names := PySem.W.mg_of X G a_loose_names
  have F_bound_in_parts := fun_mk (st := s_bound_in_parts) l_bound_in_parts c_bound_in_parts k_bound_in_parts
  have b_bound_in_parts := F_bound_in_parts.binds (ps := ["head", "many"]) fun _ _ _ _ _ _ us hl => match us, hl with | [_, _], _ => rfl
  have m_bound_in_parts := PySem.W.mg_of X G a_bound_in_parts
  have F_head_of := fun_mk (st := s_head_of) l_head_of c_head_of k_head_of
  have b_head_of := F_head_of.binds (ps := ["term"]) fun _ _ _ _ _ _ us hl => match us, hl with | [_], _ => rfl
  have m_head_of := PySem.W.mg_of X G a_head_of
  have F_parts_of := fun_mk (st := s_parts_of) l_parts_of c_parts_of k_parts_of
  have b_parts_of := F_parts_of.binds (ps := ["term"]) fun _ _ _ _ _ _ us hl => match us, hl with | [_], _ => rfl
  have m_parts_of := PySem.W.mg_of X G a_parts_of
  have F_rows_of := fun_mk (st := s_rows_of) l_rows_of c_rows_of k_rows_of
  have b_rows_of := F_rows_of.binds (ps := ["term"]) fun _ _ _ _ _ _ us hl => match us, hl with | [_], _ => rfl
  have m_rows_of := PySem.W.mg_of X G a_rows_of
  have F_TermTable_init := fun_mk (st := s_TermTable_init) l_TermTable_init c_TermTable_init k_TermTable_init
  have b_TermTable_init := F_TermTable_init.binds (ps := ["self"]) fun _ _ _ _ _ _ us hl => match us, hl with | [_], _ => rfl
  have F_TermTable_place_of := fun_mk (st := s_TermTable_place_of) l_TermTable_place_of c_TermTable_place_of k_TermTable_place_of
  have b_TermTable_place_of := F_TermTable_place_of.binds (ps := ["self", "term"]) fun _ _ _ _ _ _ us hl => match us, hl with | [_, _], _ => rfl
  have F_ends_of := fun_mk (st := s_ends_of) l_ends_of c_ends_of k_ends_of
  have b_ends_of := F_ends_of.binds (ps := ["term"]) fun _ _ _ _ _ _ us hl => match us, hl with | [_], _ => rfl
  have m_ends_of := PySem.W.mg_of X G a_ends_of
  have F_edge_of := fun_mk (st := s_edge_of) l_edge_of c_edge_of k_edge_of
  have b_edge_of := F_edge_of.binds (ps := ["term", "side"]) fun _ _ _ _ _ _ us hl => match us, hl with | [_, _], _ => rfl
  have m_edge_of := PySem.W.mg_of X G a_edge_of
  have F_kind_of := fun_mk (st := s_kind_of) l_kind_of c_kind_of k_kind_of
  have b_kind_of := F_kind_of.binds (ps := ["term"]) fun _ _ _ _ _ _ us hl => match us, hl with | [_], _ => rfl
  have m_kind_of := PySem.W.mg_of X G a_kind_of
  have F_Around_init := fun_mk (st := s_Around_init) l_Around_init c_Around_init k_Around_init
  have b_Around_init := F_Around_init.binds (ps := ["self", "level", "barred", "names"]) fun _ _ _ _ _ _ us hl => match us, hl with | [_, _, _, _], _ => rfl
  have F_Around_within_quote := fun_mk (st := s_Around_within_quote) l_Around_within_quote c_Around_within_quote k_Around_within_quote
  have b_Around_within_quote := F_Around_within_quote.binds (ps := ["self"]) fun _ _ _ _ _ _ us hl => match us, hl with | [_], _ => rfl
  have F_Around_within_hole := fun_mk (st := s_Around_within_hole) l_Around_within_hole c_Around_within_hole k_Around_within_hole
  have b_Around_within_hole := F_Around_within_hole.binds (ps := ["self"]) fun _ _ _ _ _ _ us hl => match us, hl with | [_], _ => rfl
  have F_Around_with_value := fun_mk (st := s_Around_with_value) l_Around_with_value c_Around_with_value k_Around_with_value
  have b_Around_with_value := F_Around_with_value.binds (ps := ["self", "name", "kind"]) fun _ _ _ _ _ _ us hl => match us, hl with | [_, _, _], _ => rfl
  have F_Around_with_function := fun_mk (st := s_Around_with_function) l_Around_with_function c_Around_with_function k_Around_with_function
  have b_Around_with_function := F_Around_with_function.binds (ps := ["self", "name", "wanted", "kind"]) fun _ _ _ _ _ _ us hl => match us, hl with | [_, _, _, _], _ => rfl
  have F_Around_within_function := fun_mk (st := s_Around_within_function) l_Around_within_function c_Around_within_function k_Around_within_function
  have b_Around_within_function := F_Around_within_function.binds (ps := ["self", "name", "kind"]) fun _ _ _ _ _ _ us hl => match us, hl with | [_, _, _], _ => rfl
  have F_Around_meaning_of := fun_mk (st := s_Around_meaning_of) l_Around_meaning_of c_Around_meaning_of k_Around_meaning_of
  have b_Around_meaning_of := F_Around_meaning_of.binds (ps := ["self", "name"]) fun _ _ _ _ _ _ us hl => match us, hl with | [_, _], _ => rfl
  have F_Kinds_init := fun_mk (st := s_Kinds_init) l_Kinds_init c_Kinds_init k_Kinds_init
  have b_Kinds_init := F_Kinds_init.binds (ps := ["self", "rows"]) fun _ _ _ _ _ _ us hl => match us, hl with | [_, _], _ => rfl
  have F_Kinds_kind_at := fun_mk (st := s_Kinds_kind_at) l_Kinds_kind_at c_Kinds_kind_at k_Kinds_kind_at
  have b_Kinds_kind_at := F_Kinds_kind_at.binds (ps := ["self", "place", "around"]) fun _ _ _ _ _ _ us hl => match us, hl with | [_, _, _], _ => rfl
  have F_Kinds_looked_at := fun_mk (st := s_Kinds_looked_at) l_Kinds_looked_at c_Kinds_looked_at k_Kinds_looked_at
  have b_Kinds_looked_at := F_Kinds_looked_at.binds (ps := ["self", "place", "around"]) fun _ _ _ _ _ _ us hl => match us, hl with | [_, _, _], _ => rfl
  have F_Kinds_want := fun_mk (st := s_Kinds_want) l_Kinds_want c_Kinds_want k_Kinds_want
  have b_Kinds_want := F_Kinds_want.binds (ps := ["self", "kind", "place", "around"]) fun _ _ _ _ _ _ us hl => match us, hl with | [_, _, _, _], _ => rfl
  have F_look_at_num := fun_mk (st := s_look_at_num) l_look_at_num c_look_at_num k_look_at_num
  have b_look_at_num := F_look_at_num.binds (ps := ["kinds", "head", "places", "around"]) fun _ _ _ _ _ _ us hl => match us, hl with | [_, _, _, _], _ => rfl
  have m_look_at_num := PySem.W.mg_of X G a_look_at_num
  have F_look_at_name := fun_mk (st := s_look_at_name) l_look_at_name c_look_at_name k_look_at_name
  have b_look_at_name := F_look_at_name.binds (ps := ["kinds", "head", "places", "around"]) fun _ _ _ _ _ _ us hl => match us, hl with | [_, _, _, _], _ => rfl
  have m_look_at_name := PySem.W.mg_of X G a_look_at_name
  have F_look_at_numbers := fun_mk (st := s_look_at_numbers) l_look_at_numbers c_look_at_numbers k_look_at_numbers
  have b_look_at_numbers := F_look_at_numbers.binds (ps := ["kinds", "head", "places", "around"]) fun _ _ _ _ _ _ us hl => match us, hl with | [_, _, _, _], _ => rfl
  have m_look_at_numbers := PySem.W.mg_of X G a_look_at_numbers
  have F_look_at_when := fun_mk (st := s_look_at_when) l_look_at_when c_look_at_when k_look_at_when
  have b_look_at_when := F_look_at_when.binds (ps := ["kinds", "head", "places", "around"]) fun _ _ _ _ _ _ us hl => match us, hl with | [_, _, _, _], _ => rfl
  have m_look_at_when := PySem.W.mg_of X G a_look_at_when
  have F_look_at_let := fun_mk (st := s_look_at_let) l_look_at_let c_look_at_let k_look_at_let
  have b_look_at_let := F_look_at_let.binds (ps := ["kinds", "head", "places", "around"]) fun _ _ _ _ _ _ us hl => match us, hl with | [_, _, _, _], _ => rfl
  have m_look_at_let := PySem.W.mg_of X G a_look_at_let
  have F_look_at_turns := fun_mk (st := s_look_at_turns) l_look_at_turns c_look_at_turns k_look_at_turns
  have b_look_at_turns := F_look_at_turns.binds (ps := ["kinds", "head", "places", "around"]) fun _ _ _ _ _ _ us hl => match us, hl with | [_, _, _, _], _ => rfl
  have m_look_at_turns := PySem.W.mg_of X G a_look_at_turns
  have F_look_at_def := fun_mk (st := s_look_at_def) l_look_at_def c_look_at_def k_look_at_def
  have b_look_at_def := F_look_at_def.binds (ps := ["kinds", "head", "places", "around"]) fun _ _ _ _ _ _ us hl => match us, hl with | [_, _, _, _], _ => rfl
  have m_look_at_def := PySem.W.mg_of X G a_look_at_def
  have F_look_at_use := fun_mk (st := s_look_at_use) l_look_at_use c_look_at_use k_look_at_use
  have b_look_at_use := F_look_at_use.binds (ps := ["kinds", "head", "places", "around"]) fun _ _ _ _ _ _ us hl => match us, hl with | [_, _, _, _], _ => rfl
  have m_look_at_use := PySem.W.mg_of X G a_look_at_use
  have F_look_at_quote := fun_mk (st := s_look_at_quote) l_look_at_quote c_look_at_quote k_look_at_quote
  have b_look_at_quote := F_look_at_quote.binds (ps := ["kinds", "head", "places", "around"]) fun _ _ _ _ _ _ us hl => match us, hl with | [_, _, _, _], _ => rfl
  have m_look_at_quote := PySem.W.mg_of X G a_look_at_quote
  have F_look_at_hole := fun_mk (st := s_look_at_hole) l_look_at_hole c_look_at_hole k_look_at_hole
  have b_look_at_hole := F_look_at_hole.binds (ps := ["kinds", "head", "places", "around"]) fun _ _ _ _ _ _ us hl => match us, hl with | [_, _, _, _], _ => rfl
  have m_look_at_hole := PySem.W.mg_of X G a_look_at_hole
  have F_look_at_lift := fun_mk (st := s_look_at_lift) l_look_at_lift c_look_at_lift k_look_at_lift
  have b_look_at_lift := F_look_at_lift.binds (ps := ["kinds", "head", "places", "around"]) fun _ _ _ _ _ _ us hl => match us, hl with | [_, _, _, _], _ => rfl
  have m_look_at_lift := PySem.W.mg_of X G a_look_at_lift
  have F_look_at_run := fun_mk (st := s_look_at_run) l_look_at_run c_look_at_run k_look_at_run
  have b_look_at_run := F_look_at_run.binds (ps := ["kinds", "head", "places", "around"]) fun _ _ _ _ _ _ us hl => match us, hl with | [_, _, _, _], _ => rfl
  have m_look_at_run := PySem.W.mg_of X G a_look_at_run
  have F_law_cell_at := fun_mk (st := s_cell_at) l_law_cell_at c_law_cell_at k_law_cell_at
  have b_law_cell_at := F_law_cell_at.binds (ps := ["_law_script", "_law_k"]) fun _ _ _ _ _ _ us hl => match us, hl with | [_, _], _ => rfl
  have m_law_cell_at := PySem.W.mg_of X G a_law_cell_at
  have F_law_mixed := fun_mk (st := s_mixed) l_law_mixed c_law_mixed k_law_mixed
  have b_law_mixed := F_law_mixed.binds (ps := ["_law_script", "_law_k"]) fun _ _ _ _ _ _ us hl => match us, hl with | [_, _], _ => rfl
  have m_law_mixed := PySem.W.mg_of X G a_law_mixed
  have F_law_name := fun_mk (st := s_name) l_law_name c_law_name k_law_name
  have b_law_name := F_law_name.binds (ps := ["_law_script", "_law_which"]) fun _ _ _ _ _ _ us hl => match us, hl with | [_, _], _ => rfl
  have m_law_name := PySem.W.mg_of X G a_law_name
  have F_law_next := fun_mk (st := s_next) l_law_next c_law_next k_law_next
  have b_law_next := F_law_next.binds (ps := ["_law_script", "_law_state"]) fun _ _ _ _ _ _ us hl => match us, hl with | [_, _], _ => rfl
  have m_law_next := PySem.W.mg_of X G a_law_next
  have F_law_number := fun_mk (st := s_number) l_law_number c_law_number k_law_number
  have b_law_number := F_law_number.binds (ps := ["_law_number_here"]) fun _ _ _ _ _ _ us hl => match us, hl with | [_], _ => rfl
  have m_law_number := PySem.W.mg_of X G a_law_number
  have F_law_seen := fun_mk (st := s_seen) l_law_seen c_law_seen k_law_seen
  have b_law_seen := F_law_seen.binds (ps := ["_law_scope", "_law_level", "_law_kinds"]) fun _ _ _ _ _ _ us hl => match us, hl with | [_, _, _], _ => rfl
  have m_law_seen := PySem.W.mg_of X G a_law_seen
  have F_law_leaf := fun_mk (st := s_leaf) l_law_leaf c_law_leaf k_law_leaf
  have b_law_leaf := F_law_leaf.binds (ps := ["_law_script", "_law_state", "_law_level", "_law_kind", "_law_scope", "_law_number_here"]) fun _ _ _ _ _ _ us hl => match us, hl with | [_, _, _, _, _, _], _ => rfl
  have m_law_leaf := PySem.W.mg_of X G a_law_leaf
  have F_law_words := fun_mk (st := s_words) l_law_words c_law_words k_law_words
  have b_law_words := F_law_words.binds (ps := ["_law_level", "_law_kind", "_law_free"]) fun _ _ _ _ _ _ us hl => match us, hl with | [_, _, _], _ => rfl
  have m_law_words := PySem.W.mg_of X G a_law_words
  have F_law_term := fun_mk (st := s_term) l_law_term c_law_term k_law_term
  have b_law_term := F_law_term.binds (ps := ["_law_script", "_law_state", "_law_level", "_law_kind", "_law_scope", "_law_depth", "_law_free"]) fun _ _ _ _ _ _ us hl => match us, hl with | [_, _, _, _, _, _, _], _ => rfl
  have m_law_term := PySem.W.mg_of X G a_law_term
  have F_law_twice := fun_mk (st := s_twice) l_law_twice c_law_twice k_law_twice
  have b_law_twice := F_law_twice.binds (ps := ["_law_script", "_law_state", "_law_scope", "_law_depth", "_law_number_here"]) fun _ _ _ _ _ _ us hl => match us, hl with | [_, _, _, _, _], _ => rfl
  have m_law_twice := PySem.W.mg_of X G a_law_twice
  have F_law_bound := fun_mk (st := s_bound) l_law_bound c_law_bound k_law_bound
  have b_law_bound := F_law_bound.binds (ps := ["_law_script", "_law_state", "_law_what", "_law_scope", "_law_depth", "_law_number_here"]) fun _ _ _ _ _ _ us hl => match us, hl with | [_, _, _, _, _, _], _ => rfl
  have m_law_bound := PySem.W.mg_of X G a_law_bound
  have F_law_kind_of := fun_mk (st := s_law_kind_of) l_law_kind_of c_law_kind_of k_law_kind_of
  have b_law_kind_of := F_law_kind_of.binds (ps := ["_law_term_here"]) fun _ _ _ _ _ _ us hl => match us, hl with | [_], _ => rfl
  have m_law_kind_of := PySem.W.mg_of X G a_law_kind_of
  have F_law := fun_mk (st := s_law) l_law c_law k_law
  have b_law := F_law.binds (ps := ["_law_script"]) fun _ _ _ _ _ _ us hl => match us, hl with | [_], _ => rfl
  have T : Txt mg := ⟨PySem.W.mg_none_of X G z_len, PySem.W.mg_none_of X G z_list, PySem.W.mg_none_of X G z_max, PySem.W.mg_none_of X G z_range, PySem.W.mg_none_of X G z_tuple, PySem.W.mg_none_of X G z_zip⟩
  have TC : TxtC K C_TermTable := ⟨cl_TermTable, no_TermTable_rows, no_TermTable_known⟩
  have Z : KParts K w mg D_PARTS_AT := ⟨PySem.W.mg_of X G aD_PARTS_AT, fun u => by
    cases u
    · exact ⟨_, _, _, lD_PARTS_AT, kD_PARTS_AT, d_PARTS_AT_num, _, rfl⟩
    · exact ⟨_, _, _, lD_PARTS_AT, kD_PARTS_AT, d_PARTS_AT_name, _, rfl⟩
    · exact ⟨_, _, _, lD_PARTS_AT, kD_PARTS_AT, d_PARTS_AT_sum, _, rfl⟩
    · exact ⟨_, _, _, lD_PARTS_AT, kD_PARTS_AT, d_PARTS_AT_product, _, rfl⟩
    · exact ⟨_, _, _, lD_PARTS_AT, kD_PARTS_AT, d_PARTS_AT_less, _, rfl⟩
    · exact ⟨_, _, _, lD_PARTS_AT, kD_PARTS_AT, d_PARTS_AT_when, _, rfl⟩
    · exact ⟨_, _, _, lD_PARTS_AT, kD_PARTS_AT, d_PARTS_AT_let, _, rfl⟩
    · exact ⟨_, _, _, lD_PARTS_AT, kD_PARTS_AT, d_PARTS_AT_turns, _, rfl⟩
    · exact ⟨_, _, _, lD_PARTS_AT, kD_PARTS_AT, d_PARTS_AT_def, _, rfl⟩
    · exact ⟨_, _, _, lD_PARTS_AT, kD_PARTS_AT, d_PARTS_AT_use, _, rfl⟩
    · exact ⟨_, _, _, lD_PARTS_AT, kD_PARTS_AT, d_PARTS_AT_quote, _, rfl⟩
    · exact ⟨_, _, _, lD_PARTS_AT, kD_PARTS_AT, d_PARTS_AT_hole, _, rfl⟩
    · exact ⟨_, _, _, lD_PARTS_AT, kD_PARTS_AT, d_PARTS_AT_lift, _, rfl⟩
    · exact ⟨_, _, _, lD_PARTS_AT, kD_PARTS_AT, d_PARTS_AT_run, _, rfl⟩⟩
  have TC_Around : TcA K C_Around := ⟨cl_Around, no_Around_level, no_Around_barred, no_Around_names⟩
  have TC_Kinds : TcK K C_Kinds := ⟨cl_Kinds, no_Kinds_rows, no_Kinds_loose, no_Kinds_known⟩
  obtain ⟨FL, hFL⟩ : ∃ FL : W → Addr, FL = fun u => match u with | .num => f_look_at_num | .name => f_look_at_name | .sum => f_look_at_numbers | .product => f_look_at_numbers | .less => f_look_at_numbers | .when => f_look_at_when | .let => f_look_at_let | .turns => f_look_at_turns | .def => f_look_at_def | .use => f_look_at_use | .quote => f_look_at_quote | .hole => f_look_at_hole | .lift => f_look_at_lift | .run => f_look_at_run := ⟨_, rfl⟩
  have KL : KLk K w mg FL D_LEVEL_OF D_LOOKS := by
    subst hFL
    refine ⟨PySem.W.mg_of X G aD_LEVEL_OF, PySem.W.mg_of X G aD_LOOKS, ⟨_, _, lD_LEVEL_OF, kD_LEVEL_OF, sy_LEVEL_OF⟩, fun u => ?_, fun u => ?_⟩
    · cases u
      · exact ⟨_, n_LEVEL_OF_num, by decide⟩
      · exact ⟨_, n_LEVEL_OF_name, by decide⟩
      · exact ⟨_, n_LEVEL_OF_sum, by decide⟩
      · exact ⟨_, n_LEVEL_OF_product, by decide⟩
      · exact ⟨_, n_LEVEL_OF_less, by decide⟩
      · exact ⟨_, n_LEVEL_OF_when, by decide⟩
      · exact ⟨_, n_LEVEL_OF_let, by decide⟩
      · exact ⟨_, n_LEVEL_OF_turns, by decide⟩
      · exact ⟨_, n_LEVEL_OF_def, by decide⟩
      · exact ⟨_, n_LEVEL_OF_use, by decide⟩
      · exact ⟨_, d_LEVEL_OF_quote, by decide, _, rfl⟩
      · exact ⟨_, d_LEVEL_OF_hole, by decide, _, rfl⟩
      · exact ⟨_, d_LEVEL_OF_lift, by decide, _, rfl⟩
      · exact ⟨_, d_LEVEL_OF_run, by decide, _, rfl⟩
    · cases u
      · exact ⟨_, _, _, lD_LOOKS, kD_LOOKS, d_LOOKS_num, rfl⟩
      · exact ⟨_, _, _, lD_LOOKS, kD_LOOKS, d_LOOKS_name, rfl⟩
      · exact ⟨_, _, _, lD_LOOKS, kD_LOOKS, d_LOOKS_sum, rfl⟩
      · exact ⟨_, _, _, lD_LOOKS, kD_LOOKS, d_LOOKS_product, rfl⟩
      · exact ⟨_, _, _, lD_LOOKS, kD_LOOKS, d_LOOKS_less, rfl⟩
      · exact ⟨_, _, _, lD_LOOKS, kD_LOOKS, d_LOOKS_when, rfl⟩
      · exact ⟨_, _, _, lD_LOOKS, kD_LOOKS, d_LOOKS_let, rfl⟩
      · exact ⟨_, _, _, lD_LOOKS, kD_LOOKS, d_LOOKS_turns, rfl⟩
      · exact ⟨_, _, _, lD_LOOKS, kD_LOOKS, d_LOOKS_def, rfl⟩
      · exact ⟨_, _, _, lD_LOOKS, kD_LOOKS, d_LOOKS_use, rfl⟩
      · exact ⟨_, _, _, lD_LOOKS, kD_LOOKS, d_LOOKS_quote, rfl⟩
      · exact ⟨_, _, _, lD_LOOKS, kD_LOOKS, d_LOOKS_hole, rfl⟩
      · exact ⟨_, _, _, lD_LOOKS, kD_LOOKS, d_LOOKS_lift, rfl⟩
      · exact ⟨_, _, _, lD_LOOKS, kD_LOOKS, d_LOOKS_run, rfl⟩
  refine ⟨PySem.W.fnOf "law" "law" (defArgs s_law) (defBody s_law) (defScope s_law) .none kV_law dc_law pm_law an_law cd_law ct_law, fun s v => .of_eq rfl, fun base _ _ => ?_⟩
  have C_law_cell_at : Cal l.prog w K mg base "_law_cell_at" ["_law_script", "_law_k"] 1 (spCellAt K) _ _ := ⟨ok_cell_at F_law_cell_at T, m_law_cell_at, k_law_cell_at, b_law_cell_at⟩
  have C_law_mixed : Cal l.prog w K mg base "_law_mixed" ["_law_script", "_law_k"] 2 (spMixed K) _ _ := ⟨ok_mixed F_law_mixed T C_law_cell_at, m_law_mixed, k_law_mixed, b_law_mixed⟩
  have C_law_next : Cal l.prog w K mg base "_law_next" ["_law_script", "_law_state"] 3 (spNext K) _ _ := ⟨ok_next F_law_next C_law_mixed, m_law_next, k_law_next, b_law_next⟩
  have C_law_number : Cal l.prog w K mg base "_law_number" ["_law_number_here"] 1 spNumber _ _ := ⟨ok_number F_law_number, m_law_number, k_law_number, b_law_number⟩
  have C_law_name : Cal l.prog w K mg base "_law_name" ["_law_script", "_law_which"] 3 (spName K) _ _ := ⟨ok_name F_law_name T C_law_mixed, m_law_name, k_law_name, b_law_name⟩
  have C_law_seen : Cal l.prog w K mg base "_law_seen" ["_law_scope", "_law_level", "_law_kinds"] 1 (spSeen K) _ _ := ⟨ok_seen F_law_seen T, m_law_seen, k_law_seen, b_law_seen⟩
  have C_law_leaf : Cal l.prog w K mg base "_law_leaf" ["_law_script", "_law_state", "_law_level", "_law_kind", "_law_scope", "_law_number_here"] 2 (spLeaf K) _ _ := ⟨ok_leaf F_law_leaf T C_law_seen C_law_number, m_law_leaf, k_law_leaf, b_law_leaf⟩
  have C_law_words : Cal l.prog w K mg base "_law_words" ["_law_level", "_law_kind", "_law_free"] 1 spWords _ _ := ⟨ok_words F_law_words, m_law_words, k_law_words, b_law_words⟩
  have C_law_term : Cal l.prog w K mg base "_law_term" ["_law_script", "_law_state", "_law_level", "_law_kind", "_law_scope", "_law_depth", "_law_free"] 22 (spTerm K 6) _ _ := ⟨all_term F_law_term F_law_twice F_law_bound T C_law_next C_law_leaf C_law_words C_law_seen C_law_name C_law_number m_law_term k_law_term b_law_term m_law_twice k_law_twice b_law_twice m_law_bound k_law_bound b_law_bound 6, m_law_term, k_law_term, b_law_term⟩
  have C_head_of : Cal l.prog w K mg base "head_of" ["term"] 1 spHead _ _ := ⟨ok_head_of F_head_of Z, m_head_of, k_head_of, b_head_of⟩
  have C_parts_of : Cal l.prog w K mg base "parts_of" ["term"] 1 spPartsOf _ _ := ⟨ok_parts_of F_parts_of Z, m_parts_of, k_parts_of, b_parts_of⟩
  have C_edge_of : Cal l.prog w K mg base "edge_of" ["term", "side"] 2 spEdge _ _ := ⟨ok_edge_of F_edge_of T C_head_of C_parts_of, m_edge_of, k_edge_of, b_edge_of⟩
  have C_ends_of : Cal l.prog w K mg base "ends_of" ["term"] 3 spEnds _ _ := ⟨ok_ends_of F_ends_of C_edge_of, m_ends_of, k_ends_of, b_ends_of⟩
  have MK_TermTable : CalC l.prog w K mg base "TermTable" _ ["self"] 1 (spTabInit l.prog w C_TermTable) _ _ := ⟨⟨mk_TermTable, a_TermTable_init, i_TermTable_init, kc_TermTable⟩, ok_tab_init F_TermTable_init TC, mC_TermTable, b_TermTable_init⟩
  have C_place_of : CalM l.prog w K mg base _ "place_of" ["self", "term"] 64 (spPlace l.prog w C_TermTable 60) _ _ := ⟨all_place F_TermTable_place_of T TC C_ends_of C_head_of C_parts_of ⟨a_TermTable_place_of, i_TermTable_place_of, k_TermTable_place_of⟩ b_TermTable_place_of 60, ⟨a_TermTable_place_of, i_TermTable_place_of, k_TermTable_place_of⟩, b_TermTable_place_of⟩
  have C_rows_of : Cal l.prog w K mg base "rows_of" ["term"] 65 spRows _ _ := ⟨ok_rows_of F_rows_of TC MK_TermTable C_place_of, m_rows_of, k_rows_of, b_rows_of⟩
  have C_bound_in_parts : Cal l.prog w K mg base "bound_in_parts" ["head", "many"] 1 spBounds _ _ := ⟨ok_bounds F_bound_in_parts, m_bound_in_parts, k_bound_in_parts, b_bound_in_parts⟩
  have C_loose_names : Cal l.prog w K mg base "loose_names" ["head", "loose_in_parts"] 2 spLooseNames _ _ := ⟨ok_loose_names F_loose_names T C_bound_in_parts, m_loose_names, k_loose_names, b_loose_names⟩
  have C_loose_in_rows : Cal l.prog w K mg base "loose_in_rows" ["rows"] 3 spLooseRows _ _ := ⟨ok_loose_rows F_loose_in_rows C_loose_names, m_loose_in_rows, k_loose_in_rows, b_loose_in_rows⟩
  have MK_Around : CalC l.prog w K mg base "Around" _ ["self", "level", "barred", "names"] 1 (spArInit C_Around) _ _ := ⟨⟨mk_Around, a_Around_init, i_Around_init, kc_Around⟩, ok_ar_init F_Around_init TC_Around, mC_Around, b_Around_init⟩
  have C_within_quote : CalM l.prog w K mg base _ "within_quote" ["self"] 3 (spIn C_Around true) _ _ := ⟨ok_within_quote F_Around_within_quote TC_Around MK_Around, ⟨a_Around_within_quote, i_Around_within_quote, k_Around_within_quote⟩, b_Around_within_quote⟩
  have C_within_hole : CalM l.prog w K mg base _ "within_hole" ["self"] 3 (spIn C_Around false) _ _ := ⟨ok_within_hole F_Around_within_hole TC_Around MK_Around, ⟨a_Around_within_hole, i_Around_within_hole, k_Around_within_hole⟩, b_Around_within_hole⟩
  have C_with_value : CalM l.prog w K mg base _ "with_value" ["self", "name", "kind"] 3 (spWithV C_Around) _ _ := ⟨ok_with_value F_Around_with_value TC_Around MK_Around, ⟨a_Around_with_value, i_Around_with_value, k_Around_with_value⟩, b_Around_with_value⟩
  have C_with_function : CalM l.prog w K mg base _ "with_function" ["self", "name", "wanted", "kind"] 3 (spWithF C_Around) _ _ := ⟨ok_with_function F_Around_with_function TC_Around MK_Around, ⟨a_Around_with_function, i_Around_with_function, k_Around_with_function⟩, b_Around_with_function⟩
  have C_within_function : CalM l.prog w K mg base _ "within_function" ["self", "name", "kind"] 3 (spInF C_Around) _ _ := ⟨ok_within_function F_Around_within_function TC_Around MK_Around, ⟨a_Around_within_function, i_Around_within_function, k_Around_within_function⟩, b_Around_within_function⟩
  have C_meaning_of : CalM l.prog w K mg base _ "meaning_of" ["self", "name"] 1 (spMeaning C_Around) _ _ := ⟨ok_meaning_of F_Around_meaning_of TC_Around, ⟨a_Around_meaning_of, i_Around_meaning_of, k_Around_meaning_of⟩, b_Around_meaning_of⟩
  have MK_Kinds : CalC l.prog w K mg base "Kinds" _ ["self", "rows"] 4 (spKinInit l.prog w C_Kinds) _ _ := ⟨⟨mk_Kinds, a_Kinds_init, i_Kinds_init, kc_Kinds⟩, ok_kin_init F_Kinds_init TC_Kinds C_loose_in_rows, mC_Kinds, b_Kinds_init⟩
  have KA := all_kind (P := l.prog) (w := w) (mg := mg) (base := base) (CK := C_Kinds) (CA := C_Around) F_Kinds_kind_at (fun n ih => by
    have C_kind_at : CalM l.prog w K mg base _ "kind_at" ["self", "place", "around"] (4 * n + 2) (spKind l.prog w C_Kinds C_Around n) _ _ := ⟨ih, ⟨a_Kinds_kind_at, i_Kinds_kind_at, k_Kinds_kind_at⟩, b_Kinds_kind_at⟩
    have C_want : CalM l.prog w K mg base _ "want" ["self", "kind", "place", "around"] (4 * n + 3) (spWant l.prog w C_Kinds C_Around n) _ _ := ⟨ok_want F_Kinds_want TC_Kinds C_kind_at, ⟨a_Kinds_want, i_Kinds_want, k_Kinds_want⟩, b_Kinds_want⟩
    have C_look_at_num : Cal l.prog w K mg base "look_at_num" ["kinds", "head", "places", "around"] (4 * n + 4) (spLook l.prog w C_Kinds C_Around n .num) _ _ := ⟨ok_look_num F_look_at_num TC_Kinds TC_Around, m_look_at_num, k_look_at_num, b_look_at_num⟩
    have C_look_at_name : Cal l.prog w K mg base "look_at_name" ["kinds", "head", "places", "around"] (4 * n + 4) (spLook l.prog w C_Kinds C_Around n .name) _ _ := ⟨ok_look_name F_look_at_name TC_Kinds TC_Around C_meaning_of, m_look_at_name, k_look_at_name, b_look_at_name⟩
    have C_look_at_numbers : Cal l.prog w K mg base "look_at_numbers" ["kinds", "head", "places", "around"] (4 * n + 4) (fun vs H Q E => ∃ o : Bin, spLook l.prog w C_Kinds C_Around n o.w vs H Q E) _ _ := ⟨ok_look_numbers F_look_at_numbers TC_Kinds TC_Around C_want, m_look_at_numbers, k_look_at_numbers, b_look_at_numbers⟩
    have C_look_at_when : Cal l.prog w K mg base "look_at_when" ["kinds", "head", "places", "around"] (4 * n + 4) (spLook l.prog w C_Kinds C_Around n .when) _ _ := ⟨ok_look_when F_look_at_when TC_Kinds TC_Around C_want C_kind_at, m_look_at_when, k_look_at_when, b_look_at_when⟩
    have C_look_at_let : Cal l.prog w K mg base "look_at_let" ["kinds", "head", "places", "around"] (4 * n + 4) (spLook l.prog w C_Kinds C_Around n .let) _ _ := ⟨ok_look_let F_look_at_let TC_Kinds TC_Around C_kind_at C_with_value, m_look_at_let, k_look_at_let, b_look_at_let⟩
    have C_look_at_turns : Cal l.prog w K mg base "look_at_turns" ["kinds", "head", "places", "around"] (4 * n + 4) (spLook l.prog w C_Kinds C_Around n .turns) _ _ := ⟨ok_look_turns F_look_at_turns TC_Kinds TC_Around C_want C_kind_at C_with_value, m_look_at_turns, k_look_at_turns, b_look_at_turns⟩
    have C_look_at_def : Cal l.prog w K mg base "look_at_def" ["kinds", "head", "places", "around"] (4 * n + 4) (spLook l.prog w C_Kinds C_Around n .def) _ _ := ⟨ok_look_def F_look_at_def TC_Kinds TC_Around C_kind_at C_with_function C_within_function, m_look_at_def, k_look_at_def, b_look_at_def⟩
    have C_look_at_use : Cal l.prog w K mg base "look_at_use" ["kinds", "head", "places", "around"] (4 * n + 4) (spLook l.prog w C_Kinds C_Around n .use) _ _ := ⟨ok_look_use F_look_at_use TC_Kinds TC_Around C_want C_meaning_of, m_look_at_use, k_look_at_use, b_look_at_use⟩
    have C_look_at_quote : Cal l.prog w K mg base "look_at_quote" ["kinds", "head", "places", "around"] (4 * n + 4) (spLook l.prog w C_Kinds C_Around n .quote) _ _ := ⟨ok_look_quote F_look_at_quote TC_Kinds TC_Around C_want C_within_quote, m_look_at_quote, k_look_at_quote, b_look_at_quote⟩
    have C_look_at_hole : Cal l.prog w K mg base "look_at_hole" ["kinds", "head", "places", "around"] (4 * n + 4) (spLook l.prog w C_Kinds C_Around n .hole) _ _ := ⟨ok_look_hole F_look_at_hole TC_Kinds TC_Around C_want C_within_hole, m_look_at_hole, k_look_at_hole, b_look_at_hole⟩
    have C_look_at_lift : Cal l.prog w K mg base "look_at_lift" ["kinds", "head", "places", "around"] (4 * n + 4) (spLook l.prog w C_Kinds C_Around n .lift) _ _ := ⟨ok_look_lift F_look_at_lift TC_Kinds TC_Around C_want, m_look_at_lift, k_look_at_lift, b_look_at_lift⟩
    have C_look_at_run : Cal l.prog w K mg base "look_at_run" ["kinds", "head", "places", "around"] (4 * n + 4) (spLook l.prog w C_Kinds C_Around n .run) _ _ := ⟨ok_look_run F_look_at_run TC_Kinds TC_Around C_want, m_look_at_run, k_look_at_run, b_look_at_run⟩
    have HL : ∀ u : W, HeldK l.prog w K mg base (4 * n + 4) (FL u) (spLook l.prog w C_Kinds C_Around n u) := fun u => by
      cases u
      · have z : HeldK l.prog w K mg base (4 * n + 4) f_look_at_num (spLook l.prog w C_Kinds C_Around n .num) := ⟨_, _, C_look_at_num.ok, C_look_at_num.kp, C_look_at_num.b⟩; rw [hFL]; exact z
      · have z : HeldK l.prog w K mg base (4 * n + 4) f_look_at_name (spLook l.prog w C_Kinds C_Around n .name) := ⟨_, _, C_look_at_name.ok, C_look_at_name.kp, C_look_at_name.b⟩; rw [hFL]; exact z
      · have z : HeldK l.prog w K mg base (4 * n + 4) f_look_at_numbers (spLook l.prog w C_Kinds C_Around n .sum) := ⟨_, _, FnOk.weakK C_look_at_numbers.ok (fun _ _ _ _ h => ⟨.sum, h⟩), C_look_at_numbers.kp, C_look_at_numbers.b⟩; rw [hFL]; exact z
      · have z : HeldK l.prog w K mg base (4 * n + 4) f_look_at_numbers (spLook l.prog w C_Kinds C_Around n .product) := ⟨_, _, FnOk.weakK C_look_at_numbers.ok (fun _ _ _ _ h => ⟨.product, h⟩), C_look_at_numbers.kp, C_look_at_numbers.b⟩; rw [hFL]; exact z
      · have z : HeldK l.prog w K mg base (4 * n + 4) f_look_at_numbers (spLook l.prog w C_Kinds C_Around n .less) := ⟨_, _, FnOk.weakK C_look_at_numbers.ok (fun _ _ _ _ h => ⟨.less, h⟩), C_look_at_numbers.kp, C_look_at_numbers.b⟩; rw [hFL]; exact z
      · have z : HeldK l.prog w K mg base (4 * n + 4) f_look_at_when (spLook l.prog w C_Kinds C_Around n .when) := ⟨_, _, C_look_at_when.ok, C_look_at_when.kp, C_look_at_when.b⟩; rw [hFL]; exact z
      · have z : HeldK l.prog w K mg base (4 * n + 4) f_look_at_let (spLook l.prog w C_Kinds C_Around n .let) := ⟨_, _, C_look_at_let.ok, C_look_at_let.kp, C_look_at_let.b⟩; rw [hFL]; exact z
      · have z : HeldK l.prog w K mg base (4 * n + 4) f_look_at_turns (spLook l.prog w C_Kinds C_Around n .turns) := ⟨_, _, C_look_at_turns.ok, C_look_at_turns.kp, C_look_at_turns.b⟩; rw [hFL]; exact z
      · have z : HeldK l.prog w K mg base (4 * n + 4) f_look_at_def (spLook l.prog w C_Kinds C_Around n .def) := ⟨_, _, C_look_at_def.ok, C_look_at_def.kp, C_look_at_def.b⟩; rw [hFL]; exact z
      · have z : HeldK l.prog w K mg base (4 * n + 4) f_look_at_use (spLook l.prog w C_Kinds C_Around n .use) := ⟨_, _, C_look_at_use.ok, C_look_at_use.kp, C_look_at_use.b⟩; rw [hFL]; exact z
      · have z : HeldK l.prog w K mg base (4 * n + 4) f_look_at_quote (spLook l.prog w C_Kinds C_Around n .quote) := ⟨_, _, C_look_at_quote.ok, C_look_at_quote.kp, C_look_at_quote.b⟩; rw [hFL]; exact z
      · have z : HeldK l.prog w K mg base (4 * n + 4) f_look_at_hole (spLook l.prog w C_Kinds C_Around n .hole) := ⟨_, _, C_look_at_hole.ok, C_look_at_hole.kp, C_look_at_hole.b⟩; rw [hFL]; exact z
      · have z : HeldK l.prog w K mg base (4 * n + 4) f_look_at_lift (spLook l.prog w C_Kinds C_Around n .lift) := ⟨_, _, C_look_at_lift.ok, C_look_at_lift.kp, C_look_at_lift.b⟩; rw [hFL]; exact z
      · have z : HeldK l.prog w K mg base (4 * n + 4) f_look_at_run (spLook l.prog w C_Kinds C_Around n .run) := ⟨_, _, C_look_at_run.ok, C_look_at_run.kp, C_look_at_run.b⟩; rw [hFL]; exact z
    have C_looked_at : CalM l.prog w K mg base _ "looked_at" ["self", "place", "around"] (4 * n + 5) (spLooked l.prog w C_Kinds C_Around n) _ _ := ⟨ok_looked_at F_Kinds_looked_at TC_Kinds TC_Around KL HL, ⟨a_Kinds_looked_at, i_Kinds_looked_at, k_Kinds_looked_at⟩, b_Kinds_looked_at⟩
    exact ok_kind_at F_Kinds_kind_at T TC_Kinds TC_Around C_looked_at)
  have C_kind_at : CalM l.prog w K mg base _ "kind_at" ["self", "place", "around"] 74 (spKind l.prog w C_Kinds C_Around 18) _ _ := ⟨KA 18, ⟨a_Kinds_kind_at, i_Kinds_kind_at, k_Kinds_kind_at⟩, b_Kinds_kind_at⟩
  have C_kind_of : Cal l.prog w K mg base "kind_of" ["term"] 75 spKindOf _ _ := ⟨ok_kind_of F_kind_of TC_Kinds TC_Around C_rows_of MK_Kinds MK_Around C_kind_at T, m_kind_of, k_kind_of, b_kind_of⟩
  have C_law_kind_of : Cal l.prog w K mg base "_law_kind_of" ["_law_term_here"] 76 spKindOf _ _ := ⟨ok_law_kind_of F_law_kind_of C_kind_of, m_law_kind_of, k_law_kind_of, b_law_kind_of⟩
  exact ok_law F_law T C_law_mixed C_law_term C_law_kind_of
theorem walk {l : PySem.W.OpenLaw} {q : Program} {loose : List Str} {XP : (Str → Option Value) → Heap → Prop} {YP : World → Heap → Prop} {d : DefRec} {K : Params → PySem.W.Frag} (hn : l.most = some 63) (hdf : d.params.defaults = [])
    (hY : ∀ (w : World) (h : Heap), YP w h → (K w.params).In h)
    (F : ∀ (w : World) (mg : Str → Option Value) (fa : Addr) (h : Heap), (K w.params).In h → h.Ns mainGlobals mg → mg d.name = some (.ref fa) →
      ∃ fd : FuncData, (∀ (s : Shared) (u : Value), BindsTo s fd ⟨[u], []⟩ [("_law_script", u)]) ∧ ∀ base : Heap, (K w.params).In base → base.Ns mainGlobals mg → FnOk l.prog w (K w.params) mg base CX0 77 fa fd ["_law_script"] (spLaw (K w.params))) :
    PySem.W.WalkO q loose XP YP l.row.toRowW d [] (fun f vs => PySem.call f vs) :=
  L2.walk_of (n := 63) (k := 77) (x := "_law_script") (CX := fun _ => CX0) (sp := fun w => spLaw (K w.params)) hn (by decide) hdf ⟨rfl, by decide, by decide⟩ hY F (fun _ _ a ns hl hO hS => ⟨a, rfl, Ints.of hO hS hl, fun _ => rfl⟩) fun _ _ _ _ _ z => z
end Q
open PySem PySem.W PyProof.Rows in
set_option maxRecDepth 100000 in
set_option maxHeartbeats 0 in
theorem PySem.Challenge.cw_quotehall_k05_kinds_holds : PySem.Challenge.rw_quotehall_k05_kinds.Holds := by
  w_on; o_law; k_head; (case hw => w_witness2)
  k_fill
  refine Q.walk (l := PySem.Challenge.rw_quotehall_k05_kinds) rfl rfl (fun w h Y => PySem.W.kIn_of Y) ?F
  case F =>
    intro w mg fa h KX G hmg
    refine' Q.all_mk KX G hmg ?aC_HallError ?aC_NoName ?aC_WrongLevel ?aC_WrongKind ?aC_TermTable ?pg_TermTable ?hd_TermTable ?po_TermTable ?sa_TermTable ?mk_TermTable ?kc_TermTable ?no_TermTable_rows ?no_TermTable_known ?aC_Around ?pg_Around ?hd_Around ?po_Around ?sa_Around ?mk_Around ?kc_Around ?no_Around_level ?no_Around_barred ?no_Around_names ?aC_Kinds ?pg_Kinds ?hd_Kinds ?po_Kinds ?sa_Kinds ?mk_Kinds ?kc_Kinds ?no_Kinds_rows ?no_Kinds_loose ?no_Kinds_known ?a_loose_in_rows ?l_loose_in_rows ?c_loose_in_rows ?k_loose_in_rows ?a_loose_names ?l_loose_names ?c_loose_names ?k_loose_names ?a_bound_in_parts ?l_bound_in_parts ?c_bound_in_parts ?k_bound_in_parts ?a_head_of ?l_head_of ?c_head_of ?k_head_of ?a_parts_of ?l_parts_of ?c_parts_of ?k_parts_of ?a_rows_of ?l_rows_of ?c_rows_of ?k_rows_of ?a_TermTable_init ?i_TermTable_init ?l_TermTable_init ?c_TermTable_init ?k_TermTable_init ?a_TermTable_place_of ?i_TermTable_place_of ?l_TermTable_place_of ?c_TermTable_place_of ?k_TermTable_place_of ?a_ends_of ?l_ends_of ?c_ends_of ?k_ends_of ?a_edge_of ?l_edge_of ?c_edge_of ?k_edge_of ?a_kind_of ?l_kind_of ?c_kind_of ?k_kind_of ?a_Around_init ?i_Around_init ?l_Around_init ?c_Around_init ?k_Around_init ?a_Around_within_quote ?i_Around_within_quote ?l_Around_within_quote ?c_Around_within_quote ?k_Around_within_quote ?a_Around_within_hole ?i_Around_within_hole ?l_Around_within_hole ?c_Around_within_hole ?k_Around_within_hole ?a_Around_with_value ?i_Around_with_value ?l_Around_with_value ?c_Around_with_value ?k_Around_with_value ?a_Around_with_function ?i_Around_with_function ?l_Around_with_function ?c_Around_with_function ?k_Around_with_function ?a_Around_within_function ?i_Around_within_function ?l_Around_within_function ?c_Around_within_function ?k_Around_within_function ?a_Around_meaning_of ?i_Around_meaning_of ?l_Around_meaning_of ?c_Around_meaning_of ?k_Around_meaning_of ?a_Kinds_init ?i_Kinds_init ?l_Kinds_init ?c_Kinds_init ?k_Kinds_init ?a_Kinds_kind_at ?i_Kinds_kind_at ?l_Kinds_kind_at ?c_Kinds_kind_at ?k_Kinds_kind_at ?a_Kinds_looked_at ?i_Kinds_looked_at ?l_Kinds_looked_at ?c_Kinds_looked_at ?k_Kinds_looked_at ?a_Kinds_want ?i_Kinds_want ?l_Kinds_want ?c_Kinds_want ?k_Kinds_want ?a_look_at_num ?l_look_at_num ?c_look_at_num ?k_look_at_num ?a_look_at_name ?l_look_at_name ?c_look_at_name ?k_look_at_name ?a_look_at_numbers ?l_look_at_numbers ?c_look_at_numbers ?k_look_at_numbers ?a_look_at_when ?l_look_at_when ?c_look_at_when ?k_look_at_when ?a_look_at_let ?l_look_at_let ?c_look_at_let ?k_look_at_let ?a_look_at_turns ?l_look_at_turns ?c_look_at_turns ?k_look_at_turns ?a_look_at_def ?l_look_at_def ?c_look_at_def ?k_look_at_def ?a_look_at_use ?l_look_at_use ?c_look_at_use ?k_look_at_use ?a_look_at_quote ?l_look_at_quote ?c_look_at_quote ?k_look_at_quote ?a_look_at_hole ?l_look_at_hole ?c_look_at_hole ?k_look_at_hole ?a_look_at_lift ?l_look_at_lift ?c_look_at_lift ?k_look_at_lift ?a_look_at_run ?l_look_at_run ?c_look_at_run ?k_look_at_run ?a_law_cell_at ?l_law_cell_at ?c_law_cell_at ?k_law_cell_at ?a_law_mixed ?l_law_mixed ?c_law_mixed ?k_law_mixed ?a_law_name ?l_law_name ?c_law_name ?k_law_name ?a_law_next ?l_law_next ?c_law_next ?k_law_next ?a_law_number ?l_law_number ?c_law_number ?k_law_number ?a_law_seen ?l_law_seen ?c_law_seen ?k_law_seen ?a_law_leaf ?l_law_leaf ?c_law_leaf ?k_law_leaf ?a_law_words ?l_law_words ?c_law_words ?k_law_words ?a_law_term ?l_law_term ?c_law_term ?k_law_term ?a_law_twice ?l_law_twice ?c_law_twice ?k_law_twice ?a_law_bound ?l_law_bound ?c_law_bound ?k_law_bound ?a_law_kind_of ?l_law_kind_of ?c_law_kind_of ?k_law_kind_of ?a_law ?l_law ?c_law ?k_law ?z_len ?z_list ?z_max ?z_range ?z_tuple ?z_zip ?aD_PARTS_AT ?lD_PARTS_AT ?kD_PARTS_AT ?d_PARTS_AT_num ?d_PARTS_AT_name ?d_PARTS_AT_sum ?d_PARTS_AT_product ?d_PARTS_AT_less ?d_PARTS_AT_when ?d_PARTS_AT_let ?d_PARTS_AT_turns ?d_PARTS_AT_def ?d_PARTS_AT_use ?d_PARTS_AT_quote ?d_PARTS_AT_hole ?d_PARTS_AT_lift ?d_PARTS_AT_run ?aD_LEVEL_OF ?lD_LEVEL_OF ?kD_LEVEL_OF ?sy_LEVEL_OF ?n_LEVEL_OF_num ?n_LEVEL_OF_name ?n_LEVEL_OF_sum ?n_LEVEL_OF_product ?n_LEVEL_OF_less ?n_LEVEL_OF_when ?n_LEVEL_OF_let ?n_LEVEL_OF_turns ?n_LEVEL_OF_def ?n_LEVEL_OF_use ?d_LEVEL_OF_quote ?d_LEVEL_OF_hole ?d_LEVEL_OF_lift ?d_LEVEL_OF_run ?aD_LOOKS ?lD_LOOKS ?kD_LOOKS ?d_LOOKS_num ?d_LOOKS_name ?d_LOOKS_sum ?d_LOOKS_product ?d_LOOKS_less ?d_LOOKS_when ?d_LOOKS_let ?d_LOOKS_turns ?d_LOOKS_def ?d_LOOKS_use ?d_LOOKS_quote ?d_LOOKS_hole ?d_LOOKS_lift ?d_LOOKS_run
    (case aC_HallError => k_is)
    (case aC_NoName => k_is)
    (case aC_WrongLevel => k_is)
    (case aC_WrongKind => k_is)
    (case aC_TermTable => k_is)
    (case pg_TermTable => k_is)
    (case hd_TermTable => k_is)
    (case po_TermTable => k_is)
    (case sa_TermTable => k_is)
    (case mk_TermTable => k_is)
    (case kc_TermTable => k_is)
    (case no_TermTable_rows => k_is)
    (case no_TermTable_known => k_is)
    (case aC_Around => k_is)
    (case pg_Around => k_is)
    (case hd_Around => k_is)
    (case po_Around => k_is)
    (case sa_Around => k_is)
    (case mk_Around => k_is)
    (case kc_Around => k_is)
    (case no_Around_level => k_is)
    (case no_Around_barred => k_is)
    (case no_Around_names => k_is)
    (case aC_Kinds => k_is)
    (case pg_Kinds => k_is)
    (case hd_Kinds => k_is)
    (case po_Kinds => k_is)
    (case sa_Kinds => k_is)
    (case mk_Kinds => k_is)
    (case kc_Kinds => k_is)
    (case no_Kinds_rows => k_is)
    (case no_Kinds_loose => k_is)
    (case no_Kinds_known => k_is)
    (case a_loose_in_rows => k_is)
    (case l_loose_in_rows => k_is)
    (case c_loose_in_rows => k_is)
    (case k_loose_in_rows => k_is)
    (case a_loose_names => k_is)
    (case l_loose_names => k_is)
    (case c_loose_names => k_is)
    (case k_loose_names => k_is)
    (case a_bound_in_parts => k_is)
    (case l_bound_in_parts => k_is)
    (case c_bound_in_parts => k_is)
    (case k_bound_in_parts => k_is)
    (case a_head_of => k_is)
    (case l_head_of => k_is)
    (case c_head_of => k_is)
    (case k_head_of => k_is)
    (case a_parts_of => k_is)
    (case l_parts_of => k_is)
    (case c_parts_of => k_is)
    (case k_parts_of => k_is)
    (case a_rows_of => k_is)
    (case l_rows_of => k_is)
    (case c_rows_of => k_is)
    (case k_rows_of => k_is)
    (case a_TermTable_init => k_is)
    (case i_TermTable_init => k_is)
    (case l_TermTable_init => k_is)
    (case c_TermTable_init => k_is)
    (case k_TermTable_init => k_is)
    (case a_TermTable_place_of => k_is)
    (case i_TermTable_place_of => k_is)
    (case l_TermTable_place_of => k_is)
    (case c_TermTable_place_of => k_is)
    (case k_TermTable_place_of => k_is)
    (case a_ends_of => k_is)
    (case l_ends_of => k_is)
    (case c_ends_of => k_is)
    (case k_ends_of => k_is)
    (case a_edge_of => k_is)
    (case l_edge_of => k_is)
    (case c_edge_of => k_is)
    (case k_edge_of => k_is)
    (case a_kind_of => k_is)
    (case l_kind_of => k_is)
    (case c_kind_of => k_is)
    (case k_kind_of => k_is)
    (case a_Around_init => k_is)
    (case i_Around_init => k_is)
    (case l_Around_init => k_is)
    (case c_Around_init => k_is)
    (case k_Around_init => k_is)
    (case a_Around_within_quote => k_is)
    (case i_Around_within_quote => k_is)
    (case l_Around_within_quote => k_is)
    (case c_Around_within_quote => k_is)
    (case k_Around_within_quote => k_is)
    (case a_Around_within_hole => k_is)
    (case i_Around_within_hole => k_is)
    (case l_Around_within_hole => k_is)
    (case c_Around_within_hole => k_is)
    (case k_Around_within_hole => k_is)
    (case a_Around_with_value => k_is)
    (case i_Around_with_value => k_is)
    (case l_Around_with_value => k_is)
    (case c_Around_with_value => k_is)
    (case k_Around_with_value => k_is)
    (case a_Around_with_function => k_is)
    (case i_Around_with_function => k_is)
    (case l_Around_with_function => k_is)
    (case c_Around_with_function => k_is)
    (case k_Around_with_function => k_is)
    (case a_Around_within_function => k_is)
    (case i_Around_within_function => k_is)
    (case l_Around_within_function => k_is)
    (case c_Around_within_function => k_is)
    (case k_Around_within_function => k_is)
    (case a_Around_meaning_of => k_is)
    (case i_Around_meaning_of => k_is)
    (case l_Around_meaning_of => k_is)
    (case c_Around_meaning_of => k_is)
    (case k_Around_meaning_of => k_is)
    (case a_Kinds_init => k_is)
    (case i_Kinds_init => k_is)
    (case l_Kinds_init => k_is)
    (case c_Kinds_init => k_is)
    (case k_Kinds_init => k_is)
    (case a_Kinds_kind_at => k_is)
    (case i_Kinds_kind_at => k_is)
    (case l_Kinds_kind_at => k_is)
    (case c_Kinds_kind_at => k_is)
    (case k_Kinds_kind_at => k_is)
    (case a_Kinds_looked_at => k_is)
    (case i_Kinds_looked_at => k_is)
    (case l_Kinds_looked_at => k_is)
    (case c_Kinds_looked_at => k_is)
    (case k_Kinds_looked_at => k_is)
    (case a_Kinds_want => k_is)
    (case i_Kinds_want => k_is)
    (case l_Kinds_want => k_is)
    (case c_Kinds_want => k_is)
    (case k_Kinds_want => k_is)
    (case a_look_at_num => k_is)
    (case l_look_at_num => k_is)
    (case c_look_at_num => k_is)
    (case k_look_at_num => k_is)
    (case a_look_at_name => k_is)
    (case l_look_at_name => k_is)
    (case c_look_at_name => k_is)
    (case k_look_at_name => k_is)
    (case a_look_at_numbers => k_is)
    (case l_look_at_numbers => k_is)
    (case c_look_at_numbers => k_is)
    (case k_look_at_numbers => k_is)
    (case a_look_at_when => k_is)
    (case l_look_at_when => k_is)
    (case c_look_at_when => k_is)
    (case k_look_at_when => k_is)
    (case a_look_at_let => k_is)
    (case l_look_at_let => k_is)
    (case c_look_at_let => k_is)
    (case k_look_at_let => k_is)
    (case a_look_at_turns => k_is)
    (case l_look_at_turns => k_is)
    (case c_look_at_turns => k_is)
    (case k_look_at_turns => k_is)
    (case a_look_at_def => k_is)
    (case l_look_at_def => k_is)
    (case c_look_at_def => k_is)
    (case k_look_at_def => k_is)
    (case a_look_at_use => k_is)
    (case l_look_at_use => k_is)
    (case c_look_at_use => k_is)
    (case k_look_at_use => k_is)
    (case a_look_at_quote => k_is)
    (case l_look_at_quote => k_is)
    (case c_look_at_quote => k_is)
    (case k_look_at_quote => k_is)
    (case a_look_at_hole => k_is)
    (case l_look_at_hole => k_is)
    (case c_look_at_hole => k_is)
    (case k_look_at_hole => k_is)
    (case a_look_at_lift => k_is)
    (case l_look_at_lift => k_is)
    (case c_look_at_lift => k_is)
    (case k_look_at_lift => k_is)
    (case a_look_at_run => k_is)
    (case l_look_at_run => k_is)
    (case c_look_at_run => k_is)
    (case k_look_at_run => k_is)
    (case a_law_cell_at => k_is)
    (case l_law_cell_at => k_is)
    (case c_law_cell_at => k_is)
    (case k_law_cell_at => k_is)
    (case a_law_mixed => k_is)
    (case l_law_mixed => k_is)
    (case c_law_mixed => k_is)
    (case k_law_mixed => k_is)
    (case a_law_name => k_is)
    (case l_law_name => k_is)
    (case c_law_name => k_is)
    (case k_law_name => k_is)
    (case a_law_next => k_is)
    (case l_law_next => k_is)
    (case c_law_next => k_is)
    (case k_law_next => k_is)
    (case a_law_number => k_is)
    (case l_law_number => k_is)
    (case c_law_number => k_is)
    (case k_law_number => k_is)
    (case a_law_seen => k_is)
    (case l_law_seen => k_is)
    (case c_law_seen => k_is)
    (case k_law_seen => k_is)
    (case a_law_leaf => k_is)
    (case l_law_leaf => k_is)
    (case c_law_leaf => k_is)
    (case k_law_leaf => k_is)
    (case a_law_words => k_is)
    (case l_law_words => k_is)
    (case c_law_words => k_is)
    (case k_law_words => k_is)
    (case a_law_term => k_is)
    (case l_law_term => k_is)
    (case c_law_term => k_is)
    (case k_law_term => k_is)
    (case a_law_twice => k_is)
    (case l_law_twice => k_is)
    (case c_law_twice => k_is)
    (case k_law_twice => k_is)
    (case a_law_bound => k_is)
    (case l_law_bound => k_is)
    (case c_law_bound => k_is)
    (case k_law_bound => k_is)
    (case a_law_kind_of => k_is)
    (case l_law_kind_of => k_is)
    (case c_law_kind_of => k_is)
    (case k_law_kind_of => k_is)
    (case a_law => k_is)
    (case l_law => k_is)
    (case c_law => k_is)
    (case k_law => k_is)
    (case z_len => k_is)
    (case z_list => k_is)
    (case z_max => k_is)
    (case z_range => k_is)
    (case z_tuple => k_is)
    (case z_zip => k_is)
    (case aD_PARTS_AT => k_is)
    (case lD_PARTS_AT => k_is)
    (case kD_PARTS_AT => first | k_is | (repeat' (first | exact True.intro | refine ⟨⟨_, _, rfl, rfl⟩, ?_⟩)))
    (case d_PARTS_AT_num => k_is)
    (case d_PARTS_AT_name => k_is)
    (case d_PARTS_AT_sum => k_is)
    (case d_PARTS_AT_product => k_is)
    (case d_PARTS_AT_less => k_is)
    (case d_PARTS_AT_when => k_is)
    (case d_PARTS_AT_let => k_is)
    (case d_PARTS_AT_turns => k_is)
    (case d_PARTS_AT_def => k_is)
    (case d_PARTS_AT_use => k_is)
    (case d_PARTS_AT_quote => k_is)
    (case d_PARTS_AT_hole => k_is)
    (case d_PARTS_AT_lift => k_is)
    (case d_PARTS_AT_run => k_is)
    (case aD_LEVEL_OF => k_is)
    (case lD_LEVEL_OF => k_is)
    (case kD_LEVEL_OF => first | k_is | (repeat' (first | exact True.intro | refine ⟨⟨_, _, rfl, rfl⟩, ?_⟩)))
    (case sy_LEVEL_OF => rfl)
    (case n_LEVEL_OF_num => k_is)
    (case n_LEVEL_OF_name => k_is)
    (case n_LEVEL_OF_sum => k_is)
    (case n_LEVEL_OF_product => k_is)
    (case n_LEVEL_OF_less => k_is)
    (case n_LEVEL_OF_when => k_is)
    (case n_LEVEL_OF_let => k_is)
    (case n_LEVEL_OF_turns => k_is)
    (case n_LEVEL_OF_def => k_is)
    (case n_LEVEL_OF_use => k_is)
    (case d_LEVEL_OF_quote => k_is)
    (case d_LEVEL_OF_hole => k_is)
    (case d_LEVEL_OF_lift => k_is)
    (case d_LEVEL_OF_run => k_is)
    (case aD_LOOKS => k_is)
    (case lD_LOOKS => k_is)
    (case kD_LOOKS => first | k_is | (repeat' (first | exact True.intro | refine ⟨⟨_, _, rfl, rfl⟩, ?_⟩)))
    (case d_LOOKS_num => k_is)
    (case d_LOOKS_name => k_is)
    (case d_LOOKS_sum => k_is)
    (case d_LOOKS_product => k_is)
    (case d_LOOKS_less => k_is)
    (case d_LOOKS_when => k_is)
    (case d_LOOKS_let => k_is)
    (case d_LOOKS_turns => k_is)
    (case d_LOOKS_def => k_is)
    (case d_LOOKS_use => k_is)
    (case d_LOOKS_quote => k_is)
    (case d_LOOKS_hole => k_is)
    (case d_LOOKS_lift => k_is)
    (case d_LOOKS_run => k_is)
#print axioms PySem.Challenge.cw_quotehall_k05_kinds_holds

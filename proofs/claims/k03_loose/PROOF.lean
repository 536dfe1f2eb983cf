import PyProof.Rows.All
import Wide.All
import OpenK.AllK
import Wide.FinOn
import HandS.ForMost
import HandS.IsInst
import HandS.TupAny
import HandS.More
import KE.KeyNested
import KE.DataMinMax
import HandS.SortKw
import HandS.Star
import HandS.Zip
import HandS.Conv
import HandS.Deep
import HandS.TryOnly
import PySem.Challenge.RW_quotehall_k03_loose
set_option Elab.async false
set_option autoImplicit false
set_option maxRecDepth 100000
/-! ## One layer for all laws of the program: terms as data, how the heap bears them, the laws' own helpers -/
namespace Q
open PySem L2
def topS (i : Nat) : Stmt := PySem.Challenge.pw_quotehall_k03_loose.main.body.getD i (.Pass ⟨0, 0, 0, 0⟩)

/-! ### a def that keeps a promise, as its callers need it -/
structure Cal (P : Program) (w : World) (K : PySem.W.Frag) (mg : Str → Option Value) (base : Heap) (x : Str) (ps : List Str) (k : Nat) (sp : Sp) (f : Addr) (fd : FuncData) : Prop where
  ok : FnOk P w K mg base CX0 k f fd ps sp
  m : mg x = some (.ref f)
  kp : PySem.W.keepIn K (.ref f) = true
  b : Binds K fd ps []

/-! ### the built-ins that the text calls -/
structure Txt (mg : Str → Option Value) : Prop where
  isinstance : mg "isinstance" = none
  len : mg "len" = none
  list : mg "list" = none
  range : mg "range" = none
  tuple : mg "tuple" = none
  zip : mg "zip" = none

/-! ### heaps -/
theorem same_new {H : Hp} {p : Addr} (h : H p = none) (o : HO) : Same H (upd H p o) := fun b u q => by rw [upd_ne (ne_of_none q h)]; exact q
/-- all that was tracked but the object at st is as it was -/
def But (st : Addr) (H H' : Hp) : Prop := ∀ b o, b ≠ st → H b = some o → H' b = some o
theorem But.refl (st : Addr) (H : Hp) : But st H H := fun _ _ _ h => h
theorem But.trans {st : Addr} {H H1 H2 : Hp} (a : But st H H1) (b : But st H1 H2) : But st H H2 := fun c o n h => b c o n (a c o n h)
theorem But.of_same {st : Addr} {H H' : Hp} (h : Same H H') : But st H H' := fun b o _ q => h b o q
theorem But.put (st : Addr) (H : Hp) (o : HO) : But st H (upd H st o) := fun b u n q => by rw [upd_ne n]; exact q
theorem But.new {st : Addr} {H H' : Hp} {p : Addr} {o : HO} (h : But st H H') (n : H' p = none) : But st H (upd H' p o) := h.trans (.of_same (same_new n o))
theorem But.seqL {K : PySem.W.Frag} {st : Addr} {H H' : Hp} {a : Addr} {xs : List V} (e : But st H H') (n : a ≠ st) (h : SqL K H a xs) : SqL K H' a xs := by
  rcases h with (h | ⟨o, h⟩) | h
  · exact .inl (.inl (e _ _ n h))
  · exact .inl (.inr ⟨o, e _ _ n h⟩)
  · exact .inr h
theorem small {n : Nat} (h : n ≤ 1000) : n ≤ sizeLine := Nat.le_of_lt (small1000 h)
theorem atI_n {α : Type} {xs : List α} {k : Int} {n : Nat} {v : α} (e : k = (n : Int)) (h : xs[n]? = some v) : atI xs k = some v := by
  subst e
  exact atI_nat h

/-! ### what a test, an expression, a statement leaves, said once -/
section
variable {X : Cx}
def tKt (t : TT) : TT := fun σ H Q => ∃ R : Bool → Hp → Prop, t σ H R ∧ ∀ b H', R b H' → Q b H'
theorem pt_k {e : Expr} {t : TT} (h : PT X e t) : PT X e (tKt t) := ⟨fun pins s σ H Q I ⟨R, q, m⟩ => thn (h.run pins s σ H R I q) fun _ _ ⟨H', I', r⟩ => ⟨H', I', m _ _ r⟩⟩
def tKe (t : TE) : TE := fun σ H Q => ∃ R : V → Hp → Prop, t σ H R ∧ ∀ v H', R v H' → Q v H'
theorem pe_k {e : Expr} {t : TE} (h : PE X e t) : PE X e (tKe t) := ⟨fun pins s σ H Q I ⟨R, q, m⟩ => thn (h.run pins s σ H R I q) fun _ _ ⟨v, H', I', rv, r⟩ => ⟨v, H', I', rv, m _ _ r⟩⟩
def tCut (t u : TS) : TS := fun D σ H => ∃ Mid : L2.St → Hp → Prop, t { D with nx := Mid } σ H ∧ ∀ σ' H', Mid σ' H' → u D σ' H'
theorem pss_cut {st : Stmt} {rest : List Stmt} {t u : TS} (h1 : PS X st t) (h2 : PSs X rest u) : PSs X (st :: rest) (tCut t u) := by
  refine ⟨fun pins s σ H D I h => ?_⟩
  obtain ⟨Mid, hm, hu⟩ := h
  refine wpAny_execs_cons (thn (h1.run pins s σ H { D with nx := Mid } I hm) fun f s1 q => ?_)
  cases f with
  | next =>
    obtain ⟨σ', H', I', q⟩ := q
    exact h2.run pins s1 σ' H' D I' (hu σ' H' q)
  | ret v => exact q
  | brk => exact q
  | cont => exact q
end

/-! ### cells, draws -/
/-- the script: a list of ints that nobody writes -/
def Ints (K : PySem.W.Frag) (H : Hp) (a : Addr) : Prop := ∃ ns : List Int, ns.length ≤ 63 ∧ ((∃ o, H a = some (.frz o (.lst (ns.map V.int)))) ∨
  ∃ (o : Obj) (its : Array Value) (n : Nat), K.lookup a = some o ∧ o.cls = .type "list" ∧ o.dict = none ∧ o.data = .seq its n ∧ its.size ≤ sizeLine ∧ Vals (ns.map V.int) its.toList)
theorem Ints.sq {K : PySem.W.Frag} {H : Hp} {a : Addr} (h : Ints K H a) : ∃ ns : List Int, SqL K H a (ns.map V.int) ∧ ns.length ≤ 63 := by
  obtain ⟨ns, h63, ⟨o, h⟩ | h⟩ := h
  · exact ⟨ns, .inl (.inr ⟨o, h⟩), h63⟩
  · exact ⟨ns, .inr h, h63⟩
theorem Ints.same {K : PySem.W.Frag} {H H' : Hp} {a : Addr} (h : Ints K H a) (e : Same H H') : Ints K H' a := by
  obtain ⟨ns, h63, ⟨o, h⟩ | h⟩ := h
  · exact ⟨ns, h63, .inl ⟨o, e _ _ h⟩⟩
  · exact ⟨ns, h63, .inr h⟩
theorem Ints.but {K : PySem.W.Frag} {H H' : Hp} {a st : Addr} {ys : List V} (h : Ints K H a) (hs : H st = some (.lst ys)) (e : But st H H') : Ints K H' a := by
  obtain ⟨ns, h63, ⟨o, h⟩ | h⟩ := h
  · exact ⟨ns, h63, .inl ⟨o, e _ _ (ne_of h hs (by intro z; cases z)) h⟩⟩
  · exact ⟨ns, h63, .inr h⟩
theorem Ints.of {K : PySem.W.Frag} {H : Hp} {a : Addr} {ns : List Int} (hO : Only H) (h : SqL K H a (ns.map V.int)) (h63 : ns.length ≤ 63) : Ints K H a := by
  rcases h with (h | ⟨o, h⟩) | h
  · rcases hO a with z | ⟨o, xs, z⟩
    · rw [z] at h
      cases h
    · rw [z] at h
      cases h
  · exact ⟨ns, h63, .inl ⟨o, h⟩⟩
  · exact ⟨ns, h63, .inr h⟩
def spCellAt (K : PySem.W.Frag) : Sp := fun vs H Q _ => ∃ (a : Addr) (k : Int), vs = [.ref a, .int k] ∧ Ints K H a ∧ 0 ≤ k ∧ ∀ c : Int, Q (.int c) H
def spMixed (K : PySem.W.Frag) : Sp := fun vs H Q _ => ∃ (a : Addr) (k : Int), vs = [.ref a, .int k] ∧ Ints K H a ∧ 0 ≤ k ∧ ∀ c : Int, 0 ≤ c → c < 2147483629 → Q (.int c) H
abbrev s_cell_at : Stmt := topS 13
theorem sc_cell_at : FnScope ["_law_script", "_law_k"] ["_law_script", "_law_k"] (defScope s_cell_at) := ⟨rfl, rfl, rfl, by decide +kernel, rfl, by decide +kernel, by decide +kernel⟩
abbrev s_mixed : Stmt := topS 14
theorem sc_mixed : FnScope ["_law_script", "_law_k", "_law_number_here"] ["_law_script", "_law_k"] (defScope s_mixed) := ⟨rfl, rfl, rfl, by decide +kernel, rfl, by decide +kernel, by decide +kernel⟩
section
variable {P : Program} {w : World} {K : PySem.W.Frag} {mg : Str → Option Value} {base : Heap} {f f1 f2 f3 f4 f5 f6 f7 f8 : Addr} {fd fd1 fd2 fd3 fd4 fd5 fd6 fd7 fd8 : FuncData}
theorem ok_cell_at (F : Fun K "_law_cell_at" "_law_cell_at" s_cell_at f fd) (T : Txt mg) : FnOk P w K mg base CX0 1 f fd ["_law_script", "_law_k"] (spCellAt K) := by
  refine F.ok sc_cell_at (fun vs H Q E h => ?_) (fun cdv A outer s H vs Q E hr h => ?_)
  · obtain ⟨a, k, rfl, _⟩ := h
    rfl
  obtain ⟨a, k, rfl, hI, h0, q⟩ := h
  obtain ⟨ns, hS, h63⟩ := hI.sq
  refine ⟨_, (pss_cons (ps_if (pt_cmpR op_lt (pv 1) (pe_callB call_len_seq (by rfl) T.len PySem.boot_len (pa_cons (pv 0) pa_nil)) (nomark _)) (pss_one (ps_ret (pe_ix ix_list (pv 0) (pv 1) (fun _ _ => rfl)))) pss_nil)
      (pss_one (ps_ret pe_int))), ?_⟩
  refine ⟨_, rfl, _, rfl, a, _, rfl, .inl hS, _, _, rfl, rfl, _, rfl, ?_⟩
  refine ite2 (fun c => ?_) (fun c => ?_)
  · have c' : k < (((ns.map V.int).length : Nat) : Int) := of_decide_eq_true c
    rw [List.length_map] at c'
    have hk : k.toNat < ns.length := by omega
    exact ⟨_, rfl, _, rfl, a, _, _, .int (ns[k.toNat]), rfl, rfl, hS, atI_n (n := k.toNat) (by omega) (by rw [List.getElem?_map, List.getElem?_eq_getElem hk]; rfl), q _⟩
  · exact q 0
theorem mixed_lt (x : Int) : 0 ≤ x % 2147483629 ∧ x % 2147483629 < 2147483629 := ⟨Int.emod_nonneg _ (by decide), Int.emod_lt_of_pos _ (by decide)⟩
theorem mixed_lt2 (x : Int) : 0 ≤ x % 2147483647 ∧ x % 2147483647 < 2147483647 := ⟨Int.emod_nonneg _ (by decide), Int.emod_lt_of_pos _ (by decide)⟩
theorem ok_mixed (F : Fun K "_law_mixed" "_law_mixed" s_mixed f fd) (T : Txt mg) (C_law_cell_at : Cal P w K mg base "_law_cell_at" ["_law_script", "_law_k"] 1 (spCellAt K) f1 fd1) : FnOk P w K mg base CX0 2 f fd ["_law_script", "_law_k"] (spMixed K) := by
  refine F.ok sc_mixed (fun vs H Q E h => ?_) (fun cdv A outer s H vs Q E hr h => ?_)
  · obtain ⟨a, k, rfl, _⟩ := h
    rfl
  obtain ⟨a, k, rfl, hS, h0, q⟩ := h
  refine ⟨_, (pss_cons (ps_set (i := 2) sc_mixed.nd rfl (Or.inl rfl) (pe_op op_mod (pe_op op_mul (pe_op op_add (pe_call C_law_cell_at.ok (hr.mono (by first | decide | omega)) rfl C_law_cell_at.m C_law_cell_at.kp C_law_cell_at.b .nil pass0 (pa_cons (pv 0) (pa_cons (pv 1) pa_nil))) (pe_op op_mul pe_int (pv 1))) pe_int) pe_int))
      (pss_one (ps_ret (pe_op op_mod (pe_op op_add (pe_op op_add (pe_op op_mul (pv 2) (pv 2)) (pe_op op_mul pe_int (pv 2))) (pv 1)) pe_int)))), ?_⟩
  refine ⟨_, rfl, _, rfl, a, k, rfl, hS, h0, fun c => ?_⟩
  refine ⟨_, rfl, _, _, rfl, rfl, .inl ⟨by decide, by decide⟩, _, _, rfl, rfl, _, _, rfl, rfl, .inr ⟨by decide, by decide⟩, _, _, rfl, rfl, (by show (0 : Int) < _; decide), ?_⟩
  have b := mixed_lt2 ((c + 7919 * k) * 48271)
  generalize (c + 7919 * k) * 48271 % 2147483647 = n at b ⊢
  refine ⟨_, rfl, _, rfl, _, _, rfl, rfl, .inl ⟨by omega, by omega⟩, _, rfl, _, _, rfl, rfl, .inl ⟨by decide, by decide⟩, _, _, rfl, rfl, _, rfl, _, _, rfl, rfl, _, _, rfl, rfl, (by show (0 : Int) < _; decide), ?_⟩
  exact q _ (mixed_lt _).1 (mixed_lt _).2
end

def Drawn : List Int → List Int → Prop
  | [], [] => True
  | x :: xs, s :: ss => (0 ≤ x ∧ x < s) ∧ Drawn xs ss
  | _, _ => False
theorem Drawn.snoc : ∀ {xs ss : List Int} {x s : Int}, Drawn xs ss → 0 ≤ x → x < s → Drawn (xs ++ [x]) (ss ++ [s])
  | [], [], _, _, _, h0, h1 => ⟨⟨h0, h1⟩, True.intro⟩
  | _ :: _, _ :: _, _, _, ⟨h, t⟩, h0, h1 => ⟨h, Drawn.snoc t h0 h1⟩
  | [], _ :: _, _, _, h, _, _ => h.elim
  | _ :: _, [], _, _, h, _, _ => h.elim
theorem Drawn.len : ∀ {xs ss : List Int}, Drawn xs ss → xs.length = ss.length
  | [], [], _ => rfl
  | _ :: _, _ :: _, ⟨_, t⟩ => congrArg (· + 1) (Drawn.len t)
  | [], _ :: _, h => h.elim
  | _ :: _, [], h => h.elim
/-- an int of a list of ints by its place -/
theorem at_int {ys : List Int} {j : Int} (h0 : 0 ≤ j) (h1 : j < (ys.length : Int)) : ∃ c, c ∈ ys ∧ atI (ys.map V.int) j = some (.int c) := by
  have hk : j.toNat < ys.length := by omega
  exact ⟨ys[j.toNat], List.getElem_mem hk, atI_n (k := j) (n := j.toNat) (by omega) (by rw [List.getElem?_map, List.getElem?_eq_getElem hk]; rfl)⟩
theorem at_str {ys : List Str} {j : Int} (h0 : 0 ≤ j) (h1 : j < (ys.length : Int)) : ∃ c, c ∈ ys ∧ atI (ys.map V.str) j = some (.str c) := by
  have hk : j.toNat < ys.length := by omega
  exact ⟨ys[j.toNat], List.getElem_mem hk, atI_n (k := j) (n := j.toNat) (by omega) (by rw [List.getElem?_map, List.getElem?_eq_getElem hk]; rfl)⟩
theorem at_any {ys : List V} {j : Int} (h0 : 0 ≤ j) (h1 : j < (ys.length : Int)) : ∃ c, c ∈ ys ∧ atI ys j = some c := by
  have hk : j.toNat < ys.length := by omega
  exact ⟨ys[j.toNat], List.getElem_mem hk, atI_n (k := j) (n := j.toNat) (by omega) (List.getElem?_eq_getElem hk)⟩
theorem at_cod {ys : List Nat} {j : Int} (h0 : 0 ≤ j) (h1 : j < (ys.length : Int)) : ∃ c, c ∈ ys ∧ atI ys j = some c := by
  have hk : j.toNat < ys.length := by omega
  exact ⟨ys[j.toNat], List.getElem_mem hk, atI_n (k := j) (n := j.toNat) (by omega) (List.getElem?_eq_getElem hk)⟩
theorem ixN_lt {n : Nat} {j : Int} (h0 : 0 ≤ j) (h1 : j < (n : Int)) : ixN n j = some j.toNat := by
  unfold ixN
  rw [if_pos h0, if_pos h1]
theorem mod_in (x : Int) {n : Int} (h : 0 < n) : 0 ≤ x % n ∧ x % n < n := ⟨Int.emod_nonneg _ (by omega), Int.emod_lt_of_pos _ h⟩
def spDrawn (K : PySem.W.Frag) : Sp := fun vs H Q _ => ∃ (n : Int) (a : Addr) (ss : List Int), vs = [.int n, .ref a] ∧ SqL K H a (ss.map V.int) ∧ ss.length ≤ 63 ∧ (∀ s ∈ ss, 0 < s ∧ s < 1073741824) ∧
  ∀ (xs : List Int) (r : Addr) (H' : Hp), Drawn xs ss → H r = none → Same H H' → H' r = some (.lst (xs.map V.int)) → Q (.ref r) H'
abbrev s_drawn : Stmt := topS 15
theorem sc_drawn : FnScope ["_law_number_here", "_law_sizes", "_law_some", "_law_size"] ["_law_number_here", "_law_sizes"] (defScope s_drawn) := ⟨rfl, rfl, rfl, by decide +kernel, rfl, by decide +kernel, by decide +kernel⟩
/-- the state's first number is the place of the next draw -/
def spNext (K : PySem.W.Frag) : Sp := fun vs H Q _ => ∃ (a st : Addr) (c : Int) (r : List V), vs = [.ref a, .ref st] ∧ Ints K H a ∧ H st = some (.lst (.int c :: r)) ∧ 0 ≤ c ∧
  ∀ n : Int, 0 ≤ n → n < 2147483629 → Q (.int n) (upd H st (.lst (.int (c + 1) :: r)))
abbrev s_next : Stmt := topS 17
theorem sc_next : FnScope ["_law_script", "_law_state"] ["_law_script", "_law_state"] (defScope s_next) := ⟨rfl, rfl, rfl, by decide +kernel, rfl, by decide +kernel, by decide +kernel⟩
def spNumber : Sp := fun vs H Q _ => ∃ n : Int, vs = [.int n] ∧ 0 ≤ n ∧ n < 2147483629 ∧ ∀ (c : Int) (H' : Hp), Same H H' → c.natAbs ≤ 10 ^ 20 → Q (.int c) H'
abbrev s_number : Stmt := topS 18
theorem sc_number : FnScope ["_law_number_here", "_law_some"] ["_law_number_here"] (defScope s_number) := ⟨rfl, rfl, rfl, by decide +kernel, rfl, by decide +kernel, by decide +kernel⟩
section
variable {P : Program} {w : World} {K : PySem.W.Frag} {mg : Str → Option Value} {base : Heap} {f f1 f2 f3 f4 f5 f6 f7 f8 : Addr} {fd fd1 fd2 fd3 fd4 fd5 fd6 fd7 fd8 : FuncData}
theorem ok_drawn (F : Fun K "_law_drawn" "_law_drawn" s_drawn f fd) (T : Txt mg) : FnOk P w K mg base CX0 1 f fd ["_law_number_here", "_law_sizes"] (spDrawn K) := by
  refine F.ok sc_drawn (fun vs H Q E h => ?_) (fun cdv A outer s H vs Q E hr h => ?_)
  · obtain ⟨n, a, ss, rfl, _⟩ := h
    rfl
  obtain ⟨n, a, ss, rfl, hS, h63, hp, q⟩ := h
  refine ⟨_, (pss_cons (ps_set (i := 2) sc_drawn.nd rfl (Or.inl rfl) (pe_lst pa_nil))
      (pss_cons (ps_for PassesOwn.never rfl (pi_list (pv 1)) (pg_name (i := 3) sc_drawn.nd rfl (Or.inl rfl)) (pss_cons (ps_expr (pe_bm PySem.F.plainAttrs_list PySem.F.slot_list_append PySem.F.type_list_append mt_append (pv 2) (pa_cons (pe_op op_mod (pv 0) (pv 3)) pa_nil)))
      (pss_one (ps_set (i := 0) sc_drawn.nd rfl (Or.inl rfl) (pe_op op_fdiv (pv 0) (pv 3))))))
      (pss_one (ps_ret (pv 2))))), ?_⟩
  refine ⟨Nat.zero_le _, fun r hr => ?_⟩
  refine ⟨_, rfl, a, rfl, ⟨_, (same_new hr _).seq hS⟩, for_list (K := K) (a := a) (xs := ss.map V.int) (fun i σ H' => ∃ (m : Int) (xs : List Int) (v : Option V), σ = [some (.int m), some (.ref a), some (.ref r), v] ∧ Same H H' ∧ H' r = some (.lst (xs.map V.int)) ∧ Drawn xs (ss.take i))
    ⟨n, [], none, rfl, same_new hr _, upd_same, by rw [List.take_zero]; exact True.intro⟩ (fun i σ H' _ ⟨_, _, _, _, g, _⟩ => g.seq hS) ?_ ?_⟩
  · rintro i y σ H' hi ⟨m, xs, v, rfl, g, hx, hd⟩
    have hil : i < ss.length := by
      have z := (List.getElem?_eq_some_iff.mp hi).1
      rw [List.length_map] at z
      exact z
    rw [List.getElem?_map, List.getElem?_eq_getElem hil] at hi
    cases hi
    have hs := hp ss[i] (List.getElem_mem hil)
    have hlen : xs.length ≤ 63 := by
      have z := hd.len
      rw [List.length_take] at z
      omega
    refine ⟨_, rfl, .inl ⟨rfl, _, SqL.of hx⟩, _, rfl, _, rfl, _, _, rfl, rfl, hs.1, r, _, _, rfl, rfl, hx, small1000 (by rw [List.length_map]; omega), ?_⟩
    refine ⟨_, rfl, _, rfl, _, _, rfl, rfl, ⟨hs.1, hs.2⟩, ?_⟩
    have h0 := mod_in m hs.1
    refine ⟨m / ss[i], xs ++ [m % ss[i]], _, rfl, fun b o e => ?_, ?_, ?_⟩
    · have nb : b ≠ r := ne_of_none e hr
      rw [upd_ne nb]
      exact g b o e
    · rw [upd_same, List.map_append]
      rfl
    · rw [List.take_succ_eq_append_getElem hil]
      exact hd.snoc h0.1 h0.2
  · rintro σ H' ⟨m, xs, v, rfl, g, hx, hd⟩
    refine ⟨_, rfl, q xs r H' ?_ hr g hx⟩
    rw [List.length_map, List.take_length] at hd
    exact hd
theorem ok_next (F : Fun K "_law_next" "_law_next" s_next f fd) (C_law_mixed : Cal P w K mg base "_law_mixed" ["_law_script", "_law_k"] 2 (spMixed K) f1 fd1) : FnOk P w K mg base CX0 3 f fd ["_law_script", "_law_state"] (spNext K) := by
  refine F.ok sc_next (fun vs H Q E h => ?_) (fun cdv A outer s H vs Q E hr h => ?_)
  · obtain ⟨a, st, c, r, rfl, _⟩ := h
    rfl
  obtain ⟨a, st, c, r, rfl, hI, hst, h0, q⟩ := h
  refine ⟨_, (pss_cons (ps_asg (pe_op op_add (pe_ix ix_list (pv 1) pe_int (fun _ _ => rfl)) pe_int) (pg_sub (pv 1) pe_int set_list))
      (pss_one (ps_ret (pe_call C_law_mixed.ok (hr.mono (by first | decide | omega)) rfl C_law_mixed.m C_law_mixed.kp C_law_mixed.b .nil pass0 (pa_cons (pv 0) (pa_cons (pe_ix ix_list (pv 1) pe_int (fun _ _ => rfl)) pa_nil)))))), ?_⟩
  refine ⟨_, rfl, st, _, _, _, rfl, rfl, SqL.of hst, atI_n (n := 0) rfl rfl, _, _, rfl, rfl, _, rfl, st, _, _, 0, rfl, rfl, hst, ixN_lt (Int.le_refl 0) (by show (0 : Int) < ((r.length + 1 : Nat) : Int); omega), ?_⟩
  refine ⟨_, rfl, _, rfl, st, _, _, _, rfl, rfl, SqL.of upd_same, atI_n (n := 0) rfl rfl, a, c + 1, rfl, hI.but hst (.put _ _ _), by omega, q⟩
theorem ok_number (F : Fun K "_law_number" "_law_number" s_number f fd) : FnOk P w K mg base CX0 1 f fd ["_law_number_here"] spNumber := by
  refine F.ok sc_number (fun vs H Q E h => ?_) (fun cdv A outer s H vs Q E hr h => ?_)
  · obtain ⟨n, rfl, _⟩ := h
    rfl
  obtain ⟨n, rfl, h0, h1, q⟩ := h
  refine ⟨_, (pss_cons (ps_set (i := 1) sc_number.nd rfl (Or.inl rfl) (pe_lst (pa_cons (pe_op op_mod (pv 0) pe_int) (pa_cons (pe_op op_mod (pv 0) pe_int) (pa_cons (pe_op op_sub (pe_un un_neg pe_int) (pe_op op_mod (pv 0) pe_int)) (pa_cons (pe_op op_add (pe_op op_mul pe_int (pe_op op_mod (pv 0) pe_int)) (pe_op op_mod (pv 0) pe_int)) (pa_cons (pe_op op_pow pe_int pe_int) pa_nil)))))))
      (pss_one (ps_ret (pe_ix ix_list (pe_op op_cat (pv 1) (pe_lst (pa_cons (pe_un un_neg (pv 0)) pa_nil))) (pe_op op_mod (pe_op op_fdiv (pv 0) pe_int) pe_int) (fun _ _ => rfl))))), ?_⟩
  refine ⟨_, rfl, _, _, rfl, rfl, (by show (0 : Int) < _; decide), _, rfl, _, _, rfl, rfl, (by show (0 : Int) < _; decide), _, rfl, _, rfl, _, _, rfl, rfl, (by show (0 : Int) < _; decide), _, _, rfl, rfl, ?_⟩
  refine ⟨_, rfl, _, _, rfl, rfl, (by show (0 : Int) < _; decide), _, _, rfl, rfl, .inl ⟨by decide, by decide⟩, _, rfl, _, _, rfl, rfl, (by show (0 : Int) < _; decide), _, _, rfl, rfl, _, _, rfl, rfl, ⟨by decide, by decide, by decide⟩, ?_⟩
  refine ⟨by show 5 ≤ sizeLine; decide, fun p1 hp1 => ?_⟩
  refine ⟨_, rfl, _, rfl, _, rfl, by show 1 ≤ sizeLine; decide, fun p2 hp2 => ?_⟩
  have g1 := same_new hp1 (.lst [V.int (n % 3), .int (n % 1000), .int (-1 - n % 9), .int (1000003 * (n % 2) + n % 5), .int (10 ^ 20)])
  refine ⟨p1, p2, _, _, rfl, rfl, same_new hp2 _ _ _ upd_same, upd_same, by show 6 ≤ sizeLine; decide, fun p3 hp3 => ?_⟩
  refine ⟨_, rfl, _, _, rfl, rfl, ⟨by decide, by decide⟩, _, _, rfl, rfl, (by show (0 : Int) < _; decide), ?_⟩
  have hj := mod_in (n / 1000) (n := 6) (by decide)
  have e3 := mod_in n (n := 3) (by decide)
  have e1 := mod_in n (n := 1000) (by decide)
  have e9 := mod_in n (n := 9) (by decide)
  have e2 := mod_in n (n := 2) (by decide)
  have e5 := mod_in n (n := 5) (by decide)
  obtain ⟨c, hc, ha⟩ := at_int (ys := [n % 3, n % 1000, -1 - n % 9, 1000003 * (n % 2) + n % 5, 10 ^ 20, -n]) hj.1 hj.2
  refine ⟨p3, _, _, _, rfl, rfl, SqL.of upd_same, ha, q c _ (g1.trans ((same_new hp2 _).trans (same_new hp3 _))) ?_⟩
  simp only [List.mem_cons, List.not_mem_nil, or_false] at hc
  rcases hc with rfl | rfl | rfl | rfl | rfl | rfl <;> omega
end

def spName (K : PySem.W.Frag) : Sp := fun vs H Q _ => ∃ (a : Addr) (k : Int), vs = [.ref a, .int k] ∧ Ints K H a ∧ ∀ (x : Str) (H' : Hp), Same H H' → PyData.strOk x = true → Q (.str x) H'
abbrev s_name : Stmt := topS 16
theorem sc_name : FnScope ["_law_script", "_law_which", "_law_letters", "_law_number_here", "_law_some", "_law_size", "_law_at", "_law_k"] ["_law_script", "_law_which"] (defScope s_name) := ⟨rfl, rfl, rfl, by decide +kernel, rfl, by decide +kernel, by decide +kernel⟩
section
variable {P : Program} {w : World} {K : PySem.W.Frag} {mg : Str → Option Value} {base : Heap} {f f1 f2 f3 f4 f5 f6 f7 f8 : Addr} {fd fd1 fd2 fd3 fd4 fd5 fd6 fd7 fd8 : FuncData}
theorem abc_len : (("abcdefghijklmnopqrstuvwxyz" : Str).cps.toList.length : Int) = 26 := by decide +kernel
theorem abc_line : ("abcdefghijklmnopqrstuvwxyz" : Str).length ≤ sizeLine := by decide +kernel
theorem abc_ok : ∀ c ∈ ("abcdefghijklmnopqrstuvwxyz" : Str).cps.toList, PyData.strOk ⟨#[c]⟩ = true := by decide +kernel
theorem abc_at (x : Int) : ∃ c, PyData.strOk ⟨#[c]⟩ = true ∧ atI ("abcdefghijklmnopqrstuvwxyz" : Str).cps.toList (x % 26) = some c := by
  have h := mod_in x (n := 26) (by decide)
  obtain ⟨c, hc, e⟩ := at_cod (ys := ("abcdefghijklmnopqrstuvwxyz" : Str).cps.toList) h.1 (by rw [abc_len]; exact h.2)
  exact ⟨c, abc_ok c hc, e⟩
theorem ok_app {x y : Str} (hx : PyData.strOk x = true) (hy : PyData.strOk y = true) : PyData.strOk (x ++ y) = true := by
  unfold PyData.strOk at hx hy ⊢
  show (x.cps ++ y.cps).all _ = true
  rw [Array.all_append, hx, hy]
  rfl
theorem ok_join {y : Str} (hy : PyData.strOk y = true) : ∀ xs : List Str, (∀ x ∈ xs, PyData.strOk x = true) → PyData.strOk (Txt.join y xs) = true := by
  have main : ∀ xs : List Str, (∀ x ∈ xs, PyData.strOk x = true) → PyData.strOk (Str.join y xs) = true := by
    intro xs
    induction xs with
    | nil => intro _; exact (show PyData.strOk Str.empty = true by decide +kernel)
    | cons a r ih =>
      intro h
      cases r with
      | nil => exact h a List.mem_cons_self
      | cons b r => exact ok_app (ok_app (h a List.mem_cons_self) hy) (ih fun x hx => h x (List.mem_cons_of_mem _ hx))
  intro xs h
  rw [TL.join_eq]
  exact main xs h
theorem words_ok : ∀ y ∈ (["num", "name", "let", "quote", "hole", "run", "use", "lift"] : List Str), PyData.strOk y = true := by decide +kernel
theorem sum_ones : ∀ ys : List Str, (∀ y ∈ ys, y.length = 1) → (ys.map (·.length)).sum = ys.length
  | [], _ => rfl
  | y :: r, h => by
    rw [List.map_cons, List.sum_cons, sum_ones r fun z hz => h z (List.mem_cons_of_mem _ hz), h y List.mem_cons_self, List.length_cons]
    omega
theorem ok_name (F : Fun K "_law_name" "_law_name" s_name f fd) (T : Txt mg) (C_law_mixed : Cal P w K mg base "_law_mixed" ["_law_script", "_law_k"] 2 (spMixed K) f1 fd1) : FnOk P w K mg base CX0 3 f fd ["_law_script", "_law_which"] (spName K) := by
  refine F.ok sc_name (fun vs H Q E h => ?_) (fun cdv A outer s H vs Q E hr h => ?_)
  · obtain ⟨a, k, rfl, _⟩ := h
    rfl
  obtain ⟨a, k, rfl, hI, q⟩ := h
  refine ⟨_, (pss_cons (ps_set (i := 2) sc_name.nd rfl (Or.inr rfl) pe_str)
      (pss_cons (ps_set (i := 3) sc_name.nd rfl (Or.inr rfl) (pe_call C_law_mixed.ok (hr.mono (by first | decide | omega)) rfl C_law_mixed.m C_law_mixed.kp C_law_mixed.b .nil pass0 (pa_cons (pv 0) (pa_cons pe_int pa_nil))))
      (pss_cons (ps_if (pt_k (PW.pt (pw_and (pt_cmpR op_eq (pe_op op_mod (pv 3) pe_int) pe_int (nomark _)) (pw_and1 (pt_cmpR op_eq (pe_op op_mod (pe_op op_fdiv (pv 3) pe_int) pe_int) pe_int (nomark _)))))) (pss_cons (ps_set (i := 4) sc_name.nd rfl (Or.inl rfl) (pe_lst (pa_cons pe_str (pa_cons pe_str (pa_cons pe_str (pa_cons pe_str (pa_cons pe_str (pa_cons pe_str (pa_cons pe_str (pa_cons pe_str pa_nil))))))))))
      (pss_one (ps_ret (pe_ix ix_list (pv 4) (pe_op op_mod (pe_op op_add (pe_op op_fdiv (pv 3) pe_int) (pv 1)) pe_int) (fun _ _ => rfl))))) pss_nil)
      (pss_cons (ps_set (i := 5) sc_name.nd rfl (Or.inl rfl) (pe_op op_add pe_int (pe_op op_mod (pv 3) pe_int)))
      (pss_cons (ps_setLc (i := 4) (own := [("_law_k", 7)]) (g := (gName 7)) (tt := tYes) (by rfl) sc_name.nd rfl rfl (sw_true rfl rfl rfl (by decide +kernel)) (pi_range1 (by rfl) T.range (pa_cons (pv 5) pa_nil)) (blkOk_by (own := [("_law_k", 7)]) (N := ["_law_script", "_law_which", "_law_letters", "_law_number_here", "_law_some", "_law_size", "_law_at", "_law_k"]) (sc := defScope s_name) (by decide +kernel)) (fun _ _ _ _ _ => (pg_name (i := 7) sc_name.nd rfl (Or.inl rfl))) (fun _ _ _ _ _ => pts_nil) (fun _ _ _ _ _ => (pe_ix ix_str (pv 2) (pe_op op_mod (pe_op op_add (pe_op op_fdiv (pv 3) pe_int) (pe_op op_mul pe_int (pv 7))) pe_int) (fun _ _ => rfl))))
      (pss_cons (ps_set (i := 6) sc_name.nd rfl (Or.inl rfl) (pe_op op_mod (pe_op op_fdiv (pv 3) pe_int) (pv 5)))
      (pss_cons (ps_asg (pe_ix ix_str (pv 2) (pe_op op_mod (pe_op op_add (pe_op op_add (pe_op op_fdiv (pv 3) pe_int) (pe_op op_mul pe_int (pv 6))) (pv 1)) pe_int) (fun _ _ => rfl)) (pg_sub (pv 4) (pv 6) set_list))
      (pss_one (ps_ret (pe_join pe_str (pv 4))))))))))), ?_⟩
  refine ⟨_, rfl, a, 0, rfl, hI, Int.le_refl 0, fun n h0 h1 => ?_⟩
  refine ⟨fun _ H' => H = H', ?_, ?_⟩
  · refine ⟨_, rfl, _, _, rfl, rfl, (by show (0 : Int) < _; decide), rfl, _, rfl, ?_⟩
    exact ite2 (fun _ => ⟨_, rfl, _, _, rfl, rfl, ⟨by decide, by decide⟩, _, _, rfl, rfl, (by show (0 : Int) < _; decide), rfl, _, rfl, rfl⟩) fun _ => rfl
  rintro b _ rfl
  cases b with
  | true =>
    refine iteT ⟨by show 8 ≤ sizeLine; decide, fun p hp => ?_⟩
    obtain ⟨c, hc, e⟩ := at_str (ys := ["num", "name", "let", "quote", "hole", "run", "use", "lift"]) (mod_in (n / 16 + k) (n := 8) (by decide)).1 (mod_in (n / 16 + k) (n := 8) (by decide)).2
    exact ⟨_, rfl, _, rfl, _, _, rfl, rfl, ⟨by decide, by decide⟩, _, rfl, _, _, rfl, rfl, _, _, rfl, rfl, (by show (0 : Int) < _; decide), p, _, _, _, rfl, rfl, SqL.of upd_same, e, q _ _ (same_new hp _) (words_ok c hc)⟩
  | false =>
    refine iteF ?_
    refine ⟨_, rfl, _, _, rfl, rfl, (by show (0 : Int) < _; decide), _, _, rfl, rfl, ?_⟩
    have h8 := mod_in n (n := 8) (by decide)
    refine ⟨_, rfl, 1 + n % 8, rfl, by omega, by omega, fun D hD => ?_⟩
    refine lc_range (lo := 0) (n := (1 + n % 8).toNat) (fun i H' => Same H H' ∧ ∃ ys : List Str, H' D = some (.lst (ys.map V.str)) ∧ ys.length = i ∧ ∀ y ∈ ys, y.length = 1 ∧ PyData.strOk y = true) ⟨same_new hD _, [], upd_same, rfl, fun _ h => by cases h⟩ ?_ ?_
    · rintro i H' hi ⟨g, ys, hy, hl, h1⟩
      obtain ⟨c, ho, e⟩ := abc_at (n / 64 + 5 * (0 + (i : Int)))
      refine ⟨rfl, ?_⟩
      refine ⟨_, rfl, _, rfl, _, _, rfl, rfl, ⟨by decide, by decide⟩, _, rfl, _, _, rfl, rfl, .inl ⟨by decide, by decide⟩, _, _, rfl, rfl, _, _, rfl, rfl, (by show (0 : Int) < _; decide), _, _, _, rfl, rfl, abc_line, e, ?_⟩
      refine ⟨_, hy, small1000 (by rw [List.length_map]; omega), fun b o q => ?_, ys ++ [⟨#[c]⟩], ?_, by rw [List.length_append, hl]; rfl, fun y hy => ?_⟩
      · rw [upd_ne (ne_of_none q hD)]
        exact g b o q
      · rw [upd_same, List.map_append]
        rfl
      · rcases List.mem_append.mp hy with z | z
        · exact h1 y z
        · rw [List.mem_singleton.mp z]
          exact ⟨rfl, ho⟩
    · rintro H' ⟨g, ys, hy, hl, h1⟩
      refine ⟨_, rfl, _, _, rfl, rfl, ⟨by decide, by decide⟩, _, rfl, _, _, rfl, rfl, (by show (0 : Int) < _; omega), ?_⟩
      have hm := mod_in (n / 8) (n := 1 + n % 8) (by omega)
      obtain ⟨c, ho, e⟩ := abc_at (n / 64 + 5 * (n / 8 % (1 + n % 8)) + k)
      refine ⟨_, rfl, _, rfl, _, _, rfl, rfl, ⟨by decide, by decide⟩, _, rfl, _, _, rfl, rfl, .inl ⟨by decide, by decide⟩, _, _, rfl, rfl, _, rfl, _, _, rfl, rfl, _, _, rfl, rfl, (by show (0 : Int) < _; decide), _, _, _, rfl, rfl, abc_line, e, ?_⟩
      refine ⟨_, rfl, _, rfl, D, _, _, (n / 8 % (1 + n % 8)).toNat, rfl, rfl, hy, ixN_lt hm.1 (by rw [List.length_map]; omega), ?_⟩
      have h2 : ∀ y ∈ ys.set (n / 8 % (1 + n % 8)).toNat ⟨#[c]⟩, y.length = 1 ∧ PyData.strOk y = true := fun y hy => by
        rcases List.mem_or_eq_of_mem_set hy with z | z
        · exact h1 y z
        · rw [z]
          exact ⟨rfl, ho⟩
      refine ⟨⟨_, rfl⟩, _, rfl, _, D, ys.set (n / 8 % (1 + n % 8)).toNat ⟨#[c]⟩, rfl, rfl, .inl (SqL.of (by rw [upd_same, List.map_set])), ?_, q _ _ (fun b o z => by rw [upd_ne (ne_of_none z hD)]; exact g b o z) (ok_join (by decide +kernel) _ fun y hy => (h2 y hy).2)⟩
      rw [sum_ones _ fun y hy => (h2 y hy).1, List.length_set, show ("" : Str).length = 0 by decide +kernel]
      omega
end

/-! ### terms as data -/
inductive Bin where
  | sum | product | less
  deriving DecidableEq
inductive Un where
  | quote | hole | lift | run
  deriving DecidableEq
def Bin.word : Bin → Str
  | .sum => "sum"
  | .product => "product"
  | .less => "less"
def Un.word : Un → Str
  | .quote => "quote"
  | .hole => "hole"
  | .lift => "lift"
  | .run => "run"
/-- number (false), piece (true) -/
def kindS : Bool → Str
  | false => "number"
  | true => "piece"
inductive Tm where
  | num (n : Int)
  | name (x : Str)
  | bin (o : Bin) (a b : Tm)
  | cond (c a b : Tm)
  | letx (x : Str) (a b : Tm)
  | turns (n : Int) (x : Str) (a b : Tm)
  | deff (f x : Str) (k : Bool) (a b : Tm)
  | use (f : Str) (a : Tm)
  | un (o : Un) (a : Tm)
def Tm.head : Tm → List V
  | .num n => [.str "num", .int n]
  | .name x => [.str "name", .str x]
  | .bin o _ _ => [.str o.word]
  | .cond _ _ _ => [.str "when"]
  | .letx x _ _ => [.str "let", .str x]
  | .turns n x _ _ => [.str "turns", .int n, .str x]
  | .deff f x k _ _ => [.str "def", .str f, .str x, .str (kindS k)]
  | .use f _ => [.str "use", .str f]
  | .un o _ => [.str o.word]
def Tm.parts : Tm → List Tm
  | .num _ => []
  | .name _ => []
  | .bin _ a b => [a, b]
  | .cond c a b => [c, a, b]
  | .letx _ a b => [a, b]
  | .turns _ _ a b => [a, b]
  | .deff _ _ _ a b => [a, b]
  | .use _ a => [a]
  | .un _ a => [a]
def Tm.size : Tm → Nat
  | .num _ => 1
  | .name _ => 1
  | .bin _ a b => 1 + (a.size + b.size)
  | .cond c a b => 1 + (c.size + (a.size + b.size))
  | .letx _ a b => 1 + (a.size + b.size)
  | .turns _ _ a b => 1 + (a.size + b.size)
  | .deff _ _ _ a b => 1 + (a.size + b.size)
  | .use _ a => 1 + a.size
  | .un _ a => 1 + a.size
def Tm.deep : Tm → Nat
  | .num _ => 1
  | .name _ => 1
  | .bin _ a b => 1 + max a.deep b.deep
  | .cond c a b => 1 + max c.deep (max a.deep b.deep)
  | .letx _ a b => 1 + max a.deep b.deep
  | .turns _ _ a b => 1 + max a.deep b.deep
  | .deff _ _ _ a b => 1 + max a.deep b.deep
  | .use _ a => 1 + a.deep
  | .un _ a => 1 + a.deep
/-- turns from 0 to 9, names of signs -/
def Tm.Ok : Tm → Prop
  | .num _ => True
  | .name x => PyData.strOk x = true
  | .bin _ a b => a.Ok ∧ b.Ok
  | .cond c a b => c.Ok ∧ a.Ok ∧ b.Ok
  | .letx x a b => PyData.strOk x = true ∧ a.Ok ∧ b.Ok
  | .turns n x a b => ((0 ≤ n ∧ n ≤ 9) ∧ PyData.strOk x = true) ∧ a.Ok ∧ b.Ok
  | .deff f x _ a b => (PyData.strOk f = true ∧ PyData.strOk x = true) ∧ a.Ok ∧ b.Ok
  | .use f a => PyData.strOk f = true ∧ a.Ok
  | .un _ a => a.Ok
/-- the heap bears the term at v -/
def TmAt (H : Hp) : Tm → V → Prop
  | .num n, v => ∃ p, v = .ref p ∧ H p = some (.tup [.str "num", .int n])
  | .name x, v => ∃ p, v = .ref p ∧ H p = some (.tup [.str "name", .str x])
  | .bin o a b, v => ∃ p x y, v = .ref p ∧ H p = some (.tup [.str o.word, x, y]) ∧ TmAt H a x ∧ TmAt H b y
  | .cond c a b, v => ∃ p x y z, v = .ref p ∧ H p = some (.tup [.str "when", x, y, z]) ∧ TmAt H c x ∧ TmAt H a y ∧ TmAt H b z
  | .letx n a b, v => ∃ p x y, v = .ref p ∧ H p = some (.tup [.str "let", .str n, x, y]) ∧ TmAt H a x ∧ TmAt H b y
  | .turns k n a b, v => ∃ p x y, v = .ref p ∧ H p = some (.tup [.str "turns", .int k, .str n, x, y]) ∧ TmAt H a x ∧ TmAt H b y
  | .deff f n k a b, v => ∃ p x y, v = .ref p ∧ H p = some (.tup [.str "def", .str f, .str n, .str (kindS k), x, y]) ∧ TmAt H a x ∧ TmAt H b y
  | .use f a, v => ∃ p x, v = .ref p ∧ H p = some (.tup [.str "use", .str f, x]) ∧ TmAt H a x
  | .un o a, v => ∃ p x, v = .ref p ∧ H p = some (.tup [.str o.word, x]) ∧ TmAt H a x
/-- tuples stay -/
def Tups (H H' : Hp) : Prop := ∀ b xs, H b = some (.tup xs) → H' b = some (.tup xs)
theorem Tups.of_same {H H' : Hp} (h : Same H H') : Tups H H' := fun b _ q => h b _ q
theorem Tups.of_but {H H' : Hp} {st : Addr} {ys : List V} (h : But st H H') (hs : H st = some (.lst ys)) : Tups H H' := fun b _ q => h b _ (ne_of q hs (by intro z; cases z)) q
theorem Tups.trans {H H1 H2 : Hp} (a : Tups H H1) (b : Tups H1 H2) : Tups H H2 := fun c xs h => b c xs (a c xs h)
theorem TmAt.mono {H H' : Hp} (e : Tups H H') : ∀ {t : Tm} {v : V}, TmAt H t v → TmAt H' t v
  | .num _, _, ⟨p, h, q⟩ => ⟨p, h, e _ _ q⟩
  | .name _, _, ⟨p, h, q⟩ => ⟨p, h, e _ _ q⟩
  | .bin _ _ _, _, ⟨p, x, y, h, q, a, b⟩ => ⟨p, x, y, h, e _ _ q, TmAt.mono e a, TmAt.mono e b⟩
  | .cond _ _ _, _, ⟨p, x, y, z, h, q, a, b, c⟩ => ⟨p, x, y, z, h, e _ _ q, TmAt.mono e a, TmAt.mono e b, TmAt.mono e c⟩
  | .letx _ _ _, _, ⟨p, x, y, h, q, a, b⟩ => ⟨p, x, y, h, e _ _ q, TmAt.mono e a, TmAt.mono e b⟩
  | .turns _ _ _ _, _, ⟨p, x, y, h, q, a, b⟩ => ⟨p, x, y, h, e _ _ q, TmAt.mono e a, TmAt.mono e b⟩
  | .deff _ _ _ _ _, _, ⟨p, x, y, h, q, a, b⟩ => ⟨p, x, y, h, e _ _ q, TmAt.mono e a, TmAt.mono e b⟩
  | .use _ _, _, ⟨p, x, h, q, a⟩ => ⟨p, x, h, e _ _ q, TmAt.mono e a⟩
  | .un _ _, _, ⟨p, x, h, q, a⟩ => ⟨p, x, h, e _ _ q, TmAt.mono e a⟩
/-- the parts of a term, one by one -/
def TmsAt (H : Hp) : List Tm → List V → Prop
  | [], [] => True
  | t :: ts, v :: vs => TmAt H t v ∧ TmsAt H ts vs
  | _, _ => False
theorem TmsAt.mono {H H' : Hp} (e : Tups H H') : ∀ {ts : List Tm} {vs : List V}, TmsAt H ts vs → TmsAt H' ts vs
  | [], [], _ => True.intro
  | _ :: _, _ :: _, ⟨h, r⟩ => ⟨h.mono e, TmsAt.mono e r⟩
  | [], _ :: _, h => h.elim
  | _ :: _, [], h => h.elim
theorem TmsAt.len {H : Hp} : ∀ {ts : List Tm} {vs : List V}, TmsAt H ts vs → vs.length = ts.length
  | [], [], _ => rfl
  | _ :: _, _ :: _, ⟨_, r⟩ => congrArg (· + 1) (TmsAt.len r)
  | [], _ :: _, h => h.elim
  | _ :: _, [], h => h.elim
/-- a term as a tuple: its head, then its parts -/
theorem TmAt.open {H : Hp} {t : Tm} {v : V} (h : TmAt H t v) : ∃ p vs, v = .ref p ∧ H p = some (.tup (t.head ++ vs)) ∧ TmsAt H t.parts vs := by
  cases t with
  | num n => obtain ⟨p, e, q⟩ := h; exact ⟨p, [], e, q, True.intro⟩
  | name n => obtain ⟨p, e, q⟩ := h; exact ⟨p, [], e, q, True.intro⟩
  | bin o a b => obtain ⟨p, x, y, e, q, ha, hb⟩ := h; exact ⟨p, [x, y], e, q, ha, hb, True.intro⟩
  | cond c a b => obtain ⟨p, x, y, z, e, q, ha, hb, hc⟩ := h; exact ⟨p, [x, y, z], e, q, ha, hb, hc, True.intro⟩
  | letx n a b => obtain ⟨p, x, y, e, q, ha, hb⟩ := h; exact ⟨p, [x, y], e, q, ha, hb, True.intro⟩
  | turns k n a b => obtain ⟨p, x, y, e, q, ha, hb⟩ := h; exact ⟨p, [x, y], e, q, ha, hb, True.intro⟩
  | deff f n k a b => obtain ⟨p, x, y, e, q, ha, hb⟩ := h; exact ⟨p, [x, y], e, q, ha, hb, True.intro⟩
  | use f a => obtain ⟨p, x, e, q, ha⟩ := h; exact ⟨p, [x], e, q, ha, True.intro⟩
  | un o a => obtain ⟨p, x, e, q, ha⟩ := h; exact ⟨p, [x], e, q, ha, True.intro⟩
theorem TmAt.close {H : Hp} {t : Tm} {p : Addr} {vs : List V} (q : H p = some (.tup (t.head ++ vs))) (h : TmsAt H t.parts vs) : TmAt H t (.ref p) := by
  cases t with
  | num n => match vs, h with | [], _ => exact ⟨p, rfl, q⟩
  | name n => match vs, h with | [], _ => exact ⟨p, rfl, q⟩
  | bin o a b => match vs, h with | [x, y], ⟨ha, hb, _⟩ => exact ⟨p, x, y, rfl, q, ha, hb⟩
  | cond c a b => match vs, h with | [x, y, z], ⟨ha, hb, hc, _⟩ => exact ⟨p, x, y, z, rfl, q, ha, hb, hc⟩
  | letx n a b => match vs, h with | [x, y], ⟨ha, hb, _⟩ => exact ⟨p, x, y, rfl, q, ha, hb⟩
  | turns k n a b => match vs, h with | [x, y], ⟨ha, hb, _⟩ => exact ⟨p, x, y, rfl, q, ha, hb⟩
  | deff f n k a b => match vs, h with | [x, y], ⟨ha, hb, _⟩ => exact ⟨p, x, y, rfl, q, ha, hb⟩
  | use f a => match vs, h with | [x], ⟨ha, _⟩ => exact ⟨p, x, rfl, q, ha⟩
  | un o a => match vs, h with | [x], ⟨ha, _⟩ => exact ⟨p, x, rfl, q, ha⟩
theorem sz (n : Nat) (h : n ≤ 1000 := by decide) : n ≤ sizeLine := small h

/-- any term; n calls, one within another, are allowed -/
def spAny (K : PySem.W.Frag) (n : Nat) : Sp := fun vs H Q _ => ∃ (a st : Addr) (c d : Int) (r : List V), vs = [.ref a, .ref st, .int d] ∧ Ints K H a ∧ H st = some (.lst (.int c :: r)) ∧ 0 ≤ c ∧ 0 ≤ d ∧ d < (n : Int) ∧
  ∀ (t : Tm) (v : V) (c' : Int) (H' : Hp), But st H H' → H' st = some (.lst (.int c' :: r)) → 0 ≤ c' → TmAt H' t v → t.Ok → (t.deep : Int) ≤ d + 1 → Q v H'
abbrev s_any : Stmt := topS 20
theorem sc_any : FnScope ["_law_script", "_law_state", "_law_depth", "_law_number_here", "_law_some", "_law_x", "_law_f", "_law_one", "_law_other"] ["_law_script", "_law_state", "_law_depth"] (defScope s_any) := ⟨rfl, rfl, rfl, by decide +kernel, rfl, by decide +kernel, by decide +kernel⟩
section
variable {P : Program} {w : World} {K : PySem.W.Frag} {mg : Str → Option Value} {base : Heap} {f f1 f2 f3 f4 f5 f6 f7 f8 : Addr} {fd fd1 fd2 fd3 fd4 fd5 fd6 fd7 fd8 : FuncData}
theorem ok_any {n : Nat} (F : Fun K "_law_any" "_law_any" s_any f fd)
    (C_law_next : Cal P w K mg base "_law_next" ["_law_script", "_law_state"] 3 (spNext K) f1 fd1) (C_law_drawn : Cal P w K mg base "_law_drawn" ["_law_number_here", "_law_sizes"] 1 (spDrawn K) f2 fd2) (C_law_name : Cal P w K mg base "_law_name" ["_law_script", "_law_which"] 3 (spName K) f3 fd3)
    (C_law_number : Cal P w K mg base "_law_number" ["_law_number_here"] 1 spNumber f4 fd4) (C_law_any : Cal P w K mg base "_law_any" ["_law_script", "_law_state", "_law_depth"] (4 + n) (spAny K n) f fd) : FnOk P w K mg base CX0 (4 + n + 1) f fd ["_law_script", "_law_state", "_law_depth"] (spAny K (n + 1)) := by
  refine F.ok sc_any (fun vs H Q E h => ?_) (fun cdv A outer s H vs Q E hr h => ?_)
  · obtain ⟨a, st, c, d, r, rfl, _⟩ := h
    rfl
  obtain ⟨a, st, c, d, r, rfl, hI, hst, hc, hd, hdn, q⟩ := h
  refine ⟨_, (pss_cons (ps_set (i := 3) sc_any.nd rfl (Or.inl rfl) (pe_call C_law_next.ok (hr.mono (by first | decide | omega)) rfl C_law_next.m C_law_next.kp C_law_next.b .nil pass0 (pa_cons (pv 0) (pa_cons (pv 1) pa_nil))))
      (pss_cons (ps_set (i := 4) sc_any.nd rfl (Or.inl rfl) (pe_call C_law_drawn.ok (hr.mono (by first | decide | omega)) rfl C_law_drawn.m C_law_drawn.kp C_law_drawn.b .nil pass0 (pa_cons (pv 3) (pa_cons (pe_lst (pa_cons pe_int (pa_cons pe_int (pa_cons pe_int (pa_cons pe_int (pa_cons pe_int pa_nil)))))) pa_nil))))
      (pss_cons (ps_set (i := 5) sc_any.nd rfl (Or.inl rfl) (pe_call C_law_name.ok (hr.mono (by first | decide | omega)) rfl C_law_name.m C_law_name.kp C_law_name.b .nil pass0 (pa_cons (pv 0) (pa_cons (pe_ix ix_list (pv 4) pe_int (fun _ _ => rfl)) pa_nil))))
      (pss_cons (ps_set (i := 6) sc_any.nd rfl (Or.inl rfl) (pe_call C_law_name.ok (hr.mono (by first | decide | omega)) rfl C_law_name.m C_law_name.kp C_law_name.b .nil pass0 (pa_cons (pv 0) (pa_cons (pe_ix ix_list (pv 4) pe_int (fun _ _ => rfl)) pa_nil))))
      (pss_cons (ps_if (pt_k (PW.pt (pw_or (pt_cmpR op_eq (pv 2) pe_int (nomark _)) (pw_or1 (pt_cmpR op_eq (pe_ix ix_list (pv 4) pe_int (fun _ _ => rfl)) pe_int (nomark _)))))) (pss_one (ps_ret (pe_ix ix_list (pe_lst (pa_cons (pe_tup (pa_cons pe_str (pa_cons (pe_call C_law_number.ok (hr.mono (by first | decide | omega)) rfl C_law_number.m C_law_number.kp C_law_number.b .nil pass0 (pa_cons (pe_op op_fdiv (pv 3) pe_int) pa_nil)) pa_nil))) (pa_cons (pe_tup (pa_cons pe_str (pa_cons (pv 5) pa_nil))) pa_nil))) (pe_ix ix_list (pv 4) pe_int (fun _ _ => rfl)) (fun _ _ => rfl)))) pss_nil)
      (pss_cons (ps_if (pt_cmpR op_eq (pe_ix ix_list (pv 4) pe_int (fun _ _ => rfl)) pe_int (nomark _)) (pss_one (ps_ret (pe_tup (pa_cons pe_str (pa_cons (pv 5) pa_nil))))) pss_nil)
      (pss_cons (ps_set (i := 7) sc_any.nd rfl (Or.inl rfl) (pe_call C_law_any.ok (hr.mono (by first | decide | omega)) rfl C_law_any.m C_law_any.kp C_law_any.b .nil pass0 (pa_cons (pv 0) (pa_cons (pv 1) (pa_cons (pe_op op_sub (pv 2) pe_int) pa_nil)))))
      (pss_cons (ps_if (pt_cmpR op_lt (pe_ix ix_list (pv 4) pe_int (fun _ _ => rfl)) pe_int (nomark _)) (pss_one (ps_ret (pe_ix ix_list (pe_lst (pa_cons (pe_tup (pa_cons pe_str (pa_cons (pv 7) pa_nil))) (pa_cons (pe_tup (pa_cons pe_str (pa_cons (pv 7) pa_nil))) (pa_cons (pe_tup (pa_cons pe_str (pa_cons (pv 7) pa_nil))) (pa_cons (pe_tup (pa_cons pe_str (pa_cons (pv 7) pa_nil))) (pa_cons (pe_tup (pa_cons pe_str (pa_cons (pv 6) (pa_cons (pv 7) pa_nil)))) (pa_cons (pe_tup (pa_cons pe_str (pa_cons (pv 7) pa_nil))) pa_nil))))))) (pe_op op_sub (pe_ix ix_list (pv 4) pe_int (fun _ _ => rfl)) pe_int) (fun _ _ => rfl)))) pss_nil)
      (pss_cons (ps_set (i := 8) sc_any.nd rfl (Or.inl rfl) (pe_call C_law_any.ok (hr.mono (by first | decide | omega)) rfl C_law_any.m C_law_any.kp C_law_any.b .nil pass0 (pa_cons (pv 0) (pa_cons (pv 1) (pa_cons (pe_op op_sub (pv 2) pe_int) pa_nil)))))
      (pss_cons (ps_if (pt_cmpR op_lt (pe_ix ix_list (pv 4) pe_int (fun _ _ => rfl)) pe_int (nomark _)) (pss_one (ps_ret (pe_ix ix_list (pe_lst (pa_cons (pe_tup (pa_cons pe_str (pa_cons (pv 7) (pa_cons (pv 8) pa_nil)))) (pa_cons (pe_tup (pa_cons pe_str (pa_cons (pv 7) (pa_cons (pv 8) pa_nil)))) (pa_cons (pe_tup (pa_cons pe_str (pa_cons (pv 7) (pa_cons (pv 8) pa_nil)))) (pa_cons (pe_tup (pa_cons pe_str (pa_cons (pv 5) (pa_cons (pv 7) (pa_cons (pv 8) pa_nil))))) pa_nil))))) (pe_op op_sub (pe_ix ix_list (pv 4) pe_int (fun _ _ => rfl)) pe_int) (fun _ _ => rfl)))) pss_nil)
      (pss_cons (ps_if (pt_cmpR op_eq (pe_ix ix_list (pv 4) pe_int (fun _ _ => rfl)) pe_int (nomark _)) (pss_one (ps_ret (pe_tup (pa_cons pe_str (pa_cons (pe_ix ix_list (pv 4) pe_int (fun _ _ => rfl)) (pa_cons (pv 5) (pa_cons (pv 7) (pa_cons (pv 8) pa_nil)))))))) pss_nil)
      (pss_cons (ps_if (pt_cmpR op_lt (pe_ix ix_list (pv 4) pe_int (fun _ _ => rfl)) pe_int (nomark _)) (pss_one (ps_ret (pe_tup (pa_cons pe_str (pa_cons (pv 6) (pa_cons (pv 5) (pa_cons (pe_ix ix_list (pe_lst (pa_cons pe_str (pa_cons pe_str pa_nil))) (pe_ix ix_list (pv 4) pe_int (fun _ _ => rfl)) (fun _ _ => rfl)) (pa_cons (pv 7) (pa_cons (pv 8) pa_nil))))))))) pss_nil)
      (pss_one (ps_ret (pe_tup (pa_cons pe_str (pa_cons (pv 7) (pa_cons (pv 8) (pa_cons (pe_call C_law_any.ok (hr.mono (by first | decide | omega)) rfl C_law_any.m C_law_any.kp C_law_any.b .nil pass0 (pa_cons (pv 0) (pa_cons (pv 1) (pa_cons (pe_op op_sub (pv 2) pe_int) pa_nil)))) pa_nil))))))))))))))))))), ?_⟩
  refine ⟨_, rfl, _, rfl, a, st, c, r, rfl, hI, hst, hc, fun m m0 m1 => ?_⟩
  have b1 : But st H (upd H st (.lst (.int (c + 1) :: r))) := .put _ _ _
  have st1 : upd H st (.lst (.int (c + 1) :: r)) st = some (.lst (.int (c + 1) :: r)) := upd_same
  generalize upd H st (.lst (.int (c + 1) :: r)) = H1 at b1 st1 ⊢
  refine ⟨_, rfl, sz 5, fun p hp => ?_⟩
  refine ⟨m, p, [16, 3, 3, 10, 2], rfl, SqL.of upd_same, by decide, by decide, fun xs u H2 hx nu e2 hu => ?_⟩
  match xs, hx with
  | [x0, x1, x2, x3, x4], ⟨⟨h0, l0⟩, ⟨h1, l1⟩, ⟨h2, l2⟩, ⟨h3, l3⟩, ⟨h4, l4⟩, _⟩ =>
  have b2 : But st H H2 := b1.trans (.of_same ((same_new hp _).trans e2))
  have st2 : H2 st = some (.lst (.int (c + 1) :: r)) := e2 _ _ (same_new hp _ _ _ st1)
  have nus : u ≠ st := fun z => by rw [z, same_new hp _ _ _ st1] at nu; cases nu
  clear b1 st1 e2 hp nu
  have hI2 := hI.but hst b2
  refine ⟨_, rfl, _, rfl, u, _, _, _, rfl, rfl, SqL.of hu, atI_n (n := 1) rfl rfl, a, _, rfl, hI2, fun x H3 e3 hx => ?_⟩
  refine ⟨_, rfl, _, rfl, u, _, _, _, rfl, rfl, SqL.of (e3 _ _ hu), atI_n (n := 2) rfl rfl, a, _, rfl, hI2.same e3, fun g H4 e4 hg => ?_⟩
  have b4 : But st H H4 := b2.trans (.of_same (e3.trans e4))
  have st4 := e4 _ _ (e3 _ _ st2)
  have u4 := e4 _ _ (e3 _ _ hu)
  clear b2 st2 hI2 e3 e4 hu
  refine ⟨fun b H' => H4 = H' ∧ (b = false → 0 < d ∧ 0 < x0), ?_, ?_⟩
  · refine ⟨_, rfl, rfl, _, rfl, ?_⟩
    refine ite2 (fun _ => ⟨rfl, fun z => nomatch z⟩) fun c1 => ?_
    refine ⟨_, rfl, u, _, _, _, rfl, rfl, SqL.of u4, atI_n (n := 0) rfl rfl, rfl, _, rfl, rfl, fun c2 => ?_⟩
    have d1 : d ≠ 0 := fun z => c1 (by rw [z]; rfl)
    have d2 : x0 ≠ 0 := fun z => by
      have c3 := of_decide_eq_false c2
      exact c3 (by rw [z])
    omega
  rintro b _ ⟨rfl, hb⟩
  cases b with
  | true =>
    refine iteT ?_
    refine ⟨_, rfl, _, _, rfl, rfl, ⟨by decide, by decide⟩, _, rfl, by omega, by omega, fun k H5 e5 _ => ⟨sz 2, fun p1 n1 => ⟨_, rfl, sz 2, fun p2 n2 => ⟨sz 2, fun p3 n3 => ?_⟩⟩⟩⟩
    have s3 := same_new n3 (.lst [V.ref p1, .ref p2])
    have s2 := (same_new n2 (.tup [.str "name", .str x])).trans s3
    have s1 := (same_new n1 (.tup [.str "num", .int k])).trans s2
    have s0 := e5.trans s1
    obtain ⟨v, hv, ea⟩ := at_any (ys := [V.ref p1, .ref p2]) h4 l4
    refine ⟨_, rfl, u, _, _, _, rfl, rfl, SqL.of (s0 _ _ u4), atI_n (n := 4) rfl rfl, p3, _, _, v, rfl, rfl, SqL.of upd_same, ea, ?_⟩
    simp only [List.mem_cons, List.not_mem_nil, or_false] at hv
    rcases hv with rfl | rfl
    · exact q (.num k) _ _ _ (b4.trans (.of_same s0)) (s0 _ _ st4) (by omega) ⟨p1, rfl, s2 _ _ upd_same⟩ True.intro (by show ((1 : Nat) : Int) ≤ _; omega)
    · exact q (.name x) _ _ _ (b4.trans (.of_same s0)) (s0 _ _ st4) (by omega) ⟨p2, rfl, s3 _ _ upd_same⟩ hx (by show ((1 : Nat) : Int) ≤ _; omega)
  | false =>
    obtain ⟨d0, x00⟩ := hb rfl
    refine iteF ?_
    refine ⟨_, rfl, u, _, _, _, rfl, rfl, SqL.of u4, atI_n (n := 0) rfl rfl, rfl, _, rfl, ite2 (fun _ => ?_) fun ne1 => ?_⟩
    · exact ⟨_, rfl, sz 2, fun p1 n1 => q (.name x) _ _ _ (b4.new n1) (same_new n1 _ _ _ st4) (by omega) ⟨p1, rfl, upd_same⟩ hx (by show ((1 : Nat) : Int) ≤ _; omega)⟩
    refine ⟨_, rfl, _, rfl, _, rfl, _, _, rfl, rfl, a, st, _, d - 1, r, rfl, hI.but hst b4, st4, by omega, by omega, by omega, fun t1 v1 c5 H5 b5 st5 hc5 w1 ok1 dp1 => ?_⟩
    have b5' := b4.trans b5
    have u5 := b5 _ _ nus u4
    clear b4 st4 u4 b5
    refine ⟨_, rfl, u, _, _, _, rfl, rfl, SqL.of u5, atI_n (n := 0) rfl rfl, _, _, rfl, rfl, _, rfl, ite2 (fun c8 => ?_) fun c8 => ?_⟩
    · have c8' : x0 < 8 := of_decide_eq_true c8
      have ne1' : x0 ≠ 1 := fun z => ne1 (by rw [z]; rfl)
      refine ⟨_, rfl, sz 2, fun p1 n1 => ⟨_, rfl, sz 2, fun p2 n2 => ⟨_, rfl, sz 2, fun p3 n3 => ⟨_, rfl, sz 2, fun p4 n4 => ⟨_, rfl, _, rfl, sz 3, fun p5 n5 => ⟨_, rfl, sz 2, fun p6 n6 => ⟨sz 6, fun p7 n7 => ?_⟩⟩⟩⟩⟩⟩⟩
      have s7 := same_new n7 (.lst [V.ref p1, .ref p2, .ref p3, .ref p4, .ref p5, .ref p6])
      have s6 := (same_new n6 (.tup [.str "hole", v1])).trans s7
      have s5 := (same_new n5 (.tup [.str "use", .str g, v1])).trans s6
      have s4 := (same_new n4 (.tup [.str "run", v1])).trans s5
      have s3 := (same_new n3 (.tup [.str "lift", v1])).trans s4
      have s2 := (same_new n2 (.tup [.str "hole", v1])).trans s3
      have s1 := (same_new n1 (.tup [.str "quote", v1])).trans s2
      obtain ⟨v, hv, ea⟩ := at_any (ys := [V.ref p1, .ref p2, .ref p3, .ref p4, .ref p5, .ref p6]) (j := x0 - 2) (by omega) (by show x0 - 2 < 6; omega)
      refine ⟨_, rfl, u, _, _, _, rfl, rfl, SqL.of (s1 _ _ u5), atI_n (n := 0) rfl rfl, _, _, rfl, rfl, p7, _, _, v, rfl, rfl, SqL.of upd_same, ea, ?_⟩
      have w := w1.mono (.of_same s1)
      have fin : ∀ (t : Tm), TmAt _ t v → t.Ok → t.deep = 1 + t1.deep → Q v _ := fun t ht ok dp => q t v c5 _ (b5'.trans (.of_same s1)) (s1 _ _ st5) hc5 ht ok (by rw [dp]; omega)
      simp only [List.mem_cons, List.not_mem_nil, or_false] at hv
      rcases hv with rfl | rfl | rfl | rfl | rfl | rfl
      · exact fin (.un .quote t1) ⟨p1, v1, rfl, s2 _ _ upd_same, w⟩ ok1 rfl
      · exact fin (.un .hole t1) ⟨p2, v1, rfl, s3 _ _ upd_same, w⟩ ok1 rfl
      · exact fin (.un .lift t1) ⟨p3, v1, rfl, s4 _ _ upd_same, w⟩ ok1 rfl
      · exact fin (.un .run t1) ⟨p4, v1, rfl, s5 _ _ upd_same, w⟩ ok1 rfl
      · exact fin (.use g t1) ⟨p5, v1, rfl, s6 _ _ upd_same, w⟩ ⟨hg, ok1⟩ rfl
      · exact fin (.un .hole t1) ⟨p6, v1, rfl, s7 _ _ upd_same, w⟩ ok1 rfl
    have c8' : ¬ x0 < 8 := fun z => c8 (decide_eq_true z)
    refine ⟨_, rfl, _, rfl, _, rfl, _, _, rfl, rfl, a, st, _, d - 1, r, rfl, hI.but hst b5', st5, by omega, by omega, by omega, fun t2 v2 c6 H6 b6 st6 hc6 w2 ok2 dp2 => ?_⟩
    have w1 := w1.mono (.of_but b6 st5)
    have b6' := b5'.trans b6
    have u6 := b6 _ _ nus u5
    clear b5' st5 u5 b6
    have mk : ∀ (t : Tm) (p : Addr) (o : HO) (n : H6 p = none), TmAt (upd H6 p o) t (.ref p) → t.Ok → (t.deep = 1 + max t1.deep t2.deep) → Q (.ref p) (upd H6 p o) := fun t p o n ht ok dp => q t _ c6 _ (b6'.new n) (same_new n _ _ _ st6) hc6 ht ok (by rw [dp]; omega)
    refine ⟨_, rfl, u, _, _, _, rfl, rfl, SqL.of u6, atI_n (n := 0) rfl rfl, _, _, rfl, rfl, _, rfl, ite2 (fun c12 => ?_) fun c12 => ?_⟩
    · have c12' : x0 < 12 := of_decide_eq_true c12
      refine ⟨_, rfl, _, rfl, sz 3, fun p1 n1 => ⟨_, rfl, _, rfl, sz 3, fun p2 n2 => ⟨_, rfl, _, rfl, sz 3, fun p3 n3 => ⟨_, rfl, _, rfl, _, rfl, sz 4, fun p4 n4 => ⟨sz 4, fun p5 n5 => ?_⟩⟩⟩⟩⟩
      have s5 := same_new n5 (.lst [V.ref p1, .ref p2, .ref p3, .ref p4])
      have s4 := (same_new n4 (.tup [.str "let", .str x, v1, v2])).trans s5
      have s3 := (same_new n3 (.tup [.str "less", v1, v2])).trans s4
      have s2 := (same_new n2 (.tup [.str "product", v1, v2])).trans s3
      have s1 := (same_new n1 (.tup [.str "sum", v1, v2])).trans s2
      obtain ⟨v, hv, ea⟩ := at_any (ys := [V.ref p1, .ref p2, .ref p3, .ref p4]) (j := x0 - 8) (by omega) (by show x0 - 8 < 4; omega)
      refine ⟨_, rfl, u, _, _, _, rfl, rfl, SqL.of (s1 _ _ u6), atI_n (n := 0) rfl rfl, _, _, rfl, rfl, p5, _, _, v, rfl, rfl, SqL.of upd_same, ea, ?_⟩
      have y1 := w1.mono (.of_same s1)
      have y2 := w2.mono (.of_same s1)
      have fin : ∀ (t : Tm), TmAt _ t v → t.Ok → t.deep = 1 + max t1.deep t2.deep → Q v _ := fun t ht ok dp => q t v c6 _ (b6'.trans (.of_same s1)) (s1 _ _ st6) hc6 ht ok (by rw [dp]; omega)
      simp only [List.mem_cons, List.not_mem_nil, or_false] at hv
      rcases hv with rfl | rfl | rfl | rfl
      · exact fin (.bin .sum t1 t2) ⟨p1, v1, v2, rfl, s2 _ _ upd_same, y1, y2⟩ ⟨ok1, ok2⟩ rfl
      · exact fin (.bin .product t1 t2) ⟨p2, v1, v2, rfl, s3 _ _ upd_same, y1, y2⟩ ⟨ok1, ok2⟩ rfl
      · exact fin (.bin .less t1 t2) ⟨p3, v1, v2, rfl, s4 _ _ upd_same, y1, y2⟩ ⟨ok1, ok2⟩ rfl
      · exact fin (.letx x t1 t2) ⟨p4, v1, v2, rfl, s5 _ _ upd_same, y1, y2⟩ ⟨hx, ok1, ok2⟩ rfl
    refine ⟨_, rfl, u, _, _, _, rfl, rfl, SqL.of u6, atI_n (n := 0) rfl rfl, rfl, _, rfl, ite2 (fun _ => ?_) fun c13 => ?_⟩
    · refine ⟨_, rfl, u, _, _, _, rfl, rfl, SqL.of u6, atI_n (n := 3) rfl rfl, _, rfl, _, rfl, _, rfl, sz 5, fun p n => mk (.turns x3 x t1 t2) p _ n ⟨p, v1, v2, rfl, upd_same, w1.mono (.of_same (same_new n _)), w2.mono (.of_same (same_new n _))⟩ ⟨⟨⟨h3, by omega⟩, hx⟩, ok1, ok2⟩ rfl⟩
    refine ⟨_, rfl, u, _, _, _, rfl, rfl, SqL.of u6, atI_n (n := 0) rfl rfl, _, _, rfl, rfl, _, rfl, ite2 (fun c15 => ?_) fun c15 => ?_⟩
    · refine ⟨_, rfl, _, rfl, sz 2, fun p1 n1 => ?_⟩
      have s1 := same_new n1 (.lst [V.str "number", .str "piece"])
      have b1 := b6'.trans (.of_same s1)
      have y1 := w1.mono (.of_same s1)
      have y2 := w2.mono (.of_same s1)
      have kd : ∃ k : Bool, atI [V.str "number", V.str "piece"] x4 = some (.str (kindS k)) := by
        by_cases z : x4 = 0
        · exact ⟨false, atI_n (n := 0) (by omega) rfl⟩
        · exact ⟨true, atI_n (n := 1) (by omega) rfl⟩
      obtain ⟨k, ek⟩ := kd
      refine ⟨_, rfl, u, _, _, _, rfl, rfl, SqL.of (s1 _ _ u6), atI_n (n := 4) rfl rfl, p1, _, _, _, rfl, rfl, SqL.of upd_same, ek, _, rfl, _, rfl, sz 6, fun p n => ?_⟩
      exact q (.deff g x k t1 t2) _ c6 _ (b1.new n) (same_new n _ _ _ (s1 _ _ st6)) hc6 ⟨p, v1, v2, rfl, upd_same, y1.mono (.of_same (same_new n _)), y2.mono (.of_same (same_new n _))⟩ ⟨⟨hg, hx⟩, ok1, ok2⟩ (by show ((1 + max t1.deep t2.deep : Nat) : Int) ≤ _; omega)
    · refine ⟨_, rfl, _, rfl, _, rfl, _, rfl, _, rfl, _, _, rfl, rfl, a, st, _, d - 1, r, rfl, hI.but hst b6', st6, by omega, by omega, by omega, fun t3 v3 c7 H7 b7 st7 hc7 w3 ok3 dp3 => ⟨sz 4, fun p n => ?_⟩⟩
      have y1 := w1.mono (.of_but b7 st6)
      have y2 := w2.mono (.of_but b7 st6)
      have s1 := same_new n (.tup [.str "when", v1, v2, v3])
      exact q (.cond t1 t2 t3) _ c7 _ ((b6'.trans b7).new n) (s1 _ _ st7) hc7 ⟨p, v1, v2, v3, rfl, upd_same, y1.mono (.of_same s1), y2.mono (.of_same s1), w3.mono (.of_same s1)⟩ ⟨ok1, ok2, ok3⟩ (by show ((1 + max t1.deep (max t2.deep t3.deep) : Nat) : Int) ≤ _; omega)
end

/-! ### the words -/
inductive W where
  | num | name | sum | product | less | «when» | «let» | turns | «def» | use | quote | hole | lift | run
  deriving DecidableEq
def W.str : W → Str
  | .num => "num"
  | .name => "name"
  | .sum => "sum"
  | .product => "product"
  | .less => "less"
  | .when => "when"
  | .let => "let"
  | .turns => "turns"
  | .def => "def"
  | .use => "use"
  | .quote => "quote"
  | .hole => "hole"
  | .lift => "lift"
  | .run => "run"
theorem W.inj : ∀ {a b : W}, a.str = b.str → a = b := by
  intro a b
  cases a <;> cases b <;> first | (intro _; rfl) | (intro h; exact absurd h (by decide +kernel))
def Bin.w : Bin → W
  | .sum => .sum
  | .product => .product
  | .less => .less
def Un.w : Un → W
  | .quote => .quote
  | .hole => .hole
  | .lift => .lift
  | .run => .run
def Tm.w : Tm → W
  | .num _ => .num
  | .name _ => .name
  | .bin o _ _ => o.w
  | .cond _ _ _ => .when
  | .letx _ _ _ => .let
  | .turns _ _ _ _ => .turns
  | .deff _ _ _ _ _ => .def
  | .use _ _ => .use
  | .un o _ => o.w
theorem Bin.word_eq (o : Bin) : o.word = o.w.str := by cases o <;> rfl
theorem Un.word_eq (o : Un) : o.word = o.w.str := by cases o <;> rfl
theorem Tm.head_eq (t : Tm) : t.head = .str t.w.str :: t.head.tail := by
  cases t with
  | bin o _ _ => show [V.str o.word] = [V.str o.w.str]; rw [o.word_eq]
  | un o _ => show [V.str o.word] = [V.str o.w.str]; rw [o.word_eq]
  | _ => rfl
theorem w_num {t : Tm} (h : t.w = .num) : ∃ n, t = .num n := by
  cases t with
  | num n => exact ⟨_, rfl⟩
  | bin o _ _ => cases o <;> cases h
  | un o _ => cases o <;> cases h
  | _ => cases h
theorem w_name {t : Tm} (h : t.w = .name) : ∃ x, t = .name x := by
  cases t with
  | name x => exact ⟨_, rfl⟩
  | bin o _ _ => cases o <;> cases h
  | un o _ => cases o <;> cases h
  | _ => cases h
theorem w_let {t : Tm} (h : t.w = .let) : ∃ x a b, t = .letx x a b := by
  cases t with
  | letx x a b => exact ⟨_, _, _, rfl⟩
  | bin o _ _ => cases o <;> cases h
  | un o _ => cases o <;> cases h
  | _ => cases h
theorem w_turns {t : Tm} (h : t.w = .turns) : ∃ n x a b, t = .turns n x a b := by
  cases t with
  | turns n x a b => exact ⟨_, _, _, _, rfl⟩
  | bin o _ _ => cases o <;> cases h
  | un o _ => cases o <;> cases h
  | _ => cases h
theorem w_def {t : Tm} (h : t.w = .def) : ∃ f x k a b, t = .deff f x k a b := by
  cases t with
  | deff f x k a b => exact ⟨_, _, _, _, _, rfl⟩
  | bin o _ _ => cases o <;> cases h
  | un o _ => cases o <;> cases h
  | _ => cases h
theorem w_use {t : Tm} (h : t.w = .use) : ∃ f a, t = .use f a := by
  cases t with
  | use f a => exact ⟨_, _, rfl⟩
  | bin o _ _ => cases o <;> cases h
  | un o _ => cases o <;> cases h
  | _ => cases h
theorem w_when {t : Tm} (h : t.w = .when) : ∃ c a b, t = .cond c a b := by
  cases t with
  | cond c a b => exact ⟨_, _, _, rfl⟩
  | bin o _ _ => cases o <;> cases h
  | un o _ => cases o <;> cases h
  | _ => cases h
/-- a word as it is asked for -/
theorem str_w {t : Tm} (u : W) (h : decide (V.str t.w.str = V.str u.str) = true) : t.w = u := W.inj (V.str.inj (of_decide_eq_true h))
theorem str_nw {t : Tm} (u : W) (h : ¬ decide (V.str t.w.str = V.str u.str) = true) : t.w ≠ u := fun e => h (by rw [e]; exact decide_eq_true rfl)
theorem eqV_str (a b : Str) : eqV (.str a) (.str b) = true ↔ a = b := by
  show (a == b) = true ↔ a = b
  exact ⟨fun h => eq_of_beq h, fun h => by rw [h]; exact beq_self_eq_true b⟩
/-- a text among written texts -/
theorem inV_str {x : Str} : ∀ {ys : List Str}, inV (.str x) (ys.map V.str) = true ↔ x ∈ ys
  | [] => by constructor <;> intro h <;> cases h
  | y :: r => by
    have ih := inV_str (x := x) (ys := r)
    unfold inV at ih ⊢
    rw [List.map_cons, List.any_cons, Bool.or_eq_true, ih, eqV_str, List.mem_cons]
    exact ⟨fun h => h.elim (fun e => .inl e.symm) .inr, fun h => h.elim (fun e => .inl e.symm) .inr⟩
/-- t[k:] and t[:k] of a tuple -/
theorem slA_from {K : PySem.W.Frag} {H : Hp} {a : Addr} {xs : List V} {k : Nat} {Q : VK} (h : H a = some (.tup xs)) (hk : k ≤ xs.length) (q : ∀ p H', Same H H' → H' p = some (.tup (xs.drop k)) → Q (.ref p) H') : rSlA K (.ref a) (some (k : Int)) none H Q := by
  have e1 : HT.sIx xs.length 0 (some (k : Int)) = k := by rw [HT.sIx_nat]; exact Nat.min_eq_left hk
  have e2 : HT.sIx xs.length xs.length none = xs.length := rfl
  refine ⟨a, xs, rfl, SqT.of h, fun z => ?_, fun _ p hp => ?_⟩
  · have k0 : k = 0 := by rw [e1] at z; exact z.1
    exact q a H (Same.refl H) (by rw [k0]; exact h)
  · refine q p _ (same_new hp _) ?_
    rw [upd_same]
    unfold cutV
    rw [e1, e2, List.take_of_length_le (by rw [List.length_drop]; omega)]
theorem slA_to {K : PySem.W.Frag} {H : Hp} {a : Addr} {xs : List V} {k : Nat} {Q : VK} (h : H a = some (.tup xs)) (hk : k ≤ xs.length) (q : ∀ p H', Same H H' → H' p = some (.tup (xs.take k)) → Q (.ref p) H') : rSlA K (.ref a) none (some (k : Int)) H Q := by
  have e1 : HT.sIx xs.length xs.length (some (k : Int)) = k := by rw [HT.sIx_nat]; exact Nat.min_eq_left hk
  have e2 : HT.sIx xs.length 0 none = 0 := rfl
  refine ⟨a, xs, rfl, SqT.of h, fun z => ?_, fun _ p hp => ?_⟩
  · have k0 : k = xs.length := by rw [e1] at z; exact z.2
    exact q a H (Same.refl H) (by rw [k0, List.take_length]; exact h)
  · refine q p _ (same_new hp _) ?_
    rw [upd_same]
    unfold cutV
    rw [e1, e2, List.drop_zero, Nat.sub_zero]
theorem sqT_len {K : PySem.W.Frag} {H : Hp} {a : Addr} {xs ys : List V} (e : xs = ys) (h : SqT K H a xs) : SqT K H a ys := e ▸ h
theorem Tm.len_parts (t : Tm) : t.parts.length ≤ 3 := by
  cases t <;> simp only [Tm.parts, List.length_cons, List.length_nil] <;> omega
theorem same_sqT {K : PySem.W.Frag} {H H' : Hp} {a : Addr} {xs : List V} (e : Same H H') (h : SqT K H a xs) : SqT K H' a xs := by
  rcases h with (h | ⟨o, h⟩) | h
  · exact .inl (.inl (e _ _ h))
  · exact .inl (.inr ⟨o, e _ _ h⟩)
  · exact .inr h

/-- a new list of the parts -/
def spParts : Sp := fun vs H Q _ => ∃ (t : Tm) (v : V), vs = [v] ∧ TmAt H t v ∧ ∀ (r : Addr) (ws : List V) (H' : Hp), H r = none → Same H H' → H' r = some (.lst ws) → TmsAt H' t.parts ws → Q (.ref r) H'
abbrev s_parts : Stmt := topS 19
theorem sc_parts : FnScope ["_law_term", "_law_part"] ["_law_term"] (defScope s_parts) := ⟨rfl, rfl, rfl, by decide +kernel, rfl, by decide +kernel, by decide +kernel⟩
section
variable {P : Program} {w : World} {K : PySem.W.Frag} {mg : Str → Option Value} {base : Heap} {f f1 f2 f3 f4 f5 f6 f7 f8 : Addr} {fd fd1 fd2 fd3 fd4 fd5 fd6 fd7 fd8 : FuncData}
theorem ok_parts (F : Fun K "_law_parts" "_law_parts" s_parts f fd) : FnOk P w K mg base CX0 1 f fd ["_law_term"] spParts := by
  refine F.ok sc_parts (fun vs H Q E h => ?_) (fun cdv A outer s H vs Q E hr h => ?_)
  · obtain ⟨t, v, rfl, _⟩ := h
    rfl
  obtain ⟨t, v, rfl, ht, q⟩ := h
  obtain ⟨p, vs, rfl, hp, hvs⟩ := ht.open
  rw [t.head_eq] at hp
  refine ⟨_, (pss_cons (ps_if (pt_cmpR op_in_seq (pe_ix ix_tup (pv 0) pe_int (fun _ _ => rfl)) (pe_tup (pa_cons pe_str (pa_cons pe_str pa_nil))) (by rfl)) (pss_one (ps_ret (pe_lst pa_nil))) pss_nil)
      (pss_cons (ps_if (pt_cmpR op_eq (pe_ix ix_tup (pv 0) pe_int (fun _ _ => rfl)) pe_str (nomark _)) (pss_one (ps_ret (pe_lst (pa_cons (pe_ix ix_tup (pv 0) pe_int (fun _ _ => rfl)) (pa_cons (pe_ix ix_tup (pv 0) pe_int (fun _ _ => rfl)) pa_nil))))) pss_nil)
      (pss_cons (ps_if (pt_cmpR op_eq (pe_ix ix_tup (pv 0) pe_int (fun _ _ => rfl)) pe_str (nomark _)) (pss_one (ps_ret (pe_lst (pa_cons (pe_ix ix_tup (pv 0) pe_int (fun _ _ => rfl)) (pa_cons (pe_ix ix_tup (pv 0) pe_int (fun _ _ => rfl)) pa_nil))))) pss_nil)
      (pss_cons (ps_if (pt_cmpR op_eq (pe_ix ix_tup (pv 0) pe_int (fun _ _ => rfl)) pe_str (nomark _)) (pss_one (ps_ret (pe_lst (pa_cons (pe_ix ix_tup (pv 0) pe_int (fun _ _ => rfl)) (pa_cons (pe_ix ix_tup (pv 0) pe_int (fun _ _ => rfl)) pa_nil))))) pss_nil)
      (pss_cons (ps_if (pt_cmpR op_eq (pe_ix ix_tup (pv 0) pe_int (fun _ _ => rfl)) pe_str (nomark _)) (pss_one (ps_ret (pe_lst (pa_cons (pe_ix ix_tup (pv 0) pe_int (fun _ _ => rfl)) pa_nil)))) pss_nil)
      (pss_one (ps_ret (pe_lc (own := [("_law_part", 1)]) (g := (gName 1)) (tt := tYes) (by rfl) sc_parts.nd (pi_tup (pe_slice sl_tupA (pv 0) (po_some pe_int) po_none)) (blkOk_by (own := [("_law_part", 1)]) (N := ["_law_term", "_law_part"]) (sc := defScope s_parts) (by decide +kernel)) (fun _ _ _ _ _ => (pg_name (i := 1) sc_parts.nd rfl (Or.inl rfl))) (fun _ _ _ _ _ => pts_nil) (fun _ _ _ _ _ => (pv 1)))))))))), ?_⟩
  refine ⟨_, rfl, p, _, _, _, rfl, rfl, SqT.of hp, atI_n (n := 0) rfl rfl, sz 2, fun n1 m1 => ?_⟩
  refine ⟨n1, _, rfl, .inr (SqT.of upd_same), rfl, rfl, _, rfl, ?_⟩
  have s1 := same_new m1 (.tup [V.str "num", .str "name"])
  have fresh : ∀ {H' : Hp} {r : Addr}, Same H H' → H' r = none → H r = none := fun e z => e.free z
  refine ite2 (fun c => ?_) (fun c => ?_)
  · have c' := inV_str.mp (show inV (V.str t.w.str) ([W.num.str, W.name.str].map V.str) = true from c)
    refine ⟨Nat.zero_le _, fun r hr => q r [] _ (fresh s1 hr) (s1.trans (same_new hr _)) upd_same ?_⟩
    rcases List.mem_cons.mp c' with e | e
    · obtain ⟨n, rfl⟩ := w_num (W.inj e)
      exact True.intro
    · obtain ⟨n, rfl⟩ := w_name (W.inj (List.mem_singleton.mp e))
      exact True.intro
  have hp1 := s1 _ _ hp
  have mkr : ∀ (ws : List V) (r : Addr) (_ : TmsAt H t.parts ws) (hr : upd H n1 (.tup [V.str "num", .str "name"]) r = none), Q (.ref r) (upd (upd H n1 (.tup [V.str "num", .str "name"])) r (.lst ws)) := fun ws r h hr =>
    q r ws _ (fresh s1 hr) (s1.trans (same_new hr _)) upd_same (h.mono (.of_same (s1.trans (same_new hr _))))
  refine ⟨_, rfl, p, _, _, _, rfl, rfl, SqT.of hp1, atI_n (n := 0) rfl rfl, rfl, _, rfl, ite2 (fun c1 => ?_) fun c1 => ?_⟩
  · obtain ⟨x, a, b, rfl⟩ := w_let (str_w .let c1)
    match vs, hvs, hp1, mkr with
    | [v1, v2], hvs, hp1, mkr =>
    exact ⟨_, rfl, p, _, _, _, rfl, rfl, SqT.of hp1, atI_n (n := 2) rfl rfl, _, rfl, p, _, _, _, rfl, rfl, SqT.of hp1, atI_n (n := 3) rfl rfl, sz 2, fun r hr => mkr _ r hvs hr⟩
  refine ⟨_, rfl, p, _, _, _, rfl, rfl, SqT.of hp1, atI_n (n := 0) rfl rfl, rfl, _, rfl, ite2 (fun c2 => ?_) fun c2 => ?_⟩
  · obtain ⟨n, x, a, b, rfl⟩ := w_turns (str_w .turns c2)
    match vs, hvs, hp1, mkr with
    | [v1, v2], hvs, hp1, mkr =>
    exact ⟨_, rfl, p, _, _, _, rfl, rfl, SqT.of hp1, atI_n (n := 3) rfl rfl, _, rfl, p, _, _, _, rfl, rfl, SqT.of hp1, atI_n (n := 4) rfl rfl, sz 2, fun r hr => mkr _ r hvs hr⟩
  refine ⟨_, rfl, p, _, _, _, rfl, rfl, SqT.of hp1, atI_n (n := 0) rfl rfl, rfl, _, rfl, ite2 (fun c3 => ?_) fun c3 => ?_⟩
  · obtain ⟨g, x, k, a, b, rfl⟩ := w_def (str_w .def c3)
    match vs, hvs, hp1, mkr with
    | [v1, v2], hvs, hp1, mkr =>
    exact ⟨_, rfl, p, _, _, _, rfl, rfl, SqT.of hp1, atI_n (n := 4) rfl rfl, _, rfl, p, _, _, _, rfl, rfl, SqT.of hp1, atI_n (n := 5) rfl rfl, sz 2, fun r hr => mkr _ r hvs hr⟩
  refine ⟨_, rfl, p, _, _, _, rfl, rfl, SqT.of hp1, atI_n (n := 0) rfl rfl, rfl, _, rfl, ite2 (fun c4 => ?_) fun c4 => ?_⟩
  · obtain ⟨g, a, rfl⟩ := w_use (str_w .use c4)
    match vs, hvs, hp1, mkr with
    | [v1], hvs, hp1, mkr =>
    exact ⟨_, rfl, p, _, _, _, rfl, rfl, SqT.of hp1, atI_n (n := 2) rfl rfl, sz 1, fun r hr => mkr _ r hvs hr⟩
  have tl : t.head.tail = [] := by
    cases t with
    | num n => exact absurd ((inV_str (x := W.num.str) (ys := [W.num.str, W.name.str])).mpr List.mem_cons_self) c
    | name n => exact absurd ((inV_str (x := W.name.str) (ys := [W.num.str, W.name.str])).mpr (List.mem_cons_of_mem _ List.mem_cons_self)) c
    | letx x a b => exact absurd rfl (str_nw .let c1)
    | turns n x a b => exact absurd rfl (str_nw .turns c2)
    | deff g x k a b => exact absurd rfl (str_nw .def c3)
    | use g a => exact absurd rfl (str_nw .use c4)
    | _ => rfl
  rw [tl] at hp1
  have hlen := hvs.len
  have h3 := t.len_parts
  refine ⟨_, rfl, 1, rfl, ?_⟩
  unfold tNoPart
  show rSlA K (V.ref p) (some ((1 : Nat) : Int)) none _ _
  refine slA_from (k := 1) hp1 (by show 1 ≤ (V.str t.w.str :: ([] ++ vs)).length; rw [List.length_cons]; omega) fun u H2 e2 hu => ?_
  refine ⟨u, rfl, ⟨_, SqT.of hu⟩, fun D hD => ?_⟩
  refine lc_tup (K := K) (a := u) (xs := vs) (fun i H' => Same H2 H' ∧ H' D = some (.lst (vs.take i))) ⟨same_new hD _, upd_same⟩ (fun i H' _ z => SqT.of (z.1 _ _ hu)) ?_ ?_
  · rintro i x H' hi ⟨g, hd⟩
    have hil : i < vs.length := (List.getElem?_eq_some_iff.mp hi).1
    refine ⟨rfl, _, rfl, _, hd, small1000 (by rw [List.length_take]; omega), fun b o z => ?_, ?_⟩
    · rw [upd_ne (ne_of_none z hD)]
      exact g b o z
    · rw [upd_same, List.take_add_one, hi]
      rfl
  · rintro H' ⟨g, hd⟩
    rw [List.take_length] at hd
    have e := s1.trans (e2.trans g)
    exact q D vs H' (fresh s1 (e2.free hD)) e hd (hvs.mono (.of_same e))
end

/-! ### terms as plain data: == of two of them -/
def kindD (k : Bool) : PyData := .str (kindS k)
def Tm.data : Tm → PyData
  | .num n => .tuple [.str W.num.str, .int n]
  | .name x => .tuple [.str W.name.str, .str x]
  | .bin o a b => .tuple [.str o.w.str, a.data, b.data]
  | .cond c a b => .tuple [.str W.when.str, c.data, a.data, b.data]
  | .letx x a b => .tuple [.str W.let.str, .str x, a.data, b.data]
  | .turns n x a b => .tuple [.str W.turns.str, .int n, .str x, a.data, b.data]
  | .deff f x k a b => .tuple [.str W.def.str, .str f, .str x, .str (kindS k), a.data, b.data]
  | .use f a => .tuple [.str W.use.str, .str f, a.data]
  | .un o a => .tuple [.str o.w.str, a.data]
theorem W.ok : ∀ u : W, PyData.strOk u.str = true := by intro u; cases u <;> decide +kernel
theorem kindS_ok : ∀ k : Bool, PyData.strOk (kindS k) = true := by intro k; cases k <;> decide +kernel
theorem kindS_inj : ∀ {k l : Bool}, kindS k = kindS l → k = l := by
  intro k l
  cases k <;> cases l <;> first | (intro _; rfl) | (intro h; exact absurd h (by decide +kernel))
theorem Tm.data_w (t : Tm) : ∃ r, t.data = .tuple (.str t.w.str :: r) := by
  cases t <;> exact ⟨_, rfl⟩
theorem Tm.data_lay : ∀ t : Tm, t.Ok → t.data.canLay0 = true
  | .num _, _ => by simp only [Tm.data, PyData.canLay0, PyData.canLayAll0, W.ok, Bool.and_self]
  | .name _, h => by simp only [Tm.data, PyData.canLay0, PyData.canLayAll0, W.ok, show PyData.strOk _ = true from h, Bool.and_self]
  | .bin _ a b, h => by simp only [Tm.data, PyData.canLay0, PyData.canLayAll0, W.ok, Tm.data_lay a h.1, Tm.data_lay b h.2, Bool.and_self]
  | .cond c a b, h => by simp only [Tm.data, PyData.canLay0, PyData.canLayAll0, W.ok, Tm.data_lay c h.1, Tm.data_lay a h.2.1, Tm.data_lay b h.2.2, Bool.and_self]
  | .letx _ a b, h => by simp only [Tm.data, PyData.canLay0, PyData.canLayAll0, W.ok, h.1, Tm.data_lay a h.2.1, Tm.data_lay b h.2.2, Bool.and_self]
  | .turns _ _ a b, h => by simp only [Tm.data, PyData.canLay0, PyData.canLayAll0, W.ok, h.1.2, Tm.data_lay a h.2.1, Tm.data_lay b h.2.2, Bool.and_self]
  | .deff _ _ _ a b, h => by simp only [Tm.data, PyData.canLay0, PyData.canLayAll0, W.ok, kindS_ok, h.1.1, h.1.2, Tm.data_lay a h.2.1, Tm.data_lay b h.2.2, Bool.and_self]
  | .use _ a, h => by simp only [Tm.data, PyData.canLay0, PyData.canLayAll0, W.ok, h.1, Tm.data_lay a h.2, Bool.and_self]
  | .un _ a, h => by simp only [Tm.data, PyData.canLay0, PyData.canLayAll0, W.ok, Tm.data_lay a h, Bool.and_self]
theorem Tm.data_deep : ∀ t : Tm, t.data.depth ≤ t.deep
  | .num _ => by simp [Tm.data, Tm.deep, PyData.depth, PyData.depthAll]
  | .name _ => by simp [Tm.data, Tm.deep, PyData.depth, PyData.depthAll]
  | .bin _ a b => by have := Tm.data_deep a; have := Tm.data_deep b; simp only [Tm.data, Tm.deep, PyData.depth, PyData.depthAll]; omega
  | .cond c a b => by have := Tm.data_deep a; have := Tm.data_deep b; have := Tm.data_deep c; simp only [Tm.data, Tm.deep, PyData.depth, PyData.depthAll]; omega
  | .letx _ a b => by have := Tm.data_deep a; have := Tm.data_deep b; simp only [Tm.data, Tm.deep, PyData.depth, PyData.depthAll]; omega
  | .turns _ _ a b => by have := Tm.data_deep a; have := Tm.data_deep b; simp only [Tm.data, Tm.deep, PyData.depth, PyData.depthAll]; omega
  | .deff _ _ _ a b => by have := Tm.data_deep a; have := Tm.data_deep b; simp only [Tm.data, Tm.deep, PyData.depth, PyData.depthAll]; omega
  | .use _ a => by have := Tm.data_deep a; simp only [Tm.data, Tm.deep, PyData.depth, PyData.depthAll]; omega
  | .un _ a => by have := Tm.data_deep a; simp only [Tm.data, Tm.deep, PyData.depth, PyData.depthAll]; omega
theorem w_bin {t : Tm} {o : Bin} (h : t.w = o.w) : ∃ a b, t = .bin o a b := by
  cases t with
  | bin o' a b => cases o <;> cases o' <;> first | exact ⟨_, _, rfl⟩ | cases h
  | un o' _ => cases o <;> cases o' <;> cases h
  | _ => cases o <;> cases h
theorem w_un {t : Tm} {o : Un} (h : t.w = o.w) : ∃ a, t = .un o a := by
  cases t with
  | un o' a => cases o <;> cases o' <;> first | exact ⟨_, rfl⟩ | cases h
  | bin o' _ _ => cases o <;> cases o' <;> cases h
  | _ => cases o <;> cases h
theorem data_weq {t u : Tm} (h : PyData.eqv t.data u.data = true) : t.w = u.w := by
  obtain ⟨r, e⟩ := t.data_w
  obtain ⟨r', e'⟩ := u.data_w
  rw [e, e'] at h
  simp only [PyData.eqv, PyData.eqvAll, Bool.and_eq_true, beq_iff_eq] at h
  exact W.inj h.1
theorem Tm.data_eq : ∀ t u : Tm, PyData.eqv t.data u.data = true → t = u := by
  intro t
  induction t with
  | num n =>
    intro u h
    obtain ⟨m, rfl⟩ := w_num (data_weq h).symm
    simp only [Tm.data, PyData.eqv, PyData.eqvAll, Bool.and_eq_true, beq_iff_eq] at h
    rw [h.2.1]
  | name n =>
    intro u h
    obtain ⟨m, rfl⟩ := w_name (data_weq h).symm
    simp only [Tm.data, PyData.eqv, PyData.eqvAll, Bool.and_eq_true, beq_iff_eq] at h
    rw [h.2.1]
  | bin o a b iha ihb =>
    intro u h
    obtain ⟨a', b', rfl⟩ := w_bin (o := o) (data_weq h).symm
    simp only [Tm.data, PyData.eqv, PyData.eqvAll, Bool.and_eq_true, beq_iff_eq] at h
    rw [iha _ h.2.1, ihb _ h.2.2.1]
  | cond c a b ihc iha ihb =>
    intro u h
    obtain ⟨c', a', b', rfl⟩ := w_when (data_weq h).symm
    simp only [Tm.data, PyData.eqv, PyData.eqvAll, Bool.and_eq_true, beq_iff_eq] at h
    rw [ihc _ h.2.1, iha _ h.2.2.1, ihb _ h.2.2.2.1]
  | letx x a b iha ihb =>
    intro u h
    obtain ⟨x', a', b', rfl⟩ := w_let (data_weq h).symm
    simp only [Tm.data, PyData.eqv, PyData.eqvAll, Bool.and_eq_true, beq_iff_eq] at h
    rw [h.2.1, iha _ h.2.2.1, ihb _ h.2.2.2.1]
  | turns n x a b iha ihb =>
    intro u h
    obtain ⟨n', x', a', b', rfl⟩ := w_turns (data_weq h).symm
    simp only [Tm.data, PyData.eqv, PyData.eqvAll, Bool.and_eq_true, beq_iff_eq] at h
    rw [h.2.1, h.2.2.1, iha _ h.2.2.2.1, ihb _ h.2.2.2.2.1]
  | deff f x k a b iha ihb =>
    intro u h
    obtain ⟨f', x', k', a', b', rfl⟩ := w_def (data_weq h).symm
    simp only [Tm.data, PyData.eqv, PyData.eqvAll, Bool.and_eq_true, beq_iff_eq] at h
    rw [h.2.1, h.2.2.1, kindS_inj h.2.2.2.1, iha _ h.2.2.2.2.1, ihb _ h.2.2.2.2.2.1]
  | use f a iha =>
    intro u h
    obtain ⟨f', a', rfl⟩ := w_use (data_weq h).symm
    simp only [Tm.data, PyData.eqv, PyData.eqvAll, Bool.and_eq_true, beq_iff_eq] at h
    rw [h.2.1, iha _ h.2.2.1]
  | un o a iha =>
    intro u h
    obtain ⟨a', rfl⟩ := w_un (o := o) (data_weq h).symm
    simp only [Tm.data, PyData.eqv, PyData.eqvAll, Bool.and_eq_true, beq_iff_eq] at h
    rw [iha _ h.2.1]
theorem Tm.data_self (t : Tm) (h : t.Ok) : PyData.eqv t.data t.data = true := SeqAt.eqv_refl _ (t.data_lay h)
theorem Tm.shaped {t : Tm} (h : t.Ok) (hd : t.deep ≤ 60) : SeqAt.shaped t.data = true := by
  unfold SeqAt.shaped
  rw [t.data_lay h, decide_eq_true (by have := t.data_deep; omega)]
  rfl
theorem TmAt.dp {K : PySem.W.Frag} {H : Hp} : ∀ {t : Tm} {v : V}, TmAt H t v → Dp K H v t.data
  | .num _, _, ⟨p, e, q⟩ => by rw [e]; exact .tup (SqT.of q) (.cons (.str _) (.cons (.int _) .nil))
  | .name _, _, ⟨p, e, q⟩ => by rw [e]; exact .tup (SqT.of q) (.cons (.str _) (.cons (.str _) .nil))
  | .bin o _ _, _, ⟨p, x, y, e, q, a, b⟩ => by rw [e]; rw [o.word_eq] at q; exact .tup (SqT.of q) (.cons (.str _) (.cons (TmAt.dp a) (.cons (TmAt.dp b) .nil)))
  | .cond _ _ _, _, ⟨p, x, y, z, e, q, a, b, c⟩ => by rw [e]; exact .tup (SqT.of q) (.cons (.str _) (.cons (TmAt.dp a) (.cons (TmAt.dp b) (.cons (TmAt.dp c) .nil))))
  | .letx _ _ _, _, ⟨p, x, y, e, q, a, b⟩ => by rw [e]; exact .tup (SqT.of q) (.cons (.str _) (.cons (.str _) (.cons (TmAt.dp a) (.cons (TmAt.dp b) .nil))))
  | .turns _ _ _ _, _, ⟨p, x, y, e, q, a, b⟩ => by rw [e]; exact .tup (SqT.of q) (.cons (.str _) (.cons (.int _) (.cons (.str _) (.cons (TmAt.dp a) (.cons (TmAt.dp b) .nil)))))
  | .deff _ _ _ _ _, _, ⟨p, x, y, e, q, a, b⟩ => by rw [e]; exact .tup (SqT.of q) (.cons (.str _) (.cons (.str _) (.cons (.str _) (.cons (.str _) (.cons (TmAt.dp a) (.cons (TmAt.dp b) .nil))))))
  | .use _ _, _, ⟨p, x, e, q, a⟩ => by rw [e]; exact .tup (SqT.of q) (.cons (.str _) (.cons (.str _) (.cons (TmAt.dp a) .nil)))
  | .un o _, _, ⟨p, x, e, q, a⟩ => by rw [e]; rw [o.word_eq] at q; exact .tup (SqT.of q) (.cons (.str _) (.cons (TmAt.dp a) .nil))

/-! ### sizes of the parts -/
def sizes : List Tm → Nat
  | [] => 0
  | t :: r => t.size + sizes r
theorem sizes_snoc (t : Tm) : ∀ r : List Tm, sizes (r ++ [t]) = sizes r + t.size
  | [] => by show t.size + 0 = 0 + t.size; omega
  | a :: r => by show a.size + sizes (r ++ [t]) = a.size + sizes r + t.size; rw [sizes_snoc t r]; omega
theorem sizes_take : ∀ (r : List Tm) (i : Nat), sizes (r.take i) ≤ sizes r
  | [], i => by rw [List.take_nil]; exact Nat.le_refl _
  | a :: r, 0 => Nat.zero_le _
  | a :: r, i + 1 => by show a.size + sizes (r.take i) ≤ a.size + sizes r; exact Nat.add_le_add_left (sizes_take r i) _
theorem Tm.size_parts (t : Tm) : t.size = 1 + sizes t.parts := by
  cases t <;> simp only [Tm.size, Tm.parts, sizes] <;> omega
theorem Tm.Ok.part {t u : Tm} (h : t.Ok) (m : u ∈ t.parts) : u.Ok := by
  cases t with
  | num n => cases m
  | name n => cases m
  | bin o a b =>
    simp only [Tm.parts, List.mem_cons, List.not_mem_nil, or_false] at m
    rcases m with rfl | rfl
    · exact h.1
    · exact h.2
  | cond c a b =>
    simp only [Tm.parts, List.mem_cons, List.not_mem_nil, or_false] at m
    rcases m with rfl | rfl | rfl
    · exact h.1
    · exact h.2.1
    · exact h.2.2
  | letx x a b =>
    simp only [Tm.parts, List.mem_cons, List.not_mem_nil, or_false] at m
    rcases m with rfl | rfl
    · exact h.2.1
    · exact h.2.2
  | turns n x a b =>
    simp only [Tm.parts, List.mem_cons, List.not_mem_nil, or_false] at m
    rcases m with rfl | rfl
    · exact h.2.1
    · exact h.2.2
  | deff f x k a b =>
    simp only [Tm.parts, List.mem_cons, List.not_mem_nil, or_false] at m
    rcases m with rfl | rfl
    · exact h.2.1
    · exact h.2.2
  | use f a =>
    simp only [Tm.parts, List.mem_cons, List.not_mem_nil, or_false] at m
    subst m
    exact h.2
  | un o a =>
    simp only [Tm.parts, List.mem_cons, List.not_mem_nil, or_false] at m
    subst m
    exact h
theorem sizes_mem {r : List Tm} {u : Tm} : u ∈ r → u.size ≤ sizes r := by
  intro h
  induction r with
  | nil => cases h
  | cons t r ih =>
    show u.size ≤ t.size + sizes r
    rcases List.mem_cons.mp h with rfl | h
    · omega
    · have := ih h
      omega
theorem Tm.part_size {t u : Tm} (h : u ∈ t.parts) : u.size ≤ t.size := by
  have := sizes_mem h
  have := t.size_parts
  omega
theorem sizes_sum : ∀ r : List Tm, sizes r = (r.map Tm.size).sum
  | [] => rfl
  | t :: r => by show t.size + sizes r = _; rw [sizes_sum r]; rfl
theorem TmsAt.get {H : Hp} : ∀ {ts : List Tm} {vs : List V} {i : Nat} {t : Tm}, TmsAt H ts vs → ts[i]? = some t → ∃ v, vs[i]? = some v ∧ TmAt H t v
  | [], [], _, _, _, e => by simp at e
  | t :: ts, v :: vs, 0, _, ⟨h, _⟩, e => by
    simp only [List.getElem?_cons_zero, Option.some.injEq] at e
    subst e
    exact ⟨v, rfl, h⟩
  | t :: ts, v :: vs, i + 1, _, ⟨_, r⟩, e => by
    simp only [List.getElem?_cons_succ] at e
    obtain ⟨u, h1, h2⟩ := TmsAt.get r e
    exact ⟨u, by simpa using h1, h2⟩
  | [], _ :: _, _, _, h, _ => h.elim
  | _ :: _, [], _, _, h, _ => h.elim
theorem TmsAt.snoc {H : Hp} {t : Tm} {v : V} (h : TmAt H t v) : ∀ {ts : List Tm} {vs : List V}, TmsAt H ts vs → TmsAt H (ts ++ [t]) (vs ++ [v])
  | [], [], _ => ⟨h, True.intro⟩
  | _ :: _, _ :: _, ⟨a, b⟩ => ⟨a, TmsAt.snoc h b⟩
  | [], _ :: _, h => h.elim
  | _ :: _, [], h => h.elim
/-- another list is written: the terms stay -/
theorem Tups.put {H : Hp} {S : Addr} {ys zs : List V} (hS : H S = some (.lst ys)) : Tups H (upd H S (.lst zs)) := fun b xs q => by
  rw [upd_ne (ne_of q hS (by intro z; cases z))]
  exact q
theorem fn_none {P : Program} {w : World} {K : PySem.W.Frag} {mg : Str → Option Value} {base : Heap} {f : Addr} {fd : FuncData} {k : Nat} {ps : List Str} {sp : Sp} (no : ∀ vs H Q E, ¬ sp vs H Q E) : FnOk P w K mg base CX0 k f fd ps sp :=
  ⟨fun vs H Q E h => absurd h (no vs H Q E), fun A outer s H args us vs Q E _ _ _ _ h => absurd h (no vs H Q E)⟩

/-! ### how many terms a depth allows -/
theorem Tm.size_le : ∀ t : Tm, 2 * t.size + 1 ≤ 3 ^ t.deep
  | .num _ => by show 2 * 1 + 1 ≤ 3 ^ 1; decide
  | .name _ => by show 2 * 1 + 1 ≤ 3 ^ 1; decide
  | .bin _ a b => by
    have ha := Tm.size_le a
    have hb := Tm.size_le b
    have h1 : 3 ^ a.deep ≤ 3 ^ (max a.deep b.deep) := Nat.pow_le_pow_right (by decide) (Nat.le_max_left _ _)
    have h2 : 3 ^ b.deep ≤ 3 ^ (max a.deep b.deep) := Nat.pow_le_pow_right (by decide) (Nat.le_max_right _ _)
    have h3 : 0 < 3 ^ (max a.deep b.deep) := Nat.pow_pos (by decide)
    simp only [Tm.size, Tm.deep, Nat.pow_add, Nat.pow_one]
    omega
  | .cond c a b => by
    have hc := Tm.size_le c
    have ha := Tm.size_le a
    have hb := Tm.size_le b
    have h0 : 3 ^ c.deep ≤ 3 ^ (max c.deep (max a.deep b.deep)) := Nat.pow_le_pow_right (by decide) (by omega)
    have h1 : 3 ^ a.deep ≤ 3 ^ (max c.deep (max a.deep b.deep)) := Nat.pow_le_pow_right (by decide) (by omega)
    have h2 : 3 ^ b.deep ≤ 3 ^ (max c.deep (max a.deep b.deep)) := Nat.pow_le_pow_right (by decide) (by omega)
    simp only [Tm.size, Tm.deep, Nat.pow_add, Nat.pow_one]
    omega
  | .letx _ a b => by
    have ha := Tm.size_le a
    have hb := Tm.size_le b
    have h1 : 3 ^ a.deep ≤ 3 ^ (max a.deep b.deep) := Nat.pow_le_pow_right (by decide) (Nat.le_max_left _ _)
    have h2 : 3 ^ b.deep ≤ 3 ^ (max a.deep b.deep) := Nat.pow_le_pow_right (by decide) (Nat.le_max_right _ _)
    have h3 : 0 < 3 ^ (max a.deep b.deep) := Nat.pow_pos (by decide)
    simp only [Tm.size, Tm.deep, Nat.pow_add, Nat.pow_one]
    omega
  | .turns _ _ a b => by
    have ha := Tm.size_le a
    have hb := Tm.size_le b
    have h1 : 3 ^ a.deep ≤ 3 ^ (max a.deep b.deep) := Nat.pow_le_pow_right (by decide) (Nat.le_max_left _ _)
    have h2 : 3 ^ b.deep ≤ 3 ^ (max a.deep b.deep) := Nat.pow_le_pow_right (by decide) (Nat.le_max_right _ _)
    have h3 : 0 < 3 ^ (max a.deep b.deep) := Nat.pow_pos (by decide)
    simp only [Tm.size, Tm.deep, Nat.pow_add, Nat.pow_one]
    omega
  | .deff _ _ _ a b => by
    have ha := Tm.size_le a
    have hb := Tm.size_le b
    have h1 : 3 ^ a.deep ≤ 3 ^ (max a.deep b.deep) := Nat.pow_le_pow_right (by decide) (Nat.le_max_left _ _)
    have h2 : 3 ^ b.deep ≤ 3 ^ (max a.deep b.deep) := Nat.pow_le_pow_right (by decide) (Nat.le_max_right _ _)
    have h3 : 0 < 3 ^ (max a.deep b.deep) := Nat.pow_pos (by decide)
    simp only [Tm.size, Tm.deep, Nat.pow_add, Nat.pow_one]
    omega
  | .use _ a => by
    have ha := Tm.size_le a
    have h3 : 0 < 3 ^ a.deep := Nat.pow_pos (by decide)
    simp only [Tm.size, Tm.deep, Nat.pow_add, Nat.pow_one]
    omega
  | .un _ a => by
    have ha := Tm.size_le a
    have h3 : 0 < 3 ^ a.deep := Nat.pow_pos (by decide)
    simp only [Tm.size, Tm.deep, Nat.pow_add, Nat.pow_one]
    omega

/-! ### a dict whose keys are tuples of any depth, its values objects: d.setdefault(k, v) -/
mutual
inductive KAt (H : Hp) : NestedKey → V → Prop
  | int (i : Int) : KAt H (.num i) (.int i)
  | str (x : Str) : KAt H (.text x) (.str x)
  | tup {a : Addr} {xs : List V} {ks : List NestedKey} : H a = some (.tup xs) → KAll H ks xs → KAt H (.tup ks) (.ref a)
inductive KAll (H : Hp) : List NestedKey → List V → Prop
  | nil : KAll H [] []
  | cons {k : NestedKey} {v : V} {ks : List NestedKey} {vs : List V} : KAt H k v → KAll H ks vs → KAll H (k :: ks) (v :: vs)
end
mutual
theorem KAt.mono {H H' : Hp} (e : Tups H H') : ∀ (k : NestedKey) (v : V), KAt H k v → KAt H' k v
  | .num _, _, h => by cases h; exact .int _
  | .text _, _, h => by cases h; exact .str _
  | .tup ks, _, h => by
    cases h with
    | tup ha hk => exact .tup (e _ _ ha) (KAll.mono e ks _ hk)
  | .none, _, h => by cases h
theorem KAll.mono {H H' : Hp} (e : Tups H H') : ∀ (ks : List NestedKey) (vs : List V), KAll H ks vs → KAll H' ks vs
  | [], _, h => by cases h; exact .nil
  | k :: ks, _, h => by
    cases h with
    | cons h1 h2 => exact .cons (KAt.mono e k _ h1) (KAll.mono e ks _ h2)
end
theorem KAll.snoc {H : Hp} {k : NestedKey} {v : V} (hk : KAt H k v) : ∀ {ks : List NestedKey} {vs : List V}, KAll H ks vs → KAll H (ks ++ [k]) (vs ++ [v])
  | _, _, .nil => .cons hk .nil
  | _, _, .cons h1 h2 => .cons h1 (KAll.snoc hk h2)
section
variable {X : Cx} {pins : List (Addr × Obj)} {σ : L2.St} {H : Hp} {s : Shared}
mutual
theorem KAt.is (I : Inv X pins σ H s) : ∀ (k : NestedKey) (v : V) (u : Value), KAt H k v → RelV v u → NestedIs s.heap k u
  | .num _, _, _, h, r => by
    cases h
    obtain ⟨t, rfl⟩ := r
    exact .int _ t
  | .text _, _, _, h, r => by
    cases h
    obtain ⟨t, rfl⟩ := r
    exact .text _ t
  | .tup ks, _, _, h, r => by
    cases h with
    | tup ha hk =>
      obtain rfl := r
      obtain ⟨its, rv, ⟨o, ho, hc, n, hd⟩, _⟩ := I.tuple (SqT.of ha)
      exact .tup ho hc hd (KAll.is I ks _ _ hk rv)
  | .none, _, _, h, _ => by cases h
theorem KAll.is (I : Inv X pins σ H s) : ∀ (ks : List NestedKey) (vs : List V) (us : List Value), KAll H ks vs → Vals vs us → NestedAll s.heap ks us
  | [], _, _, h, r => by
    cases h
    cases r
    exact .nil
  | k :: ks, _, _, h, r => by
    cases h with
    | cons h1 h2 =>
      cases r with
      | cons r1 r2 => exact .cons (KAt.is I k _ _ h1 r1) (KAll.is I ks _ _ h2 r2)
end
end
/-- an entry: its key, where the key's tuple stands, where the value stands -/
abbrev NE := List (NestedKey × Addr × Addr)
def valN (x : NestedKey × Addr × Addr) : NestedKey × Addr × Value := (x.1, x.2.1, .ref x.2.2)
def rawD (P : Program) (w : World) (d : Addr) (xs : NE) : HO := .ext fun h => (d == sysModules) = false ∧ xs.length ≤ sizeLine ∧ (xs.map (·.1)).Nodup ∧
  ∃ o es ep, h.get? d = some o ∧ o.ExactDict ∧ o.data = .dict es ep ∧ es.toList = (xs.map valN).map (entryOfKey (nestedKind P w))
/-- the dict at d has the entries xs -/
def IsNx (P : Program) (w : World) (H : Hp) (d : Addr) (xs : NE) : Prop := H d = some (rawD P w d xs) ∨ (H d = some (.dK []) ∧ xs = [])
def tNSetd (P : Program) (w : World) (td ty tx : TE) : TE := fun σ H Q => td σ H fun x H1 => ∃ d, x = .ref d ∧ (∃ xs, IsNx P w H1 d xs) ∧ ty σ H1 fun y H2 => tx σ H2 fun z H3 => ∃ (xs : NE) (k : NestedKey) (a b : Addr), IsNx P w H3 d xs ∧ y = .ref a ∧ z = .ref b ∧
  KAt H3 k y ∧ k.depth ≤ 8 ∧ (∀ e ∈ xs, KAt H3 e.1 (.ref e.2.1) ∧ e.1.depth ≤ 8) ∧ xs.length < sizeLine ∧ (∀ c b', (k, c, b') ∈ xs → Q (.ref b') H3) ∧ Q z (upd H3 d (rawD P w d (xs ++ [(k, a, b)])))
section
variable {X : Cx} {pins : List (Addr × Obj)} {σ : L2.St} {H : Hp} {s : Shared} {d : Addr} {xs : NE} {A : Around} {E : Value → Shared → Prop}
theorem isN_at (I : Inv X pins σ H s) (h : IsNx X.prog X.w H d xs) : (d == sysModules) = false ∧ xs.length ≤ sizeLine ∧ (xs.map (·.1)).Nodup ∧
    ∃ o es ep, s.heap.get? d = some o ∧ o.ExactDict ∧ o.data = .dict es ep ∧ es.toList = (xs.map valN).map (entryOfKey (nestedKind X.prog X.w)) := by
  rcases h with h | ⟨h, rfl⟩
  · exact (I.hok d _ h).1
  · obtain ⟨_, hd, vs, rel, o, es, ep, ho, he, hdat, hes, q1, q2⟩ := I.hok d _ h
    cases rel
    refine ⟨hd, Nat.zero_le _, List.Pairwise.nil, o, es, ep, ho, he, hdat, ?_⟩
    generalize es.toList = l at q1
    cases q1
    rfl
theorem isN_dict (I : Inv X pins σ H s) (h : IsNx X.prog X.w H d xs) (hk : ∀ e ∈ xs, KAt H e.1 (.ref e.2.1) ∧ e.1.depth ≤ 8) : s.heap.DictOfH (nestedKind X.prog X.w) d (xs.map valN) := by
  obtain ⟨_, _, nd, o, es, ep, ho, he, hdat, hes⟩ := isN_at I h
  refine ⟨o, es, ep, ho, he, hdat, hes, fun x hx => ?_, by rw [List.map_map]; exact nd⟩
  obtain ⟨e, he', rfl⟩ := List.mem_map.mp hx
  exact ⟨KAt.is I _ _ _ (hk e he').1 rfl, (hk e he').2⟩
theorem isN_mut (h : IsNx X.prog X.w H d xs) : Mut (H d) := by
  rcases h with h | ⟨h, _⟩ <;> rw [h] <;> exact True.intro
theorem n_setd {k : NestedKey} {a b : Addr} {Q : Value → Shared → Prop} (I : Inv X pins σ H s) (e : IsNx X.prog X.w H d xs) (hk : KAt H k (.ref a)) (hd : k.depth ≤ 8) (hks : ∀ e ∈ xs, KAt H e.1 (.ref e.2.1) ∧ e.1.depth ≤ 8) (hl : xs.length < sizeLine) (hu : A.in1.units + 8 < cLine)
    (h1 : ∀ c b', (k, c, b') ∈ xs → ∀ s' : Shared, Inv X pins σ H s' → Q (.ref b') s') (h2 : ∀ s' : Shared, Inv X pins σ (upd H d (rawD X.prog X.w d (xs ++ [(k, a, b)]))) s' → Q (.ref b) s') :
    wpAny (model X.prog X.w) A (call (.builtin "dict.setdefault") [.ref d, .ref a, .ref b]) Q E s := by
  obtain ⟨hsy, _, nd, _⟩ := isN_at I e
  refine call_setdefault_heap (knd := nestedKind X.prog X.w) (k := k) (xs := xs.map valN) hu ⟨KAt.is I _ _ _ hk rfl, hd⟩ hsy (isN_dict I e hks) (fun p hp => ?_) (fun hn h' dd hs => ?_) (by rw [List.length_map]; exact Nat.le_of_lt hl)
  · unfold atKey at hp
    cases hf : (xs.map valN).find? (fun x => decide (x.1 = k)) with
    | none =>
      rw [hf] at hp
      cases hp
    | some x =>
      rw [hf] at hp
      have hp' : x.2 = p := Option.some.inj hp
      have hx1 : x.1 = k := of_decide_eq_true (List.find?_some (p := fun x : NestedKey × Addr × Value => decide (x.1 = k)) hf)
      obtain ⟨y, hy, rfl⟩ := List.mem_map.mp (List.mem_of_find?_eq_some hf)
      rw [← hp']
      refine h1 y.2.1 y.2.2 ?_ _ (I.tok _)
      rw [← hx1]
      exact hy
  · rw [storedH_new hn] at dd
    obtain ⟨o, es, ep, ho, he, hdat, hes, _, nd'⟩ := dd
    have e1 : xs.map valN ++ [(k, a, Value.ref b)] = (xs ++ [(k, a, b)]).map valN := by rw [List.map_append]; rfl
    rw [e1] at hes nd'
    have new : ObjOk X.prog X.w (upd H d (rawD X.prog X.w d (xs ++ [(k, a, b)]))) h' d (rawD X.prog X.w d (xs ++ [(k, a, b)])) := by
      refine ⟨⟨hsy, by rw [List.length_append]; exact hl, by rw [List.map_map] at nd'; exact nd', o, es, ep, ho, he, hdat, hes⟩, ⟨o, ho⟩, ?_⟩
      rintro g1 g2 ⟨p1, p2, p3, o1, es1, ep1, q1, q⟩ kp
      exact ⟨p1, p2, p3, o1, es1, ep1, kp _ q1, q⟩
    exact h2 _ (d_write (t' := s.toks + (nestedKind X.prog X.w).draws k) I (isN_mut e) hs ⟨o, ho⟩ new)
theorem pe_nsetd {o e f : Expr} {td ty tx : TE} {apos cpos : Pos} (hu : X.A.units + 64 < cLine) (ho : PE X o td) (he : PE X e ty) (hf : PE X f tx) (m : M2 X o "setdefault" apos e f cpos) : PE X (.Call (.Attribute o "setdefault" apos) [e, f] [] cpos) (tNSetd X.prog X.w td ty tx) := by
  refine ⟨fun pins s σ H Q I h => ?_⟩
  refine wpAny_Call_method m.base m.few m.line PySem.F.plainAttrs_dict PySem.F.slot_dict_setdefault PySem.F.type_dict_setdefault (thn (ho.run pins s σ H _ I h) fun u s1 ⟨x, H1, I1, rx, d, ex, ⟨xs0, hd⟩, q1⟩ => ?_)
  subst ex
  obtain rfl : u = Value.ref d := rx
  obtain ⟨_, _, _, ob, es, ep, h1, h2, h3, _⟩ := isN_at I1 hd
  refine ⟨⟨ob, h1, h2.1⟩, fun b q => ?_, ?_⟩
  · cases q
    exact ⟨ob, h1, h2.2.1⟩
  rw [m.trees]
  refine Calls.callWith_builtin rfl (Calls.evalArgs_plain (Calls.spliced_cons (thn (he.run pins s1 σ H1 _ I1 q1) fun iv s2 ⟨y, H2, I2, ry, q2⟩ =>
    Calls.spliced_cons (thn (hf.run pins s2 σ H2 _ I2 q2) fun fv s3 ⟨z, H3, I3, rz, xs, k, a, b, hx, ey, ez, hk, hkd, hks, hl, q3, q4⟩ => Calls.spliced_nil ?_))))
  subst ey ez
  obtain rfl : iv = Value.ref a := ry
  obtain rfl : fv = Value.ref b := rz
  exact n_setd I3 hx hk hkd hks hl (by show _ + 1 + 8 < _; omega) (fun c b' hm s4 I4 => ⟨.ref b', _, I4, rfl, q3 c b' hm⟩) fun s4 I4 => ⟨.ref b, _, I4, rfl, q4⟩
end

/-! ### heads and parts by the program's table -/
def W.pos : W → Nat
  | .num => 2
  | .name => 2
  | .sum => 1
  | .product => 1
  | .less => 1
  | .when => 1
  | .let => 2
  | .turns => 3
  | .def => 4
  | .use => 2
  | .quote => 1
  | .hole => 1
  | .lift => 1
  | .run => 1
theorem Tm.head_len (t : Tm) : t.head.length = t.w.pos := by
  cases t with
  | bin o _ _ => cases o <;> rfl
  | un o _ => cases o <;> rfl
  | _ => rfl
structure KParts (K : PySem.W.Frag) (w : World) (mg : Str → Option Value) (pa : Addr) : Prop where
  m : mg "PARTS_AT" = some (.ref pa)
  is : ∀ u : W, KDct K w pa u.str (.int (u.pos : Int))
/-- head_of, parts_of -/
def spHead : Sp := fun vs H Q _ => ∃ (t : Tm) (v : V), vs = [v] ∧ TmAt H t v ∧ ∀ (r : Addr) (H' : Hp), Same H H' → H' r = some (.tup t.head) → Q (.ref r) H'
def spPartsOf : Sp := fun vs H Q _ => ∃ (t : Tm) (v : V), vs = [v] ∧ TmAt H t v ∧ ∀ (r : Addr) (ws : List V) (H' : Hp), Same H H' → H' r = some (.tup ws) → TmsAt H' t.parts ws → Q (.ref r) H'
abbrev s_head_of : Stmt := topS 6
theorem sc_head_of : FnScope ["term"] ["term"] (defScope s_head_of) := ⟨rfl, rfl, rfl, by decide +kernel, rfl, by decide +kernel, by decide +kernel⟩
abbrev s_parts_of : Stmt := topS 7
theorem sc_parts_of : FnScope ["term"] ["term"] (defScope s_parts_of) := ⟨rfl, rfl, rfl, by decide +kernel, rfl, by decide +kernel, by decide +kernel⟩
section
variable {P : Program} {w : World} {K : PySem.W.Frag} {mg : Str → Option Value} {base : Heap} {pa f f1 f2 f3 f4 f5 f6 f7 f8 : Addr} {fd fd1 fd2 fd3 fd4 fd5 fd6 fd7 fd8 : FuncData}
theorem ok_head_of (F : Fun K "head_of" "head_of" s_head_of f fd) (Z : KParts K w mg pa) : FnOk P w K mg base CX0 1 f fd ["term"] spHead := by
  refine F.ok sc_head_of (fun vs H Q E h => ?_) (fun cdv A outer s H vs Q E hr h => ?_)
  · obtain ⟨t, v, rfl, _⟩ := h
    rfl
  obtain ⟨t, v, rfl, ht, q⟩ := h
  obtain ⟨p, vs, rfl, hp, hvs⟩ := ht.open
  refine ⟨_, (pss_one (ps_ret (pe_slice sl_tupA (pv 0) po_none (po_some (pe_ix ix_kdict (pe_glob (v := V.ref pa) rfl Z.m rfl) (pe_ix ix_tup (pv 0) pe_int (fun _ _ => rfl)) (fun _ _ => rfl)))))), ?_⟩
  refine ⟨_, rfl, ?_⟩
  unfold tNoPart
  have hp' := hp
  rw [t.head_eq] at hp'
  refine ⟨_, rfl, p, _, _, _, rfl, rfl, SqT.of hp', atI_n (n := 0) rfl rfl, pa, _, _, rfl, rfl, Z.is t.w, _, rfl, ?_⟩
  rw [← t.head_len]
  show rSlA K (V.ref p) none (some ((t.head.length : Nat) : Int)) _ _
  refine slA_to hp (by rw [List.length_append]; omega) fun r H' e hr => q r H' e ?_
  rw [hr, List.take_left]
theorem ok_parts_of (F : Fun K "parts_of" "parts_of" s_parts_of f fd) (Z : KParts K w mg pa) : FnOk P w K mg base CX0 1 f fd ["term"] spPartsOf := by
  refine F.ok sc_parts_of (fun vs H Q E h => ?_) (fun cdv A outer s H vs Q E hr h => ?_)
  · obtain ⟨t, v, rfl, _⟩ := h
    rfl
  obtain ⟨t, v, rfl, ht, q⟩ := h
  obtain ⟨p, vs, rfl, hp, hvs⟩ := ht.open
  refine ⟨_, (pss_one (ps_ret (pe_slice sl_tupA (pv 0) (po_some (pe_ix ix_kdict (pe_glob (v := V.ref pa) rfl Z.m rfl) (pe_ix ix_tup (pv 0) pe_int (fun _ _ => rfl)) (fun _ _ => rfl))) po_none))), ?_⟩
  refine ⟨_, rfl, ?_⟩
  have hp' := hp
  rw [t.head_eq] at hp'
  refine ⟨_, rfl, p, _, _, _, rfl, rfl, SqT.of hp', atI_n (n := 0) rfl rfl, pa, _, _, rfl, rfl, Z.is t.w, _, rfl, ?_⟩
  unfold tNoPart
  rw [← t.head_len]
  show rSlA K (V.ref p) (some ((t.head.length : Nat) : Int)) none _ _
  refine slA_from hp (by rw [List.length_append]; omega) fun r H' e hr => q r vs H' e ?_ (hvs.mono (.of_same e))
  rw [hr, List.drop_left]
end

/-! ### the key of a term -/
def vk : V → NestedKey
  | .int i => .num i
  | .str x => .text x
  | _ => .none
theorem Tm.head_key (H : Hp) (t : Tm) : KAll H (t.head.map vk) t.head := by
  cases t with
  | num n => exact .cons (.str _) (.cons (.int _) .nil)
  | name n => exact .cons (.str _) (.cons (.str _) .nil)
  | bin o a b => exact .cons (.str _) .nil
  | cond c a b => exact .cons (.str _) .nil
  | letx n a b => exact .cons (.str _) (.cons (.str _) .nil)
  | turns k n a b => exact .cons (.str _) (.cons (.int _) (.cons (.str _) .nil))
  | deff f n k a b => exact .cons (.str _) (.cons (.str _) (.cons (.str _) (.cons (.str _) .nil)))
  | use f a => exact .cons (.str _) (.cons (.str _) .nil)
  | un o a => exact .cons (.str _) .nil
theorem Tm.head_flat (t : Tm) : NestedKey.depthAll (t.head.map vk) = 0 := by
  cases t <;> rfl
theorem depthAll_snoc (k : NestedKey) : ∀ ks : List NestedKey, NestedKey.depthAll (ks ++ [k]) = max (NestedKey.depthAll ks) k.depth
  | [] => by show max k.depth 0 = max 0 k.depth; omega
  | a :: ks => by
    show max a.depth (NestedKey.depthAll (ks ++ [k])) = max (max a.depth (NestedKey.depthAll ks)) k.depth
    rw [depthAll_snoc k ks]
    omega
theorem Tm.part_deep {t u : Tm} (h : u ∈ t.parts) : u.deep < t.deep := by
  cases t <;> simp only [Tm.parts, List.mem_cons, List.not_mem_nil, or_false] at h <;> simp only [Tm.deep]
  all_goals first
    | exact h.elim
    | (rcases h with rfl | rfl | rfl <;> omega)
    | (rcases h with rfl | rfl <;> omega)
    | (subst h; omega)
theorem TmsAt.at {H : Hp} : ∀ {ts : List Tm} {vs : List V} {i : Nat} {v : V}, TmsAt H ts vs → vs[i]? = some v → ∃ t, ts[i]? = some t ∧ TmAt H t v
  | [], [], _, _, _, e => by simp at e
  | t :: ts, v :: vs, 0, _, ⟨h, _⟩, e => by
    simp only [List.getElem?_cons_zero, Option.some.injEq] at e
    subst e
    exact ⟨t, rfl, h⟩
  | t :: ts, v :: vs, i + 1, _, ⟨_, r⟩, e => by
    simp only [List.getElem?_cons_succ] at e
    obtain ⟨u, h1, h2⟩ := TmsAt.at r e
    exact ⟨u, by simpa using h1, h2⟩
  | [], _ :: _, _, _, h, _ => h.elim
  | _ :: _, [], _, _, h, _ => h.elim
theorem TmsAt.side {H : Hp} {ts : List Tm} {vs : List V} {side : Int} (h : TmsAt H ts vs) (ne : vs ≠ []) (hs : side = 0 ∨ side = -1) : ∃ u v, u ∈ ts ∧ atI vs side = some v ∧ TmAt H u v := by
  have hl : 0 < vs.length := List.length_pos_iff.mpr ne
  rcases hs with rfl | rfl
  · obtain ⟨t, e, ht⟩ := h.at (i := 0) (List.getElem?_eq_getElem hl)
    exact ⟨t, _, List.mem_of_getElem? e, atI_n (n := 0) rfl (List.getElem?_eq_getElem hl), ht⟩
  · have hk : vs.length - 1 < vs.length := by omega
    obtain ⟨t, e, ht⟩ := h.at (i := vs.length - 1) (List.getElem?_eq_getElem hk)
    refine ⟨t, _, List.mem_of_getElem? e, ?_, ht⟩
    unfold atI ixN
    rw [if_neg (by decide), if_pos (by omega), show (-1 + (vs.length : Int)).toNat = vs.length - 1 by omega]
    exact List.getElem?_eq_getElem hk
def spEdge : Sp := fun vs H Q _ => ∃ (t : Tm) (v : V) (side : Int), vs = [v, .int side] ∧ (side = 0 ∨ side = -1) ∧ TmAt H t v ∧ t.deep ≤ 60 ∧ ∀ (r : Addr) (H' : Hp) (k : NestedKey), Same H H' → KAt H' k (.ref r) → k.depth ≤ 2 → Q (.ref r) H'
def spEnds : Sp := fun vs H Q _ => ∃ (t : Tm) (v : V), vs = [v] ∧ TmAt H t v ∧ t.deep ≤ 60 ∧ ∀ (r : Addr) (H' : Hp) (k : NestedKey), Same H H' → KAt H' k (.ref r) → k.depth ≤ 8 → Q (.ref r) H'
abbrev s_edge_of : Stmt := topS 11
theorem sc_edge_of : FnScope ["term", "side", "heads", "parts"] ["term", "side"] (defScope s_edge_of) := ⟨rfl, rfl, rfl, by decide +kernel, rfl, by decide +kernel, by decide +kernel⟩
abbrev s_ends_of : Stmt := topS 10
theorem sc_ends_of : FnScope ["term"] ["term"] (defScope s_ends_of) := ⟨rfl, rfl, rfl, by decide +kernel, rfl, by decide +kernel, by decide +kernel⟩
section
variable {P : Program} {w : World} {K : PySem.W.Frag} {mg : Str → Option Value} {base : Heap} {pa f f1 f2 f3 f4 f5 f6 f7 f8 : Addr} {fd fd1 fd2 fd3 fd4 fd5 fd6 fd7 fd8 : FuncData}
theorem ok_edge_of (F : Fun K "edge_of" "edge_of" s_edge_of f fd) (T : Txt mg) (C_head_of : Cal P w K mg base "head_of" ["term"] 1 spHead f1 fd1) (C_parts_of : Cal P w K mg base "parts_of" ["term"] 1 spPartsOf f2 fd2) :
    FnOk P w K mg base CX0 2 f fd ["term", "side"] spEdge := by
  refine F.ok sc_edge_of (fun vs H Q E h => ?_) (fun cdv A outer s H vs Q E hr h => ?_)
  · obtain ⟨t, v, side, rfl, _⟩ := h
    rfl
  obtain ⟨t, v, side, rfl, hside, ht, h60, q⟩ := h
  refine ⟨_, (pss_cons (ps_set (i := 2) sc_edge_of.nd rfl (Or.inl rfl) (pe_lst (pa_cons (pe_call C_head_of.ok (hr.mono (by first | decide | omega)) rfl C_head_of.m C_head_of.kp C_head_of.b .nil pass0 (pa_cons (pv 0) pa_nil)) pa_nil)))
      (pss_cons (ps_set (i := 3) sc_edge_of.nd rfl (Or.inl rfl) (pe_call C_parts_of.ok (hr.mono (by first | decide | omega)) rfl C_parts_of.m C_parts_of.kp C_parts_of.b .nil pass0 (pa_cons (pv 0) pa_nil)))
      (pss_cons (ps_while PassesOwn.never (pt_truth (pv 3) (by intro _; rfl)) (pss_cons (ps_expr (pe_bm PySem.F.plainAttrs_list PySem.F.slot_list_append PySem.F.type_list_append mt_append (pv 2) (pa_cons (pe_call C_head_of.ok (hr.mono (by first | decide | omega)) rfl C_head_of.m C_head_of.kp C_head_of.b .nil pass0 (pa_cons (pe_ix ix_tup (pv 3) (pv 1) (fun _ _ => rfl)) pa_nil)) pa_nil)))
      (pss_one (ps_set (i := 3) sc_edge_of.nd rfl (Or.inl rfl) (pe_call C_parts_of.ok (hr.mono (by first | decide | omega)) rfl C_parts_of.m C_parts_of.kp C_parts_of.b .nil pass0 (pa_cons (pe_ix ix_tup (pv 3) (pv 1) (fun _ _ => rfl)) pa_nil))))))
      (pss_one (ps_ret (pe_callTy call_tuple_of (by rfl) T.tuple (by decide +kernel) (pa_cons (pv 2) pa_nil))))))), ?_⟩
  refine ⟨_, rfl, t, v, rfl, ht, fun r1 H1 e1 h1 => ⟨sz 1, fun l nl => ?_⟩⟩
  have l0 : H l = none := e1.free nl
  have s1 := same_new nl (.lst [V.ref r1])
  refine ⟨_, rfl, t, v, rfl, ht.mono (.of_same (e1.trans s1)), fun r2 ws H2 e2 h2 hws => ?_⟩
  refine ⟨fun m σ H' => ∃ (u : Tm) (ws : List V) (pr : Addr) (hs : List V) (ks : List NestedKey), σ = [some v, some (.int side), some (.ref l), some (.ref pr)] ∧ Same H H' ∧ H' l = some (.lst hs) ∧ KAll H' ks hs ∧ NestedKey.depthAll ks ≤ 1 ∧
      H' pr = some (.tup ws) ∧ TmsAt H' u.parts ws ∧ m = u.deep ∧ hs.length + u.deep ≤ 61, ?_, ?_⟩
  · refine ⟨_, t, ws, r2, [.ref r1], [.tup (t.head.map vk)], rfl, e1.trans (s1.trans e2), e2 _ _ upd_same, .cons (.tup (e2 _ _ (s1 _ _ h1)) (t.head_key _)) .nil, ?_, h2, hws, rfl, by show 1 + t.deep ≤ 61; omega⟩
    show max (NestedKey.depthAll (t.head.map vk) + 1) 0 ≤ 1
    rw [t.head_flat]
    decide
  rintro m σ H' ⟨u, us, pr, hs, ks, rfl, g, hl, hk, hd, hp, hu, rfl, hz⟩
  refine ⟨_, rfl, _, .inr (.inl ⟨us, SqT.of hp, rfl⟩), ite2 (fun c => ?_) fun c => ?_⟩
  · have ne : us ≠ [] := fun z => by rw [z] at c; cases c
    obtain ⟨u1, v1, hm, ha, hv⟩ := hu.side ne hside
    have dp := Tm.part_deep hm
    refine ⟨fun σ' H' => ∃ m', m' < u.deep ∧ ∃ (u : Tm) (ws : List V) (pr : Addr) (hs : List V) (ks : List NestedKey), σ' = [some v, some (.int side), some (.ref l), some (.ref pr)] ∧ Same H H' ∧ H' l = some (.lst hs) ∧ KAll H' ks hs ∧ NestedKey.depthAll ks ≤ 1 ∧
      H' pr = some (.tup ws) ∧ TmsAt H' u.parts ws ∧ m' = u.deep ∧ hs.length + u.deep ≤ 61, fun _ _ z => z, ?_⟩
    refine ⟨_, rfl, .inl ⟨rfl, _, SqL.of hl⟩, _, rfl, _, rfl, pr, _, _, v1, rfl, rfl, SqT.of hp, ha, u1, v1, rfl, hv, fun r3 H3 e3 h3 => ?_⟩
    refine ⟨l, _, _, rfl, rfl, e3 _ _ hl, small1000 (by omega), ?_⟩
    have g3 : Same H (upd H3 l (.lst (hs ++ [V.ref r3]))) := fun b o z => by
      rw [upd_ne (ne_of_none z l0)]
      exact e3 _ _ (g _ _ z)
    have t3 : Tups H3 (upd H3 l (.lst (hs ++ [V.ref r3]))) := fun b xs z => by
      rw [upd_ne (ne_of z (e3 _ _ hl) (by intro y; cases y))]
      exact z
    have t4 : Tups H' (upd H3 l (.lst (hs ++ [V.ref r3]))) := (Tups.of_same e3).trans t3
    have l3 : upd H3 l (.lst (hs ++ [V.ref r3])) l = some (.lst (hs ++ [V.ref r3])) := upd_same
    generalize upd H3 l (.lst (hs ++ [V.ref r3])) = H4 at g3 t3 t4 l3 ⊢
    refine ⟨_, rfl, _, rfl, pr, _, _, v1, rfl, rfl, SqT.of (t4 _ _ hp), ha, u1, v1, rfl, hv.mono t4, fun r5 ws5 H5 e5 h5 hw5 => ?_⟩
    refine ⟨_, dp, u1, ws5, r5, _, ks ++ [.tup (u1.head.map vk)], rfl, g3.trans e5, e5 _ _ l3, KAll.snoc (.tup (e5 _ _ (t3 _ _ h3)) (u1.head_key _)) (KAll.mono (t4.trans (.of_same e5)) _ _ hk), ?_, h5, hw5, rfl, ?_⟩
    · rw [depthAll_snoc]
      show max _ (NestedKey.depthAll (u1.head.map vk) + 1) ≤ 1
      rw [u1.head_flat]
      omega
    · rw [List.length_append, List.length_singleton]
      omega
  · refine ⟨_, rfl, l, _, rfl, .inl ⟨SqL.of hl, fun r nr => ?_⟩⟩
    have sr := same_new nr (.tup hs)
    refine q r _ (.tup ks) (g.trans sr) (.tup upd_same (KAll.mono (.of_same sr) _ _ hk)) ?_
    show NestedKey.depthAll ks + 1 ≤ 2
    omega
theorem ok_ends_of (F : Fun K "ends_of" "ends_of" s_ends_of f fd) (C_edge_of : Cal P w K mg base "edge_of" ["term", "side"] 2 spEdge f1 fd1) : FnOk P w K mg base CX0 3 f fd ["term"] spEnds := by
  refine F.ok sc_ends_of (fun vs H Q E h => ?_) (fun cdv A outer s H vs Q E hr h => ?_)
  · obtain ⟨t, v, rfl, _⟩ := h
    rfl
  obtain ⟨t, v, rfl, ht, h60, q⟩ := h
  refine ⟨_, (pss_one (ps_ret (pe_tup (pa_cons (pe_call C_edge_of.ok (hr.mono (by first | decide | omega)) rfl C_edge_of.m C_edge_of.kp C_edge_of.b .nil pass0 (pa_cons (pv 0) (pa_cons pe_int pa_nil))) (pa_cons (pe_call C_edge_of.ok (hr.mono (by first | decide | omega)) rfl C_edge_of.m C_edge_of.kp C_edge_of.b .nil pass0 (pa_cons (pv 0) (pa_cons (pe_un un_neg pe_int) pa_nil))) pa_nil))))), ?_⟩
  refine ⟨_, rfl, t, v, 0, rfl, .inl rfl, ht, h60, fun r1 H1 k1 e1 h1 d1 => ?_⟩
  refine ⟨_, rfl, _, rfl, t, v, -1, rfl, .inr rfl, ht.mono (.of_same e1), h60, fun r2 H2 k2 e2 h2 d2 => ⟨sz 2, fun r nr => ?_⟩⟩
  have sr := same_new nr (.tup [V.ref r1, .ref r2])
  refine q r _ (.tup [k1, k2]) (e1.trans (e2.trans sr)) (.tup upd_same (.cons (KAt.mono (.of_same (e2.trans sr)) _ _ h1) (.cons (KAt.mono (.of_same sr) _ _ h2) .nil))) ?_
  show max k1.depth (max k2.depth 0) + 1 ≤ 8
  omega
end

/-! ### the table of rows: what holds of it between two calls -/
def nats (ps : List Nat) : List V := ps.map fun (n : Nat) => V.int (n : Int)
theorem nats_snoc (ps : List Nat) (k : Nat) : nats ps ++ [.int (k : Int)] = nats (ps ++ [k]) := by
  unfold nats
  rw [List.map_append]
  rfl
/-- for each part the place of its row, ahead of i -/
def PlacesOf (ts : List Tm) (i : Nat) : List Tm → List Nat → Prop
  | [], [] => True
  | t :: r, p :: ps => (p < i ∧ ts[p]? = some t) ∧ PlacesOf ts i r ps
  | _, _ => False
theorem PlacesOf.mono {ts more : List Tm} {i j : Nat} (h : i ≤ j) : ∀ {r : List Tm} {ps : List Nat}, PlacesOf ts i r ps → PlacesOf (ts ++ more) j r ps
  | [], [], _ => True.intro
  | _ :: _, _ :: _, ⟨⟨a, b⟩, c⟩ => ⟨⟨Nat.lt_of_lt_of_le a h, List.getElem?_append_left (List.getElem?_eq_some_iff.mp b).1 ▸ b⟩, PlacesOf.mono h c⟩
  | [], _ :: _, h => h.elim
  | _ :: _, [], h => h.elim
theorem PlacesOf.snoc {ts : List Tm} {i p : Nat} {t : Tm} (h1 : p < i) (h2 : ts[p]? = some t) : ∀ {r : List Tm} {ps : List Nat}, PlacesOf ts i r ps → PlacesOf ts i (r ++ [t]) (ps ++ [p])
  | [], [], _ => ⟨⟨h1, h2⟩, True.intro⟩
  | _ :: _, _ :: _, ⟨a, c⟩ => ⟨a, PlacesOf.snoc h1 h2 c⟩
  | [], _ :: _, h => h.elim
  | _ :: _, [], h => h.elim
theorem PlacesOf.len {ts : List Tm} {i : Nat} : ∀ {r : List Tm} {ps : List Nat}, PlacesOf ts i r ps → ps.length = r.length
  | [], [], _ => rfl
  | _ :: _, _ :: _, ⟨_, c⟩ => congrArg (· + 1) (PlacesOf.len c)
  | [], _ :: _, h => h.elim
  | _ :: _, [], h => h.elim
theorem rk_ : ¬ (("rows" : Str) = "known") := by decide +kernel
theorem kr_ : ¬ (("known" : Str) = "rows") := by decide +kernel
def pf (R D : Addr) : List (Str × V) := putF "known" (.ref D) (putF "rows" (.ref R) [])
theorem pf_rows (R D : Addr) : (pf R D).lookup ("rows" : Str) = some (.ref R) := by
  unfold pf
  rw [lookup_putF, if_neg rk_, lookup_putF, if_pos rfl]
theorem pf_known (R D : Addr) : (pf R D).lookup ("known" : Str) = some (.ref D) := by
  unfold pf
  rw [lookup_putF, if_pos rfl]
theorem pf_no (R D : Addr) {m : Str} (h1 : ¬ m = "known") (h2 : ¬ m = "rows") : (pf R D).lookup m = none := by
  unfold pf
  rw [lookup_putF, if_neg h1, lookup_putF, if_neg h2]
  all_goals rfl
/-- rows of the terms ts in the list at R; the lists of places are among Ps -/
def RowsAt (H : Hp) (R : Addr) (ts : List Tm) (Ps : List Addr) : Prop := ∃ rs : List V, H R = some (.lst rs) ∧ rs.length = ts.length ∧ ∀ (i : Nat) (t : Tm), ts[i]? = some t →
  ∃ (r h pl : Addr) (ps : List Nat), rs[i]? = some (.ref r) ∧ H r = some (.tup [.ref h, .ref pl]) ∧ H h = some (.tup t.head) ∧ H pl = some (.lst (nats ps)) ∧ pl ∈ Ps ∧ PlacesOf ts i t.parts ps
/-- a list of pairs of a term and its place -/
def AlikeAt (H : Hp) (L : Addr) (ts : List Tm) : Prop := ∃ items : List V, H L = some (.lst items) ∧ items.length ≤ ts.length ∧ ∀ it ∈ items, ∃ (q : Addr) (v : V) (k : Nat) (t : Tm), it = .ref q ∧ H q = some (.tup [v, .int (k : Int)]) ∧ TmAt H t v ∧ t.Ok ∧ t.deep ≤ 60 ∧ ts[k]? = some t
structure Tab (P : Program) (w : World) (C : Addr) (H : Hp) (tb R D : Addr) (ts : List Tm) (Ls Ps : List Addr) (cnt : Nat) : Prop where
  ins : ∃ dx, H tb = some (.ins C dx (pf R D))
  rows : RowsAt H R ts Ps
  dict : ∃ xs : NE, IsNx P w H D xs ∧ xs.length ≤ cnt ∧ ∀ e ∈ xs, (KAt H e.1 (.ref e.2.1) ∧ e.1.depth ≤ 8) ∧ e.2.2 ∈ Ls
  alike : ∀ L ∈ Ls, AlikeAt H L ts
  plist : ∀ p ∈ Ps, ∃ ys, H p = some (.lst ys)
  nRL : R ∉ Ls
  nRP : R ∉ Ps
  nLP : ∀ L ∈ Ls, L ∉ Ps
/-- tuples stay, and the table's own lists -/
def Keeps (R : Addr) (Ls Ps : List Addr) (H H' : Hp) : Prop := ∀ b o, H b = some o → (b = R ∨ b ∈ Ls ∨ b ∈ Ps ∨ ∃ ys, o = .tup ys) → H' b = some o
section
variable {P : Program} {w : World} {C : Addr} {H H' H1 : Hp} {tb R D : Addr} {ts ts' : List Tm} {Ls Ps Ls' Ps' : List Addr} {cnt : Nat}
theorem Keeps.tups (e : Keeps R Ls Ps H H') : Tups H H' := fun b xs h => e b _ h (.inr (.inr (.inr ⟨_, rfl⟩)))
theorem AlikeAt.keep {L : Addr} (e : Keeps R Ls Ps H H') (hL : L ∈ Ls) (h : AlikeAt H L ts) : AlikeAt H' L ts := by
  obtain ⟨items, h1, h2, h3⟩ := h
  refine ⟨items, e _ _ h1 (.inr (.inl hL)), h2, fun it hit => ?_⟩
  obtain ⟨q, v, k, t, a, b, c, d⟩ := h3 it hit
  exact ⟨q, v, k, t, a, e.tups _ _ b, c.mono e.tups, d⟩
theorem RowsAt.keep (e : Keeps R Ls Ps H H') (h : RowsAt H R ts Ps) : RowsAt H' R ts Ps := by
  obtain ⟨rs, h1, h2, h3⟩ := h
  refine ⟨rs, e _ _ h1 (.inl rfl), h2, fun i t hi => ?_⟩
  obtain ⟨r, hh, pl, ps, a, b, c, d, m, p⟩ := h3 i t hi
  exact ⟨r, hh, pl, ps, a, e.tups _ _ b, e.tups _ _ c, e _ _ d (.inr (.inr (.inl m))), m, p⟩
theorem IsNx.keep {xs : NE} (h : IsNx P w H D xs) (e : ∀ o, H D = some o → H' D = some o) : IsNx P w H' D xs := by
  rcases h with h | ⟨h, z⟩
  · exact .inl (e _ h)
  · exact .inr ⟨e _ h, z⟩
theorem IsNx.some {xs : NE} (h : IsNx P w H D xs) : ∃ o, H D = some o ∧ (∀ ys, o ≠ .lst ys) ∧ (∀ ys, o ≠ .tup ys) ∧ ∀ c d f, o ≠ .ins c d f := by
  rcases h with h | ⟨h, _⟩
  · exact ⟨_, h, fun ys z => (by unfold rawD at z; cases z), fun ys z => (by unfold rawD at z; cases z), fun c d f z => (by unfold rawD at z; cases z)⟩
  · exact ⟨_, h, fun ys z => (by cases z), fun ys z => (by cases z), fun c d f z => (by cases z)⟩
theorem Tab.keep (e : Keeps R Ls Ps H H') (i : ∀ o, H tb = some o → H' tb = some o) (d : ∀ o, H D = some o → H' D = some o) (h : Tab P w C H tb R D ts Ls Ps cnt) : Tab P w C H' tb R D ts Ls Ps cnt := by
  obtain ⟨⟨dx, hi⟩, hr, ⟨xs, hd, hl, hx⟩, ha, hp, n1, n2, n3⟩ := h
  refine ⟨⟨dx, i _ hi⟩, hr.keep e, ⟨xs, hd.keep d, hl, fun x hm => ⟨⟨KAt.mono e.tups _ _ (hx x hm).1.1, (hx x hm).1.2⟩, (hx x hm).2⟩⟩, fun L hL => (ha L hL).keep e hL, fun p hm => ?_, n1, n2, n3⟩
  obtain ⟨ys, q⟩ := hp p hm
  exact ⟨ys, e _ _ q (.inr (.inr (.inl hm)))⟩
theorem Tab.more {c : Nat} (h : Tab P w C H tb R D ts Ls Ps cnt) (l : cnt ≤ c) : Tab P w C H tb R D ts Ls Ps c := by
  obtain ⟨hi, hr, ⟨xs, hd, hl, hx⟩, ha, hp, n1, n2, n3⟩ := h
  exact ⟨hi, hr, ⟨xs, hd, Nat.le_trans hl l, hx⟩, ha, hp, n1, n2, n3⟩
theorem Keeps.of_same (e : Same H H') : Keeps R Ls Ps H H' := fun b o h _ => e b o h
theorem Tab.same (e : Same H H') (h : Tab P w C H tb R D ts Ls Ps cnt) : Tab P w C H' tb R D ts Ls Ps cnt := h.keep (.of_same e) (fun o q => e _ o q) fun o q => e _ o q
/-- a list that is none of the table's is written -/
theorem Keeps.put {x : Addr} {ys zs : List V} (hx : H x = some (.lst ys)) (n1 : x ≠ R) (n2 : x ∉ Ls) (n3 : x ∉ Ps) : Keeps R Ls Ps H (upd H x (.lst zs)) := fun b o h q => by
  rw [upd_ne ?_]
  · exact h
  · rintro rfl
    rw [hx] at h
    cases h
    rcases q with q | q | q | q
    · exact n1 q
    · exact n2 q
    · exact n3 q
    · obtain ⟨_, z⟩ := q
      cases z
/-- behind some calls: the table has more rows, nothing else has changed but its own lists and dict -/
structure Step (P : Program) (w : World) (C tb R D : Addr) (H H' : Hp) (ts : List Tm) (Ls Ps : List Addr) (ts' : List Tm) (Ls' Ps' : List Addr) (cnt' : Nat) : Prop where
  tab : Tab P w C H' tb R D ts' Ls' Ps' cnt'
  pre : ∃ more, ts' = ts ++ more
  subL : ∀ L ∈ Ls, L ∈ Ls'
  frame : ∀ b o, H b = some o → b ≠ R → b ≠ D → b ∉ Ls → H' b = some o
  newL : ∀ b ∈ Ls', b ∈ Ls ∨ H b = none
  newP : ∀ b ∈ Ps', b ∈ Ps ∨ H b = none
theorem Step.refl (h : Tab P w C H tb R D ts Ls Ps cnt) : Step P w C tb R D H H ts Ls Ps ts Ls Ps cnt := ⟨h, ⟨[], by simp⟩, fun _ h => h, fun _ _ h _ _ _ => h, fun _ h => .inl h, fun _ h => .inl h⟩
/-- what is free behind was free ahead -/
theorem Step.free {x : Addr} (a : Step P w C tb R D H H1 ts Ls Ps ts' Ls' Ps' cnt) (q : H1 x = none) : H x = none := by
  cases e : H x with
  | none => rfl
  | some o =>
    by_cases hx : x ∈ Ls
    · obtain ⟨it, z, _⟩ := a.tab.alike x (a.subL x hx)
      rw [z] at q
      cases q
    by_cases hR : x = R
    · obtain ⟨rs, z, _⟩ := a.tab.rows
      rw [hR, z] at q
      cases q
    by_cases hD : x = D
    · obtain ⟨xs, z, _⟩ := a.tab.dict
      rcases z with z | ⟨z, _⟩ <;> rw [hD, z] at q <;> cases q
    rw [a.frame x o e hR hD hx] at q
    cases q
theorem Step.tups (T : Tab P w C H tb R D ts Ls Ps cnt) {c : Nat} (a : Step P w C tb R D H H1 ts Ls Ps ts' Ls' Ps' c) : Tups H H1 := fun b ys z => a.frame b _ z
  (fun y => by obtain ⟨rs, y1, _⟩ := T.rows; rw [y, y1] at z; cases z)
  (fun y => by obtain ⟨xs, hd, _⟩ := T.dict; obtain ⟨o, y1, _, y2, _⟩ := hd.some; rw [y, y1] at z; exact y2 _ (Option.some.inj z))
  (fun y => by obtain ⟨it, y1, _⟩ := T.alike _ y; rw [y1] at z; cases z)
theorem Step.trans {ts1 : List Tm} {Ls1 Ps1 : List Addr} {c1 c2 : Nat} (a : Step P w C tb R D H H1 ts Ls Ps ts1 Ls1 Ps1 c1) (b : Step P w C tb R D H1 H' ts1 Ls1 Ps1 ts' Ls' Ps' c2) : Step P w C tb R D H H' ts Ls Ps ts' Ls' Ps' c2 where
  tab := b.tab
  pre := by
    obtain ⟨m, e⟩ := a.pre
    obtain ⟨n, e'⟩ := b.pre
    exact ⟨m ++ n, by rw [e', e, List.append_assoc]⟩
  subL := fun L h => b.subL L (a.subL L h)
  frame := fun x o h n1 n2 n3 => b.frame x o (a.frame x o h n1 n2 n3) n1 n2 fun z => (a.newL x z).elim n3 fun q => by rw [h] at q; cases q
  newL := fun x h => (b.newL x h).elim (a.newL x) fun q => .inr (a.free q)
  newP := fun x h => (b.newP x h).elim (a.newP x) fun q => .inr (a.free q)
theorem Step.same (a : Step P w C tb R D H H1 ts Ls Ps ts' Ls' Ps' cnt) (e : Same H1 H') : Step P w C tb R D H H' ts Ls Ps ts' Ls' Ps' cnt :=
  ⟨a.tab.same e, a.pre, a.subL, fun b o h n1 n2 n3 => e _ _ (a.frame b o h n1 n2 n3), a.newL, a.newP⟩
theorem Step.more {c : Nat} (a : Step P w C tb R D H H1 ts Ls Ps ts' Ls' Ps' cnt) (l : cnt ≤ c) : Step P w C tb R D H H1 ts Ls Ps ts' Ls' Ps' c := ⟨a.tab.more l, a.pre, a.subL, a.frame, a.newL, a.newP⟩
/-- a list that is none of the table's and was not there is written -/
theorem Step.put {x : Addr} {ys zs : List V} (a : Step P w C tb R D H H1 ts Ls Ps ts' Ls' Ps' cnt) (hx : H1 x = some (.lst ys)) (h0 : H x = none) (n1 : x ≠ R) (n2 : x ∉ Ls') (n3 : x ∉ Ps') : Step P w C tb R D H (upd H1 x (.lst zs)) ts Ls Ps ts' Ls' Ps' cnt := by
  refine ⟨a.tab.keep (.put hx n1 n2 n3) (fun o q => ?_) (fun o q => ?_), a.pre, a.subL, fun b o h m1 m2 m3 => ?_, a.newL, a.newP⟩
  · obtain ⟨dx, z⟩ := a.tab.ins
    rw [upd_ne (ne_of z hx (by intro y; cases y))]
    exact q
  · obtain ⟨xs, z, _⟩ := a.tab.dict
    obtain ⟨o', z1, z2, _⟩ := z.some
    rw [upd_ne (ne_of z1 hx (z2 _))]
    exact q
  · rw [upd_ne (ne_of_none h h0)]
    exact a.frame b o h m1 m2 m3
end
/-- the terms behind a place_of: n calls, one within another -/
def spPlace (P : Program) (w : World) (C : Addr) (n : Nat) : Sp := fun vs H Q _ => ∃ (tb R D : Addr) (ts : List Tm) (Ls Ps : List Addr) (cnt : Nat) (t : Tm) (v : V), vs = [.ref tb, v] ∧ Tab P w C H tb R D ts Ls Ps cnt ∧ TmAt H t v ∧ t.Ok ∧ t.deep ≤ n ∧ t.deep ≤ 60 ∧
  ts.length + t.size ≤ 900000 ∧ cnt + t.size ≤ 900000 ∧
  ∀ (k : Nat) (ts' : List Tm) (Ls' Ps' : List Addr) (H' : Hp), Step P w C tb R D H H' ts Ls Ps ts' Ls' Ps' (cnt + t.size) → ts'.length ≤ ts.length + t.size → ts'[k]? = some t → (k < ts.length ∨ k + 1 = ts'.length) → (∀ u ∈ ts', u ∈ ts ∨ u.size ≤ t.size) → Q (.int (k : Int)) H'
abbrev s_TermTable_init : Stmt := inClass (topS 9) 0
theorem sc_TermTable_init : FnScope ["self"] ["self"] (defScope s_TermTable_init) := ⟨rfl, rfl, rfl, by decide +kernel, rfl, by decide +kernel, by decide +kernel⟩
abbrev s_TermTable_place_of : Stmt := inClass (topS 9) 1
theorem sc_TermTable_place_of : FnScope ["self", "term", "alike", "other", "place", "places", "part"] ["self", "term"] (defScope s_TermTable_place_of) := ⟨rfl, rfl, rfl, by decide +kernel, rfl, by decide +kernel, by decide +kernel⟩
abbrev s_rows_of : Stmt := topS 8
theorem sc_rows_of : FnScope ["term", "table"] ["term"] (defScope s_rows_of) := ⟨rfl, rfl, rfl, by decide +kernel, rfl, by decide +kernel, by decide +kernel⟩

structure TxtC (K : PySem.W.Frag) (C : Addr) : Prop where
  cl : Cls K C
  nR : NoAttr K C "rows"
  nK : NoAttr K C "known"
/-- a method that keeps a promise -/
structure CalM (P : Program) (w : World) (K : PySem.W.Frag) (mg : Str → Option Value) (base : Heap) (C : Addr) (x : Str) (ps : List Str) (k : Nat) (sp : Sp) (f : Addr) (fd : FuncData) : Prop where
  ok : FnOk P w K mg base CX0 k f fd ps sp
  m : Meth K C x f
  b : Binds K fd ps []
def spTabInit (P : Program) (w : World) (C : Addr) : Sp := fun vs H Q _ => ∃ (p dx : Addr), vs = [.ref p] ∧ H p = some (.ins C dx []) ∧
  ∀ (R D : Addr) (H' : Hp), (∀ b o, b ≠ p → H b = some o → H' b = some o) → Tab P w C H' p R D [] [] [] 0 → H R = none → H D = none → Q .non H'
section
variable {P : Program} {w : World} {K : PySem.W.Frag} {mg : Str → Option Value} {base : Heap} {pa C f f1 f2 f3 f4 f5 f6 f7 f8 : Addr} {fd fd1 fd2 fd3 fd4 fd5 fd6 fd7 fd8 : FuncData}
theorem ok_tab_init (F : Fun K "__init__" "TermTable.__init__" s_TermTable_init f fd) (TC : TxtC K C) : FnOk P w K mg base CX0 1 f fd ["self"] (spTabInit P w C) := by
  refine F.ok sc_TermTable_init (fun vs H Q E h => ?_) (fun cdv A outer s H vs Q E hr h => ?_)
  · obtain ⟨p, dx, rfl, _⟩ := h
    rfl
  obtain ⟨p, dx, rfl, hp, q⟩ := h
  refine ⟨_, (pss_cons (ps_fld (pv 0) (pe_lst pa_nil) rfl)
      (pss_one (ps_fld (pv 0) pe_dnewK rfl))), ?_⟩
  refine ⟨Nat.zero_le _, fun R nR => ?_⟩
  have npR : p ≠ R := ne_of_none hp nR
  refine ⟨_, rfl, p, C, dx, [], rfl, (by rw [upd_ne npR]; exact hp), TC.cl, TC.nR, (by show 0 < 1000; decide), fun D nD => ?_⟩
  have npD : p ≠ D := fun z => by rw [z, upd_same] at nD; cases nD
  have nRD : R ≠ D := fun z => by rw [z, upd_ne npD.symm, upd_same] at nD; cases nD
  have nD0 : H D = none := by
    rw [upd_ne npD.symm, upd_ne nRD.symm] at nD
    exact nD
  refine ⟨_, rfl, p, C, dx, _, rfl, (by rw [upd_ne npD]; exact upd_same), TC.cl, TC.nK, (by show 1 < 1000; decide), ?_⟩
  refine q R D _ (fun b o n e => ?_) ?_ nR nD0
  · rw [upd_ne n, upd_ne (ne_of_none e nD0), upd_ne n, upd_ne (ne_of_none e nR)]
    exact e
  · refine ⟨⟨dx, upd_same⟩, ⟨[], ?_, rfl, fun i t h => by simp at h⟩, ⟨[], .inr ⟨?_, rfl⟩, Nat.le_refl _, (fun e h => by cases h)⟩, (fun L h => by cases h), (fun L h => by cases h), (fun h => by cases h), (fun h => by cases h), (fun L h => by cases h)⟩
    · rw [upd_ne npR.symm, upd_ne nRD, upd_ne npR.symm, upd_same]
    · rw [upd_ne npD.symm, upd_same]
theorem ok_place {n : Nat} (F : Fun K "place_of" "TermTable.place_of" s_TermTable_place_of f fd) (T : Txt mg) (TC : TxtC K C)
    (C_ends_of : Cal P w K mg base "ends_of" ["term"] 3 spEnds f1 fd1) (C_head_of : Cal P w K mg base "head_of" ["term"] 1 spHead f2 fd2) (C_parts_of : Cal P w K mg base "parts_of" ["term"] 1 spPartsOf f3 fd3)
    (C_place_of : CalM P w K mg base C "place_of" ["self", "term"] (4 + n) (spPlace P w C n) f fd) : FnOk P w K mg base CX0 (4 + n + 1) f fd ["self", "term"] (spPlace P w C (n + 1)) := by
  refine F.ok sc_TermTable_place_of (fun vs H Q E h => ?_) (fun cdv A outer s H vs Q E hr h => ?_)
  · obtain ⟨tb, R, D, ts, Ls, Ps, cnt, t, v, rfl, _⟩ := h
    rfl
  obtain ⟨tb, R, D, ts, Ls, Ps, cnt, t, v, rfl, hT, ht, hok, hn, h60, hz1, hz2, q⟩ := h
  refine ⟨_, (pss_cut (ps_set (i := 2) sc_TermTable_place_of.nd rfl (Or.inl rfl) (pe_nsetd hr.units (pe_fld (pv 0) rfl) (pe_call C_ends_of.ok (hr.mono (by first | decide | omega)) rfl C_ends_of.m C_ends_of.kp C_ends_of.b .nil pass0 (pa_cons (pv 1) pa_nil)) (pe_lst pa_nil) ⟨rfl, rfl, rfl, rfl⟩))
      (pss_cons (ps_for PassesOwn.never rfl (pi_list (pv 2)) (pg_tup rfl (pgs_cons (pg_name (i := 3) sc_TermTable_place_of.nd rfl (Or.inl rfl)) (pgs_cons (pg_name (i := 4) sc_TermTable_place_of.nd rfl (Or.inl rfl)) pgs_nil))) (pss_one (ps_if (pt_cmpR (op_eqD hr.units) (pv 3) (pv 1) (nomark _)) (pss_one (ps_ret (pv 4))) pss_nil)))
      (pss_cons (ps_setLc (i := 5) (own := [("part", 6)]) (g := (gName 6)) (tt := tYes) (by rfl) sc_TermTable_place_of.nd rfl rfl (sw_true rfl rfl rfl (by decide +kernel)) (pi_tup (pe_call C_parts_of.ok (hr.mono (by first | decide | omega)) rfl C_parts_of.m C_parts_of.kp C_parts_of.b .nil pass0 (pa_cons (pv 1) pa_nil))) (blkOk_by (own := [("part", 6)]) (N := ["self", "term", "alike", "other", "place", "places", "part"]) (sc := defScope s_TermTable_place_of) (by decide +kernel)) (fun _ _ _ _ _ => (pg_name (i := 6) sc_TermTable_place_of.nd rfl (Or.inl rfl))) (fun _ _ _ _ _ => pts_nil) (fun _ _ _ _ _ => (pe_meth (pv 0) TC.cl C_place_of.m C_place_of.ok (hr.mono (by first | decide | omega)) C_place_of.b .nil pass0 (pa_cons (pv 6) pa_nil))))
      (pss_cons (ps_expr (pe_bm PySem.F.plainAttrs_list PySem.F.slot_list_append PySem.F.type_list_append mt_append (pe_fld (pv 0) rfl) (pa_cons (pe_tup (pa_cons (pe_call C_head_of.ok (hr.mono (by first | decide | omega)) rfl C_head_of.m C_head_of.kp C_head_of.b .nil pass0 (pa_cons (pv 1) pa_nil)) (pa_cons (pv 5) pa_nil))) pa_nil)))
      (pss_cons (ps_expr (pe_bm PySem.F.plainAttrs_list PySem.F.slot_list_append PySem.F.type_list_append mt_append (pv 2) (pa_cons (pe_tup (pa_cons (pv 1) (pa_cons (pe_op op_sub (pe_callB call_len_seq (by rfl) T.len PySem.boot_len (pa_cons (pe_fld (pv 0) rfl) pa_nil)) pe_int) pa_nil))) pa_nil)))
      (pss_one (ps_ret (pe_op op_sub (pe_callB call_len_seq (by rfl) T.len PySem.boot_len (pa_cons (pe_fld (pv 0) rfl) pa_nil)) pe_int)))))))), ?_⟩
  obtain ⟨dx, hi⟩ := hT.ins
  obtain ⟨xs, hd, hxl, hx⟩ := hT.dict
  have tpos : 1 ≤ t.size := by cases t <;> simp only [Tm.size] <;> omega
  -- alike = self.known.setdefault(ends_of(term), [])
  refine ⟨fun σ H' => ∃ (al : Addr) (Ls1 : List Addr), σ = [some (.ref tb), some v, some (.ref al), none, none, none, none] ∧ al ∈ Ls1 ∧ Step P w C tb R D H H' ts Ls Ps ts Ls1 Ps (cnt + 1), ?_, ?_⟩
  · refine ⟨_, rfl, tb, C, dx, _, _, rfl, hi, TC.cl, TC.nK, pf_known _ _, D, rfl, ⟨xs, hd⟩, _, rfl, t, v, rfl, ht, h60, fun r H1 k e1 hk hkd => ⟨Nat.zero_le _, fun L nL => ?_⟩⟩
    have s2 := same_new nL (.lst [])
    have e2 : Same H (upd H1 L (.lst [])) := e1.trans s2
    have L0 : H L = none := e1.free nL
    have l2 : upd H1 L (.lst []) L = some (.lst []) := upd_same
    have hk2 := KAt.mono (.of_same s2) _ _ hk
    generalize upd H1 L (.lst []) = H2 at e2 l2 hk2 ⊢
    have hd2 := hd.keep fun o z => e2 _ _ z
    refine ⟨xs, k, r, L, hd2, rfl, rfl, hk2, hkd, fun e he => ⟨KAt.mono (.of_same e2) _ _ (hx e he).1.1, (hx e he).1.2⟩, Nat.lt_of_le_of_lt hxl (Nat.lt_of_le_of_lt (by omega : cnt ≤ 900000) (by decide)), fun c b hm => ?_, ?_⟩
    · exact ⟨b, Ls, rfl, (hx _ hm).2, ((Step.refl hT).same e2).more (Nat.le_succ _)⟩
    · obtain ⟨od, z1, z2, z3, z4⟩ := hd2.some
      have T2 := hT.same e2
      have K3 : ∀ b o, b ≠ D → H2 b = some o → upd H2 D (rawD P w D (xs ++ [(k, r, L)])) b = some o := fun b o nb z => by rw [upd_ne nb]; exact z
      have k3 : Keeps R Ls Ps H2 (upd H2 D (rawD P w D (xs ++ [(k, r, L)]))) := fun b o z y => by
        refine K3 b o ?_ z
        rintro rfl
        rw [z1] at z
        cases z
        rcases y with y | y | y | ⟨ys, y⟩
        · obtain ⟨rs, y1, _⟩ := T2.rows
          rw [← y, z1] at y1
          exact z2 _ (Option.some.inj y1)
        · obtain ⟨it, y1, _⟩ := T2.alike _ y
          rw [z1] at y1
          exact z2 _ (Option.some.inj y1)
        · obtain ⟨it, y1⟩ := T2.plist _ y
          rw [z1] at y1
          exact z2 _ (Option.some.inj y1)
        · exact z3 _ y
      have nLD : L ≠ D := ne_of l2 z1 fun y => z2 _ y.symm
      refine ⟨L, L :: Ls, rfl, List.mem_cons_self, ⟨⟨?_, T2.rows.keep k3, ⟨_, .inl upd_same, by rw [List.length_append]; exact Nat.succ_le_succ hxl, fun e he => ?_⟩, fun L' hL' => ?_, fun p hp => ?_, ?_, T2.nRP, fun L' hL' hP => ?_⟩, ⟨[], by simp⟩, fun L' hL' => List.mem_cons_of_mem _ hL', fun b o z n1 n2 n3 => ?_, fun b hb => ?_, fun b hb => .inl hb⟩⟩
      · obtain ⟨dx', y⟩ := T2.ins
        exact ⟨dx', K3 _ _ (ne_of y z1 fun u => z4 _ _ _ u.symm) y⟩
      · rcases List.mem_append.mp he with he | he
        · exact ⟨⟨KAt.mono ((Tups.of_same e2).trans k3.tups) _ _ (hx e he).1.1, (hx e he).1.2⟩, List.mem_cons_of_mem _ (hx e he).2⟩
        · rw [List.mem_singleton.mp he]
          exact ⟨⟨KAt.mono k3.tups _ _ hk2, hkd⟩, List.mem_cons_self⟩
      · rcases List.mem_cons.mp hL' with rfl | hL'
        · exact ⟨[], K3 _ _ nLD l2, Nat.zero_le _, fun it h => by cases h⟩
        · exact (T2.alike L' hL').keep k3 hL'
      · obtain ⟨ys, y⟩ := T2.plist p hp
        exact ⟨ys, k3 _ _ y (.inr (.inr (.inl hp)))⟩
      · intro y
        rcases List.mem_cons.mp y with y | y
        · obtain ⟨rs, y1, _⟩ := hT.rows
          rw [y, L0] at y1
          cases y1
        · exact T2.nRL y
      · rcases List.mem_cons.mp hL' with rfl | hL'
        · obtain ⟨ys, y⟩ := hT.plist _ hP
          rw [L0] at y
          cases y
        · exact T2.nLP L' hL' hP
      · exact K3 _ _ n2 (e2 _ _ z)
      · rcases List.mem_cons.mp hb with rfl | hb
        · exact .inr L0
        · exact .inl hb
  rintro σ H1 ⟨al, Ls1, rfl, hal, st1⟩
  have ht1 : TmAt H1 t v := ht.mono (st1.tups hT)
  obtain ⟨items, hit, hil, hall⟩ := st1.tab.alike al hal
  -- for other, place in alike: if other == term: return place
  refine ⟨_, rfl, al, rfl, ⟨_, SqL.of hit⟩, for_list (K := K) (a := al) (xs := items) (fun i σ H' => H1 = H' ∧ ∃ o1 o2, σ = [some (.ref tb), some v, some (.ref al), o1, o2, none, none]) ⟨rfl, none, none, rfl⟩ (fun i σ H' _ z => by rw [← z.1]; exact SqL.of hit) ?_ ?_⟩
  · rintro i x σ H' hi' ⟨rfl, o1, o2, rfl⟩
    obtain ⟨qa, v', k, t', rfl, hq, ht', ok', d', hk'⟩ := hall x (List.mem_of_getElem? hi')
    refine ⟨qa, _, rfl, SqT.of hq, rfl, _, _, rfl, _, _, rfl, rfl, ?_⟩
    refine ⟨_, rfl, _, rfl, _, _, ht'.dp, ht1.dp, Tm.shaped ok' d', Tm.shaped hok h60, _, rfl, ite2 (fun c => ?_) fun c => ?_⟩
    · have e := Tm.data_eq _ _ c
      subst e
      exact ⟨_, rfl, q k ts Ls1 Ps H1 (st1.more (by omega)) (by omega) hk' (.inl (List.getElem?_eq_some_iff.mp hk').1) fun u hu => .inl hu⟩
    · exact ⟨rfl, _, _, rfl⟩
  rintro σ H' ⟨rfl, o1, o2, rfl⟩
  -- places = [self.place_of(part) for part in parts_of(term)]
  refine ⟨_, rfl, t, v, rfl, ht1, fun r ws H2 e2 hr2 hws => ⟨r, rfl, ⟨_, SqT.of hr2⟩, fun Dl nDl => ?_⟩⟩
  have st2 := st1.same e2
  have T2 := st2.tab
  have tz := t.size_parts
  have hwl := hws.len
  refine lc_tup (K := K) (a := r) (xs := ws) (fun i H' => ∃ (ts3 : List Tm) (Ls3 Ps3 : List Addr) (ps : List Nat), Step P w C tb R D H2 H' ts Ls1 Ps ts3 Ls3 Ps3 (cnt + 1 + sizes (t.parts.take i)) ∧ H' Dl = some (.lst (nats ps)) ∧
    PlacesOf ts3 ts3.length (t.parts.take i) ps ∧ ts3.length ≤ ts.length + sizes (t.parts.take i) ∧ (Dl ≠ R ∧ Dl ∉ Ls3 ∧ Dl ∉ Ps3) ∧ ∀ u ∈ ts3, u ∈ ts ∨ u.size ≤ t.size) ?_ (fun i H' _ z => ?_) ?_ ?_
  · refine ⟨ts, Ls1, Ps, [], ((Step.refl T2).same (same_new nDl _)).more (by rw [List.take_zero]; exact Nat.le_refl _), upd_same, by rw [List.take_zero]; exact True.intro, Nat.le_add_right _ _, ⟨?_, ?_, ?_⟩, fun u hu => .inl hu⟩
    · rintro rfl
      obtain ⟨rs, z, _⟩ := T2.rows
      rw [nDl] at z
      cases z
    · intro m
      obtain ⟨it, z, _⟩ := T2.alike _ m
      rw [nDl] at z
      cases z
    · intro m
      obtain ⟨it, z⟩ := T2.plist _ m
      rw [nDl] at z
      cases z
  · obtain ⟨ts3, Ls3, Ps3, ps, st3, _⟩ := z
    exact SqT.of (st3.tups T2 _ _ hr2)
  · rintro i x H' hi' ⟨ts3, Ls3, Ps3, ps, st3, hDl, hpl, hlen, ⟨n1, n2, n3⟩, hsub⟩
    obtain ⟨t', ht', hx'⟩ := hws.at hi'
    have hm := List.mem_of_getElem? ht'
    have dp := Tm.part_deep hm
    obtain ⟨dx3, hi3⟩ := st3.tab.ins
    have tk : t.parts.take (i + 1) = t.parts.take i ++ [t'] := by rw [List.take_add_one, ht']; rfl
    have zs := sizes_take t.parts (i + 1)
    rw [tk, sizes_snoc] at zs
    have pl := hpl.len
    have pl2 : (t.parts.take i).length ≤ 3 := Nat.le_trans (by rw [List.length_take]; exact Nat.min_le_right _ _) t.len_parts
    refine ⟨rfl, ?_⟩
    refine ⟨_, rfl, tb, dx3, _, rfl, hi3, pf_no _ _ (by decide +kernel) (by decide +kernel), _, rfl, tb, R, D, ts3, Ls3, Ps3, _, t', x, rfl, st3.tab, hx'.mono (st3.tups T2), hok.part hm, by omega, by omega, by omega, by omega, fun k ts4 Ls4 Ps4 H4 st4 l4 hk4 _ sub4 => ?_⟩
    have nD : Dl ≠ D := by
      obtain ⟨xs4, z, _⟩ := st3.tab.dict
      obtain ⟨o, y1, y2, _⟩ := z.some
      exact ne_of hDl y1 fun y => y2 _ y.symm
    have hDl4 := st4.frame _ _ hDl n1 nD n2
    have m2 : Dl ∉ Ls4 := fun z => (st4.newL _ z).elim n2 fun y => by rw [hDl] at y; cases y
    have m3 : Dl ∉ Ps4 := fun z => (st4.newP _ z).elim n3 fun y => by rw [hDl] at y; cases y
    obtain ⟨more, e4⟩ := st4.pre
    have hkl := (List.getElem?_eq_some_iff.mp hk4).1
    refine ⟨nats ps, hDl4, small1000 (by unfold nats; rw [List.length_map]; omega), ts4, Ls4, Ps4, ps ++ [k], ?_, ?_, ?_, ?_, ⟨n1, m2, m3⟩, fun u hu => (sub4 u hu).elim (hsub u) fun z => .inr (Nat.le_trans z (Tm.part_size hm))⟩
    · refine ((st3.trans st4).put hDl4 nDl n1 m2 m3).more ?_
      rw [tk, sizes_snoc]
      omega
    · rw [upd_same, nats_snoc]
    · rw [tk]
      refine PlacesOf.snoc hkl hk4 ?_
      rw [e4]
      exact hpl.mono (by rw [List.length_append]; omega)
    · rw [tk, sizes_snoc]
      omega
  rintro H3 ⟨ts3, Ls3, Ps3, ps, st3, hDl, hpl, hlen, ⟨n1, n2, n3⟩, hsub⟩
  rw [hwl, List.take_length] at st3 hpl hlen
  have st5 := st2.trans st3
  have ht3 : TmAt H3 t v := ht1.mono ((Tups.of_same e2).trans (st3.tups T2))
  have T3 := st5.tab
  obtain ⟨dx3, hi3⟩ := T3.ins
  obtain ⟨rs, hR, rl, hrs⟩ := T3.rows
  obtain ⟨its, hal3, il3, hall3⟩ := T3.alike al (st3.subL al hal)
  have hal' := st3.subL al hal
  obtain ⟨xs3, hd3, hxl3, hx3⟩ := T3.dict
  obtain ⟨od, d1, d2, d3, d4⟩ := hd3.some
  have nAR : al ≠ R := fun z => T3.nRL (z ▸ hal')
  have nAP : al ∉ Ps3 := T3.nLP al hal'
  have nAD : al ≠ Dl := fun z => n2 (z ▸ hal')
  have l9 : ts3.length < 900000 := by omega
  -- self.rows.append((head_of(term), places))
  refine ⟨_, rfl, tb, C, dx3, _, _, rfl, hi3, TC.cl, TC.nR, pf_rows _ _, .inl ⟨rfl, _, SqL.of hR⟩, _, rfl, t, v, rfl, ht3, fun h H4 e4 hh => ⟨_, rfl, sz 2, fun r5 nr5 => ?_⟩⟩
  have s5 := same_new nr5 (.tup [V.ref h, .ref Dl])
  have g5 : Same H3 (upd H4 r5 (.tup [V.ref h, .ref Dl])) := e4.trans s5
  have hr5 : upd H4 r5 (.tup [V.ref h, .ref Dl]) r5 = some (.tup [V.ref h, .ref Dl]) := upd_same
  have hh5 := s5 _ _ hh
  generalize upd H4 r5 (.tup [V.ref h, .ref Dl]) = H5 at g5 hr5 hh5 ⊢
  refine ⟨R, _, _, rfl, rfl, g5 _ _ hR, Nat.lt_of_lt_of_le (by rw [rl]; exact l9) (by decide), ?_⟩
  have k6 : ∀ b o, b ≠ R → H5 b = some o → upd H5 R (.lst (rs ++ [V.ref r5])) b = some o := fun b o nb z => by rw [upd_ne nb]; exact z
  have hR6 : upd H5 R (.lst (rs ++ [V.ref r5])) R = some (.lst (rs ++ [V.ref r5])) := upd_same
  generalize upd H5 R (.lst (rs ++ [V.ref r5])) = H6 at k6 hR6 ⊢
  have g6 : ∀ b o, b ≠ R → H3 b = some o → H6 b = some o := fun b o nb z => k6 b o nb (g5 b o z)
  have nTR : tb ≠ R := ne_of hi3 hR fun y => by cases y
  have al6 := g6 _ _ nAR hal3
  have hi6 := g6 _ _ nTR hi3
  -- alike.append((term, len(self.rows) - 1))
  refine ⟨_, rfl, .inl ⟨rfl, _, SqL.of al6⟩, _, rfl, _, rfl, tb, C, dx3, _, _, rfl, hi6, TC.cl, TC.nR, pf_rows _ _, R, _, rfl, .inl (SqL.of hR6), _, _, rfl, rfl, sz 2, fun qa nq => ?_⟩
  have ek : V.int ((((rs ++ [V.ref r5]).length : Nat) : Int) - 1) = V.int ((ts3.length : Nat) : Int) := congrArg V.int (by rw [List.length_append, List.length_singleton, rl]; omega)
  dsimp only
  rw [ek]
  have s7 := same_new nq (.tup [v, V.int ((ts3.length : Nat) : Int)])
  have hq7 : upd H6 qa (.tup [v, V.int ((ts3.length : Nat) : Int)]) qa = some (.tup [v, V.int ((ts3.length : Nat) : Int)]) := upd_same
  generalize upd H6 qa (.tup [v, V.int ((ts3.length : Nat) : Int)]) = H7 at s7 hq7 ⊢
  refine ⟨al, _, _, rfl, rfl, s7 _ _ al6, Nat.lt_of_le_of_lt il3 (Nat.lt_of_lt_of_le l9 (by decide)), ?_⟩
  have k8 : ∀ b o, b ≠ al → H7 b = some o → upd H7 al (.lst (its ++ [V.ref qa])) b = some o := fun b o nb z => by rw [upd_ne nb]; exact z
  have al8 : upd H7 al (.lst (its ++ [V.ref qa])) al = some (.lst (its ++ [V.ref qa])) := upd_same
  generalize upd H7 al (.lst (its ++ [V.ref qa])) = H8 at k8 al8 ⊢
  have g8 : ∀ b o, b ≠ R → b ≠ al → H3 b = some o → H8 b = some o := fun b o n1 n2 z => k8 b o n2 (s7 _ _ (g6 b o n1 z))
  have t8 : Tups H3 H8 := fun b ys z => g8 b _ (ne_of z hR fun y => by cases y) (ne_of z hal3 fun y => by cases y) z
  have hR8 := k8 _ _ nAR.symm (s7 _ _ hR6)
  have hi8 := g8 _ _ nTR (ne_of hi3 hal3 fun y => by cases y) hi3
  refine ⟨_, rfl, tb, C, dx3, _, _, rfl, hi8, TC.cl, TC.nR, pf_rows _ _, R, _, rfl, .inl (SqL.of hR8), _, _, rfl, rfl, ?_⟩
  show Q (V.int ((((rs ++ [V.ref r5]).length : Nat) : Int) - 1)) H8
  rw [ek]
  have nDlR : Dl ≠ R := n1
  have hDl8 := g8 _ _ n1 nAD.symm hDl
  have pt : ∀ {i j : Nat} {r : List Tm} {ps : List Nat}, i ≤ j → PlacesOf ts3 i r ps → PlacesOf (ts3 ++ [t]) j r ps := fun h z => z.mono h
  have ix : ∀ {k : Nat} {u : Tm}, ts3[k]? = some u → (ts3 ++ [t])[k]? = some u := fun {k u} z => by rw [List.getElem?_append_left (List.getElem?_eq_some_iff.mp z).1]; exact z
  have last : (ts3 ++ [t])[ts3.length]? = some t := by rw [List.getElem?_append_right (Nat.le_refl _), Nat.sub_self]; rfl
  have h58 : ∀ {b : Addr} {ys : List V}, H5 b = some (.tup ys) → H8 b = some (.tup ys) := fun {b ys} z => k8 _ _ (ne_of z (g5 _ _ hal3) fun y => by cases y) (s7 _ _ (k6 _ _ (ne_of z (g5 _ _ hR) fun y => by cases y) z))
  refine q ts3.length (ts3 ++ [t]) Ls3 (Dl :: Ps3) H8 ⟨⟨⟨dx3, hi8⟩, ⟨_, hR8, by rw [List.length_append, List.length_append, rl]; rfl, fun i u hu => ?_⟩, ⟨xs3, hd3.keep fun o z => ?_, ?_, fun e he => ⟨⟨KAt.mono t8 _ _ (hx3 e he).1.1, (hx3 e he).1.2⟩, (hx3 e he).2⟩⟩, fun L hL => ?_, fun p hp => ?_, T3.nRL, ?_, fun L hL hP => ?_⟩, ?_, fun L hL => st5.subL L hL, fun b o z m1 m2 m3 => ?_, st5.newL, fun b hb => ?_⟩ ?_ last (.inr (by rw [List.length_append]; rfl)) fun u hu => (List.mem_append.mp hu).elim (hsub u) fun z => .inr (by rw [List.mem_singleton.mp z]; exact Nat.le_refl _)
  · by_cases hi3' : i < ts3.length
    · rw [List.getElem?_append_left hi3'] at hu
      obtain ⟨r0, h0, pl0, ps0, a1, a2, a3, a4, a5, a6⟩ := hrs i u hu
      refine ⟨r0, h0, pl0, ps0, by rw [List.getElem?_append_left (by rw [rl]; exact hi3')]; exact a1, t8 _ _ a2, t8 _ _ a3, g8 _ _ (fun z => T3.nRP (z ▸ a5)) (fun z => nAP (z ▸ a5)) a4, List.mem_cons_of_mem _ a5, pt (Nat.le_refl _) a6⟩
    · have hlt := (List.getElem?_eq_some_iff.mp hu).1
      rw [List.length_append, List.length_singleton] at hlt
      obtain rfl : i = ts3.length := by omega
      rw [last] at hu
      cases hu
      refine ⟨r5, h, Dl, ps, by rw [List.getElem?_append_right (by rw [rl]; exact Nat.le_refl _), rl, Nat.sub_self]; rfl, h58 hr5, h58 hh5, hDl8, List.mem_cons_self, pt (Nat.le_refl _) hpl⟩
  · rw [d1] at z
    cases z
    exact g8 _ _ (ne_of d1 hR (d2 _)) (ne_of d1 hal3 (d2 _)) d1
  · omega
  · by_cases hLa : L = al
    · subst hLa
      refine ⟨_, al8, by rw [List.length_append, List.length_append]; exact Nat.succ_le_succ il3, fun it hit => ?_⟩
      rcases List.mem_append.mp hit with hit | hit
      · obtain ⟨q0, v0, k0, t0, b1, b2, b3, b4, b5, b6⟩ := hall3 it hit
        exact ⟨q0, v0, k0, t0, b1, t8 _ _ b2, b3.mono t8, b4, b5, ix b6⟩
      · rw [List.mem_singleton.mp hit]
        exact ⟨qa, v, ts3.length, t, rfl, k8 _ _ (ne_of hq7 (s7 _ _ al6) fun y => by cases y) hq7, ht3.mono t8, hok, h60, last⟩
    · obtain ⟨it0, c1, c2, c3⟩ := T3.alike L hL
      refine ⟨it0, g8 _ _ (fun z => T3.nRL (z ▸ hL)) hLa c1, by rw [List.length_append]; exact Nat.le_succ_of_le c2, fun it hit => ?_⟩
      obtain ⟨q0, v0, k0, t0, b1, b2, b3, b4, b5, b6⟩ := c3 it hit
      exact ⟨q0, v0, k0, t0, b1, t8 _ _ b2, b3.mono t8, b4, b5, ix b6⟩
  · rcases List.mem_cons.mp hp with rfl | hp
    · exact ⟨_, hDl8⟩
    · obtain ⟨ys, y⟩ := T3.plist p hp
      exact ⟨ys, g8 _ _ (fun z => T3.nRP (z ▸ hp)) (fun z => nAP (z ▸ hp)) y⟩
  · intro z
    rcases List.mem_cons.mp z with z | z
    · exact n1 z.symm
    · exact T3.nRP z
  · rcases List.mem_cons.mp hP with rfl | hP
    · exact n2 hL
    · exact T3.nLP L hL hP
  · obtain ⟨more, e⟩ := st5.pre
    exact ⟨more ++ [t], by rw [e, List.append_assoc]⟩
  · have z3 := st5.frame b o z m1 m2 m3
    by_cases hba : b = al
    · subst hba
      rcases st5.newL _ hal' with y | y
      · exact absurd y m3
      · rw [z] at y
        cases y
    · exact g8 b o m1 hba z3
  · rcases List.mem_cons.mp hb with rfl | hb
    · exact .inr (st2.free nDl)
    · exact st5.newP b hb
  · rw [List.length_append, List.length_singleton]
    omega
end

/-! ### rows_of -/
/-- a class whose objects are made -/
structure CalC (P : Program) (w : World) (K : PySem.W.Frag) (mg : Str → Option Value) (base : Heap) (x : Str) (C : Addr) (ps : List Str) (k : Nat) (sp : Sp) (f : Addr) (fd : FuncData) : Prop where
  mkr : Mk K C f
  ok : FnOk P w K mg base CX0 k f fd ps sp
  m : mg x = some (.ref C)
  b : Binds K fd ps []
def spRows : Sp := fun vs H Q _ => ∃ (t : Tm) (v : V), vs = [v] ∧ TmAt H t v ∧ t.Ok ∧ t.deep ≤ 60 ∧ t.size ≤ 900000 ∧
  ∀ (R : Addr) (ts : List Tm) (Ps : List Addr) (H' : Hp), Same H H' → RowsAt H' R ts Ps → H R = none → (∀ p ∈ Ps, H p = none) → ts.length ≤ t.size → (∃ more, ts = more ++ [t]) → (∀ u ∈ ts, u.size ≤ t.size) → Q (.ref R) H'
theorem last_split {ts : List Tm} {k : Nat} {t : Tm} (h : ts[k]? = some t) (m : k + 1 = ts.length) : ∃ more, ts = more ++ [t] := by
  obtain ⟨h1, h2⟩ := List.getElem?_eq_some_iff.mp h
  refine ⟨ts.take k, ?_⟩
  have e := List.take_succ_eq_append_getElem h1
  rw [m, List.take_length, h2] at e
  exact e
theorem nats_map (ns : List Nat) : nats ns = (ns.map fun (n : Nat) => (n : Int)).map V.int := by
  unfold nats
  rw [List.map_map]
  rfl
section
variable {P : Program} {w : World} {K : PySem.W.Frag} {mg : Str → Option Value} {base : Heap} {pa C f f1 f2 f3 f4 f5 f6 f7 f8 : Addr} {fd fd1 fd2 fd3 fd4 fd5 fd6 fd7 fd8 : FuncData}
theorem ok_rows_of (F : Fun K "rows_of" "rows_of" s_rows_of f fd) (TC : TxtC K C) (MK_TermTable : CalC P w K mg base "TermTable" C ["self"] 1 (spTabInit P w C) f1 fd1)
    (C_place_of : CalM P w K mg base C "place_of" ["self", "term"] 64 (spPlace P w C 60) f2 fd2) : FnOk P w K mg base CX0 65 f fd ["term"] spRows := by
  refine F.ok sc_rows_of (fun vs H Q E h => ?_) (fun cdv A outer s H vs Q E hr h => ?_)
  · obtain ⟨t, v, rfl, _⟩ := h
    rfl
  obtain ⟨t, v, rfl, ht, hok, h60, hz, q⟩ := h
  refine ⟨_, (pss_cons (ps_set (i := 1) sc_rows_of.nd rfl (Or.inl rfl) (pe_make0 MK_TermTable.mkr MK_TermTable.ok (hr.mono (by first | decide | omega)) rfl MK_TermTable.m MK_TermTable.b .nil pass0))
      (pss_cons (ps_expr (pe_meth (pv 1) TC.cl C_place_of.m C_place_of.ok (hr.mono (by first | decide | omega)) C_place_of.b .nil pass0 (pa_cons (pv 0) pa_nil)))
      (pss_one (ps_ret (pe_fld (pv 1) rfl))))), ?_⟩
  intro x dx nx ndx nex
  refine ⟨x, dx, rfl, upd_same, fun R D H1 k1 T1 nR nD => ⟨rfl, ?_⟩⟩
  have e1 : Same H H1 := fun b o z => k1 b o (ne_of_none z nx) (by rw [upd_ne (ne_of_none z nx), upd_ne (ne_of_none z ndx)]; exact z)
  have nR0 : H R = none := by
    cases z : H R with
    | none => rfl
    | some o =>
      rw [upd_ne (ne_of_none z nx), upd_ne (ne_of_none z ndx), z] at nR
      cases nR
  have nD0 : H D = none := by
    cases z : H D with
    | none => rfl
    | some o =>
      rw [upd_ne (ne_of_none z nx), upd_ne (ne_of_none z ndx), z] at nD
      cases nD
  obtain ⟨dx1, hi1⟩ := T1.ins
  refine ⟨_, rfl, x, dx1, _, rfl, hi1, pf_no _ _ (by decide +kernel) (by decide +kernel), _, rfl, x, R, D, [], [], [], 0, t, v, rfl, T1, ht.mono (.of_same e1), hok, h60, h60, by show 0 + t.size ≤ 900000; omega, by omega, fun k ts' Ls' Ps' H2 st l hk last subs => ?_⟩
  obtain ⟨dx2, hi2⟩ := st.tab.ins
  refine ⟨_, rfl, x, C, dx2, _, _, rfl, hi2, TC.cl, TC.nR, pf_rows _ _, ?_⟩
  refine q R ts' Ps' H2 (fun b o z => st.frame b o (e1 _ _ z) (ne_of_none z nR0) (ne_of_none z nD0) (fun m => by cases m)) st.tab.rows nR0 (fun p hp => ?_) (by simpa using l) ?_ fun u hu => (subs u hu).elim (fun z => by cases z) id
  · rcases st.newP p hp with m | m
    · cases m
    · cases z : H p with
      | none => rfl
      | some o =>
        rw [e1 _ _ z] at m
        cases m
  · rcases last with m | m
    · exact absurd m (Nat.not_lt_zero _)
    · exact last_split hk m
/-- what stands at the places of the parts -/
theorem PlacesOf.at {ts : List Tm} {i : Nat} : ∀ {r : List Tm} {ps : List Nat} {j p : Nat}, PlacesOf ts i r ps → ps[j]? = some p → ∃ u, r[j]? = some u ∧ p < i ∧ ts[p]? = some u
  | [], [], _, _, _, e => by simp at e
  | t :: r, q :: ps, 0, _, ⟨h, _⟩, e => by
    simp only [List.getElem?_cons_zero, Option.some.injEq] at e
    subst e
    exact ⟨t, rfl, h⟩
  | t :: r, q :: ps, j + 1, _, ⟨_, h⟩, e => by
    simp only [List.getElem?_cons_succ] at e
    obtain ⟨u, h1, h2⟩ := PlacesOf.at h e
    exact ⟨u, by simpa using h1, h2⟩
  | [], _ :: _, _, _, h, _ => h.elim
  | _ :: _, [], _, _, h, _ => h.elim
theorem sz9 {n : Nat} (h : n ≤ 900000) : n < sizeLine := Nat.lt_of_le_of_lt h (by decide)
/-- a list of no one else's is written: the rows stay -/
theorem RowsAt.put {H : Hp} {R S : Addr} {ts : List Tm} {Ps : List Addr} {ys zs : List V} (h : RowsAt H R ts Ps) (hS : H S = some (.lst ys)) (nR : S ≠ R) (nP : S ∉ Ps) : RowsAt (upd H S (.lst zs)) R ts Ps :=
  h.keep (Keeps.put (Ls := []) hS nR (fun m => by cases m) nP)
end

/-! ### names that are loose -/
def put (l : List Str) (x : Str) : List Str := if x ∈ l then l else l ++ [x]
def putAll (l r : List Str) : List Str := r.foldl put l
def keep (b : V) (l : List Str) : List Str := l.filter fun x => !decide (V.str x = b)
theorem putAll_app (l a b : List Str) : putAll l (a ++ b) = putAll (putAll l a) b := List.foldl_append
theorem mem_put {l : List Str} {x y : Str} : y ∈ put l x ↔ y ∈ l ∨ y = x := by
  unfold put
  by_cases h : x ∈ l
  · rw [if_pos h]
    exact ⟨.inl, fun z => z.elim id fun e => e ▸ h⟩
  · rw [if_neg h, List.mem_append, List.mem_singleton]
theorem mem_putAll {y : Str} : ∀ {r l : List Str}, y ∈ putAll l r ↔ y ∈ l ∨ y ∈ r
  | [], l => by show y ∈ l ↔ y ∈ l ∨ y ∈ []; simp
  | x :: r, l => by
    show y ∈ putAll (put l x) r ↔ _
    rw [mem_putAll, mem_put, List.mem_cons]
    exact ⟨fun h => h.elim (fun h => h.elim .inl fun e => .inr (.inl e)) fun h => .inr (.inr h), fun h => h.elim (fun h => .inl (.inl h)) fun h => h.elim (fun e => .inl (.inr e)) .inr⟩
theorem put_old {l : List Str} {x : Str} (h : x ∈ l) : put l x = l := if_pos h
theorem snoc_ind {p : List Str → Prop} (h0 : p []) (h1 : ∀ l x, p l → p (l ++ [x])) : ∀ l, p l := fun l => by
  rw [← List.reverse_reverse l]
  induction l.reverse with
  | nil => exact h0
  | cons x r ih =>
    rw [List.reverse_cons]
    exact h1 _ _ ih
theorem putAll_snoc (l r : List Str) (x : Str) : putAll l (r ++ [x]) = put (putAll l r) x := by
  rw [putAll_app]
  rfl
theorem keep_app (b : V) (a c : List Str) : keep b (a ++ c) = keep b a ++ keep b c := List.filter_append _ _
theorem keep_mem {b : V} {l : List Str} {x : Str} : x ∈ keep b l ↔ x ∈ l ∧ ¬ V.str x = b := by
  unfold keep
  rw [List.mem_filter]
  by_cases h : V.str x = b <;> simp [h]
/-- a list that was thinned out adds the same names -/
theorem putAll_thin (b : V) : ∀ (r l : List Str), putAll l (keep b (putAll [] r)) = putAll l (keep b r) := by
  refine snoc_ind (fun l => rfl) fun r x ih l => ?_
  rw [putAll_snoc, keep_app, putAll_app]
  by_cases hx : x ∈ putAll [] r
  · rw [put_old hx, ih]
    by_cases hb : V.str x = b
    · rw [show keep b [x] = [] by unfold keep; rw [List.filter_cons_of_neg (by simp [hb])]; rfl]
      rfl
    · rw [show keep b [x] = [x] by unfold keep; rw [List.filter_cons_of_pos (by simp [hb])]; rfl]
      have m : x ∈ putAll l (keep b r) := mem_putAll.mpr (.inr (keep_mem.mpr ⟨(mem_putAll.mp hx).elim (fun z => by cases z) id, hb⟩))
      exact (put_old m).symm
  · rw [show put (putAll [] r) x = putAll [] r ++ [x] from if_neg hx, keep_app, putAll_app, ih]
def Tm.raw : Tm → List Str
  | .num _ => []
  | .name x => [x]
  | .bin _ a b => a.raw ++ b.raw
  | .cond c a b => c.raw ++ (a.raw ++ b.raw)
  | .letx x a b => a.raw ++ keep (.str x) b.raw
  | .turns _ x a b => a.raw ++ keep (.str x) b.raw
  | .deff f x _ a b => keep (.str x) a.raw ++ keep (.str f) b.raw
  | .use f a => f :: a.raw
  | .un _ a => a.raw
def Tm.loose (t : Tm) : List Str := putAll [] t.raw
def Tm.own : Tm → List Str
  | .name x => [x]
  | .use f _ => [f]
  | _ => []
def Tm.bounds : Tm → List V
  | .letx x _ _ => [.non, .str x]
  | .turns _ x _ _ => [.non, .str x]
  | .deff f x _ _ _ => [.str x, .str f]
  | t => List.replicate t.parts.length .non
def rawAll : List V → List (List Str) → List Str
  | b :: bs, l :: ls => keep b l ++ rawAll bs ls
  | _, _ => []
theorem keep_non (l : List Str) : keep .non l = l := by
  unfold keep
  rw [List.filter_eq_self]
  intro x _
  rfl
theorem Tm.raw_eq (t : Tm) : t.raw = t.own ++ rawAll t.bounds (t.parts.map Tm.raw) := by
  cases t <;> simp only [Tm.raw, Tm.own, Tm.bounds, Tm.parts, List.map_cons, List.map_nil, List.length_cons, List.length_nil, List.replicate, rawAll, keep_non, List.append_nil, List.nil_append, List.cons_append]
theorem Tm.bounds_len (t : Tm) : t.bounds.length = t.parts.length := by
  cases t <;> rfl
theorem rawAll_take : ∀ {bs : List V} {ls : List (List Str)} {i : Nat} {b : V} {l : List Str}, bs[i]? = some b → ls[i]? = some l → rawAll (bs.take (i + 1)) (ls.take (i + 1)) = rawAll (bs.take i) (ls.take i) ++ keep b l
  | [], _, _, _, _, h, _ => by simp at h
  | _ :: _, [], _, _, _, _, h => by simp at h
  | b0 :: bs, l0 :: ls, 0, b, l, h1, h2 => by
    simp only [List.getElem?_cons_zero, Option.some.injEq] at h1 h2
    subst h1 h2
    simp only [List.take_succ_cons, List.take_zero, rawAll, List.append_nil, List.nil_append]
  | b0 :: bs, l0 :: ls, i + 1, b, l, h1, h2 => by
    simp only [List.getElem?_cons_succ] at h1 h2
    rw [List.take_succ_cons, List.take_succ_cons, List.take_succ_cons, List.take_succ_cons]
    show keep b0 l0 ++ rawAll (bs.take (i + 1)) (ls.take (i + 1)) = keep b0 l0 ++ rawAll (bs.take i) (ls.take i) ++ keep b l
    rw [rawAll_take h1 h2, List.append_assoc]
theorem own_put (t : Tm) : putAll [] t.own = t.own := by
  cases t <;> first | rfl | (show put [] _ = _; exact if_neg (by simp))
theorem Tm.raw_len : ∀ t : Tm, t.raw.length ≤ t.size := by
  have kl : ∀ (b : V) (l : List Str), (keep b l).length ≤ l.length := fun b l => List.length_filter_le _ _
  intro t
  induction t with
  | num n => exact Nat.zero_le _
  | name n => exact Nat.le_refl _
  | bin o a b iha ihb => simp only [Tm.raw, Tm.size, List.length_append]; omega
  | cond c a b ihc iha ihb => simp only [Tm.raw, Tm.size, List.length_append]; omega
  | letx x a b iha ihb => have := kl (.str x) b.raw; simp only [Tm.raw, Tm.size, List.length_append]; omega
  | turns n x a b iha ihb => have := kl (.str x) b.raw; simp only [Tm.raw, Tm.size, List.length_append]; omega
  | deff f x k a b iha ihb => have := kl (.str x) a.raw; have := kl (.str f) b.raw; simp only [Tm.raw, Tm.size, List.length_append]; omega
  | use f a iha => simp only [Tm.raw, Tm.size, List.length_cons]; omega
  | un o a iha => simp only [Tm.raw, Tm.size]; omega
theorem putAll_len : ∀ (r l : List Str), (putAll l r).length ≤ l.length + r.length
  | [], l => Nat.le_refl _
  | x :: r, l => by
    have h := putAll_len r (put l x)
    have h2 : (put l x).length ≤ l.length + 1 := by
      unfold put
      split
      · omega
      · rw [List.length_append]
        exact Nat.le_refl _
    show (putAll (put l x) r).length ≤ l.length + (r.length + 1)
    omega
theorem Tm.loose_len (t : Tm) : t.loose.length ≤ t.size := by
  have h := putAll_len t.raw []
  have h2 := t.raw_len
  unfold Tm.loose
  simp only [List.length_nil] at h
  omega
/-- a dict of True by name -/
def trues (l : List Str) : List (Key × V) := l.map fun x => (.inr x, .bl true)
theorem trues_put (l : List Str) (x : Str) : putK (trues l) (.inr x) (.bl true) = trues (put l x) := by
  unfold putK put trues
  by_cases h : x ∈ l
  · have e : ((l.map fun x => ((Sum.inr x : Key), V.bl true)).any fun kv => decide (kv.1 = Sum.inr x)) = true := by
      rw [List.any_eq_true]
      exact ⟨_, List.mem_map.mpr ⟨x, h, rfl⟩, decide_eq_true rfl⟩
    rw [if_pos e, if_pos h, List.map_map]
    refine List.map_congr_left fun y _ => ?_
    show (if (Sum.inr y : Key) = Sum.inr x then _ else _) = _
    by_cases hy : (Sum.inr y : Key) = Sum.inr x
    · rw [if_pos hy]
    · rw [if_neg hy]
  · have e : ¬ ((l.map fun x => ((Sum.inr x : Key), V.bl true)).any fun kv => decide (kv.1 = Sum.inr x)) = true := fun z => by
      obtain ⟨kv, hk, hd⟩ := List.any_eq_true.mp z
      obtain ⟨y, hy, rfl⟩ := List.mem_map.mp hk
      have := Sum.inr.inj (of_decide_eq_true hd)
      exact h (this ▸ hy)
    rw [if_neg e, if_neg h, List.map_append]
    rfl
theorem trues_len (l : List Str) : (trues l).length = l.length := List.length_map _
theorem trues_keys (l : List Str) : (trues l).map (fun kv => kV kv.1) = l.map V.str := by
  unfold trues
  rw [List.map_map]
  rfl
/-- lists of names, none of them at S -/
def NmsAt (H : Hp) (S : List Addr) : List V → List (List Str) → Prop
  | [], [] => True
  | v :: vs, l :: ls => (∃ a, v = .ref a ∧ a ∉ S ∧ H a = some (.lst (l.map V.str))) ∧ NmsAt H S vs ls
  | _, _ => False
theorem NmsAt.mono {H H' : Hp} {S : List Addr} (e : ∀ b o, b ∉ S → H b = some o → H' b = some o) : ∀ {vs : List V} {ls : List (List Str)}, NmsAt H S vs ls → NmsAt H' S vs ls
  | [], [], _ => True.intro
  | _ :: _, _ :: _, ⟨⟨a, h1, h2, h3⟩, r⟩ => ⟨⟨a, h1, h2, e _ _ h2 h3⟩, NmsAt.mono e r⟩
  | [], _ :: _, h => h.elim
  | _ :: _, [], h => h.elim
theorem NmsAt.len {H : Hp} {S : List Addr} : ∀ {vs : List V} {ls : List (List Str)}, NmsAt H S vs ls → vs.length = ls.length
  | [], [], _ => rfl
  | _ :: _, _ :: _, ⟨_, r⟩ => congrArg (· + 1) (NmsAt.len r)
  | [], _ :: _, h => h.elim
  | _ :: _, [], h => h.elim
theorem NmsAt.get {H : Hp} {S : List Addr} : ∀ {vs : List V} {ls : List (List Str)} {i : Nat} {l : List Str}, NmsAt H S vs ls → ls[i]? = some l → ∃ a, vs[i]? = some (.ref a) ∧ a ∉ S ∧ H a = some (.lst (l.map V.str))
  | [], [], _, _, _, e => by simp at e
  | v :: vs, l :: ls, 0, _, ⟨⟨a, h1, h2, h3⟩, _⟩, e => by
    simp only [List.getElem?_cons_zero, Option.some.injEq] at e
    subst e h1
    exact ⟨a, rfl, h2, h3⟩
  | v :: vs, l :: ls, i + 1, _, ⟨_, r⟩, e => by
    simp only [List.getElem?_cons_succ] at e
    obtain ⟨a, q1, q2⟩ := NmsAt.get r e
    exact ⟨a, by simpa using q1, q2⟩
  | [], _ :: _, _, _, h, _ => h.elim
  | _ :: _, [], _, _, h, _ => h.elim
theorem NmsAt.snoc {H : Hp} {S : List Addr} {a : Addr} {l : List Str} (h1 : a ∉ S) (h2 : H a = some (.lst (l.map V.str))) : ∀ {vs : List V} {ls : List (List Str)}, NmsAt H S vs ls → NmsAt H S (vs ++ [.ref a]) (ls ++ [l])
  | [], [], _ => ⟨⟨a, rfl, h1, h2⟩, True.intro⟩
  | _ :: _, _ :: _, ⟨h, r⟩ => ⟨h, NmsAt.snoc h1 h2 r⟩
  | [], _ :: _, h => h.elim
  | _ :: _, [], h => h.elim
theorem NmsAt.more {H : Hp} {S : List Addr} {D : Addr} (n : H D = none) : ∀ {vs : List V} {ls : List (List Str)}, NmsAt H S vs ls → NmsAt H (D :: S) vs ls
  | [], [], _ => True.intro
  | _ :: _, _ :: _, ⟨⟨a, h1, h2, h3⟩, r⟩ => ⟨⟨a, h1, fun z => (List.mem_cons.mp z).elim (ne_of_none h3 n) h2, h3⟩, NmsAt.more n r⟩
  | [], _ :: _, h => h.elim
  | _ :: _, [], h => h.elim
def spBounds : Sp := fun vs H Q _ => ∃ (t : Tm) (h : Addr), vs = [.ref h, .int (t.parts.length : Int)] ∧ H h = some (.tup t.head) ∧ ∀ (r : Addr) (H' : Hp), H r = none → Same H H' → H' r = some (.lst t.bounds) → Q (.ref r) H'
def spLooseNames : Sp := fun vs H Q _ => ∃ (t : Tm) (h pl : Addr) (S : List Addr) (ws : List V), vs = [.ref h, .ref pl] ∧ H h = some (.tup t.head) ∧ H pl = some (.lst ws) ∧ NmsAt H S ws (t.parts.map Tm.loose) ∧ t.size ≤ 900000 ∧
  ∀ (r : Addr) (H' : Hp), H r = none → Same H H' → H' r = some (.lst (t.loose.map V.str)) → Q (.ref r) H'
def spLoose : Sp := fun vs H Q _ => ∃ (t : Tm) (v : V), vs = [v] ∧ TmAt H t v ∧ t.Ok ∧ t.deep ≤ 60 ∧ t.size ≤ 900000 ∧ ∀ (r : Addr) (H' : Hp), H r = none → Same H H' → H' r = some (.lst (t.loose.map V.str)) → Q (.ref r) H'
abbrev s_bound_in_parts : Stmt := topS 5
theorem sc_bound_in_parts : FnScope ["head", "many"] ["head", "many"] (defScope s_bound_in_parts) := ⟨rfl, rfl, rfl, by decide +kernel, rfl, by decide +kernel, by decide +kernel⟩
abbrev s_loose_names : Stmt := topS 4
theorem sc_loose_names : FnScope ["head", "loose_in_parts", "found", "names", "bound", "name"] ["head", "loose_in_parts"] (defScope s_loose_names) := ⟨rfl, rfl, rfl, by decide +kernel, rfl, by decide +kernel, by decide +kernel⟩
abbrev s_loose_in : Stmt := topS 2
theorem sc_loose_in : FnScope ["term"] ["term"] (defScope s_loose_in) := ⟨rfl, rfl, rfl, by decide +kernel, rfl, by decide +kernel, by decide +kernel⟩
section
variable {P : Program} {w : World} {K : PySem.W.Frag} {mg : Str → Option Value} {base : Heap} {pa ta C f f1 f2 f3 f4 f5 f6 f7 f8 : Addr} {fd fd1 fd2 fd3 fd4 fd5 fd6 fd7 fd8 : FuncData}
theorem ok_bounds (F : Fun K "bound_in_parts" "bound_in_parts" s_bound_in_parts f fd) : FnOk P w K mg base CX0 1 f fd ["head", "many"] spBounds := by
  refine F.ok sc_bound_in_parts (fun vs H Q E h => ?_) (fun cdv A outer s H vs Q E hr h => ?_)
  · obtain ⟨t, h, rfl, _⟩ := h
    rfl
  obtain ⟨t, h, rfl, hh, q⟩ := h
  have hh' := hh
  rw [t.head_eq] at hh'
  refine ⟨_, (pss_cons (ps_if (pt_cmpR op_eq (pe_ix ix_tup (pv 0) pe_int (fun _ _ => rfl)) pe_str (nomark _)) (pss_one (ps_ret (pe_lst (pa_cons pe_non (pa_cons (pe_ix ix_tup (pv 0) pe_int (fun _ _ => rfl)) pa_nil))))) pss_nil)
      (pss_cons (ps_if (pt_cmpR op_eq (pe_ix ix_tup (pv 0) pe_int (fun _ _ => rfl)) pe_str (nomark _)) (pss_one (ps_ret (pe_lst (pa_cons pe_non (pa_cons (pe_ix ix_tup (pv 0) pe_int (fun _ _ => rfl)) pa_nil))))) pss_nil)
      (pss_cons (ps_if (pt_cmpR op_eq (pe_ix ix_tup (pv 0) pe_int (fun _ _ => rfl)) pe_str (nomark _)) (pss_one (ps_ret (pe_lst (pa_cons (pe_ix ix_tup (pv 0) pe_int (fun _ _ => rfl)) (pa_cons (pe_ix ix_tup (pv 0) pe_int (fun _ _ => rfl)) pa_nil))))) pss_nil)
      (pss_one (ps_ret (pe_op op_rep (pe_lst (pa_cons pe_non pa_nil)) (pv 1))))))), ?_⟩
  refine ⟨_, rfl, h, _, _, _, rfl, rfl, SqT.of hh', atI_n (n := 0) rfl rfl, rfl, _, rfl, ite2 (fun c1 => ?_) fun c1 => ?_⟩
  · obtain ⟨x, a, b, rfl⟩ := w_let (str_w .let c1)
    exact ⟨_, rfl, h, _, _, _, rfl, rfl, SqT.of hh, atI_n (n := 1) rfl rfl, sz 2, fun r nr => q r _ nr (same_new nr _) upd_same⟩
  refine ⟨_, rfl, h, _, _, _, rfl, rfl, SqT.of hh', atI_n (n := 0) rfl rfl, rfl, _, rfl, ite2 (fun c2 => ?_) fun c2 => ?_⟩
  · obtain ⟨n, x, a, b, rfl⟩ := w_turns (str_w .turns c2)
    exact ⟨_, rfl, h, _, _, _, rfl, rfl, SqT.of hh, atI_n (n := 2) rfl rfl, sz 2, fun r nr => q r _ nr (same_new nr _) upd_same⟩
  refine ⟨_, rfl, h, _, _, _, rfl, rfl, SqT.of hh', atI_n (n := 0) rfl rfl, rfl, _, rfl, ite2 (fun c3 => ?_) fun c3 => ?_⟩
  · obtain ⟨g, x, k, a, b, rfl⟩ := w_def (str_w .def c3)
    exact ⟨_, rfl, h, _, _, _, rfl, rfl, SqT.of hh, atI_n (n := 2) rfl rfl, _, rfl, h, _, _, _, rfl, rfl, SqT.of hh, atI_n (n := 1) rfl rfl, sz 2, fun r nr => q r _ nr (same_new nr _) upd_same⟩
  have h3 := t.len_parts
  have e : (List.replicate ((t.parts.length : Int).toNat) [V.non]).flatten = t.bounds := by
    rw [Int.toNat_natCast]
    cases t with
    | letx x a b => exact absurd rfl (str_nw .let c1)
    | turns n x a b => exact absurd rfl (str_nw .turns c2)
    | deff g x k a b => exact absurd rfl (str_nw .def c3)
    | _ => rfl
  refine ⟨sz 1, fun p np => ⟨_, rfl, p, _, _, rfl, rfl, upd_same, by omega, by omega, sz _ (by rw [Int.toNat_natCast]; show 1 * _ ≤ _; omega), fun r nr => ?_⟩⟩
  have s1 := same_new np (.lst [V.non])
  rw [e]
  exact q r _ (s1.free nr) (s1.trans (same_new nr _)) upd_same
end

section
variable {P : Program} {w : World} {K : PySem.W.Frag} {mg : Str → Option Value} {base : Heap} {pa ta C f f1 f2 f3 f4 f5 f6 f7 f8 : Addr} {fd fd1 fd2 fd3 fd4 fd5 fd6 fd7 fd8 : FuncData}
theorem bounds_scal {t : Tm} {b : V} (h : b ∈ t.bounds) (n : Str) : scal (.str n) b = true := by
  have h' : b = .non ∨ ∃ x, b = .str x := by
    cases t with
    | num n => cases h
    | name n => cases h
    | letx x a b => simp only [Tm.bounds, List.mem_cons, List.not_mem_nil, or_false] at h; exact h.imp id fun e => ⟨_, e⟩
    | turns n x a b => simp only [Tm.bounds, List.mem_cons, List.not_mem_nil, or_false] at h; exact h.imp id fun e => ⟨_, e⟩
    | deff f x k a b => simp only [Tm.bounds, List.mem_cons, List.not_mem_nil, or_false] at h; exact .inr (h.elim (fun e => ⟨_, e⟩) fun e => ⟨_, e⟩)
    | bin o a b => exact .inl (List.eq_of_mem_replicate h)
    | cond c a b => exact .inl (List.eq_of_mem_replicate h)
    | use f a => exact .inl (List.eq_of_mem_replicate h)
    | un o a => exact .inl (List.eq_of_mem_replicate h)
  rcases h' with rfl | ⟨x, rfl⟩ <;> rfl
theorem loose_eq (t : Tm) : t.loose = putAll t.own (rawAll t.bounds (t.parts.map Tm.raw)) := by
  unfold Tm.loose
  rw [t.raw_eq, putAll_app, own_put]
theorem keep_take (b : V) {l : List Str} {j : Nat} {n : Str} (h : l[j]? = some n) : keep b (l.take (j + 1)) = keep b (l.take j) ++ if V.str n = b then [] else [n] := by
  rw [List.take_add_one, h, keep_app]
  congr 1
  unfold keep
  by_cases e : V.str n = b
  · rw [if_pos e]
    exact List.filter_cons_of_neg (by simp [e])
  · rw [if_neg e]
    exact List.filter_cons_of_pos (by simp [e])
theorem rawAll_len : ∀ (bs : List V) (ls : List (List Str)), (rawAll bs ls).length ≤ (ls.map List.length).sum
  | [], ls => Nat.zero_le _
  | _ :: _, [] => Nat.le_refl _
  | b :: bs, l :: ls => by
    have h1 : (keep b l).length ≤ l.length := List.length_filter_le _ _
    have h2 := rawAll_len bs ls
    show (keep b l ++ rawAll bs ls).length ≤ _
    rw [List.length_append, List.map_cons, List.sum_cons]
    omega
theorem ok_loose_names (F : Fun K "loose_names" "loose_names" s_loose_names f fd) (T : Txt mg) (C_bound_in_parts : Cal P w K mg base "bound_in_parts" ["head", "many"] 1 spBounds f1 fd1) : FnOk P w K mg base CX0 2 f fd ["head", "loose_in_parts"] spLooseNames := by
  refine F.ok sc_loose_names (fun vs H Q E h => ?_) (fun cdv A outer s H vs Q E hr h => ?_)
  · obtain ⟨t, h, pl, S, ws, rfl, _⟩ := h
    rfl
  obtain ⟨t, h, pl, S, ws, rfl, hh, hp, hw, hz, q⟩ := h
  have hh' := hh
  rw [t.head_eq] at hh'
  have wl := hw.len
  rw [List.length_map] at wl
  have bl := t.bounds_len
  have zl : ∀ i, (putAll t.own (rawAll (t.bounds.take i) ((t.parts.map Tm.raw).take i))).length ≤ 900001 := fun i => by
    have h1 := putAll_len (rawAll (t.bounds.take i) ((t.parts.map Tm.raw).take i)) t.own
    have h2 := rawAll_len (t.bounds.take i) ((t.parts.map Tm.raw).take i)
    have h3 : (((t.parts.map Tm.raw).take i).map List.length).sum ≤ sizes t.parts := by
      rw [sizes_sum]
      generalize t.parts = ps
      clear h1 h2 q hw wl bl hh hh' hp hz
      induction ps generalizing i with
      | nil => rw [List.map_nil, List.take_nil]; exact Nat.le_refl _
      | cons a r ih =>
        cases i with
        | zero => exact Nat.zero_le _
        | succ i =>
          have := ih i
          have := a.raw_len
          rw [List.map_cons, List.take_succ_cons, List.map_cons, List.sum_cons, List.map_cons, List.sum_cons]
          omega
    have h4 := t.size_parts
    have h5 : t.own.length ≤ 1 := by cases t <;> simp [Tm.own]
    omega
  refine ⟨_, (pss_cons (ps_set (i := 2) sc_loose_names.nd rfl (Or.inl rfl) pe_dnewK)
      (pss_cut (ps_if (pt_k (PW.pt (pw_or (pt_cmpR op_eq (pe_ix ix_tup (pv 0) pe_int (fun _ _ => rfl)) pe_str (nomark _)) (pw_or1 (pt_cmpR op_eq (pe_ix ix_tup (pv 0) pe_int (fun _ _ => rfl)) pe_str (nomark _)))))) (pss_one (ps_dput (hu_of hr) (pv 2) (pe_ix ix_tup (pv 0) pe_int (fun _ _ => rfl)) pe_bl rfl)) pss_nil)
      (pss_cons (ps_for PassesOwn.never rfl (pi_zip (by rfl) T.zip (pa_cons (pv 1) (pa_cons (pe_call C_bound_in_parts.ok (hr.mono (by first | decide | omega)) rfl C_bound_in_parts.m C_bound_in_parts.kp C_bound_in_parts.b .nil pass0 (pa_cons (pv 0) (pa_cons (pe_callB call_len_seq (by rfl) T.len PySem.boot_len (pa_cons (pv 1) pa_nil)) pa_nil))) pa_nil))) (pg_tup rfl (pgs_cons (pg_name (i := 3) sc_loose_names.nd rfl (Or.inl rfl)) (pgs_cons (pg_name (i := 4) sc_loose_names.nd rfl (Or.inl rfl)) pgs_nil))) (pss_one (ps_for PassesOwn.never rfl (pi_list (pv 3)) (pg_name (i := 5) sc_loose_names.nd rfl (Or.inl rfl)) (pss_one (ps_if (pt_cmpR op_ne (pv 5) (pv 4) (nomark _)) (pss_one (ps_dput (hu_of hr) (pv 2) (pv 5) pe_bl rfl)) pss_nil)))))
      (pss_one (ps_ret (pe_callTy (call_list_dK rfl) (by rfl) T.list (by decide +kernel) (pa_cons (pv 2) pa_nil))))))), ?_⟩
  intro fa nfa
  have sfa : ∀ o, Same H (upd H fa o) := fun o => same_new nfa o
  refine ⟨fun σ H' => σ = [some (.ref h), some (.ref pl), some (.ref fa), none, none, none] ∧ Same H H' ∧ H' fa = some (.dK (trues t.own)), ?_, ?_⟩
  · refine ⟨fun b H' => upd H fa (.dK []) = H' ∧ b = decide (t.w = .name ∨ t.w = .use), ?_, ?_⟩
    · refine ⟨_, rfl, h, _, _, _, rfl, rfl, SqT.of (sfa _ _ _ hh'), atI_n (n := 0) rfl rfl, rfl, _, rfl, ite2 (fun c => ?_) fun c => ?_⟩
      · exact ⟨rfl, (decide_eq_true (.inl (str_w .name c))).symm⟩
      · refine ⟨_, rfl, h, _, _, _, rfl, rfl, SqT.of (sfa _ _ _ hh'), atI_n (n := 0) rfl rfl, rfl, _, rfl, rfl, ?_⟩
        by_cases c2 : t.w = .use
        · have e : decide (t.w = .name ∨ t.w = .use) = true := decide_eq_true (.inr c2)
          rw [e, c2]
          exact decide_eq_true rfl
        · have e : decide (t.w = .name ∨ t.w = .use) = false := decide_eq_false fun z => z.elim (str_nw .name c) c2
          rw [e]
          exact decide_eq_false fun z => c2 (W.inj (V.str.inj z))
    rintro b _ ⟨rfl, rfl⟩
    refine ite2 (fun c => ?_) fun c => ?_
    · rcases of_decide_eq_true c with c | c
      · obtain ⟨x, rfl⟩ := w_name c
        refine ⟨_, rfl, _, rfl, h, _, _, _, rfl, rfl, SqT.of (sfa _ _ _ hh), atI_n (n := 1) rfl rfl, fa, _, rfl, DPut.k (k := .inr x) upd_same (by decide), rfl, ?_, ?_⟩
        · rw [upd_upd]
          exact sfa _
        · rw [upd_same]
          exact congrArg (fun z => some (HO.dK z)) (trues_put [] x)
      · obtain ⟨g, a, rfl⟩ := w_use c
        refine ⟨_, rfl, _, rfl, h, _, _, _, rfl, rfl, SqT.of (sfa _ _ _ hh), atI_n (n := 1) rfl rfl, fa, _, rfl, DPut.k (k := .inr g) upd_same (by decide), rfl, ?_, ?_⟩
        · rw [upd_upd]
          exact sfa _
        · rw [upd_same]
          exact congrArg (fun z => some (HO.dK z)) (trues_put [] g)
    · have c' : ¬ (t.w = .name ∨ t.w = .use) := fun z => c (decide_eq_true z)
      refine ⟨rfl, sfa _, ?_⟩
      have e : t.own = [] := by
        cases t with
        | name x => exact absurd (.inl rfl) c'
        | use g a => exact absurd (.inr rfl) c'
        | _ => rfl
      rw [e]
      exact upd_same
  rintro σ H1 ⟨rfl, g1, hfa⟩
  -- for names, bound in zip(loose_in_parts, bound_in_parts(head, len(loose_in_parts)))
  refine ⟨_, rfl, _, rfl, _, rfl, pl, _, rfl, .inl (SqL.of (g1 _ _ hp)), t, h, by rw [wl]; rfl, g1 _ _ hh, fun rb H3 nrb e3 hrb => ?_⟩
  have g3 := g1.trans e3
  have hp3 := g3 _ _ hp
  have npf : pl ≠ fa := ne_of_none hp nfa
  have nrf : rb ≠ fa := fun z => by rw [z, hfa] at nrb; cases nrb
  refine ⟨pl, rb, ws, t.bounds, rfl, SqL.of hp3, SqL.of hrb, RZ.for_zipL (K := K) (by omega) (fun i σ H' => ∃ o1 o2 o3 : Option V, σ = [some (.ref h), some (.ref pl), some (.ref fa), o1, o2, o3] ∧ (∀ b o, b ≠ fa → H3 b = some o → H' b = some o) ∧
      H' fa = some (.dK (trues (putAll t.own (rawAll (t.bounds.take i) ((t.parts.map Tm.raw).take i)))))) ⟨none, none, none, rfl, fun _ _ _ z => z, by rw [List.take_zero]; exact e3 _ _ hfa⟩ (fun i σ H' ⟨_, _, _, _, z, _⟩ => ⟨SqL.of (z _ _ npf hp3), SqL.of (z _ _ nrf hrb)⟩) ?_ ?_⟩
  · rintro i x y Tn σ H' hx hy ⟨o1, o2, o3, rfl, k3, hf3⟩ nT
    have il : i < t.parts.length := by
      have := (List.getElem?_eq_some_iff.mp hx).1
      omega
    obtain ⟨la, hla, _, ha⟩ := hw.get (i := i) (l := t.parts[i].loose) (by rw [List.getElem?_map, List.getElem?_eq_getElem il]; rfl)
    rw [hx] at hla
    cases hla
    have naf : la ≠ fa := ne_of_none ha nfa
    have s9 := same_new nT (.tup [V.ref la, y])
    have ha9 := s9 _ _ (k3 _ _ naf (g3 _ _ ha))
    have hf9 := s9 _ _ hf3
    have k9 : ∀ b o, b ≠ fa → H3 b = some o → upd H' Tn (.tup [V.ref la, y]) b = some o := fun b o n z => s9 _ _ (k3 b o n z)
    refine ⟨Tn, _, rfl, SqT.of upd_same, rfl, _, _, rfl, _, _, rfl, rfl, ?_⟩
    generalize upd H' Tn (.tup [V.ref la, y]) = H9 at ha9 hf9 k9 ⊢
    refine ⟨_, rfl, la, rfl, ⟨_, SqL.of ha9⟩, for_list (K := K) (a := la) (xs := t.parts[i].loose.map V.str) (fun j σ H'' => ∃ o5 : Option V, σ = [some (.ref h), some (.ref pl), some (.ref fa), some (.ref la), some y, o5] ∧ (∀ b o, b ≠ fa → H9 b = some o → H'' b = some o) ∧
      H'' fa = some (.dK (trues (putAll (putAll t.own (rawAll (t.bounds.take i) ((t.parts.map Tm.raw).take i))) (keep y (t.parts[i].loose.take j)))))) ⟨o3, rfl, fun _ _ _ z => z, by rw [List.take_zero]; exact hf9⟩ (fun j σ H'' _ ⟨_, _, z, _⟩ => SqL.of (z _ _ naf ha9)) ?_ ?_⟩
    · rintro j nv σ H'' hj ⟨o5, rfl, k5, hf5⟩
      rw [List.getElem?_map] at hj
      obtain ⟨nm, hn⟩ : ∃ nm, t.parts[i].loose[j]? = some nm := by
        cases z : t.parts[i].loose[j]? with
        | none => rw [z] at hj; cases hj
        | some p => exact ⟨p, rfl⟩
      rw [hn] at hj
      cases hj
      refine ⟨_, rfl, _, rfl, bounds_scal (List.mem_of_getElem? hy) nm, _, rfl, ite2 (fun c => ?_) fun c => ?_⟩
      · have ne : ¬ V.str nm = y := fun z => by rw [decide_eq_true z] at c; cases c
        have lt9 : (trues (putAll (putAll t.own (rawAll (t.bounds.take i) ((t.parts.map Tm.raw).take i))) (keep y (t.parts[i].loose.take j)))).length < sizeLine := by
          rw [trues_len]
          have h1 := putAll_len (keep y (t.parts[i].loose.take j)) (putAll t.own (rawAll (t.bounds.take i) ((t.parts.map Tm.raw).take i)))
          have h2 := zl i
          have h3 : (keep y (t.parts[i].loose.take j)).length ≤ (t.parts[i].loose.take j).length := List.length_filter_le _ _
          have h4 : (t.parts[i].loose.take j).length ≤ t.parts[i].loose.length := by rw [List.length_take]; exact Nat.min_le_right _ _
          have h5 := t.parts[i].loose_len
          have h6 := Tm.part_size (List.getElem_mem il)
          exact Nat.lt_of_le_of_lt (by omega : _ ≤ 1900000) (by decide)
        refine ⟨_, rfl, _, rfl, fa, _, rfl, DPut.k (k := .inr nm) hf5 lt9, _, rfl, fun b o n z => ?_, ?_⟩
        · rw [upd_ne n]
          exact k5 b o n z
        · rw [upd_same, trues_put, keep_take y hn, if_neg ne, putAll_snoc]
      · have e : V.str nm = y := by
          by_cases z : V.str nm = y
          · exact z
          · rw [decide_eq_false z] at c
            exact absurd rfl c
        refine ⟨_, rfl, k5, ?_⟩
        rw [keep_take y hn, if_pos e, List.append_nil]
        exact hf5
    · rintro σ H'' ⟨o5, rfl, k5, hf5⟩
      rw [List.length_map, List.take_length] at hf5
      refine ⟨_, _, _, rfl, fun b o n z => k5 b o n (k9 b o n z), ?_⟩
      have e1 : putAll (putAll t.own (rawAll (t.bounds.take i) ((t.parts.map Tm.raw).take i))) (keep y t.parts[i].loose) = putAll t.own (rawAll (t.bounds.take (i + 1)) ((t.parts.map Tm.raw).take (i + 1))) := by
        rw [rawAll_take hy (show (t.parts.map Tm.raw)[i]? = some t.parts[i].raw by rw [List.getElem?_map, List.getElem?_eq_getElem il]; rfl), putAll_app]
        exact putAll_thin y _ _
      rw [← e1]
      exact hf5
  · rintro σ H' ⟨o1, o2, o3, rfl, k3, hf3⟩
    have e1 : t.bounds.take ws.length = t.bounds := List.take_of_length_le (by omega)
    have e2 : (t.parts.map Tm.raw).take ws.length = t.parts.map Tm.raw := List.take_of_length_le (by rw [List.length_map]; omega)
    rw [e1, e2, ← loose_eq] at hf3
    refine ⟨_, rfl, fa, _, rfl, hf3, fun r nr => ?_⟩
    rw [trues_keys]
    have gg : Same H H' := fun b o z => k3 b o (ne_of_none z nfa) (g3 _ _ z)
    exact q r _ (gg.free nr) (gg.trans (same_new nr _)) upd_same
end

section
variable {P : Program} {w : World} {K : PySem.W.Frag} {mg : Str → Option Value} {base : Heap} {pa ta C f f1 f2 f3 f4 f5 f6 f7 f8 : Addr} {fd fd1 fd2 fd3 fd4 fd5 fd6 fd7 fd8 : FuncData}
/-- only the lists that stand there count -/
theorem RowsAt.live {H : Hp} {R : Addr} {ts : List Tm} {Ps : List Addr} (h : RowsAt H R ts Ps) : ∃ Ps', RowsAt H R ts Ps' ∧ ∀ p ∈ Ps', H p ≠ none := by
  classical
  obtain ⟨rs, h1, h2, h3⟩ := h
  refine ⟨Ps.filter fun p => decide (H p ≠ none), ⟨rs, h1, h2, fun i t hi => ?_⟩, fun p hp => of_decide_eq_true (List.mem_filter.mp hp).2⟩
  obtain ⟨r, h, pl, ps, a1, a2, a3, a4, a5, a6⟩ := h3 i t hi
  exact ⟨r, h, pl, ps, a1, a2, a3, a4, List.mem_filter.mpr ⟨a5, decide_eq_true (by rw [a4]; exact fun z => nomatch z)⟩, a6⟩
/-- for each row the names loose in its term, in new lists -/
def spLooseRows : Sp := fun vs H Q _ => ∃ (R : Addr) (ts : List Tm) (Ps : List Addr), vs = [.ref R] ∧ RowsAt H R ts Ps ∧ ts.length ≤ 900000 ∧ (∀ u ∈ ts, u.size ≤ 900000) ∧
  ∀ (S : Addr) (ws : List V) (H' : Hp), H S = none → Same H H' → H' S = some (.lst ws) → NmsAt H' [S] ws (ts.map Tm.loose) → (∀ u ∈ ws, ∀ a, u = .ref a → H a = none) → Q (.ref S) H'
abbrev s_loose_in_rows : Stmt := topS 3
theorem sc_loose_in_rows : FnScope ["rows", "loose", "head", "places", "place"] ["rows"] (defScope s_loose_in_rows) := ⟨rfl, rfl, rfl, by decide +kernel, rfl, by decide +kernel, by decide +kernel⟩
theorem ok_loose_rows (F : Fun K "loose_in_rows" "loose_in_rows" s_loose_in_rows f fd) (C_loose_names : Cal P w K mg base "loose_names" ["head", "loose_in_parts"] 2 spLooseNames f2 fd2) : FnOk P w K mg base CX0 3 f fd ["rows"] spLooseRows := by
  refine F.ok sc_loose_in_rows (fun vs H Q E h => ?_) (fun cdv A outer s H vs Q E hr h => ?_)
  · obtain ⟨R, ts, Ps, rfl, _⟩ := h
    rfl
  obtain ⟨R, ts, Ps0, rfl, hrows0, hln, hall, q⟩ := h
  obtain ⟨Ps, hrows1, hPs⟩ := hrows0.live
  refine ⟨_, (pss_cons (ps_set (i := 1) sc_loose_in_rows.nd rfl (Or.inr rfl) (pe_lst pa_nil))
      (pss_cons (ps_for PassesOwn.never rfl (pi_list (pv 0)) (pg_tup rfl (pgs_cons (pg_name (i := 2) sc_loose_in_rows.nd rfl (Or.inl rfl)) (pgs_cons (pg_name (i := 3) sc_loose_in_rows.nd rfl (Or.inl rfl)) pgs_nil))) (pss_one (ps_expr (pe_bm PySem.F.plainAttrs_list PySem.F.slot_list_append PySem.F.type_list_append mt_append (pv 1) (pa_cons (pe_call C_loose_names.ok (hr.mono (by first | decide | omega)) rfl C_loose_names.m C_loose_names.kp C_loose_names.b .nil pass0 (pa_cons (pv 2) (pa_cons (pe_lc (own := [("place", 4)]) (g := (gName 4)) (tt := tYes) (by rfl) sc_loose_in_rows.nd (pi_list (pv 3)) (blkOk_by (own := [("place", 4)]) (N := ["rows", "loose", "head", "places", "place"]) (sc := defScope s_loose_in_rows) (by decide +kernel)) (fun _ _ _ _ _ => (pg_name (i := 4) sc_loose_in_rows.nd rfl (Or.inl rfl))) (fun _ _ _ _ _ => pts_nil) (fun _ _ _ _ _ => (pe_ix (r := rIxL K) ix_list (pv 1) (pv 4) (fun _ _ => rfl)))) pa_nil))) pa_nil)))))
      (pss_one (ps_ret (pv 1))))), ?_⟩
  refine ⟨Nat.zero_le _, fun S nS => ?_⟩
  have sS := same_new nS (.lst [])
  have hrows := hrows1.keep (Keeps.of_same (Ls := []) sS)
  have hS2 : upd H S (.lst []) S = some (.lst []) := upd_same
  obtain ⟨rs, hR, rl, hrs⟩ := id hrows
  have nSR : S ≠ R := fun z => by obtain ⟨_, z1, _⟩ := id hrows1; rw [← z, nS] at z1; cases z1
  have nSP : S ∉ Ps := fun m => hPs _ m nS
  generalize upd H S (.lst []) = H2 at sS hrows hS2 hR hrs ⊢
  -- the lists are new: none of them stood at the start
  refine ⟨_, rfl, R, rfl, ⟨_, SqL.of hR⟩, for_list (K := K) (a := R) (xs := rs) (fun i σ H' => ∃ (o1 o2 : Option V) (vs : List V), σ = [some (.ref R), some (.ref S), o1, o2, none] ∧ Same H H' ∧ RowsAt H' R ts Ps ∧ H' R = some (.lst rs) ∧ H' S = some (.lst vs) ∧ NmsAt H' [S] vs ((ts.take i).map Tm.loose) ∧
      (∀ u ∈ vs, ∀ a, u = .ref a → H a = none)) ⟨none, none, [], rfl, sS, hrows, hR, hS2, by rw [List.take_zero]; exact True.intro, fun u hu => by cases hu⟩ (fun i σ H' _ ⟨_, _, _, _, _, _, z, _⟩ => SqL.of z) ?_ ?_⟩
  · rintro i x σ H' hi ⟨o1, o2, vs, rfl, g, hrows', hR', hS', hvs, hnew⟩
    have hil : i < ts.length := by
      have z := (List.getElem?_eq_some_iff.mp hi).1
      rw [rl] at z
      exact z
    obtain ⟨rs', hR'', _, hrs'⟩ := id hrows'
    rw [hR'] at hR''
    cases hR''
    obtain ⟨r, h, pl, ps, a1, a2, a3, a4, a5, a6⟩ := hrs' i _ (List.getElem?_eq_getElem hil)
    rw [hi] at a1
    cases a1
    have psl : ps.length ≤ 3 := by rw [a6.len]; exact Tm.len_parts _
    have vl := hvs.len
    rw [List.length_map, List.length_take] at vl
    refine ⟨r, _, rfl, SqT.of a2, rfl, _, _, rfl, _, _, rfl, rfl, ?_⟩
    refine ⟨_, rfl, .inl ⟨rfl, _, SqL.of hS'⟩, _, rfl, _, rfl, pl, rfl, ⟨_, SqL.of a4⟩, fun D nD => ?_⟩
    refine lc_list (K := K) (a := pl) (xs := nats ps) (fun j H3 => Same H' H3 ∧ ∃ ws, H3 D = some (.lst ws) ∧ NmsAt H3 [D, S] ws ((ts[i].parts.take j).map Tm.loose)) ⟨same_new nD _, [], upd_same, by rw [List.take_zero]; exact True.intro⟩ (fun j H3 _ z => SqL.of (z.1 _ _ a4)) ?_ ?_
    · rintro j y H3 hj ⟨g3, ws, hD, hws⟩
      unfold nats at hj
      rw [List.getElem?_map] at hj
      obtain ⟨p, hp⟩ : ∃ p, ps[j]? = some p := by
        cases z : ps[j]? with
        | none => rw [z] at hj; cases hj
        | some p => exact ⟨p, rfl⟩
      rw [hp] at hj
      cases hj
      obtain ⟨u, u1, u2, u3⟩ := a6.at hp
      obtain ⟨la, e9, n9, w9⟩ := hvs.get (i := p) (l := u.loose) (by rw [List.getElem?_map, List.getElem?_take_of_lt u2, u3]; rfl)
      have jl : j < ps.length := (List.getElem?_eq_some_iff.mp hp).1
      have wl := hws.len
      rw [List.length_map, List.length_take] at wl
      have naD : la ≠ D := ne_of_none w9 nD
      refine ⟨rfl, _, rfl, _, rfl, S, _, _, _, rfl, rfl, SqL.of (g3 _ _ hS'), atI_nat e9, _, hD, small1000 (by omega), fun b o z => ?_, _, upd_same, ?_⟩
      · rw [upd_ne (ne_of_none z nD)]
        exact g3 b o z
      · rw [List.take_add_one, u1, List.map_append]
        refine NmsAt.snoc (fun z => (List.mem_cons.mp z).elim naD n9) ?_ (hws.mono fun b o n z => ?_)
        · rw [upd_ne naD]
          exact g3 _ _ w9
        · rw [upd_ne fun (z : b = D) => n (by rw [z]; exact List.mem_cons_self)]
          exact z
    · rintro H3 ⟨g3, ws, hD, hws⟩
      have e9 : (nats ps).length = ts[i].parts.length := by unfold nats; rw [List.length_map]; exact a6.len
      rw [e9, List.take_length] at hws
      have hsz : ts[i].size ≤ 900000 := hall _ (List.getElem_mem hil)
      refine ⟨ts[i], h, D, [D, S], ws, rfl, g3 _ _ a3, hD, hws, hsz, fun u H4 nu e4 wu => ?_⟩
      have g4 := g3.trans e4
      have hS4 := g4 _ _ hS'
      have nuS : u ≠ S := fun z => by rw [z, g3 _ _ hS'] at nu; cases nu
      refine ⟨S, _, _, rfl, rfl, hS4, sz9 (by omega), ?_⟩
      have kS : ∀ b o, b ∉ [S] → H4 b = some o → upd H4 S (.lst (vs ++ [V.ref u])) b = some o := fun b o n z => by
        rw [upd_ne fun (y : b = S) => n (by rw [y]; exact List.mem_cons_self)]
        exact z
      refine ⟨_, _, vs ++ [.ref u], rfl, fun b o z => ?_, (hrows'.keep (Keeps.of_same (Ls := []) g4)).put hS4 nSR nSP, ?_, upd_same, ?_, fun y hy a ea => ?_⟩
      · rw [upd_ne (ne_of_none z nS)]
        exact g4 _ _ (g _ _ z)
      · rw [upd_ne nSR.symm]
        exact g4 _ _ hR'
      · rw [List.take_succ_eq_append_getElem hil, List.map_append]
        refine NmsAt.snoc (fun z => nuS (List.mem_singleton.mp z)) (kS _ _ (fun z => nuS (List.mem_singleton.mp z)) wu) ((hvs.mono fun b o _ z => g4 _ _ z).mono kS)
      · rcases List.mem_append.mp hy with hy | hy
        · exact hnew y hy a ea
        · rw [List.mem_singleton.mp hy] at ea
          cases ea
          exact (g.trans g3).free nu
  · rintro σ H' ⟨o1, o2, vs, rfl, g, hrows', hR', hS', hvs, hnew⟩
    rw [rl, List.take_length] at hvs
    exact ⟨_, rfl, q S vs H' nS g hS' hvs hnew⟩
theorem ok_loose_in (F : Fun K "loose_in" "loose_in" s_loose_in f fd) (C_rows_of : Cal P w K mg base "rows_of" ["term"] 65 spRows f1 fd1) (C_loose_in_rows : Cal P w K mg base "loose_in_rows" ["rows"] 3 spLooseRows f2 fd2) : FnOk P w K mg base CX0 66 f fd ["term"] spLoose := by
  refine F.ok sc_loose_in (fun vs H Q E h => ?_) (fun cdv A outer s H vs Q E hr h => ?_)
  · obtain ⟨t, v, rfl, _⟩ := h
    rfl
  obtain ⟨t, v, rfl, ht, hok, h60, hz, q⟩ := h
  refine ⟨_, (pss_one (ps_ret (pe_ix ix_list (pe_call C_loose_in_rows.ok (hr.mono (by first | decide | omega)) rfl C_loose_in_rows.m C_loose_in_rows.kp C_loose_in_rows.b .nil pass0 (pa_cons (pe_call C_rows_of.ok (hr.mono (by first | decide | omega)) rfl C_rows_of.m C_rows_of.kp C_rows_of.b .nil pass0 (pa_cons (pv 0) pa_nil)) pa_nil)) (pe_un un_neg pe_int) (fun _ _ => rfl)))), ?_⟩
  refine ⟨_, rfl, t, v, rfl, ht, hok, h60, hz, fun R ts Ps H2 e2 hrows nR nP hl hlast hall0 => ?_⟩
  have hall : ∀ u ∈ ts, u.size ≤ 900000 := fun u hu => Nat.le_trans (hall0 u hu) hz
  refine ⟨R, ts, Ps, rfl, hrows, by omega, hall, fun S vs H3 nS e3 hS hvs hnew => ?_⟩
  obtain ⟨more, e⟩ := hlast
  rw [e] at hvs
  have vl := hvs.len
  rw [List.length_map, List.length_append, List.length_singleton] at vl
  obtain ⟨u, eu, _, wu⟩ := hvs.get (i := more.length) (l := t.loose) (by rw [List.getElem?_map, List.getElem?_append_right (Nat.le_refl _), Nat.sub_self]; rfl)
  refine ⟨_, rfl, S, _, _, _, rfl, rfl, SqL.of hS, ?_, q u H3 (e2.free (hnew _ (List.mem_of_getElem? eu) u rfl)) (e2.trans e3) wu⟩
  unfold atI ixN
  rw [if_neg (by decide), if_pos (by omega), show (-1 + (vs.length : Int)).toNat = more.length by omega]
  exact eu
end

/-! ### the law of loose names: all names, with those that are bound -/
def Tm.all : Tm → List Str → List (Str × Bool)
  | .num _, _ => []
  | .name x, hs => [(x, decide (x ∈ hs))]
  | .bin _ a b, hs => a.all hs ++ b.all hs
  | .cond c a b, hs => c.all hs ++ (a.all hs ++ b.all hs)
  | .letx x a b, hs => a.all hs ++ b.all (hs ++ [x])
  | .turns _ x a b, hs => a.all hs ++ b.all (hs ++ [x])
  | .deff f x _ a b, hs => a.all (hs ++ [x]) ++ b.all (hs ++ [f])
  | .use f a, hs => (f, decide (f ∈ hs)) :: a.all hs
  | .un _ a, hs => a.all hs
def free (ps : List (Str × Bool)) : List Str := (ps.filter fun p => !p.2).map (·.1)
theorem free_app (a b : List (Str × Bool)) : free (a ++ b) = free a ++ free b := by
  unfold free
  rw [List.filter_append, List.map_append]
def out (hs l : List Str) : List Str := l.filter fun x => !decide (x ∈ hs)
theorem out_app (hs a b : List Str) : out hs (a ++ b) = out hs a ++ out hs b := List.filter_append _ _
theorem out_keep (hs l : List Str) (x : Str) : out hs (keep (.str x) l) = out (hs ++ [x]) l := by
  unfold out keep
  rw [List.filter_filter]
  refine List.filter_congr fun y _ => ?_
  have e : (decide (V.str y = V.str x)) = decide (y = x) := by
    by_cases h : y = x
    · rw [h, decide_eq_true rfl, decide_eq_true rfl]
    · rw [decide_eq_false h, decide_eq_false fun z => h (V.str.inj z)]
  rw [e]
  by_cases h1 : y ∈ hs <;> by_cases h2 : y = x <;> simp [h1, h2]
theorem free_one (x : Str) (hs : List Str) : free [(x, decide (x ∈ hs))] = out hs [x] := by
  unfold free out
  by_cases h : x ∈ hs
  · rw [decide_eq_true h, List.filter_cons_of_neg (by simp), List.filter_cons_of_neg (by simp [h])]
    rfl
  · rw [decide_eq_false h, List.filter_cons_of_pos (by simp), List.filter_cons_of_pos (by simp [h])]
    rfl
theorem Tm.all_free : ∀ (t : Tm) (hs : List Str), free (t.all hs) = out hs t.raw := by
  intro t
  induction t with
  | num n => intro hs; rfl
  | name x => intro hs; exact free_one x hs
  | bin o a b iha ihb => intro hs; simp only [Tm.all, Tm.raw, free_app, out_app, iha, ihb]
  | cond c a b ihc iha ihb => intro hs; simp only [Tm.all, Tm.raw, free_app, out_app, iha, ihb, ihc]
  | letx x a b iha ihb => intro hs; simp only [Tm.all, Tm.raw, free_app, out_app, iha, ihb, out_keep]
  | turns n x a b iha ihb => intro hs; simp only [Tm.all, Tm.raw, free_app, out_app, iha, ihb, out_keep]
  | deff f x k a b iha ihb => intro hs; simp only [Tm.all, Tm.raw, free_app, out_app, iha, ihb, out_keep]
  | use f a iha =>
    intro hs
    show free ([(f, decide (f ∈ hs))] ++ a.all hs) = out hs ([f] ++ a.raw)
    rw [free_app, out_app, iha, free_one]
  | un o a iha => intro hs; exact iha hs
theorem all_free0 (t : Tm) : free (t.all []) = t.raw := by
  rw [t.all_free]
  unfold out
  rw [List.filter_eq_self]
  intro x _
  rfl
def Tm.ownP (t : Tm) (hs : List Str) : List (Str × Bool) := t.own.map fun x => (x, decide (x ∈ hs))
def Tm.helds : Tm → List Str → List (List Str)
  | .letx x _ _, hs => [hs, hs ++ [x], hs]
  | .turns _ x _ _, hs => [hs, hs ++ [x], hs]
  | .deff f x _ _ _, hs => [hs ++ [x], hs ++ [f]]
  | _, hs => [hs, hs, hs]
def Tm.helds1 : Tm → List Str → List (List Str)
  | .letx x _ _, hs => [hs, hs ++ [x], hs]
  | _, hs => [hs, hs, hs]
def Tm.helds2 : Tm → List Str → List (List Str)
  | .letx x _ _, hs => [hs, hs ++ [x], hs]
  | .turns _ x _ _, hs => [hs, hs ++ [x], hs]
  | _, hs => [hs, hs, hs]
theorem Tm.helds_short (t : Tm) (hs : List Str) : ∀ l ∈ t.helds hs, l.length ≤ hs.length + 1 := by
  intro l hl
  cases t <;> simp only [Tm.helds, List.mem_cons, List.not_mem_nil, or_false] at hl
  all_goals first
    | (rcases hl with rfl | rfl | rfl <;> simp)
    | (rcases hl with rfl | rfl <;> simp)
def allAll : List Tm → List (List Str) → List (Str × Bool)
  | t :: ts, h :: hs => t.all h ++ allAll ts hs
  | _, _ => []
theorem Tm.all_eq (t : Tm) (hs : List Str) : t.all hs = t.ownP hs ++ allAll t.parts (t.helds hs) := by
  cases t <;> simp only [Tm.all, Tm.ownP, Tm.own, Tm.helds, Tm.parts, allAll, List.map_cons, List.map_nil, List.append_nil, List.nil_append, List.cons_append]
theorem Tm.helds_len (t : Tm) (hs : List Str) : t.parts.length ≤ (t.helds hs).length := by
  cases t <;> simp only [Tm.parts, Tm.helds, List.length_cons, List.length_nil] <;> omega
theorem allAll_take : ∀ {ts : List Tm} {hs : List (List Str)} {i : Nat} {t : Tm} {h : List Str}, ts[i]? = some t → hs[i]? = some h → allAll (ts.take (i + 1)) (hs.take (i + 1)) = allAll (ts.take i) (hs.take i) ++ t.all h
  | [], _, _, _, _, h, _ => by simp at h
  | _ :: _, [], _, _, _, _, h => by simp at h
  | b0 :: bs, l0 :: ls, 0, b, l, h1, h2 => by
    simp only [List.getElem?_cons_zero, Option.some.injEq] at h1 h2
    subst h1 h2
    simp only [List.take_succ_cons, List.take_zero, allAll, List.append_nil, List.nil_append]
  | b0 :: bs, l0 :: ls, i + 1, b, l, h1, h2 => by
    simp only [List.getElem?_cons_succ] at h1 h2
    rw [List.take_succ_cons, List.take_succ_cons, List.take_succ_cons, List.take_succ_cons]
    show b0.all l0 ++ allAll (bs.take (i + 1)) (ls.take (i + 1)) = b0.all l0 ++ allAll (bs.take i) (ls.take i) ++ b.all l
    rw [allAll_take h1 h2, List.append_assoc]
theorem Tm.all_len : ∀ (t : Tm) (hs : List Str), (t.all hs).length ≤ t.size := by
  intro t
  induction t with
  | num n => intro hs; exact Nat.zero_le _
  | name n => intro hs; exact Nat.le_refl _
  | bin o a b iha ihb => intro hs; have := iha hs; have := ihb hs; simp only [Tm.all, Tm.size, List.length_append]; omega
  | cond c a b ihc iha ihb => intro hs; have := iha hs; have := ihb hs; have := ihc hs; simp only [Tm.all, Tm.size, List.length_append]; omega
  | letx x a b iha ihb => intro hs; have := iha hs; have := ihb (hs ++ [x]); simp only [Tm.all, Tm.size, List.length_append]; omega
  | turns n x a b iha ihb => intro hs; have := iha hs; have := ihb (hs ++ [x]); simp only [Tm.all, Tm.size, List.length_append]; omega
  | deff f x k a b iha ihb => intro hs; have := iha (hs ++ [x]); have := ihb (hs ++ [f]); simp only [Tm.all, Tm.size, List.length_append]; omega
  | use f a iha => intro hs; have := iha hs; simp only [Tm.all, Tm.size, List.length_cons]; omega
  | un o a iha => intro hs; exact Nat.le_trans (iha hs) (by simp only [Tm.size]; omega)
theorem allAll_len : ∀ (ts : List Tm) (hs : List (List Str)), (allAll ts hs).length ≤ sizes ts
  | [], _ => Nat.zero_le _
  | _ :: _, [] => Nat.zero_le _
  | t :: ts, h :: hs => by
    have h1 := t.all_len h
    have h2 := allAll_len ts hs
    show (t.all h ++ allAll ts hs).length ≤ t.size + sizes ts
    rw [List.length_append]
    omega
theorem allAll_cut : ∀ (ts : List Tm) (hs : List (List Str)), allAll ts (hs.take ts.length) = allAll ts hs
  | [], _ => by cases ‹List (List Str)› <;> rfl
  | _ :: _, [] => rfl
  | t :: ts, h :: hs => by
    show t.all h ++ allAll ts (hs.take ts.length) = t.all h ++ allAll ts hs
    rw [allAll_cut ts hs]
theorem NmsAt.less {H : Hp} {S : List Addr} : ∀ {vs : List V} {ls : List (List Str)}, NmsAt H S vs ls → NmsAt H [] vs ls
  | [], [], _ => True.intro
  | _ :: _, _ :: _, ⟨⟨a, h1, _, h3⟩, r⟩ => ⟨⟨a, h1, (fun z => by cases z), h3⟩, NmsAt.less r⟩
  | [], _ :: _, h => h.elim
  | _ :: _, [], h => h.elim
/-- lists of a name and a truth -/
def PairsAt (H : Hp) : List V → List (Str × Bool) → Prop
  | [], [] => True
  | v :: vs, p :: ps => (∃ a, v = .ref a ∧ H a = some (.lst [.str p.1, .bl p.2])) ∧ PairsAt H vs ps
  | _, _ => False
theorem PairsAt.mono {H H' : Hp} (e : Same H H') : ∀ {vs : List V} {ps : List (Str × Bool)}, PairsAt H vs ps → PairsAt H' vs ps
  | [], [], _ => True.intro
  | _ :: _, _ :: _, ⟨⟨a, h1, h2⟩, r⟩ => ⟨⟨a, h1, e _ _ h2⟩, PairsAt.mono e r⟩
  | [], _ :: _, h => h.elim
  | _ :: _, [], h => h.elim
theorem PairsAt.len {H : Hp} : ∀ {vs : List V} {ps : List (Str × Bool)}, PairsAt H vs ps → vs.length = ps.length
  | [], [], _ => rfl
  | _ :: _, _ :: _, ⟨_, r⟩ => congrArg (· + 1) (PairsAt.len r)
  | [], _ :: _, h => h.elim
  | _ :: _, [], h => h.elim
theorem PairsAt.app {H : Hp} : ∀ {r : List V} {x : List (Str × Bool)} {s : List V} {y : List (Str × Bool)}, PairsAt H r x → PairsAt H s y → PairsAt H (r ++ s) (x ++ y)
  | [], [], _, _, _, h => h
  | _ :: _, _ :: _, _, _, ⟨a, b⟩, h => ⟨a, PairsAt.app b h⟩
  | [], _ :: _, _, _, h, _ => h.elim
  | _ :: _, [], _, _, h, _ => h.elim
theorem PairsAt.get {H : Hp} : ∀ {vs : List V} {ps : List (Str × Bool)} {i : Nat} {v : V}, PairsAt H vs ps → vs[i]? = some v → ∃ p a, ps[i]? = some p ∧ v = .ref a ∧ H a = some (.lst [.str p.1, .bl p.2])
  | [], [], _, _, _, e => by simp at e
  | v :: vs, p :: ps, 0, _, ⟨⟨a, h1, h2⟩, _⟩, e => by
    simp only [List.getElem?_cons_zero, Option.some.injEq] at e
    subst e
    exact ⟨p, a, rfl, h1, h2⟩
  | v :: vs, p :: ps, i + 1, _, ⟨_, r⟩, e => by
    simp only [List.getElem?_cons_succ] at e
    obtain ⟨q, a, q1, q2⟩ := PairsAt.get r e
    exact ⟨q, a, by simpa using q1, q2⟩
  | [], _ :: _, _, _, h, _ => h.elim
  | _ :: _, [], _, _, h, _ => h.elim
def spAll (n : Nat) : Sp := fun vs H Q _ => ∃ (t : Tm) (v : V) (hl : Addr) (hs : List Str), vs = [v, .ref hl] ∧ TmAt H t v ∧ t.deep ≤ n ∧ H hl = some (.lst (hs.map V.str)) ∧ hs.length + n ≤ 60 ∧ t.size ≤ 900000 ∧
  ∀ (r : Addr) (its : List V) (H' : Hp), Same H H' → H' r = some (.lst its) → PairsAt H' its (t.all hs) → Q (.ref r) H'
abbrev s_all : Stmt := topS 21
theorem sc_all : FnScope ["_law_term", "_law_held", "_law_found", "_law_parts_here", "_law_more", "_law_k"] ["_law_term", "_law_held"] (defScope s_all) := ⟨rfl, rfl, rfl, by decide +kernel, rfl, by decide +kernel, by decide +kernel⟩
section
variable {P : Program} {w : World} {K : PySem.W.Frag} {mg : Str → Option Value} {base : Heap} {pa ta C f f1 f2 f3 f4 f5 f6 f7 f8 : Addr} {fd fd1 fd2 fd3 fd4 fd5 fd6 fd7 fd8 : FuncData}
theorem strs_len {hs : List Str} (h : hs.length ≤ 60) : (hs.map V.str).length + 1 ≤ sizeLine := sz _ (by rw [List.length_map]; omega)
theorem ok_all {n : Nat} (F : Fun K "_law_all" "_law_all" s_all f fd) (T : Txt mg) (C_law_parts : Cal P w K mg base "_law_parts" ["_law_term"] 1 spParts f1 fd1) (C_law_all : Cal P w K mg base "_law_all" ["_law_term", "_law_held"] (1 + n) (spAll n) f fd) :
    FnOk P w K mg base CX0 (1 + n + 1) f fd ["_law_term", "_law_held"] (spAll (n + 1)) := by
  refine F.ok sc_all (fun vs H Q E h => ?_) (fun cdv A outer s H vs Q E hr h => ?_)
  · obtain ⟨t, v, hl, hs, rfl, _⟩ := h
    rfl
  obtain ⟨t, v, hl, hs, rfl, ht, hn, hh, h60, hz, q⟩ := h
  refine ⟨_, (pss_cons (ps_set (i := 2) sc_all.nd rfl (Or.inl rfl) (pe_lst pa_nil))
      (pss_cut (ps_if (pt_cmpR op_in_seq (pe_ix ix_tup (pv 0) pe_int (fun _ _ => rfl)) (pe_tup (pa_cons pe_str (pa_cons pe_str pa_nil))) (by rfl)) (pss_one (ps_expr (pe_bm PySem.F.plainAttrs_list PySem.F.slot_list_append PySem.F.type_list_append mt_append (pv 2) (pa_cons (pe_lst (pa_cons (pe_ix ix_tup (pv 0) pe_int (fun _ _ => rfl)) (pa_cons (pe_cmpR op_in_seq (pe_ix ix_tup (pv 0) pe_int (fun _ _ => rfl)) (pv 1) (by rfl)) pa_nil))) pa_nil)))) pss_nil)
      (pss_cons (ps_set (i := 3) sc_all.nd rfl (Or.inl rfl) (pe_call C_law_parts.ok (hr.mono (by first | decide | omega)) rfl C_law_parts.m C_law_parts.kp C_law_parts.b .nil pass0 (pa_cons (pv 0) pa_nil)))
      (pss_cons (ps_set (i := 4) sc_all.nd rfl (Or.inl rfl) (pe_lst (pa_cons (pv 1) (pa_cons (pv 1) (pa_cons (pv 1) pa_nil)))))
      (pss_cut (ps_if (pt_cmpR op_eq (pe_ix ix_tup (pv 0) pe_int (fun _ _ => rfl)) pe_str (nomark _)) (pss_one (ps_asg (pe_op op_cat (pv 1) (pe_lst (pa_cons (pe_ix ix_tup (pv 0) pe_int (fun _ _ => rfl)) pa_nil))) (pg_sub (pv 4) pe_int set_list))) pss_nil)
      (pss_cut (ps_if (pt_cmpR op_eq (pe_ix ix_tup (pv 0) pe_int (fun _ _ => rfl)) pe_str (nomark _)) (pss_one (ps_asg (pe_op op_cat (pv 1) (pe_lst (pa_cons (pe_ix ix_tup (pv 0) pe_int (fun _ _ => rfl)) pa_nil))) (pg_sub (pv 4) pe_int set_list))) pss_nil)
      (pss_cut (ps_if (pt_cmpR op_eq (pe_ix ix_tup (pv 0) pe_int (fun _ _ => rfl)) pe_str (nomark _)) (pss_one (ps_set (i := 4) sc_all.nd rfl (Or.inl rfl) (pe_lst (pa_cons (pe_op op_cat (pv 1) (pe_lst (pa_cons (pe_ix ix_tup (pv 0) pe_int (fun _ _ => rfl)) pa_nil))) (pa_cons (pe_op op_cat (pv 1) (pe_lst (pa_cons (pe_ix ix_tup (pv 0) pe_int (fun _ _ => rfl)) pa_nil))) pa_nil))))) pss_nil)
      (pss_cons (ps_for PassesOwn.never rfl (pi_range1 (by rfl) T.range (pa_cons (pe_callB call_len_seq (by rfl) T.len PySem.boot_len (pa_cons (pv 3) pa_nil)) pa_nil)) (pg_name (i := 5) sc_all.nd rfl (Or.inl rfl)) (pss_one (ps_set (i := 2) sc_all.nd rfl (Or.inl rfl) (pe_op op_cat (pv 2) (pe_call C_law_all.ok (hr.mono (by first | decide | omega)) rfl C_law_all.m C_law_all.kp C_law_all.b .nil pass0 (pa_cons (pe_ix ix_list (pv 3) (pv 5) (fun _ _ => rfl)) (pa_cons (pe_ix ix_list (pv 4) (pv 5) (fun _ _ => rfl)) pa_nil)))))))
      (pss_one (ps_ret (pv 2))))))))))), ?_⟩
  obtain ⟨p, vs, rfl, hp, hvs⟩ := ht.open
  have hp' := hp
  rw [t.head_eq] at hp'
  refine ⟨Nat.zero_le _, fun fa nfa => ?_⟩
  -- found = []; if term[0] in ('name', 'use'): found.append(..)
  refine ⟨fun σ H' => ∃ its, σ = [some (.ref p), some (.ref hl), some (.ref fa), none, none, none] ∧ Same H H' ∧ H' fa = some (.lst its) ∧ PairsAt H' its (t.ownP hs), ?_, ?_⟩
  · have s0 := same_new nfa (.lst [])
    have hf0 : upd H fa (.lst []) fa = some (.lst []) := upd_same
    generalize upd H fa (.lst []) = H0 at s0 hf0 ⊢
    refine ⟨_, rfl, p, _, _, _, rfl, rfl, SqT.of (s0 _ _ hp'), atI_n (n := 0) rfl rfl, sz 2, fun n1 m1 => ⟨n1, _, rfl, .inr (SqT.of upd_same), rfl, rfl, _, rfl, ?_⟩⟩
    have s1 := s0.trans (same_new m1 (.tup [V.str "name", .str "use"]))
    have hf1 := same_new m1 (.tup [V.str "name", .str "use"]) _ _ hf0
    generalize upd H0 n1 (.tup [V.str "name", .str "use"]) = H1 at s1 hf1 ⊢
    have one : ∀ (x : Str) (rest : List V), t.own = [x] → H p = some (.tup (.str t.w.str :: .str x :: rest)) → ∃ u, u = (fun (_ : Unit) => True) := fun _ _ _ _ => ⟨_, rfl⟩
    refine ite2 (fun c => ?_) fun c => ?_
    · have c' := inV_str.mp (show inV (V.str t.w.str) ([W.name.str, W.use.str].map V.str) = true from c)
      obtain ⟨x, rest, ho, hx⟩ : ∃ (x : Str) (rest : List V), t.own = [x] ∧ H p = some (.tup (.str t.w.str :: .str x :: rest)) := by
        rcases List.mem_cons.mp c' with e | e
        · obtain ⟨x, rfl⟩ := w_name (W.inj e)
          exact ⟨x, _, rfl, hp⟩
        · obtain ⟨g, a, rfl⟩ := w_use (W.inj (List.mem_singleton.mp e))
          exact ⟨g, _, rfl, hp⟩
      have hx1 := s1 _ _ hx
      refine ⟨_, rfl, .inl ⟨rfl, _, SqL.of hf1⟩, _, rfl, p, _, _, _, rfl, rfl, SqT.of hx1, atI_n (n := 1) rfl rfl, _, rfl, p, _, _, _, rfl, rfl, SqT.of hx1, atI_n (n := 1) rfl rfl, _, rfl, hl, _, rfl, .inl (SqL.of (s1 _ _ hh)), rfl, ?_, sz 2, fun p2 n2 => ?_⟩
      · rw [List.all_eq_true]
        intro y hy
        obtain ⟨z, _, rfl⟩ := List.mem_map.mp hy
        rfl
      have s2 := same_new n2 (.lst [V.str x, .bl (if false = true then !inV (V.str x) (hs.map V.str) else inV (V.str x) (hs.map V.str))])
      have hf2 := s2 _ _ hf1
      have nfp : fa ≠ p2 := ne_of_none hf1 n2
      refine ⟨fa, _, _, rfl, rfl, hf2, by decide, _, rfl, fun b o z => ?_, upd_same, ?_⟩
      · rw [upd_ne (ne_of_none z nfa)]
        exact s2 _ _ (s1 _ _ z)
      · unfold Tm.ownP
        rw [ho]
        refine ⟨⟨p2, rfl, ?_⟩, True.intro⟩
        rw [upd_ne nfp.symm, upd_same]
        have e : (if false = true then !inV (V.str x) (hs.map V.str) else inV (V.str x) (hs.map V.str)) = decide (x ∈ hs) := by
          rw [if_neg Bool.false_ne_true]
          by_cases hm : x ∈ hs
          · rw [decide_eq_true hm]
            exact inV_str.mpr hm
          · rw [decide_eq_false hm]
            exact Bool.eq_false_iff.mpr fun z => hm (inV_str.mp z)
        rw [e]
    · have e : t.own = [] := by
        cases t with
        | name x => exact absurd ((inV_str (x := W.name.str) (ys := [W.name.str, W.use.str])).mpr List.mem_cons_self) c
        | use g a => exact absurd ((inV_str (x := W.use.str) (ys := [W.name.str, W.use.str])).mpr (List.mem_cons_of_mem _ List.mem_cons_self)) c
        | _ => rfl
      refine ⟨[], rfl, s1, hf1, ?_⟩
      unfold Tm.ownP
      rw [e]
      exact True.intro
  rintro σ H1 ⟨its, rfl, g1, hf1, hits⟩
  -- parts_here = parts(term); more = [held, held, held]
  refine ⟨_, rfl, t, _, rfl, ht.mono (.of_same g1), fun pr ws H2 npr e2 hpr hws => ?_⟩
  have g2 := g1.trans e2
  have hh2 := g2 _ _ hh
  refine ⟨_, rfl, _, rfl, _, rfl, sz 3, fun mo nmo => ?_⟩
  have s3 := same_new nmo (.lst [V.ref hl, .ref hl, .ref hl])
  have nhm : hl ≠ mo := ne_of_none hh2 nmo
  have hp2 := g2 _ _ hp'
  have hpp := g2 _ _ hp
  -- if let: more[1] = held + [x]
  refine ⟨fun σ H' => ∃ ms, σ = [some (.ref p), some (.ref hl), some (.ref fa), some (.ref pr), some (.ref mo), none] ∧ Same H2 H' ∧ H' mo = some (.lst ms) ∧ NmsAt H' [mo] ms (t.helds1 hs), ?_, ?_⟩
  · have hm3 : upd H2 mo (.lst [V.ref hl, .ref hl, .ref hl]) mo = some (.lst [V.ref hl, .ref hl, .ref hl]) := upd_same
    generalize upd H2 mo (.lst [V.ref hl, .ref hl, .ref hl]) = H3 at s3 hm3 ⊢
    refine ⟨_, rfl, p, _, _, _, rfl, rfl, SqT.of (s3 _ _ hp2), atI_n (n := 0) rfl rfl, rfl, _, rfl, ite2 (fun c => ?_) fun c => ?_⟩
    · obtain ⟨x, a, b, rfl⟩ := w_let (str_w .let c)
      refine ⟨_, rfl, _, rfl, p, _, _, _, rfl, rfl, SqT.of (s3 _ _ hpp), atI_n (n := 1) rfl rfl, sz 1, fun p1 n1 => ⟨hl, p1, _, _, rfl, rfl, same_new n1 _ _ _ (s3 _ _ hh2), upd_same, strs_len (by omega), fun p2 n2 => ?_⟩⟩
      have s5 := s3.trans ((same_new n1 (.lst [V.str x])).trans (same_new n2 (.lst (hs.map V.str ++ [V.str x]))))
      have hm5 := same_new n2 (.lst (hs.map V.str ++ [V.str x])) _ _ (same_new n1 (.lst [V.str x]) _ _ hm3)
      have hp5 : upd (upd H3 p1 (.lst [V.str x])) p2 (.lst (hs.map V.str ++ [V.str x])) p2 = some (.lst (hs.map V.str ++ [V.str x])) := upd_same
      generalize upd (upd H3 p1 (.lst [V.str x])) p2 (.lst (hs.map V.str ++ [V.str x])) = H5 at s5 hm5 hp5 ⊢
      have n2m : p2 ≠ mo := fun z => by
        rw [z, same_new n1 _ _ _ hm3] at n2
        cases n2
      refine ⟨_, rfl, mo, _, _, 1, rfl, rfl, hm5, ixN_lt (by decide) (by show (1 : Int) < 3; decide), _, rfl, fun b o z => ?_, upd_same, ?_⟩
      · rw [upd_ne (ne_of_none z nmo)]
        exact s5 _ _ z
      · refine ⟨⟨hl, rfl, fun z => nhm (List.mem_singleton.mp z), ?_⟩, ⟨p2, rfl, fun z => n2m (List.mem_singleton.mp z), ?_⟩, ⟨hl, rfl, fun z => nhm (List.mem_singleton.mp z), ?_⟩, True.intro⟩
        · rw [upd_ne nhm]
          exact s5 _ _ hh2
        · rw [upd_ne n2m, List.map_append]
          exact hp5
        · rw [upd_ne nhm]
          exact s5 _ _ hh2
    · refine ⟨_, rfl, s3, hm3, ?_⟩
      have e : t.helds1 hs = [hs, hs, hs] := by
        cases t with
        | letx x a b => exact absurd rfl (str_nw .let c)
        | _ => rfl
      rw [e]
      exact ⟨⟨hl, rfl, fun z => nhm (List.mem_singleton.mp z), s3 _ _ hh2⟩, ⟨hl, rfl, fun z => nhm (List.mem_singleton.mp z), s3 _ _ hh2⟩, ⟨hl, rfl, fun z => nhm (List.mem_singleton.mp z), s3 _ _ hh2⟩, True.intro⟩
  clear s3
  rintro σ H3 ⟨ms, rfl, s3, hm3, hms⟩
  -- if turns
  refine ⟨fun σ H' => ∃ ms, σ = [some (.ref p), some (.ref hl), some (.ref fa), some (.ref pr), some (.ref mo), none] ∧ Same H2 H' ∧ H' mo = some (.lst ms) ∧ NmsAt H' [mo] ms (t.helds2 hs), ?_, ?_⟩
  · refine ⟨_, rfl, p, _, _, _, rfl, rfl, SqT.of (s3 _ _ hp2), atI_n (n := 0) rfl rfl, rfl, _, rfl, ite2 (fun c => ?_) fun c => ?_⟩
    · obtain ⟨n', x, a, b, rfl⟩ := w_turns (str_w .turns c)
      match ms, hms, hm3 with
      | [m0, m1, m2], ⟨⟨a0, b1, b2, b3⟩, _, ⟨a2, b4, b5, b6⟩, _⟩, hm3 =>
      subst b1 b4
      refine ⟨_, rfl, _, rfl, p, _, _, _, rfl, rfl, SqT.of (s3 _ _ hpp), atI_n (n := 2) rfl rfl, sz 1, fun p1 n1 => ⟨hl, p1, _, _, rfl, rfl, same_new n1 _ _ _ (s3 _ _ hh2), upd_same, strs_len (by omega), fun p2 n2 => ?_⟩⟩
      have t5 := (same_new n1 (.lst [V.str x])).trans (same_new n2 (.lst (hs.map V.str ++ [V.str x])))
      have s5 := s3.trans t5
      have hm5 := same_new n2 (.lst (hs.map V.str ++ [V.str x])) _ _ (same_new n1 (.lst [V.str x]) _ _ hm3)
      have hp5 : upd (upd H3 p1 (.lst [V.str x])) p2 (.lst (hs.map V.str ++ [V.str x])) p2 = some (.lst (hs.map V.str ++ [V.str x])) := upd_same
      generalize upd (upd H3 p1 (.lst [V.str x])) p2 (.lst (hs.map V.str ++ [V.str x])) = H5 at t5 s5 hm5 hp5 ⊢
      have n2m : p2 ≠ mo := fun z => by
        rw [z, same_new n1 _ _ _ hm3] at n2
        cases n2
      refine ⟨_, rfl, mo, _, _, 1, rfl, rfl, hm5, ixN_lt (by decide) (by show (1 : Int) < 3; decide), _, rfl, fun b o z => ?_, upd_same, ?_⟩
      · rw [upd_ne (ne_of_none z nmo)]
        exact s5 _ _ z
      · refine ⟨⟨a0, rfl, b2, ?_⟩, ⟨p2, rfl, fun z => n2m (List.mem_singleton.mp z), ?_⟩, ⟨a2, rfl, b5, ?_⟩, True.intro⟩
        · rw [upd_ne fun z => b2 (List.mem_singleton.mpr z)]
          exact t5 _ _ b3
        · rw [upd_ne n2m, List.map_append]
          exact hp5
        · rw [upd_ne fun z => b5 (List.mem_singleton.mpr z)]
          exact t5 _ _ b6
    · refine ⟨ms, rfl, s3, hm3, ?_⟩
      have e : t.helds2 hs = t.helds1 hs := by
        cases t with
        | turns n' x a b => exact absurd rfl (str_nw .turns c)
        | _ => rfl
      rw [e]
      exact hms
  clear s3 hms hm3 ms
  rintro σ H4 ⟨ms, rfl, s4, hm4, hms⟩
  -- if def
  refine ⟨fun σ H' => ∃ mo' ms, σ = [some (.ref p), some (.ref hl), some (.ref fa), some (.ref pr), some (.ref mo'), none] ∧ Same H2 H' ∧ H' mo' = some (.lst ms) ∧ NmsAt H' [] ms (t.helds hs), ?_, ?_⟩
  · refine ⟨_, rfl, p, _, _, _, rfl, rfl, SqT.of (s4 _ _ hp2), atI_n (n := 0) rfl rfl, rfl, _, rfl, ite2 (fun c => ?_) fun c => ?_⟩
    · obtain ⟨g, x, k', a, b, rfl⟩ := w_def (str_w .def c)
      refine ⟨_, rfl, _, rfl, p, _, _, _, rfl, rfl, SqT.of (s4 _ _ hpp), atI_n (n := 2) rfl rfl, sz 1, fun p1 n1 => ⟨hl, p1, _, _, rfl, rfl, same_new n1 _ _ _ (s4 _ _ hh2), upd_same, strs_len (by omega), fun p2 n2 => ?_⟩⟩
      have s5 := s4.trans ((same_new n1 (.lst [V.str x])).trans (same_new n2 (.lst (hs.map V.str ++ [V.str x]))))
      have hp5 : upd (upd H4 p1 (.lst [V.str x])) p2 (.lst (hs.map V.str ++ [V.str x])) p2 = some (.lst (hs.map V.str ++ [V.str x])) := upd_same
      generalize upd (upd H4 p1 (.lst [V.str x])) p2 (.lst (hs.map V.str ++ [V.str x])) = H5 at s5 hp5 ⊢
      refine ⟨_, rfl, _, rfl, p, _, _, _, rfl, rfl, SqT.of (s5 _ _ hpp), atI_n (n := 1) rfl rfl, sz 1, fun p3 n3 => ⟨hl, p3, _, _, rfl, rfl, same_new n3 _ _ _ (s5 _ _ hh2), upd_same, strs_len (by omega), fun p4 n4 => ⟨sz 2, fun p6 n6 => ?_⟩⟩⟩
      have t7 := (same_new n3 (.lst [V.str g])).trans (same_new n4 (.lst (hs.map V.str ++ [V.str g])))
      have t8 := same_new n6 (.lst [V.ref p2, .ref p4])
      refine ⟨p6, _, rfl, s5.trans (t7.trans t8), upd_same, ⟨p2, rfl, (fun z => by cases z), ?_⟩, ⟨p4, rfl, (fun z => by cases z), ?_⟩, True.intro⟩
      · rw [List.map_append]
        exact t8 _ _ (t7 _ _ hp5)
      · rw [List.map_append]
        exact t8 _ _ upd_same
    · refine ⟨mo, ms, rfl, s4, hm4, ?_⟩
      have e : t.helds hs = t.helds2 hs := by
        cases t with
        | deff g x k' a b => exact absurd rfl (str_nw .def c)
        | _ => rfl
      rw [e]
      exact hms.less
  clear s4 hms hm4 ms nmo nhm
  rintro σ H7 ⟨mo', ms, rfl, s7, hm7, hms⟩
  have hpr7 := s7 _ _ hpr
  have hws7 := hws.mono (.of_same s7)
  have wl := hws.len
  have ml := hms.len
  have hl2 := t.helds_len hs
  have p3 := t.len_parts
  refine ⟨_, rfl, pr, _, rfl, .inl (SqL.of hpr7), (ws.length : Int), rfl, by omega, by omega, ?_⟩
  rw [Int.toNat_natCast]
  refine for_range (lo := 0) (n := ws.length) (fun i σ H' => ∃ (fx : Addr) (its' : List V) (o5 : Option V), σ = [some (.ref p), some (.ref hl), some (.ref fx), some (.ref pr), some (.ref mo'), o5] ∧ Same H7 H' ∧ H' fx = some (.lst its') ∧
    PairsAt H' its' (t.ownP hs ++ allAll (t.parts.take i) ((t.helds hs).take i))) ⟨fa, its, none, rfl, Same.refl _, s7 _ _ (e2 _ _ hf1), ?_⟩ ?_ ?_
  · rw [List.take_zero]
    show PairsAt H7 its (t.ownP hs ++ [])
    rw [List.append_nil]
    exact hits.mono (e2.trans s7)
  · rintro i σ H' hi ⟨fx, its', o5, rfl, g8, hf8, hi8⟩
    have hip : i < t.parts.length := by omega
    have hih : i < (t.helds hs).length := by omega
    obtain ⟨v1, ev1, wv1⟩ := hws7.get (List.getElem?_eq_getElem hip)
    obtain ⟨ha, eh, _, wh⟩ := hms.get (List.getElem?_eq_getElem hih)
    have dp := Tm.part_deep (List.getElem_mem hip)
    have zs := Tm.part_size (List.getElem_mem hip)
    have hsh := t.helds_short hs _ (List.getElem_mem hih)
    refine ⟨_, rfl, _, rfl, _, rfl, pr, _, _, v1, rfl, rfl, SqL.of (g8 _ _ hpr7), atI_n (n := i) (by omega) ev1, _, rfl, _, rfl, mo', _, _, _, rfl, rfl, SqL.of (g8 _ _ hm7), atI_n (n := i) (by omega) eh, ?_⟩
    refine ⟨t.parts[i], v1, ha, (t.helds hs)[i], rfl, wv1.mono (.of_same g8), by omega, g8 _ _ wh, by omega, by omega, fun r its2 H9 e9 hr9 hp9 => ?_⟩
    have l1 := hi8.len
    have l2 := hp9.len
    have l3 := t.parts[i].all_len (t.helds hs)[i]
    have l4 : (t.ownP hs ++ allAll (t.parts.take i) ((t.helds hs).take i)).length ≤ 1 + sizes t.parts := by
      have h1 : (t.ownP hs).length ≤ 1 := by
        unfold Tm.ownP
        rw [List.length_map]
        cases t <;> simp [Tm.own]
      have h2 : (allAll (t.parts.take i) ((t.helds hs).take i)).length ≤ sizes (t.parts.take i) := allAll_len _ _
      have h3 := sizes_take t.parts i
      rw [List.length_append]
      omega
    have l5 := t.size_parts
    refine ⟨fx, r, _, _, rfl, rfl, e9 _ _ hf8, hr9, Nat.le_of_lt (Nat.lt_of_le_of_lt (by omega : _ ≤ 1900000) (by decide)), fun p9 n9 => ?_⟩
    have s9 := same_new n9 (.lst (its' ++ its2))
    refine ⟨p9, its' ++ its2, _, rfl, g8.trans (e9.trans s9), upd_same, ?_⟩
    rw [allAll_take (List.getElem?_eq_getElem hip) (List.getElem?_eq_getElem hih), ← List.append_assoc]
    exact (hi8.mono (e9.trans s9)).app (hp9.mono s9)
  · rintro σ H' ⟨fx, its', o5, rfl, g8, hf8, hi8⟩
    have e1 : t.parts.take ws.length = t.parts := List.take_of_length_le (by omega)
    have e3 : allAll t.parts ((t.helds hs).take ws.length) = allAll t.parts (t.helds hs) := by
      rw [wl]
      exact allAll_cut _ _
    rw [e1, e3, ← t.all_eq] at hi8
    exact ⟨_, rfl, q fx its' H' (g2.trans (s7.trans g8)) hf8 hi8⟩
end

theorem Tm.raw_ok : ∀ t : Tm, t.Ok → ∀ x ∈ t.raw, PyData.strOk x = true := by
  intro t
  induction t with
  | num n => intro _ x h; cases h
  | name n => intro h x hx; rw [List.mem_singleton.mp hx]; exact h
  | bin o a b iha ihb => intro h x hx; exact (List.mem_append.mp hx).elim (iha h.1 x) (ihb h.2 x)
  | cond c a b ihc iha ihb => intro h x hx; exact (List.mem_append.mp hx).elim (ihc h.1 x) fun hx => (List.mem_append.mp hx).elim (iha h.2.1 x) (ihb h.2.2 x)
  | letx n a b iha ihb => intro h x hx; exact (List.mem_append.mp hx).elim (iha h.2.1 x) fun hx => ihb h.2.2 x (keep_mem.mp hx).1
  | turns k n a b iha ihb => intro h x hx; exact (List.mem_append.mp hx).elim (iha h.2.1 x) fun hx => ihb h.2.2 x (keep_mem.mp hx).1
  | deff f n k a b iha ihb => intro h x hx; exact (List.mem_append.mp hx).elim (fun hx => iha h.2.1 x (keep_mem.mp hx).1) fun hx => ihb h.2.2 x (keep_mem.mp hx).1
  | use f a iha =>
    intro h x hx
    rcases List.mem_cons.mp hx with rfl | hx
    · exact h.1
    · exact iha h.2 x hx
  | un o a iha => intro h x hx; exact iha h x hx
theorem Tm.loose_ok (t : Tm) (h : t.Ok) : ∀ x ∈ t.loose, PyData.strOk x = true := fun x hx => t.raw_ok h x ((mem_putAll.mp hx).elim (fun z => by cases z) id)
theorem strs_dp {K : PySem.W.Frag} {H : Hp} : ∀ l : List Str, DpAll K H (l.map V.str) (l.map PyData.str)
  | [] => .nil
  | x :: r => .cons (.str x) (strs_dp r)
theorem strs_shaped {l : List Str} (h : ∀ x ∈ l, PyData.strOk x = true) : SeqAt.shaped (.list (l.map PyData.str)) = true := by
  have e : PyData.canLayAll0 (l.map PyData.str) = true ∧ PyData.depthAll (l.map PyData.str) = 0 := by
    induction l with
    | nil => exact ⟨rfl, rfl⟩
    | cons x r ih =>
      obtain ⟨h1, h2⟩ := ih fun y hy => h y (List.mem_cons_of_mem _ hy)
      constructor
      · show (PyData.strOk x && PyData.canLayAll0 (r.map PyData.str)) = true
        rw [h x List.mem_cons_self, h1]
        rfl
      · show max 0 (PyData.depthAll (r.map PyData.str)) = 0
        rw [h2]
        rfl
  unfold SeqAt.shaped
  show (PyData.canLayAll0 (l.map PyData.str) && decide (PyData.depthAll (l.map PyData.str) + 1 ≤ 64)) = true
  rw [e.1, e.2]
  rfl
theorem free_take {ps : List (Str × Bool)} {i : Nat} {p : Str × Bool} (h : ps[i]? = some p) : free (ps.take (i + 1)) = free (ps.take i) ++ if p.2 = true then [] else [p.1] := by
  rw [List.take_add_one, h, free_app]
  congr 1
  obtain ⟨x, b⟩ := p
  cases b <;> rfl
theorem strs_flat (l : List Str) : (l.map V.str).all flatV = true := by
  rw [List.all_eq_true]
  intro y hy
  obtain ⟨z, _, rfl⟩ := List.mem_map.mp hy
  rfl
def spLaw (K : PySem.W.Frag) : Sp := fun vs H Q _ => ∃ a : Addr, vs = [.ref a] ∧ Ints K H a ∧ ∀ H', Q (.bl true) H'
abbrev s_law : Stmt := topS 22
theorem sc_law : FnScope ["_law_script", "_law_state", "_law_term", "_law_due", "_law_one", "_law_found"] ["_law_script"] (defScope s_law) := ⟨rfl, rfl, rfl, by decide +kernel, rfl, by decide +kernel, by decide +kernel⟩
section
variable {P : Program} {w : World} {K : PySem.W.Frag} {mg : Str → Option Value} {base : Heap} {pa ta C f f1 f2 f3 f4 f5 f6 f7 f8 : Addr} {fd fd1 fd2 fd3 fd4 fd5 fd6 fd7 fd8 : FuncData}
theorem size_small {t : Tm} (h : t.deep ≤ 5) : t.size ≤ 121 := by
  have h1 := t.size_le
  have : 3 ^ t.deep ≤ 3 ^ 5 := Nat.pow_le_pow_right (by decide) h
  omega
theorem ok_law (F : Fun K "law" "law" s_law f fd) (T : Txt mg) (C_law_any : Cal P w K mg base "_law_any" ["_law_script", "_law_state", "_law_depth"] 9 (spAny K 5) f1 fd1) (C_law_mixed : Cal P w K mg base "_law_mixed" ["_law_script", "_law_k"] 2 (spMixed K) f2 fd2)
    (C_loose_in : Cal P w K mg base "loose_in" ["term"] 66 spLoose f3 fd3) (C_law_all : Cal P w K mg base "_law_all" ["_law_term", "_law_held"] 31 (spAll 30) f4 fd4) : FnOk P w K mg base CX0 67 f fd ["_law_script"] (spLaw K) := by
  refine F.ok sc_law (fun vs H Q E h => ?_) (fun cdv A outer s H vs Q E hr h => ?_)
  · obtain ⟨a, rfl, _⟩ := h
    rfl
  obtain ⟨a, rfl, hI, q⟩ := h
  refine ⟨_, (pss_cons (ps_set (i := 1) sc_law.nd rfl (Or.inl rfl) (pe_lst (pa_cons pe_int pa_nil)))
      (pss_cons (ps_set (i := 2) sc_law.nd rfl (Or.inl rfl) (pe_call C_law_any.ok (hr.mono (by first | decide | omega)) rfl C_law_any.m C_law_any.kp C_law_any.b .nil pass0 (pa_cons (pv 0) (pa_cons (pv 1) (pa_cons (pe_op op_add pe_int (pe_op op_mod (pe_call C_law_mixed.ok (hr.mono (by first | decide | omega)) rfl C_law_mixed.m C_law_mixed.kp C_law_mixed.b .nil pass0 (pa_cons (pv 0) (pa_cons pe_int pa_nil))) pe_int)) pa_nil)))))
      (pss_cons (ps_set (i := 3) sc_law.nd rfl (Or.inl rfl) (pe_lst pa_nil))
      (pss_cons (ps_for PassesOwn.never rfl (pi_list (pe_call C_law_all.ok (hr.mono (by first | decide | omega)) rfl C_law_all.m C_law_all.kp C_law_all.b .nil pass0 (pa_cons (pv 2) (pa_cons (pe_lst pa_nil) pa_nil)))) (pg_name (i := 4) sc_law.nd rfl (Or.inl rfl)) (pss_one (ps_if (pt_k (PW.pt (pw_and (pt_not (pt_val (pe_ix ix_list (pv 4) pe_int (fun _ _ => rfl)))) (pw_and1 (pt_cmpR op_notIn_seq (pe_ix ix_list (pv 4) pe_int (fun _ _ => rfl)) (pv 3) (by rfl)))))) (pss_one (ps_expr (pe_bm PySem.F.plainAttrs_list PySem.F.slot_list_append PySem.F.type_list_append mt_append (pv 3) (pa_cons (pe_ix ix_list (pv 4) pe_int (fun _ _ => rfl)) pa_nil)))) pss_nil)))
      (pss_cons (ps_set (i := 5) sc_law.nd rfl (Or.inl rfl) (pe_call C_loose_in.ok (hr.mono (by first | decide | omega)) rfl C_loose_in.m C_loose_in.kp C_loose_in.b .nil pass0 (pa_cons (pv 2) pa_nil)))
      (pss_cons (ps_if (pt_k (PW.pt (pw_or (pt_not (pt_truth (pe_callB call_isi (by rfl) T.isinstance (by decide +kernel) (pa_cons (pv 5) (pa_cons (pe_bltn (v := V.ty "list") (u := PySem.Value.type "list") (by rfl) T.list (by decide +kernel) rfl) pa_nil))) (by intro _; rfl))) (pw_or1 (pt_cmpR (op_neD hr.units) (pv 5) (pv 3) (nomark _)))))) (pss_one (ps_ret pe_bl)) pss_nil)
      (pss_cons (ps_expr (pe_bm PySem.F.plainAttrs_list PySem.F.slot_list_append PySem.F.type_list_append mt_append (pv 5) (pa_cons pe_str pa_nil)))
      (pss_one (ps_ret (pe_and (pe_cmpR (op_eqD hr.units) (pe_call C_loose_in.ok (hr.mono (by first | decide | omega)) rfl C_loose_in.m C_loose_in.kp C_loose_in.b .nil pass0 (pa_cons (pv 2) pa_nil)) (pv 3) (nomark _)) (pe_one (pe_cmpR (op_eqD hr.units) (pv 5) (pe_op op_cat (pv 3) (pe_lst (pa_cons pe_str pa_nil))) (nomark _))))))))))))), ?_⟩
  refine ⟨sz 1, fun st nst => ?_⟩
  have s1 := same_new nst (.lst [V.int 1])
  have hI1 := hI.same s1
  have hst : upd H st (.lst [V.int 1]) st = some (.lst [V.int 1]) := upd_same
  generalize upd H st (.lst [V.int 1]) = H1 at s1 hI1 hst ⊢
  refine ⟨_, rfl, _, rfl, _, rfl, a, 1, rfl, hI1, by decide, fun m m0 m1 => ?_⟩
  have h4 := mod_in m (n := 4) (by decide)
  refine ⟨_, _, rfl, rfl, (by show (0 : Int) < _; decide), _, _, rfl, rfl, a, st, 1, 1 + m % 4, [], rfl, hI1, hst, by decide, by omega, by omega, fun t v c' H2 b2 st2 hc' wt okt dpt => ?_⟩
  have d5 : t.deep ≤ 5 := by omega
  have z5 := size_small d5
  -- due = []
  refine ⟨Nat.zero_le _, fun da nda => ?_⟩
  have s3 := same_new nda (.lst [])
  have hd3 : upd H2 da (.lst []) da = some (.lst []) := upd_same
  generalize upd H2 da (.lst []) = H3 at s3 hd3 ⊢
  have wt3 := wt.mono (.of_same s3)
  refine ⟨_, rfl, Nat.zero_le _, fun he nhe => ?_⟩
  have s4 := same_new nhe (.lst [])
  refine ⟨t, v, he, [], rfl, wt3.mono (.of_same s4), by omega, upd_same, by decide, by omega, fun r its H5 e5 hr5 hp5 => ?_⟩
  have g5 : Same H3 H5 := s4.trans e5
  have hd5 := g5 _ _ hd3
  have nrd : ∀ {p : Addr} {x : Str} {b : Bool}, H5 p = some (.lst [.str x, .bl b]) → p ≠ da := fun z => ne_of z hd5 fun y => by cases y
  have li := hp5.len
  have la := t.all_len []
  have tl := t.loose_len
  have fl : free (t.all []) = t.raw := all_free0 t
  have wt5 := wt3.mono (.of_same g5)
  -- the list that is walked is another one
  have nrda : r ≠ da ∨ its = [] := by
    by_cases z : r = da
    · subst z
      rw [hd5] at hr5
      cases hr5
      exact .inr rfl
    · exact .inl z
  have pl : ∀ i, (putAll [] (free ((t.all []).take i))).length ≤ 200 := fun i => by
    have h1 := putAll_len (free ((t.all []).take i)) []
    have h2 : (free ((t.all []).take i)).length ≤ ((t.all []).take i).length := by
      unfold free
      rw [List.length_map]
      exact List.length_filter_le _ _
    have h3 : ((t.all []).take i).length ≤ (t.all []).length := by rw [List.length_take]; exact Nat.min_le_right _ _
    simp only [List.length_nil] at h1
    omega
  refine ⟨r, rfl, ⟨_, SqL.of hr5⟩, for_list (K := K) (a := r) (xs := its) (fun i σ H' => ∃ o : Option V, σ = [some (.ref a), some (.ref st), some v, some (.ref da), o, none] ∧ (∀ b o, b ≠ da → H5 b = some o → H' b = some o) ∧
      H' da = some (.lst ((putAll [] (free ((t.all []).take i))).map V.str)) ∧ (its = [] → H' r = some (.lst its))) ⟨none, rfl, fun _ _ _ z => z, by rw [List.take_zero]; exact hd5, fun _ => hr5⟩ (fun i σ H' _ ⟨_, _, z, _, y⟩ => SqL.of (nrda.elim (fun n => z _ _ n hr5) y)) ?_ ?_⟩
  · rintro i x σ H' hi ⟨o, rfl, k5, hd, _⟩
    obtain ⟨⟨nm, b⟩, pa', ep, rfl, hpa⟩ := hp5.get hi
    have npd := nrd hpa
    have hpa' := k5 _ _ npd hpa
    have ne0 : its ≠ [] := fun z => by rw [z] at hi; simp at hi
    refine ⟨fun bb H'' => H' = H'' ∧ bb = (!b && !decide (nm ∈ putAll [] (free ((t.all []).take i)))), ?_, ?_⟩
    · refine ⟨_, rfl, pa', _, _, _, rfl, rfl, SqL.of hpa', atI_n (n := 1) rfl rfl, _, rfl, ?_⟩
      cases b with
      | true => exact iteF ⟨rfl, rfl⟩
      | false =>
        refine iteT ⟨_, rfl, pa', _, _, _, rfl, rfl, SqL.of hpa', atI_n (n := 0) rfl rfl, _, rfl, da, _, rfl, .inl (SqL.of hd), rfl, strs_flat _, _, rfl, rfl, ?_⟩
        show (!inV (V.str nm) ((putAll [] (free ((t.all []).take i))).map V.str)) = (true && !decide (nm ∈ putAll [] (free ((t.all []).take i))))
        by_cases hm : nm ∈ putAll [] (free ((t.all []).take i))
        · rw [decide_eq_true hm, inV_str.mpr hm]
          rfl
        · rw [decide_eq_false hm, Bool.eq_false_iff.mpr fun z => hm (inV_str.mp z)]
          rfl
    rintro bb _ ⟨rfl, rfl⟩
    have ft := free_take ep
    refine ite2 (fun c => ?_) fun c => ?_
    · have cb : b = false ∧ nm ∉ putAll [] (free ((t.all []).take i)) := by
        cases b with
        | true => cases c
        | false => exact ⟨rfl, fun z => by rw [decide_eq_true z] at c; cases c⟩
      obtain ⟨rfl, hm⟩ := cb
      have p1 := pl i
      refine ⟨_, rfl, .inl ⟨rfl, _, SqL.of hd⟩, _, rfl, pa', _, _, _, rfl, rfl, SqL.of hpa', atI_n (n := 0) rfl rfl, da, _, _, rfl, rfl, hd, small1000 (by rw [List.length_map]; omega), ?_⟩
      refine ⟨_, rfl, fun b o n z => by rw [upd_ne n]; exact k5 b o n z, ?_, fun z => absurd z ne0⟩
      rw [upd_same, ft]
      show some (HO.lst ((putAll [] (free ((t.all []).take i))).map V.str ++ [V.str nm])) = some (.lst ((putAll [] (free ((t.all []).take i) ++ [nm])).map V.str))
      rw [putAll_snoc, show put (putAll [] (free ((t.all []).take i))) nm = putAll [] (free ((t.all []).take i)) ++ [nm] from if_neg hm, List.map_append]
      rfl
    · refine ⟨_, rfl, k5, ?_, fun z => absurd z ne0⟩
      rw [hd, ft]
      cases b with
      | true =>
        show some (HO.lst ((putAll [] (free ((t.all []).take i))).map V.str)) = some (.lst ((putAll [] (free ((t.all []).take i) ++ [])).map V.str))
        rw [List.append_nil]
      | false =>
        have hm : nm ∈ putAll [] (free ((t.all []).take i)) := by
          by_cases hm : nm ∈ putAll [] (free ((t.all []).take i))
          · exact hm
          · rw [decide_eq_false hm] at c
            exact absurd rfl c
        show some (HO.lst ((putAll [] (free ((t.all []).take i))).map V.str)) = some (.lst ((putAll [] (free ((t.all []).take i) ++ [nm])).map V.str))
        rw [putAll_snoc, put_old hm]
  · rintro σ H6 ⟨o, rfl, k5, hd6, _⟩
    rw [li, List.take_length, fl] at hd6
    have hd6' : H6 da = some (.lst (t.loose.map V.str)) := hd6
    have wt6 : TmAt H6 t v := wt5.mono fun b xs z => k5 _ _ (ne_of z hd5 fun y => by cases y) z
    have lo := t.loose_ok okt
    have sh := strs_shaped lo
    have se : PyData.eqv (.list (t.loose.map PyData.str)) (.list (t.loose.map PyData.str)) = true := SeqAt.eqv_refl _ (SeqAt.canLay_of_shaped sh)
    -- found = loose_in(term)
    refine ⟨_, rfl, t, v, rfl, wt6, okt, by omega, by omega, fun fo H7 nfo e7 hf7 => ?_⟩
    have hd7 := e7 _ _ hd6'
    have nfd : fo ≠ da := fun z => by rw [z, hd6'] at nfo; cases nfo
    refine ⟨fun b H' => b = false ∧ H7 = H', ?_, ?_⟩
    · refine ⟨_, rfl, _, _, _, _, _, rfl, ClsV.ty "list", .base (.lst hf7), kit_ty (r := true) (by decide +kernel), _, rfl, iteF ?_⟩
      refine ⟨_, rfl, _, rfl, _, _, .lst (SqL.of hf7) (strs_dp _), .lst (SqL.of hd7) (strs_dp _), sh, sh, _, rfl, ?_⟩
      rw [se]
      exact ⟨rfl, rfl⟩
    rintro b _ ⟨rfl, rfl⟩
    refine iteF ?_
    -- found.append('behind')
    refine ⟨_, rfl, .inl ⟨rfl, _, SqL.of hf7⟩, fo, _, _, rfl, rfl, hf7, small1000 (by rw [List.length_map]; omega), ?_⟩
    have wt8 : TmAt (upd H7 fo (.lst (t.loose.map V.str ++ [V.str "behind"]))) t v := (wt6.mono (.of_same e7)).mono (Tups.put hf7)
    have hd8 : upd H7 fo (.lst (t.loose.map V.str ++ [V.str "behind"])) da = some (.lst (t.loose.map V.str)) := by
      rw [upd_ne nfd.symm]
      exact hd7
    have hf8 : upd H7 fo (.lst (t.loose.map V.str ++ [V.str "behind"])) fo = some (.lst (t.loose.map V.str ++ [V.str "behind"])) := upd_same
    generalize upd H7 fo (.lst (t.loose.map V.str ++ [V.str "behind"])) = H8 at wt8 hd8 hf8 ⊢
    refine ⟨_, rfl, t, v, rfl, wt8, okt, by omega, by omega, fun fo2 H9 _ e9 hf9 => ?_⟩
    refine ⟨_, rfl, _, _, .lst (SqL.of hf9) (strs_dp _), .lst (SqL.of (e9 _ _ hd8)) (strs_dp _), sh, sh, _, rfl, ?_⟩
    rw [se]
    refine iteT ?_
    refine ⟨_, rfl, _, rfl, sz 1, fun p1 n1 => ?_⟩
    have s10 := same_new n1 (.lst [V.str "behind"])
    refine ⟨da, p1, _, _, rfl, rfl, s10 _ _ (e9 _ _ hd8), upd_same, sz _ (by rw [List.length_map]; show _ + 1 ≤ _; omega), fun p2 n2 => ?_⟩
    have s11 := same_new n2 (.lst (t.loose.map V.str ++ [V.str "behind"]))
    have em : t.loose.map V.str ++ [V.str "behind"] = (t.loose ++ [("behind" : Str)]).map V.str := by rw [List.map_append]; rfl
    have lb : ∀ x ∈ t.loose ++ [("behind" : Str)], PyData.strOk x = true := fun x hx => (List.mem_append.mp hx).elim (lo x) fun z => by rw [List.mem_singleton.mp z]; decide +kernel
    have sh2 := strs_shaped lb
    have se2 : PyData.eqv (.list ((t.loose ++ [("behind" : Str)]).map PyData.str)) (.list ((t.loose ++ [("behind" : Str)]).map PyData.str)) = true := SeqAt.eqv_refl _ (SeqAt.canLay_of_shaped sh2)
    have hf11 := s11 _ _ (s10 _ _ (e9 _ _ hf8))
    replace hf11 := hf11.trans (congrArg (fun z => some (HO.lst z)) em)
    refine ⟨_, _, .lst (SqL.of hf11) (strs_dp _), .lst (SqL.of (by rw [upd_same, em])) (strs_dp _), sh2, sh2, ?_⟩
    rw [se2]
    exact q _
end

/-! ### the program's top: what stands where -/
theorem Tm.deep_pos (t : Tm) : 1 ≤ t.deep := by
  cases t <;> simp only [Tm.deep] <;> omega
section
variable {P : Program} {w : World} {K : PySem.W.Frag} {mg : Str → Option Value} {base : Heap} {pa C f f1 f2 f3 f4 f5 f6 f7 f8 : Addr} {fd fd1 fd2 fd3 fd4 fd5 fd6 fd7 fd8 : FuncData}
theorem all_any (F : Fun K "_law_any" "_law_any" s_any f fd)
    (C_law_next : Cal P w K mg base "_law_next" ["_law_script", "_law_state"] 3 (spNext K) f1 fd1) (C_law_drawn : Cal P w K mg base "_law_drawn" ["_law_number_here", "_law_sizes"] 1 (spDrawn K) f2 fd2) (C_law_name : Cal P w K mg base "_law_name" ["_law_script", "_law_which"] 3 (spName K) f3 fd3)
    (C_law_number : Cal P w K mg base "_law_number" ["_law_number_here"] 1 spNumber f4 fd4) (m : mg "_law_any" = some (.ref f)) (kp : PySem.W.keepIn K (.ref f) = true) (b : Binds K fd ["_law_script", "_law_state", "_law_depth"] []) : ∀ n, FnOk P w K mg base CX0 (4 + n) f fd ["_law_script", "_law_state", "_law_depth"] (spAny K n)
  | 0 => fn_none fun vs H Q E h => by
    obtain ⟨a, st, c, d, r, _, _, _, _, h0, h1, _⟩ := h
    omega
  | n + 1 => ok_any F C_law_next C_law_drawn C_law_name C_law_number ⟨all_any F C_law_next C_law_drawn C_law_name C_law_number m kp b n, m, kp, b⟩
theorem all_place (F : Fun K "place_of" "TermTable.place_of" s_TermTable_place_of f fd) (T : Txt mg) (TC : TxtC K C)
    (C_ends_of : Cal P w K mg base "ends_of" ["term"] 3 spEnds f1 fd1) (C_head_of : Cal P w K mg base "head_of" ["term"] 1 spHead f2 fd2) (C_parts_of : Cal P w K mg base "parts_of" ["term"] 1 spPartsOf f3 fd3)
    (m : Meth K C "place_of" f) (b : Binds K fd ["self", "term"] []) : ∀ n, FnOk P w K mg base CX0 (4 + n) f fd ["self", "term"] (spPlace P w C n)
  | 0 => fn_none fun vs H Q E h => by
    obtain ⟨tb, R, D, ts, Ls, Ps, cnt, t, v, _, _, _, _, h0, _⟩ := h
    have := t.deep_pos
    omega
  | n + 1 => ok_place F T TC C_ends_of C_head_of C_parts_of ⟨all_place F T TC C_ends_of C_head_of C_parts_of m b n, m, b⟩
end
section
variable {P : Program} {w : World} {K : PySem.W.Frag} {mg : Str → Option Value} {base : Heap} {pa C f f1 f2 f3 f4 f5 f6 f7 f8 : Addr} {fd fd1 fd2 fd3 fd4 fd5 fd6 fd7 fd8 : FuncData}
theorem all_all (F : Fun K "_law_all" "_law_all" s_all f fd) (T : Txt mg) (C_law_parts : Cal P w K mg base "_law_parts" ["_law_term"] 1 spParts f1 fd1)
    (m : mg "_law_all" = some (.ref f)) (kp : PySem.W.keepIn K (.ref f) = true) (b : Binds K fd ["_law_term", "_law_held"] []) : ∀ n, FnOk P w K mg base CX0 (1 + n) f fd ["_law_term", "_law_held"] (spAll n)
  | 0 => fn_none fun vs H Q E h => by
    obtain ⟨t, v, hl, hs, _, _, h0, _⟩ := h
    have := t.deep_pos
    omega
  | n + 1 => ok_all F T C_law_parts ⟨all_all F T C_law_parts m kp b n, m, kp, b⟩
end
theorem all_mk {l : PySem.W.OpenLaw} {w : World} {K : PySem.W.Frag} {h : Heap} {mg : Str → Option Value} {fa : Addr} (X : K.In h) (G : h.Ns mainGlobals mg) (hfa : mg "law" = some (.ref fa))
    {C_TermTable f_loose_in f_loose_in_rows f_loose_names f_bound_in_parts f_head_of f_parts_of f_rows_of f_TermTable_init f_TermTable_place_of f_ends_of f_edge_of f_law_cell_at f_law_mixed f_law_drawn f_law_name f_law_next f_law_number f_law_parts f_law_any f_law_all f_law D_PARTS_AT : Addr}
    {od_loose_in an_loose_in od_loose_in_rows an_loose_in_rows od_loose_names an_loose_names od_bound_in_parts an_bound_in_parts od_head_of an_head_of od_parts_of an_parts_of od_rows_of an_rows_of od_TermTable_init an_TermTable_init od_TermTable_place_of an_TermTable_place_of od_ends_of an_ends_of od_edge_of an_edge_of od_law_cell_at an_law_cell_at od_law_mixed an_law_mixed od_law_drawn an_law_drawn od_law_name an_law_name od_law_next an_law_next od_law_number an_law_number od_law_parts an_law_parts od_law_any an_law_any od_law_all an_law_all od_law an_law : Option Addr}
    {sl_loose_in sl_loose_in_rows sl_loose_names sl_bound_in_parts sl_head_of sl_parts_of sl_rows_of sl_TermTable_init sl_TermTable_place_of sl_ends_of sl_edge_of sl_law_cell_at sl_law_mixed sl_law_drawn sl_law_name sl_law_next sl_law_number sl_law_parts sl_law_any sl_law_all sl_law : Array (Option Value)}
    {oc_loose_in kV_loose_in dc_loose_in pm_loose_in cd_loose_in ct_loose_in oc_loose_in_rows kV_loose_in_rows dc_loose_in_rows pm_loose_in_rows cd_loose_in_rows ct_loose_in_rows oc_loose_names kV_loose_names dc_loose_names pm_loose_names cd_loose_names ct_loose_names oc_bound_in_parts kV_bound_in_parts dc_bound_in_parts pm_bound_in_parts cd_bound_in_parts ct_bound_in_parts oc_head_of kV_head_of dc_head_of pm_head_of cd_head_of ct_head_of oc_parts_of kV_parts_of dc_parts_of pm_parts_of cd_parts_of ct_parts_of oc_rows_of kV_rows_of dc_rows_of pm_rows_of cd_rows_of ct_rows_of oc_TermTable_init kV_TermTable_init dc_TermTable_init pm_TermTable_init cd_TermTable_init ct_TermTable_init oc_TermTable_place_of kV_TermTable_place_of dc_TermTable_place_of pm_TermTable_place_of cd_TermTable_place_of ct_TermTable_place_of oc_ends_of kV_ends_of dc_ends_of pm_ends_of cd_ends_of ct_ends_of oc_edge_of kV_edge_of dc_edge_of pm_edge_of cd_edge_of ct_edge_of oc_law_cell_at kV_law_cell_at dc_law_cell_at pm_law_cell_at cd_law_cell_at ct_law_cell_at oc_law_mixed kV_law_mixed dc_law_mixed pm_law_mixed cd_law_mixed ct_law_mixed oc_law_drawn kV_law_drawn dc_law_drawn pm_law_drawn cd_law_drawn ct_law_drawn oc_law_name kV_law_name dc_law_name pm_law_name cd_law_name ct_law_name oc_law_next kV_law_next dc_law_next pm_law_next cd_law_next ct_law_next oc_law_number kV_law_number dc_law_number pm_law_number cd_law_number ct_law_number oc_law_parts kV_law_parts dc_law_parts pm_law_parts cd_law_parts ct_law_parts oc_law_any kV_law_any dc_law_any pm_law_any cd_law_any ct_law_any oc_law_all kV_law_all dc_law_all pm_law_all cd_law_all ct_law_all oc_law kV_law dc_law pm_law cd_law ct_law : Value}
    {eD_PARTS_AT : Array DictEntry} {nD_PARTS_AT : Nat} {t_PARTS_AT_num t_PARTS_AT_name t_PARTS_AT_sum t_PARTS_AT_product t_PARTS_AT_less t_PARTS_AT_when t_PARTS_AT_let t_PARTS_AT_turns t_PARTS_AT_def t_PARTS_AT_use t_PARTS_AT_quote t_PARTS_AT_hole t_PARTS_AT_lift t_PARTS_AT_run : Tok}
    (aC_TermTable : PySem.W.nsIn K mainGlobals "TermTable" = some (some (.ref C_TermTable)))
    (pg_TermTable : PySem.W.plainGet K C_TermTable Str.empty = true)
    (hd_TermTable : PySem.W.hasDictIn K C_TermTable = true)
    (po_TermTable : PySem.W.plainOver K C_TermTable = true)
    (sa_TermTable : PySem.W.findIn K (.ref C_TermTable) "__setattr__" = some (some (.builtin "object.__setattr__")))
    (mk_TermTable : PySem.W.makesIn K C_TermTable = true)
    (kc_TermTable : PySem.W.keepIn K (.ref C_TermTable) = true)
    (no_TermTable_rows : PySem.W.findIn K (.ref C_TermTable) "rows" = some none)
    (no_TermTable_known : PySem.W.findIn K (.ref C_TermTable) "known" = some none)
    (a_loose_in : PySem.W.nsIn K mainGlobals "loose_in" = some (some (.ref f_loose_in)))
    (l_loose_in : K.lookup f_loose_in = some ⟨oc_loose_in, od_loose_in, .func (PySem.W.fnOf "loose_in" "loose_in" (defArgs s_loose_in) (defBody s_loose_in) (defScope s_loose_in) .none kV_loose_in dc_loose_in pm_loose_in an_loose_in cd_loose_in ct_loose_in), sl_loose_in⟩)
    (c_loose_in : PySem.W.codeIn K cd_loose_in "loose_in" = true)
    (k_loose_in : PySem.W.keepIn K (.ref f_loose_in) = true)
    (a_loose_in_rows : PySem.W.nsIn K mainGlobals "loose_in_rows" = some (some (.ref f_loose_in_rows)))
    (l_loose_in_rows : K.lookup f_loose_in_rows = some ⟨oc_loose_in_rows, od_loose_in_rows, .func (PySem.W.fnOf "loose_in_rows" "loose_in_rows" (defArgs s_loose_in_rows) (defBody s_loose_in_rows) (defScope s_loose_in_rows) .none kV_loose_in_rows dc_loose_in_rows pm_loose_in_rows an_loose_in_rows cd_loose_in_rows ct_loose_in_rows), sl_loose_in_rows⟩)
    (c_loose_in_rows : PySem.W.codeIn K cd_loose_in_rows "loose_in_rows" = true)
    (k_loose_in_rows : PySem.W.keepIn K (.ref f_loose_in_rows) = true)
    (a_loose_names : PySem.W.nsIn K mainGlobals "loose_names" = some (some (.ref f_loose_names)))
    (l_loose_names : K.lookup f_loose_names = some ⟨oc_loose_names, od_loose_names, .func (PySem.W.fnOf "loose_names" "loose_names" (defArgs s_loose_names) (defBody s_loose_names) (defScope s_loose_names) .none kV_loose_names dc_loose_names pm_loose_names an_loose_names cd_loose_names ct_loose_names), sl_loose_names⟩)
    (c_loose_names : PySem.W.codeIn K cd_loose_names "loose_names" = true)
    (k_loose_names : PySem.W.keepIn K (.ref f_loose_names) = true)
    (a_bound_in_parts : PySem.W.nsIn K mainGlobals "bound_in_parts" = some (some (.ref f_bound_in_parts)))
    (l_bound_in_parts : K.lookup f_bound_in_parts = some ⟨oc_bound_in_parts, od_bound_in_parts, .func (PySem.W.fnOf "bound_in_parts" "bound_in_parts" (defArgs s_bound_in_parts) (defBody s_bound_in_parts) (defScope s_bound_in_parts) .none kV_bound_in_parts dc_bound_in_parts pm_bound_in_parts an_bound_in_parts cd_bound_in_parts ct_bound_in_parts), sl_bound_in_parts⟩)
    (c_bound_in_parts : PySem.W.codeIn K cd_bound_in_parts "bound_in_parts" = true)
    (k_bound_in_parts : PySem.W.keepIn K (.ref f_bound_in_parts) = true)
    (a_head_of : PySem.W.nsIn K mainGlobals "head_of" = some (some (.ref f_head_of)))
    (l_head_of : K.lookup f_head_of = some ⟨oc_head_of, od_head_of, .func (PySem.W.fnOf "head_of" "head_of" (defArgs s_head_of) (defBody s_head_of) (defScope s_head_of) .none kV_head_of dc_head_of pm_head_of an_head_of cd_head_of ct_head_of), sl_head_of⟩)
    (c_head_of : PySem.W.codeIn K cd_head_of "head_of" = true)
    (k_head_of : PySem.W.keepIn K (.ref f_head_of) = true)
    (a_parts_of : PySem.W.nsIn K mainGlobals "parts_of" = some (some (.ref f_parts_of)))
    (l_parts_of : K.lookup f_parts_of = some ⟨oc_parts_of, od_parts_of, .func (PySem.W.fnOf "parts_of" "parts_of" (defArgs s_parts_of) (defBody s_parts_of) (defScope s_parts_of) .none kV_parts_of dc_parts_of pm_parts_of an_parts_of cd_parts_of ct_parts_of), sl_parts_of⟩)
    (c_parts_of : PySem.W.codeIn K cd_parts_of "parts_of" = true)
    (k_parts_of : PySem.W.keepIn K (.ref f_parts_of) = true)
    (a_rows_of : PySem.W.nsIn K mainGlobals "rows_of" = some (some (.ref f_rows_of)))
    (l_rows_of : K.lookup f_rows_of = some ⟨oc_rows_of, od_rows_of, .func (PySem.W.fnOf "rows_of" "rows_of" (defArgs s_rows_of) (defBody s_rows_of) (defScope s_rows_of) .none kV_rows_of dc_rows_of pm_rows_of an_rows_of cd_rows_of ct_rows_of), sl_rows_of⟩)
    (c_rows_of : PySem.W.codeIn K cd_rows_of "rows_of" = true)
    (k_rows_of : PySem.W.keepIn K (.ref f_rows_of) = true)
    (a_TermTable_init : PySem.W.findIn K (.ref C_TermTable) "__init__" = some (some (.ref f_TermTable_init)))
    (i_TermTable_init : PySem.W.isFn K (.ref f_TermTable_init) = true)
    (l_TermTable_init : K.lookup f_TermTable_init = some ⟨oc_TermTable_init, od_TermTable_init, .func (PySem.W.fnOf "__init__" "TermTable.__init__" (defArgs s_TermTable_init) (defBody s_TermTable_init) (defScope s_TermTable_init) .none kV_TermTable_init dc_TermTable_init pm_TermTable_init an_TermTable_init cd_TermTable_init ct_TermTable_init), sl_TermTable_init⟩)
    (c_TermTable_init : PySem.W.codeIn K cd_TermTable_init "TermTable.__init__" = true)
    (k_TermTable_init : PySem.W.keepIn K (.ref f_TermTable_init) = true)
    (a_TermTable_place_of : PySem.W.findIn K (.ref C_TermTable) "place_of" = some (some (.ref f_TermTable_place_of)))
    (i_TermTable_place_of : PySem.W.isFn K (.ref f_TermTable_place_of) = true)
    (l_TermTable_place_of : K.lookup f_TermTable_place_of = some ⟨oc_TermTable_place_of, od_TermTable_place_of, .func (PySem.W.fnOf "place_of" "TermTable.place_of" (defArgs s_TermTable_place_of) (defBody s_TermTable_place_of) (defScope s_TermTable_place_of) .none kV_TermTable_place_of dc_TermTable_place_of pm_TermTable_place_of an_TermTable_place_of cd_TermTable_place_of ct_TermTable_place_of), sl_TermTable_place_of⟩)
    (c_TermTable_place_of : PySem.W.codeIn K cd_TermTable_place_of "TermTable.place_of" = true)
    (k_TermTable_place_of : PySem.W.keepIn K (.ref f_TermTable_place_of) = true)
    (a_ends_of : PySem.W.nsIn K mainGlobals "ends_of" = some (some (.ref f_ends_of)))
    (l_ends_of : K.lookup f_ends_of = some ⟨oc_ends_of, od_ends_of, .func (PySem.W.fnOf "ends_of" "ends_of" (defArgs s_ends_of) (defBody s_ends_of) (defScope s_ends_of) .none kV_ends_of dc_ends_of pm_ends_of an_ends_of cd_ends_of ct_ends_of), sl_ends_of⟩)
    (c_ends_of : PySem.W.codeIn K cd_ends_of "ends_of" = true)
    (k_ends_of : PySem.W.keepIn K (.ref f_ends_of) = true)
    (a_edge_of : PySem.W.nsIn K mainGlobals "edge_of" = some (some (.ref f_edge_of)))
    (l_edge_of : K.lookup f_edge_of = some ⟨oc_edge_of, od_edge_of, .func (PySem.W.fnOf "edge_of" "edge_of" (defArgs s_edge_of) (defBody s_edge_of) (defScope s_edge_of) .none kV_edge_of dc_edge_of pm_edge_of an_edge_of cd_edge_of ct_edge_of), sl_edge_of⟩)
    (c_edge_of : PySem.W.codeIn K cd_edge_of "edge_of" = true)
    (k_edge_of : PySem.W.keepIn K (.ref f_edge_of) = true)
    (a_law_cell_at : PySem.W.nsIn K mainGlobals "_law_cell_at" = some (some (.ref f_law_cell_at)))
    (l_law_cell_at : K.lookup f_law_cell_at = some ⟨oc_law_cell_at, od_law_cell_at, .func (PySem.W.fnOf "_law_cell_at" "_law_cell_at" (defArgs s_cell_at) (defBody s_cell_at) (defScope s_cell_at) .none kV_law_cell_at dc_law_cell_at pm_law_cell_at an_law_cell_at cd_law_cell_at ct_law_cell_at), sl_law_cell_at⟩)
    (c_law_cell_at : PySem.W.codeIn K cd_law_cell_at "_law_cell_at" = true)
    (k_law_cell_at : PySem.W.keepIn K (.ref f_law_cell_at) = true)
    (a_law_mixed : PySem.W.nsIn K mainGlobals "_law_mixed" = some (some (.ref f_law_mixed)))
    (l_law_mixed : K.lookup f_law_mixed = some ⟨oc_law_mixed, od_law_mixed, .func (PySem.W.fnOf "_law_mixed" "_law_mixed" (defArgs s_mixed) (defBody s_mixed) (defScope s_mixed) .none kV_law_mixed dc_law_mixed pm_law_mixed an_law_mixed cd_law_mixed ct_law_mixed), sl_law_mixed⟩)
    (c_law_mixed : PySem.W.codeIn K cd_law_mixed "_law_mixed" = true)
    (k_law_mixed : PySem.W.keepIn K (.ref f_law_mixed) = true)
    (a_law_drawn : PySem.W.nsIn K mainGlobals "_law_drawn" = some (some (.ref f_law_drawn)))
    (l_law_drawn : K.lookup f_law_drawn = some ⟨oc_law_drawn, od_law_drawn, .func (PySem.W.fnOf "_law_drawn" "_law_drawn" (defArgs s_drawn) (defBody s_drawn) (defScope s_drawn) .none kV_law_drawn dc_law_drawn pm_law_drawn an_law_drawn cd_law_drawn ct_law_drawn), sl_law_drawn⟩)
    (c_law_drawn : PySem.W.codeIn K cd_law_drawn "_law_drawn" = true)
    (k_law_drawn : PySem.W.keepIn K (.ref f_law_drawn) = true)
    (a_law_name : PySem.W.nsIn K mainGlobals "_law_name" = some (some (.ref f_law_name)))
    (l_law_name : K.lookup f_law_name = some ⟨oc_law_name, od_law_name, .func (PySem.W.fnOf "_law_name" "_law_name" (defArgs s_name) (defBody s_name) (defScope s_name) .none kV_law_name dc_law_name pm_law_name an_law_name cd_law_name ct_law_name), sl_law_name⟩)
    (c_law_name : PySem.W.codeIn K cd_law_name "_law_name" = true)
    (k_law_name : PySem.W.keepIn K (.ref f_law_name) = true)
    (a_law_next : PySem.W.nsIn K mainGlobals "_law_next" = some (some (.ref f_law_next)))
    (l_law_next : K.lookup f_law_next = some ⟨oc_law_next, od_law_next, .func (PySem.W.fnOf "_law_next" "_law_next" (defArgs s_next) (defBody s_next) (defScope s_next) .none kV_law_next dc_law_next pm_law_next an_law_next cd_law_next ct_law_next), sl_law_next⟩)
    (c_law_next : PySem.W.codeIn K cd_law_next "_law_next" = true)
    (k_law_next : PySem.W.keepIn K (.ref f_law_next) = true)
    (a_law_number : PySem.W.nsIn K mainGlobals "_law_number" = some (some (.ref f_law_number)))
    (l_law_number : K.lookup f_law_number = some ⟨oc_law_number, od_law_number, .func (PySem.W.fnOf "_law_number" "_law_number" (defArgs s_number) (defBody s_number) (defScope s_number) .none kV_law_number dc_law_number pm_law_number an_law_number cd_law_number ct_law_number), sl_law_number⟩)
    (c_law_number : PySem.W.codeIn K cd_law_number "_law_number" = true)
    (k_law_number : PySem.W.keepIn K (.ref f_law_number) = true)
    (a_law_parts : PySem.W.nsIn K mainGlobals "_law_parts" = some (some (.ref f_law_parts)))
    (l_law_parts : K.lookup f_law_parts = some ⟨oc_law_parts, od_law_parts, .func (PySem.W.fnOf "_law_parts" "_law_parts" (defArgs s_parts) (defBody s_parts) (defScope s_parts) .none kV_law_parts dc_law_parts pm_law_parts an_law_parts cd_law_parts ct_law_parts), sl_law_parts⟩)
    (c_law_parts : PySem.W.codeIn K cd_law_parts "_law_parts" = true)
    (k_law_parts : PySem.W.keepIn K (.ref f_law_parts) = true)
    (a_law_any : PySem.W.nsIn K mainGlobals "_law_any" = some (some (.ref f_law_any)))
    (l_law_any : K.lookup f_law_any = some ⟨oc_law_any, od_law_any, .func (PySem.W.fnOf "_law_any" "_law_any" (defArgs s_any) (defBody s_any) (defScope s_any) .none kV_law_any dc_law_any pm_law_any an_law_any cd_law_any ct_law_any), sl_law_any⟩)
    (c_law_any : PySem.W.codeIn K cd_law_any "_law_any" = true)
    (k_law_any : PySem.W.keepIn K (.ref f_law_any) = true)
    (a_law_all : PySem.W.nsIn K mainGlobals "_law_all" = some (some (.ref f_law_all)))
    (l_law_all : K.lookup f_law_all = some ⟨oc_law_all, od_law_all, .func (PySem.W.fnOf "_law_all" "_law_all" (defArgs s_all) (defBody s_all) (defScope s_all) .none kV_law_all dc_law_all pm_law_all an_law_all cd_law_all ct_law_all), sl_law_all⟩)
    (c_law_all : PySem.W.codeIn K cd_law_all "_law_all" = true)
    (k_law_all : PySem.W.keepIn K (.ref f_law_all) = true)
    (a_law : PySem.W.nsIn K mainGlobals "law" = some (some (.ref f_law)))
    (l_law : K.lookup f_law = some ⟨oc_law, od_law, .func (PySem.W.fnOf "law" "law" (defArgs s_law) (defBody s_law) (defScope s_law) .none kV_law dc_law pm_law an_law cd_law ct_law), sl_law⟩)
    (c_law : PySem.W.codeIn K cd_law "law" = true)
    (k_law : PySem.W.keepIn K (.ref f_law) = true)
    (z_isinstance : PySem.W.nsIn K mainGlobals "isinstance" = some none)
    (z_len : PySem.W.nsIn K mainGlobals "len" = some none)
    (z_list : PySem.W.nsIn K mainGlobals "list" = some none)
    (z_range : PySem.W.nsIn K mainGlobals "range" = some none)
    (z_tuple : PySem.W.nsIn K mainGlobals "tuple" = some none)
    (z_zip : PySem.W.nsIn K mainGlobals "zip" = some none)
    (aD_PARTS_AT : PySem.W.nsIn K mainGlobals "PARTS_AT" = some (some (.ref D_PARTS_AT)))
    (lD_PARTS_AT : K.lookup D_PARTS_AT = some ⟨.type "dict", none, .dict eD_PARTS_AT nD_PARTS_AT, #[]⟩)
    (kD_PARTS_AT : PySem.W.KeysLit w.params eD_PARTS_AT.toList)
    (d_PARTS_AT_num : PySem.W.nsIn K D_PARTS_AT "num" = some (some (.int 2 t_PARTS_AT_num)))
    (d_PARTS_AT_name : PySem.W.nsIn K D_PARTS_AT "name" = some (some (.int 2 t_PARTS_AT_name)))
    (d_PARTS_AT_sum : PySem.W.nsIn K D_PARTS_AT "sum" = some (some (.int 1 t_PARTS_AT_sum)))
    (d_PARTS_AT_product : PySem.W.nsIn K D_PARTS_AT "product" = some (some (.int 1 t_PARTS_AT_product)))
    (d_PARTS_AT_less : PySem.W.nsIn K D_PARTS_AT "less" = some (some (.int 1 t_PARTS_AT_less)))
    (d_PARTS_AT_when : PySem.W.nsIn K D_PARTS_AT "when" = some (some (.int 1 t_PARTS_AT_when)))
    (d_PARTS_AT_let : PySem.W.nsIn K D_PARTS_AT "let" = some (some (.int 2 t_PARTS_AT_let)))
    (d_PARTS_AT_turns : PySem.W.nsIn K D_PARTS_AT "turns" = some (some (.int 3 t_PARTS_AT_turns)))
    (d_PARTS_AT_def : PySem.W.nsIn K D_PARTS_AT "def" = some (some (.int 4 t_PARTS_AT_def)))
    (d_PARTS_AT_use : PySem.W.nsIn K D_PARTS_AT "use" = some (some (.int 2 t_PARTS_AT_use)))
    (d_PARTS_AT_quote : PySem.W.nsIn K D_PARTS_AT "quote" = some (some (.int 1 t_PARTS_AT_quote)))
    (d_PARTS_AT_hole : PySem.W.nsIn K D_PARTS_AT "hole" = some (some (.int 1 t_PARTS_AT_hole)))
    (d_PARTS_AT_lift : PySem.W.nsIn K D_PARTS_AT "lift" = some (some (.int 1 t_PARTS_AT_lift)))
    (d_PARTS_AT_run : PySem.W.nsIn K D_PARTS_AT "run" = some (some (.int 1 t_PARTS_AT_run))) :
    ∃ fd : FuncData, (∀ (s : Shared) (v : Value), BindsTo s fd ⟨[v], []⟩ [("_law_script", v)]) ∧ ∀ base : Heap, K.In base → base.Ns mainGlobals mg → FnOk l.prog w K mg base CX0 67 fa fd ["_law_script"] (spLaw K) := by
  have e := hfa.symm.trans (PySem.W.mg_of X G a_law)
  cases e
  have cl_TermTable : Cls K C_TermTable := ⟨pg_TermTable, hd_TermTable, po_TermTable, sa_TermTable⟩
  have mC_TermTable := PySem.W.mg_of X G aC_TermTable
  have F_loose_in := fun_mk (st := s_loose_in) l_loose_in c_loose_in k_loose_in
  have b_loose_in := F_loose_in.binds (ps := ["term"]) fun _ _ _ _ _ _ us hl => match us, hl with | [_], _ => rfl
  have m_loose_in := PySem.W.mg_of X G a_loose_in
  have F_loose_in_rows := fun_mk (st := s_loose_in_rows) l_loose_in_rows c_loose_in_rows k_loose_in_rows
  have b_loose_in_rows := F_loose_in_rows.binds (ps := ["rows"]) fun _ _ _ _ _ _ us hl => match us, hl with | [_], _ => rfl
  have m_loose_in_rows := PySem.W.mg_of X G a_loose_in_rows
  have F_loose_names := fun_mk (st := s_loose_names) l_loose_names c_loose_names k_loose_names
  have b_loose_names := F_loose_names.binds (ps := ["head", "loose_in_parts"]) fun _ _ _ _ _ _ us hl => match us, hl with | [_, _], _ => rfl
  have m_loose_names := PySem.W.mg_of X G a_loose_names
  have F_bound_in_parts := fun_mk (st := s_bound_in_parts) l_bound_in_parts c_bound_in_parts k_bound_in_parts
  have b_bound_in_parts := F_bound_in_parts.binds (ps := ["head", "many"]) fun _ _ _ _ _ _ us hl => match us, hl with | [_, _], _ => rfl
  have m_bound_in_parts := PySem.W.mg_of X G a_bound_in_parts
  have F_head_of := fun_mk (st := s_head_of) l_head_of c_head_of k_head_of
  have b_head_of := F_head_of.binds (ps := ["term"]) fun _ _ _ _ _ _ us hl => match us, hl with | [_], _ => rfl
  have m_head_of := PySem.W.mg_of X G a_head_of
  have F_parts_of := fun_mk (st := s_parts_of) l_parts_of c_parts_of k_parts_of
  have b_parts_of := F_parts_of.binds (ps := ["term"]) fun _ _ _ _ _ _ us hl => match us, hl with | [_], _ => rfl
  have m_parts_of := PySem.W.mg_of X G a_parts_of
  have F_rows_of := fun_mk (st := s_rows_of) l_rows_of c_rows_of k_rows_of
  have b_rows_of := F_rows_of.binds (ps := ["term"]) fun _ _ _ _ _ _ us hl => match us, hl with | [_], _ => rfl
  have m_rows_of := PySem.W.mg_of X G a_rows_of
  have F_TermTable_init := fun_mk (st := s_TermTable_init) l_TermTable_init c_TermTable_init k_TermTable_init
  have b_TermTable_init := F_TermTable_init.binds (ps := ["self"]) fun _ _ _ _ _ _ us hl => match us, hl with | [_], _ => rfl
  have F_TermTable_place_of := fun_mk (st := s_TermTable_place_of) l_TermTable_place_of c_TermTable_place_of k_TermTable_place_of
  have b_TermTable_place_of := F_TermTable_place_of.binds (ps := ["self", "term"]) fun _ _ _ _ _ _ us hl => match us, hl with | [_, _], _ => rfl
  have F_ends_of := fun_mk (st := s_ends_of) l_ends_of c_ends_of k_ends_of
  have b_ends_of := F_ends_of.binds (ps := ["term"]) fun _ _ _ _ _ _ us hl => match us, hl with | [_], _ => rfl
  have m_ends_of := PySem.W.mg_of X G a_ends_of
  have F_edge_of := fun_mk (st := s_edge_of) l_edge_of c_edge_of k_edge_of
  have b_edge_of := F_edge_of.binds (ps := ["term", "side"]) fun _ _ _ _ _ _ us hl => match us, hl with | [_, _], _ => rfl
  have m_edge_of := PySem.W.mg_of X G a_edge_of
  have F_law_cell_at := fun_mk (st := s_cell_at) l_law_cell_at c_law_cell_at k_law_cell_at
  have b_law_cell_at := F_law_cell_at.binds (ps := ["_law_script", "_law_k"]) fun _ _ _ _ _ _ us hl => match us, hl with | [_, _], _ => rfl
  have m_law_cell_at := PySem.W.mg_of X G a_law_cell_at
  have F_law_mixed := fun_mk (st := s_mixed) l_law_mixed c_law_mixed k_law_mixed
  have b_law_mixed := F_law_mixed.binds (ps := ["_law_script", "_law_k"]) fun _ _ _ _ _ _ us hl => match us, hl with | [_, _], _ => rfl
  have m_law_mixed := PySem.W.mg_of X G a_law_mixed
  have F_law_drawn := fun_mk (st := s_drawn) l_law_drawn c_law_drawn k_law_drawn
  have b_law_drawn := F_law_drawn.binds (ps := ["_law_number_here", "_law_sizes"]) fun _ _ _ _ _ _ us hl => match us, hl with | [_, _], _ => rfl
  have m_law_drawn := PySem.W.mg_of X G a_law_drawn
  have F_law_name := fun_mk (st := s_name) l_law_name c_law_name k_law_name
  have b_law_name := F_law_name.binds (ps := ["_law_script", "_law_which"]) fun _ _ _ _ _ _ us hl => match us, hl with | [_, _], _ => rfl
  have m_law_name := PySem.W.mg_of X G a_law_name
  have F_law_next := fun_mk (st := s_next) l_law_next c_law_next k_law_next
  have b_law_next := F_law_next.binds (ps := ["_law_script", "_law_state"]) fun _ _ _ _ _ _ us hl => match us, hl with | [_, _], _ => rfl
  have m_law_next := PySem.W.mg_of X G a_law_next
  have F_law_number := fun_mk (st := s_number) l_law_number c_law_number k_law_number
  have b_law_number := F_law_number.binds (ps := ["_law_number_here"]) fun _ _ _ _ _ _ us hl => match us, hl with | [_], _ => rfl
  have m_law_number := PySem.W.mg_of X G a_law_number
  have F_law_parts := fun_mk (st := s_parts) l_law_parts c_law_parts k_law_parts
  have b_law_parts := F_law_parts.binds (ps := ["_law_term"]) fun _ _ _ _ _ _ us hl => match us, hl with | [_], _ => rfl
  have m_law_parts := PySem.W.mg_of X G a_law_parts
  have F_law_any := fun_mk (st := s_any) l_law_any c_law_any k_law_any
  have b_law_any := F_law_any.binds (ps := ["_law_script", "_law_state", "_law_depth"]) fun _ _ _ _ _ _ us hl => match us, hl with | [_, _, _], _ => rfl
  have m_law_any := PySem.W.mg_of X G a_law_any
  have F_law_all := fun_mk (st := s_all) l_law_all c_law_all k_law_all
  have b_law_all := F_law_all.binds (ps := ["_law_term", "_law_held"]) fun _ _ _ _ _ _ us hl => match us, hl with | [_, _], _ => rfl
  have m_law_all := PySem.W.mg_of X G a_law_all
  have F_law := fun_mk (st := s_law) l_law c_law k_law
  have b_law := F_law.binds (ps := ["_law_script"]) fun _ _ _ _ _ _ us hl => match us, hl with | [_], _ => rfl
  have T : Txt mg := ⟨PySem.W.mg_none_of X G z_isinstance, PySem.W.mg_none_of X G z_len, PySem.W.mg_none_of X G z_list, PySem.W.mg_none_of X G z_range, PySem.W.mg_none_of X G z_tuple, PySem.W.mg_none_of X G z_zip⟩
  have TC : TxtC K C_TermTable := ⟨cl_TermTable, no_TermTable_rows, no_TermTable_known⟩
  have Z : KParts K w mg D_PARTS_AT := ⟨PySem.W.mg_of X G aD_PARTS_AT, fun u => by
    cases u
    · exact ⟨_, _, _, lD_PARTS_AT, kD_PARTS_AT, d_PARTS_AT_num, _, rfl⟩
    · exact ⟨_, _, _, lD_PARTS_AT, kD_PARTS_AT, d_PARTS_AT_name, _, rfl⟩
    · exact ⟨_, _, _, lD_PARTS_AT, kD_PARTS_AT, d_PARTS_AT_sum, _, rfl⟩
    · exact ⟨_, _, _, lD_PARTS_AT, kD_PARTS_AT, d_PARTS_AT_product, _, rfl⟩
    · exact ⟨_, _, _, lD_PARTS_AT, kD_PARTS_AT, d_PARTS_AT_less, _, rfl⟩
    · exact ⟨_, _, _, lD_PARTS_AT, kD_PARTS_AT, d_PARTS_AT_when, _, rfl⟩
    · exact ⟨_, _, _, lD_PARTS_AT, kD_PARTS_AT, d_PARTS_AT_let, _, rfl⟩
    · exact ⟨_, _, _, lD_PARTS_AT, kD_PARTS_AT, d_PARTS_AT_turns, _, rfl⟩
    · exact ⟨_, _, _, lD_PARTS_AT, kD_PARTS_AT, d_PARTS_AT_def, _, rfl⟩
    · exact ⟨_, _, _, lD_PARTS_AT, kD_PARTS_AT, d_PARTS_AT_use, _, rfl⟩
    · exact ⟨_, _, _, lD_PARTS_AT, kD_PARTS_AT, d_PARTS_AT_quote, _, rfl⟩
    · exact ⟨_, _, _, lD_PARTS_AT, kD_PARTS_AT, d_PARTS_AT_hole, _, rfl⟩
    · exact ⟨_, _, _, lD_PARTS_AT, kD_PARTS_AT, d_PARTS_AT_lift, _, rfl⟩
    · exact ⟨_, _, _, lD_PARTS_AT, kD_PARTS_AT, d_PARTS_AT_run, _, rfl⟩⟩
  refine ⟨PySem.W.fnOf "law" "law" (defArgs s_law) (defBody s_law) (defScope s_law) .none kV_law dc_law pm_law an_law cd_law ct_law, fun s v => .of_eq rfl, fun base _ _ => ?_⟩
  have C_law_cell_at : Cal l.prog w K mg base "_law_cell_at" ["_law_script", "_law_k"] 1 (spCellAt K) _ _ := ⟨ok_cell_at F_law_cell_at T, m_law_cell_at, k_law_cell_at, b_law_cell_at⟩
  have C_law_mixed : Cal l.prog w K mg base "_law_mixed" ["_law_script", "_law_k"] 2 (spMixed K) _ _ := ⟨ok_mixed F_law_mixed T C_law_cell_at, m_law_mixed, k_law_mixed, b_law_mixed⟩
  have C_law_drawn : Cal l.prog w K mg base "_law_drawn" ["_law_number_here", "_law_sizes"] 1 (spDrawn K) _ _ := ⟨ok_drawn F_law_drawn T, m_law_drawn, k_law_drawn, b_law_drawn⟩
  have C_law_next : Cal l.prog w K mg base "_law_next" ["_law_script", "_law_state"] 3 (spNext K) _ _ := ⟨ok_next F_law_next C_law_mixed, m_law_next, k_law_next, b_law_next⟩
  have C_law_number : Cal l.prog w K mg base "_law_number" ["_law_number_here"] 1 spNumber _ _ := ⟨ok_number F_law_number, m_law_number, k_law_number, b_law_number⟩
  have C_law_name : Cal l.prog w K mg base "_law_name" ["_law_script", "_law_which"] 3 (spName K) _ _ := ⟨ok_name F_law_name T C_law_mixed, m_law_name, k_law_name, b_law_name⟩
  have C_law_any : Cal l.prog w K mg base "_law_any" ["_law_script", "_law_state", "_law_depth"] 9 (spAny K 5) _ _ := ⟨all_any F_law_any C_law_next C_law_drawn C_law_name C_law_number m_law_any k_law_any b_law_any 5, m_law_any, k_law_any, b_law_any⟩
  have C_law_parts : Cal l.prog w K mg base "_law_parts" ["_law_term"] 1 spParts _ _ := ⟨ok_parts F_law_parts, m_law_parts, k_law_parts, b_law_parts⟩
  have C_head_of : Cal l.prog w K mg base "head_of" ["term"] 1 spHead _ _ := ⟨ok_head_of F_head_of Z, m_head_of, k_head_of, b_head_of⟩
  have C_parts_of : Cal l.prog w K mg base "parts_of" ["term"] 1 spPartsOf _ _ := ⟨ok_parts_of F_parts_of Z, m_parts_of, k_parts_of, b_parts_of⟩
  have C_edge_of : Cal l.prog w K mg base "edge_of" ["term", "side"] 2 spEdge _ _ := ⟨ok_edge_of F_edge_of T C_head_of C_parts_of, m_edge_of, k_edge_of, b_edge_of⟩
  have C_ends_of : Cal l.prog w K mg base "ends_of" ["term"] 3 spEnds _ _ := ⟨ok_ends_of F_ends_of C_edge_of, m_ends_of, k_ends_of, b_ends_of⟩
  have MK_TermTable : CalC l.prog w K mg base "TermTable" _ ["self"] 1 (spTabInit l.prog w C_TermTable) _ _ := ⟨⟨mk_TermTable, a_TermTable_init, i_TermTable_init, kc_TermTable⟩, ok_tab_init F_TermTable_init TC, mC_TermTable, b_TermTable_init⟩
  have C_place_of : CalM l.prog w K mg base _ "place_of" ["self", "term"] 64 (spPlace l.prog w C_TermTable 60) _ _ := ⟨all_place F_TermTable_place_of T TC C_ends_of C_head_of C_parts_of ⟨a_TermTable_place_of, i_TermTable_place_of, k_TermTable_place_of⟩ b_TermTable_place_of 60, ⟨a_TermTable_place_of, i_TermTable_place_of, k_TermTable_place_of⟩, b_TermTable_place_of⟩
  have C_rows_of : Cal l.prog w K mg base "rows_of" ["term"] 65 spRows _ _ := ⟨ok_rows_of F_rows_of TC MK_TermTable C_place_of, m_rows_of, k_rows_of, b_rows_of⟩
  have C_bound_in_parts : Cal l.prog w K mg base "bound_in_parts" ["head", "many"] 1 spBounds _ _ := ⟨ok_bounds F_bound_in_parts, m_bound_in_parts, k_bound_in_parts, b_bound_in_parts⟩
  have C_loose_names : Cal l.prog w K mg base "loose_names" ["head", "loose_in_parts"] 2 spLooseNames _ _ := ⟨ok_loose_names F_loose_names T C_bound_in_parts, m_loose_names, k_loose_names, b_loose_names⟩
  have C_loose_in_rows : Cal l.prog w K mg base "loose_in_rows" ["rows"] 3 spLooseRows _ _ := ⟨ok_loose_rows F_loose_in_rows C_loose_names, m_loose_in_rows, k_loose_in_rows, b_loose_in_rows⟩
  have C_loose_in : Cal l.prog w K mg base "loose_in" ["term"] 66 spLoose _ _ := ⟨ok_loose_in F_loose_in C_rows_of C_loose_in_rows, m_loose_in, k_loose_in, b_loose_in⟩
  have C_law_all : Cal l.prog w K mg base "_law_all" ["_law_term", "_law_held"] 31 (spAll 30) _ _ := ⟨all_all F_law_all T C_law_parts m_law_all k_law_all b_law_all 30, m_law_all, k_law_all, b_law_all⟩
  exact ok_law F_law T C_law_any C_law_mixed C_loose_in C_law_all
theorem walk {l : PySem.W.OpenLaw} {q : Program} {loose : List Str} {XP : (Str → Option Value) → Heap → Prop} {YP : World → Heap → Prop} {d : DefRec} {K : Params → PySem.W.Frag} (hn : l.most = some 63) (hdf : d.params.defaults = [])
    (hY : ∀ (w : World) (h : Heap), YP w h → (K w.params).In h)
    (F : ∀ (w : World) (mg : Str → Option Value) (fa : Addr) (h : Heap), (K w.params).In h → h.Ns mainGlobals mg → mg d.name = some (.ref fa) →
      ∃ fd : FuncData, (∀ (s : Shared) (u : Value), BindsTo s fd ⟨[u], []⟩ [("_law_script", u)]) ∧ ∀ base : Heap, (K w.params).In base → base.Ns mainGlobals mg → FnOk l.prog w (K w.params) mg base CX0 67 fa fd ["_law_script"] (spLaw (K w.params))) :
    PySem.W.WalkO q loose XP YP l.row.toRowW d [] (fun f vs => PySem.call f vs) :=
  L2.walk_of (n := 63) (k := 67) (x := "_law_script") (CX := fun _ => CX0) (sp := fun w => spLaw (K w.params)) hn (by decide) hdf ⟨rfl, by decide, by decide⟩ hY F (fun _ _ a ns hl hO hS => ⟨a, rfl, Ints.of hO hS hl, fun _ => rfl⟩) fun _ _ _ _ _ z => z
end Q
open PySem PySem.W PyProof.Rows in
set_option maxRecDepth 100000 in
set_option maxHeartbeats 0 in
theorem PySem.Challenge.cw_quotehall_k03_loose_holds : PySem.Challenge.rw_quotehall_k03_loose.Holds := by
  w_on; o_law; k_head; (case hw => w_witness2)
  k_fill
  refine Q.walk (l := PySem.Challenge.rw_quotehall_k03_loose) rfl rfl (fun w h Y => PySem.W.kIn_of Y) ?F
  case F =>
    intro w mg fa h KX G hmg
    refine' Q.all_mk KX G hmg ?aC_TermTable ?pg_TermTable ?hd_TermTable ?po_TermTable ?sa_TermTable ?mk_TermTable ?kc_TermTable ?no_TermTable_rows ?no_TermTable_known ?a_loose_in ?l_loose_in ?c_loose_in ?k_loose_in ?a_loose_in_rows ?l_loose_in_rows ?c_loose_in_rows ?k_loose_in_rows ?a_loose_names ?l_loose_names ?c_loose_names ?k_loose_names ?a_bound_in_parts ?l_bound_in_parts ?c_bound_in_parts ?k_bound_in_parts ?a_head_of ?l_head_of ?c_head_of ?k_head_of ?a_parts_of ?l_parts_of ?c_parts_of ?k_parts_of ?a_rows_of ?l_rows_of ?c_rows_of ?k_rows_of ?a_TermTable_init ?i_TermTable_init ?l_TermTable_init ?c_TermTable_init ?k_TermTable_init ?a_TermTable_place_of ?i_TermTable_place_of ?l_TermTable_place_of ?c_TermTable_place_of ?k_TermTable_place_of ?a_ends_of ?l_ends_of ?c_ends_of ?k_ends_of ?a_edge_of ?l_edge_of ?c_edge_of ?k_edge_of ?a_law_cell_at ?l_law_cell_at ?c_law_cell_at ?k_law_cell_at ?a_law_mixed ?l_law_mixed ?c_law_mixed ?k_law_mixed ?a_law_drawn ?l_law_drawn ?c_law_drawn ?k_law_drawn ?a_law_name ?l_law_name ?c_law_name ?k_law_name ?a_law_next ?l_law_next ?c_law_next ?k_law_next ?a_law_number ?l_law_number ?c_law_number ?k_law_number ?a_law_parts ?l_law_parts ?c_law_parts ?k_law_parts ?a_law_any ?l_law_any ?c_law_any ?k_law_any ?a_law_all ?l_law_all ?c_law_all ?k_law_all ?a_law ?l_law ?c_law ?k_law ?z_isinstance ?z_len ?z_list ?z_range ?z_tuple ?z_zip ?aD_PARTS_AT ?lD_PARTS_AT ?kD_PARTS_AT ?d_PARTS_AT_num ?d_PARTS_AT_name ?d_PARTS_AT_sum ?d_PARTS_AT_product ?d_PARTS_AT_less ?d_PARTS_AT_when ?d_PARTS_AT_let ?d_PARTS_AT_turns ?d_PARTS_AT_def ?d_PARTS_AT_use ?d_PARTS_AT_quote ?d_PARTS_AT_hole ?d_PARTS_AT_lift ?d_PARTS_AT_run
    (case aC_TermTable => k_is)
    (case pg_TermTable => k_is)
    (case hd_TermTable => k_is)
    (case po_TermTable => k_is)
    (case sa_TermTable => k_is)
    (case mk_TermTable => k_is)
    (case kc_TermTable => k_is)
    (case no_TermTable_rows => k_is)
    (case no_TermTable_known => k_is)
    (case a_loose_in => k_is)
    (case l_loose_in => k_is)
    (case c_loose_in => k_is)
    (case k_loose_in => k_is)
    (case a_loose_in_rows => k_is)
    (case l_loose_in_rows => k_is)
    (case c_loose_in_rows => k_is)
    (case k_loose_in_rows => k_is)
    (case a_loose_names => k_is)
    (case l_loose_names => k_is)
    (case c_loose_names => k_is)
    (case k_loose_names => k_is)
    (case a_bound_in_parts => k_is)
    (case l_bound_in_parts => k_is)
    (case c_bound_in_parts => k_is)
    (case k_bound_in_parts => k_is)
    (case a_head_of => k_is)
    (case l_head_of => k_is)
    (case c_head_of => k_is)
    (case k_head_of => k_is)
    (case a_parts_of => k_is)
    (case l_parts_of => k_is)
    (case c_parts_of => k_is)
    (case k_parts_of => k_is)
    (case a_rows_of => k_is)
    (case l_rows_of => k_is)
    (case c_rows_of => k_is)
    (case k_rows_of => k_is)
    (case a_TermTable_init => k_is)
    (case i_TermTable_init => k_is)
    (case l_TermTable_init => k_is)
    (case c_TermTable_init => k_is)
    (case k_TermTable_init => k_is)
    (case a_TermTable_place_of => k_is)
    (case i_TermTable_place_of => k_is)
    (case l_TermTable_place_of => k_is)
    (case c_TermTable_place_of => k_is)
    (case k_TermTable_place_of => k_is)
    (case a_ends_of => k_is)
    (case l_ends_of => k_is)
    (case c_ends_of => k_is)
    (case k_ends_of => k_is)
    (case a_edge_of => k_is)
    (case l_edge_of => k_is)
    (case c_edge_of => k_is)
    (case k_edge_of => k_is)
    (case a_law_cell_at => k_is)
    (case l_law_cell_at => k_is)
    (case c_law_cell_at => k_is)
    (case k_law_cell_at => k_is)
    (case a_law_mixed => k_is)
    (case l_law_mixed => k_is)
    (case c_law_mixed => k_is)
    (case k_law_mixed => k_is)
    (case a_law_drawn => k_is)
    (case l_law_drawn => k_is)
    (case c_law_drawn => k_is)
    (case k_law_drawn => k_is)
    (case a_law_name => k_is)
    (case l_law_name => k_is)
    (case c_law_name => k_is)
    (case k_law_name => k_is)
    (case a_law_next => k_is)
    (case l_law_next => k_is)
    (case c_law_next => k_is)
    (case k_law_next => k_is)
    (case a_law_number => k_is)
    (case l_law_number => k_is)
    (case c_law_number => k_is)
    (case k_law_number => k_is)
    (case a_law_parts => k_is)
    (case l_law_parts => k_is)
    (case c_law_parts => k_is)
    (case k_law_parts => k_is)
    (case a_law_any => k_is)
    (case l_law_any => k_is)
    (case c_law_any => k_is)
    (case k_law_any => k_is)
    (case a_law_all => k_is)
    (case l_law_all => k_is)
    (case c_law_all => k_is)
    (case k_law_all => k_is)
    (case a_law => k_is)
    (case l_law => k_is)
    (case c_law => k_is)
    (case k_law => k_is)
    (case z_isinstance => k_is)
    (case z_len => k_is)
    (case z_list => k_is)
    (case z_range => k_is)
    (case z_tuple => k_is)
    (case z_zip => k_is)
    (case aD_PARTS_AT => k_is)
    (case lD_PARTS_AT => k_is)
    (case kD_PARTS_AT => first | k_is | (repeat' (first | exact True.intro | refine ⟨⟨_, _, rfl, rfl⟩, ?_⟩)))
    (case d_PARTS_AT_num => k_is)
    (case d_PARTS_AT_name => k_is)
    (case d_PARTS_AT_sum => k_is)
    (case d_PARTS_AT_product => k_is)
    (case d_PARTS_AT_less => k_is)
    (case d_PARTS_AT_when => k_is)
    (case d_PARTS_AT_let => k_is)
    (case d_PARTS_AT_turns => k_is)
    (case d_PARTS_AT_def => k_is)
    (case d_PARTS_AT_use => k_is)
    (case d_PARTS_AT_quote => k_is)
    (case d_PARTS_AT_hole => k_is)
    (case d_PARTS_AT_lift => k_is)
    (case d_PARTS_AT_run => k_is)
#print axioms PySem.Challenge.cw_quotehall_k03_loose_holds

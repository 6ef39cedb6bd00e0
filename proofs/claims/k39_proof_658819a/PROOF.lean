import PyProof.Rows.All
import Wide.All
import OpenK.AllK
import Wide.FinOn
import PyProof.EqAt
import PyProof.EqKinds
import PyProof.TupleCall
import PyProof.ReprRoads
import HandS.Base
import HandS.Call
import HandS.List
import HandS.Comp
import HandS.Ends
import HandS.Dict
import HandS.Iter
import HandS.Words
import HandS.WordsList
import HandS.WideBits
import HandS.Text
import PyProof.FString3
import PyProof.Rows.StrIntSpec
import HandS.FStr
import PyProof.Draws
import PyProof.EnumMake
import HandS.Property
import HandS.RaiseMore
import KE.KCallOwn
import OpenK.KOps
import OpenK.KMeth
import HandS.MakeKwOnly
import HandS.SlotsOwn
import HandS.IsInst
import PyProof.StrBlock2
import KE.KRevSl
import PyProof.Rows.StrRev
import HandS.Small
import HandS.Star
import KE.KExcInit
import HandS.Exc
import HandS.ExcInit
import KE.KExcIs
import HandS.ExcValue
import HandS.ListEq
import KE.KFmtOwn
import PyProof.Conv_bool
import HandS.Conv
import KE.KOpsOwn
import KE.DataEq
import PySem.Challenge.RW_wovenplaces_k39_equal_sets
set_option Elab.async false
set_option linter.all false
set_option maxRecDepth 100000
set_option maxHeartbeats 0
namespace Hx
open PySem PySem.Spec PyProof.Rows L2

/-! a def's promise where no guard (a repr that runs) stands below -/
structure GOk (P : Program) (w : World) (K : PySem.W.Frag) (mg : Str → Option Value) (base : Heap) (CX : CXT) (k : Nat)
    (f : Addr) (fd : FuncData) (ps : List Str) (sp : Sp) : Prop where
  long : ∀ vs H Q E, sp vs H Q E → vs.length = ps.length
  goes : ∀ (A : Around) (outer : List Env) (s : Shared) (H : Hp) (args : Args) (us : List Value) (vs : List V) (Q : VK) (E : XK),
    Room k A → A.guards = some [] → Env0 P w K mg base A outer s H → BindsTo s fd args (ps.zip us) → Vals vs us → sp vs H Q E →
    codeAny (model P w) A (.call (.ref f) args) (CR CX outer P w H s Q E) s

section
variable {P : Program} {w : World} {K : PySem.W.Frag} {mg : Str → Option Value} {base : Heap} {CX : CXT} {k j : Nat}
  {f : Addr} {fd : FuncData} {ps : List Str} {sp : Sp}
theorem GOk.of (F : FnOk P w K mg base CX k f fd ps sp) : GOk P w K mg base CX k f fd ps sp :=
  ⟨F.len, fun A outer s H args us vs Q E room _ => F.run A outer s H args us vs Q E room⟩
theorem GOk.more (F : GOk P w K mg base CX j f fd ps sp) (h : j ≤ k) : GOk P w K mg base CX k f fd ps sp :=
  ⟨F.long, fun A outer s H args us vs Q E room => F.goes A outer s H args us vs Q E (room.mono h)⟩

/-- a def of the text keeps its promise, by its body, no guard below -/
theorem gok {x qual : Str} {st : Stmt} {N : List Str} (F : Fun K x qual st f fd) (S : FnScope N ps (defScope st))
    (long : ∀ vs H Q E, sp vs H Q E → vs.length = ps.length)
    (body : ∀ (cdv : Value) (A : Around) (outer : List Env) (s : Shared) (H : Hp) (vs : List V) (Q : VK) (E : XK),
      Room k (A.deeper (envOfC qual (defScope st) s.heap.objs.size f cdv)) → A.guards = some [] → sp vs H Q E →
      ∃ t, PSs (cxOf CX P w K mg base N qual (defScope st) f cdv A outer s H E) (defBody st) t ∧
        t { nx := fun _ H' => Q .non H', rt := Q } (start N vs) H) :
    GOk P w K mg base CX (k + 1) f fd ps sp := by
  obtain ⟨oc, od, kV, doc, pm, an, cdv, ct, osl, efd, hlook, hcode⟩ := F.ex
  subst efd
  constructor
  · exact long
  · intro A outer s H args us vs Q E room gd e0 hbind rel hsp
    have inK : K.In s.heap := e0.mod.kin.keeps fun b o h => (e0.bs b o h).1
    have noLim : s.heap.NoLimit := e0.mod.nolimit.keeps fun b o h => (e0.bs b o h).1
    refine codeAny_call_function room.depth (inK _ _ hlook) rfl S.co S.gen rfl (PySem.W.codeRec_of inK hcode) (hbind _ _ _ _ ?_)
    refine wpAny_newFunctionEnv_cells S.kind ?kinds fun env henv s1 inside => ?_
    case kinds =>
      rintro ⟨nm, val⟩ hm
      have hp := (List.of_mem_zip hm).1
      cases S.par nm hp with
      | inl hl => exact .inl hl
      | inr hc => exact .inr ⟨hc, PySem.W.cellsFrom_some _ _ _ (.inl hc)⟩
    subst henv
    refine ⟨noLim.keeps inside.toInCall.keep, codeAny_func ?_⟩
    obtain ⟨t, ht, hq⟩ := body cdv A outer s H vs Q E (room.deeper _) gd hsp
    have I0 := inv_start (CX := CX) (E := E) S room.hd e0 (long _ _ _ _ hsp) rel inside
    refine wpAny_mono (ht.run [] s1 (start N vs) H _ I0 hq) ?_ (fun _ _ z => z)
    intro fl s' hfl
    cases fl with
    | ret u =>
      obtain ⟨v, _, H', J, rv, q⟩ := hfl
      exact ⟨v, H', J.os, J.bare, J.base, J.hok, rv, q⟩
    | next =>
      obtain ⟨_, H', J, q⟩ := hfl
      exact ⟨V.non, H', J.os, J.bare, J.base, J.hok, rfl, q⟩
    | brk => exact hfl.elim fun _ z => z.elim fun _ z => z.2.elim
    | cont => exact hfl.elim fun _ z => z.elim fun _ z => z.2.elim
end

section
variable {X : Cx} {CX : CXT} {k : Nat} {f : Addr} {fd : FuncData} {ps : List Str} {sp : Sp} {dvs : List V} {ds : List Value} {E : XK}
theorem run_g {pins : List (Addr × Obj)} {σ : L2.St} {H : Hp} {s : Shared} {Q : VK} {us : List Value} {vs : List V}
    (F : GOk X.prog X.w X.K X.mg X.base CX k f fd ps sp) (room : Room k X.A) (gd : X.A.guards = some []) (hb : Binds X.K fd ps ds)
    (hd : Vals dvs ds) (pass : Passes CX X E) (I : Inv X pins σ H s) (r : Vals vs us) (h : sp (vs ++ dvs) H Q E) :
    wpAny (model X.prog X.w) X.A (call (.ref f) us) (EP X pins σ Q) X.xe s := by
  have rr := r.append hd
  have hlen : (us ++ ds).length = ps.length := rr.length.symm.trans (F.long _ _ _ _ h)
  have go := F.goes X.A X.stack s H ⟨us, []⟩ (us ++ ds) (vs ++ dvs) Q E room gd I.env0 (hb s us I.kIn hlen) rr h
  refine wpAny_call (codeAny_mono go ?_)
  intro r s' hr
  cases r with
  | error e => exact pass pins σ H s e s' I hr
  | ok fl =>
    cases fl with
    | ret u => exact I.after hr
    | next => exact hr.elim
    | brk => exact hr.elim
    | cont => exact hr.elim

theorem pe_callG {x : Str} {p pos : Pos} {e : Expr} {es : List Expr} {t : TA} (F : GOk X.prog X.w X.K X.mg X.base CX k f fd ps sp)
    (room : Room k X.A) (gd : X.A.guards = some []) (hg : Gl X x) (hm : X.mg x = some (.ref f)) (hk : PySem.W.keepIn X.K (.ref f) = true)
    (hb : Binds X.K fd ps ds) (hd : Vals dvs ds) (pass : Passes CX X E) (ha : PA X (e :: es) t)
    (hdb : (x == ("__debug__" : Str)) = false := by decide)
    (he : starEach (e :: es) X.env = (false, eval e X.env) :: starEach es X.env := by rfl)
    (hpl : (backTo pos (starEach es X.env)).any (·.1) = false := by rfl) :
    PE X (.Call (.Name x p) (e :: es) [] pos) (tCall sp dvs E t) := by
  constructor
  intro pins s σ H Q I h
  refine wpAny_Call_Name_kw (ld_glob I hg hm ?_ hdb)
  refine PySem.W.callWith_K (h₀ := X.base) I.ok.mod.kin hk ?_ he hpl
  refine thn (ha.run pos pins s σ H _ I h) ?_
  rintro us s1 ⟨vs, H1, J, r, q⟩
  exact ⟨J.kIn, run_g F room gd hb hd pass J r q⟩
end
end Hx
namespace Hx
open PySem PySem.Spec PyProof.Rows L2
section
variable {P : Program} {w : World} {K : PySem.W.Frag} {mg : Str → Option Value} {base : Heap} {k : Nat}
  {f : Addr} {fd : FuncData} {ps : List Str} {sp : Sp}
/-- the same where no exception leaves the def -/
theorem gok0 {x qual : Str} {st : Stmt} {N : List Str} (F : Fun K x qual st f fd) (S : FnScope N ps (defScope st))
    (long : ∀ vs H Q E, sp vs H Q E → vs.length = ps.length)
    (body : ∀ (cdv : Value) (A : Around) (outer : List Env) (s : Shared) (H : Hp) (vs : List V) (Q : VK) (E : XK),
      Room k (A.deeper (envOfC qual (defScope st) s.heap.objs.size f cdv)) → A.guards = some [] → sp vs H Q E →
      ∃ t, PSs (cxOf CX0 P w K mg base N qual (defScope st) f cdv A outer s H E).nox (defBody st) t ∧
        t { nx := fun _ H' => Q .non H', rt := Q } (start N vs) H) :
    GOk P w K mg base CX0 (k + 1) f fd ps sp :=
  gok F S long fun cdv A outer s H vs Q E room gd hsp => by
    obtain ⟨t, h, q⟩ := body cdv A outer s H vs Q E room gd hsp
    exact ⟨t, h.nox, q⟩
end
/-! joining ways: what is known of a value, for any wish -/
theorem asg_join {te : TE} {g : TG} {D : Ends} {σ : L2.St} {H : Hp} (R : V → Hp → Prop)
    (h : ∀ Q : VK, (∀ v H', R v H' → Q v H') → te σ H Q) (hq : ∀ v H', R v H' → g v σ H' D.nx) : tAsg te g D σ H := h _ hq
theorem te_join {te : TE} {Q : VK} {σ : L2.St} {H : Hp} (R : V → Hp → Prop)
    (h : ∀ Q : VK, (∀ v H', R v H' → Q v H') → te σ H Q) (hq : ∀ v H', R v H' → Q v H') : te σ H Q := h _ hq
theorem seq_set {te : TE} {i : Nat} {u : TS} {D : Ends} {σ : L2.St} {H : Hp} (h : te σ H fun x H1 => u D (σ.set i (some x)) H1) : tSeq (tAsg te (gName i)) u D σ H := h
theorem seq_if_op {r : R2} {ta tb : TE} {t u w : TS} {D : Ends} {σ : L2.St} {H : Hp}
    (h : ta σ H fun x H1 => tb σ H1 fun y H2 => r x y H2 fun z H3 => ∃ k, z = .bl k ∧ if k = true then t { D with nx := w D } σ H3 else u { D with nx := w D } σ H3) :
    tSeq (tIfS (tTest (tOp r ta tb)) t u) w D σ H := h
theorem ret_op {r : R2} {ta tb : TE} {D : Ends} {σ : L2.St} {H : Hp} (h : ta σ H fun x H1 => tb σ H1 fun y H2 => r x y H2 D.rt) : tRet (tOp r ta tb) D σ H := h
theorem next_go {w : Ends → L2.St → Hp → Prop} {D : Ends} {σ : L2.St} {H : Hp} (h : w D σ H) : tNext { D with nx := w D } σ H := h
theorem ret_go {te : TE} {D : Ends} {σ : L2.St} {H : Hp} (h : te σ H D.rt) : tRet te D σ H := h
theorem ret_join {te : TE} {D : Ends} {σ : L2.St} {H : Hp} (R : V → Hp → Prop)
    (h : ∀ Q : VK, (∀ v H', R v H' → Q v H') → te σ H Q) (hq : ∀ v H', R v H' → D.rt v H') : tRet te D σ H := h _ hq
theorem cons_join {te : TE} {tr : TA} {Q : List V → Hp → Prop} {σ : L2.St} {H : Hp} (R : V → Hp → Prop)
    (h : ∀ Q : VK, (∀ v H', R v H' → Q v H') → te σ H Q) (hq : ∀ v H', R v H' → tr σ H' fun xs H2 => Q (v :: xs) H2) : tCons te tr σ H Q := h _ hq
theorem ret_lst_join {te : TE} {tr : TA} {D : Ends} {σ : L2.St} {H : Hp} (R : V → Hp → Prop)
    (h : ∀ Q : VK, (∀ v H', R v H' → Q v H') → te σ H Q)
    (hq : ∀ v H', R v H' → tr σ H' fun xs H2 => (v :: xs).length ≤ sizeLine ∧ ∀ p, H2 p = none → D.rt (.ref p) (upd H2 p (.lst (v :: xs)))) :
    tRet (tLst (tCons te tr)) D σ H := h _ hq
theorem same_new {H : Hp} {p : Addr} (h : H p = none) (o : HO) : Same H (upd H p o) := fun b u q => by
  rw [upd_ne (ne_of_none q h)]
  exact q
theorem upd_other {H : Hp} {p q : Addr} {o u : HO} (h : H q = some u) (n : H p = none) : upd H p o q = some u := by
  rw [upd_ne (ne_of_none h n)]
  exact h
/-- all stands but what is at d -/
def But (d : Addr) (H H' : Hp) : Prop := ∀ b o, b ≠ d → H b = some o → H' b = some o
theorem But.of {d : Addr} {H H' : Hp} (s : Same H H') : But d H H' := fun b o _ h => s b o h
theorem But.refl {d : Addr} {H : Hp} : But d H H := fun _ _ _ h => h
theorem But.trans {d : Addr} {H H1 H2 : Hp} (a : But d H H1) (b : But d H1 H2) : But d H H2 := fun c o n h => b c o n (a c o n h)
theorem But.upd {d : Addr} {H H' : Hp} (a : But d H H') (o : HO) : But d H (L2.upd H' d o) := fun c u n h => by
  rw [upd_ne n]
  exact a c u n h
theorem But.new {d p : Addr} {H H' : Hp} (a : But d H H') (hp : H' p = none) (o : HO) : But d H (L2.upd H' p o) := fun c u n h => by
  have z := a c u n h
  rw [upd_ne (ne_of_none z hp)]
  exact z
theorem But.seq {K : PySem.W.Frag} {d a : Addr} {H H' : Hp} {xs : List V} (e : But d H H') (n : a ≠ d) (h : SqL K H a xs) : SqL K H' a xs := by
  rcases h with (h | ⟨o, h⟩) | h
  · exact .inl (.inl (e _ _ n h))
  · exact .inl (.inr ⟨o, e _ _ n h⟩)
  · exact .inr h
theorem atI_in {α : Type} {xs : List α} {r : Int} (r0 : 0 ≤ r) (r1 : r < (xs.length : Int)) : ∃ v, v ∈ xs ∧ atI xs r = some v := by
  have hr : r.toNat < xs.length := by omega
  have er : ((r.toNat : Nat) : Int) = r := by omega
  have z := atI_nat (List.getElem?_eq_getElem hr)
  rw [er] at z
  exact ⟨_, List.getElem_mem hr, z⟩
theorem small_line {n : Nat} (h : n ≤ 1000) : n ≤ sizeLine := Nat.le_trans h (by decide)
end Hx

namespace Wp
open PySem PySem.Spec PyProof.Rows L2
def top (i : Nat) : Stmt := PySem.Challenge.pw_wovenplaces_k39_equal_sets.main.body.getD i (.Pass ⟨0, 0, 0, 0⟩)
abbrev c_WrongValue : Stmt := top 1
abbrev c_InvalidNumber : Stmt := top 2
abbrev s_InvalidNumber_init : Stmt := inClass (top 2) 0
abbrev c_NotPlaces : Stmt := top 3
abbrev s_NotPlaces_init : Stmt := inClass (top 3) 0
abbrev s_is_integer : Stmt := top 7
abbrev s_is_within : Stmt := top 8
abbrev s_check_within : Stmt := top 9
abbrev s_is_count : Stmt := top 11
abbrev s_check_count : Stmt := top 12
abbrev s_full : Stmt := top 14
abbrev s_low : Stmt := top 15
abbrev s_tiled : Stmt := top 16
abbrev s_positions : Stmt := top 17
abbrev s_common_width : Stmt := top 18
abbrev s_primes_of : Stmt := top 19
abbrev s_least_width : Stmt := top 20
abbrev c_Places : Stmt := top 22
abbrev s_Places_init : Stmt := inClass (top 22) 0
abbrev s_Places_start : Stmt := inClass (top 22) 1
abbrev s_Places_period : Stmt := inClass (top 22) 2
abbrev s_Places_below : Stmt := inClass (top 22) 3
abbrev s_Places_rests : Stmt := inClass (top 22) 4
abbrev s_Places_least : Stmt := inClass (top 22) 5
abbrev s_Places_is_finite : Stmt := inClass (top 22) 6
abbrev s_Places_members : Stmt := inClass (top 22) 7
abbrev s_Places_or : Stmt := inClass (top 22) 8
abbrev s_Places_and : Stmt := inClass (top 22) 9
abbrev s_Places_sub : Stmt := inClass (top 22) 10
abbrev s_Places_xor : Stmt := inClass (top 22) 11
abbrev s_Places_invert : Stmt := inClass (top 22) 12
abbrev s_Places_contains : Stmt := inClass (top 22) 13
abbrev s_Places_eq : Stmt := inClass (top 22) 14
abbrev s_Places_bool : Stmt := inClass (top 22) 15
abbrev s_Places_repr : Stmt := inClass (top 22) 16
abbrev s_bits_below : Stmt := top 23
abbrev s_opposite : Stmt := top 24
abbrev s_frame : Stmt := top 25
abbrev s_check_places : Stmt := top 26
abbrev s_gathered : Stmt := top 27
abbrev s_numbers : Stmt := top 28
abbrev s_steps : Stmt := top 29
abbrev s_law_deck : Stmt := top 31
abbrev s_law_card : Stmt := top 32
abbrev s_law_of : Stmt := top 33
abbrev s_law_frame : Stmt := top 34
abbrev s_law_rule : Stmt := top 35
abbrev s_law_has : Stmt := top 36
abbrev s_law_least_common : Stmt := top 37
abbrev s_law_span : Stmt := top 38
abbrev s_law_numbers : Stmt := top 39
abbrev s_law_set : Stmt := top 40
abbrev s_law_marks : Stmt := top 41
abbrev s_law_shape : Stmt := top 42
abbrev s_law_shape_told : Stmt := top 43
abbrev s_law_is_set : Stmt := top 44
abbrev s_law_otherwise : Stmt := top 45
abbrev s_law_same : Stmt := top 46
abbrev s_law_right : Stmt := top 47
abbrev s_law : Stmt := top 48
end Wp

namespace Wp
open PySem PySem.Spec PyProof.Rows L2 Hx

/-- a deck: a list of three ints at d, the first two not negative -/
def DeckAt (H : Hp) (d : Addr) : Prop := ∃ a m c : Int, 0 ≤ a ∧ 0 ≤ m ∧ H d = some (.lst [.int a, .int m, .int c])
def spDeck (K : PySem.W.Frag) : Sp := fun vs H Q _ => ∃ (a : Addr) (ns : List Int) (t : Nat), vs = [.ref a, .int t] ∧
  SqL K H a (ns.map V.int) ∧ ns.length ≤ 63 ∧ ∀ p H', Same H H' → H p = none → DeckAt H' p → Q (.ref p) H'
section
variable {P : Program} {w : World} {K : PySem.W.Frag} {mg : Str → Option Value} {base : Heap}
theorem scDeck : FnScope ["_law_cells", "_law_turn", "_law_cell", "_law_mixed", "_law_each"] ["_law_cells", "_law_turn"] (defScope s_law_deck) :=
  ⟨rfl, rfl, rfl, by decide +kernel, rfl, by decide +kernel, by decide +kernel⟩
theorem ok_deck {f : Addr} {fd : FuncData} (F : Fun K "_law_deck" "_law_deck" s_law_deck f fd) (ml : mg "len" = none) (mi : mg "int" = none)
    (ma : mg "abs" = none) : FnOk P w K mg base CX0 1 f fd ["_law_cells", "_law_turn"] (spDeck K) := by
  refine F.ok scDeck (fun vs H Q E h => ?_) (fun cdv A outer s H vs Q E hr h => ?_)
  · obtain ⟨a, ns, t, rfl, _⟩ := h
    rfl
  obtain ⟨a, ns, t, rfl, hS, h63, q⟩ := h
  refine ⟨_, pss_cons (ps_set (i := 2) scDeck.nd rfl (Or.inl rfl)
      (pe_ifExp (pt_cmpR op_lt (pv 1) (pe_callB call_len_seq (by rfl) ml PySem.boot_len (pa_cons (pv 0) pa_nil)) (nomark _))
        (pe_ix ix_list (pv 0) (pv 1) (fun _ _ => rfl)) (pe_op op_add (pe_op op_mul pe_int (pv 1)) pe_int)))
    (pss_cons (ps_set (i := 3) scDeck.nd rfl (Or.inl rfl) (pe_op op_add pe_int (pe_op op_mul pe_int (pv 1))))
    (pss_cons (ps_for PassesOwn.never rfl (pi_list (pe_op op_cat (pe_slice sl_list (pv 0) po_none (po_some pe_int)) (pe_lst (pa_cons (pv 2) pa_nil))))
        (pg_name (i := 4) scDeck.nd rfl (Or.inl rfl))
        (pss_one (ps_set (i := 3) scDeck.nd rfl (Or.inl rfl)
          (pe_op op_mod (pe_callTy call_int1 (by rfl) mi PyProof.Rows.boot_int (pa_cons (pe_op op_add (pe_op op_mul (pv 3) pe_int) (pv 4)) pa_nil)) pe_int))))
    (pss_one (ps_ret (pe_lst (pa_cons
        (pe_ifExp (PW.pt (pw_or (pt_cmpR op_lt (pv 2) pe_int (nomark _)) (pw_or1 (pt_cmpR op_ge (pv 2) (pe_op op_pow pe_int pe_int) (nomark _)))))
          (pe_callB call_abs (by rfl) ma PyProof.Rows.boot_abs (pa_cons (pv 2) pa_nil)) pe_int)
        (pa_cons (pv 3) (pa_cons pe_int pa_nil)))))))), ?_⟩
  have hl : (ns.map V.int).length = ns.length := List.length_map _
  refine asg_join (fun v H' => H = H' ∧ ∃ c : Int, v = .int c) (fun Q' hQ => ?_) ?_
  · refine ⟨_, rfl, _, rfl, a, _, rfl, .inl hS, _, _, rfl, rfl, _, rfl, ?_⟩
    refine ite2 (fun c => ?_) (fun c => ?_)
    · have c' : (t : Int) < (((ns.map V.int).length : Nat) : Int) := of_decide_eq_true c
      have hlt : t < ns.length := by rw [hl] at c'; omega
      refine ⟨_, rfl, _, rfl, a, _, _, _, rfl, rfl, hS, atI_nat (j := t) (v := V.int ns[t]) ?_, hQ _ _ ⟨rfl, _, rfl⟩⟩
      rw [List.getElem?_map, List.getElem?_eq_getElem hlt]
      rfl
    · exact ⟨_, rfl, _, _, rfl, rfl, .inl ⟨by decide, by decide⟩, _, _, rfl, rfl, hQ _ _ ⟨rfl, _, rfl⟩⟩
  rintro _ _ ⟨rfl, c, rfl⟩
  refine ⟨_, rfl, _, _, rfl, rfl, .inl ⟨by decide, by decide⟩, _, _, rfl, rfl, ?_⟩
  refine ⟨_, rfl, _, rfl, a, _, rfl, hS, fun l hl0 => ?_⟩
  refine ⟨_, rfl, (by show 1 ≤ sizeLine; decide), fun l2 hl2 => ?_⟩
  have hcut := cutV_length (ns.map V.int) none (some 4)
  have allInt : ∀ x ∈ cutV (ns.map V.int) none (some 4) ++ [V.int c], ∃ i, x = V.int i := by
    intro x hx
    rcases List.mem_append.mp hx with hx | hx
    · have hx2 : x ∈ ns.map V.int := List.mem_of_mem_drop (List.mem_of_mem_take hx)
      obtain ⟨i, _, rfl⟩ := List.mem_map.mp hx2
      exact ⟨i, rfl⟩
    · exact ⟨c, by simpa using hx⟩
  refine ⟨l, l2, _, _, rfl, rfl, upd_other upd_same hl2, upd_same, small_line ?_, fun l3 hl3 => ?_⟩
  · rw [List.length_singleton]
    omega
  have s3 : Same H (upd (upd (upd H l (.lst (cutV (ns.map V.int) none (some 4)))) l2 (.lst [V.int c])) l3 (.lst (cutV (ns.map V.int) none (some 4) ++ [V.int c]))) :=
    ((same_new hl0 _).trans (same_new hl2 _)).trans (same_new hl3 _)
  refine ⟨l3, rfl, ⟨_, SqL.of upd_same⟩, for_list (K := K) (a := l3) (xs := cutV (ns.map V.int) none (some 4) ++ [V.int c])
    (fun _ σ H' => Same H H' ∧ H' l3 = some (.lst (cutV (ns.map V.int) none (some 4) ++ [V.int c])) ∧
      ∃ (m : Int) (v : Option V), 0 ≤ m ∧ σ = [some (.ref a), some (.int t), some (.int c), some (.int m), v])
    ⟨s3, upd_same, _, none, ?_, rfl⟩ (fun _ _ _ _ h => SqL.of h.2.1) ?_ ?_⟩
  · omega
  · rintro i x σ H' hx ⟨s4, h4, m, v, hm, rfl⟩
    obtain ⟨n, rfl⟩ := allInt x (List.mem_of_getElem? hx)
    refine ⟨_, rfl, _, _, rfl, rfl, .inr ⟨by decide, by decide⟩, _, rfl, _, _, rfl, rfl, .inl ⟨_, rfl, ?_⟩⟩
    exact ⟨_, _, rfl, rfl, (by decide : (0 : Int) < 2147483629), s4, h4, _, some (.int n), Int.emod_nonneg _ (by decide), rfl⟩
  · rintro σ H' ⟨s4, h4, m, v, hm, rfl⟩
    dsimp only
    refine ret_lst_join (fun v H2 => H' = H2 ∧ ∃ b : Int, 0 ≤ b ∧ v = .int b) (fun Q' hQ => ?_) ?_
    · refine ⟨_, rfl, _, _, rfl, rfl, _, rfl, ?_⟩
      refine ite2 (fun c0 => ?_) (fun c0 => ?_)
      · refine iteT ⟨_, rfl, _, rfl, hQ _ _ ⟨rfl, _, ?_, rfl⟩⟩
        split <;> omega
      · refine ⟨_, rfl, _, _, rfl, rfl, ⟨by decide, by decide, by decide⟩, _, _, rfl, rfl, _, rfl, ?_⟩
        refine ite2 (fun c1 => ?_) (fun c1 => ?_)
        · refine ⟨_, rfl, _, rfl, hQ _ _ ⟨rfl, _, ?_, rfl⟩⟩
          split <;> omega
        · exact hQ _ _ ⟨rfl, 0, Int.le_refl 0, rfl⟩
    rintro _ _ ⟨rfl, b, hb, rfl⟩
    refine ⟨_, rfl, (by show 3 ≤ sizeLine; decide), fun p hp => ?_⟩
    exact q p _ (s4.trans (same_new hp _)) (s4.free hp) ⟨b, m, 0, hb, hm, upd_same⟩
def spCard : Sp := fun vs H Q _ => ∃ (d : Addr) (t : Int), vs = [.ref d, .int t] ∧ 0 < t ∧ t < 1073741824 ∧ DeckAt H d ∧
  ∀ r H', 0 ≤ r → r < t → But d H H' → DeckAt H' d → Q (.int r) H'
theorem scCard : FnScope ["_law_deck_here", "_law_top", "_law_figure"] ["_law_deck_here", "_law_top"] (defScope s_law_card) :=
  ⟨rfl, rfl, rfl, by decide +kernel, rfl, by decide +kernel, by decide +kernel⟩
theorem ok_card {f : Addr} {fd : FuncData} (F : Fun K "_law_card" "_law_card" s_law_card f fd) (mi : mg "int" = none) (md : mg "divmod" = none) :
    FnOk P w K mg base CX0 1 f fd ["_law_deck_here", "_law_top"] spCard := by
  refine F.ok scCard (fun vs H Q E h => ?_) (fun cdv A outer s H vs Q E hr h => ?_)
  · obtain ⟨d, t, rfl, _⟩ := h
    rfl
  obtain ⟨d, t, rfl, t0, t1, ⟨a, m, c, a0, m0, hd⟩, q⟩ := h
  refine ⟨_, pss_cons (ps_asg (pe_op op_add (pe_ix ix_list (pv 0) pe_int (fun _ _ => rfl)) pe_int) (pg_sub (pv 0) pe_int set_list))
    (pss_cons (ps_if (pt_cmpR op_gt (pe_ix ix_list (pv 0) pe_int (fun _ _ => rfl)) pe_int (nomark _))
      (pss_cons (ps_asg (pe_callB call_divmod (by rfl) md PyProof.Rows.boot_divmod (pa_cons (pe_ix ix_list (pv 0) pe_int (fun _ _ => rfl)) (pa_cons (pv 1) pa_nil)))
          (pg_tup (by rfl) (pgs_cons (pg_sub (pv 0) pe_int set_list) (pgs_cons (pg_name (i := 2) scCard.nd rfl (Or.inl rfl)) pgs_nil))))
        (pss_one (ps_ret (pv 2)))) pss_nil)
    (pss_cons (ps_asg (pe_op op_mod (pe_callTy call_int1 (by rfl) mi PyProof.Rows.boot_int (pa_cons
        (pe_op op_add (pe_op op_mul (pe_ix ix_list (pv 0) pe_int (fun _ _ => rfl)) pe_int) (pe_op op_mul pe_int (pe_ix ix_list (pv 0) pe_int (fun _ _ => rfl)))) pa_nil)) pe_int)
        (pg_sub (pv 0) pe_int set_list))
    (pss_one (ps_ret (pe_op op_mod (pe_callTy call_int1 (by rfl) mi PyProof.Rows.boot_int (pa_cons
        (pe_op op_fdiv (pe_ix ix_list (pv 0) pe_int (fun _ _ => rfl)) pe_int) pa_nil)) (pv 1)))))), ?_⟩
  refine ⟨_, rfl, d, _, _, _, rfl, rfl, SqL.of hd, rfl, _, _, rfl, rfl, _, rfl, d, _, _, _, rfl, rfl, hd, rfl, ?_⟩
  refine ⟨_, rfl, d, _, _, _, rfl, rfl, SqL.of upd_same, rfl, _, _, rfl, rfl, _, rfl, ?_⟩
  refine ite2 (fun c0 => ?_) (fun c0 => ?_)
  · refine ⟨_, rfl, d, _, _, _, rfl, rfl, SqL.of upd_same, rfl, _, rfl, _, _, rfl, ⟨t0, t1⟩, fun p hp => ?_⟩
    have npd : d ≠ p := ne_of_none upd_same hp
    refine ⟨p, _, rfl, SqT.of upd_same, rfl, _, _, rfl, ?_⟩
    refine ⟨_, rfl, d, _, _, _, rfl, rfl, by rw [upd_ne npd]; exact upd_same, rfl, ?_⟩
    refine ⟨_, _, rfl, rfl, _, rfl, ?_⟩
    refine q _ _ (Int.emod_nonneg _ (by omega)) (Int.emod_lt_of_pos _ t0) (((But.refl.upd _).new hp _).upd _) ⟨_, _, _, ?_, m0, upd_same⟩
    exact Int.ediv_nonneg a0 (by omega)
  · refine ⟨_, rfl, d, _, _, _, rfl, rfl, SqL.of upd_same, rfl, _, _, rfl, rfl, .inr ⟨by decide, by decide⟩, ?_⟩
    refine ⟨_, rfl, d, _, _, _, rfl, rfl, SqL.of upd_same, rfl, _, _, rfl, rfl, .inl ⟨by decide, by decide⟩, _, _, rfl, rfl, .inl ⟨_, rfl, ?_⟩⟩
    refine ⟨_, _, rfl, rfl, (by decide : (0 : Int) < 2147483629), ?_⟩
    refine ⟨_, rfl, d, _, _, _, rfl, rfl, upd_same, rfl, ?_⟩
    refine ⟨_, rfl, d, _, _, _, rfl, rfl, SqL.of upd_same, rfl, _, _, rfl, rfl, ⟨by decide, by decide⟩, .inl ⟨_, rfl, ?_⟩⟩
    refine ⟨_, rfl, _, _, rfl, rfl, t0, ?_⟩
    refine q _ _ (Int.emod_nonneg _ (by omega)) (Int.emod_lt_of_pos _ t0) ((But.refl.upd _).upd _) ⟨_, _, _, a0, Int.emod_nonneg _ (by decide), upd_same⟩
/-- _law_of, over a list -/
def spOf (K : PySem.W.Frag) : Sp := fun vs H Q _ => ∃ (d l : Addr) (xs : List V), vs = [.ref d, .ref l] ∧ d ≠ l ∧ SqL K H l xs ∧ 0 < xs.length ∧ xs.length ≤ 1000 ∧ DeckAt H d ∧
  ∀ v H', v ∈ xs → But d H H' → DeckAt H' d → Q v H'
theorem scOf : FnScope ["_law_deck_here", "_law_menu"] ["_law_deck_here", "_law_menu"] (defScope s_law_of) :=
  ⟨rfl, rfl, rfl, by decide +kernel, rfl, by decide +kernel, by decide +kernel⟩
theorem ok_of {f fC : Addr} {fd fdC : FuncData} (F : Fun K "_law_of" "_law_of" s_law_of f fd)
    (GC : FnOk P w K mg base CX0 1 fC fdC ["_law_deck_here", "_law_top"] spCard) (bC : Binds K fdC ["_law_deck_here", "_law_top"] [])
    (kC : PySem.W.keepIn K (.ref fC) = true) (mC : mg "_law_card" = some (.ref fC)) (ml : mg "len" = none) :
    FnOk P w K mg base CX0 2 f fd ["_law_deck_here", "_law_menu"] (spOf K) := by
  refine F.ok scOf (fun vs H Q E h => ?_) (fun cdv A outer s H vs Q E hr h => ?_)
  · obtain ⟨d, l, xs, rfl, _⟩ := h
    rfl
  obtain ⟨d, l, xs, rfl, ndl, hl, l0, l1, hd, q⟩ := h
  refine ⟨_, pss_one (ps_ret (pe_ix ix_list (pv 1) (pe_call GC hr rfl mC kC bC .nil pass0 (pa_cons (pv 0) (pa_cons
    (pe_callB call_len_seq (by rfl) ml PySem.boot_len (pa_cons (pv 1) pa_nil)) pa_nil))) (fun _ _ => rfl))), ?_⟩
  refine ⟨_, rfl, _, rfl, _, rfl, l, _, rfl, .inl hl, d, _, rfl, by omega, by omega, hd, fun r H' r0 r1 b hd' => ?_⟩
  obtain ⟨v, hv, ev⟩ := atI_in r0 r1
  exact ⟨l, _, _, _, rfl, rfl, b.seq (Ne.symm ndl) hl, ev, q v H' hv b hd'⟩
end
end Wp

/-! sets of places as numbers: bit by bit -/
namespace Mk
open PySem
theorem band (a b : Nat) : Builtin.bitAnd (a : Int) (b : Int) = ((a &&& b : Nat) : Int) := by
  rw [PyProof.Rows.bitAnd_pp (Int.natCast_nonneg _) (Int.natCast_nonneg _), Int.toNat_natCast, Int.toNat_natCast]
theorem bor (a b : Nat) : Builtin.bitOr (a : Int) (b : Int) = ((a ||| b : Nat) : Int) := by
  rw [Bits.bitOr_pp (Int.natCast_nonneg _) (Int.natCast_nonneg _), Int.toNat_natCast, Int.toNat_natCast]
theorem bxor (a b : Nat) : Builtin.bitXor (a : Int) (b : Int) = ((a ^^^ b : Nat) : Int) := by
  rw [Bits.bitXor_pp (Int.natCast_nonneg _) (Int.natCast_nonneg _), Int.toNat_natCast, Int.toNat_natCast]
theorem pow_ct (k : Nat) : (2 : Int) ^ k = ((2 ^ k : Nat) : Int) := by
  rw [Int.natCast_pow]; rfl
theorem mul_ct (a k : Nat) : (a : Int) * 2 ^ k = ((a * 2 ^ k : Nat) : Int) := by
  rw [pow_ct, Int.natCast_mul]
theorem div_ct (a k : Nat) : (a : Int) / 2 ^ k = ((a / 2 ^ k : Nat) : Int) := by
  rw [pow_ct, Int.natCast_ediv]
theorem mod_ct (a k : Nat) : (a : Int) % 2 ^ k = ((a % 2 ^ k : Nat) : Int) := by
  rw [pow_ct, Int.natCast_emod]
/-- how many bits: 0 for 0 -/
def len (n : Nat) : Nat := Builtin.Int.intBits (n : Int)
theorem len_zero : len 0 = 0 := rfl
theorem len_eq {n : Nat} (h : n ≠ 0) : len n = n.log2 + 1 := by
  unfold len Builtin.Int.intBits
  rw [if_neg (by simpa using h)]
  rfl
theorem bits_lt {n m : Nat} (h : n < 2 ^ m) : Builtin.Int.intBits (n : Int) ≤ m := PyProof.Rows.intBits_le (by simpa using h)
theorem len_le {n m : Nat} (h : n < 2 ^ m) : len n ≤ m := bits_lt h
theorem lt_len (n : Nat) : n < 2 ^ len n := by
  by_cases h : n = 0
  · subst h
    decide
  · rw [len_eq h]
    exact (Nat.log2_lt h).mp (Nat.lt_succ_self _)
/-- the highest bit tells how many there are -/
theorem len_of {n m : Nat} (h1 : n.testBit m = true) (h2 : ∀ i, m < i → n.testBit i = false) : len n = m + 1 := by
  have hne : n ≠ 0 := fun z => by
    subst z
    simp at h1
  have a : n < 2 ^ (m + 1) := Nat.lt_pow_two_of_testBit n fun i hi => h2 i hi
  have b : n ≥ 2 ^ m := Nat.ge_two_pow_of_testBit h1
  have c := len_le a
  have d := lt_len n
  have e : m < len n := by
    have : 2 ^ m < 2 ^ len n := Nat.lt_of_le_of_lt b d
    exact (Nat.pow_lt_pow_iff_right (by decide)).mp this
  omega
theorem bit_out {n i : Nat} (h : len n ≤ i) : n.testBit i = false := Nat.testBit_lt_two_pow (Nat.lt_of_lt_of_le (lt_len n) (Nat.pow_le_pow_right (by decide) h))
theorem eq_zero_of {n : Nat} (h : ∀ i, n.testBit i = false) : n = 0 := Nat.eq_of_testBit_eq fun i => by rw [h i, Nat.zero_testBit]
/-! a pattern again and again -/
/-- x has the places below many of the set in which the pattern comes every w -/
def Tiled (x pat w many : Nat) : Prop := ∀ n, x.testBit n = (decide (n < many) && pat.testBit (n % w))
structure Tiling (pat w x u : Nat) : Prop where
  pos : 0 < u
  dvd : w ∣ u
  lt : x < 2 ^ u
  bit : ∀ n, n < u → x.testBit n = pat.testBit (n % w)
theorem Tiling.start {pat w : Nat} (hw : 0 < w) (h : pat < 2 ^ w) : Tiling pat w pat w := ⟨hw, Nat.dvd_refl _, h, fun n hn => by rw [Nat.mod_eq_of_lt hn]⟩
theorem Tiling.step {pat w x u : Nat} (T : Tiling pat w x u) : Tiling pat w (x ||| x * 2 ^ u) (u * 2) := by
  refine ⟨by have := T.pos; omega, Nat.dvd_trans T.dvd ⟨2, rfl⟩, ?_, fun n hn => ?_⟩
  · refine Nat.or_lt_two_pow (Nat.lt_of_lt_of_le T.lt (Nat.pow_le_pow_right (by decide) (by omega))) ?_
    rw [Nat.mul_two, Nat.pow_add]
    exact Nat.mul_lt_mul_of_lt_of_le T.lt (Nat.le_refl _) (Nat.two_pow_pos u)
  · rw [Nat.testBit_or, Nat.testBit_mul_two_pow]
    by_cases h : n < u
    · rw [decide_eq_false (by omega), Bool.false_and, Bool.or_false, T.bit n h]
    · have e : x.testBit n = false := Nat.testBit_lt_two_pow (Nat.lt_of_lt_of_le T.lt (Nat.pow_le_pow_right (by decide) (by omega)))
      rw [e, decide_eq_true (by omega), Bool.true_and, Bool.false_or, T.bit (n - u) (by omega)]
      obtain ⟨k, hk⟩ := T.dvd
      have : n = (n - u) + w * k := by omega
      conv => rhs; rw [this, Nat.add_mul_mod_self_left]
theorem Tiling.done {pat w x u many : Nat} (T : Tiling pat w x u) (h : many ≤ u) : Tiled (x % 2 ^ many) pat w many := fun n => by
  rw [Nat.testBit_mod_two_pow]
  by_cases c : n < many
  · rw [decide_eq_true c, T.bit n (by omega)]
  · rw [decide_eq_false c]
    rfl
theorem Tiled.lt {x pat w many : Nat} (T : Tiled x pat w many) : x < 2 ^ many := Nat.lt_pow_two_of_testBit x fun i hi => by
  rw [T i, decide_eq_false (by omega)]
  rfl
/-! the figures of a number of base 2 -/
def figs (n : Nat) : List Char := Nat.toDigits 2 n
theorem figs_rev (n : Nat) : (figs n).reverse = (List.range (n.log2 + 1)).map fun i => if n.testBit i then '1' else '0' := by
  induction n using Nat.strongRecOn with
  | _ n ih =>
    by_cases h : n < 2
    · have : n = 0 ∨ n = 1 := by omega
      rcases this with rfl | rfl <;> decide
    · have hd := ih (n / 2) (by omega)
      have e : figs n = figs (n / 2) ++ figs (n % 2) := by
        unfold figs
        rw [Nat.toDigits_append_toDigits (by decide) (by omega) (by omega), Nat.div_add_mod]
      have l : n.log2 = (n / 2).log2 + 1 := by
        conv => lhs; rw [Nat.log2_def]
        rw [if_pos (by omega)]
      have f2 : figs (n % 2) = [if n.testBit 0 then '1' else '0'] := by
        have : n % 2 = 0 ∨ n % 2 = 1 := by omega
        rw [Nat.testBit_zero]
        rcases this with q | q <;> rw [q] <;> decide
      rw [e, List.reverse_append, hd, f2, l, List.range_succ_eq_map (n := (n / 2).log2 + 1), List.map_cons, List.map_map]
      have s : ∀ i, (n / 2).testBit i = n.testBit (i + 1) := fun i => by
        rw [Nat.testBit_succ]
      simp only [List.reverse_cons, List.reverse_nil, List.nil_append, List.cons_append, Function.comp_def, s]
theorem figs_len (n : Nat) : (figs n).length = n.log2 + 1 := by
  have := congrArg List.length (figs_rev n)
  rwa [List.length_reverse, List.length_map, List.length_range] at this
/-- the members, ascending -/
def pos (n : Nat) : List Nat := (List.range (n.log2 + 1)).filter n.testBit
theorem pos_upto (n : Nat) : ∀ {m : Nat}, n < 2 ^ m → pos n = (List.range m).filter n.testBit := fun {m} h => by
  have out : ∀ (k j : Nat), k ≤ j → n < 2 ^ k → (List.range j).filter n.testBit = (List.range k).filter n.testBit := fun k j hk hn => by
    induction j with
    | zero =>
      rw [Nat.le_zero.mp hk]
    | succ j ih =>
      by_cases c : k = j + 1
      · rw [c]
      · rw [List.range_succ, List.filter_append, ih (by omega)]
        have : n.testBit j = false := Nat.testBit_lt_two_pow (Nat.lt_of_lt_of_le hn (Nat.pow_le_pow_right (by decide) (by omega)))
        simp [this]
  unfold pos
  have l2 : n < 2 ^ (n.log2 + 1) := by
    by_cases z : n = 0
    · subst z
      decide
    · exact (Nat.log2_lt z).mp (Nat.lt_succ_self _)
  rcases Nat.le_total (n.log2 + 1) m with q | q
  · exact (out _ _ q l2).symm
  · exact out _ _ q h
/-! the lowest member -/
theorem low_bit {n k : Nat} (h1 : n.testBit k = true) (h2 : ∀ i, i < k → n.testBit i = false) : Builtin.bitAnd (n : Int) (-(n : Int)) = ((2 ^ k : Nat) : Int) := by
  have e1 : n % 2 ^ (k + 1) = 2 ^ k := Nat.eq_of_testBit_eq fun i => by
    rw [Nat.testBit_mod_two_pow, Nat.testBit_two_pow]
    rcases Nat.lt_trichotomy i k with c | c | c
    · rw [h2 i c, Bool.and_false, decide_eq_false (by omega)]
    · subst c
      rw [h1, decide_eq_true (by omega), decide_eq_true rfl]
      rfl
    · rw [decide_eq_false (by omega), decide_eq_false (by omega)]
      rfl
  have e2 := Nat.div_add_mod n (2 ^ (k + 1))
  rw [e1] at e2
  generalize hq : n / 2 ^ (k + 1) = q at e2
  have p0 := Nat.two_pow_pos k
  have hn : n - 1 = 2 ^ (k + 1) * q + (2 ^ k - 1) := by omega
  have npos : 0 < n := by omega
  have e3 : n &&& (n - 1) = 2 ^ (k + 1) * q := Nat.eq_of_testBit_eq fun i => by
    have a := Nat.testBit_two_pow_mul_add q (b := 2 ^ k) (i := k + 1) (by rw [Nat.pow_succ]; omega) i
    have b := Nat.testBit_two_pow_mul_add q (b := 2 ^ k - 1) (i := k + 1) (by rw [Nat.pow_succ]; omega) i
    have c := Nat.testBit_two_pow_mul_add q (b := 0) (i := k + 1) (Nat.two_pow_pos _) i
    rw [e2] at a
    rw [← hn] at b
    rw [Nat.add_zero] at c
    rw [Nat.testBit_and, a, b, c]
    by_cases d : i < k + 1
    · rw [if_pos d, if_pos d, if_pos d, Nat.testBit_two_pow, Nat.testBit_two_pow_sub_one, Nat.zero_testBit]
      by_cases z : k = i
      · rw [decide_eq_false (p := i < k) (by omega), Bool.and_false]
      · rw [decide_eq_false z, Bool.false_and]
    · rw [if_neg d, if_neg d, if_neg d, Bool.and_self]
  unfold Builtin.bitAnd
  rw [decide_eq_true (Int.natCast_nonneg n), decide_eq_false (by omega)]
  show (n : Int) - ((((n : Int).toNat) &&& ((Builtin.bitNot (-(n : Int))).toNat) : Nat) : Int) = _
  have e4 : (Builtin.bitNot (-(n : Int))).toNat = n - 1 := by
    unfold Builtin.bitNot
    omega
  rw [e4, Int.toNat_natCast, e3]
  omega
/-- what a Places keeps -/
structure Kept where
  w : Nat
  cy : Nat
  st : Nat
def Kept.mem (s : Kept) (n : Nat) : Bool := Bool.xor (s.cy.testBit (n % s.w)) (s.st.testBit n)
structure Kept.Ok (s : Kept) : Prop where
  w0 : 0 < s.w
  w1 : s.w ≤ 5000
  cy : s.cy < 2 ^ s.w
  st : s.st < 2 ^ 5000
theorem below_bits {s : Kept} {x many : Nat} (T : Tiled x s.cy s.w many) (h : s.st < 2 ^ many) (n : Nat) : (x ^^^ s.st).testBit n = (decide (n < many) && s.mem n) := by
  rw [Nat.testBit_xor, T n]
  by_cases c : n < many
  · rw [decide_eq_true c, Bool.true_and, Bool.true_and]
    rfl
  · rw [decide_eq_false c, Nat.testBit_lt_two_pow (Nat.lt_of_lt_of_le h (Nat.pow_le_pow_right (by decide) (by omega)))]
    rfl
end Mk

/-! a number's figures of base 2, as a field of a text -/
namespace PySem
open PyProof.Rows
open Builtin Builtin.Str Builtin.Int Builtin.Float
def binText (n : Nat) : Str := ⟨((Mk.figs n).map Char.toNat).toArray⟩
def specB : FormatSpec := { fill := 32, align := 62, type := some 98 }
theorem spec_b (name : String) : parseFormatSpec [98] name 62 = .ok specB := rfl
theorem bin_len (n : Nat) : (binText n).length = n.log2 + 1 := by
  show ((((Mk.figs n).map Char.toNat).toArray).size) = _
  rw [List.size_toArray, List.length_map, Mk.figs_len]
section
variable {prog : Program} {w : World} {A : Around} {E : Value → Shared → Prop} {s : Shared}
theorem field_bin {n : Nat} {t : Tok} {Q : Value → Shared → Prop} (hz : n.log2 ≤ 100000)
    (h : Q (.str (binText n) (s.toks + 1)) { s with toks := s.toks + 1 + 1 }) : wpAny (model prog w) A (formatField (.int (n : Int) t) "b") Q E s := by
  have hlen : (binText n).length ≤ sizeLine := by
    rw [bin_len, sizeLine_eq]
    omega
  show wpAny _ _ (holding [.int n t] (pyFormat (.int n t) "b")) Q E s
  refine wpAny_holding ?_
  unfold pyFormat
  refine wpAny_bind (wpAny_mkStr ?_ (by decide))
  refine wpAny_bind (m := callSpecial? (.int n t) (Str.ofString "__format__") [.str "b" s.toks]) (wpAny_callSpecial?_slot (name := Str.ofString "__format__") (typeIs_int _ _ t) slot_int_format ?_)
  refine wpAny_call (codeAny_call_builtin slot_int_format.plain entry_int_format (slot_int_format.check _ _ _ _ _ _ _ _ (typeIs_int _ _ t) (args_int_format _ _) ?_))
  unfold Builtin.«int.__format__»
  have hne : (("b" : Str).length == 0) = false := by decide +kernel
  have hasc : ((("b" : Str).cps.toList.drop 1).any (· ≥ 128) || (("b" : Str).cps.getD 0 0 ≥ 128 && !([60, 62, 61, 94] : List Nat).contains (("b" : Str).cps.getD 1 0))) = false := by decide +kernel
  have hcp : ("b" : Str).cps.toList = [98] := by decide +kernel
  simp only [selfAndOne, noKeywords, Int.intOfSelf, asInt?, asStr?, List.isEmpty_nil, if_true, pure_bind, bind_pure, bind_assoc, hne, hasc, Bool.false_eq_true, if_false,
    show (Value.str "b" s.toks == Value.none) = false from rfl]
  refine wpAny_bind (wpAny_typeNameOf (T := "str") (typeIs_str _ _ _) (by decide) fun _ => ?_)
  first | refine wpAny_bind (wpAny_typeNameOfCut_int ?_) | refine wpAny_bind (wpAny_typeNameOf_int ?_)
  rw [hcp, spec_b]
  show wpAny _ _ (if _ then _ else _) _ _ _
  rw [if_pos (by decide +kernel)]
  have et : (specB.type.getD (if (("b" : Str).cps.back? == some 0) = true then 0 else 100)) = 98 := rfl
  rw [et]
  show wpAny _ _ (retStr _) _ _ _
  have ev : (-1 - (0 : Int) - (((Nat.toDigits 2 n).map fun c => c.toNat).length : Int)).toNat = 0 := by omega
  unfold retStr
  have e0 : (List.map (fun c : Char => (if ((98 : Nat) == 88) = true then c.toUpper else c).toNat) (Nat.toDigits 2 ((n : Int)).natAbs)) = (Mk.figs n).map Char.toNat := rfl
  have hne0 : ((Mk.figs n).map Char.toNat).isEmpty = false := by
    have := Mk.figs_len n
    cases hf : Mk.figs n with
    | nil =>
      rw [hf] at this
      cases this
    | cons a b => rfl
  have hn0 : decide ((n : Int) < 0) = false := decide_eq_false (by omega)
  refine wpAny_bind (wpAny_mkStr (wpAny_pure ?_) ?hs2)
  case hs2 =>
    refine Nat.le_trans (Nat.le_of_eq (congrArg Str.length ?_)) hlen
    conv => lhs; whnf
    rw [e0, hn0]
    unfold binText
    generalize (Mk.figs n).map Char.toNat = ds at hne0
    have pad : (-1 - (0 : Int) - (ds.length : Int)).toNat = 0 := by omega
    simp [specB, hne0, pad]
    try omega
  dsimp only
  refine wpAny_bind (wpAny_isInstance (typeIs_str _ _ _) isSubtype_str_str (wpAny_pure ?_))
  refine Eq.mp (congrArg (fun z => Q (Value.str z _) _) ?_) h
  conv => rhs; whnf
  rw [e0, hn0]
  unfold binText
  generalize (Mk.figs n).map Char.toNat = ds at hne0
  simp [specB, hne0]
  try omega
end
end PySem

namespace Hx
open PySem PySem.Spec PyProof.Rows L2
section
variable {X : Cx}
/-- f"{e:b}" -/
def tBin (te : TE) : TE := fun σ H Q => te σ H fun x H1 => ∃ n : Nat, x = .int (n : Int) ∧ n.log2 ≤ 100000 ∧ Q (.str (binText n)) H1
theorem pe_bin {e : Expr} {te : TE} {pos p1 p2 p3 : Pos} {k : Nat} (he : PE X e te) : PE X (.JoinedStr [.FormattedValue e (-1) (some (.JoinedStr [.Constant (.str "b") k p1] p2)) p3] pos) (tBin te) := by
  refine pe_joined1 ⟨fun pins s σ H Q I h => ?_⟩
  refine wpAny_FormattedValue_spec (thn (he.run pins s σ H _ I h) fun v s1 ⟨x, H1, I1, r1, n, e1, hz, q⟩ => ?_)
  subst e1
  obtain ⟨t, rfl⟩ := r1
  refine thn ((pe_joined1 (pe_str (x := "b"))).run pins s1 σ H1 (fun v H' => v = .str "b" ∧ H' = H1) I1 ⟨rfl, rfl⟩) fun r s2 ⟨y, H2, I2, r2, e2, e3⟩ => ?_
  subst e2 e3
  obtain ⟨u, rfl⟩ := r2
  exact ⟨_, _, rfl, field_bin hz ⟨.str (binText n), _, (I2.tok _).tok _, ⟨_, rfl⟩, q⟩⟩
end
end Hx

/-! enumerate(text) -/
namespace Hx
open PySem PySem.Spec PyProof.Rows L2
/-- the signs of a text, each in a new pair with its index -/
def Ites (x : Str) : It :=
  ⟨fun i _ => i < x.cps.size, fun i H v H' => ∃ T c, v = .ref T ∧ H T = none ∧ H' = upd H T (.tup [.int (i : Nat), .str ⟨#[c]⟩]) ∧ x.cps[i]? = some c, fun i _ => i = x.cps.size⟩
theorem draws_str {prog : Program} {w : World} {A : Around} (hh : A.handled = none) (it : Addr) (x : Str) (t : Tok) (ty : String) (hty : ty = "str_ascii_iterator" ∨ ty = "str_iterator") :
    Draws prog w A it [it] x.cps.size (fun i v => ∃ c u, x.cps[i]? = some c ∧ v = .str ⟨#[c]⟩ u) (fun i h => h.IsStrIter it ty x t i) := by
  rcases hty with e | e
  · rw [e]; exact Draws.strAscii hh it x t
  · rw [e]; exact Draws.strWide hh it x t
theorem turn_enumS {P : Program} {w : World} {K : PySem.W.Frag} {elts : List Expr} {kk : Nat} {tpos : Pos} (x : Str) (t : Tok) (ty : String) (hty : ty = "str_ascii_iterator" ∨ ty = "str_iterator") (e it : Addr) :
    Turn P w K (.Tuple elts kk tpos) (Ites x) [e, it] e (fun i h => (∃ old, IsEnum h e it ((i : Nat) : Int) old) ∧ h.IsStrIter it ty x t i ∧ e ≠ it) where
  mem := by simp
  obj := fun i h st b hb => by
    obtain ⟨⟨old, he⟩, ⟨o, ho, hc, hd⟩, _⟩ := st
    have e' : b = e ∨ b = it := by simpa using hb
    rcases e' with z | z
    · rw [z]; exact ⟨_, he, fun v q => nomatch q⟩
    · rw [z]; exact ⟨o, ho, fun v q => by rw [hd] at q; cases q⟩
  keep := fun i h h' st k => let ⟨⟨old, he⟩, ⟨o, ho, r⟩, hne⟩ := st; ⟨⟨old, k e (by simp) _ he⟩, ⟨o, k it (by simp) o ho, r⟩, hne⟩
  item := by
    intro X hP hw hK hc i pins s σ H E I hf st hg
    subst hP hw hK
    obtain ⟨⟨old, he⟩, hit, hne⟩ := st
    have hel : e < s.heap.objs.size := Heap.lt_size he
    have hil : it < s.heap.objs.size := by obtain ⟨_, q, _⟩ := hit; exact Heap.lt_size q
    have D := draws_str (prog := X.prog) (w := X.w) (A := X.A.in1) (I.ok.hd hc) it x t ty hty
    refine wpAny_pyNext_enum_itemD D he hit hg hne (by simpa using hne) fun v h' tk hv ho hit' hT hsz hk => ?_
    obtain ⟨c, u, hcx, rfl⟩ := hv
    refine ⟨_, rfl, wpAny_letOwnedTupleGo_enum (s := { s with heap := h', toks := tk + 1 }) ho fun h'' he' sb => ?_⟩
    have hT2 : h''.get? s.heap.objs.size = some { cls := .type "tuple", data := .seq #[.int i tk, .str ⟨#[c]⟩ u] } := (sb.2 _ (Nat.ne_of_gt hel)).trans hT
    have new : ObjOk X.prog X.w (upd H s.heap.objs.size (.tup [.int (i : Nat), .str ⟨#[c]⟩])) h'' s.heap.objs.size (.tup [.int (i : Nat), .str ⟨#[c]⟩]) :=
      ⟨by show 2 ≤ sizeLine; decide, [.int i tk, .str ⟨#[c]⟩ u], .cons ⟨_, rfl⟩ (.cons ⟨_, rfl⟩ .nil), ⟨_, hT2, rfl, _, rfl⟩⟩
    have I1 : Inv X pins σ (upd H s.heap.objs.size (.tup [.int (i : Nat), .str ⟨#[c]⟩])) { s with heap := h'', toks := tk + 1 } :=
      I.turnedNew (ch := [e, it]) (fun b ob hb q => (sb.2 b (fun z => hb (by simp [z]))).trans (hk b ob (fun z => hb (by simp [z])) (fun z => hb (by simp [z])) q)) hf (Nat.le_refl _) new
    refine ⟨.ref s.heap.objs.size, _, I1, rfl, ⟨_, c, rfl, I.hok.fresh (Nat.le_refl _), rfl, hcx⟩, ⟨⟨.str ⟨#[c]⟩ u, ?_⟩, ?_, hne⟩, fun b hb => ?_⟩
    · have e1 : ((i + 1 : Nat) : Int) = (i : Int) + 1 := by omega
      rw [e1]; exact he'
    · obtain ⟨o, ho2, r⟩ := hit'
      exact ⟨o, (sb.2 it (Ne.symm hne)).trans ho2, r⟩
    · have hb' : b < s.heap.objs.size := by
        have e' : b = e ∨ b = it := by simpa using hb
        rcases e' with z | z
        · rw [z]; exact hel
        · rw [z]; exact hil
      rw [upd_ne (Nat.ne_of_lt hb')]
      exact (hf b hb).1
  done := by
    intro X hP hw hK hc i pins s σ H E I hf st hg
    subst hP hw hK
    obtain ⟨⟨old, he⟩, hit, hne⟩ := st
    have hg' : i = x.cps.size := hg
    subst hg'
    obtain ⟨f0, f1, f2, f3, f4, f5⟩ := hf it (by simp)
    have D := draws_str (prog := X.prog) (w := X.w) (A := X.A.in1) (I.ok.hd hc) it x t ty hty
    exact wpAny_pyNext_enum_endD D he hit fun h' eb => ⟨rfl, I.turned (t' := s.toks) (fun b o hb q => eb b o hb q) f0 f1 f3 f4 f5⟩
  self := fun A i s Q E st h => let ⟨⟨_, he⟩, _⟩ := st; wpAny_pyIter_enum he h
def iEnumS (ta : TA) : TI := fun σ H R => ta σ H fun vs H1 => ∃ x : Str, vs = [.str x] ∧ R (Ites x) H1
theorem pi_enumS {X : Cx} {e : Expr} {ta : TA} {p pos tpos : Pos} {elts : List Expr} {kk : Nat} (hg : Gl X "enumerate") (hm : X.mg "enumerate" = none) (ha : PA X [e] ta) (hs : starEach [e] X.env = [(false, eval e X.env)] := by rfl) :
    PI X (.Tuple elts kk tpos) (.Call (.Name "enumerate" p) [e] [] pos) (iEnumS ta) := by
  refine ⟨fun pins s σ H R I h => ?_⟩
  refine Call_ (ld_blt I hg hm boot_enumerate (PyProof.Rows.callWith_type1 (thn (ha.run pos pins s σ H _ I h) fun us s1 ⟨vs, H1, I1, r1, q1⟩ => ?_) hs rfl))
  obtain ⟨x, ex, q⟩ := q1
  subst ex
  cases r1 with
  | cons r rr =>
    cases rr
    obtain ⟨t, rfl⟩ := r
    have hty : strIterType x = "str_ascii_iterator" ∨ strIterType x = "str_iterator" := by
      unfold strIterType
      split
      · exact .inl rfl
      · exact .inr rfl
    refine call_enumerate_str fun h' he hit hsz hk => wpAny_pyIter_enum he ?_
    have I2 : Inv X pins σ H1 { s1 with heap := h' } := I1.kept (t' := s1.toks) hk
    refine ⟨s1.heap.objs.size + 1, [s1.heap.objs.size + 1, s1.heap.objs.size], _, _, H1, rfl, I2, turn_enumS x t _ hty (s1.heap.objs.size + 1) s1.heap.objs.size, ⟨⟨.none, he⟩, hit, Nat.succ_ne_self _⟩, fun b hb => ?_, q⟩
    have e' : b = s1.heap.objs.size + 1 ∨ b = s1.heap.objs.size := by simpa using hb
    have hle : s1.heap.objs.size ≤ b := by
      rcases e' with z | z
      · rw [z]; exact Nat.le_add_right _ _
      · rw [z]; exact Nat.le_refl _
    exact I1.fpOk hle (I1.hok.fresh hle)
end Hx

namespace Hx
open PySem PySem.Spec PyProof.Rows L2
/-- the class at C tells its text by a def of its own, whose promise is sp -/
structure TellsBy (P : Program) (w : World) (K : PySem.W.Frag) (mg : Str → Option Value) (base : Heap) (k : Nat) (C : Addr) (sp : Sp) : Prop where
  cls : Cls K C
  go : ∃ (g : Addr) (fd : FuncData), PySem.W.findIn K (.ref C) "__str__" = some (some (.ref g)) ∧ PySem.W.isFn K (.ref g) = true ∧
    FnOk P w K mg base CX0 k g fd ["self"] sp ∧ Binds K fd ["self"] []
/-- str(x): a number, a text, or an object that tells its text -/
def rTell (P : Program) (w : World) (K : PySem.W.Frag) (mg : Str → Option Value) (base : Heap) (k : Nat) : List V → Hp → VK → Prop := fun xs H Q => ∃ x, xs = [x] ∧
  ((∃ i : Int, x = .int i ∧ i.natAbs.log2 < 1920 ∧ Q (.str (toString i)) H) ∨ (∃ y : Str, x = .str y ∧ Q (.str y) H) ∨
    ∃ (a C dx : Addr) (fs : List (Str × V)) (sp : Sp), x = .ref a ∧ H a = some (.ins C dx fs) ∧ TellsBy P w K mg base k C sp ∧
      sp [.ref a] H (fun v H' => ∃ y : Str, v = .str y ∧ Q (.str y) H') E0)
theorem Room.less {k j : Nat} {A : Around} (r : Room k A) (h : j ≤ k) : Room j A := r.mono h
theorem call_tell {X : Cx} {k : Nat} (room : Room (k + 2) X.A) : CallR X (.type "str") (rTell X.prog X.w X.K X.mg X.base k) := by
  intro pins s σ H xs us Q I r h
  obtain ⟨x, rfl, ⟨i, rfl, small, q⟩ | ⟨y, rfl, q⟩ | ⟨a, C, dx, fs, sp, rfl, ha, T, q⟩⟩ := h
  · exact call_str_int pins s σ H _ us Q I r ⟨i, rfl, small, q⟩
  · exact SkE.call_str_str pins s σ H _ us Q I r ⟨y, rfl, q⟩
  · rw [Vals.ref1 r]
    obtain ⟨mA, O, _, _, _, _⟩ := ins_get I.hok ha
    obtain ⟨od, J, _⟩ := O.look
    obtain ⟨g, fd, hs, hf, F, b⟩ := T.go
    refine PySem.W.kso_call (by have := room.units; show _ < _; exact Nat.lt_of_le_of_lt (Nat.le_add_right _ 64) room.in1.in1.units) I.kIn J hs hf ?_
    have go := F.run X.A.in1.in1 X.stack s H ⟨[.ref a], []⟩ [.ref a] [.ref a] _ E0 room.in1.in1 I.env0.in1.in1 (b s [.ref a] I.kIn rfl) (.cons rfl .nil) q
    refine wpAny_call (codeAny_mono go ?_)
    intro r' s' hr
    cases r' with
    | error e => exact (show False from hr).elim
    | ok fl =>
      cases fl with
      | ret u =>
        obtain ⟨v, H', J', rv, y, ev, qy⟩ := I.after hr
        subst ev
        obtain ⟨t, rfl⟩ := rv
        exact ⟨.str y, H', J', ⟨t, rfl⟩, qy⟩
      | next => exact hr.elim
      | brk => exact hr.elim
      | cont => exact hr.elim
end Hx

/-! operators of an own class without slots; a text times a number; a method called by keywords; dead rows -/
namespace Hx
open PySem PySem.Spec PyProof.Rows L2
/-- a row that is never reached -/
theorem ps_dead {X : Cx} {st : Stmt} : PS X st (fun _ _ _ => False) := ⟨fun _ _ _ _ _ _ h => h.elim⟩
section
variable {X : Cx}
theorem op_mul_str : OpR X (binaryOp .Mult) (fun x y H Q => ∃ z k, x = .str z ∧ y = .int k ∧ MulOk z k ∧ Q (.str (Txt.mul z k)) H) := by
  intro pins s σ H x y v u Q I rx ry h
  obtain ⟨z, k, rfl, rfl, hz, q⟩ := h
  obtain ⟨t, rfl⟩ := rx
  obtain ⟨t', rfl⟩ := ry
  exact SB.mul hz (fun t' tk => ⟨.str (Txt.mul z k), H, I.tok _, ⟨_, rfl⟩, q⟩)
end
/-- o.m(k = v, ..) -/
def tMethK (C : Addr) (m : Str) (sp : Sp) (gV : List V → List V → List V) (E : XK) (ta : TE) (tk : TA) : TE := fun σ H Q => ta σ H fun x H1 => ∃ a dx fs, x = .ref a ∧ H1 a = some (.ins C dx fs) ∧ fs.lookup m = none ∧
  tk σ H1 fun zs H2 => sp (gV [x] zs) H2 Q E
section
variable {X : Cx} {CX : CXT} {k : Nat} {f C : Addr} {fd : FuncData} {ps ks : List Str} {sp : Sp} {E : XK} {m : Str} {pos apos : Pos} {o : Expr} {kws : List Keyword} {ta : TE} {tk : TA}
  {g : List Value → List Value → List Value} {gV : List V → List V → List V}
theorem pe_methK {pl : Sem Bool} (he : PE X o ta) (c : Cls X.K C) (hm : Meth X.K C m f) (F : FnOk X.prog X.w X.K X.mg X.base CX k f fd ps sp) (hr : Room k X.A) (hb : KBinds X.K fd ps ks g gV) (hx : Passes CX X E) (hkw : PK X kws tk)
    (hall : (backToKw pos (keywordEach kws X.env)).all (·.1.isSome) = true := by rfl) (hks : (backToKw pos (keywordEach kws X.env)).filterMap (·.1) = ks := by rfl)
    (hpl : ((backTo pos (starEach [] X.env)).any (·.1) || (backToKw pos (keywordEach kws X.env)).any (·.1.isNone)) = false := by rfl)
    (ht : eval (.Call (.Attribute o m apos) [] kws pos) X.env = (do
      let ov ← eval o X.env
      standAt apos.atName
      let (f, first) ← holding [ov] (getMethod ov m pl)
      callWith pos f first (backTo pos (starEach [] X.env)) (backToKw pos (keywordEach kws X.env))) := by rfl) :
    PE X (.Call (.Attribute o m apos) [] kws pos) (tMethK C m sp gV E ta tk) := by
  refine ⟨fun pins s σ H Q I h => ?_⟩
  refine PySem.W.methodCall_KW (pl := pl) (thn (he.run pins s σ H _ I h) fun u s1 ⟨x, H1, I1, rx, a, dx, fs, ex, ea, l, q⟩ => ?_) ht
  subst ex
  obtain rfl : u = Value.ref a := rx
  refine getmeth_ok I1 ea c hm l ?_
  refine PySem.W.callWith_KW0 (first := [.ref a]) (h₀ := X.base) I.ok.mod.kin hm.kp hall ?_ hpl
  refine thn (hkw.run pos pins s1 σ H1 _ I1 q) fun ws s2 ⟨zs, H2, I2, rz, q2⟩ => ⟨I2.kIn, ?_⟩
  rw [hks]
  exact run_fnk (us := [.ref a]) (vs := [.ref a]) F hr hb hx I2 (.cons rfl .nil) rz q2
end
/-- o[i] where the class at C tells its items by a def of its own -/
structure ItemBy (P : Program) (w : World) (K : PySem.W.Frag) (mg : Str → Option Value) (base : Heap) (k : Nat) (C : Addr) (ps : List Str) (sp : Sp) : Prop where
  go : ∃ (g : Addr) (fd : FuncData), PySem.W.findIn K (.ref C) "__getitem__" = some (some (.ref g)) ∧ PySem.W.fnIn K g = true ∧ PySem.W.isFn K (.ref g) = true ∧
    FnOk P w K mg base CX0 k g fd ps sp ∧ Binds K fd ps []
def rItem (C : Addr) (sp : Sp) : R2 := fun x y H Q => ∃ (a dx : Addr) (fs : List (Str × V)), x = .ref a ∧ H a = some (.ins C dx fs) ∧ sp [x, y] H Q E0
section
variable {X : Cx} {k : Nat} {C : Addr} {ps : List Str} {sp : Sp}
theorem run_below {pins : List (Addr × Obj)} {σ : L2.St} {H : Hp} {s : Shared} {Q : VK} {us : List Value} {vs : List V} {A1 : Around} {f : Addr} {fd : FuncData}
    (F : FnOk X.prog X.w X.K X.mg X.base CX0 k f fd ps sp) (hr : Room k A1) (e0 : Env0 X.prog X.w X.K X.mg X.base A1 X.stack s H) (hb : Binds X.K fd ps []) (I : Inv X pins σ H s) (r : Vals vs us) (h : sp vs H Q E0) :
    wpAny (model X.prog X.w) A1 (call (.ref f) us) (EP X pins σ Q) X.xe s := by
  have l := F.len vs H Q E0 h
  have hl : us.length = ps.length := by rw [← r.length]; exact l
  have b := hb s us I.kIn (by rw [List.append_nil]; exact hl)
  rw [List.append_nil] at b
  refine wpAny_call (codeAny_mono (F.run A1 X.stack s H ⟨us, []⟩ us vs Q E0 hr e0 b r h) fun r s' hq => ?_)
  cases r with
  | error e => exact (show False from hq).elim
  | ok fl =>
    cases fl with
    | ret u => exact I.after hq
    | next => exact hq.elim
    | brk => exact hq.elim
    | cont => exact hq.elim
theorem pe_ixO {e i : Expr} {pos : Pos} {te ti : TE} (T : ItemBy X.prog X.w X.K X.mg X.base k C ps sp) (hr : Room (k + 1) X.A) (he : PE X e te) (hi : PE X i ti)
    (hsl : ∀ (a : Addr) (u : Value), subscripted i true (.ref a) u = runValue (.builtin "lifetime.subscript" ⟨[.ref a, u], []⟩)) : PE X (.Subscript e i pos) (tOp (rItem C sp) te ti) := by
  refine ⟨fun pins s σ H Q I h => ?_⟩
  refine Subscript_ (binT he hi I h fun v u s2 x y H2 I2 rx ry q => ?_)
  obtain ⟨a, dx, fs, rfl, ha, q⟩ := q
  cases (show v = Value.ref a from rx)
  obtain ⟨g, fd, h1, h2, h3, F, b⟩ := T.go
  obtain ⟨mA, O, _⟩ := ins_get I2.hok ha
  obtain ⟨od, J, _⟩ := O.look
  obtain ⟨m, hF⟩ := I2.fr
  exact PySem.W.sub_K hF I2.ok.mod.kin J h1 h2 h3 (run_below F hr.in1 I2.env0.in1 b I2 (.cons rx (.cons ry .nil)) q) (hsl _ _)
end
/-- x == y by the class's own def -/
structure EqBy (P : Program) (w : World) (K : PySem.W.Frag) (mg : Str → Option Value) (base : Heap) (k : Nat) (C : Addr) (ps : List Str) (sp : Sp) : Prop where
  go : ∃ (g : Addr) (fd : FuncData), PySem.W.findIn K (.ref C) "__eq__" = some (some (.ref g)) ∧ PySem.W.isFn K (.ref g) = true ∧
    FnOk P w K mg base CX0 k g fd ps sp ∧ Binds K fd ps []
  ne : PySem.W.findIn K (.ref C) "__ne__" = some (some (.builtin "object.__ne__"))
  obj : PySem.W.mroIn K C (.type "object") = some true
  str : PySem.W.notFirst K C (.type "str") = true
  tup : PySem.W.notFirst K C (.type "tuple") = true
/-- the right operand: a text, a tuple, an object of this class -/
def Right (C : Addr) (H : Hp) (y : V) : Prop := (∃ z : Str, y = .str z) ∨ (∃ (b : Addr) (xs : List V), y = .ref b ∧ H b = some (.tup xs)) ∨ ∃ (b dx : Addr) (fs : List (Str × V)), y = .ref b ∧ H b = some (.ins C dx fs)
def rEqO (C : Addr) (sp : Sp) : R2 := fun x y H Q => ∃ (a dx : Addr) (fs : List (Str × V)), x = .ref a ∧ H a = some (.ins C dx fs) ∧ Right C H y ∧ sp [x, y] H (fun v H' => ∃ k, v = .bl k ∧ Q (.bl k) H') E0
def rNeO (C : Addr) (sp : Sp) : R2 := fun x y H Q => ∃ (a dx : Addr) (fs : List (Str × V)), x = .ref a ∧ H a = some (.ins C dx fs) ∧ Right C H y ∧ sp [x, y] H (fun v H' => ∃ k, v = .bl k ∧ Q (.bl (!k)) H') E0
section
variable {X : Cx} {k : Nat} {C : Addr} {ps : List Str} {sp : Sp} {P : Program} {w : World} {K : PySem.W.Frag} {mg : Str → Option Value} {base : Heap}
theorem right_of {pins : List (Addr × Obj)} {σ : L2.St} {H : Hp} {s : Shared} {y : V} {u : Value} (T : EqBy P w K mg base k C ps sp) (I : Inv X pins σ H s) (ry : RelV y u) (r : Right C H y) :
    ∃ tb, PySem.W.Looks (model X.prog X.w) s.heap (typeOf u) tb ∧ PySem.W.notFirst K C tb = true := by
  rcases r with ⟨z, rfl⟩ | ⟨b, xs, rfl, hb⟩ | ⟨b, dx, fs, rfl, hb⟩
  · obtain ⟨t, rfl⟩ := ry
    exact ⟨.type "str", .of_pure rfl, T.str⟩
  · cases (show u = Value.ref b from ry)
    obtain ⟨its, _, ⟨o, ho, hc, _⟩, _⟩ := I.tuple (SqT.of hb)
    exact ⟨.type "tuple", hc ▸ (PySem.W.Looks.ld ho).andThen .now, T.tup⟩
  · cases (show u = Value.ref b from ry)
    obtain ⟨mA, O, _⟩ := ins_get I.hok hb
    obtain ⟨od, J, _⟩ := O.look
    exact ⟨.ref C, J.type, by unfold PySem.W.notFirst; simp⟩
theorem op_eqO (T : EqBy X.prog X.w X.K X.mg X.base k C ps sp) (hr : Room k X.A) : OpR X (compareOp .Eq) (rEqO C sp) := by
  intro pins s σ H x y v u Q I rx ry h
  obtain ⟨a, dx, fs, rfl, ha, r, q⟩ := h
  obtain ⟨tb, hb, hn⟩ := right_of T I ry r
  cases (show v = Value.ref a from rx)
  obtain ⟨g, fd, h1, h2, F, b⟩ := T.go
  obtain ⟨mA, O, _⟩ := ins_get I.hok ha
  obtain ⟨od, J, _⟩ := O.look
  obtain ⟨m, hF⟩ := I.fr
  refine PySem.W.cmp_ofEq (PySem.W.cmp_K (op := .Eq) hr.units0 hF I.ok.mod.kin J hb hn h1 h2 ?_)
  refine wpAny_mono (run_below F hr I.env0 b I (.cons rx (.cons ry .nil)) q) (fun w' s' z => ?_) fun _ _ e => e
  obtain ⟨z', H', I', rz, kk, rfl, qz⟩ := z
  cases (show w' = Value.bool kk from rz)
  exact ⟨.bl kk, H', I', rfl, qz⟩
end
end Hx
namespace Hx
open PySem PySem.Spec PyProof.Rows L2
section
variable {prog : Program} {w : World} {A : Around} {E : Value → Shared → Prop} {s : Shared} {K : PySem.W.Frag} {x C L f : Addr} {h₀ : Heap} {m : Str → Option Value} {ox : Obj} {od : Option Obj} {name : Str} {b tb : Value}
theorem ifBound_B {M : Model} {args : List Value} {id : String} {Q : Option Value → Shared → Prop} (X : K.In s.heap) (I : PySem.W.InstAt s.heap x ox C od) (hs : PySem.W.findIn K (.ref C) name = some (some (.builtin id)))
    (hb : ∀ self, bindSpecial (.builtin id) self = pure (.builtin id, [self])) (h : wpAny M A (call (.builtin id) (.ref x :: args)) (fun v => Q (some v)) E s) : wpAny M A (callSpecialIfBound? (.ref x) name args) Q E s := by
  simp only [callSpecialIfBound?, bindSpecialIfBound?]
  refine wpAny_holding (wpAny_bind (wpAny_bind (wpAny_bind (I.type.here ((PySem.W.looks_findIn X hs).here ?_)))))
  refine wpAny_bind (wpAny_askSetting (wpAny_ite ?_))
  have fin : wpAny M A (call (.builtin id) ([.ref x] ++ args) >>= fun v => pure (some v)) Q E s := wpAny_bind (wpAny_mono h (fun v s' h' => wpAny_pure h') fun _ _ h' => h')
  split
  · exact wpAny_bind ((PySem.W.Looks.of_pure (hb _)).here (wpAny_pure (by exact fin)))
  · exact wpAny_tryCatch (wpAny_bind ((PySem.W.Looks.of_pure (hb _)).here (wpAny_pure (by exact fin))))
theorem objNe_K (hu : A.units < cLine) (X : K.In s.heap) (I : PySem.W.InstAt s.heap x ox C od) (he : PySem.W.findIn K (.ref C) "__eq__" = some (some (.ref f))) (hf : PySem.W.isFn K (.ref f) = true) {Q : Fin → Shared → Prop}
    (hcall : wpAny (model prog w) A (call (.ref f) [.ref x, b]) (fun v s' => ∃ k, v = .bool k ∧ Q (.done (.ret (.bool (!k)))) s') E s) :
    wpAny (model prog w) A (Builtin.«object.__ne__» ⟨[.ref x, b], []⟩) Q E s := by
  unfold Builtin.«object.__ne__»
  repeat (first
    | with_reducible refine wpAny_cRoomFor hu ?_
    | (refine wpAny_bind (m := callSpecialIfBound? (.ref x) (Str.ofString "__eq__") [b])
        (PySem.W.ifBound_K X I he hf (wpAny_mono hcall (fun r s' hr => by
          obtain ⟨k, rfl, hq⟩ := hr
          repeat (first | exact hq | exact wpAny_pure hq | exact wpAny_truthy_bool hq | (refine wpAny_bind (m := truthy (.bool _)) (wpAny_truthy_bool ?_)) | wp_step)) fun _ _ e => e)))
    | wp_step)
theorem ne_K {Q : Value → Shared → Prop} (hu : A.units + 1 < cLine) (F : Fr h₀ L s.heap m) (X₀ : K.In h₀) (I : PySem.W.InstAt s.heap x ox C od) (hb : PySem.W.Looks (model prog w) s.heap (typeOf b) tb) (hn : PySem.W.notFirst K C tb = true)
    (hs : PySem.W.findIn K (.ref C) "__ne__" = some (some (.builtin "object.__ne__"))) (hm : PySem.W.mroIn K C (.type "object") = some true) (he : PySem.W.findIn K (.ref C) "__eq__" = some (some (.ref f))) (hf : PySem.W.isFn K (.ref f) = true)
    (h : wpAny (model prog w) A.in1 (call (.ref f) [.ref x, b]) (fun v s' => ∃ k, v = .bool k ∧ Q (.bool (!k)) s') E s) : wpAny (model prog w) A (richCompare .NotEq (.ref x) b) Q E s := by
  have X := X₀.keeps F.keep
  have FB := PySem.F.cmp_object
  have sub : PySem.W.Looks (model prog w) s.heap (isInstance (.ref x) (.type "object")) true := I.type.andThen (PySem.W.looks_mroIn X hm)
  have one : wpAny (model prog w) A (tryCompare (.ref x) "__ne__" b) (fun r s' => ∃ v, r = some v ∧ Q v s') E s := by
    unfold tryCompare
    refine wpAny_bind (ifBound_B X I hs FB.ne.bind (wpAny_call (codeAny_call_builtin FB.ne.plain PySem.F.cmpEntry_ne ?_)))
    refine @PySem.W.check_slot (model prog w) _ _ s "object.__ne__" "object" "__ne__" (.ref x) [b] [] _ PySem.F.cmpKind_ne PySem.F.cmpSplit_ne sub (PySem.F.cmpArgs_ne (.ref x) b) ?_
    refine objNe_K (A := A.in1) hu X I he hf (wpAny_mono h (fun v s' hv => ?_) fun _ _ e => e)
    obtain ⟨k, rfl, hq⟩ := hv
    exact ⟨k, rfl, wpAny_pure ⟨_, rfl, hq⟩⟩
  unfold richCompare
  simp only [oneThing_ref]
  refine wpAny_holding (wpAny_bind (wpAny_cRoomFor (Nat.lt_of_succ_lt hu) ?_))
  refine wpAny_bind (I.type.here (wpAny_bind (hb.here ?_)))
  split
  · rename_i q
    have e : PySem.W.subIn K tb (.ref C) = some false := by
      rcases Bool.or_eq_true_iff.mp hn with e | e
      · rw [beq_iff_eq.mp e] at q; simp at q
      · exact beq_iff_eq.mp e
    refine wpAny_bind ((PySem.W.looks_subIn X e).here ?_)
    simp only [Bool.false_eq_true, if_false]
    refine wpAny_bind (wpAny_mono one (fun r s' z => ?_) fun _ _ e => e)
    obtain ⟨v, rfl, hq⟩ := z
    exact wpAny_pure hq
  · refine wpAny_bind (wpAny_pure ?_)
    simp only [Bool.false_eq_true, if_false]
    refine wpAny_bind (wpAny_mono one (fun r s' z => ?_) fun _ _ e => e)
    obtain ⟨v, rfl, hq⟩ := z
    exact wpAny_pure hq
end
section
variable {X : Cx} {k : Nat} {C : Addr} {ps : List Str} {sp : Sp}
theorem op_neO (T : EqBy X.prog X.w X.K X.mg X.base k C ps sp) (hr : Room (k + 1) X.A) : OpR X (compareOp .NotEq) (rNeO C sp) := by
  intro pins s σ H x y v u Q I rx ry h
  obtain ⟨a, dx, fs, rfl, ha, r, q⟩ := h
  obtain ⟨tb, hb, hn⟩ := right_of T I ry r
  cases (show v = Value.ref a from rx)
  obtain ⟨g, fd, h1, h2, F, b⟩ := T.go
  obtain ⟨mA, O, _⟩ := ins_get I.hok ha
  obtain ⟨od, J, _⟩ := O.look
  obtain ⟨m, hF⟩ := I.fr
  refine PySem.W.cmp_ofNotEq (ne_K (by have := hr.un; omega) hF I.ok.mod.kin J hb hn T.ne T.obj h1 h2 ?_)
  refine wpAny_mono (run_below F hr.in1 I.env0.in1 b I (.cons rx (.cons ry .nil)) q) (fun w' s' z => ?_) fun _ _ e => e
  obtain ⟨z', H', I', rz, kk, rfl, qz⟩ := z
  cases (show w' = Value.bool kk from rz)
  exact ⟨kk, rfl, .bl (!kk), H', I', rfl, qz⟩
/-- repr(x) of an own object -/
structure ShowsBy (P : Program) (w : World) (K : PySem.W.Frag) (mg : Str → Option Value) (base : Heap) (k : Nat) (C : Addr) (sp : Sp) : Prop where
  go : ∃ (g : Addr) (fd : FuncData), PySem.W.findIn K (.ref C) "__repr__" = some (some (.ref g)) ∧ PySem.W.isFn K (.ref g) = true ∧
    FnOk P w K mg base CX0 k g fd ["self"] sp ∧ Binds K fd ["self"] []
def rShow (C : Addr) (sp : Sp) : List V → Hp → VK → Prop := fun xs H Q => ∃ (a dx : Addr) (fs : List (Str × V)), xs = [.ref a] ∧ H a = some (.ins C dx fs) ∧ sp [.ref a] H (fun v H' => ∃ y : Str, v = .str y ∧ Q (.str y) H') E0
theorem call_show (T : ShowsBy X.prog X.w X.K X.mg X.base k C sp) (hr : Room (k + 1) X.A) : CallR X (.builtin "repr") (rShow C sp) := by
  intro pins s σ H xs us Q I r h
  obtain ⟨a, dx, fs, rfl, ha, q⟩ := h
  rw [Vals.ref1 r]
  obtain ⟨g, fd, h1, h2, F, b⟩ := T.go
  obtain ⟨mA, O, _⟩ := ins_get I.hok ha
  obtain ⟨od, J, _⟩ := O.look
  obtain ⟨m, hF⟩ := I.fr
  refine PySem.W.repr_K hr.in1.units0 hF I.ok.mod.kin J h1 h2 ?_
  refine wpAny_mono (run_below F hr.in1 I.env0.in1 b I (us := [.ref a]) (vs := [.ref a]) (.cons rfl .nil) q) (fun w' s' z => ?_) fun _ _ e => e
  obtain ⟨z', H', I', rz, y, rfl, qz⟩ := z
  obtain ⟨t, rfl⟩ := rz
  exact ⟨.str y, H', I', ⟨t, rfl⟩, qz⟩
end
end Hx

/-! x[::-1]; bool of an own object; == and != of an own object beside any value -/
namespace Hx
open PySem PySem.Spec PyProof.Rows L2
def SlB (X : Cx) (r : V → Hp → VK → Prop) : Prop :=
  ∀ (pins : List (Addr × Obj)) (s : Shared) (σ : L2.St) (H : Hp) (x : V) (v : Value) (tk : Tok) (sl : Addr) (Q : VK), Inv X pins σ H s → RelV x v → s.heap.IsSliceOf sl .none .none (.int (-1) tk) → r x H Q →
    ∃ T id, typeLookup (.type T) "__getitem__" = pure (some (.builtin id)) ∧ s.TypeIs v T ∧ wpAny (model X.prog X.w) X.A (getItem v (.ref sl)) (EP X pins σ Q) X.xe s
def tBack (r : V → Hp → VK → Prop) (te tk : TE) : TE := fun σ H Q => te σ H fun x H1 => tk σ H1 fun y H2 => y = .int (-1) ∧ r x H2 Q
def revS (z : Str) : Str := ⟨z.cps.toList.reverse.toArray⟩
section
variable {X : Cx} {e k : Expr} {te tk : TE} {pos p2 : Pos}
theorem pe_back {r : V → Hp → VK → Prop} (hr : SlB X r) (he : PE X e te) (hk : PE X k tk) : PE X (.Subscript e (.Slice none none (some k) p2) pos) (tBack r te tk) := by
  refine ⟨fun pins s σ H Q I h => ?_⟩
  refine Subscript_ (thn (he.run pins s σ H _ I h) fun v s1 ⟨x, H1, I1, r1, q1⟩ => ?_)
  refine wpAny_Slice ?_
  rw [evalPart_none, evalPart_some]
  refine wpAny_pure (wpAny_pure ?_)
  refine thn (hk.run pins s1 σ H1 _ I1 q1) fun u s3 ⟨y, H3, I3, r3, q3⟩ => ?_
  obtain ⟨rfl, q⟩ := q3
  obtain ⟨t, rfl⟩ := r3
  have I4 : Inv X pins σ H3 { s3 with heap := s3.heap.push { cls := .type "slice", data := .fields #[.none, .none, .int (-1) t] } } := I3.kept (t' := s3.toks) fun b ob q => Heap.get?_push_of_some _ q
  obtain ⟨T, id, hT, ht, hg⟩ := hr pins { s3 with heap := s3.heap.push { cls := .type "slice", data := .fields #[.none, .none, .int (-1) t] } } σ H3 x v t s3.heap.objs.size Q I4 r1 (Heap.IsSliceOf.new ..) q
  show wpAny (model X.prog X.w) X.A (subscriptTail e (.Slice none none (some k) p2) v (.ref s3.heap.objs.size)) (EP X pins σ Q) X.xe { s3 with heap := s3.heap.push { cls := .type "slice", data := .fields #[.none, .none, .int (-1) t] } }
  exact tail_any (ops := [v, .ref s3.heap.objs.size]) ht hT hg (by with_unfolding_all rfl)
def rBackL (K : PySem.W.Frag) : V → Hp → VK → Prop := fun x H Q => ∃ a xs, x = .ref a ∧ SqL K H a xs ∧ ∀ p, H p = none → Q (.ref p) (upd H p (.lst xs.reverse))
theorem sl_backL : SlB X (rBackL X.K) := by
  intro pins s σ H x v tk sl Q I rx hs h
  obtain ⟨a, xs, rfl, hx, q⟩ := h
  cases rx
  obtain ⟨its, r, ht, hz⟩ := I.list hx
  have hlen := r.length
  refine ⟨"list", _, slot_list_getitem.lookup, ht.isList.typeIs, ?_⟩
  refine wpAny_getItem_list_slice ht.isList hs .none .none (.int (-1) tk) (by decide) ?_ (by rw [List.size_toArray] <;> omega)
  rw [PySem.W.krv_pick]
  refine ⟨.ref s.heap.objs.size, _, I.laid (t' := s.toks) (o := .lst xs.reverse) (fun b ob q => Heap.get?_push_of_some _ q) (Nat.le_refl _) ?_, rfl, q _ (I.hok.fresh (Nat.le_refl _))⟩
  exact ⟨by rw [List.length_reverse]; exact hz, _, 0, r.reverse, Heap.get?_push_size _ rfl⟩
def rBackS : V → Hp → VK → Prop := fun x H Q => ∃ z : Str, x = .str z ∧ z.length ≤ sizeLine ∧ Q (.str (revS z)) H
theorem back_is (x : Str) (u : Tok) : Txt.sliceBy x none none (-1, u) = revS x := by
  have h := step_rev_list x u
  have e : (Txt.sliceBy x none none (-1, u)).cps.toList = x.cps.toList.reverse := by
    rw [h]
    refine List.ext_getElem (by simp [Str.length]) fun i h1 h2 => ?_
    simp only [List.length_map, List.length_range] at h1
    rw [List.getElem_map, List.getElem_range, List.getElem_reverse]
    have hl : x.cps.toList.length = x.length := Array.length_toList
    have : x.length - 1 - i < x.cps.size := by show _ < x.length; omega
    simp [Array.getD, this, hl]
  unfold revS
  rw [← e]
theorem sl_backS : SlB X rBackS := by
  intro pins s σ H x v tk sl Q I rx hs h
  obtain ⟨z, rfl, hz, q⟩ := h
  obtain ⟨t, rfl⟩ := rx
  obtain ⟨os, hos, hcs, hds⟩ := hs
  refine ⟨"str", _, F.slot_str_getitem.lookup, typeIs_str _ _ _, ?_⟩
  refine wpAny_getItem_str_slice (l := none) (u := none) (st := some (-1, tk)) ⟨os, hos, hcs, hds⟩ rfl ?_
  refine post_val_or_str ⟨Nat.le_trans (Txt.sliceBy_le z none none (-1, tk) (show (-1 : Int) ≠ 0 by decide)) hz, fun t' c => ?_⟩
  refine ⟨.str (revS z), H, I.tok _, ⟨t', ?_⟩, q⟩
  show Value.str (Txt.sliceBy z none none (-1, tk)) t' = .str (revS z) t'
  rw [back_is]
end
/-! bool of an own object -/
section
variable {M : Model} {A : Around} {E : Value → Shared → Prop} {s : Shared} {K : PySem.W.Frag} {x C : Addr} {ox : Obj} {od : Option Obj}
theorem truthy_own0 {Q : Bool → Shared → Prop} (X : K.In s.heap) (I : PySem.W.InstAt s.heap x ox C od) (hs : PySem.W.findIn K (.ref C) "__bool__" = some none) (hl : PySem.W.findIn K (.ref C) "__len__" = some none)
    (h : Q true s) : wpAny M A (truthy (.ref x)) Q E s := by
  unfold truthy
  refine wpAny_bind (m := callSpecial? (.ref x) (Str.ofString "__bool__")) (wpAny_bind (wpAny_bind (I.type.here ((PySem.W.looks_findIn X hs).here (wpAny_pure ?_)))))
  refine wpAny_bind (wpAny_bind (I.type.here ((PySem.W.looks_findIn X hl).here ?_)))
  exact wpAny_pure h
theorem meets_bool_own (hs : PySem.W.findIn K (.ref C) "__bool__" = some none) (hl : PySem.W.findIn K (.ref C) "__len__" = some none) :
    Meets (Builtin.«bool.__new__» ⟨[.type "bool", .ref x], []⟩) (fun _ R s => (K.In s.heap ∧ PySem.W.InstAt s.heap x ox C od) ∧ R (.ok (.ret (.bool true))) s) :=
  Meets.of_wp fun prog w A R s hs' => by
    obtain ⟨⟨X, I⟩, hs'⟩ := hs'
    have f1 := F.conv_sub_bool
    repeat (any_goals (first | assumption | (with_reducible refine truthy_own0 X I hs hl ?_) | wp_step))
    all_goals first | exact ⟨_, rfl, hs'⟩ | exact hs' | skip
end
section
variable {X : Cx}
theorem call_boolO : CallR X (.type "bool") (fun xs H Q => ∃ (a C dx : Addr) (fs : List (Str × V)), xs = [.ref a] ∧ H a = some (.ins C dx fs) ∧ PySem.W.findIn X.K (.ref C) "__bool__" = some none ∧ PySem.W.findIn X.K (.ref C) "__len__" = some none ∧ Q (.bl true) H) := by
  intro pins s σ H xs us Q I r h
  obtain ⟨a, C, dx, fs, rfl, ha, h1, h2, q⟩ := h
  rw [Vals.ref1 r]
  obtain ⟨mA, O, _⟩ := ins_get I.hok ha
  obtain ⟨od, J, _⟩ := O.look
  exact call_bool_1 (meets_bool_own h1 h2) ⟨⟨I.kIn, J⟩, rfl, ⟨.bl true, H, I, rfl, q⟩⟩
/-! == and != beside any value -/
/-- the class of a right operand -/
inductive RightT (H : Hp) : V → Value → Prop
  | non : RightT H .non (.type "NoneType")
  | bl (b : Bool) : RightT H (.bl b) (.type "bool")
  | int (i : Int) : RightT H (.int i) (.type "int")
  | str (z : Str) : RightT H (.str z) (.type "str")
  | lst {a : Addr} {xs : List V} (e : H a = some (.lst xs)) : RightT H (.ref a) (.type "list")
  | tup {a : Addr} {xs : List V} (e : H a = some (.tup xs)) : RightT H (.ref a) (.type "tuple")
  | ins {a C dx : Addr} {fs : List (Str × V)} (e : H a = some (.ins C dx fs)) : RightT H (.ref a) (.ref C)
/-- a class with an __eq__ of its own, nothing asked of the right operand -/
structure EqAny (P : Program) (w : World) (K : PySem.W.Frag) (mg : Str → Option Value) (base : Heap) (k : Nat) (C : Addr) (sp : Sp) : Prop where
  go : ∃ (g : Addr) (fd : FuncData) (ps : List Str), PySem.W.findIn K (.ref C) "__eq__" = some (some (.ref g)) ∧ PySem.W.isFn K (.ref g) = true ∧ FnOk P w K mg base CX0 k g fd ps sp ∧ Binds K fd ps []
  ne : PySem.W.findIn K (.ref C) "__ne__" = some (some (.builtin "object.__ne__"))
  obj : PySem.W.mroIn K C (.type "object") = some true
def rEqA (P : Program) (w : World) (K : PySem.W.Frag) (mg : Str → Option Value) (base : Heap) (k : Nat) : R2 := fun x y H Q => ∃ (a C dx : Addr) (fs : List (Str × V)) (sp : Sp) (t : Value), x = .ref a ∧ H a = some (.ins C dx fs) ∧ EqAny P w K mg base k C sp ∧
  RightT H y t ∧ PySem.W.notFirst K C t = true ∧ sp [x, y] H (fun v H' => ∃ b, v = .bl b ∧ Q (.bl b) H') E0
def rNeA (P : Program) (w : World) (K : PySem.W.Frag) (mg : Str → Option Value) (base : Heap) (k : Nat) : R2 := fun x y H Q => ∃ (a C dx : Addr) (fs : List (Str × V)) (sp : Sp) (t : Value), x = .ref a ∧ H a = some (.ins C dx fs) ∧ EqAny P w K mg base k C sp ∧
  RightT H y t ∧ PySem.W.notFirst K C t = true ∧ sp [x, y] H (fun v H' => ∃ b, v = .bl b ∧ Q (.bl (!b)) H') E0
theorem right_any {pins : List (Addr × Obj)} {σ : L2.St} {H : Hp} {s : Shared} {y : V} {u t : Value} (I : Inv X pins σ H s) (ry : RelV y u) (r : RightT H y t) : PySem.W.Looks (model X.prog X.w) s.heap (typeOf u) t := by
  cases r with
  | non => cases ry; exact .of_pure rfl
  | bl b => cases ry; exact .of_pure rfl
  | int i => obtain ⟨t, rfl⟩ := ry; exact .of_pure rfl
  | str z => obtain ⟨t, rfl⟩ := ry; exact .of_pure rfl
  | @lst a xs e =>
    cases (show u = Value.ref a from ry)
    obtain ⟨_, its, n, rv, hg⟩ := (show ObjOk X.prog X.w H s.heap a (.lst xs) from I.hok a _ e)
    exact (PySem.W.Looks.ld hg).andThen .now
  | @tup a xs e =>
    cases (show u = Value.ref a from ry)
    obtain ⟨its, _, ⟨o, ho, hc, _⟩, _⟩ := I.tuple (SqT.of e)
    exact hc ▸ (PySem.W.Looks.ld ho).andThen .now
  | @ins a C dx fs e =>
    cases (show u = Value.ref a from ry)
    obtain ⟨mA, O, _⟩ := ins_get I.hok e
    obtain ⟨od, J, _⟩ := O.look
    exact J.type
variable {k : Nat}
theorem op_eqA (hr : Room k X.A) : OpR X (compareOp .Eq) (rEqA X.prog X.w X.K X.mg X.base k) := by
  intro pins s σ H x y v u Q I rx ry h
  obtain ⟨a, C, dx, fs, sp, t, rfl, ha, T, r, hn, q⟩ := h
  have hb := right_any I ry r
  cases (show v = Value.ref a from rx)
  obtain ⟨g, fd, ps, h1, h2, F, b⟩ := T.go
  obtain ⟨mA, O, _⟩ := ins_get I.hok ha
  obtain ⟨od, J, _⟩ := O.look
  obtain ⟨m, hF⟩ := I.fr
  refine PySem.W.cmp_ofEq (PySem.W.cmp_K (op := .Eq) hr.units0 hF I.ok.mod.kin J hb hn h1 h2 ?_)
  refine wpAny_mono (run_below F hr I.env0 b I (.cons rx (.cons ry .nil)) q) (fun w' s' z => ?_) fun _ _ e => e
  obtain ⟨z', H', I', rz, kk, rfl, qz⟩ := z
  cases (show w' = Value.bool kk from rz)
  exact ⟨.bl kk, H', I', rfl, qz⟩
theorem op_neA (hr : Room (k + 1) X.A) : OpR X (compareOp .NotEq) (rNeA X.prog X.w X.K X.mg X.base k) := by
  intro pins s σ H x y v u Q I rx ry h
  obtain ⟨a, C, dx, fs, sp, t, rfl, ha, T, r, hn, q⟩ := h
  have hb := right_any I ry r
  cases (show v = Value.ref a from rx)
  obtain ⟨g, fd, ps, h1, h2, F, b⟩ := T.go
  obtain ⟨mA, O, _⟩ := ins_get I.hok ha
  obtain ⟨od, J, _⟩ := O.look
  obtain ⟨m, hF⟩ := I.fr
  refine PySem.W.cmp_ofNotEq (ne_K (by have := hr.un; omega) hF I.ok.mod.kin J hb hn T.ne T.obj h1 h2 ?_)
  refine wpAny_mono (run_below F hr.in1 I.env0.in1 b I (.cons rx (.cons ry .nil)) q) (fun w' s' z => ?_) fun _ _ e => e
  obtain ⟨z', H', I', rz, kk, rfl, qz⟩ := z
  cases (show w' = Value.bool kk from rz)
  exact ⟨kk, rfl, .bl (!kk), H', I', rfl, qz⟩
end
end Hx

namespace Wp
open PySem PySem.Spec PyProof.Rows L2 Hx
structure Bp (mg : Str → Option Value) : Prop where
  isinstance : mg "isinstance" = none
  int : mg "int" = none
  bool : mg "bool" = none
  str : mg "str" = none
  len : mg "len" = none
  all : mg "all" = none
  list : mg "list" = none
  tuple : mg "tuple" = none
  range : mg "range" = none
  max : mg "max" = none
  min : mg "min" = none
  repr : mg "repr" = none
  enumerate : mg "enumerate" = none
def spFull : Sp := fun vs H Q _ => ∃ k : Nat, vs = [.int (k : Int)] ∧ k ≤ 100000 ∧ Q (.int ((2 : Int) ^ k - 1)) H
def spLow : Sp := fun vs H Q _ => ∃ n k : Nat, vs = [.int (n : Int), .int (k : Int)] ∧ k ≤ 100000 ∧ Q (.int ((n % 2 ^ k : Nat) : Int)) H
def spTiled : Sp := fun vs H Q _ => ∃ pat w many : Nat, vs = [.int (pat : Int), .int (w : Int), .int (many : Int)] ∧ 0 < w ∧ w ≤ 5000 ∧ pat < 2 ^ w ∧ many ≤ 20000 ∧ ∀ x : Nat, Mk.Tiled x pat w many → Q (.int (x : Int)) H
section
variable {P : Program} {w : World} {K : PySem.W.Frag} {mg : Str → Option Value} {base : Heap} {f f1 f2 : Addr} {fd fd1 fd2 : FuncData}
theorem scFull : FnScope ["many"] ["many"] (defScope s_full) := ⟨rfl, rfl, rfl, by decide +kernel, rfl, by decide +kernel, by decide +kernel⟩
theorem ok_full (F : Fun K "full" "full" s_full f fd) : FnOk P w K mg base CX0 1 f fd ["many"] spFull := by
  refine F.ok scFull (fun vs H Q E h => ?_) (fun cdv A outer s H vs Q E hr h => ?_)
  · obtain ⟨k, rfl, _⟩ := h
    rfl
  obtain ⟨k, rfl, hk, q⟩ := h
  refine ⟨_, pss_one (ps_ret (pe_op op_sub (pe_op op_oneShl pe_int (pv 0)) pe_int)), ?_⟩
  exact ⟨_, rfl, k, rfl, rfl, by omega, _, _, rfl, rfl, q⟩
theorem scLow : FnScope ["bits", "many"] ["bits", "many"] (defScope s_low) := ⟨rfl, rfl, rfl, by decide +kernel, rfl, by decide +kernel, by decide +kernel⟩
theorem ok_low (F : Fun K "low" "low" s_low f fd)
    (G1 : FnOk P w K mg base CX0 1 f1 fd1 ["many"] spFull) (b1 : Binds K fd1 ["many"] []) (k1 : PySem.W.keepIn K (.ref f1) = true) (m1 : mg "full" = some (.ref f1)) :
    FnOk P w K mg base CX0 2 f fd ["bits", "many"] spLow := by
  refine F.ok scLow (fun vs H Q E h => ?_) (fun cdv A outer s H vs Q E hr h => ?_)
  · obtain ⟨n, k, rfl, _⟩ := h
    rfl
  obtain ⟨n, k, rfl, hk, q⟩ := h
  refine ⟨_, pss_one (ps_ret (pe_op op_andM (pv 0) (pe_call G1 hr rfl m1 k1 b1 .nil pass0 (pa_cons (pv 1) pa_nil)))), ?_⟩
  refine ⟨_, rfl, _, rfl, k, rfl, hk, _, k, rfl, rfl, ?_⟩
  rw [Mk.mod_ct]
  exact q
theorem scTiled : FnScope ["pattern", "width", "many"] ["pattern", "width", "many"] (defScope s_tiled) := ⟨rfl, rfl, rfl, by decide +kernel, rfl, by decide +kernel, by decide +kernel⟩
theorem ok_tiled (F : Fun K "tiled" "tiled" s_tiled f fd)
    (G1 : FnOk P w K mg base CX0 2 f1 fd1 ["bits", "many"] spLow) (b1 : Binds K fd1 ["bits", "many"] []) (k1 : PySem.W.keepIn K (.ref f1) = true) (m1 : mg "low" = some (.ref f1)) :
    FnOk P w K mg base CX0 3 f fd ["pattern", "width", "many"] spTiled := by
  refine F.ok scTiled (fun vs H Q E h => ?_) (fun cdv A outer s H vs Q E hr h => ?_)
  · obtain ⟨pat, u, many, rfl, _⟩ := h
    rfl
  obtain ⟨pat, u, many, rfl, u0, u1, lt, mk, q⟩ := h
  refine ⟨_, pss_cons (ps_while PassesOwn.never (pt_cmpR op_lt (pv 1) (pv 2) (nomark _))
      (pss_cons (ps_set (i := 0) scTiled.nd rfl (Or.inl rfl) (pe_op op_or (pv 0) (pe_op op_shlN (pv 0) (pv 1))))
        (pss_one (ps_set (i := 1) scTiled.nd rfl (Or.inl rfl) (pe_op op_mul (pv 1) pe_int)))))
    (pss_one (ps_ret (pe_call G1 hr rfl m1 k1 b1 .nil pass0 (pa_cons (pv 0) (pa_cons (pv 2) pa_nil))))), ?_⟩
  refine ⟨fun m σ H' => ∃ x v : Nat, σ = [some (.int (x : Int)), some (.int (v : Int)), some (.int (many : Int))] ∧ H = H' ∧ Mk.Tiling pat u x v ∧ v ≤ 40000 + u ∧ m = many - v, ⟨_, pat, u, rfl, rfl, Mk.Tiling.start u0 lt, by omega, rfl⟩, ?_⟩
  rintro m σ _ ⟨x, v, rfl, rfl, T, v1, rfl⟩
  refine ⟨_, rfl, _, rfl, _, _, rfl, rfl, _, rfl, ?_⟩
  refine ite2 (fun c => ?_) (fun c => ?_)
  · have c' : v < many := by
      have := of_decide_eq_true c
      omega
    refine ⟨fun σ H' => ∃ x v2 : Nat, σ = [some (.int (x : Int)), some (.int (v2 : Int)), some (.int (many : Int))] ∧ H = H' ∧ Mk.Tiling pat u x v2 ∧ v2 ≤ 40000 + u ∧ v < v2, ?_, ?_⟩
    · rintro σ' H' ⟨x2, v2, rfl, rfl, T2, l2, l3⟩
      exact ⟨many - v2, by omega, x2, v2, rfl, rfl, T2, l2, rfl⟩
    · have vp := T.pos
      refine ⟨_, rfl, _, rfl, _, rfl, _, v, rfl, rfl, shl_ok (n := v) (by simpa using T.lt) (by omega), _, _, rfl, rfl, ?_⟩
      rw [Mk.mul_ct]
      dsimp only
      rw [Mk.bor]
      refine ⟨_, rfl, _, _, rfl, rfl, .inl ⟨by omega, by omega⟩, ?_⟩
      refine ⟨x ||| x * 2 ^ v, v * 2, ?_, rfl, T.step, by omega, by omega⟩
      show [some (V.int _), some (V.int ((v : Int) * 2)), some (V.int _)] = _
      rw [show (v : Int) * 2 = ((v * 2 : Nat) : Int) by omega]
  · have c' : many ≤ v := by
      have : ¬ (v : Int) < (many : Int) := fun z => c (decide_eq_true z)
      omega
    exact ⟨_, rfl, _, rfl, x, many, rfl, by omega, q _ (T.done c')⟩
end
end Wp

namespace Hx
open PySem PySem.Spec PyProof.Rows L2
theorem lc_enumS {x : Str} {g : TG} {tt : TT} {te : TE} {vs : List Nat} {σ : L2.St} {H1 : Hp} {D : Addr} {Qd : Hp → Prop} (I : Nat → Hp → Prop) (h0 : I 0 (upd H1 D (.lst [])))
    (step : ∀ i c H T, x.cps[i]? = some c → I i H → H T = none → g (.ref T) (wipe σ vs) (upd H T (.tup [.int (i : Nat), .str ⟨#[c]⟩])) fun σ2 H2 => wipe σ2 vs = wipe σ vs ∧ tt σ2 H2 fun b H3 =>
      if b = true then te σ2 H3 fun y H4 => ∃ acc, H4 D = some (.lst acc) ∧ acc.length < sizeLine ∧ I (i + 1) (upd H4 D (.lst (acc ++ [y]))) else I (i + 1) H3)
    (done : ∀ H, I x.cps.size H → Qd H) :
    ∃ W : Nat → Nat → Hp → Prop, (∃ m, W 0 m (upd H1 D (.lst []))) ∧ ∀ i m H, W i m H →
      ((Ites x).stop i H ∧ Qd H) ∨ ((Ites x).go i H ∧ ∃ Nx : Hp → Prop, (∀ H', Nx H' → ∃ m', m' < m ∧ W (i + 1) m' H') ∧
        ∀ v H', (Ites x).yld i H v H' → g v (wipe σ vs) H' fun σ2 H2 => wipe σ2 vs = wipe σ vs ∧ tt σ2 H2 fun b H3 =>
          if b = true then te σ2 H3 fun y H4 => ∃ acc, H4 D = some (.lst acc) ∧ acc.length < sizeLine ∧ Nx (upd H4 D (.lst (acc ++ [y]))) else Nx H3) := by
  refine ⟨fun i m H => I i H ∧ i ≤ x.cps.size ∧ m = x.cps.size - i, ⟨_, h0, Nat.zero_le _, rfl⟩, fun i m H ⟨hI, hi, hm⟩ => ?_⟩
  by_cases c : i < x.cps.size
  · refine .inr ⟨c, I (i + 1), fun H' h' => ⟨_, by omega, h', by omega, rfl⟩, ?_⟩
    rintro v H' ⟨T, ch, rfl, hT, rfl, hc⟩
    exact step i ch H T hc hI hT
  · have e : i = x.cps.size := by omega
    subst e
    exact .inl ⟨rfl, done H hI⟩
end Hx
namespace Wp
open PySem PySem.Spec PyProof.Rows L2 Hx
theorem same_at {H H2 : Hp} {D : Addr} {o : HO} (hD : H D = none) (s : Same H H2) : Same H (upd H2 D o) := fun c x h => by
  rw [upd_ne (ne_of_none h hD)]
  exact s c x h
def nats (l : List Nat) : List V := l.map fun i : Nat => V.int (i : Int)
def spPositions : Sp := fun vs H Q _ => ∃ n : Nat, vs = [.int (n : Int)] ∧ n.log2 ≤ 30000 ∧ ∀ D H', Same H H' → H' D = some (.lst (nats (Mk.pos n))) → Q (.ref D) H'
section
variable {P : Program} {w : World} {K : PySem.W.Frag} {mg : Str → Option Value} {base : Heap} {f f1 f2 : Addr} {fd fd1 fd2 : FuncData}
theorem scPositions : FnScope ["bits", "figures", "at", "figure"] ["bits"] (defScope s_positions) := ⟨rfl, rfl, rfl, by decide +kernel, rfl, by decide +kernel, by decide +kernel⟩
theorem rev_bin {n i c : Nat} (h : (revS (binText n)).cps[i]? = some c) : i < n.log2 + 1 ∧ c = (if n.testBit i then 49 else 48) := by
  have e : (revS (binText n)).cps.toList = ((Mk.figs n).reverse).map Char.toNat := by
    show ((((Mk.figs n).map Char.toNat).toArray).toList.reverse.toArray).toList = _
    simp
  rw [← Array.getElem?_toList, e, Mk.figs_rev, List.map_map, List.getElem?_map] at h
  obtain ⟨j, hj, hc⟩ := Option.map_eq_some_iff.mp h
  by_cases lt : i < n.log2 + 1
  · rw [List.getElem?_range lt] at hj
    cases hj
    refine ⟨lt, ?_⟩
    rw [← hc]
    show Char.toNat (if n.testBit i = true then '1' else '0') = _
    split <;> rfl
  · rw [List.getElem?_eq_none (by rw [List.length_range]; omega)] at hj
    cases hj
theorem ok_positions (F : Fun K "positions" "positions" s_positions f fd) (Z : Bp mg) : FnOk P w K mg base CX0 1 f fd ["bits"] spPositions := by
  refine F.ok scPositions (fun vs H Q E h => ?_) (fun cdv A outer s H vs Q E hr h => ?_)
  · obtain ⟨n, rfl, _⟩ := h
    rfl
  obtain ⟨n, rfl, hn, q⟩ := h
  refine ⟨_, pss_cons (ps_set (i := 1) scPositions.nd rfl (Or.inl rfl) (pe_bin (pv 0)))
    (pss_one (ps_ret (pe_lc (own := [("at", 2), ("figure", 3)]) (g := gTup K 2 (gCons (gName 2) (gCons (gName 3) gNil))) (te := tVar 2) rfl scPositions.nd (pi_enumS rfl Z.enumerate (pa_cons (pe_back sl_backS (pv 1) (pe_un un_neg pe_int)) pa_nil))
      (blkOk_by (N := ["bits", "figures", "at", "figure"]) (sc := defScope s_positions) (by decide +kernel))
      (fun _ _ _ _ _ => pg_tup (by rfl) (pgs_cons (pg_name (i := 2) scPositions.nd rfl (Or.inl rfl)) (pgs_cons (pg_name (i := 3) scPositions.nd rfl (Or.inl rfl)) pgs_nil)))
      (fun _ _ _ _ _ => pts_one (pt_cmpR op_eq (pv 3) pe_str (nomark _))) (fun _ _ _ _ _ => pv 2)))), ?_⟩
  have sz : (revS (binText n)).cps.size = n.log2 + 1 := by
    show ((binText n).cps.toList.reverse.toArray).size = _
    rw [List.size_toArray, List.length_reverse, Array.length_toList]
    exact bin_len n
  refine ⟨_, rfl, n, rfl, by omega, ?_⟩
  refine ⟨_, rfl, _, rfl, rfl, _, rfl, ?_, ?_⟩
  · rw [bin_len, sizeLine_eq]
    omega
  refine ⟨_, rfl, fun D hD => ?_⟩
  have nl : ∀ i, (nats ((List.range i).filter n.testBit)).length ≤ i := fun i => by
    unfold nats
    rw [List.length_map]
    exact Nat.le_trans (List.length_filter_le _ _) (by rw [List.length_range]; exact Nat.le_refl _)
  refine lc_enumS (fun i H' => Same H H' ∧ H' D = some (.lst (nats ((List.range i).filter n.testBit)))) ⟨same_new hD _, upd_same⟩ ?_ ?_
  · rintro i c H' T hc ⟨s1, hD1⟩ hT
    obtain ⟨li, hcv⟩ := rev_bin hc
    have s2 := s1.trans (same_new hT (.tup [.int (i : Nat), .str ⟨#[c]⟩]))
    have hD2 := upd_other (o := .tup [.int (i : Nat), .str ⟨#[c]⟩]) hD1 hT
    refine ⟨T, _, rfl, SqT.of upd_same, rfl, _, _, rfl, _, _, rfl, rfl, rfl, ?_⟩
    refine ⟨_, rfl, ?_⟩
    refine ⟨rfl, _, rfl, ?_⟩
    rw [List.range_succ, List.filter_append]
    have one : ("1" : Str) = ⟨#[49]⟩ := by decide +kernel
    have lt : (nats ((List.range i).filter n.testBit)).length < sizeLine := by
      have := nl i
      rw [sizeLine_eq]
      omega
    by_cases b : n.testBit i = true
    · rw [if_pos b] at hcv
      subst hcv
      rw [one, decide_eq_true rfl]
      refine iteT ⟨_, rfl, _, hD2, lt, same_at hD s2, ?_⟩
      rw [upd_same]
      simp [nats, b]
    · rw [if_neg b] at hcv
      subst hcv
      rw [decide_eq_false (by rw [one]; decide)]
      refine iteF ⟨s2, ?_⟩
      simp [b]
      exact hD2
  · rintro H' ⟨s1, hD1⟩
    rw [sz] at hD1
    exact q D H' s1 hD1
end
end Wp

namespace Wp
open PySem PySem.Spec PyProof.Rows L2 Hx
/-- the ways of a statement meet -/
theorem seq_of {t : TS} {u : TS} {D : Ends} {σ : L2.St} {H : Hp} (J : L2.St → Hp → Prop) (hu : ∀ σ' H', J σ' H' → u D σ' H') (ht : ∀ N, (∀ σ' H', J σ' H' → N σ' H') → t { D with nx := N } σ H) : tSeq t u D σ H := ht _ hu
def spPrimes : Sp := fun vs H Q _ => ∃ n : Nat, vs = [.int (n : Int)] ∧ 1 ≤ n ∧ n ≤ 5000 ∧ ∀ (qs : List Nat) D H', (∀ q ∈ qs, 2 ≤ q ∧ q ≤ n) → qs.length ≤ 5000 → Same H H' → H' D = some (.lst (nats qs)) → Q (.ref D) H'
section
variable {P : Program} {w : World} {K : PySem.W.Frag} {mg : Str → Option Value} {base : Heap} {f f1 f2 : Addr} {fd fd1 fd2 : FuncData}
theorem scPrimes : FnScope ["number", "found", "prime"] ["number"] (defScope s_primes_of) := ⟨rfl, rfl, rfl, by decide +kernel, rfl, by decide +kernel, by decide +kernel⟩
/-- what the outer loop keeps -/
structure Prm (n m p : Nat) (qs : List Nat) : Prop where
  m1 : 1 ≤ m
  mn : m ≤ n
  p2 : 2 ≤ p
  least : ∀ d, 2 ≤ d → d ∣ m → p ≤ d
  two : ∀ q ∈ qs, 2 ≤ q ∧ q ≤ n
  few : qs.length + 2 ≤ p
  pn : p ≤ n + 2
theorem ok_primes (F : Fun K "primes_of" "primes_of" s_primes_of f fd) : FnOk P w K mg base CX0 1 f fd ["number"] spPrimes := by
  refine F.ok scPrimes (fun vs H Q E h => ?_) (fun cdv A outer s H vs Q E hr h => ?_)
  · obtain ⟨n, rfl, _⟩ := h
    rfl
  obtain ⟨n, rfl, n1, n2, q⟩ := h
  refine ⟨_, pss_cons (ps_set (i := 1) scPrimes.nd rfl (Or.inl rfl) (pe_lst pa_nil))
    (pss_cons (ps_set (i := 2) scPrimes.nd rfl (Or.inl rfl) pe_int)
    (pss_cons (ps_while PassesOwn.never (pt_cmpR op_gt (pv 0) pe_int (nomark _))
      (pss_cons (ps_if (pt_cmpR op_eq (pe_op op_mod (pv 0) (pv 2)) pe_int (nomark _))
        (pss_one (ps_expr (pe_bm PySem.F.plainAttrs_list PySem.F.slot_list_append PySem.F.type_list_append mt_append (pv 1) (pa_cons (pv 2) pa_nil)))) pss_nil)
      (pss_cons (ps_while PassesOwn.never (pt_cmpR op_eq (pe_op op_mod (pv 0) (pv 2)) pe_int (nomark _))
        (pss_one (ps_set (i := 0) scPrimes.nd rfl (Or.inl rfl) (pe_op op_fdiv (pv 0) (pv 2)))))
      (pss_one (ps_aug (i := 2) scPrimes.nd rfl (.inl rfl) pe_int ip_add)))))
    (pss_one (ps_ret (pv 1))))), ?_⟩
  refine ⟨(by show 0 ≤ sizeLine; decide), fun D hD => ?_⟩
  refine ⟨fun k σ H' => ∃ (m p : Nat) (qs : List Nat), σ = [some (.int (m : Int)), some (.ref D), some (.int (p : Int))] ∧ Same H H' ∧ H' D = some (.lst (nats qs)) ∧ Prm n m p qs ∧ k = m + 1 - p, ⟨_, n, 2, [], rfl, same_new hD _, upd_same, ⟨n1, Nat.le_refl _, Nat.le_refl _, fun d h _ => h, (by simp), (by simp), by omega⟩, rfl⟩, ?_⟩
  rintro k σ H1 ⟨m, p, qs, rfl, s1, hD1, I, rfl⟩
  refine ⟨_, rfl, _, _, rfl, rfl, _, rfl, ?_⟩
  refine ite2 (fun c => ?_) (fun c => ?_)
  · have c' : 1 < m := by
      have := of_decide_eq_true c
      omega
    have pm := I.least m c' (Nat.dvd_refl _)
    have p2 := I.p2
    have nx := I.few
    have im0 := I.mn
    refine ⟨fun σ H' => ∃ (m' p' : Nat) (qs' : List Nat), σ = [some (.int (m' : Int)), some (.ref D), some (.int (p' : Int))] ∧ Same H H' ∧ H' D = some (.lst (nats qs')) ∧ Prm n m' p' qs' ∧ m' + 1 - p' < m + 1 - p, ?_, ?_⟩
    · rintro σ' H' ⟨m', p', qs', rfl, s', h', I', lt⟩
      exact ⟨_, lt, m', p', qs', rfl, s', h', I', rfl⟩
    · refine seq_of (fun σ H' => ∃ qs' : List Nat, σ = [some (.int (m : Int)), some (.ref D), some (.int (p : Int))] ∧ Same H H' ∧ H' D = some (.lst (nats qs')) ∧ (∀ q ∈ qs', 2 ≤ q ∧ q ≤ n) ∧ qs'.length + 2 ≤ p + 1) ?_ ?_
      · rintro σ' H' ⟨qs', rfl, s2, hD2, tw, fw⟩
        refine seq_of (fun σ H' => ∃ m' : Nat, σ = [some (.int (m' : Int)), some (.ref D), some (.int (p : Int))] ∧ Same H H' ∧ H' D = some (.lst (nats qs')) ∧ 1 ≤ m' ∧ m' ≤ m ∧ m' ∣ m ∧ ¬ p ∣ m') ?_ ?_
        · rintro σ' H2 ⟨m', rfl, s3, hD3, m1, mm, md, np⟩
          refine ⟨_, rfl, _, _, rfl, rfl, ?_⟩
          have im := I.mn
          refine ⟨m', p + 1, qs', rfl, s3, hD3, ⟨m1, by omega, by omega, fun d d2 dm => ?_, tw, by omega, by omega⟩, by omega⟩
          have a := I.least d d2 (Nat.dvd_trans dm md)
          have b : d ≠ p := fun z => np (z ▸ dm)
          omega
        · intro N hN
          refine ⟨fun k σ H' => ∃ m' : Nat, σ = [some (.int (m' : Int)), some (.ref D), some (.int (p : Int))] ∧ Same H H' ∧ H' D = some (.lst (nats qs')) ∧ 1 ≤ m' ∧ m' ≤ m ∧ m' ∣ m ∧ m' = k, ⟨_, m, rfl, s2, hD2, by omega, Nat.le_refl _, Nat.dvd_refl _, rfl⟩, ?_⟩
          rintro k σ2 H2 ⟨m', rfl, s3, hD3, m1, mm, md, rfl⟩
          refine ⟨_, rfl, _, rfl, _, _, rfl, rfl, (by omega), ?_⟩
          refine ⟨rfl, _, rfl, ?_⟩
          have em : (m' : Int) % (p : Int) = ((m' % p : Nat) : Int) := (Int.natCast_emod _ _).symm
          refine ite2 (fun c3 => ?_) (fun c3 => ?_)
          · have c4 : m' % p = 0 := by
              have := V.int.inj (of_decide_eq_true c3)
              rw [em] at this
              omega
            have lt : m' / p < m' := Nat.div_lt_self (by omega) (by omega)
            have dp : m' / p ∣ m' := Nat.div_dvd_of_dvd (Nat.dvd_of_mod_eq_zero c4)
            have ge : 1 ≤ m' / p := Nat.div_pos (Nat.le_of_dvd (by omega) (Nat.dvd_of_mod_eq_zero c4)) (by omega)
            refine ⟨fun σ H' => ∃ m2 : Nat, σ = [some (.int (m2 : Int)), some (.ref D), some (.int (p : Int))] ∧ Same H H' ∧ H' D = some (.lst (nats qs')) ∧ 1 ≤ m2 ∧ m2 ≤ m ∧ m2 ∣ m ∧ m2 < m', ?_, ?_⟩
            · rintro σ' H' ⟨m2, rfl, a1, a2, a3, a4, a5, a6⟩
              exact ⟨m2, a6, m2, rfl, a1, a2, a3, a4, a5, rfl⟩
            · refine ⟨_, rfl, _, rfl, _, _, rfl, rfl, ⟨by omega, by omega⟩, ?_⟩
              exact ⟨m' / p, by rw [Int.natCast_ediv]; rfl, s3, hD3, ge, by omega, Nat.dvd_trans dp md, lt⟩
          · have c4 : ¬ p ∣ m' := fun z => c3 (by
              show decide (V.int ((m' : Int) % (p : Int)) = V.int 0) = true
              rw [em, Nat.mod_eq_zero_of_dvd z]
              exact decide_eq_true rfl)
            exact hN _ _ ⟨m', rfl, s3, hD3, m1, mm, md, c4⟩
      · intro N hN
        refine ⟨_, rfl, _, rfl, _, _, rfl, rfl, (by omega), ?_⟩
        refine ⟨rfl, _, rfl, ?_⟩
        refine ite2 (fun c3 => ?_) (fun c3 => ?_)
        · refine ⟨_, rfl, .inl ⟨rfl, _, SqL.of hD1⟩, _, rfl, D, _, _, rfl, rfl, hD1, ?_, ?_⟩
          · unfold nats
            rw [List.length_map, sizeLine_eq]
            have im := I.mn
            omega
          refine hN _ _ ⟨qs ++ [p], rfl, ?_, ?_, ?_, ?_⟩
          · exact same_at hD s1
          · rw [upd_same]
            simp [nats]
          · intro q hq
            rcases List.mem_append.mp hq with z | z
            · exact I.two q z
            · rw [List.mem_singleton.mp z]
              exact ⟨p2, by omega⟩
          · rw [List.length_append]
            show qs.length + 1 + 2 ≤ p + 1
            omega
        · exact hN _ _ ⟨qs, rfl, s1, hD1, I.two, by omega⟩
  · have c' : m ≤ 1 := by
      have : ¬ (m : Int) > 1 := fun z => c (decide_eq_true z)
      omega
    have := I.m1
    have mn := I.mn
    have nx := I.few
    have pn := I.pn
    exact ⟨_, rfl, q qs D H1 I.two (by omega) s1 hD1⟩
end
end Wp

namespace Wp
open PySem PySem.Spec PyProof.Rows L2 Hx
def spLeastW : Sp := fun vs H Q _ => ∃ x u : Nat, vs = [.int (x : Int), .int (u : Int)] ∧ 1 ≤ u ∧ u ≤ 5000 ∧ (∀ q, 2 ≤ q → q ∣ u → x / 2 ^ (u / q) ≠ x % 2 ^ (u - u / q)) ∧ ∀ H', Same H H' → Q (.int (u : Int)) H'
section
variable {P : Program} {w : World} {K : PySem.W.Frag} {mg : Str → Option Value} {base : Heap} {f f1 f2 : Addr} {fd fd1 fd2 : FuncData}
theorem scLeastW : FnScope ["pattern", "width", "prime", "shorter"] ["pattern", "width"] (defScope s_least_width) := ⟨rfl, rfl, rfl, by decide +kernel, rfl, by decide +kernel, by decide +kernel⟩
theorem ok_leastW (F : Fun K "least_width" "least_width" s_least_width f fd)
    (G1 : FnOk P w K mg base CX0 1 f1 fd1 ["number"] spPrimes) (b1 : Binds K fd1 ["number"] []) (k1 : PySem.W.keepIn K (.ref f1) = true) (m1 : mg "primes_of" = some (.ref f1))
    (G2 : FnOk P w K mg base CX0 2 f2 fd2 ["bits", "many"] spLow) (b2 : Binds K fd2 ["bits", "many"] []) (k2 : PySem.W.keepIn K (.ref f2) = true) (m2 : mg "low" = some (.ref f2)) :
    FnOk P w K mg base CX0 3 f fd ["pattern", "width"] spLeastW := by
  refine F.ok scLeastW (fun vs H Q E h => ?_) (fun cdv A outer s H vs Q E hr h => ?_)
  · obtain ⟨x, u, rfl, _⟩ := h
    rfl
  obtain ⟨x, u, rfl, u1, u2, hq, q⟩ := h
  have r1 := hr.mono (by decide : 1 ≤ 2)
  refine ⟨_, pss_cons (ps_for PassesOwn.never rfl (pi_list (pe_call G1 r1 rfl m1 k1 b1 .nil pass0 (pa_cons (pv 1) pa_nil))) (pg_name (i := 2) scLeastW.nd rfl (Or.inl rfl))
      (pss_cons (ps_set (i := 3) scLeastW.nd rfl (Or.inl rfl) (pe_op op_fdiv (pv 1) (pv 2)))
      (pss_one (ps_while PassesOwn.never (PW.pt (pw_and (pt_cmpR op_eq (pe_op op_mod (pv 1) (pv 2)) pe_int (nomark _)) (pw_and1 (pt_cmpR op_eq (pe_op op_shrN (pv 0) (pv 3)) (pe_call G2 hr rfl m2 k2 b2 .nil pass0 (pa_cons (pv 0) (pa_cons (pe_op op_sub (pv 1) (pv 3)) pa_nil))) (nomark _)))))
        (pss_cons (ps_set (i := 0) scLeastW.nd rfl (Or.inl rfl) (pe_call G2 hr rfl m2 k2 b2 .nil pass0 (pa_cons (pv 0) (pa_cons (pv 3) pa_nil))))
        (pss_cons (ps_set (i := 1) scLeastW.nd rfl (Or.inl rfl) (pv 3))
        (pss_one (ps_set (i := 3) scLeastW.nd rfl (Or.inl rfl) (pe_op op_fdiv (pv 1) (pv 2))))))))))
    (pss_one (ps_ret (pv 1))), ?_⟩
  refine ⟨_, rfl, u, rfl, u1, u2, fun qs D H1 two few s1 hD => ?_⟩
  refine ⟨D, rfl, ⟨_, SqL.of hD⟩, for_list (K := K) (a := D) (xs := nats qs) (fun _ σ H' => Same H H' ∧ H' D = some (.lst (nats qs)) ∧ ∃ a b : Option V, σ = [some (.int (x : Int)), some (.int (u : Int)), a, b]) ⟨s1, hD, _, _, rfl⟩ (fun _ _ _ _ h => SqL.of h.2.1) ?_ ?_⟩
  · rintro i y σ H2 hy ⟨s2, hD2, a, b, rfl⟩
    obtain ⟨p, hp, rfl⟩ := List.mem_map.mp (List.mem_of_getElem? hy)
    obtain ⟨p2, pu⟩ := two p hp
    refine ⟨_, rfl, _, rfl, _, _, rfl, rfl, ⟨by omega, by omega⟩, ?_⟩
    have ed : (u : Int) / (p : Int) = ((u / p : Nat) : Int) := (Int.natCast_ediv _ _).symm
    dsimp only
    rw [ed]
    refine ⟨fun m σ H' => Same H H' ∧ H' D = some (.lst (nats qs)) ∧ σ = [some (.int (x : Int)), some (.int (u : Int)), some (.int (p : Int)), some (.int ((u / p : Nat) : Int))], ⟨0, s2, hD2, rfl⟩, ?_⟩
    rintro m σ H3 ⟨s3, hD3, rfl⟩
    refine ⟨_, rfl, _, rfl, _, _, rfl, rfl, (by omega), rfl, _, rfl, ?_⟩
    have em : (u : Int) % (p : Int) = ((u % p : Nat) : Int) := (Int.natCast_emod _ _).symm
    refine ite2 (fun c => ?_) (fun c => ?_)
    · have c4 : p ∣ u := by
        have := V.int.inj (of_decide_eq_true c)
        rw [em] at this
        exact Nat.dvd_of_mod_eq_zero (by omega)
      have lt : u / p ≤ u := Nat.div_le_self _ _
      refine ⟨_, rfl, _, rfl, _, _, rfl, rfl, ?_⟩
      refine ⟨_, rfl, _, rfl, _, rfl, _, _, rfl, rfl, x, u - u / p, ?_, Nat.le_trans (Nat.sub_le _ _) (by omega), rfl, _, rfl, ?_⟩
      · show [V.int _, V.int ((u : Int) - ((u / p : Nat) : Int))] = _
        rw [show (u : Int) - ((u / p : Nat) : Int) = ((u - u / p : Nat) : Int) by omega]
      · rw [Mk.div_ct, decide_eq_false (fun z => hq p p2 c4 (by have := V.int.inj z; omega))]
        exact iteF ⟨s3, hD3, _, _, rfl⟩
    · exact ⟨s3, hD3, _, _, rfl⟩
  · rintro σ H2 ⟨s2, hD2, a, b, rfl⟩
    exact ⟨_, rfl, q H2 s2⟩
end
end Wp

namespace Wp
open PySem PySem.Spec PyProof.Rows L2 Hx
/-- the class of sets of places -/
structure Pd (K : PySem.W.Frag) (mg : Str → Option Value) (C : Addr) : Prop where
  cl : Cls K C
  nW : NoAttr K C "width"
  nC : NoAttr K C "cycle"
  nS : NoAttr K C "strays"
  gC : mg "Places" = some (.ref C)
def flds (s : Mk.Kept) : List (Str × V) := [("width", .int (s.w : Int)), ("cycle", .int (s.cy : Int)), ("strays", .int (s.st : Int))]
/-- a set stands at a -/
def PlAt (C : Addr) (H : Hp) (a : Addr) (s : Mk.Kept) : Prop := ∃ dx, H a = some (.ins C dx (flds s))
theorem PlAt.same {C : Addr} {H H' : Hp} {a : Addr} {k : Mk.Kept} (r : PlAt C H a k) (s : Same H H') : PlAt C H' a k := let ⟨dx, h⟩ := r; ⟨dx, s _ _ h⟩
/-- what a set keeps of bits, a start and a width -/
structure Made (bits start width : Nat) (s : Mk.Kept) : Prop where
  w : s.w = width
  cy : s.cy = bits / 2 ^ start
  st : ∀ n, s.st.testBit n = Bool.xor (decide (n < start) && bits.testBit n) (decide (n < start) && (bits / 2 ^ start).testBit (n % width))
def spInitP (C : Addr) : Sp := fun vs H Q _ => ∃ (a dx : Addr) (bits start width : Nat), vs = [.ref a, .int (bits : Int), .int (start : Int), .int (width : Int)] ∧ H a = some (.ins C dx []) ∧ 1 ≤ width ∧ width ≤ 5000 ∧ start ≤ 20000 ∧ bits < 2 ^ (start + width) ∧
  (∀ q, 2 ≤ q → q ∣ width → (bits / 2 ^ start) / 2 ^ (width / q) ≠ (bits / 2 ^ start) % 2 ^ (width - width / q)) ∧ ∀ s H', Made bits start width s → But a H H' → H' a = some (.ins C dx (flds s)) → Q .non H'
section
variable {P : Program} {w : World} {K : PySem.W.Frag} {mg : Str → Option Value} {base : Heap} {f f1 f2 f3 C : Addr} {fd fd1 fd2 fd3 : FuncData}
theorem scInitP : FnScope ["self", "bits", "start", "width", "pattern"] ["self", "bits", "start", "width"] (defScope s_Places_init) := ⟨rfl, rfl, rfl, by decide +kernel, rfl, by decide +kernel, by decide +kernel⟩
theorem ok_initP (F : Fun K "__init__" "Places.__init__" s_Places_init f fd) (R : Pd K mg C)
    (G1 : FnOk P w K mg base CX0 3 f1 fd1 ["pattern", "width"] spLeastW) (b1 : Binds K fd1 ["pattern", "width"] []) (k1 : PySem.W.keepIn K (.ref f1) = true) (m1 : mg "least_width" = some (.ref f1))
    (G2 : FnOk P w K mg base CX0 2 f2 fd2 ["bits", "many"] spLow) (b2 : Binds K fd2 ["bits", "many"] []) (k2 : PySem.W.keepIn K (.ref f2) = true) (m2 : mg "low" = some (.ref f2))
    (G3 : FnOk P w K mg base CX0 3 f3 fd3 ["pattern", "width", "many"] spTiled) (b3 : Binds K fd3 ["pattern", "width", "many"] []) (k3 : PySem.W.keepIn K (.ref f3) = true) (m3 : mg "tiled" = some (.ref f3)) :
    FnOk P w K mg base CX0 4 f fd ["self", "bits", "start", "width"] (spInitP C) := by
  refine F.ok scInitP (fun vs H Q E h => ?_) (fun cdv A outer s H vs Q E hr h => ?_)
  · obtain ⟨a, dx, x, y, z, rfl, _⟩ := h
    rfl
  obtain ⟨a, dx, bits, start, width, rfl, ha, w1, w2, s1, bl, hN, q⟩ := h
  have r2 := hr.mono (by decide : 2 ≤ 3)
  refine ⟨_, pss_cons (ps_set (i := 4) scInitP.nd rfl (Or.inl rfl) (pe_op op_shrN (pv 1) (pv 2)))
    (pss_cons (ps_fld (pv 0) (pe_call G1 hr rfl m1 k1 b1 .nil pass0 (pa_cons (pv 4) (pa_cons (pv 3) pa_nil))) rfl)
    (pss_cons (ps_fld (pv 0) (pe_call G2 r2 rfl m2 k2 b2 .nil pass0 (pa_cons (pv 4) (pa_cons (pe_fld (pv 0) rfl) pa_nil))) rfl)
    (pss_one (ps_fld (pv 0) (pe_op op_xor (pe_call G2 r2 rfl m2 k2 b2 .nil pass0 (pa_cons (pv 1) (pa_cons (pv 2) pa_nil)))
      (pe_call G3 hr rfl m3 k3 b3 .nil pass0 (pa_cons (pe_fld (pv 0) rfl) (pa_cons (pe_fld (pv 0) rfl) (pa_cons (pv 2) pa_nil))))) rfl)))), ?_⟩
  have lt : bits / 2 ^ start < 2 ^ width := by
    rw [Nat.pow_add, Nat.mul_comm] at bl
    exact Nat.div_lt_of_lt_mul (by rwa [Nat.mul_comm] at bl)
  refine ⟨_, rfl, _, rfl, (bits : Int), start, rfl, rfl, ?_⟩
  rw [Mk.div_ct]
  refine ⟨_, rfl, _, rfl, bits / 2 ^ start, width, rfl, w1, w2, hN, fun H1 t1 => ?_⟩
  refine ⟨_, rfl, a, C, dx, _, rfl, t1 _ _ ha, R.cl, R.nW, (by show 0 < 1000; decide), ?_⟩
  refine ⟨_, rfl, _, rfl, a, C, dx, _, _, rfl, upd_same, R.cl, R.nW, rfl, bits / 2 ^ start, width, rfl, by omega, ?_⟩
  rw [Nat.mod_eq_of_lt lt]
  refine ⟨_, rfl, a, C, dx, _, rfl, upd_same, R.cl, R.nC, (by show 1 < 1000; decide), ?_⟩
  refine ⟨_, rfl, _, rfl, bits, start, rfl, by omega, ?_⟩
  refine ⟨_, rfl, a, C, dx, _, _, rfl, upd_same, R.cl, R.nC, rfl, _, rfl, a, C, dx, _, _, rfl, upd_same, R.cl, R.nW, rfl, _, rfl, bits / 2 ^ start, width, start, rfl, by omega, w2, lt, s1, fun x T => ?_⟩
  refine ⟨_, _, rfl, rfl, ?_⟩
  dsimp only
  rw [Mk.bxor]
  refine ⟨_, rfl, a, C, dx, _, rfl, upd_same, R.cl, R.nS, (by show 2 < 1000; decide), ?_⟩
  refine q ⟨width, bits / 2 ^ start, bits % 2 ^ start ^^^ x⟩ _ ⟨rfl, rfl, fun n => ?_⟩ ?_ upd_same
  · show (bits % 2 ^ start ^^^ x).testBit n = _
    rw [Nat.testBit_xor, Nat.testBit_mod_two_pow, T n]
  · exact (((But.of t1).upd _).upd _).upd _
end
end Wp

/-! periods -/
namespace Mk
/-- s is a period of f -/
def Sh (f : Nat → Bool) (s : Nat) : Prop := ∀ n, f (n + s) = f n
theorem Sh.mul {f : Nat → Bool} {s : Nat} (h : Sh f s) : ∀ k, Sh f (s * k)
  | 0 => fun n => rfl
  | k + 1 => fun n => by rw [Nat.mul_succ, ← Nat.add_assoc, h, h.mul k]
theorem Sh.dvd {f : Nat → Bool} {s t : Nat} (h : Sh f s) (d : s ∣ t) : Sh f t := by
  obtain ⟨k, rfl⟩ := d
  exact h.mul k
theorem Sh.rem {f : Nat → Bool} {a b : Nat} (ha : Sh f a) (hb : Sh f b) : Sh f (b % a) := fun n => by
  rw [← ha.mul (b / a) (n + b % a), Nat.add_assoc, Nat.mod_add_div, hb]
theorem Sh.gcd {f : Nat → Bool} {a b : Nat} : Sh f a → Sh f b → Sh f (Nat.gcd a b) := by
  induction a, b using Nat.gcd.induction with
  | H0 b => intro _ hb; rwa [Nat.gcd_zero_left]
  | H1 a b _ ih => intro ha hb; rw [Nat.gcd_rec]; exact ih (ha.rem hb) ha
theorem Sh.mod {f : Nat → Bool} {s : Nat} (h : Sh f s) (n : Nat) : f n = f (n % s) := by
  have := h.mul (n / s) (n % s)
  rwa [Nat.mod_add_div] at this
/-- w is the least period of f -/
structure Least (f : Nat → Bool) (w : Nat) : Prop where
  pos : 0 < w
  sh : Sh f w
  dvd : ∀ d, 0 < d → Sh f d → w ∣ d
/-- the pattern x of width u, again and again -/
def rep (x u n : Nat) : Bool := x.testBit (n % u)
theorem rep_sh (x u : Nat) : Sh (rep x u) u := fun n => by
  unfold rep
  rw [Nat.add_mod_right]
theorem rep_low {x u w : Nat} (h : Sh (rep x u) w) (w0 : 0 < w) (wu : w ≤ u) (n : Nat) : rep x u n = rep (x % 2 ^ w) w n := by
  have hm := Nat.mod_lt n w0
  rw [h.mod]
  unfold rep
  rw [Nat.mod_eq_of_lt (by omega : n % w < u), Nat.testBit_mod_two_pow, decide_eq_true hm, Bool.true_and]
/-- a pattern that comes again within itself -/
theorem sh_iff {x u d : Nat} (hx : x < 2 ^ u) (d0 : 0 < d) (du : d ∣ u) (u0 : 0 < u) : x / 2 ^ d = x % 2 ^ (u - d) ↔ Sh (rep x u) d := by
  have dle := Nat.le_of_dvd u0 du
  constructor
  · intro e
    have bit : ∀ i, i + d < u → x.testBit (i + d) = x.testBit i := fun i hi => by
      have : (x / 2 ^ d).testBit i = (x % 2 ^ (u - d)).testBit i := congrArg (fun y => Nat.testBit y i) e
      rw [Nat.testBit_div_two_pow, Nat.testBit_mod_two_pow, decide_eq_true (by omega), Bool.true_and] at this
      exact this
    have all : ∀ k r, r + d * k < u → x.testBit (r + d * k) = x.testBit r := fun k => by
      induction k with
      | zero => intro r _; rfl
      | succ k ih =>
        intro r hr
        rw [Nat.mul_succ, ← Nat.add_assoc] at hr ⊢
        rw [bit _ hr, ih r (by omega)]
    have one : ∀ n, rep x u n = x.testBit (n % d) := fun n => by
      unfold rep
      have e1 : n % u % d = n % d := Nat.mod_mod_of_dvd n du
      have e2 := Nat.mod_add_div (n % u) d
      have lt := Nat.mod_lt n u0
      rw [e1] at e2
      have := all (n % u / d) (n % d) (by omega)
      rwa [e2] at this
    intro n
    rw [one, one, Nat.add_mod_right]
  · intro h
    refine Nat.eq_of_testBit_eq fun i => ?_
    rw [Nat.testBit_div_two_pow, Nat.testBit_mod_two_pow]
    by_cases c : i + d < u
    · rw [decide_eq_true (by omega), Bool.true_and]
      have := h i
      unfold rep at this
      rwa [Nat.mod_eq_of_lt c, Nat.mod_eq_of_lt (by omega : i < u)] at this
    · rw [decide_eq_false (by omega), Bool.false_and]
      exact Nat.testBit_lt_two_pow (Nat.lt_of_lt_of_le hx (Nat.pow_le_pow_right (by decide) (by omega)))
/-- where no prime of the list can be taken away, the width is least -/
theorem least_of {f : Nat → Bool} {u w : Nat} {qs : List Nat} (w0 : 0 < w) (wu : w ∣ u) (h : Sh f w) (cov : ∀ d, 2 ≤ d → d ∣ u → ∃ q ∈ qs, q ∣ d) (two : ∀ q ∈ qs, 2 ≤ q) (no : ∀ q ∈ qs, ¬ (q ∣ w ∧ Sh f (w / q))) : Least f w := by
  refine ⟨w0, h, fun d d0 hd => ?_⟩
  have hg := h.gcd hd
  have g1 : Nat.gcd w d ∣ w := Nat.gcd_dvd_left w d
  have g2 : Nat.gcd w d ∣ d := Nat.gcd_dvd_right w d
  generalize Nat.gcd w d = g at hg g1 g2
  obtain ⟨k, rfl⟩ := g1
  by_cases c : k = 1
  · subst c
    rwa [Nat.mul_one]
  · have k0 : k ≠ 0 := fun z => by
      subst z
      omega
    obtain ⟨q, hq, hk⟩ := cov k (by omega) (Nat.dvd_trans (Nat.dvd_mul_left k g) wu)
    obtain ⟨j, rfl⟩ := hk
    have q2 := two q hq
    refine (no q hq ⟨⟨g * j, ?_⟩, ?_⟩).elim
    · rw [Nat.mul_left_comm]
    · have e : g * (q * j) / q = g * j := by
        rw [Nat.mul_left_comm, Nat.mul_div_cancel_left _ (by omega)]
      rw [e]
      exact hg.mul j
/-- what was tried once needs no second try -/
theorem no_more {f : Nat → Bool} {w v q : Nat} (q2 : 2 ≤ q) (vw : v ∣ w) (no : ¬ (q ∣ w ∧ Sh f (w / q))) : ¬ (q ∣ v ∧ Sh f (v / q)) := by
  rintro ⟨⟨k, rfl⟩, h⟩
  obtain ⟨j, rfl⟩ := vw
  rw [Nat.mul_div_cancel_left _ (by omega)] at h
  refine no ⟨⟨k * j, by rw [Nat.mul_assoc]⟩, ?_⟩
  rw [Nat.mul_assoc, Nat.mul_div_cancel_left _ (by omega)]
  exact h.mul j
/-- a set that may be asked and is in its least form -/
structure Kept.Good (s : Kept) : Prop where
  least : Least (rep s.cy s.w) s.w
  cy : s.cy < 2 ^ s.w
theorem Kept.mem_rep {s : Kept} {n : Nat} (h : len s.st ≤ n) : s.mem n = rep s.cy s.w n := by
  unfold Kept.mem rep
  rw [bit_out h, Bool.xor_false]
theorem Kept.st_bit (s : Kept) (n : Nat) : s.st.testBit n = Bool.xor (s.mem n) (rep s.cy s.w n) := by
  unfold Kept.mem rep
  cases s.cy.testBit (n % s.w) <;> cases s.st.testBit n <;> rfl
/-- from begin on the set comes again every size -/
def Kept.From (s : Kept) (begin size : Nat) : Prop := ∀ n, begin ≤ n → s.mem (n + size) = s.mem n
theorem Kept.From.mul {s : Kept} {begin size : Nat} (h : s.From begin size) : ∀ k n, begin ≤ n → s.mem (n + size * k) = s.mem n
  | 0, _, _ => rfl
  | k + 1, n, hn => by rw [Nat.mul_succ, ← Nat.add_assoc, h _ (by omega), h.mul k n hn]
theorem Kept.Good.dvd {s : Kept} (G : s.Good) {begin size : Nat} (s0 : 0 < size) (h : s.From begin size) : s.w ∣ size := by
  refine G.least.dvd size s0 fun n => ?_
  have w0 := G.least.pos
  have big : begin + len s.st ≤ s.w * (begin + len s.st) := Nat.le_mul_of_pos_left _ w0
  have e1 := G.least.sh.mul (begin + len s.st) (n + size)
  have e2 := G.least.sh.mul (begin + len s.st) n
  rw [← e1, ← e2, ← Kept.mem_rep (by omega), ← Kept.mem_rep (by omega), show n + size + s.w * (begin + len s.st) = n + s.w * (begin + len s.st) + size by omega]
  exact h _ (by omega)
theorem Kept.Good.len_le {s : Kept} (G : s.Good) {begin size : Nat} (s0 : 0 < size) (h : s.From begin size) : len s.st ≤ begin := by
  refine Mk.len_le (Nat.lt_pow_two_of_testBit s.st fun n hn => ?_)
  have d := G.dvd s0 h
  have big : len s.st ≤ size * len s.st := Nat.le_mul_of_pos_left _ s0
  have e1 := h.mul (len s.st) n hn
  have e2 := (G.least.sh.dvd d).mul (len s.st) n
  rw [s.st_bit, ← e1, ← e2, Kept.mem_rep (by omega), Bool.xor_self]
theorem Kept.Good.from_len {s : Kept} (G : s.Good) : s.From (len s.st) s.w := fun n hn => by
  rw [Kept.mem_rep (by omega), Kept.mem_rep hn, G.least.sh]
theorem Kept.From.mono {s : Kept} {b c size : Nat} (h : s.From b size) (l : b ≤ c) : s.From c size := fun n hn => h n (by omega)
theorem Kept.From.dvd {s : Kept} {b size t : Nat} (h : s.From b size) (d : size ∣ t) : s.From b t := by
  obtain ⟨k, rfl⟩ := d
  exact fun n hn => h.mul k n hn
end Mk

namespace Wp
open PySem PySem.Spec PyProof.Rows L2 Hx
def spPrimesC : Sp := fun vs H Q _ => ∃ n : Nat, vs = [.int (n : Int)] ∧ 1 ≤ n ∧ n ≤ 5000 ∧ ∀ (qs : List Nat) D H', (∀ q ∈ qs, 2 ≤ q ∧ q ≤ n) → (∀ d, 2 ≤ d → d ∣ n → ∃ q ∈ qs, q ∣ d) → qs.length ≤ 5000 → Same H H' → H' D = some (.lst (nats qs)) → Q (.ref D) H'
section
variable {P : Program} {w : World} {K : PySem.W.Frag} {mg : Str → Option Value} {base : Heap} {f f1 f2 : Addr} {fd fd1 fd2 : FuncData}
/-- what the outer loop keeps -/
structure PrmC (n m p : Nat) (qs : List Nat) : Prop where
  m1 : 1 ≤ m
  mn : m ≤ n
  p2 : 2 ≤ p
  least : ∀ d, 2 ≤ d → d ∣ m → p ≤ d
  two : ∀ q ∈ qs, 2 ≤ q ∧ q ≤ n
  few : qs.length + 2 ≤ p
  pn : p ≤ n + 2
  cov : ∀ d, 2 ≤ d → d ∣ n → (∃ q ∈ qs, q ∣ d) ∨ d ∣ m
theorem ok_primesC (F : Fun K "primes_of" "primes_of" s_primes_of f fd) : FnOk P w K mg base CX0 1 f fd ["number"] spPrimesC := by
  refine F.ok scPrimes (fun vs H Q E h => ?_) (fun cdv A outer s H vs Q E hr h => ?_)
  · obtain ⟨n, rfl, _⟩ := h
    rfl
  obtain ⟨n, rfl, n1, n2, q⟩ := h
  refine ⟨_, pss_cons (ps_set (i := 1) scPrimes.nd rfl (Or.inl rfl) (pe_lst pa_nil))
    (pss_cons (ps_set (i := 2) scPrimes.nd rfl (Or.inl rfl) pe_int)
    (pss_cons (ps_while PassesOwn.never (pt_cmpR op_gt (pv 0) pe_int (nomark _))
      (pss_cons (ps_if (pt_cmpR op_eq (pe_op op_mod (pv 0) (pv 2)) pe_int (nomark _))
        (pss_one (ps_expr (pe_bm PySem.F.plainAttrs_list PySem.F.slot_list_append PySem.F.type_list_append mt_append (pv 1) (pa_cons (pv 2) pa_nil)))) pss_nil)
      (pss_cons (ps_while PassesOwn.never (pt_cmpR op_eq (pe_op op_mod (pv 0) (pv 2)) pe_int (nomark _))
        (pss_one (ps_set (i := 0) scPrimes.nd rfl (Or.inl rfl) (pe_op op_fdiv (pv 0) (pv 2)))))
      (pss_one (ps_aug (i := 2) scPrimes.nd rfl (.inl rfl) pe_int ip_add)))))
    (pss_one (ps_ret (pv 1))))), ?_⟩
  refine ⟨(by show 0 ≤ sizeLine; decide), fun D hD => ?_⟩
  refine ⟨fun k σ H' => ∃ (m p : Nat) (qs : List Nat), σ = [some (.int (m : Int)), some (.ref D), some (.int (p : Int))] ∧ Same H H' ∧ H' D = some (.lst (nats qs)) ∧ PrmC n m p qs ∧ k = m + 1 - p, ⟨_, n, 2, [], rfl, same_new hD _, upd_same, ⟨n1, Nat.le_refl _, Nat.le_refl _, fun d h _ => h, (by simp), (by simp), by omega, fun d _ h => .inr h⟩, rfl⟩, ?_⟩
  rintro k σ H1 ⟨m, p, qs, rfl, s1, hD1, I, rfl⟩
  refine ⟨_, rfl, _, _, rfl, rfl, _, rfl, ?_⟩
  refine ite2 (fun c => ?_) (fun c => ?_)
  · have c' : 1 < m := by
      have := of_decide_eq_true c
      omega
    have pm := I.least m c' (Nat.dvd_refl _)
    have p2 := I.p2
    have nx := I.few
    have im0 := I.mn
    refine ⟨fun σ H' => ∃ (m' p' : Nat) (qs' : List Nat), σ = [some (.int (m' : Int)), some (.ref D), some (.int (p' : Int))] ∧ Same H H' ∧ H' D = some (.lst (nats qs')) ∧ PrmC n m' p' qs' ∧ m' + 1 - p' < m + 1 - p, ?_, ?_⟩
    · rintro σ' H' ⟨m', p', qs', rfl, s', h', I', lt⟩
      exact ⟨_, lt, m', p', qs', rfl, s', h', I', rfl⟩
    · refine seq_of (fun σ H' => ∃ qs' : List Nat, σ = [some (.int (m : Int)), some (.ref D), some (.int (p : Int))] ∧ Same H H' ∧ H' D = some (.lst (nats qs')) ∧ (∀ q ∈ qs', 2 ≤ q ∧ q ≤ n) ∧ qs'.length + 2 ≤ p + 1 ∧ (∀ d, 2 ≤ d → d ∣ n → (∃ q ∈ qs', q ∣ d) ∨ d ∣ m) ∧ (p ∣ m → p ∈ qs')) ?_ ?_
      · rintro σ' H' ⟨qs', rfl, s2, hD2, tw, fw, cv, pin⟩
        refine seq_of (fun σ H' => ∃ m' : Nat, σ = [some (.int (m' : Int)), some (.ref D), some (.int (p : Int))] ∧ Same H H' ∧ H' D = some (.lst (nats qs')) ∧ 1 ≤ m' ∧ m' ≤ m ∧ m' ∣ m ∧ ¬ p ∣ m' ∧ (∀ d, 2 ≤ d → d ∣ n → (∃ q ∈ qs', q ∣ d) ∨ d ∣ m')) ?_ ?_
        · rintro σ' H2 ⟨m', rfl, s3, hD3, m1, mm, md, np, cv2⟩
          refine ⟨_, rfl, _, _, rfl, rfl, ?_⟩
          have im := I.mn
          refine ⟨m', p + 1, qs', rfl, s3, hD3, ⟨m1, by omega, by omega, fun d d2 dm => ?_, tw, by omega, by omega, cv2⟩, by omega⟩
          have a := I.least d d2 (Nat.dvd_trans dm md)
          have b : d ≠ p := fun z => np (z ▸ dm)
          omega
        · intro N hN
          refine ⟨fun k σ H' => ∃ m' : Nat, σ = [some (.int (m' : Int)), some (.ref D), some (.int (p : Int))] ∧ Same H H' ∧ H' D = some (.lst (nats qs')) ∧ 1 ≤ m' ∧ m' ≤ m ∧ m' ∣ m ∧ (∀ d, 2 ≤ d → d ∣ n → (∃ q ∈ qs', q ∣ d) ∨ d ∣ m') ∧ m' = k, ⟨_, m, rfl, s2, hD2, by omega, Nat.le_refl _, Nat.dvd_refl _, cv, rfl⟩, ?_⟩
          rintro k σ2 H2 ⟨m', rfl, s3, hD3, m1, mm, md, cv3, rfl⟩
          refine ⟨_, rfl, _, rfl, _, _, rfl, rfl, (by omega), ?_⟩
          refine ⟨rfl, _, rfl, ?_⟩
          have em : (m' : Int) % (p : Int) = ((m' % p : Nat) : Int) := (Int.natCast_emod _ _).symm
          refine ite2 (fun c3 => ?_) (fun c3 => ?_)
          · have c4 : m' % p = 0 := by
              have := V.int.inj (of_decide_eq_true c3)
              rw [em] at this
              omega
            have lt : m' / p < m' := Nat.div_lt_self (by omega) (by omega)
            have dp : m' / p ∣ m' := Nat.div_dvd_of_dvd (Nat.dvd_of_mod_eq_zero c4)
            have ge : 1 ≤ m' / p := Nat.div_pos (Nat.le_of_dvd (by omega) (Nat.dvd_of_mod_eq_zero c4)) (by omega)
            have pm' : p ∣ m' := Nat.dvd_of_mod_eq_zero c4
            have cvn : ∀ d, 2 ≤ d → d ∣ n → (∃ q ∈ qs', q ∣ d) ∨ d ∣ m' / p := fun d d2 dn => by
              rcases cv3 d d2 dn with z | z
              · exact .inl z
              · by_cases pd : p ∣ d
                · exact .inl ⟨p, pin (Nat.dvd_trans pm' md), pd⟩
                · refine .inr ?_
                  have g1 : Nat.gcd d p ∣ d := Nat.gcd_dvd_left d p
                  have g2 : Nat.gcd d p ∣ p := Nat.gcd_dvd_right d p
                  have g3 := Nat.le_of_dvd (by omega) g2
                  have g4 : 0 < Nat.gcd d p := Nat.gcd_pos_of_pos_left p (by omega)
                  have cop : Nat.gcd d p = 1 := by
                    apply Classical.byContradiction
                    intro c
                    have := I.least (Nat.gcd d p) (by omega) (Nat.dvd_trans g1 (Nat.dvd_trans z md))
                    have e : Nat.gcd d p = p := by omega
                    rw [e] at g1
                    exact pd g1
                  obtain ⟨k, rfl⟩ := pm'
                  rw [Nat.mul_div_cancel_left _ (by omega)]
                  exact Nat.Coprime.dvd_of_dvd_mul_left cop z
            refine ⟨fun σ H' => ∃ m2 : Nat, σ = [some (.int (m2 : Int)), some (.ref D), some (.int (p : Int))] ∧ Same H H' ∧ H' D = some (.lst (nats qs')) ∧ 1 ≤ m2 ∧ m2 ≤ m ∧ m2 ∣ m ∧ (∀ d, 2 ≤ d → d ∣ n → (∃ q ∈ qs', q ∣ d) ∨ d ∣ m2) ∧ m2 < m', ?_, ?_⟩
            · rintro σ' H' ⟨m2, rfl, a1, a2, a3, a4, a5, a7, a6⟩
              exact ⟨m2, a6, m2, rfl, a1, a2, a3, a4, a5, a7, rfl⟩
            · refine ⟨_, rfl, _, rfl, _, _, rfl, rfl, ⟨by omega, by omega⟩, ?_⟩
              exact ⟨m' / p, by rw [Int.natCast_ediv]; rfl, s3, hD3, ge, by omega, Nat.dvd_trans dp md, cvn, lt⟩
          · have c4 : ¬ p ∣ m' := fun z => c3 (by
              show decide (V.int ((m' : Int) % (p : Int)) = V.int 0) = true
              rw [em, Nat.mod_eq_zero_of_dvd z]
              exact decide_eq_true rfl)
            exact hN _ _ ⟨m', rfl, s3, hD3, m1, mm, md, c4, cv3⟩
      · intro N hN
        refine ⟨_, rfl, _, rfl, _, _, rfl, rfl, (by omega), ?_⟩
        refine ⟨rfl, _, rfl, ?_⟩
        refine ite2 (fun c3 => ?_) (fun c3 => ?_)
        · refine ⟨_, rfl, .inl ⟨rfl, _, SqL.of hD1⟩, _, rfl, D, _, _, rfl, rfl, hD1, ?_, ?_⟩
          · unfold nats
            rw [List.length_map, sizeLine_eq]
            have im := I.mn
            omega
          refine hN _ _ ⟨qs ++ [p], rfl, ?_, ?_, ?_, ?_, fun d d2 dn => (I.cov d d2 dn).imp (fun ⟨q, hq, hd⟩ => ⟨q, List.mem_append_left _ hq, hd⟩) id, fun _ => List.mem_append_right _ List.mem_cons_self⟩
          · exact same_at hD s1
          · rw [upd_same]
            simp [nats]
          · intro q hq
            rcases List.mem_append.mp hq with z | z
            · exact I.two q z
            · rw [List.mem_singleton.mp z]
              exact ⟨p2, by omega⟩
          · rw [List.length_append]
            show qs.length + 1 + 2 ≤ p + 1
            omega
        · refine hN _ _ ⟨qs, rfl, s1, hD1, I.two, by omega, I.cov, fun z => (c3 ?_).elim⟩
          have em : (m : Int) % (p : Int) = ((m % p : Nat) : Int) := (Int.natCast_emod _ _).symm
          show decide (V.int ((m : Int) % (p : Int)) = V.int 0) = true
          rw [em, Nat.mod_eq_zero_of_dvd z]
          exact decide_eq_true rfl
  · have c' : m ≤ 1 := by
      have : ¬ (m : Int) > 1 := fun z => c (decide_eq_true z)
      omega
    have := I.m1
    have mn := I.mn
    have nx := I.few
    have pn := I.pn
    refine ⟨_, rfl, q qs D H1 I.two (fun d d2 dn => ?_) (by omega) s1 hD1⟩
    rcases I.cov d d2 dn with z | z
    · exact z
    · have := Nat.le_of_dvd (by omega) z
      omega
end
end Wp

namespace Wp
open PySem PySem.Spec PyProof.Rows L2 Hx
def spLeastG : Sp := fun vs H Q _ => ∃ x u : Nat, vs = [.int (x : Int), .int (u : Int)] ∧ 1 ≤ u ∧ u ≤ 5000 ∧ x < 2 ^ u ∧ ∀ w H', Mk.Least (Mk.rep x u) w → w ∣ u → Same H H' → Q (.int (w : Int)) H'
section
variable {P : Program} {w : World} {K : PySem.W.Frag} {mg : Str → Option Value} {base : Heap} {f f1 f2 f3 C : Addr} {fd fd1 fd2 fd3 : FuncData}
theorem nats_len0 (l : List Nat) : (nats l).length = l.length := List.length_map _
theorem ok_leastG (F : Fun K "least_width" "least_width" s_least_width f fd)
    (G1 : FnOk P w K mg base CX0 1 f1 fd1 ["number"] spPrimesC) (b1 : Binds K fd1 ["number"] []) (k1 : PySem.W.keepIn K (.ref f1) = true) (m1 : mg "primes_of" = some (.ref f1))
    (G2 : FnOk P w K mg base CX0 2 f2 fd2 ["bits", "many"] spLow) (b2 : Binds K fd2 ["bits", "many"] []) (k2 : PySem.W.keepIn K (.ref f2) = true) (m2 : mg "low" = some (.ref f2)) :
    FnOk P w K mg base CX0 3 f fd ["pattern", "width"] spLeastG := by
  refine F.ok scLeastW (fun vs H Q E h => ?_) (fun cdv A outer s H vs Q E hr h => ?_)
  · obtain ⟨x, u, rfl, _⟩ := h
    rfl
  obtain ⟨x, u, rfl, u1, u2, hx, q⟩ := h
  have r1 := hr.mono (by decide : 1 ≤ 2)
  refine ⟨_, pss_cons (ps_for PassesOwn.never rfl (pi_list (pe_call G1 r1 rfl m1 k1 b1 .nil pass0 (pa_cons (pv 1) pa_nil))) (pg_name (i := 2) scLeastW.nd rfl (Or.inl rfl))
      (pss_cons (ps_set (i := 3) scLeastW.nd rfl (Or.inl rfl) (pe_op op_fdiv (pv 1) (pv 2)))
      (pss_one (ps_while PassesOwn.never (PW.pt (pw_and (pt_cmpR op_eq (pe_op op_mod (pv 1) (pv 2)) pe_int (nomark _)) (pw_and1 (pt_cmpR op_eq (pe_op op_shrN (pv 0) (pv 3)) (pe_call G2 hr rfl m2 k2 b2 .nil pass0 (pa_cons (pv 0) (pa_cons (pe_op op_sub (pv 1) (pv 3)) pa_nil))) (nomark _)))))
        (pss_cons (ps_set (i := 0) scLeastW.nd rfl (Or.inl rfl) (pe_call G2 hr rfl m2 k2 b2 .nil pass0 (pa_cons (pv 0) (pa_cons (pv 3) pa_nil))))
        (pss_cons (ps_set (i := 1) scLeastW.nd rfl (Or.inl rfl) (pv 3))
        (pss_one (ps_set (i := 3) scLeastW.nd rfl (Or.inl rfl) (pe_op op_fdiv (pv 1) (pv 2))))))))))
    (pss_one (ps_ret (pv 1))), ?_⟩
  refine ⟨_, rfl, u, rfl, u1, u2, fun qs D H1 two cov few s1 hD => ?_⟩
  refine ⟨D, rfl, ⟨_, SqL.of hD⟩, for_list (K := K) (a := D) (xs := nats qs) (fun i σ H' => Same H H' ∧ H' D = some (.lst (nats qs)) ∧ ∃ (v : Nat) (a b : Option V), σ = [some (.int ((x % 2 ^ v : Nat) : Int)), some (.int (v : Int)), a, b] ∧ 0 < v ∧ v ∣ u ∧ Mk.Sh (Mk.rep x u) v ∧ ∀ q ∈ qs.take i, ¬ (q ∣ v ∧ Mk.Sh (Mk.rep x u) (v / q)))
    ⟨s1, hD, u, _, _, by rw [Nat.mod_eq_of_lt hx]; rfl, u1, Nat.dvd_refl _, Mk.rep_sh x u, by simp⟩ (fun _ _ _ _ h => SqL.of h.2.1) ?_ ?_⟩
  · rintro i y σ H2 hy ⟨s2, hD2, v, a, b, rfl, v0, vu, sv, no⟩
    obtain ⟨p, hp, rfl⟩ := List.mem_map.mp (List.mem_of_getElem? hy)
    have hp2 : qs[i]? = some p := by
      unfold nats at hy
      rw [List.getElem?_map] at hy
      obtain ⟨p', h1, h2⟩ := Option.map_eq_some_iff.mp hy
      have := V.int.inj h2
      rw [h1]
      exact congrArg some (by omega)
    obtain ⟨p2, pu⟩ := two p hp
    have vle := Nat.le_of_dvd u1 vu
    refine ⟨_, rfl, _, rfl, _, _, rfl, rfl, ⟨by omega, by omega⟩, ?_⟩
    have ed : ∀ z : Nat, (z : Int) / (p : Int) = ((z / p : Nat) : Int) := fun z => (Int.natCast_ediv _ _).symm
    dsimp only
    rw [ed]
    refine ⟨fun m σ H' => Same H H' ∧ H' D = some (.lst (nats qs)) ∧ ∃ v : Nat, σ = [some (.int ((x % 2 ^ v : Nat) : Int)), some (.int (v : Int)), some (.int (p : Int)), some (.int ((v / p : Nat) : Int))] ∧ 0 < v ∧ v ∣ u ∧ Mk.Sh (Mk.rep x u) v ∧ (∀ q ∈ qs.take i, ¬ (q ∣ v ∧ Mk.Sh (Mk.rep x u) (v / q))) ∧ v = m, ⟨v, s2, hD2, v, rfl, v0, vu, sv, no, rfl⟩, ?_⟩
    clear s2 hD2 v0 vu sv no vle
    rintro m σ H3 ⟨s3, hD3, v, rfl, v0, vu, sv, no, rfl⟩
    have vle := Nat.le_of_dvd u1 vu
    refine ⟨_, rfl, _, rfl, _, _, rfl, rfl, (by omega), rfl, _, rfl, ?_⟩
    have em : (v : Int) % (p : Int) = ((v % p : Nat) : Int) := (Int.natCast_emod _ _).symm
    have out : ¬ (p ∣ v ∧ Mk.Sh (Mk.rep x u) (v / p)) → ∀ q ∈ qs.take (i + 1), ¬ (q ∣ v ∧ Mk.Sh (Mk.rep x u) (v / q)) := fun n q hq => by
      rw [List.take_succ, hp2] at hq
      rcases List.mem_append.mp hq with z | z
      · exact no q z
      · have e : q = p := by simpa using z
        rw [e]
        exact n
    refine ite2 (fun c => ?_) (fun c => ?_)
    · have c4 : p ∣ v := by
        have := V.int.inj (of_decide_eq_true c)
        rw [em] at this
        exact Nat.dvd_of_mod_eq_zero (by omega)
      have lt : v / p < v := Nat.div_lt_self v0 (by omega)
      have sp : 0 < v / p := Nat.div_pos (Nat.le_of_dvd v0 c4) (by omega)
      have sd : v / p ∣ v := Nat.div_dvd_of_dvd c4
      refine ⟨_, rfl, _, rfl, _, _, rfl, rfl, ?_⟩
      refine ⟨_, rfl, _, rfl, _, rfl, _, _, rfl, rfl, x % 2 ^ v, v - v / p, ?_, Nat.le_trans (Nat.sub_le _ _) (by omega), rfl, _, rfl, ?_⟩
      · show [V.int _, V.int ((v : Int) - ((v / p : Nat) : Int))] = _
        rw [show (v : Int) - ((v / p : Nat) : Int) = ((v - v / p : Nat) : Int) by omega]
      · rw [Mk.div_ct]
        have lt2 : x % 2 ^ v < 2 ^ v := Nat.mod_lt _ (Nat.two_pow_pos _)
        have iff1 := Mk.sh_iff lt2 sp sd v0
        have same : Mk.rep x u = Mk.rep (x % 2 ^ v) v := funext fun n => Mk.rep_low sv v0 vle n
        rw [← same] at iff1
        refine ite2 (fun d => ?_) (fun d => ?_)
        · have sh2 := iff1.mp (by have := V.int.inj (of_decide_eq_true d); omega)
          refine ⟨fun σ H' => Same H H' ∧ H' D = some (.lst (nats qs)) ∧ ∃ v' : Nat, σ = [some (.int ((x % 2 ^ v' : Nat) : Int)), some (.int (v' : Int)), some (.int (p : Int)), some (.int ((v' / p : Nat) : Int))] ∧ 0 < v' ∧ v' ∣ u ∧ Mk.Sh (Mk.rep x u) v' ∧ (∀ q ∈ qs.take i, ¬ (q ∣ v' ∧ Mk.Sh (Mk.rep x u) (v' / q))) ∧ v' < v, ?_, ?_⟩
          · rintro σ' H' ⟨a1, a2, v', a3, a4, a5, a6, a7, a8⟩
            exact ⟨v', a8, a1, a2, v', a3, a4, a5, a6, a7, rfl⟩
          · refine ⟨_, rfl, _, rfl, x % 2 ^ v, v / p, rfl, by omega, ?_⟩
            refine ⟨_, rfl, _, rfl, _, rfl, _, _, rfl, rfl, ⟨by omega, by omega⟩, ?_⟩
            dsimp only
            rw [ed]
            refine ⟨s3, hD3, v / p, ?_, sp, Nat.dvd_trans sd vu, sh2, fun q hq => Mk.no_more (two q (List.mem_of_mem_take hq)).1 sd (no q hq), lt⟩
            have e : x % 2 ^ v % 2 ^ (v / p) = x % 2 ^ (v / p) := Nat.mod_mod_of_dvd x (Nat.pow_dvd_pow 2 (Nat.le_of_lt lt))
            rw [e]
            rfl
        · refine ⟨s3, hD3, v, _, _, rfl, v0, vu, sv, out fun ⟨_, z⟩ => d (decide_eq_true (congrArg V.int ?_))⟩
          have := iff1.mpr z
          rw [this]
    · refine ⟨s3, hD3, v, _, _, rfl, v0, vu, sv, out fun ⟨z, _⟩ => c ?_⟩
      show decide (V.int ((v : Int) % (p : Int)) = V.int 0) = true
      rw [em, Nat.mod_eq_zero_of_dvd z]
      exact decide_eq_true rfl
  · rintro σ H2 ⟨s2, hD2, v, a, b, rfl, v0, vu, sv, no⟩
    have ll : (nats qs).length = qs.length := nats_len0 qs
    rw [ll, List.take_length] at no
    exact ⟨_, rfl, q v H2 (Mk.least_of v0 vu sv cov (fun q hq => (two q hq).1) no) vu s2⟩
end
end Wp

namespace Mk
/-- a set that may be asked -/
structure Kept.Fit (s : Kept) : Prop where
  w0 : 0 < s.w
  w1 : s.w ≤ 5000
  cy : s.cy < 2 ^ s.w
  st : len s.st ≤ 10000
theorem Kept.Fit.lt {s : Kept} (h : s.Fit) {m : Nat} (hm : len s.st ≤ m) : s.st < 2 ^ m := Nat.lt_of_lt_of_le (lt_len s.st) (Nat.pow_le_pow_right (by decide) hm)
/-- the members from lo on, so many places -/
def Kept.from (s : Kept) (lo many : Nat) : List Nat := (List.range many).filter fun i => s.mem (lo + i)
theorem log2_le {n m : Nat} (h : n < 2 ^ m) : n.log2 ≤ m := by
  by_cases z : n = 0
  · subst z
    exact Nat.zero_le _
  · have := (Nat.log2_lt z).mpr h
    omega
theorem pos_below {x m : Nat} {f : Nat → Bool} (h : ∀ n, x.testBit n = (decide (n < m) && f n)) : pos x = (List.range m).filter f ∧ x < 2 ^ m := by
  have lt : x < 2 ^ m := Nat.lt_pow_two_of_testBit x fun i hi => by rw [h i, decide_eq_false (by omega)]; rfl
  refine ⟨?_, lt⟩
  rw [pos_upto x lt]
  refine List.filter_congr fun n hn => ?_
  rw [h n, decide_eq_true (List.mem_range.mp hn), Bool.true_and]
end Mk
namespace Wp
open PySem PySem.Spec PyProof.Rows L2 Hx
def spBitsB (C : Addr) : Sp := fun vs H Q _ => ∃ (a : Addr) (s : Mk.Kept) (many : Nat), vs = [.ref a, .int (many : Int)] ∧ PlAt C H a s ∧ s.Fit ∧ Mk.len s.st ≤ many ∧ many ≤ 20000 ∧ ∀ x : Nat, (∀ n, x.testBit n = (decide (n < many) && s.mem n)) → Q (.int (x : Int)) H
def spStart (C : Addr) : Sp := fun vs H Q _ => ∃ (a : Addr) (s : Mk.Kept), vs = [.ref a] ∧ PlAt C H a s ∧ Q (.int (Mk.len s.st : Int)) H
def spPeriod (C : Addr) : Sp := fun vs H Q _ => ∃ (a : Addr) (s : Mk.Kept), vs = [.ref a] ∧ PlAt C H a s ∧ Q (.int (s.w : Int)) H
def spBelowP (C : Addr) : Sp := fun vs H Q _ => ∃ (a : Addr) (s : Mk.Kept), vs = [.ref a] ∧ PlAt C H a s ∧ s.Fit ∧ ∀ p H', Same H H' → H' p = some (.tup (nats (s.from 0 (Mk.len s.st)))) → Q (.ref p) H'
def spRestsP (C : Addr) : Sp := fun vs H Q _ => ∃ (a : Addr) (s : Mk.Kept), vs = [.ref a] ∧ PlAt C H a s ∧ s.Fit ∧ ∀ p H', Same H H' → H' p = some (.tup (nats (s.from (Mk.len s.st) s.w))) → Q (.ref p) H'
/-- the least member, of those below many -/
def spLeastP (C : Addr) : Sp := fun vs H Q _ => ∃ (a : Addr) (s : Mk.Kept), vs = [.ref a] ∧ PlAt C H a s ∧ s.Fit ∧ (((∀ n, n < Mk.len s.st + s.w → s.mem n = false) ∧ Q .non H) ∨ ∃ k, k < Mk.len s.st + s.w ∧ s.mem k = true ∧ (∀ n, n < k → s.mem n = false) ∧ Q (.int (k : Int)) H)
def spFinite (C : Addr) : Sp := fun vs H Q _ => ∃ (a : Addr) (s : Mk.Kept), vs = [.ref a] ∧ PlAt C H a s ∧ Q (.bl (decide (s.cy = 0))) H
def spHas (C : Addr) : Sp := fun vs H Q _ => ∃ (a : Addr) (s : Mk.Kept) (n : Nat), vs = [.ref a, .int (n : Int)] ∧ PlAt C H a s ∧ s.Fit ∧ Q (.bl (s.mem n)) H
def spTruth (C : Addr) : Sp := fun vs H Q _ => ∃ (a : Addr) (s : Mk.Kept), vs = [.ref a] ∧ PlAt C H a s ∧ Q (.bl (decide (s.cy ||| s.st ≠ 0))) H
/-- a property of the class -/
def PropD (P : Program) (w : World) (K : PySem.W.Frag) (mg : Str → Option Value) (base : Heap) (C : Addr) (k : Nat) (m : Str) (sp : Sp) : Prop := ∃ (p g : Addr) (fd : FuncData), PropOf K C m p g ∧ FnOk P w K mg base CX0 k g fd ["self"] sp ∧ Binds K fd ["self"] []
section
variable {P : Program} {w : World} {K : PySem.W.Frag} {mg : Str → Option Value} {base : Heap} {f f1 f2 f3 C : Addr} {fd fd1 fd2 fd3 : FuncData}
theorem scBitsB : FnScope ["places", "many"] ["places", "many"] (defScope s_bits_below) := ⟨rfl, rfl, rfl, by decide +kernel, rfl, by decide +kernel, by decide +kernel⟩
theorem ok_bitsB (F : Fun K "bits_below" "bits_below" s_bits_below f fd) (R : Pd K mg C)
    (G3 : FnOk P w K mg base CX0 3 f3 fd3 ["pattern", "width", "many"] spTiled) (b3 : Binds K fd3 ["pattern", "width", "many"] []) (k3 : PySem.W.keepIn K (.ref f3) = true) (m3 : mg "tiled" = some (.ref f3)) :
    FnOk P w K mg base CX0 4 f fd ["places", "many"] (spBitsB C) := by
  refine F.ok scBitsB (fun vs H Q E h => ?_) (fun cdv A outer s H vs Q E hr h => ?_)
  · obtain ⟨a, s, m, rfl, _⟩ := h
    rfl
  obtain ⟨a, s, many, rfl, ⟨dx, ha⟩, fit, l1, l2, q⟩ := h
  refine ⟨_, pss_one (ps_ret (pe_op op_xor (pe_call G3 hr rfl m3 k3 b3 .nil pass0 (pa_cons (pe_fld (pv 0) rfl) (pa_cons (pe_fld (pv 0) rfl) (pa_cons (pv 1) pa_nil)))) (pe_fld (pv 0) rfl))), ?_⟩
  refine ⟨_, rfl, a, C, dx, _, _, rfl, ha, R.cl, R.nC, rfl, _, rfl, a, C, dx, _, _, rfl, ha, R.cl, R.nW, rfl, _, rfl, s.cy, s.w, many, rfl, fit.w0, fit.w1, fit.cy, l2, fun x T => ?_⟩
  refine ⟨_, rfl, a, C, dx, _, _, rfl, ha, R.cl, R.nS, rfl, _, _, rfl, rfl, ?_⟩
  dsimp only
  rw [Mk.bxor]
  exact q _ (Mk.below_bits T (fit.lt l1))
theorem scStart : FnScope ["self"] ["self"] (defScope s_Places_start) := ⟨rfl, rfl, rfl, by decide +kernel, rfl, by decide +kernel, by decide +kernel⟩
theorem ok_start (F : Fun K "start" "Places.start" s_Places_start f fd) (R : Pd K mg C) : FnOk P w K mg base CX0 1 f fd ["self"] (spStart C) := by
  refine F.ok scStart (fun vs H Q E h => ?_) (fun cdv A outer s H vs Q E hr h => ?_)
  · obtain ⟨a, s, rfl, _⟩ := h
    rfl
  obtain ⟨a, s, rfl, ⟨dx, ha⟩, q⟩ := h
  exact ⟨_, pss_one (ps_ret (pe_bits (pe_fld (pv 0) rfl))), _, rfl, a, C, dx, _, _, rfl, ha, R.cl, R.nS, rfl, _, rfl, q⟩
theorem scPeriod : FnScope ["self"] ["self"] (defScope s_Places_period) := ⟨rfl, rfl, rfl, by decide +kernel, rfl, by decide +kernel, by decide +kernel⟩
theorem ok_period (F : Fun K "period" "Places.period" s_Places_period f fd) (R : Pd K mg C) : FnOk P w K mg base CX0 1 f fd ["self"] (spPeriod C) := by
  refine F.ok scPeriod (fun vs H Q E h => ?_) (fun cdv A outer s H vs Q E hr h => ?_)
  · obtain ⟨a, s, rfl, _⟩ := h
    rfl
  obtain ⟨a, s, rfl, ⟨dx, ha⟩, q⟩ := h
  exact ⟨_, pss_one (ps_ret (pe_fld (pv 0) rfl)), _, rfl, a, C, dx, _, _, rfl, ha, R.cl, R.nW, rfl, q⟩
theorem scFinite : FnScope ["self"] ["self"] (defScope s_Places_is_finite) := ⟨rfl, rfl, rfl, by decide +kernel, rfl, by decide +kernel, by decide +kernel⟩
theorem ok_finite (F : Fun K "is_finite" "Places.is_finite" s_Places_is_finite f fd) (R : Pd K mg C) : FnOk P w K mg base CX0 1 f fd ["self"] (spFinite C) := by
  refine F.ok scFinite (fun vs H Q E h => ?_) (fun cdv A outer s H vs Q E hr h => ?_)
  · obtain ⟨a, s, rfl, _⟩ := h
    rfl
  obtain ⟨a, s, rfl, ⟨dx, ha⟩, q⟩ := h
  refine ⟨_, pss_one (ps_ret (pe_cmpR op_eq (pe_fld (pv 0) rfl) pe_int (nomark _))), _, rfl, a, C, dx, _, _, rfl, ha, R.cl, R.nC, rfl, rfl, ?_⟩
  have e : decide (V.int (s.cy : Int) = V.int 0) = decide (s.cy = 0) := by
    rw [decide_eq_decide]
    exact ⟨fun z => by have := V.int.inj z; omega, fun z => by rw [z]; rfl⟩
  rw [e]
  exact q
theorem scBelowP : FnScope ["self"] ["self"] (defScope s_Places_below) := ⟨rfl, rfl, rfl, by decide +kernel, rfl, by decide +kernel, by decide +kernel⟩
theorem nats_len (l : List Nat) : (nats l).length = l.length := List.length_map _
theorem from_len (s : Mk.Kept) (lo many : Nat) : (s.from lo many).length ≤ many := by
  unfold Mk.Kept.from
  exact Nat.le_trans (List.length_filter_le _ _) (by rw [List.length_range]; exact Nat.le_refl _)
theorem ok_below (F : Fun K "below" "Places.below" s_Places_below f fd) (R : Pd K mg C) (Z : Bp mg) (S : PropD P w K mg base C 1 "start" (spStart C))
    (G1 : FnOk P w K mg base CX0 1 f1 fd1 ["bits"] spPositions) (b1 : Binds K fd1 ["bits"] []) (k1 : PySem.W.keepIn K (.ref f1) = true) (m1 : mg "positions" = some (.ref f1))
    (G2 : FnOk P w K mg base CX0 4 f2 fd2 ["places", "many"] (spBitsB C)) (b2 : Binds K fd2 ["places", "many"] []) (k2 : PySem.W.keepIn K (.ref f2) = true) (m2 : mg "bits_below" = some (.ref f2)) :
    FnOk P w K mg base CX0 5 f fd ["self"] (spBelowP C) := by
  refine F.ok scBelowP (fun vs H Q E h => ?_) (fun cdv A outer s H vs Q E hr h => ?_)
  · obtain ⟨a, s, rfl, _⟩ := h
    rfl
  obtain ⟨a, s, rfl, ⟨dx, ha⟩, fit, q⟩ := h
  obtain ⟨p0, g0, fd0, po, GS, bS⟩ := S
  have r1 := hr.mono (by decide : 1 ≤ 4)
  have r2 := hr.mono (by decide : 2 ≤ 4)
  refine ⟨_, pss_one (ps_ret (pe_callTy call_tuple_of (by rfl) Z.tuple (by decide +kernel) (pa_cons (pe_call G1 r1 rfl m1 k1 b1 .nil pass0 (pa_cons (pe_call G2 hr rfl m2 k2 b2 .nil pass0 (pa_cons (pv 0) (pa_cons (pe_prop (pv 0) R.cl po GS r2 bS .nil pass0 rfl) pa_nil))) pa_nil)) pa_nil))), ?_⟩
  have fst := fit.st
  refine ⟨_, rfl, _, rfl, a, dx, _, rfl, ha, a, s, rfl, ⟨dx, ha⟩, a, s, Mk.len s.st, rfl, ⟨dx, ha⟩, fit, Nat.le_refl _, by omega, fun x hx => ?_⟩
  obtain ⟨e, lt⟩ := Mk.pos_below hx
  have l2 := Mk.log2_le lt
  refine ⟨x, rfl, by omega, fun D H1 s1 hD => ⟨D, _, rfl, .inl ⟨SqL.of hD, fun l hl => ?_⟩⟩⟩
  refine q l _ (s1.trans (same_new hl _)) ?_
  rw [upd_same, e]
  unfold Mk.Kept.from
  simp only [Nat.zero_add]
theorem scRestsP : FnScope ["self", "start"] ["self"] (defScope s_Places_rests) := ⟨rfl, rfl, rfl, by decide +kernel, rfl, by decide +kernel, by decide +kernel⟩
theorem ok_rests (F : Fun K "rests" "Places.rests" s_Places_rests f fd) (R : Pd K mg C) (Z : Bp mg) (S : PropD P w K mg base C 1 "start" (spStart C))
    (G1 : FnOk P w K mg base CX0 1 f1 fd1 ["bits"] spPositions) (b1 : Binds K fd1 ["bits"] []) (k1 : PySem.W.keepIn K (.ref f1) = true) (m1 : mg "positions" = some (.ref f1))
    (G2 : FnOk P w K mg base CX0 4 f2 fd2 ["places", "many"] (spBitsB C)) (b2 : Binds K fd2 ["places", "many"] []) (k2 : PySem.W.keepIn K (.ref f2) = true) (m2 : mg "bits_below" = some (.ref f2)) :
    FnOk P w K mg base CX0 5 f fd ["self"] (spRestsP C) := by
  refine F.ok scRestsP (fun vs H Q E h => ?_) (fun cdv A outer s H vs Q E hr h => ?_)
  · obtain ⟨a, s, rfl, _⟩ := h
    rfl
  obtain ⟨a, s, rfl, ⟨dx, ha⟩, fit, q⟩ := h
  obtain ⟨p0, g0, fd0, po, GS, bS⟩ := S
  have r1 := hr.mono (by decide : 1 ≤ 4)
  have r2 := hr.mono (by decide : 2 ≤ 4)
  refine ⟨_, pss_cons (ps_set (i := 1) scRestsP.nd rfl (Or.inl rfl) (pe_prop (pv 0) R.cl po GS r2 bS .nil pass0 rfl))
    (pss_one (ps_ret (pe_callTy call_tuple_of (by rfl) Z.tuple (by decide +kernel) (pa_cons (pe_call G1 r1 rfl m1 k1 b1 .nil pass0 (pa_cons (pe_op op_shrN (pe_call G2 hr rfl m2 k2 b2 .nil pass0 (pa_cons (pv 0) (pa_cons (pe_op op_add (pv 1) (pe_fld (pv 0) rfl)) pa_nil))) (pv 1)) pa_nil)) pa_nil)))), ?_⟩
  have fst := fit.st
  have fw := fit.w1
  refine ⟨_, rfl, a, dx, _, rfl, ha, a, s, rfl, ⟨dx, ha⟩, ?_⟩
  refine ⟨_, rfl, _, rfl, _, rfl, a, C, dx, _, _, rfl, ha, R.cl, R.nW, rfl, _, _, rfl, rfl, a, s, Mk.len s.st + s.w, ?_, ⟨dx, ha⟩, fit, by omega, by omega, fun x hx => ?_⟩
  · show [V.ref a, V.int ((Mk.len s.st : Int) + (s.w : Int))] = _
    rw [Int.natCast_add]
  have hy : ∀ n, (x / 2 ^ Mk.len s.st).testBit n = (decide (n < s.w) && s.mem (Mk.len s.st + n)) := fun n => by
    rw [Nat.testBit_div_two_pow, hx, Nat.add_comm n]
    by_cases c : n < s.w
    · rw [decide_eq_true c, decide_eq_true (by omega)]
    · rw [decide_eq_false c, decide_eq_false (by omega), Bool.false_and]
  obtain ⟨e, lt⟩ := Mk.pos_below hy
  have l2 := Mk.log2_le lt
  refine ⟨_, rfl, (x : Int), Mk.len s.st, rfl, rfl, x / 2 ^ Mk.len s.st, ?_, by omega, fun D H1 s1 hD => ⟨D, _, rfl, .inl ⟨SqL.of hD, fun l hl => ?_⟩⟩⟩
  · rw [Mk.div_ct]
    rfl
  refine q l _ (s1.trans (same_new hl _)) ?_
  rw [upd_same, e]
  rfl
theorem scLeastP : FnScope ["self", "bits"] ["self"] (defScope s_Places_least) := ⟨rfl, rfl, rfl, by decide +kernel, rfl, by decide +kernel, by decide +kernel⟩
theorem ok_leastP (F : Fun K "least" "Places.least" s_Places_least f fd) (R : Pd K mg C) (S : PropD P w K mg base C 1 "start" (spStart C))
    (G2 : FnOk P w K mg base CX0 4 f2 fd2 ["places", "many"] (spBitsB C)) (b2 : Binds K fd2 ["places", "many"] []) (k2 : PySem.W.keepIn K (.ref f2) = true) (m2 : mg "bits_below" = some (.ref f2)) :
    FnOk P w K mg base CX0 5 f fd ["self"] (spLeastP C) := by
  refine F.ok scLeastP (fun vs H Q E h => ?_) (fun cdv A outer s H vs Q E hr h => ?_)
  · obtain ⟨a, s, rfl, _⟩ := h
    rfl
  obtain ⟨a, s, rfl, ⟨dx, ha⟩, fit, q⟩ := h
  obtain ⟨p0, g0, fd0, po, GS, bS⟩ := S
  have r2 := hr.mono (by decide : 2 ≤ 4)
  refine ⟨_, pss_cons (ps_set (i := 1) scLeastP.nd rfl (Or.inl rfl) (pe_call G2 hr rfl m2 k2 b2 .nil pass0 (pa_cons (pv 0) (pa_cons (pe_op op_add (pe_prop (pv 0) R.cl po GS r2 bS .nil pass0 rfl) (pe_fld (pv 0) rfl)) pa_nil))))
    (pss_one (ps_ret (pe_ifExp (pt_truth (pv 1) (fun _ => rfl)) (pe_op op_sub (pe_bits (pe_op op_and (pv 1) (pe_un un_neg (pv 1)))) pe_int) pe_non))), ?_⟩
  have fst := fit.st
  have fw := fit.w1
  refine ⟨_, rfl, _, rfl, a, dx, _, rfl, ha, a, s, rfl, ⟨dx, ha⟩, _, rfl, a, C, dx, _, _, rfl, ha, R.cl, R.nW, rfl, _, _, rfl, rfl, a, s, Mk.len s.st + s.w, ?_, ⟨dx, ha⟩, fit, by omega, by omega, fun x hx => ?_⟩
  · show [V.ref a, V.int ((Mk.len s.st : Int) + (s.w : Int))] = _
    rw [Int.natCast_add]
  rcases q with ⟨no, q⟩ | ⟨k, lt, yes, no, q⟩
  · have x0 : x = 0 := Mk.eq_zero_of fun n => by
      rw [hx n]
      by_cases c : n < Mk.len s.st + s.w
      · rw [no n c, Bool.and_false]
      · rw [decide_eq_false c, Bool.false_and]
    subst x0
    exact ⟨_, rfl, false, rfl, iteF q⟩
  · have b1 : x.testBit k = true := by rw [hx k, decide_eq_true lt, yes]; rfl
    have b2 : ∀ n, n < k → x.testBit n = false := fun n hn => by rw [hx n, no n hn, Bool.and_false]
    have lb := Mk.low_bit b1 b2
    have xn : x ≠ 0 := fun z => by
      rw [z] at b1
      simp at b1
    have tr : ((x : Int) != 0) = true := by
      simp [xn]
    refine ⟨_, rfl, _, rfl, ?_⟩
    rw [tr]
    refine iteT ⟨_, rfl, _, rfl, _, rfl, _, _, rfl, rfl, _, rfl, ?_⟩
    dsimp only
    rw [lb]
    have e : Builtin.Int.intBits ((2 ^ k : Nat) : Int) = k + 1 := Mk.len_of (n := 2 ^ k) (m := k) (by rw [Nat.testBit_two_pow]; exact decide_eq_true rfl) fun i hi => by
      rw [Nat.testBit_two_pow]
      exact decide_eq_false (by omega)
    rw [e]
    refine ⟨_, _, rfl, rfl, ?_⟩
    show Q (.int (((k + 1 : Nat) : Int) - 1)) H
    rw [show ((k + 1 : Nat) : Int) - 1 = (k : Int) by omega]
    exact q
theorem scHas : FnScope ["self", "n", "bits"] ["self", "n"] (defScope s_Places_contains) := ⟨rfl, rfl, rfl, by decide +kernel, rfl, by decide +kernel, by decide +kernel⟩
def spIsIntN : Sp := fun vs H Q _ => ∃ i : Int, vs = [.int i] ∧ Q (.bl true) H
theorem ok_has (F : Fun K "__contains__" "Places.__contains__" s_Places_contains f fd) (R : Pd K mg C)
    (G1 : FnOk P w K mg base CX0 1 f1 fd1 ["value"] spIsIntN) (b1 : Binds K fd1 ["value"] []) (k1 : PySem.W.keepIn K (.ref f1) = true) (m1 : mg "is_integer" = some (.ref f1)) :
    FnOk P w K mg base CX0 2 f fd ["self", "n"] (spHas C) := by
  refine F.ok scHas (fun vs H Q E h => ?_) (fun cdv A outer s H vs Q E hr h => ?_)
  · obtain ⟨a, s, n, rfl, _⟩ := h
    rfl
  obtain ⟨a, s, n, rfl, ⟨dx, ha⟩, fit, q⟩ := h
  refine ⟨_, pss_cons (ps_if (PW.pt (pw_or (pt_not (pt_val (pe_call G1 hr rfl m1 k1 b1 .nil pass0 (pa_cons (pv 1) pa_nil)))) (pw_or1 (pt_cmpR op_lt (pv 1) pe_int (nomark _))))) (pss_one (ps_ret pe_bl)) pss_nil)
    (pss_cons (ps_set (i := 2) scHas.nd rfl (Or.inl rfl) (pe_op op_shrN (pe_fld (pv 0) rfl) (pe_op op_mod (pv 1) (pe_fld (pv 0) rfl))))
    (pss_cons (ps_if (pt_cmpR op_lt (pv 1) (pe_bits (pe_fld (pv 0) rfl)) (nomark _)) (pss_one (ps_set (i := 2) scHas.nd rfl (Or.inl rfl) (pe_op op_xor (pv 2) (pe_op op_shrN (pe_fld (pv 0) rfl) (pv 1))))) pss_nil)
    (pss_one (ps_ret (pe_cmpR op_eq (pe_op op_and (pv 2) pe_int) pe_int (nomark _)))))), ?_⟩
  refine ⟨_, rfl, n, rfl, _, rfl, iteF ⟨_, rfl, _, _, rfl, rfl, _, rfl, ?_⟩⟩
  rw [decide_eq_false (by omega)]
  refine iteF ?_
  have w0 := fit.w0
  have em : (n : Int) % (s.w : Int) = ((n % s.w : Nat) : Int) := (Int.natCast_emod _ _).symm
  refine ⟨_, rfl, a, C, dx, _, _, rfl, ha, R.cl, R.nC, rfl, _, rfl, _, rfl, a, C, dx, _, _, rfl, ha, R.cl, R.nW, rfl, _, _, rfl, rfl, (by omega), ?_⟩
  dsimp only
  rw [em]
  refine ⟨_, _, rfl, rfl, ?_⟩
  rw [Mk.div_ct]
  have fin : ∀ y : Nat, y.testBit 0 = s.mem n → ∀ H', H = H' → tRet (tOp rEq (tOp (rI0 fun i j => V.int (Builtin.bitAnd i j)) (tVar 2) (tC (V.int 1))) (tC (V.int 1))) { nx := fun x H' => Q V.non H', rt := Q } [some (V.ref a), some (V.int (n : Int)), some (V.int (y : Int))] H' := by
    rintro y hy _ rfl
    refine ⟨_, rfl, _, _, rfl, rfl, rfl, ?_⟩
    have e1 : Builtin.bitAnd (y : Int) 1 = ((y &&& 1 : Nat) : Int) := Mk.band y 1
    have e2 : decide (V.int (Builtin.bitAnd (y : Int) 1) = V.int 1) = y.testBit 0 := by
      rw [e1, Nat.testBit_zero, Nat.and_one_is_mod, decide_eq_decide]
      exact ⟨fun z => by have := V.int.inj z; omega, fun z => by rw [z]; rfl⟩
    show Q (.bl (decide (V.int (Builtin.bitAnd (y : Int) 1) = V.int 1))) H
    rw [e2, hy]
    exact q
  refine ⟨_, rfl, _, rfl, a, C, dx, _, _, rfl, ha, R.cl, R.nS, rfl, _, rfl, _, _, rfl, rfl, _, rfl, ?_⟩
  refine ite2 (fun c => ?_) (fun c => ?_)
  · refine ⟨_, rfl, _, rfl, a, C, dx, _, _, rfl, ha, R.cl, R.nS, rfl, _, rfl, _, n, rfl, rfl, _, _, rfl, rfl, ?_⟩
    dsimp only
    rw [Mk.div_ct, Mk.bxor]
    refine fin _ ?_ _ rfl
    rw [Nat.testBit_xor, Nat.testBit_div_two_pow, Nat.testBit_div_two_pow, Nat.zero_add, Nat.zero_add]
    rfl
  · refine fin _ ?_ _ rfl
    have out : s.st.testBit n = false := Mk.bit_out (by
      have : ¬ (n : Int) < (Builtin.Int.intBits (s.st : Int) : Nat) := fun z => c (decide_eq_true z)
      unfold Mk.len
      omega)
    rw [Nat.testBit_div_two_pow, Nat.zero_add]
    show _ = Bool.xor (s.cy.testBit (n % s.w)) (s.st.testBit n)
    rw [out, Bool.xor_false]
theorem scTruth : FnScope ["self"] ["self"] (defScope s_Places_bool) := ⟨rfl, rfl, rfl, by decide +kernel, rfl, by decide +kernel, by decide +kernel⟩
theorem ok_truthP (F : Fun K "__bool__" "Places.__bool__" s_Places_bool f fd) (R : Pd K mg C) (Z : Bp mg) : FnOk P w K mg base CX0 1 f fd ["self"] (spTruth C) := by
  refine F.ok scTruth (fun vs H Q E h => ?_) (fun cdv A outer s H vs Q E hr h => ?_)
  · obtain ⟨a, s, rfl, _⟩ := h
    rfl
  obtain ⟨a, s, rfl, ⟨dx, ha⟩, q⟩ := h
  refine ⟨_, pss_one (ps_ret (pe_callTy call_bool1 (by rfl) Z.bool (by decide +kernel) (pa_cons (pe_op op_or (pe_fld (pv 0) rfl) (pe_fld (pv 0) rfl)) pa_nil))), ?_⟩
  refine ⟨_, rfl, a, C, dx, _, _, rfl, ha, R.cl, R.nC, rfl, _, rfl, a, C, dx, _, _, rfl, ha, R.cl, R.nS, rfl, _, _, rfl, rfl, .inl ⟨_, rfl, ?_⟩⟩
  rw [Mk.bor]
  have e : (((s.cy ||| s.st : Nat) : Int) != 0) = decide (s.cy ||| s.st ≠ 0) := by
    by_cases z : s.cy ||| s.st = 0
    · rw [z]
      rfl
    · rw [decide_eq_true z]
      simp [z]
  rw [e]
  exact q
end
end Wp

namespace Hx
open PySem PySem.Spec PyProof.Rows L2
/-- the data of a key -/
def keyD : Key → PyData
  | .inl i => .int i
  | .inr x => .str x
mutual
/-- at v stands the data d, in objects that are tracked -/
inductive Dq (H : Hp) : V → PyData → Prop
  | non : Dq H .non .none
  | bl (b : Bool) : Dq H (.bl b) (.bool b)
  | int (i : Int) : Dq H (.int i) (.int i)
  | str (x : Str) : Dq H (.str x) (.str x)
  | lst {a : Addr} {xs : List V} {ds : List PyData} : H a = some (.lst xs) → DqAll H xs ds → Dq H (.ref a) (.list ds)
  | tup {a : Addr} {xs : List V} {ds : List PyData} : H a = some (.tup xs) → DqAll H xs ds → Dq H (.ref a) (.tuple ds)
  | dct {a : Addr} {ks : List (Key × V)} {es : List (PyData × PyData)} : H a = some (.dK ks) → DqKv H ks es → Dq H (.ref a) (.dict es)
inductive DqAll (H : Hp) : List V → List PyData → Prop
  | nil : DqAll H [] []
  | cons {v : V} {vs : List V} {d : PyData} {ds : List PyData} : Dq H v d → DqAll H vs ds → DqAll H (v :: vs) (d :: ds)
inductive DqKv (H : Hp) : List (Key × V) → List (PyData × PyData) → Prop
  | nil : DqKv H [] []
  | cons {k : Key} {v : V} {d : PyData} {r : List (Key × V)} {es : List (PyData × PyData)} : Dq H v d → DqKv H r es → DqKv H ((k, v) :: r) ((keyD k, d) :: es)
end
mutual
theorem Dq.same {H H' : Hp} (s : Same H H') : ∀ (d : PyData) (v : V), Dq H v d → Dq H' v d
  | .none, _, h => by cases h; exact .non
  | .bool b, _, h => by cases h; exact .bl b
  | .int i, _, h => by cases h; exact .int i
  | .str x, _, h => by cases h; exact .str x
  | .list ds, _, h => by cases h with | lst e r => exact .lst (s _ _ e) (DqAll.same s ds _ r)
  | .tuple ds, _, h => by cases h with | tup e r => exact .tup (s _ _ e) (DqAll.same s ds _ r)
  | .dict es, _, h => by cases h with | dct e r => exact .dct (s _ _ e) (DqKv.same s es _ r)
theorem DqAll.same {H H' : Hp} (s : Same H H') : ∀ (ds : List PyData) (vs : List V), DqAll H vs ds → DqAll H' vs ds
  | [], _, h => by cases h; exact .nil
  | d :: ds, _, h => by cases h with | cons e r => exact .cons (Dq.same s d _ e) (DqAll.same s ds _ r)
theorem DqKv.same {H H' : Hp} (s : Same H H') : ∀ (es : List (PyData × PyData)) (ks : List (Key × V)), DqKv H ks es → DqKv H' ks es
  | [], _, h => by cases h; exact .nil
  | (_, d) :: es, _, h => by cases h with | cons e r => exact .cons (Dq.same s d _ e) (DqKv.same s es _ r)
end
section
variable {X : Cx} {pins : List (Addr × Obj)} {σ : L2.St} {H : Hp} {s : Shared}
theorem reads_key {w : World} {P : Program} {h : Heap} {k : Key} {u : Value} (e : (mixKind P w).is k u = true) : Reads h u (keyD k) [] := by
  rw [mixKind_is] at e
  rcases keyIs_shape e with ⟨i, t, rfl, rfl⟩ | ⟨x, t, rfl, rfl⟩
  · exact .int i t
  · exact .str x t
mutual
theorem Dq.reads (I : Inv X pins σ H s) : ∀ (d : PyData) (v : V) (u : Value), Dq H v d → RelV v u → ∃ as, Reads s.heap u d as ∧ ∀ b ∈ as, ∃ o, H b = some o
  | .none, _, _, h, r => by
    cases h; cases r
    exact ⟨_, Reads.none, by simp⟩
  | .bool b, _, _, h, r => by
    cases h; cases r
    exact ⟨_, Reads.bool b, by simp⟩
  | .int i, _, _, h, r => by
    cases h; obtain ⟨t, rfl⟩ := r
    exact ⟨_, Reads.int i t, by simp⟩
  | .str x, _, _, h, r => by
    cases h; obtain ⟨t, rfl⟩ := r
    exact ⟨_, Reads.str x t, by simp⟩
  | .list ds, _, _, h, r => by
    cases h with
    | @lst a xs _ e ra =>
      cases r
      obtain ⟨_, its, n, rv, hg⟩ := (show ObjOk X.prog X.w H s.heap a (.lst xs) from I.hok a _ e)
      obtain ⟨as, hr, ha⟩ := DqAll.reads I ds _ its ra rv
      refine ⟨_, Reads.list hg rfl rfl hr, fun b hb => ?_⟩
      rcases List.mem_cons.mp hb with rfl | hb
      · exact ⟨_, e⟩
      · exact ha b hb
  | .tuple ds, _, _, h, r => by
    cases h with
    | @tup a xs _ e ra =>
      cases r
      obtain ⟨_, its, rv, o, hg, hc, n, hd⟩ := (show ObjOk X.prog X.w H s.heap a (.tup xs) from I.hok a _ e)
      obtain ⟨as, hr, ha⟩ := DqAll.reads I ds _ its ra rv
      exact ⟨_, Reads.tuple hg hc hd hr, ha⟩
  | .dict es, _, _, h, r => by
    cases h with
    | @dct a ks _ e ra =>
      cases r
      obtain ⟨_, _, vs, rk, o, des, ep, hg, hx, hd, _, hp, _⟩ := (show ObjOk X.prog X.w H s.heap a (.dK ks) from I.hok a _ e)
      obtain ⟨as, bs, h1, h2, h3⟩ := DqKv.reads I es ks vs _ ra rk hp
      refine ⟨_, Reads.dict hg hx.1 hd h1 h2, fun b hb => ?_⟩
      rcases List.mem_append.mp hb with hb | hb
      · rcases List.mem_cons.mp hb with rfl | hb
        · exact ⟨_, e⟩
        · exact h3 b (List.mem_append_left _ hb)
      · exact h3 b (List.mem_append_right _ hb)
theorem DqAll.reads (I : Inv X pins σ H s) : ∀ (ds : List PyData) (vs : List V) (us : List Value), DqAll H vs ds → Vals vs us → ∃ as, ReadsAll s.heap us ds as ∧ ∀ b ∈ as, ∃ o, H b = some o
  | [], _, _, h, r => by
    cases h; cases r
    exact ⟨_, ReadsAll.nil, by simp⟩
  | d :: ds, _, _, h, r => by
    cases h with
    | cons h1 h2 =>
      cases r with
      | cons r1 r2 =>
        obtain ⟨as, q1, m1⟩ := Dq.reads I d _ _ h1 r1
        obtain ⟨bs, q2, m2⟩ := DqAll.reads I ds _ _ h2 r2
        exact ⟨_, ReadsAll.cons q1 q2, fun b hb => (List.mem_append.mp hb).elim (m1 b) (m2 b)⟩
theorem DqKv.reads (I : Inv X pins σ H s) : ∀ (es : List (PyData × PyData)) (ks : List (Key × V)) (vs : List (Key × Value)) (des : List DictEntry), DqKv H ks es → KV ks vs → Pairs (mixKind X.prog X.w) des vs →
    ∃ as bs, ReadsAll s.heap (des.map (·.key)) (es.map (·.1)) as ∧ ReadsAll s.heap (des.map (·.val)) (es.map (·.2)) bs ∧ ∀ b ∈ as ++ bs, ∃ o, H b = some o
  | [], _, _, _, h, r, p => by
    cases h; cases r; cases p
    exact ⟨_, _, ReadsAll.nil, ReadsAll.nil, by simp⟩
  | (_, d) :: es, _, _, _, h, r, p => by
    cases h with
    | cons h1 h2 =>
      cases r with
      | cons r1 r2 =>
        cases p with
        | cons p1 p2 p3 =>
          obtain ⟨as, bs, q1, q2, m⟩ := DqKv.reads I es _ _ _ h2 r2 p3
          obtain ⟨cs, q3, m3⟩ := Dq.reads I d _ _ h1 r1.2
          rw [← r1.1] at p1
          refine ⟨_, _, ReadsAll.cons (reads_key p1) q1, ReadsAll.cons (by dsimp only; rw [p2]; exact q3) q2, fun b hb => ?_⟩
          rcases List.mem_append.mp hb with hb | hb
          · exact m b (List.mem_append_left _ hb)
          · rcases List.mem_append.mp hb with hb | hb
            · exact m3 b hb
            · exact m b (List.mem_append_right _ hb)
end
end
/-- the base has sys.modules -/
def Mods (base : Heap) : Prop := ∃ o, base.get? sysModules = some o
/-- a datum that a repr may be asked of -/
def Small (d : PyData) : Prop := d.showable = true ∧ d.depth ≤ 20 ∧ d.shown.length ≤ 100000
def rRepr : List V → Hp → VK → Prop := fun xs H Q => ∃ v d, xs = [v] ∧ Dq H v d ∧ Small d ∧ Q (.str d.shown) H
section
variable {X : Cx}
theorem call_reprD (gd : X.A.guards = some []) (hu : X.A.units + 64 < cLine) (hm : Mods X.base) : CallR X (.builtin "repr") rRepr := by
  intro pins s σ H xs us Q I r h
  obtain ⟨v, d, rfl, hd, ⟨h1, h2, h3⟩, q⟩ := h
  obtain ⟨u, rfl, ru⟩ := vals1 r
  have hz : d.shown.length ≤ sizeLine := Nat.le_trans h3 (by decide)
  obtain ⟨as, hr, ha⟩ := Dq.reads I d v u hd ru
  have hno : sysModules ∉ as := fun z => by
    obtain ⟨o, e⟩ := ha _ z
    obtain ⟨b, eb⟩ := hm
    have n := (I.bs _ _ eb).2
    rw [n] at e
    cases e
  have fin : ∀ (h' : Heap) (tu : Tok) (tk : Nat), (∀ b o, s.heap.get? b = some o → h'.get? b = some o) → EP X pins σ Q (.str d.shown tu) { s with heap := h', toks := tk } :=
    fun h' tu tk k => ⟨.str d.shown, H, I.kept (t' := tk) k, ⟨_, rfl⟩, q⟩
  cases hd with
  | non => cases ru; exact P.repr_of_none (fin _ _ _ fun _ _ z => z)
  | bl b => cases ru; exact P.repr_of_bool (fin _ _ _ fun _ _ z => z)
  | int i =>
    obtain ⟨t, rfl⟩ := ru
    exact P.repr_of_int (of_decide_eq_true h1) (fin _ _ _ fun _ _ z => z)
  | str x =>
    obtain ⟨t, rfl⟩ := ru
    exact P.repr_of_str (fin _ _ _ fun _ _ z => z) hz
  | lst _ _ => cases ru; exact repr_of_reads' hr h1 (fun _ => hno) gd (by omega) (fun _ _ z => z) fin hz
  | tup _ _ => cases ru; exact repr_of_reads' hr h1 (fun _ => hno) gd (by omega) (fun _ _ z => z) fin hz
  | dct _ _ => cases ru; exact repr_of_reads' hr h1 (fun _ => hno) gd (by omega) (fun _ _ z => z) fin hz
end
end Hx

namespace Hx
open PySem PySem.Spec PyProof.Rows L2
/-- a number of the module -/
theorem pe_gint {X : Cx} {x : Str} {i : Int} {t : Tok} {pos : Pos} (hg : Gl X x) (hm : X.mg x = some (.int i t))
    (hd : (x == ("__debug__" : Str)) = false := by decide) : PE X (.Name x pos) (tC (.int i)) := pe_glob hg hm ⟨_, rfl⟩ hd
/-- a class or def of the module; a built-in class, as a value -/
theorem pe_gref {X : Cx} {x : Str} {a : Addr} {pos : Pos} (hg : Gl X x) (hm : X.mg x = some (.ref a))
    (hd : (x == ("__debug__" : Str)) = false := by decide) : PE X (.Name x pos) (tC (.ref a)) := pe_glob hg hm (show RelV (.ref a) (.ref a) from rfl) hd
theorem pe_bty {X : Cx} {x : Str} {T : String} {pos : Pos} (hg : Gl X x) (hm : X.mg x = none) (hv : bootBuiltins x = some (.type T))
    (hn : x ≠ "__name__" := by decide) (hd : (x == ("__debug__" : Str)) = false := by decide) : PE X (.Name x pos) (tC (.ty T)) :=
  pe_bltn hg hm hv (show RelV (.ty T) (.type T) from rfl) hn hd
/-- a comprehension without an if: the turn is taken -/
theorem turn_yes {σ : L2.St} {H : Hp} {R S : Hp → Prop} (h : R H) : tYes σ H fun b H3 => if b = true then R H3 else S H3 := by
  show (if true = true then R H else S H)
  rw [if_pos rfl]
  exact h
/-- the script as an object that is only read -/
def scriptO (vs : List Value) (ns : List Int) : HO := .frz { cls := .type "list", data := .seq vs.toArray } (.lst (ns.map V.int))
section
variable {P : Program} {w : World} {K : PySem.W.Frag} {mg mb : Str → Option Value} {k : Nat} {fa a : Addr} {fd : FuncData} {x : Str} {sp : Sp}
  {s1 : Shared} {vs : List Value} {ns : List Int}
theorem enter_with (H : Hp) (KX : K.In s1.heap) (hglob : s1.heap.Ns mainGlobals mg) (hblt : s1.heap.Ns builtinsNs mb)
    (hboot : ∀ x : Str, x ≠ "__name__" → mb x = bootBuiltins x) (hlim : s1.heap.NoLimit) (hmods : ∃ mm, s1.heap.Ns sysModules mm) (hgen : s1.gens = #[])
    (ha : s1.heap.get? a = some { cls := .type "list", data := .seq vs.toArray }) (room : Room k callerA)
    (F : ∀ base : Heap, K.In base → base.Ns mainGlobals mg → Mods base → GOk P w K mg base CX0 k fa fd [x] sp)
    (hbind : ∀ (s : Shared) (u : Value), BindsTo s fd ⟨[u], []⟩ [(x, u)])
    (hH : ∀ b u, H b = some u → b = a ∧ u = scriptO vs ns) (hK : ∀ u, H a = some u → K.lookup a = none) (hok : HOk P w H s1.heap)
    (hsp : sp [.ref a] H (fun v _ => v = .bl true) E0) :
    codeAny (model P w) callerA (.call (.ref fa) ⟨[.ref a], []⟩) (fun r s' => r = .ok (.ret (.bool true)) ∧ OldK s1.heap s'.heap ∧ s'.os = s1.os ∧ AllBare s'.gens) s1 := by
  have untracked : ∀ {b : Addr} {o : Obj} {es : Array DictEntry} {ep : Nat}, s1.heap.get? b = some o → o.data = .dict es ep → H b = none := by
    intro b o es ep e d
    cases hb : H b with
    | none => rfl
    | some u =>
      obtain ⟨rfl, _⟩ := hH b u hb
      rw [ha] at e
      cases e
      cases (show Data.seq vs.toArray _ = Data.dict es ep from d)
  have nsBase : ∀ {b : Addr} {m : Str → Option Value}, s1.heap.Ns b m → (hidT s1.heap H).Ns b m := fun {b m} ⟨o, es, ep, e, d, r⟩ =>
    ⟨o, es, ep, hidT_get e (untracked e d), d, r⟩
  have inBase : K.In (hidT s1.heap H) := by
    intro b o e
    refine hidT_get (KX b o e) ?_
    cases hb : H b with
    | none => rfl
    | some u =>
      obtain ⟨rfl, _⟩ := hH b u hb
      rw [hK u hb] at e
      cases e
  have modOk : Mod K mg (hidT s1.heap H) := by
    refine ⟨inBase, nsBase hglob, ⟨mb, nsBase hblt, hboot⟩, ?_⟩
    obtain ⟨mc, l1, l2⟩ := hlim
    exact ⟨mc, nsBase l1, l2⟩
  have modsOk : Mods (hidT s1.heap H) := by
    obtain ⟨mm, hm⟩ := hmods
    obtain ⟨o, es, ep, e, _⟩ := nsBase hm
    exact ⟨o, e⟩
  have start0 : Env0 P w K mg (hidT s1.heap H) callerA [] s1 H :=
    { frames := rfl, mod := modOk, bs := fun b o e => of_hidT e, bsz := Nat.le_of_eq (hidT_size _ _), funs := trivial,
      frf := fun b hb => absurd (show b ∈ ([] : List Addr) from hb) (by simp), hok := hok, bare := .of_eq hgen }
  have run := (F _ inBase (nsBase hglob) modsOk).goes callerA [] s1 H ⟨[.ref a], []⟩ [.ref a] [.ref a] _ _ room rfl start0 (hbind s1 (.ref a)) (.cons rfl .nil) hsp
  refine codeAny_mono run ?_
  intro r s' hr
  cases r with
  | error e => exact (show False from hr).elim
  | ok fl =>
    cases fl with
    | next => exact hr.elim
    | brk => exact hr.elim
    | cont => exact hr.elim
    | ret u =>
      obtain ⟨v, H', osEq, bare, un, hok', rel, rfl⟩ := hr
      cases (show u = Value.bool true from rel)
      refine ⟨rfl, OldK.of_keep ?_, osEq, bare⟩
      intro b o e
      cases hb : H b with
      | none => exact un.keep b o e hb (fun z => absurd (show b ∈ ([] : List Addr) from z) (by simp)) (by simp)
      | some u =>
        obtain ⟨rfl, rfl⟩ := hH b u hb
        have stay := un.frzs b _ _ hb
        obtain ⟨e1, _⟩ := hok b _ hb
        obtain ⟨e2, _⟩ := hok' b _ stay
        rw [e] at e1
        rw [e2, ← Option.some.inj e1]

theorem law_enter (KX : K.In s1.heap) (hglob : s1.heap.Ns mainGlobals mg) (hblt : s1.heap.Ns builtinsNs mb)
    (hboot : ∀ x : Str, x ≠ "__name__" → mb x = bootBuiltins x) (hlim : s1.heap.NoLimit) (hmods : ∃ mm, s1.heap.Ns sysModules mm) (hgen : s1.gens = #[])
    (ha : s1.heap.get? a = some { cls := .type "list", data := .seq vs.toArray }) (hi : IntsAre vs ns) (hl : ns.length ≤ sizeLine) (room : Room k callerA)
    (F : ∀ base : Heap, K.In base → base.Ns mainGlobals mg → Mods base → GOk P w K mg base CX0 k fa fd [x] sp)
    (hbind : ∀ (s : Shared) (u : Value), BindsTo s fd ⟨[u], []⟩ [(x, u)])
    (hsp : ∀ H : Hp, SqL K H a (ns.map V.int) → sp [.ref a] H (fun v _ => v = .bl true) E0) :
    codeAny (model P w) callerA (.call (.ref fa) ⟨[.ref a], []⟩) (fun r s' => r = .ok (.ret (.bool true)) ∧ OldK s1.heap s'.heap ∧ s'.os = s1.os ∧ AllBare s'.gens) s1 := by
  have rel := vals_ints hi
  cases hk : K.lookup a with
  | some o =>
    have e := KX a o hk
    rw [ha] at e
    cases e
    refine enter_with (ns := ns) (fun _ => none) KX hglob hblt hboot hlim hmods hgen ha room F hbind (fun _ _ z => by cases z) (fun _ z => by cases z) (fun _ _ z => by cases z) ?_
    refine hsp _ (.inr ⟨_, vs.toArray, _, hk, rfl, rfl, rfl, ?_, by simpa using rel⟩)
    rw [List.size_toArray, hi.length]
    exact hl
  | none =>
    have at_a : (fun b => if b = a then some (scriptO vs ns) else none : Hp) a = some (scriptO vs ns) := if_pos rfl
    refine enter_with (ns := ns) (fun b => if b = a then some (scriptO vs ns) else none) KX hglob hblt hboot hlim hmods hgen ha room F hbind ?_ (fun _ _ => hk) ?_ (hsp _ (.inl (.inr ⟨_, at_a⟩)))
    · intro b u z
      by_cases hb : b = a
      · exact ⟨hb, (Option.some.inj ((if_pos hb).symm.trans z)).symm⟩
      · cases (if_neg hb).symm.trans z
    · intro b u z
      by_cases hb : b = a
      · have e := Option.some.inj ((if_pos hb).symm.trans z)
        subst hb
        subst e
        exact ⟨ha, by rw [List.length_map]; exact hl, vs, _, rel, ha⟩
      · cases (if_neg hb).symm.trans z
end
/-- the goal that k_head leaves, for a law whose defs ask that no guard stands below -/
theorem walk_G {l : PySem.W.OpenLaw} {n k : Nat} {q : Program} {loose : List Str} {XP : (Str → Option Value) → Heap → Prop} {YP : World → Heap → Prop} {d : DefRec}
    {K : Params → PySem.W.Frag} {sp : PySem.W.Frag → Sp} {x : Str} (hn : l.most = some n) (hn2 : n ≤ sizeLine) (hdf : d.params.defaults = []) (room : Room k callerA)
    (himp : importsNone q = true) (hY : ∀ (w : World) (h : Heap), YP w h → (K w.params).In h)
    (F : ∀ (w : World) (mg : Str → Option Value) (fa : Addr) (h : Heap), (K w.params).In h → h.Ns mainGlobals mg → mg d.name = some (.ref fa) →
      ∃ fd : FuncData, (∀ (s : Shared) (u : Value), BindsTo s fd ⟨[u], []⟩ [(x, u)]) ∧
        ∀ base : Heap, (K w.params).In base → base.Ns mainGlobals mg → Mods base → GOk l.prog w (K w.params) mg base CX0 k fa fd [x] (sp (K w.params)))
    (hsp : ∀ (K : PySem.W.Frag) (H : Hp) (a : Addr) (ns : List Int), ns.length ≤ n → SqL K H a (ns.map V.int) → sp K [.ref a] H (fun v _ => v = .bl true) E0) :
    PySem.W.WalkO q loose XP YP l.row.toRowW d [] (fun f vs => PySem.call f vs) := by
  refine Att.attach_call hn hdf ?_
  intro w s0 s1 mg mb fa o pm cd doc a vs ns G Y ho hd hcd hmg hobj hints hlen hgen
  have KX := hY w _ Y
  obtain ⟨fd, hb, hF⟩ := F w mg fa _ KX G.T.g hmg
  obtain ⟨mm, hmm, _⟩ := (G.T.seer himp).mods
  exact law_enter KX G.T.g G.T.b G.T.builtins G.T.nolimit ⟨mm, hmm⟩ hgen hobj hints (Nat.le_trans hlen hn2) room hF hb fun H hS => hsp _ H a ns hlen hS
end Hx

namespace Mk
/-- the first multiple of W from L on -/
def up (L W : Nat) : Nat := L + (W - L % W) % W
theorem neg_mod (L : Nat) {W : Nat} (hW : 0 < W) : (-(L : Int)) % (W : Int) = (((W - L % W) % W : Nat) : Int) := by
  have hr := Nat.mod_lt L hW
  have e : (-(L : Int)) = ((W - L % W : Nat) : Int) + (W : Int) * (-((L / W : Nat) : Int) - 1) := by
    have h := Nat.div_add_mod L W
    have h2 : ((W * (L / W) + L % W : Nat) : Int) = (L : Int) := by rw [h]
    rw [Int.natCast_add, Int.natCast_mul] at h2
    rw [Int.mul_sub, Int.mul_neg, Int.mul_one]
    omega
  rw [e, Int.add_mul_emod_self_left, ← Int.natCast_emod]
/-- what these pairs tell, below many -/
def told (l : List (Nat × Nat)) (many n : Nat) : Bool := l.any fun x => if x.1 = 0 then decide (x.2 = n) else decide (x.2 ≤ n) && decide (n < many) && decide ((n - x.2) % x.1 = 0)
theorem told_snoc (l : List (Nat × Nat)) (x : Nat × Nat) (many n : Nat) : told (l ++ [x]) many n = (told l many n || told [x] many n) := by
  unfold told
  rw [List.any_append]
theorem told_out {l : List (Nat × Nat)} {many n : Nat} (h : ∀ y ∈ l, y.2 < many) (hn : many ≤ n) : told l many n = false := by
  unfold told
  rw [List.any_eq_false]
  intro y hy
  have := h y hy
  split
  · simp only [decide_eq_true_eq]
    omega
  · rw [decide_eq_false (p := n < many) (by omega), Bool.and_false, Bool.false_and]
    exact Bool.false_ne_true
end Mk
namespace Wp
open PySem PySem.Spec PyProof.Rows L2 Hx
/-- tuples of two numbers -/
def PrsAt (H : Hp) (vs : List V) (l : List (Nat × Nat)) : Prop := vs.length = l.length ∧ ∀ (i : Nat) (v : V), vs[i]? = some v → ∃ (t : Addr) (x : Nat × Nat), v = V.ref t ∧ l[i]? = some x ∧ H t = some (.tup [V.int (x.1 : Int), V.int (x.2 : Int)])
theorem PrsAt.same {H H' : Hp} {vs : List V} {l : List (Nat × Nat)} (h : PrsAt H vs l) (s : Same H H') : PrsAt H' vs l := ⟨h.1, fun i v hv => (h.2 i v hv).imp fun t q => q.imp fun x r => ⟨r.1, r.2.1, s _ _ r.2.2⟩⟩
def IsMax (m : Nat) (l : List Nat) : Prop := m ∈ l ∧ ∀ y ∈ l, y ≤ m
def spGath (C : Addr) : Sp := fun vs H Q _ => ∃ (pa : Addr) (ps : List V) (l : List (Nat × Nat)) (W L : Nat), vs = [.ref pa] ∧ H pa = some (.lst ps) ∧ PrsAt H ps l ∧ l.length ≤ 100 ∧ IsMax W (1 :: l.map Prod.fst) ∧ IsMax L (0 :: l.map fun x => x.2 + 1) ∧ W ≤ 5000 ∧ L ≤ 10000 ∧
  (∀ bits : Nat, (∀ n, bits.testBit n = Mk.told l (Mk.up L W + W) n) → ∀ q, 2 ≤ q → q ∣ W → (bits / 2 ^ Mk.up L W) / 2 ^ (W / q) ≠ (bits / 2 ^ Mk.up L W) % 2 ^ (W - W / q)) ∧
  ∀ (bits : Nat) (s : Mk.Kept), (∀ n, bits.testBit n = Mk.told l (Mk.up L W + W) n) → Made bits (Mk.up L W) W s → ∀ a H', Same H H' → PlAt C H' a s → Q (.ref a) H'
section
variable {P : Program} {w : World} {K : PySem.W.Frag} {mg : Str → Option Value} {base : Heap} {f f1 f2 f3 C : Addr} {fd fd1 fd2 fd3 : FuncData}
def NG : List Str := ["pairs", "width", "least", "start", "bits", "step", "first"]
theorem scGath : FnScope NG ["pairs"] (defScope s_gathered) := ⟨rfl, rfl, rfl, by decide +kernel, rfl, by decide +kernel, by decide +kernel⟩
def gPair (K : PySem.W.Frag) : TG := gTup K 2 (gCons (gName 5) (gCons (gName 6) gNil))
theorem lc_prs {pa D : Addr} {ps : List V} {l : List (Nat × Nat)} {te : TE} {σ : L2.St} {H1 : Hp} {Qd : Hp → Prop} (fn : Nat × Nat → Nat) (hD : H1 D = none) (hp : H1 pa = some (.lst ps)) (pr : PrsAt H1 ps l) (few : l.length ≤ 100)
    (hte : ∀ (x : Nat × Nat) H (Qv : VK), Qv (.int (fn x : Nat)) H → te (((wipe σ [5, 6]).set 5 (some (.int (x.1 : Int)))).set 6 (some (.int (x.2 : Int)))) H Qv)
    (hw : ∀ u v : Option V, wipe (((wipe σ [5, 6]).set 5 u).set 6 v) [5, 6] = wipe σ [5, 6])
    (hd : ∀ H', Same H1 H' → H' D = some (.lst (nats (l.map fn))) → Qd H') :
    ∃ W : Nat → Nat → Hp → Prop, (∃ m, W 0 m (upd H1 D (.lst []))) ∧ ∀ i m H, W i m H →
      ((Itl K pa).stop i H ∧ Qd H) ∨ ((Itl K pa).go i H ∧ ∃ Nx : Hp → Prop, (∀ H', Nx H' → ∃ m', m' < m ∧ W (i + 1) m' H') ∧ ∀ x H', (Itl K pa).yld i H x H' → gPair K x (wipe σ [5, 6]) H' fun σ2 H2 => wipe σ2 [5, 6] = wipe σ [5, 6] ∧ tYes σ2 H2 fun b H3 =>
        if b = true then te σ2 H3 fun y H4 => ∃ acc, H4 D = some (.lst acc) ∧ acc.length < sizeLine ∧ Nx (upd H4 D (.lst (acc ++ [y]))) else Nx H3) := by
  refine lc_list (K := K) (a := pa) (xs := ps) (fun i H' => Same H1 H' ∧ H' D = some (.lst (nats ((l.take i).map fn)))) ⟨same_new hD _, upd_same⟩ (fun i H' _ h => SqL.of (h.1 _ _ hp)) ?_ ?_
  · rintro i v H' hv ⟨s1, hD1⟩
    obtain ⟨t, x, rfl, hx, ht⟩ := pr.2 i v hv
    refine ⟨t, _, rfl, SqT.of (s1 _ _ ht), rfl, _, _, rfl, _, _, rfl, rfl, hw _ _, turn_yes ?_⟩
    refine hte x H' _ ⟨_, hD1, ?_, same_at hD s1, ?_⟩
    · rw [nats_len, List.length_map, List.length_take, sizeLine_eq]
      omega
    · rw [upd_same, List.take_succ, hx]
      simp [nats]
  · rintro H' ⟨s1, hD1⟩
    rw [pr.1, List.take_length] at hD1
    exact hd H' s1 hD1
theorem born_same {H H' : Hp} {a dx : Addr} {o1 o2 : HO} (na : H a = none) (nd : H dx = none) (b : But a (upd (upd H dx o1) a o2) H') : Same H H' := fun c o h => by
  have n1 := ne_of_none h na
  have n2 := ne_of_none h nd
  refine b c o n1 ?_
  rw [upd_ne n1, upd_ne n2]
  exact h
theorem max_is {m : Nat} {l : List Nat} (h : IsMax m l) {k : Int} (h1 : k ∈ l.map fun n : Nat => (n : Int)) (h2 : ∀ y, y ∈ (l.map fun n : Nat => (n : Int)) → y ≤ k) : k = (m : Int) := by
  obtain ⟨n, hn, rfl⟩ := List.mem_map.mp h1
  have a := h.2 n hn
  have b := h2 (m : Int) (List.mem_map.mpr ⟨m, h.1, rfl⟩)
  omega
theorem nats_ints (l : List Nat) : nats l = (l.map fun n : Nat => (n : Int)).map V.int := by
  rw [List.map_map]
  rfl
theorem ok_gath (F : Fun K "gathered" "gathered" s_gathered f fd) (R : Pd K mg C) (Z : Bp mg) (M : Mk K C f1)
    (G1 : FnOk P w K mg base CX0 4 f1 fd1 ["self", "bits", "start", "width"] (spInitP C)) (b1 : Binds K fd1 ["self", "bits", "start", "width"] [])
    (G3 : FnOk P w K mg base CX0 3 f3 fd3 ["pattern", "width", "many"] spTiled) (b3 : Binds K fd3 ["pattern", "width", "many"] []) (k3 : PySem.W.keepIn K (.ref f3) = true) (m3 : mg "tiled" = some (.ref f3)) :
    FnOk P w K mg base CX0 6 f fd ["pairs"] (spGath C) := by
  refine F.ok scGath (fun vs H Q E h => ?_) (fun cdv A outer s H vs Q E hr h => ?_)
  · obtain ⟨pa, ps, l, W, L, rfl, _⟩ := h
    rfl
  obtain ⟨pa, ps, l, W, L, rfl, hp, pr, few, mW, mL, W1, L1, hN, q⟩ := h
  have r3 := hr.mono (by decide : 3 ≤ 5)
  refine ⟨_, pss_cons (ps_set (i := 1) scGath.nd rfl (Or.inl rfl) (pe_callB (cr_max rfl) (by rfl) Z.max PyProof.Rows.boot_max (pa_cons (pe_lst (pa_cons pe_int (StX.pa_star
        (pe_lc (own := [("step", 5), ("first", 6)]) (g := gPair K) (tt := tYes) (te := tVar 5) rfl scGath.nd (pi_list (pv 0)) (blkOk_by (N := NG) (sc := defScope s_gathered) (by decide +kernel))
          (fun _ _ _ _ _ => pg_tup (by rfl) (pgs_cons (pg_name (i := 5) scGath.nd rfl (Or.inl rfl)) (pgs_cons (pg_name (i := 6) scGath.nd rfl (Or.inl rfl)) pgs_nil))) (fun _ _ _ _ _ => pts_nil) (fun _ _ _ _ _ => pv 5)) pa_nil))) pa_nil)))
    (pss_cons (ps_set (i := 2) scGath.nd rfl (Or.inl rfl) (pe_callB (cr_max rfl) (by rfl) Z.max PyProof.Rows.boot_max (pa_cons (pe_lst (pa_cons pe_int (StX.pa_star
        (pe_lc (own := [("step", 5), ("first", 6)]) (g := gPair K) (tt := tYes) rfl scGath.nd (pi_list (pv 0)) (blkOk_by (N := NG) (sc := defScope s_gathered) (by decide +kernel))
          (fun _ _ _ _ _ => pg_tup (by rfl) (pgs_cons (pg_name (i := 5) scGath.nd rfl (Or.inl rfl)) (pgs_cons (pg_name (i := 6) scGath.nd rfl (Or.inl rfl)) pgs_nil))) (fun _ _ _ _ _ => pts_nil) (fun _ _ _ _ _ => pe_op op_add (pv 6) pe_int)) pa_nil))) pa_nil)))
    (pss_cons (ps_set (i := 3) scGath.nd rfl (Or.inl rfl) (pe_op op_add (pv 2) (pe_op op_mod (pe_un un_neg (pv 2)) (pv 1))))
    (pss_cons (ps_set (i := 4) scGath.nd rfl (Or.inl rfl) pe_int)
    (pss_cons (ps_for PassesOwn.never rfl (pi_list (pv 0)) (pg_tup (by rfl) (pgs_cons (pg_name (i := 5) scGath.nd rfl (Or.inl rfl)) (pgs_cons (pg_name (i := 6) scGath.nd rfl (Or.inl rfl)) pgs_nil)))
      (pss_one (ps_set (i := 4) scGath.nd rfl (Or.inl rfl) (pe_op op_or (pv 4) (pe_op op_shlN (pe_ifExp (pt_cmpR op_gt (pv 5) pe_int (nomark _))
        (pe_call G3 r3 rfl m3 k3 b3 .nil pass0 (pa_cons pe_int (pa_cons (pv 5) (pa_cons (pe_op op_sub (pe_op op_add (pv 3) (pv 1)) (pv 6)) pa_nil)))) pe_int) (pv 6))))))
    (pss_one (ps_ret (pe_make M G1 hr rfl R.gC b1 .nil pass0 (pa_cons (pv 4) (pa_cons (pv 3) (pa_cons (pv 1) pa_nil)))))))))), ?_⟩
  -- the width
  refine ⟨_, rfl, pa, rfl, ⟨ps, SqL.of hp⟩, fun D1 hD1 => ?_⟩
  refine lc_prs Prod.fst hD1 hp pr few (fun x H Qv h => ⟨_, rfl, h⟩) (fun u v => rfl) fun H1 s1 h1 => ?_
  refine ⟨D1, _, rfl, .inr (SqL.of h1), ?_, fun D2 hD2 => ?_⟩
  · show ([V.int 1] ++ (nats (l.map Prod.fst) ++ [])).length ≤ sizeLine
    rw [List.append_nil, List.length_append, nats_len, List.length_map, sizeLine_eq]
    show 1 + l.length ≤ _
    omega
  have n1 : (V.int 1 :: (nats (l.map Prod.fst) ++ [])) = ((1 :: l.map Prod.fst).map fun n : Nat => (n : Int)).map V.int := by
    rw [List.append_nil, nats_ints]
    rfl
  refine ⟨D2, (1 :: l.map Prod.fst).map fun n : Nat => (n : Int), rfl, SqL.of (by rw [upd_same, n1]), by simp, fun m hm hle => ?_⟩
  obtain rfl := max_is mW hm hle
  have s2 := s1.trans (same_new hD2 (.lst (V.int 1 :: (nats (l.map Prod.fst) ++ []))))
  generalize upd H1 D2 (.lst (V.int 1 :: (nats (l.map Prod.fst) ++ []))) = H2 at s2 ⊢
  clear s1 h1 hD1 hD2 n1 hm hle
  -- the least
  refine ⟨_, rfl, pa, rfl, ⟨ps, SqL.of (s2 _ _ hp)⟩, fun D3 hD3 => ?_⟩
  refine lc_prs (fun x : Nat × Nat => x.2 + 1) hD3 (s2 _ _ hp) (pr.same s2) few (fun x H Qv h => ⟨_, rfl, _, _, rfl, rfl, by rw [Int.natCast_add] at h; exact h⟩) (fun u v => rfl) fun H3 s3 h3 => ?_
  refine ⟨D3, _, rfl, .inr (SqL.of h3), ?_, fun D4 hD4 => ?_⟩
  · show ([V.int 0] ++ (nats (l.map fun x : Nat × Nat => x.2 + 1) ++ [])).length ≤ sizeLine
    rw [List.append_nil, List.length_append, nats_len, List.length_map, sizeLine_eq]
    show 1 + l.length ≤ _
    omega
  have n3 : (V.int 0 :: (nats (l.map fun x : Nat × Nat => x.2 + 1) ++ [])) = ((0 :: l.map fun x : Nat × Nat => x.2 + 1).map fun n : Nat => (n : Int)).map V.int := by
    rw [List.append_nil, nats_ints]
    rfl
  refine ⟨D4, (0 :: l.map fun x : Nat × Nat => x.2 + 1).map fun n : Nat => (n : Int), rfl, SqL.of (by rw [upd_same, n3]), by simp, fun m hm hle => ?_⟩
  obtain rfl := max_is mL hm hle
  have s4 := (s2.trans s3).trans (same_new hD4 (.lst (V.int 0 :: (nats (l.map fun x : Nat × Nat => x.2 + 1) ++ []))))
  generalize upd H3 D4 (.lst (V.int 0 :: (nats (l.map fun x : Nat × Nat => x.2 + 1) ++ []))) = H4 at s4 ⊢
  clear s2 s3 h3 hD3 hD4 n3 hm hle
  have W0 : 1 ≤ W := mW.2 1 List.mem_cons_self
  -- the start
  refine ⟨_, rfl, _, rfl, _, rfl, _, rfl, _, _, rfl, rfl, (by omega), ?_⟩
  dsimp only
  rw [Mk.neg_mod L W0]
  refine ⟨_, _, rfl, rfl, ?_⟩
  have eU : (L : Int) + (((W - L % W) % W : Nat) : Int) = ((Mk.up L W : Nat) : Int) := by
    rw [← Int.natCast_add]
    rfl
  dsimp only
  rw [eU]
  have uL : L ≤ Mk.up L W := Nat.le_add_right _ _
  have uM : Mk.up L W < L + W := by
    have := Nat.mod_lt (W - L % W) W0
    unfold Mk.up
    omega
  refine ⟨_, rfl, pa, rfl, ⟨ps, SqL.of (s4 _ _ hp)⟩, for_list (K := K) (a := pa) (xs := ps) (fun i σ H' => Same H H' ∧ ∃ (x : Nat) (u v : Option V), (∀ n, x.testBit n = Mk.told (l.take i) (Mk.up L W + W) n) ∧ σ = [some (.ref pa), some (.int (W : Int)), some (.int (L : Int)), some (.int (Mk.up L W : Nat)), some (.int (x : Int)), u, v])
    ⟨s4, 0, none, none, fun n => by rw [Nat.zero_testBit]; rfl, rfl⟩ (fun _ _ _ _ h => SqL.of (h.1 _ _ hp)) ?_ ?_⟩
  · rintro i v σ H5 hv ⟨s5, x, u1, v1, hx, rfl⟩
    obtain ⟨t, y, rfl, hy, ht⟩ := pr.2 i v hv
    have ym : y ∈ l := List.mem_of_getElem? hy
    have yL : y.2 + 1 ≤ L := mL.2 _ (List.mem_cons_of_mem _ (List.mem_map.mpr ⟨y, ym, rfl⟩))
    have yW : y.1 ≤ W := mW.2 _ (List.mem_cons_of_mem _ (List.mem_map.mpr ⟨y, ym, rfl⟩))
    refine ⟨t, _, rfl, SqT.of (s5 _ _ ht), rfl, _, _, rfl, _, _, rfl, rfl, ?_⟩
    have nx : ∀ z : Nat, (∀ n, (z * 2 ^ y.2).testBit n = Mk.told [y] (Mk.up L W + W) n) → ∀ n, (x ||| z * 2 ^ y.2).testBit n = Mk.told (l.take (i + 1)) (Mk.up L W + W) n := fun z hz n => by
      rw [Nat.testBit_or, hx, hz, List.take_succ, hy]
      exact (Mk.told_snoc _ _ _ _).symm
    by_cases c : y.1 = 0
    · refine ⟨_, rfl, _, rfl, _, _, rfl, rfl, _, rfl, ?_⟩
      rw [decide_eq_false (by omega)]
      refine iteF ⟨_, rfl, ((1 : Nat) : Int), y.2, rfl, rfl, shl_ok (n := 1) (by decide) (by omega), _, _, rfl, rfl, ?_⟩
      dsimp only
      rw [Mk.mul_ct, Mk.bor]
      refine ⟨s5, _, _, _, nx 1 fun n => ?_, rfl⟩
      rw [Nat.one_mul, Nat.testBit_two_pow]
      unfold Mk.told
      rw [List.any_cons, List.any_nil, Bool.or_false, if_pos c]
    · refine ⟨_, rfl, _, rfl, _, _, rfl, rfl, _, rfl, ?_⟩
      rw [decide_eq_true (by omega)]
      refine iteT ⟨_, rfl, _, rfl, _, rfl, _, _, rfl, rfl, _, rfl, _, _, rfl, rfl, 1, y.1, Mk.up L W + W - y.2, ?_, by omega, by omega, ?_, by omega, fun z hz => ?_⟩
      · show [V.int 1, V.int (y.1 : Int), V.int ((Mk.up L W : Int) + (W : Int) - (y.2 : Int))] = _
        rw [show (Mk.up L W : Int) + (W : Int) - (y.2 : Int) = ((Mk.up L W + W - y.2 : Nat) : Int) by omega]
        rfl
      · exact Nat.one_lt_two_pow c
      have zl := hz.lt
      refine ⟨_, rfl, (z : Int), y.2, rfl, rfl, shl_ok (n := Mk.up L W + W - y.2) (by simpa using zl) (by omega), _, _, rfl, rfl, ?_⟩
      dsimp only
      rw [Mk.mul_ct, Mk.bor]
      refine ⟨s5, _, _, _, nx z fun n => ?_, rfl⟩
      rw [Nat.testBit_mul_two_pow, hz]
      unfold Mk.told
      rw [List.any_cons, List.any_nil, Bool.or_false, if_neg c]
      by_cases d : y.2 ≤ n
      · rw [decide_eq_true d, Bool.true_and, Bool.true_and]
        have e1 : decide (n - y.2 < Mk.up L W + W - y.2) = decide (n < Mk.up L W + W) := decide_eq_decide.mpr (by omega)
        have e2 : (1 : Nat).testBit ((n - y.2) % y.1) = decide ((n - y.2) % y.1 = 0) := by
          rw [show (1 : Nat) = 2 ^ 0 from rfl, Nat.testBit_two_pow]
          exact decide_eq_decide.mpr (by omega)
        rw [e1, e2]
      · rw [decide_eq_false d, Bool.false_and, Bool.false_and, Bool.false_and]
  · rintro σ H5 ⟨s5, x, u, v, hx, rfl⟩
    rw [pr.1, List.take_length] at hx
    have xl : x < 2 ^ (Mk.up L W + W) := Nat.lt_pow_two_of_testBit x fun i hi => by
      rw [hx]
      exact Mk.told_out (fun y ym => by
        have := mL.2 _ (List.mem_cons_of_mem _ (List.mem_map.mpr ⟨y, ym, rfl⟩))
        omega) hi
    refine ⟨_, rfl, _, rfl, _, rfl, fun a dx na nd ne => ⟨a, dx, x, Mk.up L W, W, rfl, upd_same, W0, W1, by omega, xl, hN x hx, fun k H' mk bt ha => ⟨rfl, ?_⟩⟩⟩
    exact q x k hx mk a H' (s5.trans (born_same na nd bt)) ⟨dx, ha⟩
end
end Wp

/-! endless rows with a head and a loop, in plain lists -/
namespace Rw
theorem getD_appL {a b : List Nat} {i : Nat} (h : i < a.length) : (a ++ b).getD i 0 = a.getD i 0 := by
  rw [List.getD_eq_getElem?_getD, List.getElem?_append_left h, ← List.getD_eq_getElem?_getD]
theorem getD_appR {a b : List Nat} {i : Nat} (h : a.length ≤ i) : (a ++ b).getD i 0 = b.getD (i - a.length) 0 := by
  rw [List.getD_eq_getElem?_getD, List.getElem?_append_right h, ← List.getD_eq_getElem?_getD]
theorem getD_get {a : List Nat} {i : Nat} (h : i < a.length) : a.getD i 0 = a[i] := by
  rw [List.getD_eq_getElem?_getD, List.getElem?_eq_getElem h]
  rfl
/-- n times a -/
def rep (n : Nat) (a : List Nat) : List Nat := (List.replicate n a).flatten
def lp (g : List Nat) (n : Nat) : Nat := g.getD (n % g.length) 0
def sg (f g : List Nat) (n : Nat) : Nat := if n < f.length then f.getD n 0 else lp g (n - f.length)
def Prim (g : List Nat) : Prop := ∀ m, 0 < m → m < g.length → ∃ i, lp g i ≠ lp g (i + m)
structure Norm (f g : List Nat) : Prop where
  pos : 0 < g.length
  prim : Prim g
  last : 0 < f.length → f.getD (f.length - 1) 0 ≠ lp g (g.length - 1)
theorem rep_zero (a : List Nat) : rep 0 a = [] := rfl
theorem rep_succ (n : Nat) (a : List Nat) : rep (n + 1) a = a ++ rep n a := by
  unfold rep
  rw [List.replicate_succ, List.flatten_cons]
theorem rep_length (n : Nat) (a : List Nat) : (rep n a).length = n * a.length := by
  induction n with
  | zero => rw [rep_zero, Nat.zero_mul]; rfl
  | succ n ih => rw [rep_succ, List.length_append, ih, Nat.succ_mul, Nat.add_comm]
theorem rep_getD {a : List Nat} : ∀ (n i : Nat), i < n * a.length → (rep n a).getD i 0 = a.getD (i % a.length) 0
  | 0, i, h => by rw [Nat.zero_mul] at h; exact absurd h (Nat.not_lt_zero _)
  | n + 1, i, h => by
    rw [rep_succ]
    by_cases c : i < a.length
    · rw [getD_appL c, Nat.mod_eq_of_lt c]
    · have c' : a.length ≤ i := Nat.le_of_not_lt c
      rw [getD_appR c', rep_getD n (i - a.length) (by rw [Nat.succ_mul] at h; omega)]
      rw [Nat.mod_eq_sub_mod c']
theorem lp_mod (g : List Nat) (n : Nat) : lp g (n % g.length) = lp g n := by
  unfold lp
  rw [Nat.mod_mod]
theorem lp_add (g : List Nat) (n k : Nat) : lp g (n + g.length * k) = lp g n := by
  unfold lp
  rw [Nat.add_mul_mod_self_left]
theorem lp_add1 (g : List Nat) (n : Nat) : lp g (n + g.length) = lp g n := by
  have := lp_add g n 1
  rwa [Nat.mul_one] at this
theorem lp_lt {g : List Nat} {n : Nat} (h : n < g.length) : lp g n = g.getD n 0 := by
  unfold lp
  rw [Nat.mod_eq_of_lt h]
theorem lp_rep {a : List Nat} {n : Nat} (ha : 0 < a.length) (hn : 0 < n) (i : Nat) : lp (rep n a) i = lp a i := by
  unfold lp
  rw [rep_length]
  have hp : 0 < n * a.length := Nat.mul_pos hn ha
  rw [rep_getD n _ (Nat.mod_lt _ hp), Nat.mod_mul_left_mod]
/-- the least string that makes the loop, told by its length -/
structure Least (a l : List Nat) : Prop where
  pos : 0 < a.length
  k : ∃ n, 0 < n ∧ l = rep n a
  min : ∀ m, 0 < m → m < a.length → ∀ b : List Nat, b.length = m → ∀ n, l ≠ rep n b
theorem ext_getD {a b : List Nat} (h : a.length = b.length) (e : ∀ i, i < a.length → a.getD i 0 = b.getD i 0) : a = b := by
  refine List.ext_getElem h fun i h1 h2 => ?_
  have := e i h1
  rwa [getD_get h1, getD_get h2] at this
theorem rep_rep (n m : Nat) (b : List Nat) : rep n (rep m b) = rep (n * m) b := by
  induction n with
  | zero => rw [rep_zero, Nat.zero_mul, rep_zero]
  | succ n ih =>
    rw [rep_succ, ih, Nat.succ_mul, Nat.add_comm]
    induction m with
    | zero => rw [rep_zero, Nat.zero_add]; rfl
    | succ m ih2 =>
      have e : m + 1 + n * (m + 1) = (m + n * (m + 1)) + 1 := by omega
      rw [e, rep_succ, rep_succ, List.append_assoc]
      congr 1
      clear ih ih2 e
      generalize n * (m + 1) = k
      induction m with
      | zero => rw [rep_zero, Nat.zero_add]; rfl
      | succ m ih3 =>
        rw [rep_succ, List.append_assoc, ih3, show m + 1 + k = (m + k) + 1 by omega, rep_succ]
/-- a string of at most four signs with no shorter one that makes it is the same under no turn -/
theorem prim_of_least {a l : List Nat} (h : Least a l) (h4 : a.length ≤ 4) : Prim a := by
  obtain ⟨n, hn, hl⟩ := h.k
  have no : ∀ m, 0 < m → m < a.length → ∀ b : List Nat, b.length = m → ∀ k, a ≠ rep k b := by
    intro m m0 m1 b hb k e
    exact h.min m m0 m1 b hb (n * k) (by rw [hl, e, rep_rep])
  clear hl hn
  have hp := h.pos
  clear h
  intro m m0 m1
  refine Classical.byContradiction fun z => ?_
  have same : ∀ i, lp a i = lp a (i + m) := fun i => Classical.byContradiction fun q => z ⟨i, q⟩
  clear z
  match a, h4, hp, m1, no, same with
  | [], _, hp, _, _, _ => exact absurd hp (Nat.lt_irrefl _)
  | [x], _, _, m1, _, _ => exact absurd m1 (by simp; omega)
  | [x, y], _, _, m1, no, same =>
    have : m = 1 := by simp at m1; omega
    subst this
    have e0 : x = y := by have q := same 0; simpa [lp] using q
    subst e0
    exact no 1 (by decide) (by simp) [x] rfl 2 rfl
  | [x, y, u], _, _, m1, no, same =>
    have : m = 1 ∨ m = 2 := by simp at m1; omega
    rcases this with rfl | rfl
    · have e0 : x = y := by have q := same 0; simpa [lp] using q
      have e1 : y = u := by have q := same 1; simpa [lp] using q
      subst e0 e1
      exact no 1 (by decide) (by simp) [x] rfl 3 rfl
    · have e0 : x = u := by have q := same 0; simpa [lp] using q
      have e1 : y = x := by have q := same 1; simpa [lp] using q
      subst e0 e1
      exact no 1 (by decide) (by simp) [y] rfl 3 rfl
  | [x, y, u, v], _, _, m1, no, same =>
    have : m = 1 ∨ m = 2 ∨ m = 3 := by simp at m1; omega
    rcases this with rfl | rfl | rfl
    · have e0 : x = y := by have q := same 0; simpa [lp] using q
      have e1 : y = u := by have q := same 1; simpa [lp] using q
      have e2 : u = v := by have q := same 2; simpa [lp] using q
      subst e0 e1 e2
      exact no 1 (by decide) (by simp) [x] rfl 4 rfl
    · have e0 : x = u := by have q := same 0; simpa [lp] using q
      have e1 : y = v := by have q := same 1; simpa [lp] using q
      subst e0 e1
      exact no 2 (by decide) (by simp) [x, y] rfl 2 rfl
    · have e0 : x = v := by have q := same 0; simpa [lp] using q
      have e1 : y = x := by have q := same 1; simpa [lp] using q
      have e2 : u = y := by have q := same 2; simpa [lp] using q
      subst e0 e1 e2
      exact no 1 (by decide) (by simp) [u] rfl 4 rfl
  | _ :: _ :: _ :: _ :: _ :: _, h4, _, _, _, _ => exact absurd h4 (by simp)
/-- the loop's place from which it goes on when so many signs of the head are taken back -/
structure Back (many : Nat) (h a : List Nat) : Prop where
  le : many ≤ h.length
  same : ∀ i, i < many → h.getD (h.length - 1 - i) 0 = a.getD (a.length - 1 - i % a.length) 0
  stop : many < h.length → h.getD (h.length - 1 - many) 0 ≠ a.getD (a.length - 1 - many % a.length) 0
/-- the place (-many) % p -/
def back (many p : Nat) : Nat := (p - many % p) % p
def turned (at_ : Nat) (a : List Nat) : List Nat := a.drop at_ ++ a.take at_
theorem turned_length {at_ : Nat} {a : List Nat} (h : at_ ≤ a.length) : (turned at_ a).length = a.length := by
  unfold turned
  rw [List.length_append, List.length_drop, List.length_take]
  omega
theorem turned_lp {at_ : Nat} {a : List Nat} (h : at_ < a.length) (i : Nat) : lp (turned at_ a) i = lp a (at_ + i) := by
  have hl := turned_length (Nat.le_of_lt h)
  unfold lp
  rw [hl]
  have hp : 0 < a.length := Nat.lt_of_le_of_lt (Nat.zero_le _) h
  have hi := Nat.mod_lt i hp
  rw [Nat.add_mod, Nat.mod_eq_of_lt h]
  generalize i % a.length = j at hi
  unfold turned
  by_cases c : j < a.length - at_
  · rw [getD_appL (by rw [List.length_drop]; exact c), Nat.mod_eq_of_lt (by omega)]
    rw [List.getD_eq_getElem?_getD, List.getElem?_drop, ← List.getD_eq_getElem?_getD]
  · rw [getD_appR (by rw [List.length_drop]; omega), List.length_drop]
    have e : (at_ + j) % a.length = at_ + j - a.length := by
      rw [Nat.mod_eq_sub_mod (by omega), Nat.mod_eq_of_lt (by omega)]
    rw [e, List.getD_eq_getElem?_getD, List.getElem?_take_of_lt (by omega), ← List.getD_eq_getElem?_getD]
    congr 1
    omega
theorem back_lt {many p : Nat} (hp : 0 < p) : back many p < p := Nat.mod_lt _ hp
theorem back_add {many p : Nat} (hp : 0 < p) : (back many p + many) % p = 0 := by
  unfold back
  have h1 := Nat.mod_lt many hp
  rw [Nat.add_mod, Nat.mod_mod]
  by_cases c : many % p = 0
  · rw [c, Nat.sub_zero, Nat.mod_self]
    rfl
  · rw [Nat.mod_eq_of_lt (a := p - many % p) (by omega), Nat.sub_add_cancel (Nat.le_of_lt h1), Nat.mod_self]
theorem lp_back {a : List Nat} {many : Nat} (hp : 0 < a.length) (n : Nat) : lp a (back many a.length + many + n) = lp a n := by
  unfold lp
  rw [Nat.add_mod, back_add hp, Nat.zero_add, Nat.mod_mod]
theorem getD_take {h : List Nat} {n i : Nat} (c : i < n) : (h.take n).getD i 0 = h.getD i 0 := by
  rw [List.getD_eq_getElem?_getD, List.getElem?_take_of_lt c, ← List.getD_eq_getElem?_getD]
/-- a.getD (p - 1 - i % p) is the loop at (-1 - i) -/
theorem lp_behind {a : List Nat} (hp : 0 < a.length) {i at_ : Nat} (e : (at_ + i + 1) % a.length = 0) : a.getD (a.length - 1 - i % a.length) 0 = lp a at_ := by
  unfold lp
  have h1 := Nat.mod_lt i hp
  have h2 := Nat.mod_lt at_ hp
  have e2 : (at_ % a.length + i % a.length + 1) % a.length = 0 := by
    rw [show at_ % a.length + i % a.length + 1 = at_ % a.length + (i % a.length + 1) by omega, Nat.add_mod, Nat.mod_mod, ← Nat.add_mod]
    rw [show at_ + (i % a.length + 1) = (at_ + 1) + i % a.length by omega, Nat.add_mod, Nat.mod_mod, ← Nat.add_mod, show at_ + 1 + i = at_ + i + 1 by omega]
    exact e
  generalize at_ % a.length = x at *
  generalize i % a.length = y at *
  have : x + y + 1 = a.length := by
    rcases Nat.lt_or_ge (x + y + 1) a.length with q | q
    · rw [Nat.mod_eq_of_lt q] at e2; omega
    · rw [Nat.mod_eq_sub_mod q, Nat.mod_eq_of_lt (by omega)] at e2; omega
  rw [show a.length - 1 - y = x by omega]
/-- what Round keeps -/
theorem norm_made {h l a : List Nat} {many : Nat} (L : Least a l) (h4 : a.length ≤ 4) (B : Back many h a) :
    Norm (h.take (h.length - many)) (turned (back many a.length) a) ∧ ∀ n, sg (h.take (h.length - many)) (turned (back many a.length) a) n = sg h l n := by
  have hp := L.pos
  have hb := back_lt (many := many) hp
  have le := B.le
  have tl := turned_length (Nat.le_of_lt hb)
  have fl : (h.take (h.length - many)).length = h.length - many := by rw [List.length_take]; omega
  have lpl : ∀ i, lp l i = lp a i := by
    obtain ⟨n, hn, rfl⟩ := L.k
    exact lp_rep hp hn
  constructor
  · refine ⟨by rw [tl]; exact hp, ?_, ?_⟩
    · intro m m0 m1
      rw [tl] at m1
      obtain ⟨i, hi⟩ := prim_of_least L h4 m m0 m1
      refine ⟨many + i, ?_⟩
      rw [turned_lp hb, turned_lp hb, ← Nat.add_assoc, lp_back hp, ← Nat.add_assoc, ← Nat.add_assoc, Nat.add_assoc _ i m, lp_back hp]
      exact hi
    · intro f0
      rw [fl] at f0 ⊢
      rw [tl, getD_take (by omega), turned_lp hb]
      have st := B.stop (by omega)
      rw [show h.length - many - 1 = h.length - 1 - many by omega]
      have e := lp_behind (a := a) hp (i := many) (at_ := back many a.length + (a.length - 1)) (by
        rw [show back many a.length + (a.length - 1) + many + 1 = (back many a.length + many) + a.length by omega, Nat.add_mod_right]
        exact back_add hp)
      rw [e] at st
      exact st
  · intro n
    unfold sg
    rw [fl]
    by_cases c : n < h.length - many
    · rw [if_pos c, if_pos (by omega), getD_take c]
    · rw [if_neg c, turned_lp hb]
      by_cases c2 : n < h.length
      · rw [if_pos c2]
        have hi : h.length - 1 - n < many := by omega
        have s := B.same _ hi
        rw [show h.length - 1 - (h.length - 1 - n) = n by omega] at s
        rw [s]
        refine (lp_behind hp ?_).symm
        rw [show back many a.length + (n - (h.length - many)) + (h.length - 1 - n) + 1 = back many a.length + many by omega]
        exact back_add hp
      · rw [if_neg c2, lpl]
        have e := lp_back (a := a) (many := many) hp (n - h.length)
        rw [show back many a.length + (n - (h.length - many)) = back many a.length + many + (n - h.length) by omega]
        exact e
theorem chain {s : Nat → Nat} {k L : Nat} : ∀ p, (∀ j, j < p → s (k + j * L) = s (k + j * L + L)) → s k = s (k + p * L)
  | 0, _ => by rw [Nat.zero_mul, Nat.add_zero]
  | p + 1, h => by
    rw [chain p fun j hj => h j (by omega), h p (by omega), Nat.succ_mul, Nat.add_assoc]
theorem sg_far {f g : List Nat} {n : Nat} (h : f.length ≤ n) : sg f g n = lp g (n - f.length) := by
  unfold sg
  rw [if_neg (by omega)]
theorem sg_last {f g : List Nat} (N : Norm f g) (h : 0 < f.length) {L : Nat} (hL : 0 < L) : sg f g (f.length - 1) ≠ sg f g (f.length - 1 + g.length * L) := by
  have hp := N.pos
  obtain ⟨M, rfl⟩ : ∃ M, L = M + 1 := ⟨L - 1, by omega⟩
  rw [sg_far (n := f.length - 1 + g.length * (M + 1)) (by rw [Nat.mul_succ]; omega)]
  rw [show f.length - 1 + g.length * (M + 1) - f.length = (g.length - 1) + g.length * M by rw [Nat.mul_succ]; omega, lp_add]
  unfold sg
  rw [if_pos (by omega)]
  exact N.last h
/-- in a window of 40: no shorter head -/
theorem no_head {f g : List Nat} (N : Norm f g) (f8 : f.length ≤ 8) (g4 : g.length ≤ 4) {size L : Nat} (hs : size < f.length) (l0 : 0 < L) (l8 : L ≤ 8) (w : ∀ k, size ≤ k → k < 40 - L → sg f g k = sg f g (k + L)) : False := by
  refine sg_last N (by omega) l0 (chain g.length fun j hj => ?_)
  have : (j + 1) * L ≤ 4 * 8 := Nat.mul_le_mul (by omega) l8
  have e : (j + 1) * L = j * L + L := Nat.succ_mul j L
  exact w _ (by omega) (by omega)
theorem no_loop {f g : List Nat} (N : Norm f g) (f8 : f.length ≤ 8) (g4 : g.length ≤ 4) {L : Nat} (l0 : 0 < L) (l8 : L < g.length) (w : ∀ k, f.length ≤ k → k < 40 - L → sg f g k = sg f g (k + L)) : False := by
  obtain ⟨i, hi⟩ := N.prim L l0 l8
  refine hi ?_
  have hm := Nat.mod_lt i N.pos
  have e := w (f.length + i % g.length) (by omega) (by omega)
  rw [sg_far (by omega), sg_far (by omega), show f.length + i % g.length - f.length = i % g.length by omega, show f.length + i % g.length + L - f.length = i % g.length + L by omega, lp_mod] at e
  rw [e]
  unfold lp
  rw [Nat.mod_add_mod]
theorem hits {f g : List Nat} {k : Nat} (h : f.length ≤ k) : sg f g k = sg f g (k + g.length) := by
  rw [sg_far h, sg_far (by omega), show k + g.length - f.length = (k - f.length) + g.length by omega, lp_add1]
/-- of two normal forms of one row the heads are equally long -/
theorem head_le {f g f2 g2 : List Nat} (N2 : Norm f2 g2) (p : 0 < g.length) (e : ∀ n, sg f2 g2 n = sg f g n) : f2.length ≤ f.length := by
  refine Classical.byContradiction fun c => ?_
  refine sg_last N2 (by omega) p ?_
  rw [e, e, Nat.mul_comm]
  have : ∀ j, sg f g (f2.length - 1) = sg f g (f2.length - 1 + j * g.length) := by
    intro j
    refine chain (s := sg f g) j fun i _ => hits (by omega)
  rw [this g2.length, Nat.mul_comm]
theorem sg_map_head {f g : List Nat} {n : Nat} (h : n ≤ f.length) : (List.range n).map (sg f g) = f.take n := by
  refine ext_getD (by rw [List.length_map, List.length_range, List.length_take]; omega) fun i hi => ?_
  rw [List.length_map, List.length_range] at hi
  rw [getD_take hi, List.getD_eq_getElem?_getD, List.getElem?_map, List.getElem?_range hi]
  show sg f g i = _
  unfold sg
  rw [if_pos (by omega)]
/-- the first signs, as they are told -/
theorem first_signs {f g : List Nat} {t n : Nat} (hp : 0 < g.length) (h : n ≤ f.length + t * g.length) : (f ++ rep t g).take n = (List.range n).map (sg f g) := by
  have hl : (f ++ rep t g).length = f.length + t * g.length := by rw [List.length_append, rep_length]
  refine ext_getD (by rw [List.length_map, List.length_range, List.length_take, hl]; omega) fun i hi => ?_
  rw [List.length_take, hl] at hi
  have hi2 : i < n := by omega
  rw [getD_take hi2, List.getD_eq_getElem?_getD (l := List.map _ _), List.getElem?_map, List.getElem?_range hi2]
  show _ = sg f g i
  unfold sg
  by_cases c : i < f.length
  · rw [if_pos c, getD_appL c]
  · rw [if_neg c, getD_appR (by omega), rep_getD t _ (by omega)]
    rfl
theorem map_range_take (s : Nat → Nat) {n m : Nat} (h : m ≤ n) : ((List.range n).map s).take m = (List.range m).map s := by
  rw [← List.map_take, List.take_range, Nat.min_eq_left h]
/-- the piece of the line that is the loop -/
theorem loop_piece {f g : List Nat} {n : Nat} (h : f.length + g.length ≤ n) : (((List.range n).map (sg f g)).drop f.length).take g.length = g := by
  refine ext_getD (by rw [List.length_take, List.length_drop, List.length_map, List.length_range]; omega) fun i hi => ?_
  rw [List.length_take, List.length_drop, List.length_map, List.length_range] at hi
  rw [getD_take (by omega), List.getD_eq_getElem?_getD, List.getElem?_drop, List.getElem?_map, List.getElem?_range (by omega)]
  show sg f g (f.length + i) = _
  rw [sg_far (by omega), show f.length + i - f.length = i by omega, lp_lt (by omega)]
theorem head_piece {f g : List Nat} {n : Nat} (h : f.length ≤ n) : ((List.range n).map (sg f g)).take f.length = f := by
  rw [map_range_take _ h, sg_map_head (Nat.le_refl _), List.take_length]
/-- the same row with a turn of the loop in its head -/
theorem sg_longer {h l : List Nat} (hp : 0 < l.length) {t : Nat} (ht : 0 < t) (n : Nat) : sg (h ++ l) (rep t l) n = sg h l n := by
  unfold sg
  rw [List.length_append]
  by_cases c : n < h.length
  · rw [if_pos c, if_pos (by omega), getD_appL c]
  · rw [if_neg c]
    by_cases c2 : n < h.length + l.length
    · rw [if_pos c2, getD_appR (by omega), lp_lt (by omega)]
    · rw [if_neg c2, lp_rep hp ht, ← lp_add1 l, show n - (h.length + l.length) + l.length = n - h.length by omega]
end Rw

namespace Hx
open PySem PySem.Spec PyProof.Rows L2
section
variable {X : Cx} {CX : CXT} {k : Nat} {f : Addr} {sp : Sp} {E : XK} {x : Str} {e : Expr} {es : List Expr} {t : TA} {p pos : Pos}
/-- x(e, ..), x a def of the module with a star -/
theorem pe_callR (F : FnR X.prog X.w X.K X.mg X.base CX k f sp) (hr : Room k X.A) (hk : PySem.W.keepIn X.K (.ref f) = true) (hg : Gl X x) (hm : X.mg x = some (.ref f)) (hx : Passes CX X E) (ha : PA X (e :: es) t) (hd : (x == ("__debug__" : Str)) = false := by decide)
    (he : starEach (e :: es) X.env = (false, eval e X.env) :: starEach es X.env := by rfl) (hpl : (backTo pos (starEach es X.env)).any (·.1) = false := by rfl) :
    PE X (.Call (.Name x p) (e :: es) [] pos) (fun σ H Q => t σ H fun vs H1 => sp vs H1 Q E) := by
  refine ⟨fun pins s σ H Q I h => ?_⟩
  refine wpAny_Call_Name_kw (ld_glob I hg hm ?_ hd)
  refine PySem.W.callWith_K (h₀ := X.base) I.ok.mod.kin hk (thn (ha.run pos pins s σ H _ I h) fun us s1 ⟨vs, H1, I1, r, q⟩ => ⟨I1.kIn, ?_⟩) he hpl
  exact wpAny_call (run_fnR F hr hx I1 r q)
theorem pe_callR0 (F : FnR X.prog X.w X.K X.mg X.base CX k f sp) (hr : Room k X.A) (hk : PySem.W.keepIn X.K (.ref f) = true) (hg : Gl X x) (hm : X.mg x = some (.ref f)) (hx : Passes CX X E) (hd : (x == ("__debug__" : Str)) = false := by decide) :
    PE X (.Call (.Name x p) [] [] pos) (fun σ H Q => sp [] H Q E) := by
  refine ⟨fun pins s σ H Q I h => ?_⟩
  refine wpAny_Call_Name_kw (ld_glob I hg hm ?_ hd)
  exact PySem.W.callWith_K0 I.kIn hk (wpAny_call (run_fnR F hr hx I .nil h))
theorem bind_star0 {B : List Value → Sem (List (Str × Value))} {pv : Str} (h0 : B [] = (newTuple [] >>= fun t => pure [(pv, t)])) (h1 : ∀ r rs, B (r :: rs) = (newTuple (r :: rs) >>= fun t => pure [(pv, t)])) :
    ∀ us rest : List Value, us.length = ([] : List Str).length → B (us ++ rest) = (newTuple rest >>= fun t => pure (([] : List Str).zip us ++ [(pv, t)]))
  | [], [], _ => h0
  | [], r :: rs, _ => h1 r rs
end
end Hx
namespace Mk
/-- the set of these numbers, as it is kept -/
structure IsNums (ms : List Nat) (s : Kept) : Prop where
  w : s.w = 1
  cy : s.cy = 0
  st : ∀ n, s.st.testBit n = decide (n ∈ ms)
/-- the set of b, b + p, .. -/
structure IsSteps (b p : Nat) (s : Kept) : Prop where
  w : s.w = p
  cy : s.cy = 2 ^ (b % p)
  st : ∀ n, s.st.testBit n = decide (n < b ∧ n % p = b % p)
theorem up_one (L : Nat) : up L 1 = L := by
  unfold up
  omega
theorem up_mod (L : Nat) {W : Nat} (hW : 0 < W) : up L W % W = 0 := by
  unfold up
  have hr := Nat.mod_lt L hW
  have h := Nat.div_add_mod L W
  by_cases c : L % W = 0
  · rw [c, Nat.sub_zero, Nat.mod_self, Nat.add_zero, c]
  · rw [Nat.mod_eq_of_lt (by omega : W - L % W < W)]
    rw [show L + (W - L % W) = W * (L / W + 1) by rw [Nat.mul_add, Nat.mul_one]; omega]
    exact Nat.mul_mod_right _ _
theorem told_nums (ms : List Nat) (many n : Nat) : told (ms.map fun m => (0, m)) many n = decide (n ∈ ms) := by
  unfold told
  induction ms with
  | nil => rfl
  | cons m r ih =>
    rw [List.map_cons, List.any_cons, ih, if_pos rfl]
    by_cases c : m = n
    · subst c
      simp
    · rw [decide_eq_false c, Bool.false_or]
      exact decide_eq_decide.mpr ⟨fun h => List.mem_cons_of_mem _ h, fun h => (List.mem_cons.mp h).resolve_left fun z => c z.symm⟩
theorem told_steps (b p many n : Nat) (hp : p ≠ 0) : told [(p, b)] many n = (decide (b ≤ n) && decide (n < many) && decide ((n - b) % p = 0)) := by
  unfold told
  rw [List.any_cons, List.any_nil, Bool.or_false, if_neg hp]
theorem sub_mod_zero {n b p : Nat} (h : b ≤ n) (hp : 0 < p) : (n - b) % p = 0 ↔ n % p = b % p := by
  constructor
  · intro z
    obtain ⟨k, hk⟩ := Nat.dvd_of_mod_eq_zero z
    rw [show n = b + p * k by omega, Nat.add_mul_mod_self_left]
  · intro z
    have e1 := Nat.div_add_mod n p
    have e2 := Nat.div_add_mod b p
    rw [z] at e1
    have e3 : n - b = p * (n / p) - p * (b / p) := by omega
    rw [e3, ← Nat.mul_sub]
    exact Nat.mul_mod_right _ _
/-- one bit comes not again within -/
theorem one_bit {r p q : Nat} (hr : r < p) (hq : 2 ≤ q) (hd : q ∣ p) : (2 ^ r) / 2 ^ (p / q) ≠ (2 ^ r) % 2 ^ (p - p / q) := by
  intro z
  obtain ⟨h, rfl⟩ := hd
  have hq0 : 0 < q := by omega
  rw [Nat.mul_div_cancel_left _ hq0] at z
  have h2 : 2 * h ≤ q * h := Nat.mul_le_mul_right h hq
  have bit : ∀ i, decide (r = i + h) = (decide (i < q * h - h) && decide (r = i)) := fun i => by
    have := congrArg (fun y => Nat.testBit y i) z
    simpa only [Nat.testBit_div_two_pow, Nat.testBit_mod_two_pow, Nat.testBit_two_pow] using this
  have h1 : 0 < h := by
    rcases Nat.eq_zero_or_pos h with e | e
    · subst e
      omega
    · exact e
  rcases Nat.lt_or_ge r h with c | c
  · have := bit r
    rw [decide_eq_false (by omega), decide_eq_true (by omega), decide_eq_true rfl] at this
    exact Bool.false_ne_true this
  · have := bit (r - h)
    rw [decide_eq_true (by omega), decide_eq_false (p := r = r - h) (by omega), Bool.and_false] at this
    exact Bool.false_ne_true this.symm
theorem nums_made {ms : List Nat} {L bits : Nat} {s : Kept} (hm : ∀ m ∈ ms, m < L) (hb : ∀ n, bits.testBit n = told (ms.map fun m => (0, m)) (L + 1) n) (h1 : s.w = 1) (h2 : s.cy = bits / 2 ^ L)
    (h3 : ∀ n, s.st.testBit n = Bool.xor (decide (n < L) && bits.testBit n) (decide (n < L) && (bits / 2 ^ L).testBit (n % 1))) : IsNums ms s := by
  have z : bits / 2 ^ L = 0 := by
    refine Nat.div_eq_of_lt (Nat.lt_pow_two_of_testBit bits fun i hi => ?_)
    rw [hb, told_nums]
    exact decide_eq_false fun c => by
      have := hm i c
      omega
  refine ⟨h1, by rw [h2, z], fun n => ?_⟩
  rw [h3, z, Nat.zero_testBit, Bool.and_false, Bool.xor_false, hb, told_nums]
  by_cases c : n ∈ ms
  · have := hm n c
    rw [decide_eq_true c, decide_eq_true this]
    rfl
  · rw [decide_eq_false c, Bool.and_false]
theorem steps_bits {b p S bits : Nat} (hp : 0 < p) (hS : b < S) (hS2 : S % p = 0) (hb : ∀ n, bits.testBit n = told [(p, b)] (S + p) n) : bits / 2 ^ S = 2 ^ (b % p) := by
  refine Nat.eq_of_testBit_eq fun i => ?_
  rw [Nat.testBit_div_two_pow, hb, told_steps _ _ _ _ (by omega), Nat.testBit_two_pow, decide_eq_true (by omega), Bool.true_and]
  have hr := Nat.mod_lt b hp
  rw [Bool.eq_iff_iff, Bool.and_eq_true_iff, decide_eq_true_eq, decide_eq_true_eq, decide_eq_true_eq, sub_mod_zero (by omega) hp]
  have e : (i + S) % p = i % p := by
    rw [Nat.add_mod, hS2, Nat.add_zero, Nat.mod_mod]
  rw [e]
  constructor
  · rintro ⟨h, z⟩
    rw [Nat.mod_eq_of_lt (by omega)] at z
    exact z.symm
  · intro z
    subst z
    exact ⟨by omega, Nat.mod_mod _ _⟩
theorem steps_made {b p S bits : Nat} {s : Kept} (hp : 0 < p) (hS : b < S) (hS2 : S % p = 0) (hb : ∀ n, bits.testBit n = told [(p, b)] (S + p) n) (h1 : s.w = p) (h2 : s.cy = bits / 2 ^ S)
    (h3 : ∀ n, s.st.testBit n = Bool.xor (decide (n < S) && bits.testBit n) (decide (n < S) && (bits / 2 ^ S).testBit (n % p))) : IsSteps b p s := by
  have z := steps_bits hp hS hS2 hb
  refine ⟨h1, by rw [h2, z], fun n => ?_⟩
  rw [h3, z, hb, told_steps _ _ _ _ (by omega), Nat.testBit_two_pow]
  by_cases c : n < S
  · rw [decide_eq_true c, Bool.true_and, Bool.true_and, decide_eq_true (p := n < S + p) (by omega), Bool.and_true]
    by_cases d : b ≤ n
    · have e : decide ((n - b) % p = 0) = decide (b % p = n % p) := decide_eq_decide.mpr ((sub_mod_zero d hp).trans ⟨fun x => x.symm, fun x => x.symm⟩)
      rw [decide_eq_true d, Bool.true_and, e, Bool.xor_self, decide_eq_false (by omega)]
    · rw [decide_eq_false d, Bool.false_and, Bool.false_xor]
      exact decide_eq_decide.mpr ⟨fun x => ⟨by omega, x.symm⟩, fun x => x.2.symm⟩
  · rw [decide_eq_false c, Bool.false_and, Bool.false_and, Bool.xor_self, decide_eq_false (by omega)]
end Mk

namespace Mk
/-- a set made of bits, a start and a width -/
structure Means (bits start width : Nat) (s : Kept) : Prop where
  good : s.Good
  w : s.w ∣ width
  st : len s.st ≤ start
  low : ∀ n, n < start → s.mem n = bits.testBit n
  far : ∀ n, start ≤ n → s.mem n = bits.testBit (start + n % width)
theorem means_of {bits start width w x : Nat} (w0 : 0 < width) (sd : width ∣ start) (hb : bits < 2 ^ (start + width)) (L : Least (rep (bits / 2 ^ start) width) w) (wd : w ∣ width) (T : Tiled x (bits / 2 ^ start % 2 ^ w) w start) :
    Means bits start width ⟨w, bits / 2 ^ start % 2 ^ w, bits % 2 ^ start ^^^ x⟩ := by
  have wle := Nat.le_of_dvd w0 wd
  have wp := L.pos
  have rp : ∀ n, rep (bits / 2 ^ start) width n = rep (bits / 2 ^ start % 2 ^ w) w n := fun n => rep_low L.sh wp wle n
  have lst : (bits % 2 ^ start ^^^ x) < 2 ^ start := Nat.xor_lt_two_pow (Nat.mod_lt _ (Nat.two_pow_pos _)) T.lt
  have ll := len_le lst
  refine ⟨⟨?_, Nat.mod_lt _ (Nat.two_pow_pos _)⟩, wd, ll, fun n hn => ?_, fun n hn => ?_⟩
  · have e : rep (bits / 2 ^ start) width = rep (bits / 2 ^ start % 2 ^ w) w := funext rp
    show Least (rep (bits / 2 ^ start % 2 ^ w) w) w
    rw [← e]
    exact L
  · show Bool.xor ((bits / 2 ^ start % 2 ^ w).testBit (n % w)) ((bits % 2 ^ start ^^^ x).testBit n) = _
    rw [Nat.testBit_xor, T n]
    generalize (bits / 2 ^ start % 2 ^ w).testBit (n % w) = c
    rw [Nat.testBit_mod_two_pow, decide_eq_true hn, Bool.true_and, Bool.true_and]
    cases c <;> cases bits.testBit n <;> rfl
  · have e1 : Kept.mem ⟨w, bits / 2 ^ start % 2 ^ w, bits % 2 ^ start ^^^ x⟩ n = rep (bits / 2 ^ start % 2 ^ w) w n := Kept.mem_rep (by show len (bits % 2 ^ start ^^^ x) ≤ n; omega)
    rw [e1, ← rp]
    unfold rep
    rw [Nat.testBit_div_two_pow, Nat.add_comm]
theorem Means.from {bits start width : Nat} {s : Kept} (M : Means bits start width s) : s.From start width := fun n hn => by
  rw [M.far _ (by omega), M.far _ hn, Nat.add_mod_right]
/-- what a frame gives of each operand -/
theorem far_bit {s : Kept} (G : s.Good) {start width : Nat} (sd : width ∣ start) (wd : s.w ∣ width) (ll : len s.st ≤ start) {n : Nat} (hn : start ≤ n) : s.mem (start + n % width) = s.mem n := by
  have w0 := G.least.pos
  rw [Kept.mem_rep (by omega), Kept.mem_rep (by omega)]
  unfold rep
  obtain ⟨k, rfl⟩ := sd
  rw [Nat.add_mod, Nat.mod_mod_of_dvd n wd, Nat.mod_eq_zero_of_dvd (Nat.dvd_trans wd (Nat.dvd_mul_right width k)), Nat.zero_add, Nat.mod_mod]
theorem nums_good {ms : List Nat} {s : Kept} (h : IsNums ms s) : s.Good := by
  have hw := h.w
  have hc := h.cy
  refine ⟨⟨by omega, by rw [hw]; intro n; unfold rep; rw [Nat.mod_one, Nat.mod_one], fun d _ _ => by rw [hw]; exact Nat.one_dvd d⟩, ?_⟩
  rw [hc]
  exact Nat.two_pow_pos _
theorem steps_good {b p : Nat} {s : Kept} (hp : 0 < p) (h : IsSteps b p s) : s.Good := by
  have hw := h.w
  have hc := h.cy
  have lt : s.cy < 2 ^ s.w := by
    rw [hc, hw]
    exact (Nat.pow_lt_pow_iff_right (by decide)).mpr (Nat.mod_lt b hp)
  refine ⟨⟨by omega, rep_sh _ _, fun d d0 hd => ?_⟩, lt⟩
  have hg := (rep_sh s.cy s.w).gcd hd
  have g1 : Nat.gcd s.w d ∣ s.w := Nat.gcd_dvd_left _ _
  have g2 : Nat.gcd s.w d ∣ d := Nat.gcd_dvd_right _ _
  generalize Nat.gcd s.w d = g at hg g1 g2
  have g0 : 0 < g := Nat.pos_of_dvd_of_pos g1 (by omega)
  obtain ⟨k, hk⟩ := g1
  by_cases c : k = 1
  · rw [hk, c, Nat.mul_one]
    exact g2
  · have k0 : k ≠ 0 := fun z => by
      rw [z] at hk
      omega
    have e := (sh_iff lt g0 ⟨k, hk⟩ (by omega)).mpr hg
    rw [hc] at e
    have eg : s.w / k = g := by rw [hk, Nat.mul_div_cancel _ (by omega)]
    refine (one_bit (r := b % p) (p := s.w) (q := k) (by rw [hw]; exact Nat.mod_lt b hp) (by omega) ⟨g, by rw [hk, Nat.mul_comm]⟩ ?_).elim
    rw [eg]
    exact e
end Mk
namespace Wp
open PySem PySem.Spec PyProof.Rows L2 Hx
def spInitG (C : Addr) : Sp := fun vs H Q _ => ∃ (a dx : Addr) (bits start width : Nat), vs = [.ref a, .int (bits : Int), .int (start : Int), .int (width : Int)] ∧ H a = some (.ins C dx []) ∧ 1 ≤ width ∧ width ≤ 5000 ∧ start ≤ 20000 ∧ width ∣ start ∧ bits < 2 ^ (start + width) ∧
  ∀ s H', Mk.Means bits start width s → But a H H' → H' a = some (.ins C dx (flds s)) → Q .non H'
section
variable {P : Program} {w : World} {K : PySem.W.Frag} {mg : Str → Option Value} {base : Heap} {f f1 f2 f3 C : Addr} {fd fd1 fd2 fd3 : FuncData}
theorem ok_initG (F : Fun K "__init__" "Places.__init__" s_Places_init f fd) (R : Pd K mg C)
    (G1 : FnOk P w K mg base CX0 3 f1 fd1 ["pattern", "width"] spLeastG) (b1 : Binds K fd1 ["pattern", "width"] []) (k1 : PySem.W.keepIn K (.ref f1) = true) (m1 : mg "least_width" = some (.ref f1))
    (G2 : FnOk P w K mg base CX0 2 f2 fd2 ["bits", "many"] spLow) (b2 : Binds K fd2 ["bits", "many"] []) (k2 : PySem.W.keepIn K (.ref f2) = true) (m2 : mg "low" = some (.ref f2))
    (G3 : FnOk P w K mg base CX0 3 f3 fd3 ["pattern", "width", "many"] spTiled) (b3 : Binds K fd3 ["pattern", "width", "many"] []) (k3 : PySem.W.keepIn K (.ref f3) = true) (m3 : mg "tiled" = some (.ref f3)) :
    FnOk P w K mg base CX0 4 f fd ["self", "bits", "start", "width"] (spInitG C) := by
  refine F.ok scInitP (fun vs H Q E h => ?_) (fun cdv A outer s H vs Q E hr h => ?_)
  · obtain ⟨a, dx, x, y, z, rfl, _⟩ := h
    rfl
  obtain ⟨a, dx, bits, start, width, rfl, ha, w1, w2, s1, sd, bl, q⟩ := h
  have r2 := hr.mono (by decide : 2 ≤ 3)
  refine ⟨_, pss_cons (ps_set (i := 4) scInitP.nd rfl (Or.inl rfl) (pe_op op_shrN (pv 1) (pv 2)))
    (pss_cons (ps_fld (pv 0) (pe_call G1 hr rfl m1 k1 b1 .nil pass0 (pa_cons (pv 4) (pa_cons (pv 3) pa_nil))) rfl)
    (pss_cons (ps_fld (pv 0) (pe_call G2 r2 rfl m2 k2 b2 .nil pass0 (pa_cons (pv 4) (pa_cons (pe_fld (pv 0) rfl) pa_nil))) rfl)
    (pss_one (ps_fld (pv 0) (pe_op op_xor (pe_call G2 r2 rfl m2 k2 b2 .nil pass0 (pa_cons (pv 1) (pa_cons (pv 2) pa_nil)))
      (pe_call G3 hr rfl m3 k3 b3 .nil pass0 (pa_cons (pe_fld (pv 0) rfl) (pa_cons (pe_fld (pv 0) rfl) (pa_cons (pv 2) pa_nil))))) rfl)))), ?_⟩
  have lt : bits / 2 ^ start < 2 ^ width := by
    rw [Nat.pow_add, Nat.mul_comm] at bl
    exact Nat.div_lt_of_lt_mul (by rwa [Nat.mul_comm] at bl)
  refine ⟨_, rfl, _, rfl, (bits : Int), start, rfl, rfl, ?_⟩
  rw [Mk.div_ct]
  refine ⟨_, rfl, _, rfl, bits / 2 ^ start, width, rfl, w1, w2, lt, fun v H1 L vd t1 => ?_⟩
  have vle := Nat.le_of_dvd w1 vd
  refine ⟨_, rfl, a, C, dx, _, rfl, t1 _ _ ha, R.cl, R.nW, (by show 0 < 1000; decide), ?_⟩
  refine ⟨_, rfl, _, rfl, a, C, dx, _, _, rfl, upd_same, R.cl, R.nW, rfl, bits / 2 ^ start, v, rfl, by omega, ?_⟩
  refine ⟨_, rfl, a, C, dx, _, rfl, upd_same, R.cl, R.nC, (by show 1 < 1000; decide), ?_⟩
  refine ⟨_, rfl, _, rfl, bits, start, rfl, by omega, ?_⟩
  refine ⟨_, rfl, a, C, dx, _, _, rfl, upd_same, R.cl, R.nC, rfl, _, rfl, a, C, dx, _, _, rfl, upd_same, R.cl, R.nW, rfl, _, rfl, bits / 2 ^ start % 2 ^ v, v, start, rfl, L.pos, by omega, Nat.mod_lt _ (Nat.two_pow_pos _), s1, fun x T => ?_⟩
  refine ⟨_, _, rfl, rfl, ?_⟩
  dsimp only
  rw [Mk.bxor]
  refine ⟨_, rfl, a, C, dx, _, rfl, upd_same, R.cl, R.nS, (by show 2 < 1000; decide), ?_⟩
  refine q ⟨v, bits / 2 ^ start % 2 ^ v, bits % 2 ^ start ^^^ x⟩ _ (Mk.means_of w1 sd bl L vd T) ?_ upd_same
  exact (((But.of t1).upd _).upd _).upd _
end
end Wp

namespace Mk
/-- the set s tells of each place what g tells of two sets -/
structure OpOf (g : Bool → Bool → Bool) (s1 s2 s : Kept) : Prop where
  good : s.Good
  mem : ∀ n, s.mem n = g (s1.mem n) (s2.mem n)
theorem op_means {g : Bool → Bool → Bool} {s1 s2 s : Kept} {bits start width : Nat} (G1 : s1.Good) (G2 : s2.Good) (sd : width ∣ start) (d1 : s1.w ∣ width) (d2 : s2.w ∣ width) (w0 : 0 < width) (l1 : len s1.st ≤ start) (l2 : len s2.st ≤ start)
    (hb : ∀ n, bits.testBit n = (decide (n < start + width) && g (s1.mem n) (s2.mem n))) (M : Means bits start width s) : OpOf g s1 s2 s := by
  refine ⟨M.good, fun n => ?_⟩
  by_cases c : n < start
  · rw [M.low n c, hb, decide_eq_true (by omega), Bool.true_and]
  · have hm := Nat.mod_lt n w0
    rw [M.far n (by omega), hb, decide_eq_true (by omega), Bool.true_and, far_bit G1 sd d1 l1 (by omega), far_bit G2 sd d2 l2 (by omega)]
theorem bits_lt2 {bits many : Nat} {f : Nat → Bool} (hb : ∀ n, bits.testBit n = (decide (n < many) && f n)) : bits < 2 ^ many := Nat.lt_pow_two_of_testBit bits fun i hi => by
  rw [hb, decide_eq_false (by omega), Bool.false_and]
theorem full_bit (many n : Nat) : (2 ^ many - 1).testBit n = decide (n < many) := Nat.testBit_two_pow_sub_one many n
end Mk
namespace Hx
open PySem PySem.Spec PyProof.Rows L2
/-- the class at C has the operator by a def of its own, and no error comes -/
structure BinOwn0 (P : Program) (w : World) (K : PySem.W.Frag) (mg : Str → Option Value) (base : Heap) (k : Nat) (C : Addr) (op : Operator) (sp : Sp) : Prop where
  go : ∃ (g : Addr) (fd : FuncData) (ps : List Str), PySem.W.findIn K (.ref C) (PySem.dunder op.info.2) = some (some (.ref g)) ∧ PySem.W.isFn K (.ref g) = true ∧ FnOk P w K mg base CX0 k g fd ps sp ∧ Binds K fd ps []
  first : PySem.W.selfFirst K C = true
def rBin0 (P : Program) (w : World) (K : PySem.W.Frag) (mg : Str → Option Value) (base : Heap) (k : Nat) (op : Operator) : R2 := fun x y H Q => ∃ (a b C dx dy : Addr) (fs gs : List (Str × V)) (sp : Sp), x = .ref a ∧ y = .ref b ∧ H a = some (.ins C dx fs) ∧ H b = some (.ins C dy gs) ∧
  BinOwn0 P w K mg base k C op sp ∧ sp [x, y] H (fun v H' => ∃ r, v = .ref r ∧ Q (.ref r) H') E0
section
variable {X : Cx} {k : Nat} {op : Operator}
/-- x op y, both own objects of one class -/
theorem op_bin0 (hr : Room k X.A) : OpR X (binaryOp op) (rBin0 X.prog X.w X.K X.mg X.base k op) := by
  intro pins s σ H x y v u Q I rx ry h
  obtain ⟨a, b, C, dx, dy, fs, gs, sp, rfl, rfl, ha, hb, T, q⟩ := h
  cases (show v = Value.ref a from rx)
  cases (show u = Value.ref b from ry)
  obtain ⟨g, fd, ps, h1, h2, F, bb⟩ := T.go
  obtain ⟨mA, O, _⟩ := ins_get I.hok ha
  obtain ⟨od, J, _⟩ := O.look
  obtain ⟨mB, OB, _⟩ := ins_get I.hok hb
  obtain ⟨odB, JB, _⟩ := OB.look
  obtain ⟨m, hF⟩ := I.fr
  refine PySem.W.binop_K hF I.ok.mod.kin J JB.type T.first h1 h2 ?_
  refine wpAny_mono (run_below F hr I.env0 bb I (.cons rx (.cons ry .nil)) q) (fun w' s' z => ?_) fun _ _ e => e
  obtain ⟨z', H', I', rz, r', rfl, qz⟩ := z
  cases (show w' = Value.ref r' from rz)
  exact ⟨.ref r', H', I', rfl, qz⟩
end
end Hx
namespace Wp
open PySem PySem.Spec PyProof.Rows L2 Hx
def spLcm : Sp := fun vs H Q _ => ∃ x y : Nat, vs = [.int (x : Int), .int (y : Int)] ∧ 1 ≤ x ∧ 1 ≤ y ∧ x ≤ 5000 ∧ y ≤ 5000 ∧ Q (.int (Nat.lcm x y : Nat)) H
def spFrame (C : Addr) : Sp := fun vs H Q _ => ∃ (a b : Addr) (s1 s2 : Mk.Kept), vs = [.ref a, .ref b] ∧ PlAt C H a s1 ∧ PlAt C H b s2 ∧ 1 ≤ s1.w ∧ 1 ≤ s2.w ∧ s1.w ≤ 5000 ∧ s2.w ≤ 5000 ∧
  ∀ p H', Same H H' → H' p = some (.tup [.int (Mk.up (max (Mk.len s1.st) (Mk.len s2.st)) (Nat.lcm s1.w s2.w) : Nat), .int (Nat.lcm s1.w s2.w : Nat)]) → Q (.ref p) H'
def spCkP (C : Addr) : Sp := fun vs H Q _ => ∃ (a : Addr) (s : Mk.Kept), vs = [.ref a] ∧ PlAt C H a s ∧ Q .non H
def spOpp : Sp := fun vs H Q _ => ∃ x many : Nat, vs = [.int (x : Int), .int (many : Int)] ∧ many ≤ 100000 ∧ Q (.int ((x ^^^ (2 ^ many - 1) : Nat) : Int)) H
def spBinP (C : Addr) (g : Bool → Bool → Bool) : Sp := fun vs H Q _ => ∃ (a b : Addr) (s1 s2 : Mk.Kept), vs = [.ref a, .ref b] ∧ PlAt C H a s1 ∧ PlAt C H b s2 ∧ s1.Good ∧ s2.Good ∧ Nat.lcm s1.w s2.w ≤ 2000 ∧ Mk.len s1.st ≤ 5000 ∧ Mk.len s2.st ≤ 5000 ∧
  ∀ c s H', Same H H' → PlAt C H' c s → Mk.OpOf g s1 s2 s → Q (.ref c) H'
section
variable {P : Program} {w : World} {K : PySem.W.Frag} {mg : Str → Option Value} {base : Heap} {f f1 f2 f3 f4 f5 C : Addr} {fd fd1 fd2 fd3 fd4 fd5 : FuncData}
theorem scLcm : FnScope ["one", "other", "left", "right"] ["one", "other"] (defScope s_common_width) := ⟨rfl, rfl, rfl, by decide +kernel, rfl, by decide +kernel, by decide +kernel⟩
theorem ok_lcm (F : Fun K "common_width" "common_width" s_common_width f fd) : FnOk P w K mg base CX0 1 f fd ["one", "other"] spLcm := by
  refine F.ok scLcm (fun vs H Q E h => ?_) (fun cdv A outer s H vs Q E hr h => ?_)
  · obtain ⟨x, y, rfl, _⟩ := h
    rfl
  obtain ⟨x, y, rfl, x1, y1, x2, y2, q⟩ := h
  refine ⟨_, pss_cons (ps_par (i := 2) (j := 3) rfl scLcm.nd rfl rfl (by decide) rfl rfl (pa_cons (pv 0) (pa_cons (pv 1) pa_nil)) rfl)
    (pss_cons (ps_while PassesOwn.never (pt_cmpR op_gt (pv 3) pe_int (nomark _)) (pss_one (ps_par (i := 2) (j := 3) rfl scLcm.nd rfl rfl (by decide) rfl rfl (pa_cons (pv 3) (pa_cons (pe_op op_mod (pv 2) (pv 3)) pa_nil)) rfl)))
    (pss_one (ps_ret (pe_op op_fdiv (pe_op op_mul (pv 0) (pv 1)) (pv 2))))), ?_⟩
  refine ⟨_, rfl, _, rfl, ⟨_, _, rfl, ?_⟩⟩
  refine ⟨fun m σ H' => ∃ l r : Nat, σ = [some (.int (x : Int)), some (.int (y : Int)), some (.int (l : Int)), some (.int (r : Int))] ∧ H = H' ∧ 1 ≤ l ∧ l ≤ 5000 ∧ r ≤ 5000 ∧ Nat.gcd l r = Nat.gcd x y ∧ m = r, ⟨_, x, y, rfl, rfl, x1, x2, y2, rfl, rfl⟩, ?_⟩
  rintro m σ _ ⟨l, r, rfl, rfl, l1, l2, l3, hg, hm⟩
  refine ⟨_, rfl, _, _, rfl, rfl, _, rfl, ?_⟩
  refine ite2 (fun c => ?_) (fun c => ?_)
  · have r1 : 1 ≤ r := by
      have := of_decide_eq_true c
      omega
    refine ⟨fun σ H' => ∃ l' r' : Nat, σ = [some (.int (x : Int)), some (.int (y : Int)), some (.int (l' : Int)), some (.int (r' : Int))] ∧ H = H' ∧ 1 ≤ l' ∧ l' ≤ 5000 ∧ r' ≤ 5000 ∧ Nat.gcd l' r' = Nat.gcd x y ∧ r' < r, ?_, ?_⟩
    · rintro σ' H' ⟨l', r', a1, a2, a3, a4, a5, a6, a7⟩
      exact ⟨r', by omega, l', r', a1, a2, a3, a4, a5, a6, rfl⟩
    · refine ⟨_, rfl, _, rfl, _, rfl, _, _, rfl, rfl, by omega, ⟨_, _, rfl, ?_⟩⟩
      have lt := Nat.mod_lt l r1
      refine ⟨r, l % r, ?_, rfl, r1, l3, by omega, ?_, lt⟩
      · dsimp only
        rw [← Int.natCast_emod]
        rfl
      · rw [← hg, Nat.gcd_comm r (l % r), ← Nat.gcd_rec, Nat.gcd_comm]
  · have r0 : r = 0 := by
      have : ¬ (r : Int) > 0 := fun z => c (decide_eq_true z)
      omega
    subst r0
    rw [Nat.gcd_zero_right] at hg
    refine ⟨_, rfl, _, rfl, _, _, rfl, rfl, .inl ⟨by omega, by omega⟩, _, rfl, _, _, rfl, rfl, ⟨by omega, by omega⟩, ?_⟩
    dsimp only
    rw [← Int.natCast_mul, ← Int.natCast_ediv, hg]
    exact q
end
end Wp

namespace Wp
open PySem PySem.Spec PyProof.Rows L2 Hx
def spWithinN : Sp := fun vs H Q _ => ∃ i l m : Int, vs = [.int i, .int l, .int m] ∧ l ≤ i ∧ i ≤ m ∧ Q (.bl true) H
def spCkWN : Sp := fun vs H Q _ => ∃ i l m : Int, vs = [.int i, .int l, .int m] ∧ l ≤ i ∧ i ≤ m ∧ Q .non H
def spNumsB (C : Addr) : Sp := fun vs H Q _ => ∃ (pi : Addr) (ms : List Nat), vs = [.ref pi] ∧ H pi = some (.tup (nats ms)) ∧ ms.length ≤ 50 ∧ (∀ m ∈ ms, m ≤ 1000) ∧ ∀ a s H', Same H H' → PlAt C H' a s → Mk.IsNums ms s → Q (.ref a) H'
def spNums (C : Addr) : Sp := fun vs H Q E => ∃ ws rest : List V, vs = ws ++ rest ∧ ws.length = ([] : List Str).length ∧ rest.length ≤ sizeLine ∧ ∀ p, H p = Option.none → spNumsB C (ws ++ [V.ref p]) (upd H p (.tup rest)) Q E
def spSteps (C : Addr) : Sp := fun vs H Q _ => ∃ b p : Nat, vs = [.int (b : Int), .int (p : Int)] ∧ b ≤ 1000 ∧ 1 ≤ p ∧ p ≤ 12 ∧ ∀ a s H', Same H H' → PlAt C H' a s → Mk.IsSteps b p s → Q (.ref a) H'
section
variable {P : Program} {w : World} {K : PySem.W.Frag} {mg : Str → Option Value} {base : Heap} {f f1 f2 f3 C : Addr} {fd fd1 fd2 fd3 : FuncData}
theorem scIsIntN : FnScope ["value"] ["value"] (defScope s_is_integer) := ⟨rfl, rfl, rfl, by decide +kernel, rfl, by decide +kernel, by decide +kernel⟩
theorem ok_isintN (F : Fun K "is_integer" "is_integer" s_is_integer f fd) (Z : Bp mg) : FnOk P w K mg base CX0 1 f fd ["value"] spIsIntN := by
  refine F.ok scIsIntN (fun vs H Q E h => ?_) (fun cdv A outer s H vs Q E hr h => ?_)
  · obtain ⟨i, rfl, _⟩ := h
    rfl
  obtain ⟨i, rfl, q⟩ := h
  refine ⟨_, pss_one (ps_ret (pe_and (pe_callB call_isi (by rfl) Z.isinstance PyProof.Rows.boot_isinstance (pa_cons (pv 0) (pa_cons (pe_bty (T := "int") rfl Z.int (by decide +kernel)) pa_nil)))
    (pe_one (pe_not (pe_callB call_isi (by rfl) Z.isinstance PyProof.Rows.boot_isinstance (pa_cons (pv 0) (pa_cons (pe_bty (T := "bool") rfl Z.bool (by decide +kernel)) pa_nil))))))), ?_⟩
  refine ⟨_, rfl, _, _, .type "int", _, true, rfl, .ty "int", .base (.int i), kit_ty (by decide +kernel), _, rfl, iteT ?_⟩
  exact ⟨_, rfl, _, _, .type "int", _, false, rfl, .ty "bool", .base (.int i), kit_ty (by decide +kernel), _, rfl, q⟩
theorem scWithinN : FnScope ["value", "least", "most"] ["value", "least", "most"] (defScope s_is_within) := ⟨rfl, rfl, rfl, by decide +kernel, rfl, by decide +kernel, by decide +kernel⟩
theorem ok_withinN (F : Fun K "is_within" "is_within" s_is_within f fd) (GI : FnOk P w K mg base CX0 1 f1 fd1 ["value"] spIsIntN) (bI : Binds K fd1 ["value"] []) (kI : PySem.W.keepIn K (.ref f1) = true) (mI : mg "is_integer" = some (.ref f1)) :
    FnOk P w K mg base CX0 2 f fd ["value", "least", "most"] spWithinN := by
  refine F.ok scWithinN (fun vs H Q E h => ?_) (fun cdv A outer s H vs Q E hr h => ?_)
  · obtain ⟨v, l, m, rfl, _⟩ := h
    rfl
  obtain ⟨i, l, m, rfl, h1, h2, q⟩ := h
  refine ⟨_, pss_one (ps_ret (pe_and (pe_call GI hr rfl mI kI bI .nil pass0 (pa_cons (pv 0) pa_nil)) (pe_one (pe_chain op_le op_le (pv 1) (pv 0) (pv 2))))), ?_⟩
  refine ⟨_, rfl, i, rfl, _, rfl, iteT ?_⟩
  refine ⟨_, rfl, _, rfl, _, _, rfl, rfl, _, rfl, ?_⟩
  rw [decide_eq_true h1]
  refine iteT ⟨_, rfl, _, _, rfl, rfl, ?_⟩
  dsimp only
  rw [decide_eq_true h2]
  exact q
theorem scCkWN : FnScope ["given", "least", "most"] ["given", "least", "most"] (defScope s_check_within) := ⟨rfl, rfl, rfl, by decide +kernel, rfl, by decide +kernel, by decide +kernel⟩
theorem ok_ckWN (F : Fun K "check_within" "check_within" s_check_within f fd) (GI : FnOk P w K mg base CX0 2 f1 fd1 ["value", "least", "most"] spWithinN) (bI : Binds K fd1 ["value", "least", "most"] []) (kI : PySem.W.keepIn K (.ref f1) = true) (mI : mg "is_within" = some (.ref f1)) :
    FnOk P w K mg base CX0 3 f fd ["given", "least", "most"] spCkWN := by
  refine F.ok scCkWN (fun vs H Q E h => ?_) (fun cdv A outer s H vs Q E hr h => ?_)
  · obtain ⟨v, l, m, rfl, _⟩ := h
    rfl
  obtain ⟨i, l, m, rfl, h1, h2, q⟩ := h
  refine ⟨_, pss_one (ps_if (pt_not (pt_val (pe_call GI hr rfl mI kI bI .nil pass0 (pa_cons (pv 0) (pa_cons (pv 1) (pa_cons (pv 2) pa_nil)))))) (pss_one ps_dead) pss_nil), ?_⟩
  exact ⟨_, rfl, _, rfl, _, rfl, i, l, m, rfl, h1, h2, _, rfl, iteF q⟩
def NN : List Str := ["members", "member"]
theorem scNums : FnScope NN (([] : List Str) ++ [("members" : Str)]) (defScope s_numbers) := ⟨rfl, rfl, rfl, by decide +kernel, rfl, by decide +kernel, by decide +kernel⟩
theorem max_ex (a : Nat) : ∀ l : List Nat, ∃ m, IsMax m (a :: l)
  | [] => ⟨a, List.mem_cons_self, fun y hy => by rw [List.mem_singleton.mp hy]; exact Nat.le_refl _⟩
  | b :: r => by
    obtain ⟨m, h1, h2⟩ := max_ex b r
    rcases Nat.le_total a m with c | c
    · exact ⟨m, List.mem_cons_of_mem _ h1, fun y hy => by
        rcases List.mem_cons.mp hy with rfl | z
        · exact c
        · exact h2 y z⟩
    · exact ⟨a, List.mem_cons_self, fun y hy => by
        rcases List.mem_cons.mp hy with rfl | z
        · exact Nat.le_refl _
        · exact Nat.le_trans (h2 y z) c⟩
theorem PrsAt.updL {H : Hp} {D : Addr} {acc z : List V} {vs : List V} {l : List (Nat × Nat)} (hD : H D = some (.lst acc)) (h : PrsAt H vs l) : PrsAt (upd H D (.lst z)) vs l :=
  ⟨h.1, fun i v hv => (h.2 i v hv).imp fun t q => q.imp fun x r => ⟨r.1, r.2.1, by
    have n : t ≠ D := fun e => by
      have := r.2.2
      rw [e, hD] at this
      cases this
    rw [upd_ne n]
    exact r.2.2⟩⟩
theorem PrsAt.snoc {H : Hp} {vs : List V} {l : List (Nat × Nat)} {t : Addr} {x : Nat × Nat} (h : PrsAt H vs l) (ht : H t = some (.tup [V.int (x.1 : Int), V.int (x.2 : Int)])) : PrsAt H (vs ++ [V.ref t]) (l ++ [x]) := by
  refine ⟨by rw [List.length_append, List.length_append, h.1]; rfl, fun i v hv => ?_⟩
  by_cases c : i < vs.length
  · rw [List.getElem?_append_left c] at hv
    obtain ⟨t', x', a, b, d⟩ := h.2 i v hv
    exact ⟨t', x', a, by rw [List.getElem?_append_left (by rw [← h.1]; exact c)]; exact b, d⟩
  · rw [List.getElem?_append_right (by omega)] at hv
    obtain ⟨e1, e2⟩ : i - vs.length = 0 ∧ v = V.ref t := by
      cases k : i - vs.length with
      | zero =>
        rw [k] at hv
        exact ⟨rfl, (Option.some.inj hv).symm⟩
      | succ n =>
        rw [k] at hv
        cases hv
    have hl := h.1
    exact ⟨t, x, e2, by rw [List.getElem?_append_right (by omega), ← hl, e1]; rfl, ht⟩
theorem ok_nums (F : Fun K "numbers" "numbers" s_numbers f fd) {t : Tok} (mM : mg "MOST_MEMBER" = some (.int 1000 t))
    (G1 : FnOk P w K mg base CX0 3 f1 fd1 ["given", "least", "most"] spCkWN) (b1 : Binds K fd1 ["given", "least", "most"] []) (k1 : PySem.W.keepIn K (.ref f1) = true) (m1 : mg "check_within" = some (.ref f1))
    (G2 : FnOk P w K mg base CX0 6 f2 fd2 ["pairs"] (spGath C)) (b2 : Binds K fd2 ["pairs"] []) (k2 : PySem.W.keepIn K (.ref f2) = true) (m2 : mg "gathered" = some (.ref f2)) :
    FnR P w K mg base CX0 7 f (spNums C) := by
  obtain ⟨oc, od, kV, doc, pm, an, cdv, ct, osl, rfl, lk, hcd⟩ := F.ex
  refine StX.fn_star (ps := []) (pv := "members") (sp := spNumsB C) lk hcd scNums StX.cxUp_none (bind_star0 (B := fun us => bindArgs (PySem.W.fnOf "numbers" "numbers" (defArgs s_numbers) (defBody s_numbers) (defScope s_numbers) .none kV doc pm an cdv ct) ⟨us, []⟩) rfl fun r rs => rfl) fun A outer s H vs Q E hr h => ?_
  obtain ⟨pi, ms, rfl, hpi, few, hm, q⟩ := h
  have r3 := hr.mono (by decide : 3 ≤ 6)
  refine ⟨_, PSs.nox (pss_cons (ps_for PassesOwn.never rfl (pi_tup (pv 0)) (pg_name (i := 1) scNums.nd rfl (Or.inl rfl)) (pss_one (ps_expr (pe_call G1 r3 rfl m1 k1 b1 .nil pass0 (pa_cons (pv 1) (pa_cons pe_int (pa_cons (pe_gint rfl mM) pa_nil)))))))
    (pss_one (ps_ret (pe_call G2 hr rfl m2 k2 b2 .nil pass0 (pa_cons (pe_lc (own := [("member", 1)]) (g := gName 1) (tt := tYes) rfl scNums.nd (pi_tup (pv 0)) (blkOk_by (N := NN) (sc := defScope s_numbers) (by decide +kernel))
      (fun _ _ _ _ _ => pg_name (i := 1) scNums.nd rfl (Or.inl rfl)) (fun _ _ _ _ _ => pts_nil) (fun _ _ _ _ _ => pe_tup (pa_cons pe_int (pa_cons (pv 1) pa_nil)))) pa_nil))))), ?_⟩
  have len : (nats ms).length = ms.length := nats_len ms
  refine ⟨_, rfl, pi, rfl, ⟨_, SqT.of hpi⟩, for_tup (K := K) (a := pi) (xs := nats ms) (fun _ σ H' => H = H' ∧ ∃ v : Option V, σ = [some (.ref pi), v]) ⟨rfl, _, rfl⟩ (fun _ _ _ _ h => SqT.of (h.1 ▸ hpi)) ?_ ?_⟩
  · rintro i v σ _ hv ⟨rfl, u, rfl⟩
    obtain ⟨m, mm, rfl⟩ := List.mem_map.mp (List.mem_of_getElem? hv)
    have := hm m mm
    exact ⟨_, rfl, (m : Int), 0, 1000, rfl, by omega, by omega, rfl, _, rfl⟩
  rintro σ _ ⟨rfl, u, rfl⟩
  refine ⟨_, rfl, pi, rfl, ⟨_, SqT.of hpi⟩, fun D hD => ?_⟩
  refine lc_tup (K := K) (a := pi) (xs := nats ms) (fun i H' => Same H H' ∧ ∃ vs, H' D = some (.lst vs) ∧ vs.length = min i ms.length ∧ PrsAt H' vs ((ms.take i).map fun m => (0, m))) ⟨same_new hD _, [], upd_same, by simp, rfl, fun i v hv => by cases hv⟩ (fun _ _ _ h => SqT.of (h.1 _ _ hpi)) ?_ ?_
  · rintro i v H1 hv ⟨s1, vs, hD1, l1, pr⟩
    obtain ⟨m, mm, rfl⟩ := List.mem_map.mp (List.mem_of_getElem? hv)
    have hi : ms[i]? = some m := by
      unfold nats at hv
      rw [List.getElem?_map] at hv
      obtain ⟨m', h1, h2⟩ := Option.map_eq_some_iff.mp hv
      have := V.int.inj h2
      rw [h1]
      exact congrArg some (by omega)
    refine ⟨rfl, turn_yes ?_⟩
    refine ⟨_, rfl, (by show 2 ≤ sizeLine; decide), fun T hT => ?_⟩
    have hD2 := upd_other (o := .tup [V.int 0, V.int (m : Int)]) hD1 hT
    refine ⟨vs, hD2, ?_, ?_⟩
    · rw [l1, sizeLine_eq]
      omega
    have s2 := s1.trans (same_new hT (.tup [V.int 0, V.int (m : Int)]))
    refine ⟨same_at hD s2, _, upd_same, ?_, ?_⟩
    · have : i < ms.length := (List.getElem?_eq_some_iff.mp hi).1
      rw [List.length_append, l1]
      show min i ms.length + 1 = _
      omega
    · rw [List.take_succ, hi, List.map_append]
      exact PrsAt.updL hD2 (PrsAt.snoc (x := (0, m)) (pr.same (same_new hT _)) upd_same)
  · rintro H1 ⟨s1, vs, hD1, l1, pr⟩
    rw [len, List.take_length] at pr
    obtain ⟨L, mL⟩ : ∃ L, IsMax L (0 :: (ms.map fun m => (0, m)).map fun x : Nat × Nat => x.2 + 1) := max_ex _ _
    have lm : ∀ m ∈ ms, m < L := fun m mm => by
      have := mL.2 (m + 1) (List.mem_cons_of_mem _ (List.mem_map.mpr ⟨(0, m), List.mem_map.mpr ⟨m, mm, rfl⟩, rfl⟩))
      omega
    have L1 : L ≤ 10000 := by
      rcases List.mem_cons.mp mL.1 with z | z
      · omega
      · obtain ⟨x, hx, e⟩ := List.mem_map.mp z
        obtain ⟨m, mm, rfl⟩ := List.mem_map.mp hx
        have := hm m mm
        show L ≤ 10000
        have e' : m + 1 = L := e
        omega
    refine ⟨D, vs, _, 1, L, rfl, hD1, pr, by rw [List.length_map]; omega, ⟨List.mem_cons_self, fun y hy => ?_⟩, mL, by omega, L1, fun bits hb q0 q2 qd => ?_, fun bits s hb md a H2 s2 pl => ?_⟩
    · rcases List.mem_cons.mp hy with z | z
      · omega
      · obtain ⟨x, hx, e⟩ := List.mem_map.mp z
        obtain ⟨m, mm, rfl⟩ := List.mem_map.mp hx
        have e' : 0 = y := e
        omega
    · have := Nat.le_of_dvd (by decide) qd
      omega
    · rw [Mk.up_one] at hb md
      exact q a s H2 (s1.trans s2) pl (Mk.nums_made lm hb md.w md.cy md.st)
end
end Wp

namespace Wp
open PySem PySem.Spec PyProof.Rows L2 Hx
section
variable {P : Program} {w : World} {K : PySem.W.Frag} {mg : Str → Option Value} {base : Heap} {f f1 f2 f3 C : Addr} {fd fd1 fd2 fd3 : FuncData}
theorem scSteps : FnScope ["first", "step"] ["first", "step"] (defScope s_steps) := ⟨rfl, rfl, rfl, by decide +kernel, rfl, by decide +kernel, by decide +kernel⟩
theorem ok_steps (F : Fun K "steps" "steps" s_steps f fd) {t t2 : Tok} (mM : mg "MOST_MEMBER" = some (.int 1000 t)) (mS : mg "MOST_STEP" = some (.int 12 t2))
    (G1 : FnOk P w K mg base CX0 3 f1 fd1 ["given", "least", "most"] spCkWN) (b1 : Binds K fd1 ["given", "least", "most"] []) (k1 : PySem.W.keepIn K (.ref f1) = true) (m1 : mg "check_within" = some (.ref f1))
    (G2 : FnOk P w K mg base CX0 6 f2 fd2 ["pairs"] (spGath C)) (b2 : Binds K fd2 ["pairs"] []) (k2 : PySem.W.keepIn K (.ref f2) = true) (m2 : mg "gathered" = some (.ref f2)) :
    FnOk P w K mg base CX0 7 f fd ["first", "step"] (spSteps C) := by
  refine F.ok scSteps (fun vs H Q E h => ?_) (fun cdv A outer s H vs Q E hr h => ?_)
  · obtain ⟨b, p, rfl, _⟩ := h
    rfl
  obtain ⟨b, p, rfl, hb, p1, p2, q⟩ := h
  have r3 := hr.mono (by decide : 3 ≤ 6)
  refine ⟨_, pss_cons (ps_expr (pe_call G1 r3 rfl m1 k1 b1 .nil pass0 (pa_cons (pv 0) (pa_cons pe_int (pa_cons (pe_gint rfl mM) pa_nil)))))
    (pss_cons (ps_expr (pe_call G1 r3 rfl m1 k1 b1 .nil pass0 (pa_cons (pv 1) (pa_cons pe_int (pa_cons (pe_gint rfl mS) pa_nil)))))
    (pss_one (ps_ret (pe_call G2 hr rfl m2 k2 b2 .nil pass0 (pa_cons (pe_lst (pa_cons (pe_tup (pa_cons (pv 1) (pa_cons (pv 0) pa_nil))) pa_nil)) pa_nil))))), ?_⟩
  refine ⟨_, rfl, (b : Int), 0, 1000, rfl, by omega, by omega, ?_⟩
  refine ⟨_, rfl, (p : Int), 1, 12, rfl, by omega, by omega, ?_⟩
  refine ⟨_, rfl, _, rfl, (by show 2 ≤ sizeLine; decide), fun T hT => ⟨(by show 1 ≤ sizeLine; decide), fun D hD => ?_⟩⟩
  have s1 := (same_new hT (.tup [V.int (p : Int), V.int (b : Int)]))
  have s2 := same_new hD (.lst [V.ref T])
  have pr : PrsAt (upd (upd H T (.tup [V.int (p : Int), V.int (b : Int)])) D (.lst [V.ref T])) [V.ref T] [(p, b)] := by
    have z : PrsAt (upd (upd H T (.tup [V.int (p : Int), V.int (b : Int)])) D (.lst [V.ref T])) ([] ++ [V.ref T]) ([] ++ [(p, b)]) := PrsAt.snoc ⟨rfl, fun i v hv => by cases hv⟩ (s2 _ _ upd_same)
    exact z
  have p0 : 0 < p := p1
  have hS : b < Mk.up (b + 1) p := Nat.lt_of_lt_of_le (Nat.lt_succ_self b) (Nat.le_add_right _ _)
  have hS2 := Mk.up_mod (b + 1) p0
  refine ⟨D, [V.ref T], [(p, b)], p, b + 1, rfl, upd_same, pr, (by show 1 ≤ 100; decide), ⟨?_, fun y hy => ?_⟩, ⟨?_, fun y hy => ?_⟩, by omega, by omega, fun bits hb q0 q2 qd => ?_, fun bits s hb md a H2 s3 pl => ?_⟩
  · exact List.mem_cons_of_mem _ List.mem_cons_self
  · rcases List.mem_cons.mp hy with z | z
    · omega
    · have e : y = p := List.mem_singleton.mp z
      omega
  · exact List.mem_cons_of_mem _ List.mem_cons_self
  · rcases List.mem_cons.mp hy with z | z
    · omega
    · have e : y = b + 1 := List.mem_singleton.mp z
      omega
  · rw [Mk.steps_bits p0 hS hS2 hb]
    exact Mk.one_bit (Nat.mod_lt b p0) q2 qd
  · exact q a s H2 ((s1.trans s2).trans s3) pl (Mk.steps_made p0 hS hS2 hb md.w md.cy md.st)
end
end Wp

/-! own exception classes made with keywords -/
namespace PySem
namespace EK
open PySem.W PySem.Calls PyProof.Rows PySem.PX
section
variable {M : Model} {A : Around} {E : Value → Shared → Prop} {h : Heap} {g : Array GenState} {d : Drawn} {t : Nat} {os : OsState}
variable {nm q : Str} {C N : Addr} {bs bm bmB : List Value} {hdct : Bool} {sn : List Str} {sub : List Value} {ab : Bool} {col : Option Bool}
  {dd : Option Addr} {k0 k1 k2 k3 k5 : Option Value} {B newId initId : String} {kw : List (Str × Value)} {us : List Value}
theorem look_new (F : ExcBaseFacts B newId initId bmB) (same : ∀ X : String, bm.contains (.type X) = bmB.contains (.type X)) {Q : Unit → Shared → Prop}
    (hC : h.get? C = some (excClassObj nm q C N bs bm hdct sn sub ab col dd k0 k1 k2 k3 k5 newId)) (hq : Q () ⟨h, g, d, t, os⟩) :
    wpAny M A (checkBuiltinCall newId ⟨.ref C :: us, kw⟩) Q E ⟨h, g, d, t, os⟩ := by
  have inB : (Value.ref C :: bm).contains (.type B) = true := by
    rw [List.contains_cons, same, F.hasB, Bool.or_true]
  have star := F.noStar
  simp only [checkBuiltinCall, F.newKind, F.newSplit, F.newRow]
  repeat (first
    | refine wpAny_loadPart_at hC ?_
    | (refine wpAny_isSubtype_exc hC ?_; rw [inB])
    | refine wpAny_staticBase_exc hC ?_
    | refine wpAny_madeBy_exc hC ?_
    | simp only [bne_self_eq_false, Bool.false_eq_true, if_false]
    | wp_step)
  exact hq
end
section
variable {prog : Program} {w : World} {A : Around} {E : Value → Shared → Prop} {R : Result → Shared → Prop} {h : Heap} {g : Array GenState} {d : Drawn} {t : Nat} {os : OsState}
variable {nm q : Str} {C N : Addr} {bs bm bmB : List Value} {hdct : Bool} {sn : List Str} {sub : List Value} {ab : Bool} {col : Option Bool}
  {dd : Option Addr} {k0 k1 k2 k3 k5 : Option Value} {B newId initId : String} {kw : List (Str × Value)} {us : List Value} {fI : Addr}
/-- the heap behind the making -/
abbrev madeHeap (h : Heap) (C : Addr) (us : List Value) : Heap := (h.push (kdv_tup us)).push (excO C h.objs.size)
theorem made_keep (b : Addr) (o : Obj) (e : h.get? b = some o) : (madeHeap h C us).get? b = some o :=
  Heap.get?_push_of_some _ (Heap.get?_push_of_some _ e)
theorem made_at : (madeHeap h C us).get? (h.objs.size + 1) = some (excO C h.objs.size) := by heap_get
theorem run_new (F : ExcBaseFacts B newId initId bmB) (same : ∀ X : String, bm.contains (.type X) = bmB.contains (.type X))
    (hC : h.get? C = some (excClassObj nm q C N bs bm hdct sn sub ab col dd k0 k1 k2 k3 k5 newId)) (small : us.length ≤ sizeLine)
    (hq : R (.ok (.ret (.ref (h.objs.size + 1)))) ⟨madeHeap h C us, g, d, t, os⟩) :
    codeAny (model prog w) A (.builtin newId ⟨.ref C :: us, kw⟩) R ⟨h, g, d, t, os⟩ := by
  have ends := F.ends
  have inB : (Value.ref C :: bm).contains (.type B) = true := by
    rw [List.contains_cons, same, F.hasB, Bool.or_true]
  have noA : (Value.ref C :: bm).contains (.type "AttributeError") = false := by
    rw [List.contains_cons, same, F.noAttr]
    rfl
  have noN : (Value.ref C :: bm).contains (.type "NameError") = false := by
    rw [List.contains_cons, same, F.noName]
    rfl
  refine codeAny_builtinAt F.entry ?_
  unfold Builtin.«BaseException.__new__»
  refine wpAt_bind ?_
  show wpAt _ _ _ (stack >>= _) _ _ _
  refine wpAt_bind (wpAt_stack fun p under => wpAt_of_wpAny ?_)
  wp_walk
  refine wpAt_of_wpAny ?_
  rw [F.owner]
  repeat (first
    | with_reducible refine wpAny_madeHere_exc F.canon hC ?_
    | with_reducible refine wpAny_loadPart_at hC ?_
    | (with_reducible refine wpAny_isSubtype_exc hC ?_
       first | rw [inB] | rw [noA] | rw [noN])
    | wp_step)
  show R _ _
  rw [Heap.size_push]
  exact hq
theorem run_type (F : ExcBaseFacts B newId initId bmB) (same : ∀ X : String, bm.contains (.type X) = bmB.contains (.type X))
    (hC : h.get? C = some (excClassObj nm q C N bs bm hdct sn sub ab col dd k0 k1 k2 k3 k5 newId)) {Q : Fin → Shared → Prop}
    (li : Looks (model prog w) h (typeLookup (.ref C) "__init__") (some (.ref fI)))
    (lb : ∀ self, Looks (model prog w) h (bindSpecial (.ref fI) self) (.ref fI, [self])) (small : us.length ≤ sizeLine)
    (hq : codeAny (model prog w) A (.call (.ref fI) ⟨.ref (h.objs.size + 1) :: us, kw⟩)
      (fun r s' => match r with
        | .ok (.ret v) => v = .none ∧ Q (.done (.ret (.ref (h.objs.size + 1)))) s'
        | .ok _ => False
        | .error e => E e s') ⟨madeHeap h C us, g, d, t, os⟩) :
    wpAny (model prog w) A (Builtin.«type.__call__» ⟨.ref C :: us, kw⟩) Q E ⟨h, g, d, t, os⟩ := by
  repeat (first
    | with_reducible refine wpAny_loadPart_at hC ?_
    | with_reducible refine wpAny_madeBy_exc hC ?_
    | wp_step)
  refine codeAny_call_builtin_code (Code.quiet_builtin _ F.quiet) (look_new F same hC ?_)
  refine run_new F same hC small ?_
  show wpAny _ _ _ _ _ _
  have hC1 := made_keep (C := C) (us := us) _ _ hC
  have own : (Value.ref C :: bm).contains (.ref C) = true := by simp
  have li1 := li.keeps (made_keep (C := C) (us := us))
  have lb1 := (lb (.ref (h.objs.size + 1))).keeps (made_keep (C := C) (us := us))
  unfold isInstance
  repeat (first
    | with_reducible refine wpAny_loadPart_at made_at ?_
    | (with_reducible refine wpAny_isSubtype_exc hC1 ?_
       rw [own])
    | wp_step)
  show wpAny _ _ (typeLookup (.ref C) _) _ _ _
  refine li1.at ?_
  refine wpAny_holding (wpAny_bind (lb1.at ?_))
  refine wpAny_bind (wpAny_call (codeAny_mono hq ?_))
  intro r s' z
  cases r with
  | error e => exact z
  | ok fl =>
    cases fl with
    | ret v =>
      obtain ⟨rfl, z⟩ := z
      first
        | exact wpAny_pure (wpAny_pure z)
        | (wp_walk; exact z)
    | next => exact z.elim
    | brk => exact z.elim
    | cont => exact z.elim
end
section
variable {prog : Program} {w : World} {A : Around} {E : Value → Shared → Prop} {R : Result → Shared → Prop} {h : Heap} {g : Array GenState} {d : Drawn} {t : Nat} {os : OsState}
variable {nm q : Str} {C N : Addr} {bs bm bmB : List Value} {hdct : Bool} {sn : List Str} {sub : List Value} {ab : Bool} {col : Option Bool}
  {dd : Option Addr} {k0 k1 k2 k3 k5 : Option Value} {B newId initId : String} {kw : List (Str × Value)} {us : List Value} {fI : Addr}
theorem look_type {M : Model} {Q : Unit → Shared → Prop} (hC : h.get? C = some (excClassObj nm q C N bs bm hdct sn sub ab col dd k0 k1 k2 k3 k5 newId))
    (hq : Q () ⟨h, g, d, t, os⟩) : wpAny M A (checkBuiltinCall "type.__call__" ⟨.ref C :: us, kw⟩) Q E ⟨h, g, d, t, os⟩ := by
  have f0 := tc_sub
  have ofType : (⟨h, g, d, t, os⟩ : Shared).TypeIs (.ref C) "type" := ⟨_, hC, rfl⟩
  simp only [checkBuiltinCall, tc_kind, tc_split]
  repeat (any_goals (first
    | assumption
    | with_reducible refine wpAny_loadPart_at hC ?_
    | with_reducible refine wpAny_onRaise ?_
    | with_reducible refine wpAny_map ?_
    | wp_step))
/-- C(us, kw): the object is laid, then __init__ -/
theorem run_call (F : ExcBaseFacts B newId initId bmB) (same : ∀ X : String, bm.contains (.type X) = bmB.contains (.type X))
    (hC : h.get? C = some (excClassObj nm q C N bs bm hdct sn sub ab col dd k0 k1 k2 k3 k5 newId))
    (li : Looks (model prog w) h (typeLookup (.ref C) "__init__") (some (.ref fI)))
    (lb : ∀ self, Looks (model prog w) h (bindSpecial (.ref fI) self) (.ref fI, [self])) (small : us.length ≤ sizeLine)
    (hq : codeAny (model prog w) (A.under (.builtin "type.__call__" ⟨.ref C :: us, kw⟩)) (.call (.ref fI) ⟨.ref (h.objs.size + 1) :: us, kw⟩)
      (InitBack (h.objs.size + 1) R) ⟨madeHeap h C us, g, d, t, os⟩) :
    codeAny (model prog w) A (.call (.ref C) ⟨us, kw⟩) R ⟨h, g, d, t, os⟩ := by
  have f1 := tc_lookup
  have f2 := tc_bind (.ref C)
  have ofType : (⟨h, g, d, t, os⟩ : Shared).TypeIs (.ref C) "type" := ⟨_, hC, rfl⟩
  refine codeAny_of_tree ?_
  show wpAny _ _ (callAny (.ref C) _) _ _ _
  repeat (any_goals (first
    | assumption
    | with_reducible refine wpAny_loadPart_at hC ?_
    | wp_step))
  refine ⟨rfl, ?_⟩
  refine codeAny_call_builtin_at (Code.quiet_builtin _ (by decide +kernel)) entry_typeCall (look_type hC ?_)
  refine run_type F same hC li lb small (codeAny_mono hq ?_)
  intro r s' z
  rcases r with e | (v | _ | _ | _) <;> exact z
end
/-! storing into an exception -/
section
open Builtin Builtin.ObjectAttr
variable {prog : Program} {w : World} {A : Around} {R : Result → Shared → Prop} {hp : Heap} {g : Array GenState} {d : Drawn} {t : Nat} {os : OsState}
  {K : Frag} {C x : Addr} {B : String} {bmB : List Value} {name : Str} {tk : Tok} {v : Value} {fv : Array Value}
theorem first_field (SF : StoreFacts B bmB "object.__setattr__" "object") (X : K.In hp) (hx : hp.get? x = some { cls := .ref C, data := .fields fv })
    (over : excOver K C bmB = true) (free : takerIn K C name = some none) (dct : hasDictIn K C = true)
    (hq : ∀ h' tk' dx, (∀ b o, b ≠ x → hp.get? b = some o → h'.get? b = some o) → hp.objs.size ≤ dx → dx ≠ x →
      h'.get? x = some { cls := .ref C, dict := some dx, data := .fields fv } → h'.Ns1 dx (fun y => if y = name then some v else none) →
      R (.ok (.ret .none)) ⟨h', g, d, tk', os⟩) :
    codeAny (model prog w) A (.call (.builtin "object.__setattr__") ⟨[.ref x, .str name tk, v], []⟩) R ⟨hp, g, d, t, os⟩ := by
  have I : InstAt hp x { cls := .ref C, data := .fields fv } C none := ⟨hx, rfl, rfl, trivial⟩
  refine osa_openX (s := ⟨hp, g, d, t, os⟩) SF X I over free fun b => ?_
  show wpAny _ _ (storeInOwnDict (.ref x) (.ref C) (.str name tk) name v b) _ _ _
  obtain ⟨cd, hcd, hd⟩ := any_some dct
  have lc : Looks (model prog w) hp (classData C) cd := looks_clsIn X hcd
  obtain ⟨nm, bs, mro, ns, qn, hdd, sn, sb, ab, col, del⟩ := cd
  dsimp only at hd
  subst hd
  have apart : x ≠ hp.objs.size := Nat.ne_of_lt (Heap.lt_size hx)
  unfold storeInOwnDict ownDictForStores
  repeat (first
    | with_reducible refine PX.store_in_new ?_ ?_
    | with_reducible refine wpAny_loadPart_at hx ?_
    | with_reducible refine lc.at ?_
    | wp_step)
  · exact ⟨_, #[], _, (Heap.get?_update_ne _ _ _ _ apart.symm).trans (Heap.get?_push_at rfl rfl), rfl, fun e he => absurd he (by simp), fun _ => rfl⟩
  · intro h' tk' hn' but
    have hx1 : (hp.push { cls := .type "dict", data := .dict #[] }).get? x = some { cls := .ref C, data := .fields fv } := Heap.get?_push_of_some _ hx
    refine hq h' tk' hp.objs.size ?_ (Nat.le_refl _) apart.symm ?_ hn'
    · intro b o hb ho
      have z := but.2 b (Nat.ne_of_lt (Heap.lt_size ho))
      rw [z, Heap.get?_update_ne _ _ _ _ hb]
      exact Heap.get?_push_of_some _ ho
    · rw [but.2 x apart]
      exact Heap.get?_update_self _ hx1 rfl
theorem next_field (SF : StoreFacts B bmB "object.__setattr__" "object") (X : K.In hp) {dx : Addr} {m0 : Str → Option Value} {nl : List Str}
    (hx : hp.get? x = some { cls := .ref C, dict := some dx, data := .fields fv }) (hn : hp.Ns1 dx m0) (within : Within m0 nl) (few : nl.length ≤ 1000)
    (over : excOver K C bmB = true) (free : takerIn K C name = some none) (dct : hasDictIn K C = true)
    (hq : ∀ h' tk', (∀ b o, b ≠ dx → hp.get? b = some o → h'.get? b = some o) → h'.Ns1 dx (fun y => if y = name then some v else m0 y) →
      R (.ok (.ret .none)) ⟨h', g, d, tk', os⟩) :
    codeAny (model prog w) A (.call (.builtin "object.__setattr__") ⟨[.ref x, .str name tk, v], []⟩) R ⟨hp, g, d, t, os⟩ := by
  obtain ⟨oD, _, _, hoD, _, _⟩ := hn.count within
  have I : InstAt hp x { cls := .ref C, dict := some dx, data := .fields fv } C (some oD) := ⟨hx, rfl, rfl, hoD⟩
  refine osa_openX (s := ⟨hp, g, d, t, os⟩) SF X I over free fun b => ?_
  show wpAny _ _ (storeInOwnDict (.ref x) (.ref C) (.str name tk) name v b) _ _ _
  obtain ⟨cd, hcd, hd⟩ := any_some dct
  have lc : Looks (model prog w) hp (classData C) cd := looks_clsIn X hcd
  obtain ⟨nm, bs, mro, ns, qn, hdd, sn, sb, ab, col, del⟩ := cd
  dsimp only at hd
  subst hd
  unfold storeInOwnDict ownDictForStores
  repeat (first
    | with_reducible refine PX.store_in_old hn within few ?_
    | with_reducible refine wpAny_loadPart_at hx ?_
    | with_reducible refine lc.at ?_
    | wp_step)
  intro h' tk' hn' but
  exact hq h' tk' (fun b o hb ho => (but.2 b hb).trans ho) hn'
end
end EK
end PySem

namespace Hx
open PySem PySem.Spec PyProof.Rows L2
/-- what the written part says of an own exception class at C, over the built-in B -/
structure ExK (K : PySem.W.Frag) (C : Addr) (B newId initId : String) (bmB : List Value) : Prop where
  facts : ExcBaseFacts B newId initId bmB
  store : StoreFacts B bmB "object.__setattr__" "object"
  made : PySem.W.excInitIn K C bmB newId = true
  over : PySem.W.excOver K C bmB = true
  dct : PySem.W.hasDictIn K C = true
  sa : PySem.W.findIn K (.ref C) "__setattr__" = some (some (.builtin "object.__setattr__"))
  ga : PySem.W.findIn K (.ref C) "__getattribute__" = some (some (.builtin "BaseException.__getattribute__"))
  gt : PySem.W.findIn K (.ref C) "__getattr__" = some none
  sub : PySem.W.subIn K (.ref C) (.type "BaseException") = some true
  keep : PySem.W.keepIn K (.ref C) = true
  cl : PySem.W.findIn K (.ref C) "__class__" = some (some (.builtin "object.__class__"))
  gg : PySem.W.specialIn K (.builtin "object.__class__") "__get__" = some (some (.builtin "getset_descriptor.__get__"))
  tk : PySem.W.takesIn K (.builtin "object.__class__") = some true
  mo : PySem.W.mroIn K C (.type "object") = some true
section
variable {X : Cx} {pins : List (Addr × Obj)} {σ : L2.St} {H : Hp} {s : Shared} {a C dx : Addr} {f : Str} {y : V} {u : Value} {fs : List (Str × V)}
  {B newId initId : String} {bmB : List Value} {A : Around} {E : Value → Shared → Prop}
/-- self.f = y, the first field: the exception gets its dict -/
theorem put_first {Q : Unit → Shared → Prop} (T : ExK X.K C B newId initId bmB) (I : Inv X pins σ H s) (e : H a = some (exo a C none))
    (free : PySem.W.takerIn X.K C f = some none) (ry : RelV y u)
    (h : ∀ dx s', H dx = none → dx ≠ a → Inv X pins σ (upd (upd H dx (exd dx [(f, y)])) a (exo a C (some dx))) s' → Q () s') :
    wpAny (model X.prog X.w) A (setAttr (.ref a) f u) Q E s := by
  obtain ⟨t1, ho⟩ := exo_at I.hok e
  obtain ⟨hp, g, d, t, os⟩ := s
  refine PySem.W.set_plain I.kIn (ox := { cls := .ref C, dict := none, data := .fields #[.ref t1, .none, .none, .none, .bool false, .none] }) (od := none) ⟨ho, rfl, rfl, trivial⟩ T.sa ?_
  refine PySem.EK.first_field T.store I.kIn ho T.over free T.dct ?_
  intro h' tk' dx keeps new apart at_a ns
  have n0 : H dx = none := I.hok.fresh new
  have old : ∀ {b : Addr} {o : Obj}, hp.get? b = some o → b ≠ dx := fun {b o} z => Nat.ne_of_lt (Nat.lt_of_lt_of_le (Heap.lt_size z) new)
  have other : ∀ {b : Addr}, H b = none → b ≠ a := fun {b} n z => by
    rw [z, e] at n
    cases n
  have un : Un X.fs [] H (upd (upd H dx (exd dx [(f, y)])) a (exo a C (some dx))) hp h' :=
    { keep := fun b o z n _ _ => keeps b o (other n) z
      slot := fun b o z n _ _ => ⟨o.slots, keeps b o (other n) z⟩
      free := fun b o z n _ => by
        rw [upd_ne (other n), upd_ne (old z)]
        exact n
      there := fun b o z _ => by
        by_cases hb : b = a
        · exact ⟨_, by rw [hb]; exact at_a⟩
        · exact ⟨o, keeps b o hb z⟩
      tups := fun b xs z => by
        rw [upd_ne (at_ne e z exo_tup), upd_ne (ne_of_none z n0)]
        exact z
      frzs := fun b o v z => by
        rw [upd_ne (at_ne e z exo_frz), upd_ne (ne_of_none z n0)]
        exact z
      tbls := fun b ps z => ⟨#[], by
        rw [upd_ne (at_ne e z exo_tbl), upd_ne (ne_of_none z n0), z]
        simp⟩ }
  refine h dx _ n0 apart (I.un (t' := tk') un ?_)
  intro b o z
  by_cases hb : b = a
  · subst hb
    rw [upd_same] at z
    cases z
    exact exo_ok at_a
  rw [upd_ne hb] at z
  by_cases hd : b = dx
  · subst hd
    rw [upd_same] at z
    cases z
    exact exd_ok ns (relO_put (fs := []) ry fun _ => True.intro)
  rw [upd_ne hd] at z
  refine (I.hok b o z).stay ?_ ?_ ?_
  · intro c v hc r
    refine keeps c v ?_ r
    rcases hc with hc | hc
    · rw [hc]
      exact hb
    · exact at_ne e hc exo_own
  · intro c hc
    rw [upd_ne (at_ne e hc exo_own), upd_ne (ne_of_none hc n0)]
    exact hc
  · intro c xs hc
    rw [upd_ne (at_ne e hc exo_tup), upd_ne (ne_of_none hc n0)]
    exact hc
/-- self.f = y, a further field -/
theorem put_next {Q : Unit → Shared → Prop} (T : ExK X.K C B newId initId bmB) (I : Inv X pins σ H s) (e : H a = some (exo a C (some dx))) (ed : H dx = some (exd dx fs))
    (few : fs.length ≤ 900) (free : PySem.W.takerIn X.K C f = some none) (ry : RelV y u)
    (h : ∀ s', Inv X pins σ (upd H dx (exd dx ((f, y) :: fs))) s' → Q () s') : wpAny (model X.prog X.w) A (setAttr (.ref a) f u) Q E s := by
  obtain ⟨t1, ho⟩ := exo_at I.hok e
  obtain ⟨mA, ns, rel⟩ := exd_at I.hok ed
  have within := within_of rel
  obtain ⟨hp, g, d, t, os⟩ := s
  obtain ⟨oD, _, _, hoD, _, _⟩ := ns.count within
  refine PySem.W.set_plain I.kIn (ox := { cls := .ref C, dict := some dx, data := .fields #[.ref t1, .none, .none, .none, .bool false, .none] }) (od := some oD) ⟨ho, rfl, rfl, hoD⟩ T.sa ?_
  refine PySem.EK.next_field T.store I.kIn ho ns within (by rw [List.length_map]; omega) T.over free T.dct ?_
  intro h' tk' keeps ns'
  obtain ⟨o', _, _, there, _⟩ := id ns'
  exact h _ (I.write (t' := tk') (x := dx) (e := dx) (o := exd dx ((f, y) :: fs)) (by rw [ed]; exact True.intro) (.inl rfl) keeps ⟨o', there⟩ (exd_ok ns' (relO_put ry rel)))
end
/-- self.f = e, self an exception of the class at C -/
def tPut (f : Str) (C : Addr) (to te : TE) : TS := fun D σ H => te σ H fun y H1 => to σ H1 fun x H2 => ∃ a : Addr, x = .ref a ∧
  ((H2 a = some (exo a C none) ∧ ∀ dx, H2 dx = none → dx ≠ a → D.nx σ (upd (upd H2 dx (exd dx [(f, y)])) a (exo a C (some dx)))) ∨
    ∃ (dx : Addr) (fs : List (Str × V)), H2 a = some (exo a C (some dx)) ∧ H2 dx = some (exd dx fs) ∧ fs.length ≤ 900 ∧ D.nx σ (upd H2 dx (exd dx ((f, y) :: fs))))
section
variable {X : Cx} {o e : Expr} {es : List Expr} {to te : TE} {ta : TA} {f : Str} {p p' p1 p2 pos : Pos} {C : Addr} {B newId initId : String} {bmB : List Value}
theorem ps_put (T : ExK X.K C B newId initId bmB) (free : PySem.W.takerIn X.K C f = some none) (ho : PE X o to) (he : PE X e te)
    (hs : swapsWith e (some (.Attribute o f p')) pos.line X.env = pure false := by rfl) : PS X (.Assign [.Attribute o f p'] e pos) (tPut f C to te) := by
  constructor
  intro pins s σ H D I h
  refine plainObj_wpAny_Assign_Attribute (thn (he.run pins s σ H _ I h) ?_) hs
  rintro v s1 ⟨y, H1, I1, r1, q1⟩
  refine thn (ho.run pins s1 σ H1 _ I1 q1) ?_
  rintro u s2 ⟨x, H2, I2, r2, a, ex, q⟩
  subst ex
  cases (show u = Value.ref a from r2)
  rcases q with ⟨ea, q⟩ | ⟨dx, fs, ea, ed, few, q⟩
  · exact put_first T I2 ea free r1 fun dx s' n ne J => ⟨σ, _, J, q dx n ne⟩
  · exact put_next T I2 ea ed few free r1 fun s' J => ⟨σ, _, J, q⟩
end
/-- a fresh exception -/
def spIn1 (C : Addr) (f : Str) : Sp := fun vs H Q _ => ∃ (a : Addr) (v : V), vs = [.ref a, v] ∧ H a = some (exo a C none) ∧
  ∀ d, H d = none → d ≠ a → Q .non (upd (upd H d (exd d [(f, v)])) a (exo a C (some d)))
def spIn2 (C : Addr) (f g : Str) : Sp := fun vs H Q _ => ∃ (a : Addr) (v u : V), vs = [.ref a, v, u] ∧ H a = some (exo a C none) ∧
  ∀ d, H d = none → d ≠ a → Q .non (upd (upd (upd H d (exd d [(f, v)])) a (exo a C (some d))) d (exd d [(g, u), (f, v)]))
section
variable {P : Program} {w : World} {K : PySem.W.Frag} {mg : Str → Option Value} {base : Heap} {fI C : Addr} {fd : FuncData} {st : Stmt} {qual f g : Str}
  {B newId initId : String} {bmB : List Value} {q1 q2 q3 q4 q5 q6 q7 q8 : Pos}
theorem ok_in1 (F : Fun K "__init__" qual st fI fd) (S : FnScope ["self", f] ["self", f] (defScope st))
    (hb : defBody st = [.Assign [.Attribute (.Name "self" q1) f q2] (.Name f q3) q4]) (v1 : Vis (defScope st) "self") (v2 : Vis (defScope st) f)
    (hd : (f == ("__debug__" : Str)) = false) (hc : (f == ("__classdict__" : Str)) = false) (T : ExK K C B newId initId bmB) (free : PySem.W.takerIn K C f = some none) :
    FnOk P w K mg base CX0 1 fI fd ["self", f] (spIn1 C f) := by
  refine F.ok S (fun vs H Q E h => ?_) (fun cdv A outer s H vs Q E hr h => ?_)
  · obtain ⟨a, v, rfl, _⟩ := h
    rfl
  obtain ⟨a, v, rfl, ha, q⟩ := h
  rw [hb]
  refine ⟨_, pss_one (ps_put T free (pe_var (i := 0) rfl v1) (pe_var (i := 1) rfl v2 hd hc)), ?_⟩
  exact ⟨_, rfl, _, rfl, a, rfl, .inl ⟨ha, fun d n ne => q d n ne⟩⟩
theorem ok_in2 (F : Fun K "__init__" qual st fI fd) (S : FnScope ["self", f, g] ["self", f, g] (defScope st))
    (hb : defBody st = [.Assign [.Attribute (.Name "self" q1) f q2] (.Name f q3) q4, .Assign [.Attribute (.Name "self" q5) g q6] (.Name g q7) q8])
    (v1 : Vis (defScope st) "self") (v2 : Vis (defScope st) f) (v3 : Vis (defScope st) g)
    (hd : (f == ("__debug__" : Str)) = false) (hc : (f == ("__classdict__" : Str)) = false) (hd2 : (g == ("__debug__" : Str)) = false) (hc2 : (g == ("__classdict__" : Str)) = false)
    (T : ExK K C B newId initId bmB) (free : PySem.W.takerIn K C f = some none) (free2 : PySem.W.takerIn K C g = some none) :
    FnOk P w K mg base CX0 1 fI fd ["self", f, g] (spIn2 C f g) := by
  refine F.ok S (fun vs H Q E h => ?_) (fun cdv A outer s H vs Q E hr h => ?_)
  · obtain ⟨a, v, u, rfl, _⟩ := h
    rfl
  obtain ⟨a, v, u, rfl, ha, q⟩ := h
  rw [hb]
  refine ⟨_, pss_cons (ps_put T free (pe_var (i := 0) rfl v1) (pe_var (i := 1) rfl v2 hd hc)) (pss_one (ps_put T free2 (pe_var (i := 0) rfl v1) (pe_var (i := 2) rfl v3 hd2 hc2))), ?_⟩
  refine ⟨_, rfl, _, rfl, a, rfl, .inl ⟨ha, fun d n ne => ?_⟩⟩
  refine ⟨_, rfl, _, rfl, a, rfl, .inr ⟨d, [(f, v)], upd_same, ?_, (by show 1 ≤ 900; decide), q d n ne⟩⟩
  rw [upd_ne ne]
  exact upd_same
end

/-! C(..) as a value -/
section
variable {X : Cx} {pins : List (Addr × Obj)} {σ : L2.St} {H : Hp} {s : Shared} {C fI : Addr} {fd : FuncData} {ps : List Str} {sp : Sp} {k : Nat}
  {B newId initId : String} {bmB : List Value}
theorem run_mk {Q : VK} {us bs : List Value} {kw : List (Str × Value)} {vs : List V} (T : ExK X.K C B newId initId bmB)
    (hi : PySem.W.findIn X.K (.ref C) "__init__" = some (some (.ref fI))) (tI : PySem.W.typeIn X.K (.ref fI) = some (.type "function"))
    (F : FnOk X.prog X.w X.K X.mg X.base CX0 k fI fd ps sp) (room : Room (k + 1) X.A) (I : Inv X pins σ H s) (rel : Vals vs bs)
    (binds : ∀ (s : Shared) (self : Value), X.K.In s.heap → BindsTo s fd ⟨self :: us, kw⟩ (ps.zip (self :: bs))) (small : us.length ≤ sizeLine)
    (q : ∀ a, H a = none → sp (.ref a :: vs) (upd H a (exo a C none)) (fun v H2 => v = .non ∧ Q (.ref a) H2) E0) :
    wpAny (model X.prog X.w) X.A (call (.ref C) us kw) (EP X pins σ Q) X.xe s := by
  obtain ⟨nm, N, qn, bs0, bm, hdct, sn, sub, ab, col, dd, k0, k1, k2, k3, k5, hC, same⟩ := PySem.W.excInit_of I.kIn T.made
  obtain ⟨hp, g, dr, tk, os⟩ := s
  have above : hp.objs.size ≤ hp.objs.size + 1 := Nat.le_succ _
  have n0 : H (hp.objs.size + 1) = none := I.hok.fresh above
  have q0 := q _ n0
  have J : Inv X pins σ (upd H (hp.objs.size + 1) (exo (hp.objs.size + 1) C none)) ⟨PySem.EK.madeHeap hp C us, g, dr, tk, os⟩ :=
    I.laid (t' := tk) (h' := PySem.EK.madeHeap hp C us) (fun b o e => PySem.EK.made_keep b o e) above (exo_ok PySem.EK.made_at)
  have rel2 : Vals (V.ref (hp.objs.size + 1) :: vs) (Value.ref (hp.objs.size + 1) :: bs) := .cons rfl rel
  refine wpAny_call (PySem.EK.run_call T.facts same hC (PySem.W.looks_findIn I.kIn hi) (fun self => PySem.W.bind_fn I.kIn self tI) small ?_)
  refine codeAny_mono (F.run _ X.stack _ _ ⟨Value.ref (hp.objs.size + 1) :: us, kw⟩ _ _ _ E0 (room.make C us kw) (J.env0.make C us kw) (binds _ _ J.kIn) rel2 q0) ?_
  intro r s' hr
  cases r with
  | error e => exact (show False from hr).elim
  | ok fl =>
    cases fl with
    | ret u =>
      obtain ⟨v, H2, J2, rv, ev, q2⟩ := J.after hr
      subst ev
      exact ⟨rv, ⟨V.ref (hp.objs.size + 1), H2, J2, rfl, q2⟩⟩
    | next => exact hr.elim
    | brk => exact hr.elim
    | cont => exact hr.elim
end
/-- C(e, ..) -/
def tMk (C : Addr) (sp : Sp) (ta : TA) : TE := fun σ H Q => ta σ H fun vs H1 => vs.length ≤ 100 ∧ ∀ a, H1 a = none →
  sp (.ref a :: vs) (upd H1 a (exo a C none)) (fun v H2 => v = .non ∧ Q (.ref a) H2) E0
def tMkK (C : Addr) (sp : Sp) (gV : List V → List V) (tk : TA) : TE := fun σ H Q => tk σ H fun vs H1 => ∀ a, H1 a = none →
  sp (.ref a :: gV vs) (upd H1 a (exo a C none)) (fun v H2 => v = .non ∧ Q (.ref a) H2) E0
section
variable {X : Cx} {C fI : Addr} {fd : FuncData} {ps ks : List Str} {sp : Sp} {k : Nat} {B newId initId : String} {bmB : List Value}
  {x : Str} {p pos : Pos} {e : Expr} {es : List Expr} {t tk : TA} {kws : List Keyword}
theorem pe_mk (T : ExK X.K C B newId initId bmB)
    (hi : PySem.W.findIn X.K (.ref C) "__init__" = some (some (.ref fI))) (tI : PySem.W.typeIn X.K (.ref fI) = some (.type "function"))
    (F : FnOk X.prog X.w X.K X.mg X.base CX0 k fI fd ps sp) (hb : Binds X.K fd ps []) (room : Room (k + 1) X.A) (hg : Gl X x) (hm : X.mg x = some (.ref C)) (ha : PA X (e :: es) t)
    (hdb : (x == ("__debug__" : Str)) = false := by decide) (he : starEach (e :: es) X.env = (false, eval e X.env) :: starEach es X.env := by rfl)
    (hpl : (backTo pos (starEach es X.env)).any (·.1) = false := by rfl) : PE X (.Call (.Name x p) (e :: es) [] pos) (tMk C sp t) := by
  constructor
  intro pins s σ H Q I h
  refine wpAny_Call_Name_kw (ld_glob I hg hm ?_ hdb)
  refine PySem.W.callWith_K (h₀ := X.base) I.ok.mod.kin T.keep ?_ he hpl
  refine thn (ha.run pos pins s σ H _ I h) ?_
  rintro us s1 ⟨vs, H1, J, r, hl, q⟩
  refine ⟨J.kIn, ?_⟩
  have hlen : (Value.none :: us).length = ps.length := by
    have z := F.len _ _ _ _ (q s1.heap.objs.size (J.hok.fresh (Nat.le_refl _)))
    rw [← z, List.length_cons, List.length_cons, r.length]
  refine run_mk (bs := us) (kw := []) T hi tI F room J r (fun s' self hK => ?_) (by show us.length ≤ sizeLine; rw [← r.length]; exact small_line (by omega)) q
  have z := hb s' (self :: us) hK (by rw [List.append_nil]; exact hlen)
  rw [List.append_nil] at z
  exact z
theorem pe_mkK (T : ExK X.K C B newId initId bmB) {g : List Value → List Value} {gV : List V → List V}
    (hi : PySem.W.findIn X.K (.ref C) "__init__" = some (some (.ref fI))) (tI : PySem.W.typeIn X.K (.ref fI) = some (.type "function"))
    (F : FnOk X.prog X.w X.K X.mg X.base CX0 k fI fd ps sp) (hgV : ∀ vs us, Vals vs us → Vals (gV vs) (g us))
    (hb : ∀ (s : Shared) (self : Value) (ws : List Value), ws.length = ks.length → BindsTo s fd ⟨[self], ks.zip ws⟩ (ps.zip (self :: g ws)))
    (room : Room (k + 1) X.A) (hg : Gl X x) (hm : X.mg x = some (.ref C)) (hkw : PK X kws tk) (hn : ∀ σ H Q, tk σ H Q → tk σ H fun vs H1 => vs.length = ks.length ∧ Q vs H1)
    (hall : (backToKw pos (keywordEach kws X.env)).all (·.1.isSome) = true := by rfl) (hks : (backToKw pos (keywordEach kws X.env)).filterMap (·.1) = ks := by rfl)
    (hdb : (x == ("__debug__" : Str)) = false := by decide)
    (hpl : ((backTo pos (starEach [] X.env)).any (·.1) || (backToKw pos (keywordEach kws X.env)).any (·.1.isNone)) = false := by rfl) :
    PE X (.Call (.Name x p) [] kws pos) (tMkK C sp gV tk) := by
  constructor
  intro pins s σ H Q I h
  refine wpAny_Call_Name_kw (ld_glob I hg hm ?_ hdb)
  refine PySem.W.callWith_KW0 (h₀ := X.base) I.ok.mod.kin T.keep hall ?_ hpl
  refine thn (hkw.run pos pins s σ H _ I (hn _ _ _ h)) ?_
  rintro ws s1 ⟨vs, H1, J, r, hl, q⟩
  refine ⟨J.kIn, ?_⟩
  rw [hks]
  exact run_mk (us := []) (bs := g ws) (kw := ks.zip ws) T hi tI F room J (hgV _ _ r) (fun s' self _ => hb s' self ws (by rw [← r.length]; exact hl)) (small_line (by decide)) q
end
/-- o.f of an exception that has its dict -/
def tGet (C : Addr) (f : Str) (to : TE) : TE := fun σ H Q => to σ H fun x H1 => ∃ (a d : Addr) (fs : List (Str × V)) (v : V), x = .ref a ∧ H1 a = some (exo a C (some d)) ∧ H1 d = some (exd d fs) ∧ fs.lookup f = some v ∧ Q v H1
theorem pe_get {X : Cx} {o : Expr} {to : TE} {f : Str} {pos : Pos} {C : Addr} {B newId initId : String} {bmB : List Value} (T : ExK X.K C B newId initId bmB) (hno : PySem.W.findIn X.K (.ref C) f = some none) (ho : PE X o to)
    (hb : attributeBase o f X.env (eval o X.env) = eval o X.env := by rfl) : PE X (.Attribute o f pos) (tGet C f to) := by
  constructor
  intro pins s σ H Q I h
  refine attr_of hb (thn (ho.run pins s σ H _ I h) ?_)
  rintro u s1 ⟨x, H1, J, r, a, d, fs, v, ex, ea, ed, hv, q⟩
  subst ex
  cases (show u = Value.ref a from r)
  obtain ⟨t1, hobj⟩ := exo_at J.hok ea
  obtain ⟨mA, ns, rel⟩ := exd_at J.hok ed
  have rv := rel f
  rw [hv] at rv
  obtain ⟨u', hu, ru⟩ := RelO.some_of rv
  obtain ⟨od, hod, look⟩ := lookIn_ns ns
  have inst : PySem.W.InstAt s1.heap a { cls := .ref C, dict := some d, data := .fields #[.ref t1, .none, .none, .none, .bool false, .none] } C (some od) := ⟨hobj, rfl, rfl, hod⟩
  exact PySem.PX.exc_get J.kIn inst T.ga T.gt T.sub (PySem.W.findObj_own T.dct hno rfl (by rw [look, hu])) (handed_of ru) ⟨v, H1, J.tok _, ru, q⟩
/-- isinstance(e, c), e an exception -/
def rIsX (K : PySem.W.Frag) : List V → Hp → VK → Prop := fun xs H Q => ∃ (a C : Addr) (d : Option Addr) (c : V) (cv : Value) (b : Bool), xs = [.ref a, c] ∧ H a = some (exo a C d) ∧ (∀ x, d = some x → ∃ fs, H x = some (exd x fs)) ∧
  ClsV c cv ∧ PySem.W.kitOne K (.ref C) cv = some b ∧ Q (.bl b) H
/-- the classes that a law's exceptions are of -/
def ExAll (K : PySem.W.Frag) (P : Addr → Prop) : Prop := ∀ C, P C → ∃ B newId initId bmB, ExK K C B newId initId bmB
theorem call_isX {X : Cx} {P : Addr → Prop} (T : ExAll X.K P) : CallR X (.builtin "isinstance") (fun xs H Q => rIsX X.K xs H Q ∧ ∀ a c, xs = [.ref a, c] → ∀ C d, H a = some (exo a C d) → P C) := by
  intro pins s σ H xs us Q I r h
  obtain ⟨⟨a, C, d, c, cv, b, rfl, ha, hd, hc, e, q⟩, hP⟩ := h
  obtain ⟨u1, u2, rfl, r1, r2⟩ := vals2 r
  cases (show u1 = Value.ref a from r1)
  have e2 := hc.eq r2
  subst e2
  obtain ⟨B, newId, initId, bmB, K0⟩ := T C (hP a c rfl C d ha)
  obtain ⟨t1, hobj⟩ := exo_at I.hok ha
  obtain ⟨cd, hcd, _⟩ := PySem.W.any_some K0.dct
  have hcl : (PySem.W.clsIn X.K C).isSome = true := by
    rw [hcd]
    rfl
  cases d with
  | none =>
    have inst : PySem.W.InstAt s.heap a { cls := .ref C, dict := none, data := .fields #[.ref t1, .none, .none, .none, .bool false, .none] } C none := ⟨hobj, rfl, rfl, trivial⟩
    exact PySem.W.kia_one (PySem.W.kitx_exc hcl K0.ga K0.gt K0.sub K0.cl K0.gg K0.tk K0.mo) I.kIn inst e (fun z => nomatch z) fun tk => ⟨.bl b, H, I.tok tk, rfl, q⟩
  | some x =>
    obtain ⟨fs, ex⟩ := hd x rfl
    obtain ⟨mA, ns, rel⟩ := exd_at I.hok ex
    obtain ⟨od, hod, look⟩ := lookIn_ns ns
    have inst : PySem.W.InstAt s.heap a { cls := .ref C, dict := some x, data := .fields #[.ref t1, .none, .none, .none, .bool false, .none] } C (some od) := ⟨hobj, rfl, rfl, hod⟩
    exact PySem.W.kia_one (PySem.W.kitx_exc hcl K0.ga K0.gt K0.sub K0.cl K0.gg K0.tk K0.mo) I.kIn inst e (fun z => nomatch z) fun tk => ⟨.bl b, H, I.tok tk, rfl, q⟩
end Hx

namespace Hx
open PySem PySem.Spec PyProof.Rows L2
/-! comparing data -/
section
variable {X : Cx}
def rNeQ : R2 := fun x y H Q => ∃ d e, Dq H x d ∧ Dq H y e ∧ SeqAt.shaped d = true ∧ SeqAt.shaped e = true ∧ Q (.bl (!PyData.eqv d e)) H
def rEqQ : R2 := fun x y H Q => ∃ d e, Dq H x d ∧ Dq H y e ∧ SeqAt.shaped d = true ∧ SeqAt.shaped e = true ∧ Q (.bl (PyData.eqv d e)) H
theorem op_neQ (hu : X.A.units + 64 < cLine) : OpR X (compareOp .NotEq) rNeQ := by
  intro pins s σ H x y v u Q I rx ry h
  obtain ⟨d, e, hd, he, sd, se, q⟩ := h
  obtain ⟨as, r1, _⟩ := Dq.reads I d x v hd rx
  obtain ⟨bs, r2, _⟩ := Dq.reads I e y u he ry
  exact SeqAt.compareNe_shaped r1 r2 sd se hu ⟨.bl _, H, I, rfl, q⟩
theorem op_eqQ (hu : X.A.units + 64 < cLine) : OpR X (compareOp .Eq) rEqQ := by
  intro pins s σ H x y v u Q I rx ry h
  obtain ⟨d, e, hd, he, sd, se, q⟩ := h
  obtain ⟨as, r1, _⟩ := Dq.reads I d x v hd rx
  obtain ⟨bs, r2, _⟩ := Dq.reads I e y u he ry
  exact SeqAt.compareEq_shaped r1 r2 sd se hu ⟨.bl _, H, I, rfl, q⟩
end
/-! comprehensions that make data -/
def without (D : Addr) (H : Hp) : Hp := fun b => if b = D then none else H b
def newPart (H H' : Hp) : Hp := fun b => if H b = none then H' b else none
theorem without_some {D b : Addr} {H : Hp} {o : HO} (h : without D H b = some o) : b ≠ D ∧ H b = some o := by
  unfold without at h
  split at h
  · cases h
  · exact ⟨by assumption, h⟩
theorem without_at {D b : Addr} {H : Hp} {o : HO} (n : b ≠ D) (h : H b = some o) : without D H b = some o := by
  unfold without
  rw [if_neg n]
  exact h
theorem newPart_some {b : Addr} {H H' : Hp} {o : HO} (h : newPart H H' b = some o) : H b = none ∧ H' b = some o := by
  unfold newPart at h
  split at h
  · exact ⟨by assumption, h⟩
  · cases h
theorem newPart_at {b : Addr} {H H' : Hp} {o : HO} (n : H b = none) (h : H' b = some o) : newPart H H' b = some o := by
  unfold newPart
  rw [if_pos n]
  exact h
theorem without_same {D : Addr} {H : Hp} : Same (without D H) H := fun b o h => (without_some h).2
theorem newPart_same {H H' : Hp} : Same (newPart H H') H' := fun b o h => (newPart_some h).2
theorem without_upd {D : Addr} {H : Hp} {o : HO} : without D (upd H D o) = without D H := by
  funext b
  unfold without
  split
  · rfl
  · rw [upd_ne (by assumption)]
theorem DqAll.snoc {H : Hp} {v : V} {d : PyData} : ∀ {vs : List V} {ds : List PyData}, DqAll H vs ds → Dq H v d → DqAll H (vs ++ [v]) (ds ++ [d])
  | _, _, .nil, h => .cons h .nil
  | _, _, .cons a r, h => .cons a (DqAll.snoc r h)
theorem DqAll.len {H : Hp} : ∀ {vs : List V} {ds : List PyData}, DqAll H vs ds → vs.length = ds.length
  | _, _, .nil => rfl
  | _, _, .cons _ r => congrArg Nat.succ (DqAll.len r)
/-- what a turn's element must do: a new datum, all else as it was -/
def Gives (te : TE) (σ : L2.St) (H : Hp) (d : PyData) : Prop := ∀ Q : VK, (∀ y H', Same H H' → Dq (newPart H H') y d → Q y H') → te σ H Q
def LcAt (H1 : Hp) (D : Addr) (f : Nat → PyData) (i : Nat) (H' : Hp) : Prop :=
  Same H1 H' ∧ ∃ xs, H' D = some (.lst xs) ∧ DqAll (without D H') xs ((List.range i).map f)
theorem LcAt.start {H1 : Hp} {D : Addr} {f : Nat → PyData} (hD : H1 D = none) : LcAt H1 D f 0 (upd H1 D (.lst [])) := ⟨same_new hD _, [], upd_same, .nil⟩
theorem LcAt.turn {H1 H' H2 : Hp} {D : Addr} {f : Nat → PyData} {i : Nat} {y : V} (hD : H1 D = none) (h : LcAt H1 D f i H') (s : Same H' H2) (hy : Dq (newPart H' H2) y (f i)) (hi : i < 100000) :
    ∃ acc, H2 D = some (.lst acc) ∧ acc.length < sizeLine ∧ LcAt H1 D f (i + 1) (upd H2 D (.lst (acc ++ [y]))) := by
  obtain ⟨s1, xs, hx, ha⟩ := h
  have hlen := ha.len
  rw [List.length_map, List.length_range] at hlen
  refine ⟨xs, s _ _ hx, by rw [hlen]; exact Nat.lt_of_lt_of_le hi (by decide), ?_, xs ++ [y], upd_same, ?_⟩
  · intro b o hb
    rw [upd_ne (ne_of_none hb hD)]
    exact s _ _ (s1 _ _ hb)
  · rw [without_upd, List.range_succ, List.map_append]
    refine DqAll.snoc (DqAll.same (fun b o hb => ?_) _ _ ha) (Dq.same (fun b o hb => ?_) _ _ hy)
    · obtain ⟨n, e⟩ := without_some hb
      exact without_at n (s _ _ e)
    · obtain ⟨n, e⟩ := newPart_some hb
      exact without_at (fun z => by rw [z, hx] at n; cases n) e
theorem lc_data_range {n : Nat} {i0 : Nat} {te : TE} {vs : List Nat} {σ : L2.St} {H1 : Hp} {D : Addr} {Qd : Hp → Prop} (f : Nat → PyData) (hD : H1 D = none) (hn : n ≤ 100000)
    (hw : ∀ x : V, wipe ((wipe σ vs).set i0 (some x)) vs = wipe σ vs)
    (hs : ∀ i H', i < n → Same H1 H' → Gives te ((wipe σ vs).set i0 (some (.int (i : Nat)))) H' (f i))
    (hd : ∀ H' xs, Same H1 H' → H' D = some (.lst xs) → DqAll H' xs ((List.range n).map f) → Qd H') :
    ∃ W : Nat → Nat → Hp → Prop, (∃ m, W 0 m (upd H1 D (.lst []))) ∧ ∀ i m H, W i m H →
      ((Itr 0 n).stop i H ∧ Qd H) ∨ ((Itr 0 n).go i H ∧ ∃ Nx : Hp → Prop, (∀ H', Nx H' → ∃ m', m' < m ∧ W (i + 1) m' H') ∧
        ∀ x H', (Itr 0 n).yld i H x H' → gName i0 x (wipe σ vs) H' fun σ2 H2 => wipe σ2 vs = wipe σ vs ∧ tYes σ2 H2 fun b H3 =>
          if b = true then te σ2 H3 fun y H4 => ∃ acc, H4 D = some (.lst acc) ∧ acc.length < sizeLine ∧ Nx (upd H4 D (.lst (acc ++ [y]))) else Nx H3) := by
  refine lc_range (lo := 0) (n := n) (LcAt H1 D f) (LcAt.start hD) ?_ ?_
  · intro i H' hi h
    refine ⟨hw _, turn_yes ?_⟩
    have e : (V.int (0 + (i : Int))) = V.int ((i : Nat) : Int) := by rw [Int.zero_add]
    rw [e]
    exact hs i H' hi h.1 _ fun y H2 s hy => h.turn hD s hy (by omega)
  · rintro H' ⟨s1, xs, hx, ha⟩
    exact hd H' xs s1 hx (DqAll.same without_same _ _ ha)
theorem lc_data_list {K : PySem.W.Frag} {a : Addr} {ws : List V} {i0 : Nat} {te : TE} {vs : List Nat} {σ : L2.St} {H1 : Hp} {D : Addr} {Qd : Hp → Prop} (f : Nat → PyData) (hD : H1 D = none) (hn : ws.length ≤ 100000)
    (hl : SqL K H1 a ws) (hw : ∀ x : V, wipe ((wipe σ vs).set i0 (some x)) vs = wipe σ vs)
    (hs : ∀ i x H', ws[i]? = some x → Same H1 H' → Gives te ((wipe σ vs).set i0 (some x)) H' (f i))
    (hd : ∀ H' xs, Same H1 H' → H' D = some (.lst xs) → DqAll H' xs ((List.range ws.length).map f) → Qd H') :
    ∃ W : Nat → Nat → Hp → Prop, (∃ m, W 0 m (upd H1 D (.lst []))) ∧ ∀ i m H, W i m H →
      ((Itl K a).stop i H ∧ Qd H) ∨ ((Itl K a).go i H ∧ ∃ Nx : Hp → Prop, (∀ H', Nx H' → ∃ m', m' < m ∧ W (i + 1) m' H') ∧
        ∀ x H', (Itl K a).yld i H x H' → gName i0 x (wipe σ vs) H' fun σ2 H2 => wipe σ2 vs = wipe σ vs ∧ tYes σ2 H2 fun b H3 =>
          if b = true then te σ2 H3 fun y H4 => ∃ acc, H4 D = some (.lst acc) ∧ acc.length < sizeLine ∧ Nx (upd H4 D (.lst (acc ++ [y]))) else Nx H3) := by
  refine lc_list (K := K) (a := a) (xs := ws) (LcAt H1 D f) (LcAt.start hD) (fun i H' _ h => h.1.seq hl) ?_ ?_
  · intro i x H' hi h
    have lt : i < ws.length := (List.getElem?_eq_some_iff.mp hi).1
    refine ⟨hw _, turn_yes ?_⟩
    exact hs i x H' hi h.1 _ fun y H2 s hy => h.turn hD s hy (by omega)
  · rintro H' ⟨s1, xs, hx, ha⟩
    exact hd H' xs s1 hx (DqAll.same without_same _ _ ha)
/-! isinstance of an exception -/
/-- at a stands an exception of the class at C -/
def XAt (H : Hp) (a C : Addr) : Prop := ∃ d, H a = some (exo a C d) ∧ ∀ x, d = some x → ∃ fs, H x = some (exd x fs)
theorem XAt.same {H H' : Hp} {a C : Addr} (h : XAt H a C) (s : Same H H') : XAt H' a C := by
  obtain ⟨d, e, k⟩ := h
  refine ⟨d, s _ _ e, fun x hx => ?_⟩
  obtain ⟨fs, z⟩ := k x hx
  exact ⟨fs, s _ _ z⟩
def tIs (i : Nat) (a C : Addr) (b : Bool) : TE := fun σ H Q => σ[i]? = some (some (.ref a)) ∧ XAt H a C ∧ Q (.bl b) H
section
variable {X : Cx} {a C : Addr} {i : Nat} {x : Str} {p p1 pos : Pos} {ce : Expr} {c : V} {cv : Value} {b : Bool} {B newId initId : String} {bmB : List Value}
theorem call_isK (T : ExK X.K C B newId initId bmB) : CallR X (.builtin "isinstance") (fun xs H Q => ∃ (a : Addr) (c : V) (cv : Value) (b : Bool), xs = [.ref a, c] ∧ XAt H a C ∧ ClsV c cv ∧ PySem.W.kitOne X.K (.ref C) cv = some b ∧ Q (.bl b) H) := by
  intro pins s σ H xs us Q I r h
  obtain ⟨a, c, cv, b, rfl, ⟨d, ha, hd⟩, hc, e, q⟩ := h
  obtain ⟨u1, u2, rfl, r1, r2⟩ := vals2 r
  cases (show u1 = Value.ref a from r1)
  have e2 := hc.eq r2
  subst e2
  obtain ⟨t1, hobj⟩ := exo_at I.hok ha
  obtain ⟨cd, hcd, _⟩ := PySem.W.any_some T.dct
  have hcl : (PySem.W.clsIn X.K C).isSome = true := by
    rw [hcd]
    rfl
  cases d with
  | none =>
    have inst : PySem.W.InstAt s.heap a { cls := .ref C, dict := none, data := .fields #[.ref t1, .none, .none, .none, .bool false, .none] } C none := ⟨hobj, rfl, rfl, trivial⟩
    exact PySem.W.kia_one (PySem.W.kitx_exc hcl T.ga T.gt T.sub T.cl T.gg T.tk T.mo) I.kIn inst e (fun z => nomatch z) fun tk => ⟨.bl b, H, I.tok tk, rfl, q⟩
  | some x =>
    obtain ⟨fs, ex⟩ := hd x rfl
    obtain ⟨mA, ns, rel⟩ := exd_at I.hok ex
    obtain ⟨od, hod, look⟩ := lookIn_ns ns
    have inst : PySem.W.InstAt s.heap a { cls := .ref C, dict := some x, data := .fields #[.ref t1, .none, .none, .none, .bool false, .none] } C (some od) := ⟨hobj, rfl, rfl, hod⟩
    exact PySem.W.kia_one (PySem.W.kitx_exc hcl T.ga T.gt T.sub T.cl T.gg T.tk T.mo) I.kIn inst e (fun z => nomatch z) fun tk => ⟨.bl b, H, I.tok tk, rfl, q⟩
theorem pe_is (T : ExK X.K C B newId initId bmB) (hg : Gl X "isinstance") (hm : X.mg "isinstance" = none) (hx : PE X (.Name x p1) (tVar i)) (hc : PE X ce (tC c)) (cl : ClsV c cv)
    (hk : PySem.W.kitOne X.K (.ref C) cv = some b) (he1 : starEach [.Name x p1, ce] X.env = (false, eval (.Name x p1) X.env) :: starEach [ce] X.env := by rfl)
    (he2 : starEach [ce] X.env = (false, eval ce X.env) :: starEach [] X.env := by rfl)
    (hpl : (backTo pos (starEach [ce] X.env)).any (·.1) = false := by rfl) : PE X (.Call (.Name "isinstance" p) [.Name x p1, ce] [] pos) (tIs i a C b) := by
  constructor
  intro pins s σ H Q I h
  obtain ⟨h1, h2, h3⟩ := h
  exact (pe_callB (call_isK T) hg hm PyProof.Rows.boot_isinstance (pa_cons hx (pa_cons hc pa_nil he2) he1) (by decide) (by decide) he1 hpl).run pins s σ H Q I ⟨_, h1, a, c, cv, b, rfl, h2, cl, hk, h3⟩
end
/-- C(), C an own exception class without __init__ -/
theorem pe_mk0 {X : Cx} {C : Addr} {B newId initId : String} {bmB : List Value} {x : Str} {p pos : Pos} (F : ExcBaseFacts B newId initId bmB) (q : PySem.W.excIn X.K C bmB newId = true)
    (gC : X.mg x = some (.ref C)) (kC : PySem.W.keepIn X.K (.ref C) = true) (hg : Gl X x) (hdb : (x == ("__debug__" : Str)) = false := by decide) :
    PE X (.Call (.Name x p) [] [] pos) (fun σ H Q => ∀ a, H a = none → Q (.ref a) (upd H a (exo a C none))) := by
  constructor
  intro pins s σ H Q I h
  refine wpAny_Call_Name_kw (ld_glob I hg gC ?_ hdb)
  refine PySem.W.callWith_K0 I.kIn kC ?_
  show wpAny _ _ (call (.ref C) []) _ _ _
  obtain ⟨bm, N, nm, qn, bs, hdct, sn, sub, ab, col, dd, k0, k1, k2, k3, k5, mN, hC, hN, hni, T⟩ := exc_obj I.kIn q
  refine wpAny_call_exc_subT F T hC hN hni (fun h' a hm => ?_) (by show 0 ≤ sizeLine; exact Nat.zero_le _)
  have hn : H a = none := I.hok.gone hm.new
  obtain ⟨t, ht, _, _⟩ := hm.there
  exact ⟨.ref a, upd H a (exo a C none), I.laidN hm.keeps hm.new hn (exo_ok ht), rfl, h a hn⟩
end Hx

namespace Wp
open PySem PySem.Spec PyProof.Rows L2 Hx
theorem eqv_bools : ∀ a b : List Bool, PyData.eqvAll (a.map PyData.bool) (b.map PyData.bool) = decide (a = b)
  | [], [] => rfl
  | x :: xs, y :: ys => by
    show (PyData.eqv (.bool x) (.bool y) && PyData.eqvAll (xs.map PyData.bool) (ys.map PyData.bool)) = _
    rw [eqv_bools xs ys]
    have e : PyData.eqv (.bool x) (.bool y) = decide (x = y) := by cases x <;> cases y <;> rfl
    rw [e, Bool.eq_iff_iff, Bool.and_eq_true_iff, decide_eq_true_eq, decide_eq_true_eq, decide_eq_true_eq]
    exact ⟨fun ⟨h1, h2⟩ => by rw [h1, h2], fun h => List.cons.inj h⟩
  | [], _ :: _ => rfl
  | _ :: _, [] => rfl
theorem bools_lay : ∀ bs : List Bool, PyData.canLayAll0 (bs.map PyData.bool) = true ∧ PyData.depthAll (bs.map PyData.bool) = 0
  | [] => ⟨rfl, rfl⟩
  | b :: r => by
    obtain ⟨h1, h2⟩ := bools_lay r
    refine ⟨?_, ?_⟩
    · show (true && PyData.canLayAll0 (r.map PyData.bool)) = true
      rw [h1]
      rfl
    · show max 0 (PyData.depthAll (r.map PyData.bool)) = 0
      rw [h2]
      rfl
theorem shaped_bools (bs : List Bool) : SeqAt.shaped (.list (bs.map PyData.bool)) = true := by
  obtain ⟨h1, h2⟩ := bools_lay bs
  show (PyData.canLayAll0 (bs.map PyData.bool) && decide (PyData.depthAll (bs.map PyData.bool) + 1 ≤ 64)) = true
  rw [h1, h2]
  rfl
theorem dq_bools {H : Hp} : ∀ bs : List Bool, DqAll H (bs.map V.bl) (bs.map PyData.bool)
  | [] => .nil
  | b :: bs => .cons (.bl b) (dq_bools bs)
def bls (l : List Bool) : List V := l.map V.bl
/-- what the law finds of marks: places below begin, then a wheel -/
structure Shape (ml : List Bool) (begin pace start : Nat) : Prop where
  p1 : 1 ≤ pace
  p2 : pace ≤ ml.length - begin
  dv : (ml.length - begin) % pace = 0
  turn : (ml.drop begin).drop pace ++ (ml.drop begin).take pace = ml.drop begin
  lst : ∀ k, 1 ≤ k → k < pace → (ml.length - begin) % k = 0 → (ml.drop begin).drop k ++ (ml.drop begin).take k ≠ ml.drop begin
  s1 : start ≤ begin
  down : ∀ i, start ≤ i → i < begin → ml.getD i false = ml.getD (i + pace) false
  stop : 0 < start → ml.getD (start - 1) false ≠ ml.getD (start - 1 + pace) false
def shapeV (start pace : Nat) (pb pr : Addr) (ml : List Bool) (begin : Nat) : List V :=
  [.int (start : Int), .int (pace : Int), .ref pb, .ref pr, (((List.range ml.length).filter fun i => ml.getD i false).map fun i : Nat => V.int (i : Int)).headD .non, .bl (!(ml.drop begin).any id), .bl (ml.any id)]
def tPace (K : PySem.W.Frag) : TT := tAnd (tTest (tOp rEq (tOp (rI (fun _ j => 0 < j) fun i j => V.int (i % j)) (tCB (fun xs H Q => (∃ i, xs = [.int i] ∧ Q (.int i) H) ∨ ∃ k, xs = [.bl k] ∧ Q (.int (if k then 1 else 0)) H) (tCons (tVar 4) tNil)) (tVar 10)) (tC (.int 0))))
  (tTest (tOp rEqQ (tOp rCat (tSl (rSlL K) (tVar 2) (tPart (tVar 10)) tNoPart) (tSl (rSlL K) (tVar 2) tNoPart (tPart (tVar 10)))) (tVar 2)))
def spShape (K : PySem.W.Frag) : Sp := fun vs H Q _ => ∃ (a : Addr) (ml : List Bool) (begin : Nat), vs = [.ref a, .int (begin : Int)] ∧ SqL K H a (bls ml) ∧ begin < ml.length ∧ ml.length ≤ 3000 ∧
  ∀ pace start, Shape ml begin pace start → ∀ p pb pr H', Same H H' → H' p = some (.lst (shapeV start pace pb pr ml begin)) → H' pb = some (.tup (nats ((List.range start).filter fun i => ml.getD i false))) →
    H' pr = some (.tup (nats ((List.range pace).filter fun i => ml.getD (start + i) false))) → Q (.ref p) H'
end Wp

namespace Wp
open PySem PySem.Spec PyProof.Rows L2 Hx
theorem name_seq {i : Nat} {x : V} {t u : TS} {D : Ends} {r : VK} {b e : L2.St → Hp → Prop} {σ : L2.St} {H : Hp} (h : tSeq t u D (σ.set i (some x)) H) : gName i x σ H (Ends.nx { nx := tSeq t u D, rt := r, bk := b, ct := e }) := h
theorem cutV_from (xs : List V) (k : Nat) : cutV xs (some (k : Int)) none = xs.drop k := by
  unfold cutV
  rw [HT.sIx_nat, HT.sIx_none]
  rcases Nat.le_total k xs.length with c | c
  · rw [Nat.min_eq_left c, List.take_of_length_le (by rw [List.length_drop]; exact Nat.le_refl _)]
  · rw [Nat.min_eq_right c, List.drop_eq_nil_of_le c, List.drop_eq_nil_of_le (Nat.le_refl _), List.take_nil]
theorem cutV_to (xs : List V) (k : Nat) : cutV xs none (some (k : Int)) = xs.take k := by
  unfold cutV
  rw [HT.sIx_nat, HT.sIx_none, List.drop_zero, Nat.sub_zero]
  rcases Nat.le_total k xs.length with c | c
  · rw [Nat.min_eq_left c]
  · rw [Nat.min_eq_right c, List.take_of_length_le (Nat.le_refl _), List.take_of_length_le c]
theorem lc_filt {lo n i0 : Nat} {tt : TT} {vs : List Nat} {σ : L2.St} {H1 : Hp} {D : Addr} {Qd : Hp → Prop} (fb : Nat → Bool) (hD : H1 D = none) (hn : n ≤ 5000) (hw : ∀ x : V, wipe ((wipe σ vs).set i0 (some x)) vs = wipe σ vs)
    (hv : ∀ x : V, ((wipe σ vs).set i0 (some x))[i0]? = some (some x))
    (ht : ∀ i H' (R : Bool → Hp → Prop), i < n → Same H1 H' → (∀ H2, Same H' H2 → R (fb (lo + i)) H2) → tt ((wipe σ vs).set i0 (some (.int ((lo + i : Nat) : Int)))) H' R)
    (hd : ∀ H', Same H1 H' → H' D = some (.lst (nats (((List.range n).map (lo + ·)).filter fb))) → Qd H') :
    ∃ W : Nat → Nat → Hp → Prop, (∃ m, W 0 m (upd H1 D (.lst []))) ∧ ∀ i m H, W i m H →
      ((Itr (lo : Int) n).stop i H ∧ Qd H) ∨ ((Itr (lo : Int) n).go i H ∧ ∃ Nx : Hp → Prop, (∀ H', Nx H' → ∃ m', m' < m ∧ W (i + 1) m' H') ∧ ∀ x H', (Itr (lo : Int) n).yld i H x H' → gName i0 x (wipe σ vs) H' fun σ2 H2 => wipe σ2 vs = wipe σ vs ∧ tt σ2 H2 fun b H3 =>
        if b = true then tVar i0 σ2 H3 fun y H4 => ∃ acc, H4 D = some (.lst acc) ∧ acc.length < sizeLine ∧ Nx (upd H4 D (.lst (acc ++ [y]))) else Nx H3) := by
  refine lc_range (lo := (lo : Int)) (n := n) (fun i H' => Same H1 H' ∧ H' D = some (.lst (nats (((List.range i).map (lo + ·)).filter fb)))) ⟨same_new hD _, upd_same⟩ ?_ ?_
  · rintro i H' hi ⟨s1, hD1⟩
    have e : (lo : Int) + (i : Int) = ((lo + i : Nat) : Int) := by omega
    rw [e]
    refine ⟨hw _, ht i H' _ hi s1 fun H2 s2 => ?_⟩
    have hD2 := s2 _ _ hD1
    have sn : ((List.range (i + 1)).map (lo + ·)).filter fb = ((List.range i).map (lo + ·)).filter fb ++ (if fb (lo + i) then [lo + i] else []) := by
      rw [List.range_succ, List.map_append, List.filter_append]
      cases b : fb (lo + i) <;> simp [b]
    rw [sn]
    cases b : fb (lo + i) with
    | false => exact iteF ⟨s1.trans s2, by rw [if_neg Bool.false_ne_true, List.append_nil]; exact hD2⟩
    | true =>
      refine iteT ⟨_, hv _, _, hD2, ?_, same_at hD (s1.trans s2), ?_⟩
      · rw [nats_len, sizeLine_eq]
        have := List.length_filter_le fb ((List.range i).map (lo + ·))
        rw [List.length_map, List.length_range] at this
        omega
      · rw [upd_same, if_pos rfl]
        unfold nats
        rw [List.map_append]
        rfl
  · rintro H' ⟨s1, hD1⟩
    exact hd H' s1 hD1
theorem first_of (fb : Nat → Bool) (lo : Nat) : ∀ n, (∃ i, i < n ∧ fb (lo + i) = true) → ∃ i r, i < n ∧ ((List.range n).map (lo + ·)).filter fb = (lo + i) :: r ∧ fb (lo + i) = true ∧ ∀ j, j < i → fb (lo + j) = false
  | 0, h => by
    obtain ⟨i, hi, _⟩ := h
    omega
  | n + 1, h => by
    have sn : ((List.range (n + 1)).map (lo + ·)).filter fb = ((List.range n).map (lo + ·)).filter fb ++ (if fb (lo + n) then [lo + n] else []) := by
      rw [List.range_succ, List.map_append, List.filter_append]
      cases b : fb (lo + n) <;> simp [b]
    by_cases c : ∃ i, i < n ∧ fb (lo + i) = true
    · obtain ⟨i, r, h1, h2, h3, h4⟩ := first_of fb lo n c
      exact ⟨i, _, by omega, by rw [sn, h2, List.cons_append], h3, h4⟩
    · have no : ∀ j, j < n → fb (lo + j) = false := fun j hj => by
        cases b : fb (lo + j) with
        | false => rfl
        | true => exact (c ⟨j, hj, b⟩).elim
      obtain ⟨i, hi, hb⟩ := h
      have e : i = n := by
        rcases Nat.lt_or_ge i n with z | z
        · rw [no i z] at hb
          cases hb
        · omega
      subst e
      refine ⟨i, [], by omega, ?_, hb, no⟩
      rw [sn, if_pos hb]
      have z : ((List.range i).map (lo + ·)).filter fb = [] := by
        rw [List.filter_eq_nil_iff]
        intro x hx
        obtain ⟨j, hj, rfl⟩ := List.mem_map.mp hx
        rw [no j (List.mem_range.mp hj)]
        exact Bool.false_ne_true
      rw [z]
      rfl
theorem bls_at {l : List Bool} {i : Nat} (h : i < l.length) : (bls l)[i]? = some (.bl (l.getD i false)) := by
  unfold bls
  rw [List.getElem?_map, List.getElem?_eq_getElem h, List.getD_eq_getElem?_getD, List.getElem?_eq_getElem h]
  rfl
theorem in_bls : ∀ l : List Bool, inV (.bl true) (bls l) = l.any id
  | [] => rfl
  | b :: r => by
    have := in_bls r
    unfold inV bls at this ⊢
    rw [List.map_cons, List.any_cons, List.any_cons, this]
    cases b <;> rfl
theorem flat_bls (l : List Bool) : (bls l).all flatV = true := by
  unfold bls
  rw [List.all_map, List.all_eq_true]
  intro b _
  cases b <;> rfl
theorem any_head (ml : List Bool) : (!decide ((nats ((List.range ml.length).filter fun i => ml.getD i false)).headD .non = .non)) = ml.any id := by
  cases hl : (List.range ml.length).filter fun i => ml.getD i false with
  | nil =>
    show (!decide (V.non = V.non)) = _
    rw [decide_eq_true rfl]
    symm
    show ml.any id = false
    rw [List.any_eq_false]
    intro x hx
    obtain ⟨i, hi, e⟩ := List.getElem_of_mem hx
    have := List.filter_eq_nil_iff.mp hl i (List.mem_range.mpr hi)
    rw [List.getD_eq_getElem?_getD, List.getElem?_eq_getElem hi, e] at this
    exact this
  | cons x r =>
    have hx : x ∈ (List.range ml.length).filter fun i => ml.getD i false := by rw [hl]; exact List.mem_cons_self
    obtain ⟨h1, h2⟩ := List.mem_filter.mp hx
    have hi := List.mem_range.mp h1
    show (!decide (V.int (x : Int) = V.non)) = _
    rw [decide_eq_false (fun z => by cases z)]
    symm
    show ml.any id = true
    rw [List.any_eq_true]
    refine ⟨_, List.getElem_mem hi, ?_⟩
    rw [List.getD_eq_getElem?_getD, List.getElem?_eq_getElem hi] at h2
    exact h2
theorem head_at (l : List Nat) : atI (nats l ++ [V.non]) 0 = some ((nats l).headD .non) := by
  cases l with
  | nil => exact atI_nat (j := 0) rfl
  | cons x r => exact atI_nat (j := 0) rfl
end Wp

namespace Wp
open PySem PySem.Spec PyProof.Rows L2 Hx
section
variable {P : Program} {w : World} {K : PySem.W.Frag} {mg : Str → Option Value} {base : Heap} {f f1 f2 f3 C : Addr} {fd fd1 fd2 fd3 : FuncData}
def NS : List Str := ["_law_marks_here", "_law_begin", "_law_wheel", "_law_start", "_law_size", "_law_pace", "_law_turn", "_law_below", "_law_rests", "_law_found", "_law_k", "_law_spot"]
theorem scShape : FnScope NS ["_law_marks_here", "_law_begin"] (defScope s_law_shape) := ⟨rfl, rfl, rfl, by decide +kernel, rfl, by decide +kernel, by decide +kernel⟩
theorem ok_shape (F : Fun K "_law_shape" "_law_shape" s_law_shape f fd) (Z : Bp mg) : FnOk P w K mg base CX0 1 f fd ["_law_marks_here", "_law_begin"] (spShape K) := by
  refine F.ok scShape (fun vs H Q E h => ?_) (fun cdv A outer s H vs Q E hr h => ?_)
  · obtain ⟨a, ml, b, rfl, _⟩ := h
    rfl
  obtain ⟨a, ml, begin, rfl, hS, bl, few, q⟩ := h
  refine ⟨_, pss_cons (ps_asg (pe_tup (pa_cons (pe_slice sl_list (pv 0) (po_some (pv 1)) po_none) (pa_cons (pv 1) pa_nil))) (pg_tup (by rfl) (pgs_cons (pg_name (i := 2) scShape.nd rfl (Or.inr rfl)) (pgs_cons (pg_name (i := 3) scShape.nd rfl (Or.inr rfl)) pgs_nil))))
    (pss_cons (ps_set (i := 4) scShape.nd rfl (Or.inr rfl) (pe_callB call_len_seq (by rfl) Z.len PySem.boot_len (pa_cons (pv 2) pa_nil)))
    (pss_cons (ps_set (i := 5) scShape.nd rfl (Or.inl rfl) (pe_ix ix_list (pe_lc (te := tVar 10) (own := [("_law_k", 10)]) (g := gName 10) (tt := tPace K) rfl scShape.nd (pi_range2 rfl Z.range (pa_cons pe_int (pa_cons (pe_op op_add (pv 4) pe_int) pa_nil)))
        (blkOk_by (N := NS) (sc := defScope s_law_shape) (by decide +kernel)) (fun _ _ _ _ _ => pg_name (i := 10) scShape.nd rfl (Or.inl rfl))
        (fun _ _ _ _ _ => pts_one (PW.pt (pw_and (pt_cmpR op_eq (pe_op op_mod (pe_callTy call_int1 (by rfl) Z.int PyProof.Rows.boot_int (pa_cons (pv 4) pa_nil)) (pv 10)) pe_int (nomark _))
          (pw_and1 (pt_cmpR (op_eqQ hr.units) (pe_op op_cat (pe_slice sl_list (pv 2) (po_some (pv 10)) po_none) (pe_slice sl_list (pv 2) po_none (po_some (pv 10)))) (pv 2) (nomark _))))))
        (fun _ _ _ _ _ => pv 10)) pe_int (fun _ _ => rfl)))
    (pss_cons (ps_for PassesOwn.never rfl (pi_range1 rfl Z.range (pa_cons (pv 1) pa_nil)) (pg_name (i := 6) scShape.nd rfl (Or.inl rfl))
      (pss_cons (ps_if (pt_cmpR op_ne (pe_ix ix_list (pv 0) (pe_op op_sub (pv 3) pe_int) (fun _ _ => rfl)) (pe_ix ix_list (pv 0) (pe_op op_add (pe_op op_sub (pv 3) pe_int) (pv 5)) (fun _ _ => rfl)) (nomark _)) (pss_one ps_break) pss_nil)
      (pss_one (ps_set (i := 3) scShape.nd rfl (Or.inr rfl) (pe_op op_sub (pv 3) pe_int)))))
    (pss_cons (ps_set (i := 7) scShape.nd rfl (Or.inl rfl) (pe_callTy call_tuple_of (by rfl) Z.tuple (by decide +kernel) (pa_cons (pe_lc (te := tVar 11) (own := [("_law_spot", 11)]) (g := gName 11) (tt := tB (tOp (rIxL K) (tVar 0) (tVar 11))) rfl scShape.nd (pi_range1 rfl Z.range (pa_cons (pv 3) pa_nil))
        (blkOk_by (N := NS) (sc := defScope s_law_shape) (by decide +kernel)) (fun _ _ _ _ _ => pg_name (i := 11) scShape.nd rfl (Or.inl rfl)) (fun _ _ _ _ _ => pts_one (pt_val (pe_ix ix_list (pv 0) (pv 11) (fun _ _ => rfl)))) (fun _ _ _ _ _ => pv 11)) pa_nil)))
    (pss_cons (ps_set (i := 8) scShape.nd rfl (Or.inl rfl) (pe_callTy call_tuple_of (by rfl) Z.tuple (by decide +kernel) (pa_cons (pe_lc (te := tVar 10) (own := [("_law_k", 10)]) (g := gName 10) (tt := tB (tOp (rIxL K) (tVar 0) (tOp (rI0 fun i j => V.int (i + j)) (tVar 3) (tVar 10)))) rfl scShape.nd (pi_range1 rfl Z.range (pa_cons (pv 5) pa_nil))
        (blkOk_by (N := NS) (sc := defScope s_law_shape) (by decide +kernel)) (fun _ _ _ _ _ => pg_name (i := 10) scShape.nd rfl (Or.inl rfl)) (fun _ _ _ _ _ => pts_one (pt_val (pe_ix ix_list (pv 0) (pe_op op_add (pv 3) (pv 10)) (fun _ _ => rfl)))) (fun _ _ _ _ _ => pv 10)) pa_nil)))
    (pss_cons (ps_set (i := 9) scShape.nd rfl (Or.inl rfl) (pe_op op_cat (pe_lc (te := tVar 11) (own := [("_law_spot", 11)]) (g := gName 11) (tt := tB (tOp (rIxL K) (tVar 0) (tVar 11))) rfl scShape.nd (pi_range1 rfl Z.range (pa_cons (pe_callB call_len_seq (by rfl) Z.len PySem.boot_len (pa_cons (pv 0) pa_nil)) pa_nil))
        (blkOk_by (N := NS) (sc := defScope s_law_shape) (by decide +kernel)) (fun _ _ _ _ _ => pg_name (i := 11) scShape.nd rfl (Or.inl rfl)) (fun _ _ _ _ _ => pts_one (pt_val (pe_ix ix_list (pv 0) (pv 11) (fun _ _ => rfl)))) (fun _ _ _ _ _ => pv 11)) (pe_lst (pa_cons pe_non pa_nil))))
    (pss_one (ps_ret (pe_lst (pa_cons (pv 3) (pa_cons (pv 5) (pa_cons (pv 7) (pa_cons (pv 8) (pa_cons (pe_ix ix_list (pv 9) pe_int (fun _ _ => rfl)) (pa_cons (pe_cmpR op_notIn_seq pe_bl (pv 2) (by rfl)) (pa_cons (pe_cmpR op_notN (pe_ix ix_list (pv 9) pe_int (fun _ _ => rfl)) pe_non (by rfl)) pa_nil)))))))))))))))), ?_⟩
  have lenV : (bls ml).length = ml.length := List.length_map _
  refine ⟨_, rfl, _, rfl, _, rfl, a, _, rfl, hS, fun D0 hD0 => ?_⟩
  rw [cutV_from]
  have ew : (bls ml).drop begin = bls (ml.drop begin) := List.map_drop.symm
  rw [ew]
  refine ⟨_, rfl, (by show 2 ≤ sizeLine; decide), fun T0 hT0 => ⟨T0, _, rfl, SqT.of upd_same, rfl, _, _, rfl, _, _, rfl, rfl, ?_⟩⟩
  have s0 := same_new hD0 (.lst (bls (ml.drop begin)))
  have s1 := same_new hT0 (.tup [V.ref D0, .int (begin : Int)])
  have hw := s1 _ _ (upd_same (H := H) (a := D0) (o := .lst (bls (ml.drop begin))))
  have s01 := s0.trans s1
  generalize upd (upd H D0 (.lst (bls (ml.drop begin)))) T0 (.tup [V.ref D0, .int (begin : Int)]) = H0 at hw s01 ⊢
  clear s0 s1 hD0 hT0
  have lw : (ml.drop begin).length = ml.length - begin := List.length_drop
  have lwv : (bls (ml.drop begin)).length = ml.length - begin := by
    show ((ml.drop begin).map V.bl).length = _
    rw [List.length_map, lw]
  generalize hwl : ml.drop begin = wl at *
  generalize hn : ml.length - begin = n at *
  have n1 : 1 ≤ n := by omega
  have n3 : n ≤ 3000 := by omega
  refine ⟨_, rfl, D0, _, rfl, .inl (SqL.of hw), ?_⟩
  rw [lwv]
  -- the pace
  refine ⟨_, rfl, _, _, rfl, rfl, 1, (n : Int) + 1, rfl, ⟨by omega, by omega, by omega, by omega⟩, fun D2 hD2 => ?_⟩
  rw [show ((n : Int) + 1 - 1).toNat = n by omega]
  refine lc_filt (lo := 1) (n := n) (i0 := 10) (fun k => decide (n % k = 0) && decide (wl.drop k ++ wl.take k = wl)) hD2 (by omega) (fun x => rfl) (fun x => rfl) (fun i H' R hi s2 hR => ?_) (fun H2 s2 h2 => ?_)
  · have em : (n : Int) % ((1 + i : Nat) : Int) = ((n % (1 + i) : Nat) : Int) := (Int.natCast_emod _ _).symm
    refine ⟨_, rfl, .inl ⟨_, rfl, _, rfl, _, _, rfl, rfl, (by omega), rfl, _, rfl, ?_⟩⟩
    have e0 : decide (V.int ((n : Int) % ((1 + i : Nat) : Int)) = V.int 0) = decide (n % (1 + i) = 0) := by
      rw [em, decide_eq_decide]
      exact ⟨fun z => by have := V.int.inj z; omega, fun z => by rw [z]; rfl⟩
    dsimp only
    rw [e0]
    by_cases c : n % (1 + i) = 0
    · rw [decide_eq_true c] at hR ⊢
      refine iteT ⟨_, rfl, _, rfl, _, rfl, D0, _, rfl, SqL.of (s2 _ _ hw), fun A1 h1 => ?_⟩
      have t1 := same_new h1 (.lst (cutV (bls wl) (some ((1 + i : Nat) : Int)) none))
      refine ⟨_, rfl, _, rfl, _, rfl, D0, _, rfl, SqL.of (t1 _ _ (s2 _ _ hw)), fun A2 h2 => ?_⟩
      have t2 := same_new h2 (.lst (cutV (bls wl) none (some ((1 + i : Nat) : Int))))
      refine ⟨A1, A2, _, _, rfl, rfl, t2 _ _ upd_same, upd_same, ?_, fun A3 h3 => ?_⟩
      · have a1 := cutV_length (bls wl) (some ((1 + i : Nat) : Int)) none
        have a2 := cutV_length (bls wl) none (some ((1 + i : Nat) : Int))
        rw [lwv] at a1 a2
        rw [sizeLine_eq]
        omega
      have t3 := same_new h3 (.lst (cutV (bls wl) (some ((1 + i : Nat) : Int)) none ++ cutV (bls wl) none (some ((1 + i : Nat) : Int))))
      have ec : cutV (bls wl) (some ((1 + i : Nat) : Int)) none ++ cutV (bls wl) none (some ((1 + i : Nat) : Int)) = (wl.drop (1 + i) ++ wl.take (1 + i)).map V.bl := by
        rw [cutV_from, cutV_to, List.map_append]
        unfold bls
        rw [List.map_drop, List.map_take]
      refine ⟨_, rfl, .list ((wl.drop (1 + i) ++ wl.take (1 + i)).map PyData.bool), .list (wl.map PyData.bool), .lst (xs := (wl.drop (1 + i) ++ wl.take (1 + i)).map V.bl) (by rw [← ec]; exact upd_same) (dq_bools _), .lst (((t1.trans t2).trans t3) _ _ (s2 _ _ hw)) (dq_bools _), shaped_bools _, shaped_bools _, _, rfl, ?_⟩
      have ev : PyData.eqv (.list ((wl.drop (1 + i) ++ wl.take (1 + i)).map PyData.bool)) (.list (wl.map PyData.bool)) = decide (wl.drop (1 + i) ++ wl.take (1 + i) = wl) := eqv_bools _ _
      rw [ev]
      exact hR _ ((t1.trans t2).trans t3)
    · rw [decide_eq_false c] at hR ⊢
      exact iteF (hR _ (Same.refl _))
  have ex0 : ∃ i, i < n ∧ (decide (n % (1 + i) = 0) && decide (wl.drop (1 + i) ++ wl.take (1 + i) = wl)) = true := by
    refine ⟨n - 1, by omega, ?_⟩
    rw [show 1 + (n - 1) = n by omega, Nat.mod_self, decide_eq_true rfl, ← lw, List.drop_length, List.take_length, List.nil_append, decide_eq_true rfl]
    rfl
  obtain ⟨i0, r0, i0n, hl, hb, hno⟩ := first_of (fun k => decide (n % k = 0) && decide (wl.drop k ++ wl.take k = wl)) 1 n ex0
  rw [hl] at h2
  obtain ⟨hb1, hb2⟩ := Bool.and_eq_true_iff.mp hb
  have hb1 := of_decide_eq_true hb1
  have hb2 := of_decide_eq_true hb2
  generalize hp : 1 + i0 = pace at *
  have pc1 : 1 ≤ pace := by omega
  have pcn : pace ≤ n := by omega
  refine ⟨D2, _, 0, .int (pace : Int), rfl, rfl, SqL.of h2, atI_nat (j := 0) rfl, ?_⟩
  have s03 := s01.trans s2
  have hw3 := s2 _ _ hw
  clear s2 hD2 h2 s01 hw hl
  -- the walk down
  refine name_seq ?_
  refine seq_of (fun σ H' => Same H H' ∧ H' D0 = some (.lst (bls wl)) ∧ ∃ (start : Nat) (u : Option V), Shape ml begin pace start ∧ σ = [some (.ref a), some (.int (begin : Int)), some (.ref D0), some (.int (start : Int)), some (.int (n : Int)), some (.int (pace : Int)), u, none, none, none, none, none]) ?_ ?_
  · rintro σ' H4 ⟨s4, hw4, start, u, SH, rfl⟩
    have st1 := SH.s1
    have tst : ∀ {G : Hp} (_ : Same H G) (k : Nat), k < ml.length → SqL K G a (bls ml) ∧ atI (bls ml) (k : Int) = some (.bl (ml.getD k false)) := fun s k hk => ⟨s.seq hS, atI_nat (bls_at hk)⟩
    -- below
    refine ⟨_, rfl, (start : Int), rfl, by omega, by omega, fun D4 hD4 => ?_⟩
    rw [Int.toNat_natCast]
    refine lc_filt (lo := 0) (n := start) (i0 := 11) (fun k => ml.getD k false) hD4 (by omega) (fun x => rfl) (fun x => rfl) (fun i H' R hi s5 hR => ?_) (fun H5 s5 h5 => ?_)
    · obtain ⟨q1, q2⟩ := tst (s4.trans s5) (0 + i) (by omega)
      exact ⟨_, rfl, _, rfl, a, _, _, _, rfl, rfl, q1, q2, _, rfl, hR _ (Same.refl _)⟩
    have z0 : ((List.range start).map (0 + ·)) = List.range start := by
      have : (fun x => 0 + x) = (id : Nat → Nat) := funext fun x => Nat.zero_add x
      rw [this, List.map_id]
    rw [z0] at h5
    refine ⟨D4, _, rfl, .inl ⟨SqL.of h5, fun pb hpb => ?_⟩⟩
    have s6 := (s4.trans s5).trans (same_new hpb (.tup (nats ((List.range start).filter fun i => ml.getD i false))))
    have hb6 := upd_same (H := H5) (a := pb) (o := .tup (nats ((List.range start).filter fun i => ml.getD i false)))
    have hw6 := (s5.trans (same_new hpb (.tup (nats ((List.range start).filter fun i => ml.getD i false))))) _ _ hw4
    generalize upd H5 pb (.tup (nats ((List.range start).filter fun i => ml.getD i false))) = H6 at s6 hb6 hw6 ⊢
    clear s5 h5 hD4 hpb s4 hw4
    -- the rests
    refine ⟨_, rfl, (pace : Int), rfl, by omega, by omega, fun D6 hD6 => ?_⟩
    rw [Int.toNat_natCast]
    refine lc_filt (lo := 0) (n := pace) (i0 := 10) (fun k => ml.getD (start + k) false) hD6 (by omega) (fun x => rfl) (fun x => rfl) (fun i H' R hi s7 hR => ?_) (fun H7 s7 h7 => ?_)
    · obtain ⟨q1, q2⟩ := tst (s6.trans s7) (start + (0 + i)) (by omega)
      refine ⟨_, rfl, _, rfl, _, rfl, _, _, rfl, rfl, a, _, _, _, rfl, rfl, q1, ?_, _, rfl, hR _ (Same.refl _)⟩
      rw [Int.natCast_add] at q2
      exact q2
    have z1 : ((List.range pace).map (0 + ·)) = List.range pace := by
      have : (fun x => 0 + x) = (id : Nat → Nat) := funext fun x => Nat.zero_add x
      rw [this, List.map_id]
    rw [z1] at h7
    refine ⟨D6, _, rfl, .inl ⟨SqL.of h7, fun pr hpr => ?_⟩⟩
    have sn := s7.trans (same_new hpr (.tup (nats ((List.range pace).filter fun k => ml.getD (start + k) false))))
    have s8 := s6.trans sn
    have hb8 := sn _ _ hb6
    have hw8 := sn _ _ hw6
    have hr8 := upd_same (H := H7) (a := pr) (o := .tup (nats ((List.range pace).filter fun k => ml.getD (start + k) false)))
    generalize upd H7 pr (.tup (nats ((List.range pace).filter fun k => ml.getD (start + k) false))) = H8 at s8 hb8 hw8 hr8 ⊢
    clear sn s7 h7 hD6 hpr s6 hb6 hw6
    -- all members, and what is told
    refine ⟨_, rfl, a, _, rfl, .inl (s8.seq hS), ?_⟩
    rw [lenV]
    refine ⟨(ml.length : Int), rfl, by omega, by omega, fun D8 hD8 => ?_⟩
    rw [Int.toNat_natCast]
    refine lc_filt (lo := 0) (n := ml.length) (i0 := 11) (fun k => ml.getD k false) hD8 (by omega) (fun x => rfl) (fun x => rfl) (fun i H' R hi s9 hR => ?_) (fun H9 s9 h9 => ?_)
    · obtain ⟨q1, q2⟩ := tst (s8.trans s9) (0 + i) (by omega)
      exact ⟨_, rfl, _, rfl, a, _, _, _, rfl, rfl, q1, q2, _, rfl, hR _ (Same.refl _)⟩
    have z2 : ((List.range ml.length).map (0 + ·)) = List.range ml.length := by
      have : (fun x => 0 + x) = (id : Nat → Nat) := funext fun x => Nat.zero_add x
      rw [this, List.map_id]
    rw [z2] at h9
    refine ⟨(by show 1 ≤ sizeLine; decide), fun P1 hP1 => ?_⟩
    have t1 := same_new hP1 (.lst [V.non])
    refine ⟨D8, P1, _, _, rfl, rfl, t1 _ _ h9, upd_same, ?_, fun P2 hP2 => ?_⟩
    · have := List.length_filter_le (fun k => ml.getD k false) (List.range ml.length)
      rw [List.length_range] at this
      rw [nats_len, sizeLine_eq]
      show _ + 1 ≤ _
      omega
    have t2 := same_new hP2 (.lst (nats ((List.range ml.length).filter fun k => ml.getD k false) ++ [V.non]))
    have t := (s9.trans t1).trans t2
    have hf := upd_same (H := upd H9 P1 (.lst [V.non])) (a := P2) (o := .lst (nats ((List.range ml.length).filter fun k => ml.getD k false) ++ [V.non]))
    refine ⟨_, rfl, _, rfl, _, rfl, _, rfl, _, rfl, P2, _, 0, _, rfl, rfl, SqL.of hf, head_at _, ?_⟩
    refine ⟨_, rfl, D0, _, rfl, .inl (SqL.of (t _ _ hw8)), rfl, flat_bls wl, ?_⟩
    refine ⟨_, rfl, P2, _, 0, _, rfl, rfl, SqL.of hf, head_at _, rfl, ?_⟩
    refine ⟨(by show 7 ≤ sizeLine; decide), fun P3 hP3 => ?_⟩
    rw [if_pos rfl, in_bls, any_head]
    refine q pace start SH P3 pb pr _ ((s8.trans t).trans (same_new hP3 _)) ?_ (same_new hP3 _ _ _ (t _ _ hb8)) (same_new hP3 _ _ _ (t _ _ hr8))
    rw [upd_same]
    unfold shapeV
    rw [hwl]
    rfl
  · intro N hN
    have shp : ∀ start, start ≤ begin → (∀ i, start ≤ i → i < begin → ml.getD i false = ml.getD (i + pace) false) → (0 < start → ml.getD (start - 1) false ≠ ml.getD (start - 1 + pace) false) → Shape ml begin pace start := fun start h1 h2 h3 => by
      refine ⟨pc1, by omega, by rw [hn]; exact hb1, by rw [hwl]; exact hb2, fun k k1 k2 k3 => ?_, h1, h2, h3⟩
      rw [hwl]
      rw [hn] at k3
      have := hno (k - 1) (by omega)
      simp only [show 1 + (k - 1) = k by omega, decide_eq_true k3, Bool.true_and] at this
      exact of_decide_eq_false this
    refine ⟨_, rfl, (begin : Int), rfl, by omega, by omega, ?_⟩
    rw [Int.toNat_natCast]
    refine for_range (lo := 0) (n := begin) (fun i σ H' => H2 = H' ∧ ∃ u : Option V, (∀ j, begin - i ≤ j → j < begin → ml.getD j false = ml.getD (j + pace) false) ∧ σ = [some (.ref a), some (.int (begin : Int)), some (.ref D0), some (.int ((begin - i : Nat) : Int)), some (.int (n : Int)), some (.int (pace : Int)), u, none, none, none, none, none])
      ⟨rfl, none, fun j h1 h2 => by omega, rfl⟩ ?_ ?_
    · rintro i σ _ hi ⟨rfl, u, eqs, rfl⟩
      have c1 : ((begin - i : Nat) : Int) - 1 = ((begin - i - 1 : Nat) : Int) := by omega
      have c2 : ((begin - i : Nat) : Int) - 1 + (pace : Int) = ((begin - i - 1 + pace : Nat) : Int) := by omega
      refine ⟨_, rfl, _, rfl, _, _, rfl, rfl, a, _, _, _, rfl, rfl, s03.seq hS, by rw [c1]; exact atI_nat (bls_at (by omega)), ?_⟩
      refine ⟨_, rfl, _, rfl, _, _, rfl, rfl, _, rfl, _, _, rfl, rfl, a, _, _, _, rfl, rfl, s03.seq hS, by rw [c2]; exact atI_nat (bls_at (by omega)), ?_⟩
      refine ⟨rfl, _, rfl, ?_⟩
      refine ite2 (fun c => ?_) (fun c => ?_)
      · refine hN _ _ ⟨s03, hw3, begin - i, _, shp (begin - i) (by omega) eqs (fun _ z => ?_), rfl⟩
        rw [z, decide_eq_true rfl] at c
        exact Bool.false_ne_true c
      · have eq : ml.getD (begin - i - 1) false = ml.getD (begin - i - 1 + pace) false := by
          by_cases z : ml.getD (begin - i - 1) false = ml.getD (begin - i - 1 + pace) false
          · exact z
          · exact (c (by rw [decide_eq_false (fun y => z (V.bl.inj y))]; rfl)).elim
        refine ⟨_, rfl, _, _, rfl, rfl, rfl, some (.int (0 + (i : Int))), fun j h1 h2 => ?_, ?_⟩
        · by_cases d : j = begin - i - 1
          · subst d
            exact eq
          · exact eqs j (by omega) h2
        · show [some (V.ref a), some (V.int (begin : Int)), some (V.ref D0), some (V.int (((begin - i : Nat) : Int) - 1)), some (V.int (n : Int)), some (V.int (pace : Int)), some (V.int (0 + (i : Int))), none, none, none, none, none] = _
          rw [c1, show begin - i - 1 = begin - (i + 1) by omega]
    · rintro σ _ ⟨rfl, u, eqs, rfl⟩
      rw [Nat.sub_self] at eqs ⊢
      exact hN _ _ ⟨s03, hw3, 0, u, shp 0 (Nat.zero_le _) eqs (fun z => by omega), rfl⟩
end
end Wp

namespace Wp
open PySem PySem.Spec PyProof.Rows L2 Hx
def spNumsL (C : Addr) : Sp := fun vs H Q _ => ∃ (p : Addr) (ms : List Nat), vs = [.ref p] ∧ H p = some (.lst (nats ms)) ∧ ms.length ≤ 4 ∧ (∀ m ∈ ms, m ≤ 1000) ∧ ∀ a s H', Same H H' → PlAt C H' a s → Mk.IsNums ms s → Q (.ref a) H'
theorem nums_call {C : Addr} {ms : List Nat} {H : Hp} {Q : VK} {E : XK} (few : ms.length ≤ 50) (hm : ∀ m ∈ ms, m ≤ 1000) (q : ∀ a s H', Same H H' → PlAt C H' a s → Mk.IsNums ms s → Q (.ref a) H') : spNums C (nats ms) H Q E := by
  refine ⟨[], nats ms, rfl, rfl, by rw [nats_len, sizeLine_eq]; omega, fun pi hpi => ⟨pi, ms, rfl, upd_same, few, hm, fun a s H' s1 pl is => q a s H' ((same_new hpi _).trans s1) pl is⟩⟩
theorem dq_nats {H : Hp} : ∀ l : List Nat, DqAll H (nats l) (l.map fun n : Nat => PyData.int (n : Int))
  | [] => .nil
  | n :: r => .cons (.int _) (dq_nats r)
section
variable {P : Program} {w : World} {K : PySem.W.Frag} {mg : Str → Option Value} {base : Heap} {f f1 f2 f3 C : Addr} {fd fd1 fd2 fd3 : FuncData}
theorem scNumsL : FnScope ["_law_members"] ["_law_members"] (defScope s_law_numbers) := ⟨rfl, rfl, rfl, by decide +kernel, rfl, by decide +kernel, by decide +kernel⟩
theorem ok_numsL (F : Fun K "_law_numbers" "_law_numbers" s_law_numbers f fd) (Z : Bp mg)
    (G : FnR P w K mg base CX0 7 f1 (spNums C)) (k1 : PySem.W.keepIn K (.ref f1) = true) (m1 : mg "numbers" = some (.ref f1)) :
    FnOk P w K mg base CX0 8 f fd ["_law_members"] (spNumsL C) := by
  refine F.ok scNumsL (fun vs H Q E h => ?_) (fun cdv A outer s H vs Q E hr h => ?_)
  · obtain ⟨p, ms, rfl, _⟩ := h
    rfl
  obtain ⟨p, ms, rfl, hp, few, hm, q⟩ := h
  refine ⟨_, pss_cons (ps_if (pt_cmpR op_lt (pe_callB call_len_seq (by rfl) Z.len PySem.boot_len (pa_cons (pv 0) pa_nil)) pe_int (nomark _))
      (pss_one (ps_ret (pe_ifExp (pt_cmpR (op_eqQ hr.units) (pv 0) (pe_lst pa_nil) (nomark _)) (pe_callR0 G hr k1 rfl m1 pass0) (pe_callR G hr k1 rfl m1 pass0 (pa_cons (pe_ix ix_list (pv 0) pe_int (fun _ _ => rfl)) pa_nil))))) pss_nil)
    (pss_cons (ps_if (pt_cmpR op_eq (pe_callB call_len_seq (by rfl) Z.len PySem.boot_len (pa_cons (pv 0) pa_nil)) pe_int (nomark _))
      (pss_one (ps_ret (pe_callR G hr k1 rfl m1 pass0 (pa_cons (pe_ix ix_list (pv 0) pe_int (fun _ _ => rfl)) (pa_cons (pe_ix ix_list (pv 0) pe_int (fun _ _ => rfl)) pa_nil))))) pss_nil)
    (pss_cons (ps_if (pt_cmpR op_eq (pe_callB call_len_seq (by rfl) Z.len PySem.boot_len (pa_cons (pv 0) pa_nil)) pe_int (nomark _))
      (pss_one (ps_ret (pe_callR G hr k1 rfl m1 pass0 (pa_cons (pe_ix ix_list (pv 0) pe_int (fun _ _ => rfl)) (pa_cons (pe_ix ix_list (pv 0) pe_int (fun _ _ => rfl)) (pa_cons (pe_ix ix_list (pv 0) pe_int (fun _ _ => rfl)) pa_nil)))))) pss_nil)
    (pss_one (ps_ret (pe_callR G hr k1 rfl m1 pass0 (pa_cons (pe_ix ix_list (pv 0) pe_int (fun _ _ => rfl)) (pa_cons (pe_ix ix_list (pv 0) pe_int (fun _ _ => rfl)) (pa_cons (pe_ix ix_list (pv 0) pe_int (fun _ _ => rfl)) (pa_cons (pe_ix ix_list (pv 0) pe_int (fun _ _ => rfl)) pa_nil))))))))), ?_⟩
  have hS : SqL K H p (nats ms) := SqL.of hp
  refine ⟨_, rfl, p, _, rfl, .inl hS, _, _, rfl, rfl, _, rfl, ?_⟩
  rw [nats_len]
  match ms, few, hm, hp, hS, q with
  | [], few, hm, hp, hS, q =>
    refine iteT ⟨_, rfl, (by show 0 ≤ sizeLine; decide), fun D hD => ?_⟩
    have s1 := same_new hD (.lst [])
    refine ⟨.list [], .list [], .lst (s1 _ _ hp) .nil, .lst upd_same .nil, rfl, rfl, _, rfl, ?_⟩
    exact iteT (nums_call (ms := []) (by decide) hm fun a s H' s2 pl is => q a s H' (s1.trans s2) pl is)
  | [m], few, hm, hp, hS, q =>
    refine iteT ⟨_, rfl, (by show 0 ≤ sizeLine; decide), fun D hD => ?_⟩
    have s1 := same_new hD (.lst [])
    refine ⟨.list [.int (m : Int)], .list [], .lst (s1 _ _ hp) (.cons (.int _) .nil), .lst upd_same .nil, ?_, rfl, _, rfl, ?_⟩
    · rfl
    refine iteF ⟨_, rfl, p, _, 0, _, rfl, rfl, SqL.of (s1 _ _ hp), atI_nat (j := 0) rfl, ?_⟩
    exact nums_call (ms := [m]) (by show 1 ≤ 50; decide) hm fun a s H' s2 pl is => q a s H' (s1.trans s2) pl is
  | [m, m2], few, hm, hp, hS, q =>
    refine iteF ⟨_, rfl, p, _, rfl, .inl hS, rfl, _, rfl, iteT ?_⟩
    refine ⟨_, rfl, p, _, 0, _, rfl, rfl, hS, atI_nat (j := 0) rfl, _, rfl, p, _, 1, _, rfl, rfl, hS, atI_nat (j := 1) rfl, ?_⟩
    exact nums_call (ms := [m, m2]) (by show 2 ≤ 50; decide) hm q
  | [m, m2, m3], few, hm, hp, hS, q =>
    refine iteF ⟨_, rfl, p, _, rfl, .inl hS, rfl, _, rfl, iteF ⟨_, rfl, p, _, rfl, .inl hS, rfl, _, rfl, iteT ?_⟩⟩
    refine ⟨_, rfl, p, _, 0, _, rfl, rfl, hS, atI_nat (j := 0) rfl, _, rfl, p, _, 1, _, rfl, rfl, hS, atI_nat (j := 1) rfl, _, rfl, p, _, 2, _, rfl, rfl, hS, atI_nat (j := 2) rfl, ?_⟩
    exact nums_call (ms := [m, m2, m3]) (by show 3 ≤ 50; decide) hm q
  | [m, m2, m3, m4], few, hm, hp, hS, q =>
    refine iteF ⟨_, rfl, p, _, rfl, .inl hS, rfl, _, rfl, iteF ⟨_, rfl, p, _, rfl, .inl hS, rfl, _, rfl, iteF ?_⟩⟩
    refine ⟨_, rfl, p, _, 0, _, rfl, rfl, hS, atI_nat (j := 0) rfl, _, rfl, p, _, 1, _, rfl, rfl, hS, atI_nat (j := 1) rfl, _, rfl, p, _, 2, _, rfl, rfl, hS, atI_nat (j := 2) rfl, _, rfl, p, _, 3, _, rfl, rfl, hS, atI_nat (j := 3) rfl, ?_⟩
    exact nums_call (ms := [m, m2, m3, m4]) (by show 4 ≤ 50; decide) hm q
  | _ :: _ :: _ :: _ :: _ :: r, few, hm, hp, hS, q =>
    exfalso
    simp only [List.length_cons] at few
    omega
end
end Wp

/-! bool(x), x an object with a __bool__ of its own -/
namespace PySem.W
open PyProof.Rows
section
variable {prog : Program} {w : World} {A : Around} {E : Value → Shared → Prop} {s : Shared} {K : Frag} {x C f : Addr} {ox : Obj} {od : Option Obj}
theorem kbo_truth {Q : Bool → Shared → Prop} (X : K.In s.heap) (I : InstAt s.heap x ox C od) (hs : findIn K (.ref C) "__bool__" = some (some (.ref f))) (hf : isFn K (.ref f) = true)
    (h : wpAny (model prog w) A (call (.ref f) [.ref x]) (fun r s' => ∃ b, r = .bool b ∧ Q b s') E s) : wpAny (model prog w) A (truthy (.ref x)) Q E s := by
  unfold truthy
  refine wpAny_bind (m := callSpecial? (.ref x) (Str.ofString "__bool__")) (special_fn X I hs (beq_iff_eq.mp hf) (wpAny_mono h (fun r s' hr => ?_) fun _ _ z => z))
  obtain ⟨b, rfl, hq⟩ := hr
  exact wpAny_pure hq
theorem kbo_call {Q : Value → Shared → Prop} (X : K.In s.heap) (I : InstAt s.heap x ox C od) (hs : findIn K (.ref C) "__bool__" = some (some (.ref f))) (hf : isFn K (.ref f) = true)
    (h : wpAny (model prog w) A.in1.in1 (call (.ref f) [.ref x]) (fun r s' => ∃ b, r = .bool b ∧ Q (.bool b) s') E s) : wpAny (model prog w) A (call (.type "bool") [.ref x]) Q E s := by
  refine callType_codes (T := "bool") (Bi := Builtin.«object.__init__») (Q₁ := fun r s₁ => ∃ b, r = .bool b ∧ Q r s₁) PySem.F.called_bool (PySem.F.typeCall_bool_1 _) PySem.F.entry_object_init ?_ ?_
  · refine codeAny_of_tree ?_
    show wpAny _ A.in1.in1 (do checkBuiltinCall "bool.__new__" ⟨[.type "bool", .ref x], []⟩; again (.builtin "bool.__new__" ⟨[.type "bool", .ref x], []⟩)) _ _ s
    refine wpAny_bind (wpAny_of_eq (PySem.F.newCall_bool_1 _) (wpAny_pure ⟨plainId_quiet (by decide +kernel) _, codeAny_builtin PySem.F.entry_bool_new ?_⟩))
    rw [Around.under_plainId (by decide +kernel) _]
    have f1 := PySem.F.conv_sub_bool
    repeat (any_goals (first | assumption | (with_reducible refine kbo_truth X I hs hf (wpAny_mono h ?_ ?_)) | wp_step))
    · intro v s' hv
      obtain ⟨b, hb, hq⟩ := hv
      exact ⟨b, hb, wpAny_pure ⟨b, rfl, hq⟩⟩
    · intro v s' hv
      exact hv
  · rintro obj s₁ ⟨b, rfl, hq⟩
    exact ⟨typeIs_bool _ _, PySem.F.args_object_init_2 _ _, object_init_meets PySem.F.called_bool.init.lookup PySem.F.called_bool.made (by decide) prog w A.in1 _ s₁ ⟨typeIs_bool _ _, rfl, hq⟩⟩
end
end PySem.W
namespace Hx
open PySem PySem.Spec PyProof.Rows L2
/-- the class at C has a __bool__ of its own -/
structure BoolBy (P : Program) (w : World) (K : PySem.W.Frag) (mg : Str → Option Value) (base : Heap) (k : Nat) (C : Addr) (sp : Sp) : Prop where
  go : ∃ (g : Addr) (fd : FuncData), PySem.W.findIn K (.ref C) "__bool__" = some (some (.ref g)) ∧ PySem.W.isFn K (.ref g) = true ∧ FnOk P w K mg base CX0 k g fd ["self"] sp ∧ Binds K fd ["self"] []
def rBoolB (P : Program) (w : World) (K : PySem.W.Frag) (mg : Str → Option Value) (base : Heap) (k : Nat) : List V → Hp → VK → Prop := fun xs H Q => ∃ (a C dx : Addr) (fs : List (Str × V)) (sp : Sp), xs = [.ref a] ∧ H a = some (.ins C dx fs) ∧ BoolBy P w K mg base k C sp ∧
  sp [.ref a] H (fun v H' => ∃ b : Bool, v = .bl b ∧ Q (.bl b) H') E0
theorem call_boolB {X : Cx} {k : Nat} (room : Room (k + 2) X.A) : CallR X (.type "bool") (rBoolB X.prog X.w X.K X.mg X.base k) := by
  intro pins s σ H xs us Q I r h
  obtain ⟨a, C, dx, fs, sp, rfl, ha, T, q⟩ := h
  rw [Vals.ref1 r]
  obtain ⟨mA, O, _, _, _, _⟩ := ins_get I.hok ha
  obtain ⟨od, J, _⟩ := O.look
  obtain ⟨g, fd, hs, hf, F, b⟩ := T.go
  refine PySem.W.kbo_call I.kIn J hs hf ?_
  have go := F.run X.A.in1.in1 X.stack s H ⟨[.ref a], []⟩ [.ref a] [.ref a] _ E0 room.in1.in1 I.env0.in1.in1 (b s [.ref a] I.kIn rfl) (.cons rfl .nil) q
  refine wpAny_call (codeAny_mono go ?_)
  intro r2 s2 hr
  match r2, hr with
  | .error e, hr => exact (show False from hr).elim
  | .ok (.ret u), hr =>
    obtain ⟨v, H2, J2, rv, y, ev, qy⟩ := I.after hr
    subst ev
    cases (show u = Value.bool y from rv)
    exact ⟨y, rfl, .bl y, H2, J2, rfl, qy⟩
  | .ok .next, hr => exact hr.elim
  | .ok .brk, hr => exact hr.elim
  | .ok .cont, hr => exact hr.elim
end Hx

/-! v in x, x an object with a __contains__ of its own -/
namespace PySem.W
open PyProof.Rows
section
variable {prog : Program} {w : World} {A : Around} {E : Value → Shared → Prop} {s : Shared} {K : Frag} {x C f : Addr} {ox : Obj} {od : Option Obj}
theorem kco_has {v : Value} {Q : Bool → Shared → Prop} (X : K.In s.heap) (I : InstAt s.heap x ox C od) (hs : findIn K (.ref C) "__contains__" = some (some (.ref f))) (hf : isFn K (.ref f) = true)
    (h : wpAny (model prog w) A (call (.ref f) [.ref x, v]) (fun r s' => ∃ b, r = .bool b ∧ Q b s') E s) : wpAny (model prog w) A (contains (.ref x) v) Q E s := by
  unfold contains
  refine wpAny_holding ?_
  show wpAny _ A (specialOf (.ref x) (Str.ofString "__contains__") >>= _) Q E s
  refine wpAny_bind (wpAny_bind (I.type.here ((looks_findIn X hs).here ?_)))
  show wpAny _ A (if (some (Value.ref f) == some Value.none) = true then _ else _) Q E s
  rw [if_neg (by simp)]
  refine wpAny_bind (m := callSpecialUnlessNone? (.ref x) (Str.ofString "__contains__") [v] _) ?_
  refine wpAny_bind (wpAny_bind (I.type.here ((looks_findIn X hs).here (wpAny_holding (wpAny_bind ((bind_fn X _ (beq_iff_eq.mp hf)).here ?_))))))
  show wpAny _ A (if (Value.ref f == Value.none) = true then _ else _) _ E s
  rw [if_neg (by simp)]
  refine wpAny_bind (wpAny_mono h (fun r s' hr => wpAny_pure ?_) fun _ _ z => z)
  obtain ⟨b, rfl, hq⟩ := hr
  exact wpAny_pure hq
end
end PySem.W
namespace Hx
open PySem PySem.Spec PyProof.Rows L2
/-- the class at C has a __contains__ of its own -/
structure HasBy (P : Program) (w : World) (K : PySem.W.Frag) (mg : Str → Option Value) (base : Heap) (k : Nat) (C : Addr) (sp : Sp) : Prop where
  go : ∃ (g : Addr) (fd : FuncData) (ps : List Str), PySem.W.findIn K (.ref C) "__contains__" = some (some (.ref g)) ∧ PySem.W.isFn K (.ref g) = true ∧ FnOk P w K mg base CX0 k g fd ps sp ∧ Binds K fd ps []
def rHasO (P : Program) (w : World) (K : PySem.W.Frag) (mg : Str → Option Value) (base : Heap) (k : Nat) : R2 := fun x y H Q => ∃ (a C dx : Addr) (fs : List (Str × V)) (sp : Sp), y = .ref a ∧ H a = some (.ins C dx fs) ∧ HasBy P w K mg base k C sp ∧
  sp [y, x] H (fun v H' => ∃ b : Bool, v = .bl b ∧ Q (.bl b) H') E0
section
variable {X : Cx} {k : Nat}
theorem op_inO (hr : Room k X.A) : OpR X (compareOp .In) (rHasO X.prog X.w X.K X.mg X.base k) := by
  intro pins s σ H x y v u Q I rx ry h
  obtain ⟨a, C, dx, fs, sp, rfl, ha, T, q⟩ := h
  cases (show u = Value.ref a from ry)
  obtain ⟨g, fd, ps, h1, h2, F, b⟩ := T.go
  obtain ⟨mA, O, _⟩ := ins_get I.hok ha
  obtain ⟨od, J, _⟩ := O.look
  show wpAny _ _ (do return Value.bool (← contains (.ref a) v)) _ _ s
  refine wpAny_bind (PySem.W.kco_has I.kIn J h1 h2 (wpAny_mono (run_below F hr I.env0 b I (.cons ry (.cons rx .nil)) q) (fun w' s' z => ?_) fun _ _ e => e))
  obtain ⟨z', H', I', rz, kk, rfl, qz⟩ := z
  cases (show w' = Value.bool kk from rz)
  exact ⟨kk, rfl, wpAny_pure ⟨.bl kk, H', I', rfl, qz⟩⟩
end
end Hx

namespace Wp
open PySem PySem.Spec PyProof.Rows L2 Hx
def intsD (l : List Nat) : List PyData := l.map fun n : Nat => PyData.int (n : Int)
theorem small_int {n : Nat} (h : n < 100000) : PyData.leavesShort 13 (.int (n : Int)) = true ∧ (PyData.int (n : Int)).showable = true := by
  constructor
  · show decide ((PyData.shown (.int (n : Int))).length ≤ 13) = true
    exact decide_eq_true (PyData.shown_int_le (by show n < 10 ^ 12; omega))
  · show decide ((n : Int).natAbs.log2 < 1920) = true
    refine decide_eq_true ?_
    have : (n : Int).natAbs.log2 ≤ 17 := Mk.log2_le (m := 17) (by show n < 2 ^ 17; omega)
    omega
theorem small_ints : ∀ {l : List Nat}, (∀ n ∈ l, n < 100000) → PyData.leavesShortAll 13 (intsD l) = true ∧ PyData.showableAll (intsD l) = true ∧ PyData.depthAll (intsD l) = 0 ∧ PyData.bulkAll (intsD l) = l.length
  | [], _ => ⟨rfl, rfl, rfl, rfl⟩
  | n :: r, h => by
    obtain ⟨h1, h2, h3, h4⟩ := small_ints (l := r) fun x hx => h x (List.mem_cons_of_mem _ hx)
    obtain ⟨a, b⟩ := small_int (h n List.mem_cons_self)
    refine ⟨?_, ?_, ?_, ?_⟩
    · show (PyData.leavesShort 13 (.int (n : Int)) && PyData.leavesShortAll 13 (intsD r)) = true
      rw [a, h1]; rfl
    · show (PyData.showable (.int (n : Int)) && PyData.showableAll (intsD r)) = true
      rw [b, h2]; rfl
    · show max 0 (PyData.depthAll (intsD r)) = 0
      rw [h3]; rfl
    · show 0 + 1 + PyData.bulkAll (intsD r) = r.length + 1
      rw [h4]; omega
def leD : List Nat → PyData
  | [] => .none
  | n :: _ => .int (n : Int)
def shapeD (start pace : Nat) (b r l : List Nat) (f e : Bool) : PyData := .list [.int (start : Int), .int (pace : Int), .tuple (intsD b), .tuple (intsD r), leD l, .bool f, .bool e]
theorem small_shape {start pace : Nat} {b r l : List Nat} {f e : Bool} (h1 : start < 100000) (h2 : pace < 100000) (hb : ∀ n ∈ b, n < 100000) (hr : ∀ n ∈ r, n < 100000) (hl : ∀ n ∈ l, n < 100000) (lb : b.length ≤ 3000) (lr : r.length ≤ 3000) : Small (shapeD start pace b r l f e) := by
  obtain ⟨a1, a2⟩ := small_int h1
  obtain ⟨b1, b2⟩ := small_int h2
  obtain ⟨c1, c2, c3, c4⟩ := small_ints hb
  obtain ⟨d1, d2, d3, d4⟩ := small_ints hr
  have le : PyData.leavesShort 13 (leD l) = true ∧ (leD l).showable = true ∧ (leD l).depth = 0 ∧ (leD l).bulk = 0 := by
    cases l with
    | nil => exact ⟨rfl, rfl, rfl, rfl⟩
    | cons n t =>
      obtain ⟨x, y⟩ := small_int (hl n List.mem_cons_self)
      exact ⟨x, y, rfl, rfl⟩
  obtain ⟨e1, e2, e3, e4⟩ := le
  have ls : (shapeD start pace b r l f e).leavesShort 13 = true := by
    show (_ && (_ && (PyData.leavesShortAll 13 (intsD b) && (PyData.leavesShortAll 13 (intsD r) && (PyData.leavesShort 13 (leD l) && (true && (true && true))))))) = true
    rw [a1, b1, c1, d1, e1]; rfl
  refine ⟨?_, ?_, ?_⟩
  · show (_ && (_ && (PyData.showableAll (intsD b) && (PyData.showableAll (intsD r) && ((leD l).showable && (true && (true && true))))))) = true
    rw [a2, b2, c2, d2, e2]; rfl
  · show max 0 (max 0 (max (PyData.depthAll (intsD b) + 1) (max (PyData.depthAll (intsD r) + 1) (max (leD l).depth (max 0 (max 0 0)))))) + 1 ≤ 20
    rw [c3, d3, e3]; decide
  · have sb := PyData.shown_le_bulk 13 (by decide) _ ls
    have bb : (shapeD start pace b r l f e).bulk = 0 + 1 + (0 + 1 + (PyData.bulkAll (intsD b) + 1 + (PyData.bulkAll (intsD r) + 1 + ((leD l).bulk + 1 + (0 + 1 + (0 + 1 + 0)))))) := rfl
    rw [bb, c4, d4, e4] at sb
    omega
theorem dq_shape {H : Hp} {p pb pr : Addr} {start pace : Nat} {b r l : List Nat} {f e : Bool} {lv : V} (hp : H p = some (.lst [.int (start : Int), .int (pace : Int), .ref pb, .ref pr, lv, .bl f, .bl e])) (hlv : lv = (nats l).headD .non)
    (hb : H pb = some (.tup (nats b))) (hr : H pr = some (.tup (nats r))) : Dq H (.ref p) (shapeD start pace b r l f e) := by
  have d : Dq H lv (leD l) := by
    subst hlv
    cases l with
    | nil => exact .non
    | cons n t => exact .int _
  exact .lst hp (.cons (.int _) (.cons (.int _) (.cons (.tup hb (dq_nats b)) (.cons (.tup hr (dq_nats r)) (.cons d (.cons (.bl _) (.cons (.bl _) .nil)))))))
end Wp

namespace Wp
open PySem PySem.Spec PyProof.Rows L2 Hx
/-- what a set of places can do -/
structure Can (P : Program) (w : World) (K : PySem.W.Frag) (mg : Str → Option Value) (base : Heap) (C : Addr) : Prop where
  pd : Pd K mg C
  start : PropD P w K mg base C 1 "start" (spStart C)
  period : PropD P w K mg base C 1 "period" (spPeriod C)
  below : PropD P w K mg base C 5 "below" (spBelowP C)
  rests : PropD P w K mg base C 5 "rests" (spRestsP C)
  least : PropD P w K mg base C 5 "least" (spLeastP C)
  fin : PropD P w K mg base C 1 "is_finite" (spFinite C)
  bool : BoolBy P w K mg base 1 C (spTruth C)
  has : HasBy P w K mg base 2 C (spHas C)
  kC : PySem.W.kitOne K (.ref C) (.ref C) = some true
  ha : PySem.W.findIn K (.ref C) "__class__" = some (some (.builtin "object.__class__"))
  hn : PySem.W.specialIn K (.builtin "object.__class__") "__get__" = some (some (.builtin "getset_descriptor.__get__"))
  htk : PySem.W.takesIn K (.builtin "object.__class__") = some true
  hm : PySem.W.mroIn K C (.type "object") = some true
def spTold (C : Addr) : Sp := fun vs H Q _ => ∃ (a : Addr) (s : Mk.Kept), vs = [.ref a] ∧ PlAt C H a s ∧ s.Fit ∧ ∀ p pb pr H', Same H H' →
  H' p = some (.lst [.int (Mk.len s.st : Int), .int (s.w : Int), .ref pb, .ref pr, (nats (s.from 0 (Mk.len s.st + s.w))).headD .non, .bl (decide (s.cy = 0)), .bl (decide (s.cy ||| s.st ≠ 0))]) →
  H' pb = some (.tup (nats (s.from 0 (Mk.len s.st)))) → H' pr = some (.tup (nats (s.from (Mk.len s.st) s.w))) → Q (.ref p) H'
section
variable {P : Program} {w : World} {K : PySem.W.Frag} {mg : Str → Option Value} {base : Heap} {f f1 f2 f3 C : Addr} {fd fd1 fd2 fd3 : FuncData}
theorem scTold : FnScope ["_law_mine"] ["_law_mine"] (defScope s_law_shape_told) := ⟨rfl, rfl, rfl, by decide +kernel, rfl, by decide +kernel, by decide +kernel⟩
theorem ok_told (F : Fun K "_law_shape_told" "_law_shape_told" s_law_shape_told f fd) (D : Can P w K mg base C) (Z : Bp mg) : FnOk P w K mg base CX0 7 f fd ["_law_mine"] (spTold C) := by
  refine F.ok scTold (fun vs H Q E h => ?_) (fun cdv A outer s H vs Q E hr h => ?_)
  · obtain ⟨a, s, rfl, _⟩ := h
    rfl
  obtain ⟨a, s, rfl, ⟨dx, ha⟩, fit, q⟩ := h
  obtain ⟨p1, g1, fd1, po1, G1, b1⟩ := D.start
  obtain ⟨p2, g2, fd2, po2, G2, b2⟩ := D.period
  obtain ⟨p3, g3, fd3, po3, G3, b3⟩ := D.below
  obtain ⟨p4, g4, fd4, po4, G4, b4⟩ := D.rests
  obtain ⟨p5, g5, fd5, po5, G5, b5⟩ := D.least
  obtain ⟨p6, g6, fd6, po6, G6, b6⟩ := D.fin
  have R := D.pd
  have r2 := hr.mono (by decide : 2 ≤ 6)
  have r3 := hr.mono (by decide : 3 ≤ 6)
  refine ⟨_, pss_one (ps_ret (pe_lst (pa_cons (pe_prop (pv 0) R.cl po1 G1 r2 b1 .nil pass0 rfl) (pa_cons (pe_prop (pv 0) R.cl po2 G2 r2 b2 .nil pass0 rfl) (pa_cons (pe_prop (pv 0) R.cl po3 G3 hr b3 .nil pass0 rfl)
    (pa_cons (pe_prop (pv 0) R.cl po4 G4 hr b4 .nil pass0 rfl) (pa_cons (pe_prop (pv 0) R.cl po5 G5 hr b5 .nil pass0 rfl) (pa_cons (pe_prop (pv 0) R.cl po6 G6 r2 b6 .nil pass0 rfl)
    (pa_cons (pe_callTy (call_boolB (k := 1) r3) (by rfl) Z.bool (by decide +kernel) (pa_cons (pv 0) pa_nil)) pa_nil))))))))), ?_⟩
  refine ⟨_, rfl, a, dx, _, rfl, ha, a, s, rfl, ⟨dx, ha⟩, ?_⟩
  refine ⟨_, rfl, a, dx, _, rfl, ha, a, s, rfl, ⟨dx, ha⟩, ?_⟩
  refine ⟨_, rfl, a, dx, _, rfl, ha, a, s, rfl, ⟨dx, ha⟩, fit, fun pb H1 s1 hb => ?_⟩
  have ha1 := s1 _ _ ha
  refine ⟨_, rfl, a, dx, _, rfl, ha1, a, s, rfl, ⟨dx, ha1⟩, fit, fun pr H2 s2 hr2 => ?_⟩
  have ha2 := s2 _ _ ha1
  have hb2 := s2 _ _ hb
  have s12 := s1.trans s2
  refine ⟨_, rfl, a, dx, _, rfl, ha2, a, s, rfl, ⟨dx, ha2⟩, fit, ?_⟩
  cases hf : s.from 0 (Mk.len s.st + s.w) with
  | nil =>
    refine .inl ⟨fun n hn => ?_, ?_⟩
    · have := List.filter_eq_nil_iff.mp hf n (List.mem_range.mpr hn)
      rw [Nat.zero_add] at this
      cases b : s.mem n with
      | false => rfl
      | true => exact (this b).elim
    refine ⟨_, rfl, a, dx, _, rfl, ha2, a, s, rfl, ⟨dx, ha2⟩, _, rfl, a, C, dx, _, _, rfl, ha2, D.bool, a, s, rfl, ⟨dx, ha2⟩, _, rfl, (by show 7 ≤ sizeLine; decide), fun p hp => ?_⟩
    have s3 := same_new hp (.lst [V.int (Mk.len s.st : Int), .int (s.w : Int), .ref pb, .ref pr, .non, .bl (decide (s.cy = 0)), .bl (decide (s.cy ||| s.st ≠ 0))])
    exact q p pb pr _ (s12.trans s3) (by rw [upd_same, hf]; rfl) (s3 _ _ hb2) (s3 _ _ hr2)
  | cons k r =>
    have ex : ∃ i, i < Mk.len s.st + s.w ∧ s.mem (0 + i) = true := by
      have hk : k ∈ s.from 0 (Mk.len s.st + s.w) := by rw [hf]; exact List.mem_cons_self
      obtain ⟨h1, h2⟩ := List.mem_filter.mp hk
      exact ⟨k, List.mem_range.mp h1, h2⟩
    obtain ⟨i, r2', hi, hl, hm, hno⟩ := first_of (fun n => s.mem n) 0 (Mk.len s.st + s.w) ex
    have z0 : ((List.range (Mk.len s.st + s.w)).map (0 + ·)) = List.range (Mk.len s.st + s.w) := by
      have : (fun x => 0 + x) = (id : Nat → Nat) := funext fun x => Nat.zero_add x
      rw [this, List.map_id]
    have e : s.from 0 (Mk.len s.st + s.w) = (List.range (Mk.len s.st + s.w)).filter fun n => s.mem n := by
      unfold Mk.Kept.from
      simp only [Nat.zero_add]
    rw [z0, ← e, hf, Nat.zero_add] at hl
    obtain ⟨rfl, _⟩ := List.cons.inj hl
    rw [Nat.zero_add] at hm
    refine .inr ⟨k, hi, hm, fun n hn => by have := hno n hn; rwa [Nat.zero_add] at this, ?_⟩
    refine ⟨_, rfl, a, dx, _, rfl, ha2, a, s, rfl, ⟨dx, ha2⟩, _, rfl, a, C, dx, _, _, rfl, ha2, D.bool, a, s, rfl, ⟨dx, ha2⟩, _, rfl, (by show 7 ≤ sizeLine; decide), fun p hp => ?_⟩
    have s3 := same_new hp (.lst [V.int (Mk.len s.st : Int), .int (s.w : Int), .ref pb, .ref pr, .int (k : Int), .bl (decide (s.cy = 0)), .bl (decide (s.cy ||| s.st ≠ 0))])
    exact q p pb pr _ (s12.trans s3) (by rw [upd_same, hf]; rfl) (s3 _ _ hb2) (s3 _ _ hr2)
end
end Wp

namespace Wp
open PySem PySem.Spec PyProof.Rows L2 Hx
/-- the marks are those of the set -/
structure Agree (ml : List Bool) (begin : Nat) (s : Mk.Kept) : Prop where
  sh : ∀ pace start, Shape ml begin pace start → start = Mk.len s.st ∧ pace = s.w
  bits : ∀ n, n < ml.length → ml.getD n false = s.mem n
  fit : s.Fit
  lt : begin < ml.length
  few : ml.length ≤ 3000
  inb : Mk.len s.st + s.w ≤ ml.length
  hd : (nats ((List.range ml.length).filter fun i => ml.getD i false)).headD .non = (nats (s.from 0 (Mk.len s.st + s.w))).headD .non
  fin : (!(ml.drop begin).any id) = decide (s.cy = 0)
  any : ml.any id = decide (s.cy ||| s.st ≠ 0)
theorem from_lt {s : Mk.Kept} {lo many n : Nat} (h : n ∈ s.from lo many) : n < many := List.mem_range.mp (List.mem_filter.mp h).1
def spIsSet (K : PySem.W.Frag) (C : Addr) : Sp := fun vs H Q _ => ∃ (a ma : Addr) (s : Mk.Kept) (ml : List Bool) (begin : Nat), vs = [.ref a, .ref ma, .int (begin : Int)] ∧ PlAt C H a s ∧ SqL K H ma (bls ml) ∧ Agree ml begin s ∧ ∀ H', Same H H' → Q (.bl true) H'
def markAt (ml : List Bool) (begin n : Nat) : Bool := if n < ml.length then ml.getD n false else ml.getD (begin + (n - begin) % (ml.length - begin)) false
def spMark (K : PySem.W.Frag) : Sp := fun vs H Q _ => ∃ (ma : Addr) (ml : List Bool) (begin n : Nat), vs = [.ref ma, .int (begin : Int), .int (n : Int)] ∧ SqL K H ma (bls ml) ∧ begin < ml.length ∧ Q (.bl (markAt ml begin n)) H
section
variable {P : Program} {w : World} {K : PySem.W.Frag} {mg : Str → Option Value} {base : Heap} {f f1 f2 f3 C : Addr} {fd fd1 fd2 fd3 : FuncData}
theorem scIsSet : FnScope ["_law_mine", "_law_marks_here", "_law_begin"] ["_law_mine", "_law_marks_here", "_law_begin"] (defScope s_law_is_set) := ⟨rfl, rfl, rfl, by decide +kernel, rfl, by decide +kernel, by decide +kernel⟩
theorem ok_isset (F : Fun K "_law_is_set" "_law_is_set" s_law_is_set f fd) (D : Can P w K mg base C) (Z : Bp mg) (M : Mods base)
    (G1 : FnOk P w K mg base CX0 7 f1 fd1 ["_law_mine"] (spTold C)) (b1 : Binds K fd1 ["_law_mine"] []) (k1 : PySem.W.keepIn K (.ref f1) = true) (m1 : mg "_law_shape_told" = some (.ref f1))
    (G2 : FnOk P w K mg base CX0 1 f2 fd2 ["_law_marks_here", "_law_begin"] (spShape K)) (b2 : Binds K fd2 ["_law_marks_here", "_law_begin"] []) (k2 : PySem.W.keepIn K (.ref f2) = true) (m2 : mg "_law_shape" = some (.ref f2)) :
    GOk P w K mg base CX0 8 f fd ["_law_mine", "_law_marks_here", "_law_begin"] (spIsSet K C) := by
  refine gok0 F scIsSet (fun vs H Q E h => ?_) (fun cdv A outer s H vs Q E hr gd h => ?_)
  · obtain ⟨a, ma, s, ml, b, rfl, _⟩ := h
    rfl
  obtain ⟨a, ma, s, ml, begin, rfl, ⟨dx, ha⟩, hS, AG, q⟩ := h
  have r1 := hr.mono (by decide : 1 ≤ 7)
  refine ⟨_, pss_one (ps_ret (pe_and (pe_callB call_isi (by rfl) Z.isinstance PyProof.Rows.boot_isinstance (pa_cons (pv 0) (pa_cons (pe_gref rfl D.pd.gC) pa_nil)))
    (pe_one (pe_cmpR op_eq (pe_callB (call_reprD gd hr.units M) (by rfl) Z.repr PyProof.Rows.boot_repr (pa_cons (pe_call G1 hr rfl m1 k1 b1 .nil pass0 (pa_cons (pv 0) pa_nil)) pa_nil))
      (pe_callB (call_reprD gd hr.units M) (by rfl) Z.repr PyProof.Rows.boot_repr (pa_cons (pe_call G2 r1 rfl m2 k2 b2 .nil pass0 (pa_cons (pv 1) (pa_cons (pv 2) pa_nil))) pa_nil)) (nomark _))))), ?_⟩
  have ty : TyX K H (.ref a) (.ref C) := .base (.ins ha D.pd.cl D.ha D.hn D.htk D.hm)
  have fit := AG.fit
  have fst := fit.st
  have fw := fit.w1
  have inb := AG.inb
  have few := AG.few
  refine ⟨_, rfl, _, _, .ref C, _, true, rfl, .own C, ty, D.kC, _, rfl, iteT ?_⟩
  refine ⟨_, rfl, a, s, rfl, ⟨dx, ha⟩, fit, fun p pb pr H1 s1 hp hb hr1 => ?_⟩
  have lb := from_len s 0 (Mk.len s.st)
  have lr := from_len s (Mk.len s.st) s.w
  have sm : Small (shapeD (Mk.len s.st) s.w (s.from 0 (Mk.len s.st)) (s.from (Mk.len s.st) s.w) (s.from 0 (Mk.len s.st + s.w)) (decide (s.cy = 0)) (decide (s.cy ||| s.st ≠ 0))) :=
    small_shape (by omega) (by omega) (fun n hn => by have := from_lt hn; omega) (fun n hn => by have := from_lt hn; omega) (fun n hn => by have := from_lt hn; omega) (by omega) (by omega)
  refine ⟨_, _, rfl, dq_shape hp rfl hb hr1, sm, ?_⟩
  refine ⟨_, rfl, _, rfl, ma, ml, begin, rfl, s1.seq hS, AG.lt, few, fun pace start SH p2 pb2 pr2 H2 s2 hp2 hb2 hr2 => ?_⟩
  obtain ⟨rfl, rfl⟩ := AG.sh pace start SH
  have e1 : (List.range (Mk.len s.st)).filter (fun i => ml.getD i false) = s.from 0 (Mk.len s.st) := by
    refine List.filter_congr fun n hn => ?_
    rw [Nat.zero_add]
    exact AG.bits n (by have := List.mem_range.mp hn; omega)
  have e2 : (List.range s.w).filter (fun i => ml.getD (Mk.len s.st + i) false) = s.from (Mk.len s.st) s.w := by
    refine List.filter_congr fun n hn => ?_
    exact AG.bits _ (by have := List.mem_range.mp hn; omega)
  rw [e1] at hb2
  rw [e2] at hr2
  refine ⟨_, _, rfl, dq_shape (l := s.from 0 (Mk.len s.st + s.w)) (f := decide (s.cy = 0)) (e := decide (s.cy ||| s.st ≠ 0)) (lv := (nats ((List.range ml.length).filter fun i => ml.getD i false)).headD .non) (by rw [hp2, ← AG.fin, ← AG.any]; rfl) AG.hd hb2 hr2, sm, rfl, ?_⟩
  rw [decide_eq_true rfl]
  exact q H2 (s1.trans s2)
end
end Wp

namespace Mk
theorem lcm_pos2 {a b : Nat} (ha : 1 ≤ a) (hb : 1 ≤ b) : 0 < Nat.lcm a b := Nat.lcm_pos ha hb
theorem max_int (a b : Nat) : (if (b : Int) > (a : Int) then (b : Int) else (a : Int)) = ((max a b : Nat) : Int) := by
  split <;> omega
theorem up_lt (L : Nat) {W : Nat} (h : 0 < W) : up L W < L + W := by
  have := Nat.mod_lt (W - L % W) h
  unfold up
  omega
theorem le_up (L W : Nat) : L ≤ up L W := Nat.le_add_right _ _
end Mk
namespace Wp
open PySem PySem.Spec PyProof.Rows L2 Hx
/-- what isinstance looks at -/
structure IsP (K : PySem.W.Frag) (C : Addr) : Prop where
  kC : PySem.W.kitOne K (.ref C) (.ref C) = some true
  ha : PySem.W.findIn K (.ref C) "__class__" = some (some (.builtin "object.__class__"))
  hn : PySem.W.specialIn K (.builtin "object.__class__") "__get__" = some (some (.builtin "getset_descriptor.__get__"))
  htk : PySem.W.takesIn K (.builtin "object.__class__") = some true
  hm : PySem.W.mroIn K C (.type "object") = some true
def spUnP (C : Addr) : Sp := fun vs H Q _ => ∃ (a : Addr) (s1 : Mk.Kept), vs = [.ref a] ∧ PlAt C H a s1 ∧ s1.Good ∧ s1.w ≤ 2000 ∧ Mk.len s1.st ≤ 5000 ∧ ∀ c s H', Same H H' → PlAt C H' c s → Mk.OpOf (fun x _ => !x) s1 s1 s → Q (.ref c) H'
section
variable {P : Program} {w : World} {K : PySem.W.Frag} {mg : Str → Option Value} {base : Heap} {f f1 f2 f3 f4 f5 C : Addr} {fd fd1 fd2 fd3 fd4 fd5 : FuncData}
theorem scFrame : FnScope ["one", "other", "width", "least"] ["one", "other"] (defScope s_frame) := ⟨rfl, rfl, rfl, by decide +kernel, rfl, by decide +kernel, by decide +kernel⟩
theorem ok_frame (F : Fun K "frame" "frame" s_frame f fd) (R : Pd K mg C) (Z : Bp mg) (S : PropD P w K mg base C 1 "start" (spStart C))
    (G1 : FnOk P w K mg base CX0 1 f1 fd1 ["one", "other"] spLcm) (b1 : Binds K fd1 ["one", "other"] []) (k1 : PySem.W.keepIn K (.ref f1) = true) (m1 : mg "common_width" = some (.ref f1)) :
    FnOk P w K mg base CX0 3 f fd ["one", "other"] (spFrame C) := by
  refine F.ok scFrame (fun vs H Q E h => ?_) (fun cdv A outer s H vs Q E hr h => ?_)
  · obtain ⟨a, b, s1, s2, rfl, _⟩ := h
    rfl
  obtain ⟨a, b, s1, s2, rfl, ⟨dx, ha⟩, ⟨dy, hb⟩, w1, w2, w3, w4, q⟩ := h
  obtain ⟨p0, g0, fd0, po, GS, bS⟩ := S
  have r1 := hr.mono (by decide : 1 ≤ 2)
  refine ⟨_, pss_cons (ps_set (i := 2) scFrame.nd rfl (Or.inl rfl) (pe_call G1 r1 rfl m1 k1 b1 .nil pass0 (pa_cons (pe_fld (pv 0) rfl) (pa_cons (pe_fld (pv 1) rfl) pa_nil))))
    (pss_cons (ps_set (i := 3) scFrame.nd rfl (Or.inl rfl) (pe_callB (call_max2 rfl) (by rfl) Z.max PyProof.Rows.boot_max (pa_cons (pe_prop (pv 0) R.cl po GS hr bS .nil pass0 rfl) (pa_cons (pe_prop (pv 1) R.cl po GS hr bS .nil pass0 rfl) pa_nil))))
    (pss_one (ps_ret (pe_tup (pa_cons (pe_op op_add (pv 3) (pe_op op_mod (pe_un un_neg (pv 3)) (pv 2))) (pa_cons (pv 2) pa_nil)))))), ?_⟩
  refine ⟨_, rfl, a, C, dx, _, _, rfl, ha, R.cl, R.nW, rfl, _, rfl, b, C, dy, _, _, rfl, hb, R.cl, R.nW, rfl, s1.w, s2.w, rfl, w1, w2, w3, w4, ?_⟩
  have W0 := Mk.lcm_pos2 w1 w2
  refine ⟨_, rfl, a, dx, _, rfl, ha, a, s1, rfl, ⟨dx, ha⟩, _, rfl, b, dy, _, rfl, hb, b, s2, rfl, ⟨dy, hb⟩, _, _, rfl, ?_⟩
  rw [Mk.max_int]
  generalize max (Mk.len s1.st) (Mk.len s2.st) = L at q ⊢
  generalize Nat.lcm s1.w s2.w = W at q W0 ⊢
  refine ⟨_, rfl, _, rfl, _, rfl, _, rfl, _, _, rfl, rfl, (by omega), ?_⟩
  dsimp only
  rw [Mk.neg_mod L W0]
  refine ⟨_, _, rfl, rfl, ?_⟩
  have eU : (L : Int) + (((W - L % W) % W : Nat) : Int) = ((Mk.up L W : Nat) : Int) := by
    rw [← Int.natCast_add]
    rfl
  dsimp only
  rw [eU]
  refine ⟨_, rfl, (by show 2 ≤ sizeLine; decide), fun p hp => ?_⟩
  exact q p _ (same_new hp _) upd_same
theorem scCkP : FnScope ["given"] ["given"] (defScope s_check_places) := ⟨rfl, rfl, rfl, by decide +kernel, rfl, by decide +kernel, by decide +kernel⟩
theorem ok_ckP (F : Fun K "check_places" "check_places" s_check_places f fd) (R : Pd K mg C) (Z : Bp mg) (D : IsP K C) : FnOk P w K mg base CX0 1 f fd ["given"] (spCkP C) := by
  refine F.ok scCkP (fun vs H Q E h => ?_) (fun cdv A outer s H vs Q E hr h => ?_)
  · obtain ⟨a, s, rfl, _⟩ := h
    rfl
  obtain ⟨a, s, rfl, ⟨dx, ha⟩, q⟩ := h
  refine ⟨_, pss_one (ps_if (pt_not (pt_val (pe_callB call_isi (by rfl) Z.isinstance PyProof.Rows.boot_isinstance (pa_cons (pv 0) (pa_cons (pe_gref rfl R.gC) pa_nil))))) (pss_one ps_dead) pss_nil), ?_⟩
  have ty : TyX K H (.ref a) (.ref C) := .base (.ins ha R.cl D.ha D.hn D.htk D.hm)
  exact ⟨_, rfl, _, _, .ref C, _, true, rfl, .own C, ty, D.kC, _, rfl, iteF q⟩
theorem scOpp : FnScope ["bits", "many"] ["bits", "many"] (defScope s_opposite) := ⟨rfl, rfl, rfl, by decide +kernel, rfl, by decide +kernel, by decide +kernel⟩
theorem ok_opp (F : Fun K "opposite" "opposite" s_opposite f fd)
    (G1 : FnOk P w K mg base CX0 1 f1 fd1 ["many"] spFull) (b1 : Binds K fd1 ["many"] []) (k1 : PySem.W.keepIn K (.ref f1) = true) (m1 : mg "full" = some (.ref f1)) : FnOk P w K mg base CX0 2 f fd ["bits", "many"] spOpp := by
  refine F.ok scOpp (fun vs H Q E h => ?_) (fun cdv A outer s H vs Q E hr h => ?_)
  · obtain ⟨x, many, rfl, _⟩ := h
    rfl
  obtain ⟨x, many, rfl, hk, q⟩ := h
  refine ⟨_, pss_one (ps_ret (pe_op op_xor (pv 0) (pe_call G1 hr rfl m1 k1 b1 .nil pass0 (pa_cons (pv 1) pa_nil)))), ?_⟩
  refine ⟨_, rfl, _, rfl, many, rfl, hk, _, _, rfl, rfl, ?_⟩
  have e : (2 : Int) ^ many - 1 = ((2 ^ many - 1 : Nat) : Int) := by
    have := Nat.two_pow_pos many
    rw [Mk.pow_ct]
    omega
  dsimp only
  rw [e, Mk.bxor]
  exact q
theorem opp_bit {x many : Nat} {m : Nat → Bool} (hx : ∀ n, x.testBit n = (decide (n < many) && m n)) (n : Nat) : (x ^^^ (2 ^ many - 1)).testBit n = (decide (n < many) && !m n) := by
  rw [Nat.testBit_xor, hx, Mk.full_bit]
  cases decide (n < many) <;> cases m n <;> rfl
def NO : List Str := ["self", "other", "start", "width", "many"]
theorem up_dvd (L : Nat) {W : Nat} (h : 0 < W) : W ∣ Mk.up L W := Nat.dvd_of_mod_eq_zero (Mk.up_mod L h)
theorem sc_or : FnScope NO ["self", "other"] (defScope s_Places_or) := ⟨rfl, rfl, rfl, by decide +kernel, rfl, by decide +kernel, by decide +kernel⟩
theorem ok_or (F : Fun K "__or__" "Places.__or__" s_Places_or f fd) (R : Pd K mg C) (M : Mk K C f1) (MI : FnOk P w K mg base CX0 4 f1 fd1 ["self", "bits", "start", "width"] (spInitG C)) (bI : Binds K fd1 ["self", "bits", "start", "width"] [])
    (GK : FnOk P w K mg base CX0 1 f2 fd2 ["given"] (spCkP C)) (bK : Binds K fd2 ["given"] []) (kK : PySem.W.keepIn K (.ref f2) = true) (mK : mg "check_places" = some (.ref f2))
    (GF : FnOk P w K mg base CX0 3 f3 fd3 ["one", "other"] (spFrame C)) (bF : Binds K fd3 ["one", "other"] []) (kF : PySem.W.keepIn K (.ref f3) = true) (mF : mg "frame" = some (.ref f3))
    (GB : FnOk P w K mg base CX0 4 f4 fd4 ["places", "many"] (spBitsB C)) (bB : Binds K fd4 ["places", "many"] []) (kB : PySem.W.keepIn K (.ref f4) = true) (mB : mg "bits_below" = some (.ref f4)) :
    FnOk P w K mg base CX0 6 f fd ["self", "other"] (spBinP C (fun x y => x || y)) := by
  refine F.ok sc_or (fun vs H Q E h => ?_) (fun cdv A outer s H vs Q E hr h => ?_)
  · obtain ⟨a, b, s1, s2, rfl, _⟩ := h
    rfl
  obtain ⟨a, b, s1, s2, rfl, pa, pb, g1, g2, lw, ll1, ll2, q⟩ := h
  have r1 := hr.mono (by decide : 1 ≤ 5)
  have r2 := hr.mono (by decide : 2 ≤ 5)
  have r3 := hr.mono (by decide : 3 ≤ 5)
  have r4 := hr.mono (by decide : 4 ≤ 5)
  refine ⟨_, pss_cons (ps_expr (pe_call GK r1 rfl mK kK bK .nil pass0 (pa_cons (pv 1) pa_nil)))
    (pss_cons (ps_asg (pe_call GF r3 rfl mF kF bF .nil pass0 (pa_cons (pv 0) (pa_cons (pv 1) pa_nil))) (pg_tup (by rfl) (pgs_cons (pg_name (i := 2) sc_or.nd rfl (Or.inl rfl)) (pgs_cons (pg_name (i := 3) sc_or.nd rfl (Or.inl rfl)) pgs_nil))))
    (pss_cons (ps_set (i := 4) sc_or.nd rfl (Or.inl rfl) (pe_op op_add (pv 2) (pv 3)))
    (pss_one (ps_ret (pe_make M MI hr rfl R.gC bI .nil pass0 (pa_cons (pe_op op_or (pe_call GB r4 rfl mB kB bB .nil pass0 (pa_cons (pv 0) (pa_cons (pv 4) pa_nil))) (pe_call GB r4 rfl mB kB bB .nil pass0 (pa_cons (pv 1) (pa_cons (pv 4) pa_nil)))) (pa_cons (pv 2) (pa_cons (pv 3) pa_nil)))))))), ?_⟩
  have W0 := Mk.lcm_pos2 g1.least.pos g2.least.pos
  have d1 : s1.w ∣ Nat.lcm s1.w s2.w := Nat.dvd_lcm_left _ _
  have d2 : s2.w ∣ Nat.lcm s1.w s2.w := Nat.dvd_lcm_right _ _
  have e1 := Nat.le_of_dvd W0 d1
  have e2 := Nat.le_of_dvd W0 d2
  have u1 := Mk.le_up (max (Mk.len s1.st) (Mk.len s2.st)) (Nat.lcm s1.w s2.w)
  have u2 := Mk.up_lt (max (Mk.len s1.st) (Mk.len s2.st)) W0
  have u3 := up_dvd (max (Mk.len s1.st) (Mk.len s2.st)) W0
  have fit1 : s1.Fit := ⟨g1.least.pos, by omega, g1.cy, by omega⟩
  have fit2 : s2.Fit := ⟨g2.least.pos, by omega, g2.cy, by omega⟩
  refine ⟨_, rfl, b, s2, rfl, pb, ?_⟩
  refine ⟨_, rfl, _, rfl, a, b, s1, s2, rfl, pa, pb, g1.least.pos, g2.least.pos, by omega, by omega, fun p H1 t1 hp => ?_⟩
  refine ⟨p, _, rfl, SqT.of hp, rfl, _, _, rfl, _, _, rfl, rfl, ?_⟩
  have pa1 := pa.same t1
  have pb1 := pb.same t1
  refine ⟨_, rfl, _, rfl, _, _, rfl, rfl, ?_⟩
  refine ⟨_, rfl, _, rfl, a, s1, Mk.up (max (Mk.len s1.st) (Mk.len s2.st)) (Nat.lcm s1.w s2.w) + Nat.lcm s1.w s2.w, ?_, pa1, fit1, by omega, by omega, fun x hx => ?_⟩
  · dsimp only
    rw [Int.natCast_add]
    rfl
  refine ⟨_, rfl, _, rfl, b, s2, Mk.up (max (Mk.len s1.st) (Mk.len s2.st)) (Nat.lcm s1.w s2.w) + Nat.lcm s1.w s2.w, ?_, pb1, fit2, by omega, by omega, fun y hy => ?_⟩
  · dsimp only
    rw [Int.natCast_add]
    rfl
  refine ⟨_, _, rfl, rfl, ?_⟩
  dsimp only
  rw [Mk.bor]
  have hb : ∀ n, (x ||| y).testBit n = (decide (n < Mk.up (max (Mk.len s1.st) (Mk.len s2.st)) (Nat.lcm s1.w s2.w) + Nat.lcm s1.w s2.w) && (fun x y => x || y) (s1.mem n) (s2.mem n)) := fun n => by
    rw [Nat.testBit_or, hx, hy]
    cases decide (n < Mk.up (max (Mk.len s1.st) (Mk.len s2.st)) (Nat.lcm s1.w s2.w) + Nat.lcm s1.w s2.w) <;> cases s1.mem n <;> cases s2.mem n <;> rfl
  refine ⟨_, rfl, _, rfl, fun c dc na nd ne => ⟨c, dc, _, Mk.up (max (Mk.len s1.st) (Mk.len s2.st)) (Nat.lcm s1.w s2.w), Nat.lcm s1.w s2.w, rfl, upd_same, W0, by omega, by omega, u3, Mk.bits_lt2 hb, fun k H' mk bt ha => ⟨rfl, ?_⟩⟩⟩
  exact q c k H' (t1.trans (born_same na nd bt)) ⟨dc, ha⟩ (Mk.op_means g1 g2 u3 d1 d2 W0 (by omega) (by omega) hb mk)
theorem sc_and : FnScope NO ["self", "other"] (defScope s_Places_and) := ⟨rfl, rfl, rfl, by decide +kernel, rfl, by decide +kernel, by decide +kernel⟩
theorem ok_and (F : Fun K "__and__" "Places.__and__" s_Places_and f fd) (R : Pd K mg C) (M : Mk K C f1) (MI : FnOk P w K mg base CX0 4 f1 fd1 ["self", "bits", "start", "width"] (spInitG C)) (bI : Binds K fd1 ["self", "bits", "start", "width"] [])
    (GK : FnOk P w K mg base CX0 1 f2 fd2 ["given"] (spCkP C)) (bK : Binds K fd2 ["given"] []) (kK : PySem.W.keepIn K (.ref f2) = true) (mK : mg "check_places" = some (.ref f2))
    (GF : FnOk P w K mg base CX0 3 f3 fd3 ["one", "other"] (spFrame C)) (bF : Binds K fd3 ["one", "other"] []) (kF : PySem.W.keepIn K (.ref f3) = true) (mF : mg "frame" = some (.ref f3))
    (GB : FnOk P w K mg base CX0 4 f4 fd4 ["places", "many"] (spBitsB C)) (bB : Binds K fd4 ["places", "many"] []) (kB : PySem.W.keepIn K (.ref f4) = true) (mB : mg "bits_below" = some (.ref f4)) :
    FnOk P w K mg base CX0 6 f fd ["self", "other"] (spBinP C (fun x y => x && y)) := by
  refine F.ok sc_and (fun vs H Q E h => ?_) (fun cdv A outer s H vs Q E hr h => ?_)
  · obtain ⟨a, b, s1, s2, rfl, _⟩ := h
    rfl
  obtain ⟨a, b, s1, s2, rfl, pa, pb, g1, g2, lw, ll1, ll2, q⟩ := h
  have r1 := hr.mono (by decide : 1 ≤ 5)
  have r2 := hr.mono (by decide : 2 ≤ 5)
  have r3 := hr.mono (by decide : 3 ≤ 5)
  have r4 := hr.mono (by decide : 4 ≤ 5)
  refine ⟨_, pss_cons (ps_expr (pe_call GK r1 rfl mK kK bK .nil pass0 (pa_cons (pv 1) pa_nil)))
    (pss_cons (ps_asg (pe_call GF r3 rfl mF kF bF .nil pass0 (pa_cons (pv 0) (pa_cons (pv 1) pa_nil))) (pg_tup (by rfl) (pgs_cons (pg_name (i := 2) sc_and.nd rfl (Or.inl rfl)) (pgs_cons (pg_name (i := 3) sc_and.nd rfl (Or.inl rfl)) pgs_nil))))
    (pss_cons (ps_set (i := 4) sc_and.nd rfl (Or.inl rfl) (pe_op op_add (pv 2) (pv 3)))
    (pss_one (ps_ret (pe_make M MI hr rfl R.gC bI .nil pass0 (pa_cons (pe_op op_and (pe_call GB r4 rfl mB kB bB .nil pass0 (pa_cons (pv 0) (pa_cons (pv 4) pa_nil))) (pe_call GB r4 rfl mB kB bB .nil pass0 (pa_cons (pv 1) (pa_cons (pv 4) pa_nil)))) (pa_cons (pv 2) (pa_cons (pv 3) pa_nil)))))))), ?_⟩
  have W0 := Mk.lcm_pos2 g1.least.pos g2.least.pos
  have d1 : s1.w ∣ Nat.lcm s1.w s2.w := Nat.dvd_lcm_left _ _
  have d2 : s2.w ∣ Nat.lcm s1.w s2.w := Nat.dvd_lcm_right _ _
  have e1 := Nat.le_of_dvd W0 d1
  have e2 := Nat.le_of_dvd W0 d2
  have u1 := Mk.le_up (max (Mk.len s1.st) (Mk.len s2.st)) (Nat.lcm s1.w s2.w)
  have u2 := Mk.up_lt (max (Mk.len s1.st) (Mk.len s2.st)) W0
  have u3 := up_dvd (max (Mk.len s1.st) (Mk.len s2.st)) W0
  have fit1 : s1.Fit := ⟨g1.least.pos, by omega, g1.cy, by omega⟩
  have fit2 : s2.Fit := ⟨g2.least.pos, by omega, g2.cy, by omega⟩
  refine ⟨_, rfl, b, s2, rfl, pb, ?_⟩
  refine ⟨_, rfl, _, rfl, a, b, s1, s2, rfl, pa, pb, g1.least.pos, g2.least.pos, by omega, by omega, fun p H1 t1 hp => ?_⟩
  refine ⟨p, _, rfl, SqT.of hp, rfl, _, _, rfl, _, _, rfl, rfl, ?_⟩
  have pa1 := pa.same t1
  have pb1 := pb.same t1
  refine ⟨_, rfl, _, rfl, _, _, rfl, rfl, ?_⟩
  refine ⟨_, rfl, _, rfl, a, s1, Mk.up (max (Mk.len s1.st) (Mk.len s2.st)) (Nat.lcm s1.w s2.w) + Nat.lcm s1.w s2.w, ?_, pa1, fit1, by omega, by omega, fun x hx => ?_⟩
  · dsimp only
    rw [Int.natCast_add]
    rfl
  refine ⟨_, rfl, _, rfl, b, s2, Mk.up (max (Mk.len s1.st) (Mk.len s2.st)) (Nat.lcm s1.w s2.w) + Nat.lcm s1.w s2.w, ?_, pb1, fit2, by omega, by omega, fun y hy => ?_⟩
  · dsimp only
    rw [Int.natCast_add]
    rfl
  refine ⟨_, _, rfl, rfl, ?_⟩
  dsimp only
  rw [Mk.band]
  have hb : ∀ n, (x &&& y).testBit n = (decide (n < Mk.up (max (Mk.len s1.st) (Mk.len s2.st)) (Nat.lcm s1.w s2.w) + Nat.lcm s1.w s2.w) && (fun x y => x && y) (s1.mem n) (s2.mem n)) := fun n => by
    rw [Nat.testBit_and, hx, hy]
    cases decide (n < Mk.up (max (Mk.len s1.st) (Mk.len s2.st)) (Nat.lcm s1.w s2.w) + Nat.lcm s1.w s2.w) <;> cases s1.mem n <;> cases s2.mem n <;> rfl
  refine ⟨_, rfl, _, rfl, fun c dc na nd ne => ⟨c, dc, _, Mk.up (max (Mk.len s1.st) (Mk.len s2.st)) (Nat.lcm s1.w s2.w), Nat.lcm s1.w s2.w, rfl, upd_same, W0, by omega, by omega, u3, Mk.bits_lt2 hb, fun k H' mk bt ha => ⟨rfl, ?_⟩⟩⟩
  exact q c k H' (t1.trans (born_same na nd bt)) ⟨dc, ha⟩ (Mk.op_means g1 g2 u3 d1 d2 W0 (by omega) (by omega) hb mk)
theorem sc_sub : FnScope NO ["self", "other"] (defScope s_Places_sub) := ⟨rfl, rfl, rfl, by decide +kernel, rfl, by decide +kernel, by decide +kernel⟩
theorem ok_sub (F : Fun K "__sub__" "Places.__sub__" s_Places_sub f fd) (R : Pd K mg C) (M : Mk K C f1) (MI : FnOk P w K mg base CX0 4 f1 fd1 ["self", "bits", "start", "width"] (spInitG C)) (bI : Binds K fd1 ["self", "bits", "start", "width"] [])
    (GK : FnOk P w K mg base CX0 1 f2 fd2 ["given"] (spCkP C)) (bK : Binds K fd2 ["given"] []) (kK : PySem.W.keepIn K (.ref f2) = true) (mK : mg "check_places" = some (.ref f2))
    (GF : FnOk P w K mg base CX0 3 f3 fd3 ["one", "other"] (spFrame C)) (bF : Binds K fd3 ["one", "other"] []) (kF : PySem.W.keepIn K (.ref f3) = true) (mF : mg "frame" = some (.ref f3))
    (GB : FnOk P w K mg base CX0 4 f4 fd4 ["places", "many"] (spBitsB C)) (bB : Binds K fd4 ["places", "many"] []) (kB : PySem.W.keepIn K (.ref f4) = true) (mB : mg "bits_below" = some (.ref f4))
    (GO : FnOk P w K mg base CX0 2 f5 fd5 ["bits", "many"] spOpp) (bO : Binds K fd5 ["bits", "many"] []) (kO : PySem.W.keepIn K (.ref f5) = true) (mO : mg "opposite" = some (.ref f5)) :
    FnOk P w K mg base CX0 6 f fd ["self", "other"] (spBinP C (fun x y => x && !y)) := by
  refine F.ok sc_sub (fun vs H Q E h => ?_) (fun cdv A outer s H vs Q E hr h => ?_)
  · obtain ⟨a, b, s1, s2, rfl, _⟩ := h
    rfl
  obtain ⟨a, b, s1, s2, rfl, pa, pb, g1, g2, lw, ll1, ll2, q⟩ := h
  have r1 := hr.mono (by decide : 1 ≤ 5)
  have r2 := hr.mono (by decide : 2 ≤ 5)
  have r3 := hr.mono (by decide : 3 ≤ 5)
  have r4 := hr.mono (by decide : 4 ≤ 5)
  refine ⟨_, pss_cons (ps_expr (pe_call GK r1 rfl mK kK bK .nil pass0 (pa_cons (pv 1) pa_nil)))
    (pss_cons (ps_asg (pe_call GF r3 rfl mF kF bF .nil pass0 (pa_cons (pv 0) (pa_cons (pv 1) pa_nil))) (pg_tup (by rfl) (pgs_cons (pg_name (i := 2) sc_sub.nd rfl (Or.inl rfl)) (pgs_cons (pg_name (i := 3) sc_sub.nd rfl (Or.inl rfl)) pgs_nil))))
    (pss_cons (ps_set (i := 4) sc_sub.nd rfl (Or.inl rfl) (pe_op op_add (pv 2) (pv 3)))
    (pss_one (ps_ret (pe_make M MI hr rfl R.gC bI .nil pass0 (pa_cons (pe_op op_and (pe_call GB r4 rfl mB kB bB .nil pass0 (pa_cons (pv 0) (pa_cons (pv 4) pa_nil))) (pe_call GO r2 rfl mO kO bO .nil pass0 (pa_cons (pe_call GB r4 rfl mB kB bB .nil pass0 (pa_cons (pv 1) (pa_cons (pv 4) pa_nil))) (pa_cons (pv 4) pa_nil)))) (pa_cons (pv 2) (pa_cons (pv 3) pa_nil)))))))), ?_⟩
  have W0 := Mk.lcm_pos2 g1.least.pos g2.least.pos
  have d1 : s1.w ∣ Nat.lcm s1.w s2.w := Nat.dvd_lcm_left _ _
  have d2 : s2.w ∣ Nat.lcm s1.w s2.w := Nat.dvd_lcm_right _ _
  have e1 := Nat.le_of_dvd W0 d1
  have e2 := Nat.le_of_dvd W0 d2
  have u1 := Mk.le_up (max (Mk.len s1.st) (Mk.len s2.st)) (Nat.lcm s1.w s2.w)
  have u2 := Mk.up_lt (max (Mk.len s1.st) (Mk.len s2.st)) W0
  have u3 := up_dvd (max (Mk.len s1.st) (Mk.len s2.st)) W0
  have fit1 : s1.Fit := ⟨g1.least.pos, by omega, g1.cy, by omega⟩
  have fit2 : s2.Fit := ⟨g2.least.pos, by omega, g2.cy, by omega⟩
  refine ⟨_, rfl, b, s2, rfl, pb, ?_⟩
  refine ⟨_, rfl, _, rfl, a, b, s1, s2, rfl, pa, pb, g1.least.pos, g2.least.pos, by omega, by omega, fun p H1 t1 hp => ?_⟩
  refine ⟨p, _, rfl, SqT.of hp, rfl, _, _, rfl, _, _, rfl, rfl, ?_⟩
  have pa1 := pa.same t1
  have pb1 := pb.same t1
  refine ⟨_, rfl, _, rfl, _, _, rfl, rfl, ?_⟩
  refine ⟨_, rfl, _, rfl, a, s1, Mk.up (max (Mk.len s1.st) (Mk.len s2.st)) (Nat.lcm s1.w s2.w) + Nat.lcm s1.w s2.w, ?_, pa1, fit1, by omega, by omega, fun x hx => ?_⟩
  · dsimp only
    rw [Int.natCast_add]
    rfl
  refine ⟨_, rfl, _, rfl, b, s2, Mk.up (max (Mk.len s1.st) (Mk.len s2.st)) (Nat.lcm s1.w s2.w) + Nat.lcm s1.w s2.w, ?_, pb1, fit2, by omega, by omega, fun y hy => ?_⟩
  · dsimp only
    rw [Int.natCast_add]
    rfl
  refine ⟨_, rfl, y, Mk.up (max (Mk.len s1.st) (Mk.len s2.st)) (Nat.lcm s1.w s2.w) + Nat.lcm s1.w s2.w, ?_, by omega, ?_⟩
  · dsimp only
    rw [Int.natCast_add]
    rfl
  have hy := opp_bit hy
  refine ⟨_, _, rfl, rfl, ?_⟩
  dsimp only
  rw [Mk.band]
  have hb : ∀ n, (x &&& (y ^^^ (2 ^ (Mk.up (max (Mk.len s1.st) (Mk.len s2.st)) (Nat.lcm s1.w s2.w) + Nat.lcm s1.w s2.w) - 1))).testBit n = (decide (n < Mk.up (max (Mk.len s1.st) (Mk.len s2.st)) (Nat.lcm s1.w s2.w) + Nat.lcm s1.w s2.w) && (fun x y => x && !y) (s1.mem n) (s2.mem n)) := fun n => by
    rw [Nat.testBit_and, hx, hy]
    cases decide (n < Mk.up (max (Mk.len s1.st) (Mk.len s2.st)) (Nat.lcm s1.w s2.w) + Nat.lcm s1.w s2.w) <;> cases s1.mem n <;> cases s2.mem n <;> rfl
  refine ⟨_, rfl, _, rfl, fun c dc na nd ne => ⟨c, dc, _, Mk.up (max (Mk.len s1.st) (Mk.len s2.st)) (Nat.lcm s1.w s2.w), Nat.lcm s1.w s2.w, rfl, upd_same, W0, by omega, by omega, u3, Mk.bits_lt2 hb, fun k H' mk bt ha => ⟨rfl, ?_⟩⟩⟩
  exact q c k H' (t1.trans (born_same na nd bt)) ⟨dc, ha⟩ (Mk.op_means g1 g2 u3 d1 d2 W0 (by omega) (by omega) hb mk)
theorem sc_xor : FnScope NO ["self", "other"] (defScope s_Places_xor) := ⟨rfl, rfl, rfl, by decide +kernel, rfl, by decide +kernel, by decide +kernel⟩
theorem ok_xor (F : Fun K "__xor__" "Places.__xor__" s_Places_xor f fd) (R : Pd K mg C) (M : Mk K C f1) (MI : FnOk P w K mg base CX0 4 f1 fd1 ["self", "bits", "start", "width"] (spInitG C)) (bI : Binds K fd1 ["self", "bits", "start", "width"] [])
    (GK : FnOk P w K mg base CX0 1 f2 fd2 ["given"] (spCkP C)) (bK : Binds K fd2 ["given"] []) (kK : PySem.W.keepIn K (.ref f2) = true) (mK : mg "check_places" = some (.ref f2))
    (GF : FnOk P w K mg base CX0 3 f3 fd3 ["one", "other"] (spFrame C)) (bF : Binds K fd3 ["one", "other"] []) (kF : PySem.W.keepIn K (.ref f3) = true) (mF : mg "frame" = some (.ref f3))
    (GB : FnOk P w K mg base CX0 4 f4 fd4 ["places", "many"] (spBitsB C)) (bB : Binds K fd4 ["places", "many"] []) (kB : PySem.W.keepIn K (.ref f4) = true) (mB : mg "bits_below" = some (.ref f4)) :
    FnOk P w K mg base CX0 6 f fd ["self", "other"] (spBinP C (fun x y => Bool.xor x y)) := by
  refine F.ok sc_xor (fun vs H Q E h => ?_) (fun cdv A outer s H vs Q E hr h => ?_)
  · obtain ⟨a, b, s1, s2, rfl, _⟩ := h
    rfl
  obtain ⟨a, b, s1, s2, rfl, pa, pb, g1, g2, lw, ll1, ll2, q⟩ := h
  have r1 := hr.mono (by decide : 1 ≤ 5)
  have r2 := hr.mono (by decide : 2 ≤ 5)
  have r3 := hr.mono (by decide : 3 ≤ 5)
  have r4 := hr.mono (by decide : 4 ≤ 5)
  refine ⟨_, pss_cons (ps_expr (pe_call GK r1 rfl mK kK bK .nil pass0 (pa_cons (pv 1) pa_nil)))
    (pss_cons (ps_asg (pe_call GF r3 rfl mF kF bF .nil pass0 (pa_cons (pv 0) (pa_cons (pv 1) pa_nil))) (pg_tup (by rfl) (pgs_cons (pg_name (i := 2) sc_xor.nd rfl (Or.inl rfl)) (pgs_cons (pg_name (i := 3) sc_xor.nd rfl (Or.inl rfl)) pgs_nil))))
    (pss_cons (ps_set (i := 4) sc_xor.nd rfl (Or.inl rfl) (pe_op op_add (pv 2) (pv 3)))
    (pss_one (ps_ret (pe_make M MI hr rfl R.gC bI .nil pass0 (pa_cons (pe_op op_xor (pe_call GB r4 rfl mB kB bB .nil pass0 (pa_cons (pv 0) (pa_cons (pv 4) pa_nil))) (pe_call GB r4 rfl mB kB bB .nil pass0 (pa_cons (pv 1) (pa_cons (pv 4) pa_nil)))) (pa_cons (pv 2) (pa_cons (pv 3) pa_nil)))))))), ?_⟩
  have W0 := Mk.lcm_pos2 g1.least.pos g2.least.pos
  have d1 : s1.w ∣ Nat.lcm s1.w s2.w := Nat.dvd_lcm_left _ _
  have d2 : s2.w ∣ Nat.lcm s1.w s2.w := Nat.dvd_lcm_right _ _
  have e1 := Nat.le_of_dvd W0 d1
  have e2 := Nat.le_of_dvd W0 d2
  have u1 := Mk.le_up (max (Mk.len s1.st) (Mk.len s2.st)) (Nat.lcm s1.w s2.w)
  have u2 := Mk.up_lt (max (Mk.len s1.st) (Mk.len s2.st)) W0
  have u3 := up_dvd (max (Mk.len s1.st) (Mk.len s2.st)) W0
  have fit1 : s1.Fit := ⟨g1.least.pos, by omega, g1.cy, by omega⟩
  have fit2 : s2.Fit := ⟨g2.least.pos, by omega, g2.cy, by omega⟩
  refine ⟨_, rfl, b, s2, rfl, pb, ?_⟩
  refine ⟨_, rfl, _, rfl, a, b, s1, s2, rfl, pa, pb, g1.least.pos, g2.least.pos, by omega, by omega, fun p H1 t1 hp => ?_⟩
  refine ⟨p, _, rfl, SqT.of hp, rfl, _, _, rfl, _, _, rfl, rfl, ?_⟩
  have pa1 := pa.same t1
  have pb1 := pb.same t1
  refine ⟨_, rfl, _, rfl, _, _, rfl, rfl, ?_⟩
  refine ⟨_, rfl, _, rfl, a, s1, Mk.up (max (Mk.len s1.st) (Mk.len s2.st)) (Nat.lcm s1.w s2.w) + Nat.lcm s1.w s2.w, ?_, pa1, fit1, by omega, by omega, fun x hx => ?_⟩
  · dsimp only
    rw [Int.natCast_add]
    rfl
  refine ⟨_, rfl, _, rfl, b, s2, Mk.up (max (Mk.len s1.st) (Mk.len s2.st)) (Nat.lcm s1.w s2.w) + Nat.lcm s1.w s2.w, ?_, pb1, fit2, by omega, by omega, fun y hy => ?_⟩
  · dsimp only
    rw [Int.natCast_add]
    rfl
  refine ⟨_, _, rfl, rfl, ?_⟩
  dsimp only
  rw [Mk.bxor]
  have hb : ∀ n, (x ^^^ y).testBit n = (decide (n < Mk.up (max (Mk.len s1.st) (Mk.len s2.st)) (Nat.lcm s1.w s2.w) + Nat.lcm s1.w s2.w) && (fun x y => Bool.xor x y) (s1.mem n) (s2.mem n)) := fun n => by
    rw [Nat.testBit_xor, hx, hy]
    cases decide (n < Mk.up (max (Mk.len s1.st) (Mk.len s2.st)) (Nat.lcm s1.w s2.w) + Nat.lcm s1.w s2.w) <;> cases s1.mem n <;> cases s2.mem n <;> rfl
  refine ⟨_, rfl, _, rfl, fun c dc na nd ne => ⟨c, dc, _, Mk.up (max (Mk.len s1.st) (Mk.len s2.st)) (Nat.lcm s1.w s2.w), Nat.lcm s1.w s2.w, rfl, upd_same, W0, by omega, by omega, u3, Mk.bits_lt2 hb, fun k H' mk bt ha => ⟨rfl, ?_⟩⟩⟩
  exact q c k H' (t1.trans (born_same na nd bt)) ⟨dc, ha⟩ (Mk.op_means g1 g2 u3 d1 d2 W0 (by omega) (by omega) hb mk)
theorem sc_invert : FnScope ["self", "start", "width", "many"] ["self"] (defScope s_Places_invert) := ⟨rfl, rfl, rfl, by decide +kernel, rfl, by decide +kernel, by decide +kernel⟩
theorem ok_invert (F : Fun K "__invert__" "Places.__invert__" s_Places_invert f fd) (R : Pd K mg C) (M : Mk K C f1) (MI : FnOk P w K mg base CX0 4 f1 fd1 ["self", "bits", "start", "width"] (spInitG C)) (bI : Binds K fd1 ["self", "bits", "start", "width"] [])
    (GF : FnOk P w K mg base CX0 3 f3 fd3 ["one", "other"] (spFrame C)) (bF : Binds K fd3 ["one", "other"] []) (kF : PySem.W.keepIn K (.ref f3) = true) (mF : mg "frame" = some (.ref f3))
    (GB : FnOk P w K mg base CX0 4 f4 fd4 ["places", "many"] (spBitsB C)) (bB : Binds K fd4 ["places", "many"] []) (kB : PySem.W.keepIn K (.ref f4) = true) (mB : mg "bits_below" = some (.ref f4))
    (GO : FnOk P w K mg base CX0 2 f5 fd5 ["bits", "many"] spOpp) (bO : Binds K fd5 ["bits", "many"] []) (kO : PySem.W.keepIn K (.ref f5) = true) (mO : mg "opposite" = some (.ref f5)) :
    FnOk P w K mg base CX0 6 f fd ["self"] (spUnP C) := by
  refine F.ok sc_invert (fun vs H Q E h => ?_) (fun cdv A outer s H vs Q E hr h => ?_)
  · obtain ⟨a, s1, rfl, _⟩ := h
    rfl
  obtain ⟨a, s1, rfl, pa, g1, lw, ll1, q⟩ := h
  have r2 := hr.mono (by decide : 2 ≤ 5)
  have r3 := hr.mono (by decide : 3 ≤ 5)
  have r4 := hr.mono (by decide : 4 ≤ 5)
  refine ⟨_, pss_cons (ps_asg (pe_call GF r3 rfl mF kF bF .nil pass0 (pa_cons (pv 0) (pa_cons (pv 0) pa_nil))) (pg_tup (by rfl) (pgs_cons (pg_name (i := 1) sc_invert.nd rfl (Or.inl rfl)) (pgs_cons (pg_name (i := 2) sc_invert.nd rfl (Or.inl rfl)) pgs_nil))))
    (pss_cons (ps_set (i := 3) sc_invert.nd rfl (Or.inl rfl) (pe_op op_add (pv 1) (pv 2)))
    (pss_one (ps_ret (pe_make M MI hr rfl R.gC bI .nil pass0 (pa_cons (pe_call GO r2 rfl mO kO bO .nil pass0 (pa_cons (pe_call GB r4 rfl mB kB bB .nil pass0 (pa_cons (pv 0) (pa_cons (pv 3) pa_nil))) (pa_cons (pv 3) pa_nil))) (pa_cons (pv 1) (pa_cons (pv 2) pa_nil))))))), ?_⟩
  have W0 := g1.least.pos
  have el : Nat.lcm s1.w s1.w = s1.w := Nat.lcm_self s1.w
  have em : max (Mk.len s1.st) (Mk.len s1.st) = Mk.len s1.st := Nat.max_self _
  have u1 := Mk.le_up (Mk.len s1.st) s1.w
  have u2 := Mk.up_lt (Mk.len s1.st) W0
  have u3 := up_dvd (Mk.len s1.st) W0
  have fit1 : s1.Fit := ⟨g1.least.pos, by omega, g1.cy, by omega⟩
  refine ⟨_, rfl, _, rfl, a, a, s1, s1, rfl, pa, pa, g1.least.pos, g1.least.pos, by omega, by omega, fun p H1 t1 hp => ?_⟩
  rw [el, em] at hp
  refine ⟨p, _, rfl, SqT.of hp, rfl, _, _, rfl, _, _, rfl, rfl, ?_⟩
  have pa1 := pa.same t1
  refine ⟨_, rfl, _, rfl, _, _, rfl, rfl, ?_⟩
  refine ⟨_, rfl, _, rfl, a, s1, Mk.up (Mk.len s1.st) s1.w + s1.w, ?_, pa1, fit1, by omega, by omega, fun x hx => ?_⟩
  · dsimp only
    rw [Int.natCast_add]
    rfl
  refine ⟨_, rfl, x, Mk.up (Mk.len s1.st) s1.w + s1.w, ?_, by omega, ?_⟩
  · dsimp only
    rw [Int.natCast_add]
    rfl
  have hb : ∀ n, (x ^^^ (2 ^ (Mk.up (Mk.len s1.st) s1.w + s1.w) - 1)).testBit n = (decide (n < Mk.up (Mk.len s1.st) s1.w + s1.w) && (fun x _ => !x) (s1.mem n) (s1.mem n)) := opp_bit hx
  refine ⟨_, rfl, _, rfl, fun c dc na nd ne => ⟨c, dc, _, Mk.up (Mk.len s1.st) s1.w, s1.w, rfl, upd_same, W0, by omega, by omega, u3, Mk.bits_lt2 hb, fun k H' mk bt ha => ⟨rfl, ?_⟩⟩⟩
  exact q c k H' (t1.trans (born_same na nd bt)) ⟨dc, ha⟩ (Mk.op_means g1 g1 u3 (Nat.dvd_refl _) (Nat.dvd_refl _) W0 (by omega) (by omega) hb mk)
end
end Wp

namespace Wp
open PySem PySem.Spec PyProof.Rows L2 Hx
def spFar : Sp := fun vs H Q _ => ∃ (d : Addr) (k : Int), vs = [.ref d, .int k] ∧ 0 ≤ k ∧ k ≤ 100 ∧ DeckAt H d ∧ ∀ (n : Nat) H', But d H H' → DeckAt H' d → Q (.int (n : Nat)) H'
theorem DeckAt.but {d D : Addr} {H : Hp} (h : DeckAt H d) (n : d ≠ D) (o : HO) : DeckAt (upd H D o) d := by
  obtain ⟨a, m, c, h1, h2, e⟩ := h
  exact ⟨a, m, c, h1, h2, by rw [upd_ne n]; exact e⟩
theorem DeckAt.some {d : Addr} {H : Hp} (h : DeckAt H d) : ∃ o, H d = Option.some o := let ⟨_, _, _, _, _, e⟩ := h; ⟨_, e⟩
theorem DeckAt.ne {d D : Addr} {H : Hp} (h : DeckAt H d) (n : H D = none) : d ≠ D := by
  obtain ⟨o, e⟩ := h.some
  exact ne_of_none e n
def spMem (K : PySem.W.Frag) (C : Addr) : Sp := fun vs H Q _ => ∃ (d a ma : Addr) (s : Mk.Kept) (ml : List Bool) (begin : Nat), vs = [.ref d, .ref a, .ref ma, .int (begin : Int)] ∧ DeckAt H d ∧ PlAt C H a s ∧ s.Fit ∧ SqL K H ma (bls ml) ∧ ma ≠ d ∧ begin < ml.length ∧ ml.length ≤ 3000 ∧
  (∀ n, markAt ml begin n = s.mem n) ∧ ∀ H', But d H H' → DeckAt H' d → Q (.bl true) H'
theorem PlAt.ne {C : Addr} {H : Hp} {a d : Addr} {s : Mk.Kept} (h : PlAt C H a s) (hd : DeckAt H d) : a ≠ d := fun e => by
  obtain ⟨dx, ha⟩ := h
  obtain ⟨x, y, z, _, _, hh⟩ := hd
  rw [e, hh] at ha
  cases ha
theorem PlAt.but {C d : Addr} {H H' : Hp} {a : Addr} {s : Mk.Kept} (h : PlAt C H a s) (n : a ≠ d) (b : But d H H') : PlAt C H' a s := h.imp fun dx e => b _ _ n e
theorem small_bool (b : Bool) : Small (.bool b) := by cases b <;> exact ⟨rfl, by decide, by decide +kernel⟩
end Wp

namespace Mk
theorem getD_marks (f : Nat → Bool) (m n : Nat) : ((List.range m).map f).getD n false = (decide (n < m) && f n) := by
  rw [List.getD_eq_getElem?_getD, List.getElem?_map]
  by_cases c : n < m
  · rw [List.getElem?_range c, decide_eq_true c]
    rfl
  · rw [List.getElem?_eq_none (by rw [List.length_range]; omega), decide_eq_false c]
    rfl
theorem any_marks {l : List Bool} : l.any id = true ↔ ∃ n, n < l.length ∧ l.getD n false = true := by
  rw [List.any_eq_true]
  constructor
  · rintro ⟨x, hx, e⟩
    obtain ⟨i, hi, e2⟩ := List.getElem_of_mem hx
    refine ⟨i, hi, ?_⟩
    rw [List.getD_eq_getElem?_getD, List.getElem?_eq_getElem hi, e2]
    exact e
  · rintro ⟨n, hn, e⟩
    rw [List.getD_eq_getElem?_getD, List.getElem?_eq_getElem hn] at e
    exact ⟨_, List.getElem_mem hn, e⟩
theorem getD_drop (l : List Bool) (b n : Nat) : (l.drop b).getD n false = l.getD (b + n) false := by
  rw [List.getD_eq_getElem?_getD, List.getD_eq_getElem?_getD, List.getElem?_drop]
theorem mem_far {s : Kept} {n : Nat} (h : len s.st ≤ n) : s.mem n = s.cy.testBit (n % s.w) := by
  unfold Kept.mem
  rw [bit_out h, Bool.xor_false]
theorem mem_back {s : Kept} (w0 : 0 < s.w) {n : Nat} (h : len s.st ≤ n) : s.mem n = s.mem (len s.st + (n - len s.st) % s.w) := by
  rw [mem_far h, mem_far (Nat.le_add_right _ _)]
  have e : (len s.st + (n - len s.st) % s.w) % s.w = n % s.w := by
    rw [Nat.add_mod, Nat.mod_mod, ← Nat.add_mod, Nat.add_sub_cancel' h]
  rw [e]
/-- the least member is found early -/
theorem head_same {s : Kept} (w0 : 0 < s.w) {k : Nat} (h : len s.st + s.w ≤ k) : ((List.range k).filter fun i => s.mem i).head? = (s.from 0 (len s.st + s.w)).head? := by
  have e0 : s.from 0 (len s.st + s.w) = (List.range (len s.st + s.w)).filter fun i => s.mem i := by
    unfold Kept.from
    simp only [Nat.zero_add]
  rw [e0]
  obtain ⟨r, rfl⟩ : ∃ r, k = len s.st + s.w + r := ⟨_, (Nat.add_sub_cancel' h).symm⟩
  rw [List.range_add, List.filter_append]
  cases hl : (List.range (len s.st + s.w)).filter fun i => s.mem i with
  | cons x t => rfl
  | nil =>
    have no : ∀ n, n < len s.st + s.w → s.mem n = false := fun n hn => by
      have := List.filter_eq_nil_iff.mp hl n (List.mem_range.mpr hn)
      cases b : s.mem n with
      | false => rfl
      | true => exact (this b).elim
    have z : ((List.range r).map (len s.st + s.w + ·)).filter (fun i => s.mem i) = [] := by
      rw [List.filter_eq_nil_iff]
      intro x hx
      obtain ⟨j, hj, rfl⟩ := List.mem_map.mp hx
      rw [mem_back w0 (by omega), no _ (by have := Nat.mod_lt (len s.st + s.w + j - len s.st) w0; omega)]
      exact Bool.false_ne_true
    rw [z]
    rfl
end Mk
namespace Wp
open PySem PySem.Spec PyProof.Rows L2 Hx
theorem headD_nats {l m : List Nat} (h : l.head? = m.head?) : (nats l).headD .non = (nats m).headD .non := by
  cases l with
  | nil =>
    cases m with
    | nil => rfl
    | cons y t => cases h
  | cons x r =>
    cases m with
    | nil => cases h
    | cons y t => rw [Option.some.inj h]; rfl
/-- what is to be shown of marks -/
theorem agree_of {ml : List Bool} {begin : Nat} {s : Mk.Kept} (fit : s.Fit) (sh : ∀ pace start, Shape ml begin pace start → start = Mk.len s.st ∧ pace = s.w) (bits : ∀ n, n < ml.length → ml.getD n false = s.mem n)
    (lt : begin < ml.length) (few : ml.length ≤ 3000) (inb : Mk.len s.st + s.w ≤ ml.length) (fin : (ml.drop begin).any id = true ↔ s.cy ≠ 0) (any : ml.any id = true ↔ s.cy ||| s.st ≠ 0) : Agree ml begin s := by
  refine ⟨sh, bits, fit, lt, few, inb, headD_nats ?_, ?_, ?_⟩
  · have e : ((List.range ml.length).filter fun i => ml.getD i false) = (List.range ml.length).filter fun i => s.mem i := List.filter_congr fun n hn => bits n (List.mem_range.mp hn)
    rw [e]
    exact Mk.head_same fit.w0 inb
  · by_cases c : s.cy = 0
    · rw [decide_eq_true c]
      cases b : (ml.drop begin).any id with
      | false => rfl
      | true => exact (fin.mp b c).elim
    · rw [decide_eq_false c, fin.mpr c]
      rfl
  · by_cases c : s.cy ||| s.st = 0
    · rw [decide_eq_false (not_not_intro c)]
      cases b : ml.any id with
      | false => rfl
      | true => exact (any.mp b c).elim
    · rw [decide_eq_true c, any.mpr c]
theorem or_ne {a b : Nat} : a ||| b ≠ 0 ↔ a ≠ 0 ∨ b ≠ 0 := by
  constructor
  · intro h
    by_cases c : a = 0
    · right
      intro z
      rw [c, z] at h
      exact h rfl
    · exact .inl c
  · intro h z
    have e : ∀ i, (a ||| b).testBit i = false := fun i => by rw [z, Nat.zero_testBit]
    rcases h with h | h
    · exact h (Mk.eq_zero_of fun i => by
        have := e i
        rw [Nat.testBit_or, Bool.or_eq_false_iff] at this
        exact this.1)
    · exact h (Mk.eq_zero_of fun i => by
        have := e i
        rw [Nat.testBit_or, Bool.or_eq_false_iff] at this
        exact this.2)
/-! numbers -/
def numsM (ms : List Nat) (M : Nat) : List Bool := (List.range (M + 1)).map fun n => decide (n ∈ ms)
theorem numsM_len (ms : List Nat) (M : Nat) : (numsM ms M).length = M + 1 := by
  unfold numsM
  rw [List.length_map, List.length_range]
theorem nums_mem {ms : List Nat} {s : Mk.Kept} (h : Mk.IsNums ms s) (n : Nat) : s.mem n = decide (n ∈ ms) := by
  unfold Mk.Kept.mem
  rw [h.cy, h.st, Nat.zero_testBit, Bool.false_xor]
theorem nums_bits {ms : List Nat} {s : Mk.Kept} {M : Nat} (h : Mk.IsNums ms s) (n : Nat) (hn : n < M + 1) : (numsM ms M).getD n false = s.mem n := by
  unfold numsM
  rw [Mk.getD_marks, decide_eq_true hn, Bool.true_and, nums_mem h]
theorem nums_stlt {ms : List Nat} {s : Mk.Kept} {M : Nat} (h : Mk.IsNums ms s) (hm : ∀ m ∈ ms, m < M) : s.st < 2 ^ M := Nat.lt_pow_two_of_testBit s.st fun i hi => by
  rw [h.st]
  exact decide_eq_false fun z => by
    have := hm i z
    omega
theorem agree_nums {ms : List Nat} {s : Mk.Kept} {M : Nat} (h : Mk.IsNums ms s) (hm : ∀ m ∈ ms, m < M) (M1 : M ≤ 1001) : Agree (numsM ms M) M s := by
  have st := nums_stlt h hm
  have sl := Mk.len_le st
  have hw := h.w
  have hM : s.mem M = false := by
    rw [nums_mem h]
    exact decide_eq_false fun z => by
      have := hm M z
      omega
  have out : ∀ i, M ≤ i → s.mem i = false := fun i hi => by
    rw [nums_mem h]
    exact decide_eq_false fun z => by
      have := hm i z
      omega
  have ms_st : ∀ i, s.mem i = s.st.testBit i := fun i => by rw [nums_mem h, h.st]
  refine agree_of ⟨by omega, by omega, by rw [h.cy]; exact Nat.two_pow_pos _, by omega⟩ ?_ (fun n hn => nums_bits h n (by rwa [numsM_len] at hn)) (by rw [numsM_len]; omega) (by rw [numsM_len]; omega) (by rw [numsM_len]; omega) ?_ ?_
  · intro pace start S
    have p1 := S.p1
    have p2 := S.p2
    rw [numsM_len] at p2
    have e : pace = 1 := by omega
    subst e
    refine ⟨?_, hw.symm⟩
    have s1 := S.s1
    have dn : ∀ k, k ≤ M - start → s.mem (M - k) = false := fun k => by
      induction k with
      | zero => intro _; exact hM
      | succ k ih =>
        intro hk
        have := S.down (M - (k + 1)) (by omega) (by omega)
        rw [nums_bits h _ (by omega), nums_bits h _ (by omega), show M - (k + 1) + 1 = M - k by omega, ih (by omega)] at this
        exact this
    have up : ∀ i, start ≤ i → s.st.testBit i = false := fun i hi => by
      rw [← ms_st]
      by_cases c : i < M
      · have := dn (M - i) (by omega)
        rwa [show M - (M - i) = i by omega] at this
      · exact out i (by omega)
    by_cases c : start = 0
    · have : s.st = 0 := Mk.eq_zero_of fun i => up i (by omega)
      rw [this, c]
      rfl
    · have := S.stop (by omega)
      rw [nums_bits h _ (by omega), nums_bits h _ (by omega), show start - 1 + 1 = start by omega, ms_st start, up start (Nat.le_refl _), ms_st] at this
      have b1 : s.st.testBit (start - 1) = true := by
        cases b : s.st.testBit (start - 1) with
        | true => rfl
        | false => exact (this b).elim
      have := Mk.len_of b1 fun i hi => up i (by omega)
      omega
  · rw [Mk.any_marks]
    constructor
    · rintro ⟨n, hn, e⟩
      rw [List.length_drop, numsM_len] at hn
      rw [Mk.getD_drop, nums_bits h _ (by omega), out _ (by omega)] at e
      cases e
    · intro z
      exact (z h.cy).elim
  · rw [Mk.any_marks, or_ne]
    constructor
    · rintro ⟨n, hn, e⟩
      rw [numsM_len] at hn
      rw [nums_bits h _ hn, ms_st] at e
      right
      intro z
      rw [z, Nat.zero_testBit] at e
      cases e
    · rintro (z | z)
      · exact (z h.cy).elim
      · obtain ⟨i, hi⟩ : ∃ i, s.st.testBit i = true := by
          apply Classical.byContradiction
          intro no
          exact z (Mk.eq_zero_of fun i => by
            cases b : s.st.testBit i with
            | false => rfl
            | true => exact (no ⟨i, b⟩).elim)
        have li : i < M := by
          apply Classical.byContradiction
          intro c
          have := out i (by omega)
          rw [ms_st, hi] at this
          cases this
        exact ⟨i, by rw [numsM_len]; omega, by rw [nums_bits h _ (by omega), ms_st]; exact hi⟩
theorem mark_nums {ms : List Nat} {s : Mk.Kept} {M : Nat} (h : Mk.IsNums ms s) (hm : ∀ m ∈ ms, m < M) (n : Nat) : markAt (numsM ms M) M n = s.mem n := by
  unfold markAt
  rw [numsM_len]
  by_cases c : n < M + 1
  · rw [if_pos c, nums_bits h n c]
  · rw [if_neg c, show M + 1 - M = 1 by omega, Nat.mod_one, Nat.add_zero, nums_bits h M (by omega), nums_mem h, nums_mem h, decide_eq_false, decide_eq_false]
    · intro z
      have := hm n z
      omega
    · intro z
      have := hm M z
      omega
/-! steps -/
def stepsM (b p : Nat) : List Bool := (List.range (b + p)).map fun n => decide (b ≤ n) && decide ((n - b) % p = 0)
theorem stepsM_len (b p : Nat) : (stepsM b p).length = b + p := by
  unfold stepsM
  rw [List.length_map, List.length_range]
theorem steps_mem {b p : Nat} {s : Mk.Kept} (h : Mk.IsSteps b p s) (hp : 0 < p) (n : Nat) : s.mem n = (decide (b ≤ n) && decide ((n - b) % p = 0)) := by
  unfold Mk.Kept.mem
  rw [h.cy, h.st, h.w, Nat.testBit_two_pow]
  by_cases c : b ≤ n
  · have e : decide ((n - b) % p = 0) = decide (b % p = n % p) := decide_eq_decide.mpr ((Mk.sub_mod_zero c hp).trans ⟨fun x => x.symm, fun x => x.symm⟩)
    rw [decide_eq_true c, Bool.true_and, e, decide_eq_false (p := n < b ∧ n % p = b % p) (by omega), Bool.xor_false]
  · rw [decide_eq_false c, Bool.false_and]
    have e : decide (n < b ∧ n % p = b % p) = decide (b % p = n % p) := decide_eq_decide.mpr ⟨fun x => x.2.symm, fun x => ⟨by omega, x.symm⟩⟩
    rw [e, Bool.xor_self]
theorem steps_bits2 {b p : Nat} {s : Mk.Kept} (h : Mk.IsSteps b p s) (hp : 0 < p) (n : Nat) (hn : n < b + p) : (stepsM b p).getD n false = s.mem n := by
  unfold stepsM
  rw [Mk.getD_marks, decide_eq_true hn, Bool.true_and, steps_mem h hp]
theorem agree_steps {b p : Nat} {s : Mk.Kept} (h : Mk.IsSteps b p s) (hp : 0 < p) (p1 : p ≤ 12) (b1 : b ≤ 1000) : Agree (stepsM b p) b s := by
  have st : s.st < 2 ^ b := Nat.lt_pow_two_of_testBit s.st fun i hi => by
    rw [h.st]
    exact decide_eq_false (by omega)
  have sl := Mk.len_le st
  have hw := h.w
  have atb : s.mem b = true := by
    rw [steps_mem h hp, decide_eq_true (Nat.le_refl _), Nat.sub_self, Nat.zero_mod]
    rfl
  have low : ∀ i, i < b → s.mem i = false := fun i hi => by rw [steps_mem h hp, decide_eq_false (by omega)]; rfl
  have cy0 : s.cy ≠ 0 := by
    rw [h.cy]
    exact Nat.ne_of_gt (Nat.two_pow_pos _)
  refine agree_of ⟨by omega, by omega, ?_, by omega⟩ ?_ (fun n hn => steps_bits2 h hp n (by rwa [stepsM_len] at hn)) (by rw [stepsM_len]; omega) (by rw [stepsM_len]; omega) (by rw [stepsM_len]; omega) ?_ ?_
  · rw [h.cy, hw]
    exact (Nat.pow_lt_pow_iff_right (by decide)).mpr (Nat.mod_lt b hp)
  · intro pace start S
    have q1 := S.p1
    have q2 := S.p2
    rw [stepsM_len] at q2
    have ep : pace = p := by
      apply Classical.byContradiction
      intro c
      have t := congrArg (fun l : List Bool => l.getD 0 false) S.turn
      have ll : ((stepsM b p).drop b).length = p := by rw [List.length_drop, stepsM_len]; omega
      have e1 : (((stepsM b p).drop b).drop pace ++ ((stepsM b p).drop b).take pace).getD 0 false = (stepsM b p).getD (b + pace) false := by
        rw [List.getD_eq_getElem?_getD, List.getElem?_append_left (by rw [List.length_drop, ll]; omega), List.getElem?_drop, List.getElem?_drop, List.getD_eq_getElem?_getD]
        rfl
      have e2 : ((stepsM b p).drop b).getD 0 false = (stepsM b p).getD b false := Mk.getD_drop _ _ _
      have t : (((stepsM b p).drop b).drop pace ++ ((stepsM b p).drop b).take pace).getD 0 false = ((stepsM b p).drop b).getD 0 false := t
      rw [e1, e2, steps_bits2 h hp _ (by omega), steps_bits2 h hp _ (by omega), atb, steps_mem h hp, decide_eq_true (by omega), Nat.add_sub_cancel_left, Nat.mod_eq_of_lt (by omega), decide_eq_false (by omega)] at t
      cases t
    subst ep
    refine ⟨?_, hw.symm⟩
    have s1 := S.s1
    have up : ∀ i, start ≤ i → s.st.testBit i = false := fun i hi => by
      rw [h.st]
      refine decide_eq_false fun ⟨l1, l2⟩ => ?_
      have d1 : (b - i) % pace = 0 := (Mk.sub_mod_zero (by omega) hp).mpr l2.symm
      have d2 : pace ≤ b - i := Nat.le_of_dvd (by omega) (Nat.dvd_of_mod_eq_zero d1)
      have := S.down (b - pace) (by omega) (by omega)
      rw [steps_bits2 h hp _ (by omega), steps_bits2 h hp _ (by omega), show b - pace + pace = b by omega, atb, low _ (by omega)] at this
      cases this
    by_cases c : start = 0
    · have : s.st = 0 := Mk.eq_zero_of fun i => up i (by omega)
      rw [this, c]
      rfl
    · have := S.stop (by omega)
      rw [steps_bits2 h hp _ (by omega), steps_bits2 h hp _ (by omega), low _ (by omega)] at this
      have m1 : s.mem (start - 1 + pace) = true := by
        cases b : s.mem (start - 1 + pace) with
        | true => rfl
        | false => exact (this b.symm).elim
      rw [steps_mem h hp, Bool.and_eq_true_iff, decide_eq_true_eq, decide_eq_true_eq] at m1
      obtain ⟨m1, m2⟩ := m1
      have m3 := (Mk.sub_mod_zero m1 hp).mp m2
      rw [Nat.add_mod_right] at m3
      have b1 : s.st.testBit (start - 1) = true := by
        rw [h.st]
        exact decide_eq_true ⟨by omega, m3⟩
      have := Mk.len_of b1 fun i hi => up i (by omega)
      omega
  · rw [Mk.any_marks]
    refine ⟨fun _ => cy0, fun _ => ⟨0, by rw [List.length_drop, stepsM_len]; omega, ?_⟩⟩
    rw [Mk.getD_drop, Nat.add_zero, steps_bits2 h hp _ (by omega), atb]
  · rw [Mk.any_marks, or_ne]
    refine ⟨fun _ => .inl cy0, fun _ => ⟨b, by rw [stepsM_len]; omega, ?_⟩⟩
    rw [steps_bits2 h hp _ (by omega), atb]
theorem mark_steps {b p : Nat} {s : Mk.Kept} (h : Mk.IsSteps b p s) (hp : 0 < p) (n : Nat) : markAt (stepsM b p) b n = s.mem n := by
  unfold markAt
  rw [stepsM_len]
  by_cases c : n < b + p
  · rw [if_pos c, steps_bits2 h hp n c]
  · have hm := Nat.mod_lt (n - b) hp
    rw [if_neg c, Nat.add_sub_cancel_left, steps_bits2 h hp _ (by omega), steps_mem h hp, steps_mem h hp, Nat.add_sub_cancel_left, Nat.mod_mod, decide_eq_true (Nat.le_add_right _ _), decide_eq_true (p := b ≤ n) (by omega)]
end Wp

namespace Wp
open PySem PySem.Spec PyProof.Rows L2 Hx
/-- the marks of a set up to its second wheel -/
def marksOf (s : Mk.Kept) (begin size : Nat) : List Bool := (List.range (begin + size)).map s.mem
theorem marksOf_len (s : Mk.Kept) (begin size : Nat) : (marksOf s begin size).length = begin + size := by
  unfold marksOf
  rw [List.length_map, List.length_range]
theorem marksOf_at {s : Mk.Kept} {begin size n : Nat} (h : n < begin + size) : (marksOf s begin size).getD n false = s.mem n := by
  unfold marksOf
  rw [Mk.getD_marks, decide_eq_true h, Bool.true_and]
theorem mark_gen {s : Mk.Kept} {begin size : Nat} (s0 : 0 < size) (h : s.From begin size) (n : Nat) : markAt (marksOf s begin size) begin n = s.mem n := by
  unfold markAt
  rw [marksOf_len]
  by_cases c : n < begin + size
  · rw [if_pos c, marksOf_at c]
  · have hm := Nat.mod_lt (n - begin) s0
    rw [if_neg c, Nat.add_sub_cancel_left, marksOf_at (by omega)]
    have := h.mul ((n - begin) / size) (begin + (n - begin) % size) (by omega)
    rw [Nat.add_assoc, Nat.mod_add_div, show begin + (n - begin) = n by omega] at this
    exact this.symm
theorem wheel_at {s : Mk.Kept} {begin size i : Nat} (h : i < size) : ((marksOf s begin size).drop begin)[i]? = some (s.mem (begin + i)) := by
  unfold marksOf
  rw [List.getElem?_drop, List.getElem?_map, List.getElem?_range (by omega)]
  rfl
theorem wheel_len {s : Mk.Kept} {begin size : Nat} : ((marksOf s begin size).drop begin).length = size := by
  rw [List.length_drop, marksOf_len]
  omega
theorem turn_at {s : Mk.Kept} {begin size k i : Nat} (hk : k ≤ size) (h : i < size) : (((marksOf s begin size).drop begin).drop k ++ ((marksOf s begin size).drop begin).take k)[i]? = some (s.mem (begin + if i + k < size then i + k else i + k - size)) := by
  have l1 : (((marksOf s begin size).drop begin).drop k).length = size - k := by rw [List.length_drop, wheel_len]
  by_cases c : i + k < size
  · rw [if_pos c, List.getElem?_append_left (by omega), List.getElem?_drop, Nat.add_comm k i, wheel_at c]
  · rw [if_neg c, List.getElem?_append_right (by omega), l1, List.getElem?_take, if_pos (by omega), show i - (size - k) = i + k - size by omega, wheel_at (by omega)]
theorem agree_gen {s : Mk.Kept} {begin size : Nat} (G : s.Good) (s0 : 0 < size) (h : s.From begin size) (l1 : begin ≤ 2000) (l2 : size ≤ 1000) : Agree (marksOf s begin size) begin s := by
  have w0 := G.least.pos
  have wd := G.dvd s0 h
  have wle := Nat.le_of_dvd s0 wd
  have ll := G.len_le s0 h
  have far : ∀ n, begin ≤ n → s.mem n = Mk.rep s.cy s.w n := fun n hn => Mk.Kept.mem_rep (by omega)
  have cyE : s.cy ≠ 0 ↔ ∃ i, i < size ∧ s.mem (begin + i) = true := by
    constructor
    · intro z
      obtain ⟨i, hi⟩ : ∃ i, s.cy.testBit i = true := by
        apply Classical.byContradiction
        intro no
        exact z (Mk.eq_zero_of fun i => by
          cases b : s.cy.testBit i with
          | false => rfl
          | true => exact (no ⟨i, b⟩).elim)
      have iw : i < s.w := by
        apply Classical.byContradiction
        intro c
        rw [Nat.testBit_lt_two_pow (Nat.lt_of_lt_of_le G.cy (Nat.pow_le_pow_right (by decide) (by omega)))] at hi
        cases hi
      refine ⟨(i + s.w * begin - begin) % s.w, Nat.lt_of_lt_of_le (Nat.mod_lt _ w0) wle, ?_⟩
      have big : begin ≤ s.w * begin := Nat.le_mul_of_pos_left _ w0
      rw [far _ (by omega)]
      have e : (begin + (i + s.w * begin - begin) % s.w) % s.w = i % s.w := by
        rw [Nat.add_mod, Nat.mod_mod, ← Nat.add_mod, show begin + (i + s.w * begin - begin) = i + s.w * begin by omega, Nat.add_mul_mod_self_left]
      unfold Mk.rep
      rw [e, Nat.mod_eq_of_lt iw]
      exact hi
    · rintro ⟨i, hi, e⟩ z
      rw [far _ (by omega)] at e
      unfold Mk.rep at e
      rw [z, Nat.zero_testBit] at e
      cases e
  refine agree_of ⟨w0, by omega, G.cy, by omega⟩ ?_ (fun n hn => marksOf_at (by rwa [marksOf_len] at hn)) (by rw [marksOf_len]; omega) (by rw [marksOf_len]; omega) (by rw [marksOf_len]; omega) ?_ ?_
  · intro pace start S
    have q1 := S.p1
    have q2 := S.p2
    have q3 := S.dv
    have lenW : (marksOf s begin size).length - begin = size := by rw [marksOf_len]; omega
    rw [lenW] at q2 q3
    have pd := Nat.dvd_of_mod_eq_zero q3
    -- a turn that changes nothing is a period
    have sh : Mk.Sh (Mk.rep s.cy s.w) pace := by
      have shS := G.least.sh.dvd wd
      have one : ∀ i, i < size → Mk.rep s.cy s.w (begin + i + pace) = Mk.rep s.cy s.w (begin + i) := fun i hi => by
        have t := congrArg (fun l : List Bool => l[i]?) S.turn
        have t : (((marksOf s begin size).drop begin).drop pace ++ ((marksOf s begin size).drop begin).take pace)[i]? = ((marksOf s begin size).drop begin)[i]? := t
        rw [turn_at q2 hi, wheel_at hi] at t
        have t := Option.some.inj t
        rw [far _ (by omega), far _ (by omega)] at t
        rw [← t]
        by_cases c : i + pace < size
        · rw [if_pos c, Nat.add_assoc]
        · rw [if_neg c, ← shS (begin + (i + pace - size)), show begin + (i + pace - size) + size = begin + i + pace by omega]
      intro n
      have big : begin ≤ s.w * begin := Nat.le_mul_of_pos_left _ w0
      have e1 := G.least.sh.mul begin (n + pace)
      have e2 := G.least.sh.mul begin n
      rw [← e1, ← e2]
      have e3 := shS.mul ((n + s.w * begin - begin) / size) (begin + (n + s.w * begin - begin) % size)
      have e4 := shS.mul ((n + s.w * begin - begin) / size) (begin + (n + s.w * begin - begin) % size + pace)
      have e5 := Nat.mod_add_div (n + s.w * begin - begin) size
      have lt := Nat.mod_lt (n + s.w * begin - begin) s0
      rw [show begin + (n + s.w * begin - begin) % size + size * ((n + s.w * begin - begin) / size) = n + s.w * begin by omega] at e3
      rw [show begin + (n + s.w * begin - begin) % size + pace + size * ((n + s.w * begin - begin) / size) = n + pace + s.w * begin by omega] at e4
      rw [e3, e4, one _ lt]
    have wp := G.least.dvd pace q1 sh
    have wle2 := Nat.le_of_dvd q1 wp
    have ep : pace = s.w := by
      apply Classical.byContradiction
      intro c
      refine S.lst s.w w0 (by omega) (by rw [lenW]; exact Nat.mod_eq_zero_of_dvd wd) ?_
      refine List.ext_getElem? fun i => ?_
      by_cases hi : i < size
      · rw [turn_at (by omega) hi, wheel_at hi]
        refine congrArg some ?_
        rw [far _ (by omega), far _ (by omega)]
        by_cases d : i + s.w < size
        · rw [if_pos d, ← Nat.add_assoc, G.least.sh]
        · rw [if_neg d, ← G.least.sh.dvd wd (begin + (i + s.w - size)), show begin + (i + s.w - size) + size = begin + i + s.w by omega, G.least.sh]
      · rw [List.getElem?_eq_none (by rw [List.length_append, List.length_drop, List.length_take, wheel_len]; omega), List.getElem?_eq_none (by rw [wheel_len]; omega)]
    refine ⟨?_, ep⟩
    have s1 := S.s1
    have dn : ∀ i, start ≤ i → s.mem (i + s.w) = s.mem i := fun i hi => by
      by_cases c : i < begin
      · have := S.down i hi c
        rw [marksOf_at (by omega), marksOf_at (by omega), ep] at this
        exact this.symm
      · rw [far _ (by omega), far _ (by omega), G.least.sh]
    have up : ∀ i, start ≤ i → s.st.testBit i = false := fun i hi => by
      have fr : s.From start s.w := fun n hn => dn n hn
      have big : (Mk.len s.st) ≤ s.w * (Mk.len s.st) := Nat.le_mul_of_pos_left _ w0
      have e := fr.mul ((Mk.len s.st)) i hi
      rw [s.st_bit, ← e, Mk.Kept.mem_rep (Nat.le_trans (show Mk.len s.st ≤ s.w * (Mk.len s.st) from big) (Nat.le_add_left _ _)), G.least.sh.mul, Bool.xor_self]
    by_cases c : start = 0
    · have : s.st = 0 := Mk.eq_zero_of fun i => up i (by omega)
      rw [this, c]
      rfl
    · have st := S.stop (by omega)
      rw [marksOf_at (by omega), marksOf_at (by omega), ep] at st
      have e1 : s.mem (start - 1 + s.w) = Mk.rep s.cy s.w (start - 1) := by
        have := s.st_bit (start - 1 + s.w)
        rw [up _ (by omega), G.least.sh] at this
        cases a : s.mem (start - 1 + s.w) <;> cases b : Mk.rep s.cy s.w (start - 1) <;> rw [a, b] at this <;> first | rfl | cases this
      have b1 : s.st.testBit (start - 1) = true := by
        rw [s.st_bit, ← e1]
        cases a : s.mem (start - 1) <;> cases b : s.mem (start - 1 + s.w) <;> rw [a, b] at st <;> first | rfl | exact (st rfl).elim
      have := Mk.len_of b1 fun i hi => up i (by omega)
      omega
  · rw [Mk.any_marks, cyE]
    constructor
    · rintro ⟨n, hn, e⟩
      rw [wheel_len] at hn
      rw [Mk.getD_drop, marksOf_at (by omega)] at e
      exact ⟨n, hn, e⟩
    · rintro ⟨n, hn, e⟩
      refine ⟨n, by rw [wheel_len]; exact hn, ?_⟩
      rw [Mk.getD_drop, marksOf_at (by omega)]
      exact e
  · rw [Mk.any_marks, or_ne]
    constructor
    · rintro ⟨n, hn, e⟩
      rw [marksOf_len] at hn
      rw [marksOf_at hn] at e
      apply Classical.byContradiction
      intro no
      have c0 : s.cy = 0 := Classical.byContradiction fun z => no (.inl z)
      have t0 : s.st = 0 := Classical.byContradiction fun z => no (.inr z)
      unfold Mk.Kept.mem at e
      rw [c0, t0, Nat.zero_testBit, Nat.zero_testBit] at e
      cases e
    · intro z
      have viaC : s.cy ≠ 0 → ∃ n, n < (marksOf s begin size).length ∧ (marksOf s begin size).getD n false = true := fun z => by
        obtain ⟨i, hi, e⟩ := cyE.mp z
        exact ⟨begin + i, by rw [marksOf_len]; omega, by rw [marksOf_at (by omega)]; exact e⟩
      rcases z with z | z
      · exact viaC z
      · by_cases c0 : s.cy = 0
        · obtain ⟨i, hi⟩ : ∃ i, s.st.testBit i = true := by
            apply Classical.byContradiction
            intro no
            exact z (Mk.eq_zero_of fun i => by
              cases b : s.st.testBit i with
              | false => rfl
              | true => exact (no ⟨i, b⟩).elim)
          have il : i < Mk.len s.st := by
            apply Classical.byContradiction
            intro c
            rw [Mk.bit_out (by omega)] at hi
            cases hi
          refine ⟨i, by rw [marksOf_len]; omega, ?_⟩
          rw [marksOf_at (by omega)]
          unfold Mk.Kept.mem
          rw [c0, hi, Nat.zero_testBit]
          rfl
        · exact viaC c0
end Wp

/-! x op y by the left operand's own def, whatever stands at the right -/
namespace PySem.W
open Lean Elab Tactic Meta PySem PySem.Calls PyProof.Rows
section
variable {prog : Program} {w : World} {A : Around} {E : Value → Shared → Prop} {s : Shared} {K : Frag} {x C D L f g : Addr} {h₀ : Heap} {m : Str → Option Value} {ox : Obj} {od : Option Obj} {T : String}
theorem own_binT {op : Operator} {b : Value} {fo ro rc : Option Value} {Q : Value → Shared → Prop} (F : Fr h₀ L s.heap m) (X₀ : K.In h₀) (I : InstAt s.heap x ox C od) (hb : Looks (model prog w) s.heap (typeOf b) (.type T)) (hc : selfFirst K C = true)
    (hs : findIn K (.ref C) (PySem.dunder op.info.2) = some (some (.ref f))) (hf : isFn K (.ref f) = true) (hr : findIn K (.ref C) (dunderR op.info.2) = some rc) (hp : rc = none ∨ ∃ g : Addr, rc = some (.ref g))
    (h1 : findIn K (.type T) (PySem.dunder op.info.2) = some fo) (h2 : findIn K (.type T) (dunderR op.info.2) = some ro) (hsub : subIn K (.type T) (.ref C) = some false)
    (h : wpAny (model prog w) A (call (.ref f) [.ref x, b]) (CmpBack Q) E s) : wpAny (model prog w) A (binaryOp op (.ref x) b) Q E s := by
  have X := X₀.keeps F.keep
  obtain ⟨cd, rest, hcd, hm⟩ := ksp_first hc
  rcases hi : op.info with ⟨sym, nm'⟩
  rw [hi] at hs hr h1 h2
  dsimp only at hs hr h1 h2
  have one := ksp_try X I hs hf h
  obtain ⟨hh, g, d, tt, os⟩ := s
  have L1 : Looks (model prog w) hh (typeOf (.ref x)) (.ref C) := I.type
  have L2 : Looks (model prog w) hh (typeOf b) (.type T) := hb
  have L3 : Looks (model prog w) hh (fillsNumberSlot (.ref C) nm') true := fills_K X hcd hm hs
  have L4 : Looks (model prog w) hh (fillsNumberSlot (.type T) nm') ((fo.isSome && !isSeqSlot fo) || (ro.isSome && !isSeqSlot ro)) := ksp_fillsT X h1 h2
  have L5 : Looks (model prog w) hh (isSubtype (.type T) (.ref C)) false := looks_subIn X hsub
  have L6 : Looks (model prog w) hh (numberSlotInPython (.ref C) nm') true := ksp_inPy X hs hr hp
  have L7 : Looks (model prog w) hh (numberSlotInPython (.type T) nm') false := Looks.of_pure rfl
  have L8 : Looks (model prog w) hh (typeLookup (.type T) (dunderR nm')) ro := looks_findIn X h2
  generalize ((fo.isSome && !isSeqSlot fo) || (ro.isSome && !isSeqSlot ro)) = right at L4
  have hne : (Value.ref C == Value.type T) = false := Bool.eq_false_iff.mpr fun q => by cases beq_iff_eq.mp q
  simp only [binaryOp, hi]
  refine wpAny_holding (wpAny_bind ?_)
  unfold binaryOp1
  refine wpAny_bind (L1.at (wpAny_bind (L2.at (wpAny_bind (L3.at ?_)))))
  simp only [hne, Bool.false_eq_true, if_false]
  cases right with
  | false =>
    ksp_lk
    refine wpAny_mono one (fun r s' hr' => ?_) fun _ _ e => e
    obtain ⟨v, rfl, hq⟩ := hr'
    ksp_lk
    exact hq
  | true =>
    ksp_lk
    refine wpAny_mono one (fun r s' hr' => ?_) fun _ _ e => e
    obtain ⟨v, rfl, hq⟩ := hr'
    ksp_lk
    exact hq
/-- the right operand is of another own class that has the operator, too -/
theorem own_binR {op : Operator} {b : Value} {rc rd : Option Value} {Q : Value → Shared → Prop} (F : Fr h₀ L s.heap m) (X₀ : K.In h₀) (I : InstAt s.heap x ox C od) (hb : Looks (model prog w) s.heap (typeOf b) (.ref D)) (hc : selfFirst K C = true) (hcd : selfFirst K D = true)
    (hs : findIn K (.ref C) (PySem.dunder op.info.2) = some (some (.ref f))) (hf : isFn K (.ref f) = true) (hr : findIn K (.ref C) (dunderR op.info.2) = some rc) (hp : rc = none ∨ ∃ g : Addr, rc = some (.ref g))
    (h1 : findIn K (.ref D) (PySem.dunder op.info.2) = some (some (.ref g))) (h2 : findIn K (.ref D) (dunderR op.info.2) = some rd) (hp2 : rd = none ∨ ∃ g : Addr, rd = some (.ref g)) (hsub : subIn K (.ref D) (.ref C) = some false) (hne : C ≠ D)
    (h : wpAny (model prog w) A (call (.ref f) [.ref x, b]) (CmpBack Q) E s) : wpAny (model prog w) A (binaryOp op (.ref x) b) Q E s := by
  have X := X₀.keeps F.keep
  obtain ⟨cd, rest, hcc, hm⟩ := ksp_first hc
  obtain ⟨cd2, rest2, hcc2, hm2⟩ := ksp_first hcd
  rcases hi : op.info with ⟨sym, nm'⟩
  rw [hi] at hs hr h1 h2
  dsimp only at hs hr h1 h2
  have one := ksp_try X I hs hf h
  obtain ⟨hh, gg, d, tt, os⟩ := s
  have L1 : Looks (model prog w) hh (typeOf (.ref x)) (.ref C) := I.type
  have L2 : Looks (model prog w) hh (typeOf b) (.ref D) := hb
  have L3 : Looks (model prog w) hh (fillsNumberSlot (.ref C) nm') true := fills_K X hcc hm hs
  have L4 : Looks (model prog w) hh (fillsNumberSlot (.ref D) nm') true := fills_K X hcc2 hm2 h1
  have L5 : Looks (model prog w) hh (isSubtype (.ref D) (.ref C)) false := looks_subIn X hsub
  have L6 : Looks (model prog w) hh (numberSlotInPython (.ref C) nm') true := ksp_inPy X hs hr hp
  have L7 : Looks (model prog w) hh (numberSlotInPython (.ref D) nm') true := ksp_inPy X h1 h2 hp2
  have hne2 : (Value.ref C == Value.ref D) = false := Bool.eq_false_iff.mpr fun q => hne (Value.ref.inj (beq_iff_eq.mp q))
  simp only [binaryOp, hi]
  refine wpAny_holding (wpAny_bind ?_)
  unfold binaryOp1
  refine wpAny_bind (L1.at (wpAny_bind (L2.at (wpAny_bind (L3.at ?_)))))
  simp only [hne2, Bool.false_eq_true, if_false]
  ksp_lk
  refine wpAny_mono one (fun r s' hr' => ?_) fun _ _ e => e
  obtain ⟨v, rfl, hq⟩ := hr'
  ksp_lk
  exact hq
end
end PySem.W
namespace Hx
open PySem PySem.Spec PyProof.Rows L2
/-- the class at C has the operator by a def of its own, which may let an error out -/
structure BinOwn (P : Program) (w : World) (K : PySem.W.Frag) (mg : Str → Option Value) (base : Heap) (k : Nat) (C : Addr) (op : Operator) (sp : Sp) : Prop where
  go : ∃ (g : Addr) (fd : FuncData) (ps : List Str), PySem.W.findIn K (.ref C) (PySem.dunder op.info.2) = some (some (.ref g)) ∧ PySem.W.isFn K (.ref g) = true ∧ FnOk P w K mg base (L2.CX P w) k g fd ps sp ∧ Binds K fd ps []
  first : PySem.W.selfFirst K C = true
  refl : PySem.W.findIn K (.ref C) (dunderR op.info.2) = some none
/-- what the class of the right operand is asked for -/
inductive BinR (K : PySem.W.Frag) (C : Addr) (op : Operator) : Value → Prop
  | ty {T : String} {fo ro : Option Value} : PySem.W.findIn K (.type T) (PySem.dunder op.info.2) = some fo → PySem.W.findIn K (.type T) (dunderR op.info.2) = some ro → PySem.W.subIn K (.type T) (.ref C) = some false → BinR K C op (.type T)
  | same : BinR K C op (.ref C)
  | other {D g : Addr} : C ≠ D → PySem.W.selfFirst K D = true → PySem.W.findIn K (.ref D) (PySem.dunder op.info.2) = some (some (.ref g)) → PySem.W.findIn K (.ref D) (dunderR op.info.2) = some none → PySem.W.subIn K (.ref D) (.ref C) = some false → BinR K C op (.ref D)
/-- the class of the right operand, as it stands -/
inductive RightB (H : Hp) : V → Value → Prop
  | non : RightB H .non (.type "NoneType")
  | bl (b : Bool) : RightB H (.bl b) (.type "bool")
  | int (i : Int) : RightB H (.int i) (.type "int")
  | str (z : Str) : RightB H (.str z) (.type "str")
  | lst {a : Addr} {xs : List V} : H a = some (.lst xs) → RightB H (.ref a) (.type "list")
  | tup {a : Addr} {xs : List V} : H a = some (.tup xs) → RightB H (.ref a) (.type "tuple")
  | dK {a : Addr} {ks : List (Key × V)} : H a = some (.dK ks) → RightB H (.ref a) (.type "dict")
  | ins {a C dx : Addr} {fs : List (Str × V)} : H a = some (.ins C dx fs) → RightB H (.ref a) (.ref C)
def rBinA (P : Program) (w : World) (K : PySem.W.Frag) (mg : Str → Option Value) (base : Heap) (k : Nat) (op : Operator) (E : XK) : R2 := fun x y H Q => ∃ (a C dx : Addr) (fs : List (Str × V)) (sp : Sp) (t : Value), x = .ref a ∧ H a = some (.ins C dx fs) ∧
  BinOwn P w K mg base k C op sp ∧ RightB H y t ∧ BinR K C op t ∧ sp [x, y] H (fun v H' => ∃ r, v = .ref r ∧ Q (.ref r) H') E
section
variable {X : Cx} {k : Nat} {op : Operator} {E : XK}
theorem right_b {pins : List (Addr × Obj)} {σ : L2.St} {H : Hp} {s : Shared} {y : V} {u t : Value} (I : Inv X pins σ H s) (ry : RelV y u) (r : RightB H y t) : PySem.W.Looks (model X.prog X.w) s.heap (typeOf u) t := by
  cases r with
  | non => cases ry; exact .of_pure rfl
  | bl b => cases ry; exact .of_pure rfl
  | int i => obtain ⟨t, rfl⟩ := ry; exact .of_pure rfl
  | str z => obtain ⟨t, rfl⟩ := ry; exact .of_pure rfl
  | @lst a xs e =>
    cases (show u = Value.ref a from ry)
    obtain ⟨_, its, n, rv, hg⟩ := (show ObjOk X.prog X.w H s.heap a (.lst xs) from I.hok a _ e)
    exact (PySem.W.Looks.ld hg).andThen .now
  | @tup a xs e =>
    cases (show u = Value.ref a from ry)
    obtain ⟨its, _, ⟨o, ho, hc, _⟩, _⟩ := I.tuple (SqT.of e)
    exact hc ▸ (PySem.W.Looks.ld ho).andThen .now
  | @dK a ks e =>
    cases (show u = Value.ref a from ry)
    obtain ⟨_, _, vs, rk, o, des, ep, hg, hx, hd, _⟩ := (show ObjOk X.prog X.w H s.heap a (.dK ks) from I.hok a _ e)
    exact hx.1 ▸ (PySem.W.Looks.ld hg).andThen .now
  | @ins a C dx fs e =>
    cases (show u = Value.ref a from ry)
    obtain ⟨mA, O, _⟩ := ins_get I.hok e
    obtain ⟨od, J, _⟩ := O.look
    exact J.type
theorem run_belowE {pins : List (Addr × Obj)} {σ : L2.St} {H : Hp} {s : Shared} {Q : VK} {us : List Value} {vs : List V} {A1 : Around} {f : Addr} {fd : FuncData} {ps : List Str} {sp : Sp}
    (F : FnOk X.prog X.w X.K X.mg X.base (L2.CX X.prog X.w) k f fd ps sp) (hr : Room k A1) (e0 : Env0 X.prog X.w X.K X.mg X.base A1 X.stack s H) (hb : Binds X.K fd ps []) (hx : Passes (L2.CX X.prog X.w) X E) (I : Inv X pins σ H s) (r : Vals vs us) (h : sp vs H Q E) :
    wpAny (model X.prog X.w) A1 (call (.ref f) us) (EP X pins σ Q) X.xe s := by
  have l := F.len vs H Q E h
  have hl : us.length = ps.length := by rw [← r.length]; exact l
  have b := hb s us I.kIn (by rw [List.append_nil]; exact hl)
  rw [List.append_nil] at b
  refine wpAny_call (codeAny_mono (F.run A1 X.stack s H ⟨us, []⟩ us vs Q E hr e0 b r h) fun r s' hq => ?_)
  cases r with
  | error e => exact hx pins σ H s e s' I hq
  | ok fl =>
    cases fl with
    | ret u => exact I.after hq
    | next => exact hq.elim
    | brk => exact hq.elim
    | cont => exact hq.elim
/-- x op y, x an own object -/
theorem op_binA (hr : Room k X.A) (hx : Passes (L2.CX X.prog X.w) X E) : OpR X (binaryOp op) (rBinA X.prog X.w X.K X.mg X.base k op E) := by
  intro pins s σ H x y v u Q I rx ry h
  obtain ⟨a, C, dx, fs, sp, t, rfl, ha, T, r, br, q⟩ := h
  have hb := right_b I ry r
  cases (show v = Value.ref a from rx)
  obtain ⟨g, fd, ps, h1, h2, F, b⟩ := T.go
  obtain ⟨mA, O, _⟩ := ins_get I.hok ha
  obtain ⟨od, J, _⟩ := O.look
  obtain ⟨m, hF⟩ := I.fr
  have run : wpAny (model X.prog X.w) X.A (call (.ref g) [.ref a, u]) (PySem.W.CmpBack (EP X pins σ Q)) X.xe s := by
    refine wpAny_mono (run_belowE F hr I.env0 b hx I (.cons rx (.cons ry .nil)) q) (fun w' s' z => ?_) fun _ _ e => e
    obtain ⟨z', H', I', rz, r', rfl, qz⟩ := z
    cases (show w' = Value.ref r' from rz)
    exact ⟨.ref r', H', I', rfl, qz⟩
  cases br with
  | ty b1 b2 b3 => exact PySem.W.own_binT hF I.ok.mod.kin J hb T.first h1 h2 T.refl (.inl rfl) b1 b2 b3 run
  | same => exact PySem.W.binop_K hF I.ok.mod.kin J hb T.first h1 h2 run
  | other n b1 b2 b3 b4 => exact PySem.W.own_binR hF I.ok.mod.kin J hb T.first b1 h1 h2 T.refl (.inl rfl) b2 b3 (.inl rfl) b4 n run
end
end Hx

/-! == and != beside any value, a dict too -/
namespace Hx
open PySem PySem.Spec PyProof.Rows L2
def rEqB (P : Program) (w : World) (K : PySem.W.Frag) (mg : Str → Option Value) (base : Heap) (k : Nat) : R2 := fun x y H Q => ∃ (a C dx : Addr) (fs : List (Str × V)) (sp : Sp) (t : Value), x = .ref a ∧ H a = some (.ins C dx fs) ∧ EqAny P w K mg base k C sp ∧
  RightB H y t ∧ PySem.W.notFirst K C t = true ∧ sp [x, y] H (fun v H' => ∃ b, v = .bl b ∧ Q (.bl b) H') E0
def rNeB (P : Program) (w : World) (K : PySem.W.Frag) (mg : Str → Option Value) (base : Heap) (k : Nat) : R2 := fun x y H Q => ∃ (a C dx : Addr) (fs : List (Str × V)) (sp : Sp) (t : Value), x = .ref a ∧ H a = some (.ins C dx fs) ∧ EqAny P w K mg base k C sp ∧
  RightB H y t ∧ PySem.W.notFirst K C t = true ∧ sp [x, y] H (fun v H' => ∃ b, v = .bl b ∧ Q (.bl (!b)) H') E0
section
variable {X : Cx} {k : Nat}
theorem op_eqB (hr : Room k X.A) : OpR X (compareOp .Eq) (rEqB X.prog X.w X.K X.mg X.base k) := by
  intro pins s σ H x y v u Q I rx ry h
  obtain ⟨a, C, dx, fs, sp, t, rfl, ha, T, r, hn, q⟩ := h
  have hb := right_b I ry r
  cases (show v = Value.ref a from rx)
  obtain ⟨g, fd, ps, h1, h2, F, b⟩ := T.go
  obtain ⟨mA, O, _⟩ := ins_get I.hok ha
  obtain ⟨od, J, _⟩ := O.look
  obtain ⟨m, hF⟩ := I.fr
  refine PySem.W.cmp_ofEq (PySem.W.cmp_K (op := .Eq) hr.units0 hF I.ok.mod.kin J hb hn h1 h2 ?_)
  refine wpAny_mono (run_below F hr I.env0 b I (.cons rx (.cons ry .nil)) q) (fun w' s' z => ?_) fun _ _ e => e
  obtain ⟨z', H', I', rz, kk, rfl, qz⟩ := z
  cases (show w' = Value.bool kk from rz)
  exact ⟨.bl kk, H', I', rfl, qz⟩
theorem op_neB (hr : Room (k + 1) X.A) : OpR X (compareOp .NotEq) (rNeB X.prog X.w X.K X.mg X.base k) := by
  intro pins s σ H x y v u Q I rx ry h
  obtain ⟨a, C, dx, fs, sp, t, rfl, ha, T, r, hn, q⟩ := h
  have hb := right_b I ry r
  cases (show v = Value.ref a from rx)
  obtain ⟨g, fd, ps, h1, h2, F, b⟩ := T.go
  obtain ⟨mA, O, _⟩ := ins_get I.hok ha
  obtain ⟨od, J, _⟩ := O.look
  obtain ⟨m, hF⟩ := I.fr
  refine PySem.W.cmp_ofNotEq (ne_K (by have := hr.un; omega) hF I.ok.mod.kin J hb hn T.ne T.obj h1 h2 ?_)
  refine wpAny_mono (run_below F hr.in1 I.env0.in1 b I (.cons rx (.cons ry .nil)) q) (fun w' s' z => ?_) fun _ _ e => e
  obtain ⟨z', H', I', rz, kk, rfl, qz⟩ := z
  cases (show w' = Value.bool kk from rz)
  exact ⟨kk, rfl, .bl (!kk), H', I', rfl, qz⟩
end
end Hx

namespace Wp
open PySem PySem.Spec PyProof.Rows L2 Hx
/-! == and repr of sets -/
theorem num_ok : ∀ n : Nat, n ≤ 1400 → PyData.strOk (toString (n : Int) : Str) = true ∧ (toString (n : Int) : Str).length ≤ 4 := by decide +kernel
theorem log_ok {n : Nat} (h : n ≤ 1400) : (n : Int).natAbs.log2 < 1920 := by
  have z : (n : Int).natAbs ≤ 1400 := by omega
  exact Nat.lt_of_le_of_lt (Nat.le_trans (Nat.log2_le_self _) z) (by decide)
theorem strOk_iff {x : Str} : PyData.strOk x = true ↔ ∀ c ∈ x.cps.toList, c < 0x110000 := by
  unfold PyData.strOk
  rw [← Array.all_toList, List.all_eq_true]
  exact ⟨fun h c hc => of_decide_eq_true (h c hc), fun h c hc => decide_eq_true (h c hc)⟩
theorem ok_app {x y : Str} (hx : PyData.strOk x = true) (hy : PyData.strOk y = true) : PyData.strOk (x ++ y) = true := by
  rw [strOk_iff] at hx hy ⊢
  intro c hc
  have e : (x ++ y).cps.toList = x.cps.toList ++ y.cps.toList := TL.tl_append _ _
  rw [e] at hc
  rcases List.mem_append.mp hc with h | h
  · exact hx c h
  · exact hy c h
/-- how a set is told -/
def lineP (lb st lr w : Nat) : Str := (((((((("Places(" : Str) ++ toString (lb : Int)) ++ " below ") ++ toString (st : Int)) ++ ", ") ++ toString (lr : Int)) ++ " of ") ++ toString (w : Int)) ++ ")"
theorem line_ok {lb st lr w : Nat} (h1 : lb ≤ 1400) (h2 : st ≤ 1400) (h3 : lr ≤ 1400) (h4 : w ≤ 1400) : PyData.strOk (lineP lb st lr w) = true ∧ (lineP lb st lr w).length ≤ 40 := by
  obtain ⟨a1, a2⟩ := num_ok lb h1
  obtain ⟨b1, b2⟩ := num_ok st h2
  obtain ⟨c1, c2⟩ := num_ok lr h3
  obtain ⟨d1, d2⟩ := num_ok w h4
  refine ⟨?_, ?_⟩
  · exact ok_app (ok_app (ok_app (ok_app (ok_app (ok_app (ok_app (ok_app (by decide +kernel) a1) (by decide +kernel)) b1) (by decide +kernel)) c1) (by decide +kernel)) d1) (by decide +kernel)
  · unfold lineP
    simp only [PySem.Str.length_append, (by decide +kernel : ("Places(" : Str).length = 7), (by decide +kernel : (" below " : Str).length = 7), (by decide +kernel : (", " : Str).length = 2), (by decide +kernel : (" of " : Str).length = 4), (by decide +kernel : (")" : Str).length = 1)]
    omega
def lineOf (s : Mk.Kept) : Str := lineP (s.from 0 (Mk.len s.st)).length (Mk.len s.st) (s.from (Mk.len s.st) s.w).length s.w
def spEqP (K : PySem.W.Frag) (C : Addr) : Sp := fun vs H Q _ => ∃ (a : Addr) (s : Mk.Kept) (y : V), vs = [.ref a, y] ∧ PlAt C H a s ∧
  ((∃ t, TyX K H y t ∧ PySem.W.kitOne K t (.ref C) = some false ∧ Q (.bl false) H) ∨ ∃ (b : Addr) (t : Mk.Kept), y = .ref b ∧ PlAt C H b t ∧ Q (.bl (decide (s.w = t.w ∧ s.cy = t.cy ∧ s.st = t.st))) H)
def spReprP (C : Addr) : Sp := fun vs H Q _ => ∃ (a : Addr) (s : Mk.Kept), vs = [.ref a] ∧ PlAt C H a s ∧ s.Fit ∧ Mk.len s.st ≤ 1400 ∧ s.w ≤ 1400 ∧ ∀ H', Same H H' → Q (.str (lineOf s)) H'
section
variable {P : Program} {w : World} {K : PySem.W.Frag} {mg : Str → Option Value} {base : Heap} {f f1 f2 f3 C : Addr} {fd fd1 fd2 fd3 : FuncData}
theorem int_nat (a b : Nat) : decide (V.int (a : Int) = V.int (b : Int)) = decide (a = b) := decide_eq_decide.mpr ⟨fun h => by have := V.int.inj h; omega, fun h => by rw [h]⟩
theorem scEqP : FnScope ["self", "other"] ["self", "other"] (defScope s_Places_eq) := ⟨rfl, rfl, rfl, by decide +kernel, rfl, by decide +kernel, by decide +kernel⟩
theorem ok_eqP (F : Fun K "__eq__" "Places.__eq__" s_Places_eq f fd) (R : Pd K mg C) (Z : Bp mg) (D : IsP K C) : FnOk P w K mg base CX0 1 f fd ["self", "other"] (spEqP K C) := by
  refine F.ok scEqP (fun vs H Q E h => ?_) (fun cdv A outer s H vs Q E hr h => ?_)
  · obtain ⟨a, s, y, rfl, _⟩ := h
    rfl
  obtain ⟨a, s, y, rfl, pl, h⟩ := h
  refine ⟨_, pss_cons (ps_if (pt_not (pt_val (pe_callB call_isi (by rfl) Z.isinstance PyProof.Rows.boot_isinstance (pa_cons (pv 1) (pa_cons (pe_gref rfl R.gC) pa_nil))))) (pss_one (ps_ret pe_bl)) pss_nil)
    (pss_one (ps_ret (pe_and (pe_cmpR op_eq (pe_fld (pv 0) rfl) (pe_fld (pv 1) rfl) (nomark _)) (pe_and (pe_cmpR op_eq (pe_fld (pv 0) rfl) (pe_fld (pv 1) rfl) (nomark _)) (pe_one (pe_cmpR op_eq (pe_fld (pv 0) rfl) (pe_fld (pv 1) rfl) (nomark _))))))), ?_⟩
  rcases h with ⟨t, ty, k, q⟩ | ⟨b, t, rfl, pb, q⟩
  · exact ⟨_, rfl, _, _, t, _, false, rfl, .own C, ty, k, _, rfl, iteT q⟩
  · obtain ⟨dx, ha⟩ := pl
    obtain ⟨dy, hb⟩ := pb
    have ty : TyX K H (.ref b) (.ref C) := .base (.ins hb R.cl D.ha D.hn D.htk D.hm)
    refine ⟨_, rfl, _, _, .ref C, _, true, rfl, .own C, ty, D.kC, _, rfl, iteF ?_⟩
    refine ⟨_, rfl, a, C, dx, _, _, rfl, ha, R.cl, R.nW, rfl, _, rfl, b, C, dy, _, _, rfl, hb, R.cl, R.nW, rfl, rfl, ?_⟩
    rw [int_nat]
    refine ⟨_, rfl, ite2 (fun c1 => ?_) (fun c1 => ?_)⟩
    · refine ⟨_, rfl, a, C, dx, _, _, rfl, ha, R.cl, R.nC, rfl, _, rfl, b, C, dy, _, _, rfl, hb, R.cl, R.nC, rfl, rfl, ?_⟩
      rw [int_nat]
      refine ⟨_, rfl, ite2 (fun c2 => ?_) (fun c2 => ?_)⟩
      · refine ⟨_, rfl, a, C, dx, _, _, rfl, ha, R.cl, R.nS, rfl, _, rfl, b, C, dy, _, _, rfl, hb, R.cl, R.nS, rfl, rfl, ?_⟩
        rw [int_nat]
        rw [show decide (s.st = t.st) = decide (s.w = t.w ∧ s.cy = t.cy ∧ s.st = t.st) from decide_eq_decide.mpr ⟨fun h => ⟨of_decide_eq_true c1, of_decide_eq_true c2, h⟩, fun h => h.2.2⟩]
        exact q
      · have e : decide (s.w = t.w ∧ s.cy = t.cy ∧ s.st = t.st) = false := decide_eq_false fun z => c2 (decide_eq_true z.2.1)
        rw [e] at q
        exact q
    · have e : decide (s.w = t.w ∧ s.cy = t.cy ∧ s.st = t.st) = false := decide_eq_false fun z => c1 (decide_eq_true z.1)
      rw [e] at q
      exact q
theorem scReprP : FnScope ["self"] ["self"] (defScope s_Places_repr) := ⟨rfl, rfl, rfl, by decide +kernel, rfl, by decide +kernel, by decide +kernel⟩
theorem empty_app : (Str.empty ++ ("Places(" : Str)) = "Places(" := by decide +kernel
theorem ok_reprP (F : Fun K "__repr__" "Places.__repr__" s_Places_repr f fd) (D : Can P w K mg base C) (Z : Bp mg) : FnOk P w K mg base CX0 7 f fd ["self"] (spReprP C) := by
  refine F.ok scReprP (fun vs H Q E h => ?_) (fun cdv A outer s H vs Q E hr h => ?_)
  · obtain ⟨a, s, rfl, _⟩ := h
    rfl
  obtain ⟨a, s, rfl, pl, fit, l1, l2, q⟩ := h
  obtain ⟨p1, g1, fd1, po1, G1, b1⟩ := D.start
  obtain ⟨p2, g2, fd2, po2, G2, b2⟩ := D.period
  obtain ⟨p3, g3, fd3, po3, G3, b3⟩ := D.below
  obtain ⟨p4, g4, fd4, po4, G4, b4⟩ := D.rests
  have R := D.pd
  have r2 := hr.mono (by decide : 2 ≤ 6)
  refine ⟨_, pss_one (ps_ret (pe_joined (.cons pe_str (.cons (pe_fmt (pe_callB call_len_seq (by rfl) Z.len PySem.boot_len (pa_cons (pe_prop (pv 0) R.cl po3 G3 hr b3 .nil pass0 rfl) pa_nil)))
    (.cons pe_str (.cons (pe_fmt (pe_prop (pv 0) R.cl po1 G1 r2 b1 .nil pass0 rfl)) (.cons pe_str (.cons (pe_fmt (pe_callB call_len_seq (by rfl) Z.len PySem.boot_len (pa_cons (pe_prop (pv 0) R.cl po4 G4 hr b4 .nil pass0 rfl) pa_nil)))
    (.cons pe_str (.cons (pe_fmt (pe_prop (pv 0) R.cl po2 G2 r2 b2 .nil pass0 rfl)) (.cons pe_str .nil))))))))))), ?_⟩
  obtain ⟨dx, ha⟩ := pl
  have L1 : (s.from 0 (Mk.len s.st)).length ≤ 1400 := Nat.le_trans (from_len s 0 _) l1
  have L2 : (s.from (Mk.len s.st) s.w).length ≤ 1400 := Nat.le_trans (from_len s _ _) l2
  obtain ⟨a1, a2⟩ := num_ok _ L1
  obtain ⟨b1', b2'⟩ := num_ok _ l1
  obtain ⟨c1, c2⟩ := num_ok _ L2
  obtain ⟨d1, d2⟩ := num_ok _ l2
  refine ⟨"Places(", rfl, small_line (by decide +kernel), ?_⟩
  rw [empty_app]
  refine ⟨_, rfl, a, dx, _, rfl, ha, a, s, rfl, ⟨dx, ha⟩, fit, fun pb H1 s1 hb => ?_⟩
  have ha1 := s1 _ _ ha
  refine ⟨pb, _, rfl, .inr (SqT.of hb), .inr ⟨_, rfl, ?_, _, rfl, ?_, " below ", rfl, ?_, ?_⟩⟩
  all_goals try rw [nats_len]
  · exact log_ok L1
  · simp only [PySem.Str.length_append, (by decide +kernel : ("Places(" : Str).length = 7)]
    exact small_line (by omega)
  · simp only [PySem.Str.length_append, (by decide +kernel : ("Places(" : Str).length = 7), (by decide +kernel : (" below " : Str).length = 7)]
    exact small_line (by omega)
  refine ⟨_, rfl, a, dx, _, rfl, ha1, a, s, rfl, ⟨dx, ha1⟩, .inr ⟨_, rfl, log_ok l1, _, rfl, ?_, ", ", rfl, ?_, ?_⟩⟩
  · simp only [PySem.Str.length_append, (by decide +kernel : ("Places(" : Str).length = 7), (by decide +kernel : (" below " : Str).length = 7)]
    exact small_line (by omega)
  · simp only [PySem.Str.length_append, (by decide +kernel : ("Places(" : Str).length = 7), (by decide +kernel : (" below " : Str).length = 7), (by decide +kernel : (", " : Str).length = 2)]
    exact small_line (by omega)
  refine ⟨_, rfl, a, dx, _, rfl, ha1, a, s, rfl, ⟨dx, ha1⟩, fit, fun pr H2 s2 hr2 => ?_⟩
  have ha2 := s2 _ _ ha1
  refine ⟨pr, _, rfl, .inr (SqT.of hr2), .inr ⟨_, rfl, ?_, _, rfl, ?_, " of ", rfl, ?_, ?_⟩⟩
  all_goals try rw [nats_len]
  · exact log_ok L2
  · simp only [PySem.Str.length_append, (by decide +kernel : ("Places(" : Str).length = 7), (by decide +kernel : (" below " : Str).length = 7), (by decide +kernel : (", " : Str).length = 2)]
    exact small_line (by omega)
  · simp only [PySem.Str.length_append, (by decide +kernel : ("Places(" : Str).length = 7), (by decide +kernel : (" below " : Str).length = 7), (by decide +kernel : (", " : Str).length = 2), (by decide +kernel : (" of " : Str).length = 4)]
    exact small_line (by omega)
  refine ⟨_, rfl, a, dx, _, rfl, ha2, a, s, rfl, ⟨dx, ha2⟩, .inr ⟨_, rfl, log_ok l2, _, rfl, ?_, ")", rfl, ?_, ?_⟩⟩
  · simp only [PySem.Str.length_append, (by decide +kernel : ("Places(" : Str).length = 7), (by decide +kernel : (" below " : Str).length = 7), (by decide +kernel : (", " : Str).length = 2), (by decide +kernel : (" of " : Str).length = 4)]
    exact small_line (by omega)
  · simp only [PySem.Str.length_append, (by decide +kernel : ("Places(" : Str).length = 7), (by decide +kernel : (" below " : Str).length = 7), (by decide +kernel : (", " : Str).length = 2), (by decide +kernel : (" of " : Str).length = 4), (by decide +kernel : (")" : Str).length = 1)]
    exact small_line (by omega)
  exact q H2 (s1.trans s2)
end
end Wp

namespace Wp
open PySem PySem.Spec PyProof.Rows L2 Hx
/-! rules of sets -/
inductive Way | or | and | less | odd
def Way.str : Way → Str
  | .or => "or" | .and => "and" | .less => "less" | .odd => "odd"
def Way.op : Way → Bool → Bool → Bool
  | .or => fun x y => x || y
  | .and => fun x y => x && y
  | .less => fun x y => x && !y
  | .odd => fun x y => Bool.xor x y
inductive Rul
  | nums (ms : List Nat)
  | steps (b p : Nat)
  | neg (r : Rul)
  | bin (o : Way) (r s : Rul)
def RulAt (H : Hp) : Rul → Addr → Prop
  | .nums ms, a => ∃ l, H a = some (.tup [.str "numbers", .ref l]) ∧ H l = some (.lst (nats ms))
  | .steps b p, a => H a = some (.tup [.str "steps", .int (b : Int), .int (p : Int)])
  | .neg r, a => ∃ x, H a = some (.tup [.str "not", .ref x]) ∧ RulAt H r x
  | .bin o r s, a => ∃ x y, H a = some (.tup [.str o.str, .ref x, .ref y]) ∧ RulAt H r x ∧ RulAt H s y
theorem RulAt.same {H H' : Hp} (s : Same H H') : ∀ (r : Rul) (a : Addr), RulAt H r a → RulAt H' r a
  | .nums _, _, ⟨l, h1, h2⟩ => ⟨l, s _ _ h1, s _ _ h2⟩
  | .steps _ _, _, h => s _ _ h
  | .neg r, _, ⟨x, h1, h2⟩ => ⟨x, s _ _ h1, RulAt.same s r x h2⟩
  | .bin _ r t, _, ⟨x, y, h1, h2, h3⟩ => ⟨x, y, s _ _ h1, RulAt.same s r x h2, RulAt.same s t y h3⟩
def Rul.mem : Rul → Nat → Bool
  | .nums ms, n => decide (n ∈ ms)
  | .steps b p, n => decide (b ≤ n) && decide ((n - b) % p = 0)
  | .neg r, n => !r.mem n
  | .bin o r s, n => o.op (r.mem n) (s.mem n)
/-- greatest of these and one more, or 0 -/
def past : List Nat → Nat
  | [] => 0
  | m :: r => max (m + 1) (past r)
def Rul.begin : Rul → Nat
  | .nums ms => past ms
  | .steps b _ => b
  | .neg r => r.begin
  | .bin _ r s => max r.begin s.begin
def Rul.size : Rul → Nat
  | .nums _ => 1
  | .steps _ p => p
  | .neg r => r.size
  | .bin _ r s => Nat.lcm r.size s.size
def Rul.deep : Rul → Nat
  | .nums _ => 0
  | .steps _ _ => 0
  | .neg r => r.deep + 1
  | .bin _ r s => max r.deep s.deep + 1
/-- what is drawn within a frame -/
def Rul.Ok (L : Nat) : Rul → Prop
  | .nums ms => ms.length ≤ 4 ∧ ∀ m ∈ ms, m ≤ 1000
  | .steps b p => b ≤ 1000 ∧ 1 ≤ p ∧ p ≤ 12 ∧ p ∣ L
  | .neg r => r.Ok L
  | .bin _ r s => r.Ok L ∧ s.Ok L
theorem past_lt {ms : List Nat} : ∀ m ∈ ms, m < past ms := by
  induction ms with
  | nil => intro m h; cases h
  | cons x r ih =>
    intro m h
    unfold past
    rcases List.mem_cons.mp h with rfl | h
    · omega
    · have := ih m h
      omega
theorem past_le {ms : List Nat} {M : Nat} (h : ∀ m ∈ ms, m < M) : past ms ≤ M := by
  induction ms with
  | nil => exact Nat.zero_le _
  | cons x r ih =>
    unfold past
    have h1 := h x List.mem_cons_self
    have h2 := ih fun m hm => h m (List.mem_cons_of_mem _ hm)
    omega
theorem Rul.size_pos {L : Nat} : ∀ {r : Rul}, r.Ok L → 0 < r.size
  | .nums _, _ => Nat.one_pos
  | .steps _ _, h => h.2.1
  | .neg r, h => Rul.size_pos (r := r) h
  | .bin _ r s, h => Nat.lcm_pos (Rul.size_pos (r := r) h.1) (Rul.size_pos (r := s) h.2)
theorem Rul.size_dvd {L : Nat} : ∀ {r : Rul}, r.Ok L → r.size ∣ L
  | .nums _, _ => Nat.one_dvd L
  | .steps _ _, h => h.2.2.2
  | .neg r, h => Rul.size_dvd (r := r) h
  | .bin _ r s, h => Nat.lcm_dvd (Rul.size_dvd (r := r) h.1) (Rul.size_dvd (r := s) h.2)
theorem Rul.begin_le {L : Nat} : ∀ {r : Rul}, r.Ok L → r.begin ≤ 1001
  | .nums ms, h => past_le fun m hm => by have := h.2 m hm; omega
  | .steps _ _, h => by have := h.1; unfold Rul.begin; omega
  | .neg r, h => Rul.begin_le (r := r) h
  | .bin _ r s, h => Nat.max_le.mpr ⟨Rul.begin_le (r := r) h.1, Rul.begin_le (r := s) h.2⟩
/-- from its begin on a rule comes again -/
def Per2 (f : Nat → Bool) (b t : Nat) : Prop := ∀ n, b ≤ n → f (n + t) = f n
theorem Per2.mul {f : Nat → Bool} {b t : Nat} (h : Per2 f b t) : ∀ k, Per2 f b (t * k)
  | 0 => fun n _ => rfl
  | k + 1 => fun n hn => by rw [Nat.mul_succ, ← Nat.add_assoc, h _ (by omega), h.mul k n hn]
theorem Per2.dvd {f : Nat → Bool} {b c t u : Nat} (h : Per2 f b t) (l : b ≤ c) (d : t ∣ u) : Per2 f c u := by
  obtain ⟨k, rfl⟩ := d
  exact fun n hn => h.mul k n (by omega)
theorem Rul.per {L : Nat} : ∀ {r : Rul}, r.Ok L → Per2 r.mem r.begin r.size
  | .nums ms, _ => fun n hn => by
    have a : ∀ k, past ms ≤ k → (Rul.nums ms).mem k = false := fun k hk => decide_eq_false fun z => by
      have := past_lt _ z
      omega
    rw [a n hn, a _ (Nat.le_trans hn (Nat.le_add_right _ _))]
  | .steps b p, h => fun n hn => by
    have hn : b ≤ n := hn
    show (decide (b ≤ n + p) && decide ((n + p - b) % p = 0)) = (decide (b ≤ n) && decide ((n - b) % p = 0))
    rw [decide_eq_true hn, decide_eq_true (by omega), show n + p - b = n - b + p by omega, Nat.add_mod_right]
  | .neg r, h => fun n hn => congrArg (!·) (Rul.per (r := r) h n hn)
  | .bin o r s, h => fun n hn => by
    have h1 := (Rul.per (r := r) h.1).dvd (Nat.le_max_left r.begin s.begin) (Nat.dvd_lcm_left r.size s.size) n hn
    have h2 := (Rul.per (r := s) h.2).dvd (Nat.le_max_right r.begin s.begin) (Nat.dvd_lcm_right r.size s.size) n hn
    show o.op (r.mem (n + Nat.lcm r.size s.size)) (s.mem (n + Nat.lcm r.size s.size)) = o.op (r.mem n) (s.mem n)
    rw [h1, h2]
theorem tag_ne {a b : Str} (h : a ≠ b) : decide (V.str a = V.str b) = false := decide_eq_false fun z => h (V.str.inj z)
theorem way_ne (o : Way) : o.str ≠ "numbers" ∧ o.str ≠ "steps" ∧ o.str ≠ "not" := by
  cases o <;> refine ⟨?_, ?_, ?_⟩ <;> decide +kernel
def Way.early : Way → Bool
  | .or => true | .and => true | _ => false
theorem way_in (o : Way) : inV (.str o.str) [.str "or", .str "and"] = o.early := by
  cases o <;> decide +kernel
theorem flat_nats (l : List Nat) : (nats l).all flatV = true := by
  unfold nats
  rw [List.all_map, List.all_eq_true]
  intro b _
  rfl
theorem in_nats (n : Nat) : ∀ l : List Nat, inV (.int (n : Int)) (nats l) = decide (n ∈ l)
  | [] => rfl
  | b :: r => by
    have ih := in_nats n r
    unfold inV nats at ih ⊢
    rw [List.map_cons, List.any_cons, ih]
    have e : eqV (.int (b : Int)) (.int (n : Int)) = decide (n = b) := by
      show decide ((b : Int) = (n : Int)) = _
      exact decide_eq_decide.mpr ⟨fun h => by omega, fun h => by omega⟩
    rw [e]
    by_cases c : n = b
    · subst c
      simp
    · rw [decide_eq_false c, Bool.false_or]
      exact decide_eq_decide.mpr ⟨fun h => List.mem_cons_of_mem _ h, fun h => (List.mem_cons.mp h).resolve_left c⟩
theorem same0 {H : Hp} : Same H H := fun _ _ h => h
def spHasR (k : Nat) : Sp := fun vs H Q _ => ∃ (a : Addr) (r : Rul) (n L : Nat), vs = [.ref a, .int (n : Int)] ∧ RulAt H r a ∧ r.Ok L ∧ r.deep < k ∧ ∀ H', Same H H' → Q (.bl (r.mem n)) H'
section
variable {P : Program} {w : World} {K : PySem.W.Frag} {mg : Str → Option Value} {base : Heap} {f f1 f2 f3 C : Addr} {fd fd1 fd2 fd3 : FuncData}
theorem scHasR : FnScope ["_law_rule_here", "_law_spot", "_law_way", "_law_mine", "_law_mate"] ["_law_rule_here", "_law_spot"] (defScope s_law_has) := ⟨rfl, rfl, rfl, by decide +kernel, rfl, by decide +kernel, by decide +kernel⟩
theorem ok_hasR (F : Fun K "_law_has" "_law_has" s_law_has f fd) (Z : Bp mg) (bF : Binds K fd ["_law_rule_here", "_law_spot"] []) (mF : mg "_law_has" = some (.ref f)) : ∀ k, FnOk P w K mg base CX0 (1 + k) f fd ["_law_rule_here", "_law_spot"] (spHasR k) := by
  intro k
  induction k with
  | zero =>
    have no : ∀ vs H Q E, spHasR 0 vs H Q E → False := fun vs H Q E ⟨a, r, n, L, _, _, _, h, _⟩ => by omega
    exact ⟨fun vs H Q E h => (no vs H Q E h).elim, fun A outer s H args us vs Q E _ _ _ _ h => (no vs H Q E h).elim⟩
  | succ k ih =>
  refine F.ok scHasR (fun vs H Q E h => ?_) (fun cdv A outer s H vs Q E hr h => ?_)
  · obtain ⟨a, r, n, L, rfl, _⟩ := h
    rfl
  obtain ⟨a, r, n, L, rfl, hr1, ok, dk, q⟩ := h
  refine ⟨_, pss_cons (ps_set (i := 2) scHasR.nd rfl (Or.inl rfl) (pe_ix ix_tup (pv 0) pe_int (fun _ _ => rfl)))
    (pss_cons (ps_if (pt_cmpR op_eq (pv 2) pe_str (nomark _)) (pss_one (ps_ret (pe_cmpR op_in_seq (pv 1) (pe_ix ix_tup (pv 0) pe_int (fun _ _ => rfl)) (by rfl)))) pss_nil)
    (pss_cons (ps_if (pt_cmpR op_eq (pv 2) pe_str (nomark _)) (pss_one (ps_ret (pe_and (pe_cmpR op_ge (pv 1) (pe_ix ix_tup (pv 0) pe_int (fun _ _ => rfl)) (nomark _))
      (pe_one (pe_cmpR op_eq (pe_op op_mod (pe_callTy call_int1 (by rfl) Z.int PyProof.Rows.boot_int (pa_cons (pe_op op_sub (pv 1) (pe_ix ix_tup (pv 0) pe_int (fun _ _ => rfl))) pa_nil)) (pe_ix ix_tup (pv 0) pe_int (fun _ _ => rfl))) pe_int (nomark _)))))) pss_nil)
    (pss_cons (ps_set (i := 3) scHasR.nd rfl (Or.inl rfl) (pe_call ih hr rfl mF F.kp bF .nil pass0 (pa_cons (pe_ix ix_tup (pv 0) pe_int (fun _ _ => rfl)) (pa_cons (pv 1) pa_nil))))
    (pss_cons (ps_if (pt_cmpR op_eq (pv 2) pe_str (nomark _)) (pss_one (ps_ret (pe_not (pv 3)))) pss_nil)
    (pss_cons (ps_set (i := 4) scHasR.nd rfl (Or.inl rfl) (pe_call ih hr rfl mF F.kp bF .nil pass0 (pa_cons (pe_ix ix_tup (pv 0) pe_int (fun _ _ => rfl)) (pa_cons (pv 1) pa_nil))))
    (pss_cons (ps_if (pt_cmpR op_in_seq (pv 2) (pe_lst (pa_cons pe_str (pa_cons pe_str pa_nil))) (by rfl)) (pss_one (ps_ret (pe_ifExp (pt_cmpR op_eq (pv 2) pe_str (nomark _)) (pe_or (pv 3) (pe_one (pv 4))) (pe_and (pv 3) (pe_one (pv 4)))))) pss_nil)
    (pss_one (ps_ret (pe_ifExp (pt_cmpR op_eq (pv 2) pe_str (nomark _)) (pe_and (pv 3) (pe_one (pe_not (pv 4)))) (pe_cmpR op_ne (pv 3) (pv 4) (nomark _)))))))))))
    , ?_⟩
  cases r with
  | nums ms =>
    obtain ⟨l, ha, hl⟩ := hr1
    refine ⟨_, rfl, a, _, 0, _, rfl, rfl, SqT.of ha, atI_nat (j := 0) rfl, ?_⟩
    refine ⟨_, rfl, rfl, _, rfl, ?_⟩
    rw [decide_eq_true rfl]
    refine iteT ⟨_, rfl, _, rfl, a, _, 1, _, rfl, rfl, SqT.of ha, atI_nat (j := 1) rfl, l, _, rfl, .inl (SqL.of hl), rfl, flat_nats _, ?_⟩
    show Q (.bl (inV (.int (n : Int)) (nats ms))) H
    rw [in_nats]
    exact q H same0
  | steps b p =>
    have ha : H a = some (.tup [.str "steps", .int (b : Int), .int (p : Int)]) := hr1
    obtain ⟨b1, p1, p2, pd⟩ := ok
    have hT : SqT K H a [.str "steps", .int (b : Int), .int (p : Int)] := SqT.of ha
    refine ⟨_, rfl, a, _, 0, _, rfl, rfl, hT, atI_nat (j := 0) rfl, ?_⟩
    refine ⟨_, rfl, rfl, _, rfl, ?_⟩
    rw [tag_ne (by decide +kernel)]
    refine iteF ⟨_, rfl, rfl, _, rfl, ?_⟩
    rw [decide_eq_true rfl]
    refine iteT ⟨_, rfl, _, rfl, a, _, 1, _, rfl, rfl, hT, atI_nat (j := 1) rfl, _, _, rfl, rfl, _, rfl, ?_⟩
    refine ite2 (fun c => ?_) (fun c => ?_)
    · have c' : b ≤ n := by
        have := of_decide_eq_true c
        omega
      refine ⟨_, rfl, _, rfl, a, _, 1, _, rfl, rfl, hT, atI_nat (j := 1) rfl, _, _, rfl, rfl, .inl ⟨_, rfl, _, rfl, a, _, 2, _, rfl, rfl, hT, atI_nat (j := 2) rfl, _, _, rfl, rfl, by omega, rfl, ?_⟩⟩
      have e2 : ((n : Int) - (b : Int)) % (p : Int) = (((n - b) % p : Nat) : Int) := by
        rw [show (n : Int) - (b : Int) = ((n - b : Nat) : Int) by omega, Int.natCast_emod]
      have e3 : decide (V.int (((n : Int) - (b : Int)) % (p : Int)) = V.int 0) = (Rul.steps b p).mem n := by
        show _ = (decide (b ≤ n) && decide ((n - b) % p = 0))
        rw [decide_eq_true c', Bool.true_and]
        refine decide_eq_decide.mpr ⟨fun z => ?_, fun z => ?_⟩
        · have z2 := V.int.inj z
          rw [e2] at z2
          omega
        · rw [e2, z]
          rfl
      show Q (.bl (decide (V.int (((n : Int) - (b : Int)) % (p : Int)) = V.int 0))) H
      rw [e3]
      exact q H same0
    · have c' : ¬ b ≤ n := fun z => c (decide_eq_true (by omega))
      have e3 : (Rul.steps b p).mem n = false := by
        show (decide (b ≤ n) && decide ((n - b) % p = 0)) = false
        rw [decide_eq_false c', Bool.false_and]
      have q := q H same0
      rw [e3] at q
      exact q
  | neg r =>
    obtain ⟨x, ha, hx⟩ := hr1
    have hT : SqT K H a [.str "not", .ref x] := SqT.of ha
    refine ⟨_, rfl, a, _, 0, _, rfl, rfl, hT, atI_nat (j := 0) rfl, ?_⟩
    refine ⟨_, rfl, rfl, _, rfl, ?_⟩
    rw [tag_ne (by decide +kernel)]
    refine iteF ⟨_, rfl, rfl, _, rfl, ?_⟩
    rw [tag_ne (by decide +kernel)]
    refine iteF ?_
    have dk2 : r.deep < k := by
      have : r.deep + 1 < k + 1 := dk
      omega
    refine ⟨_, rfl, a, _, 1, _, rfl, rfl, hT, atI_nat (j := 1) rfl, _, rfl, x, r, n, L, rfl, hx, ok, dk2, fun H1 s1 => ?_⟩
    refine ⟨_, rfl, rfl, _, rfl, ?_⟩
    rw [decide_eq_true rfl]
    exact iteT ⟨_, rfl, _, rfl, q H1 s1⟩
  | bin o r s2 =>
    obtain ⟨x, y, ha, hx, hy⟩ := hr1
    have hT : SqT K H a [.str o.str, .ref x, .ref y] := SqT.of ha
    obtain ⟨w1, w2, w3⟩ := way_ne o
    refine ⟨_, rfl, a, _, 0, _, rfl, rfl, hT, atI_nat (j := 0) rfl, ?_⟩
    refine ⟨_, rfl, rfl, _, rfl, ?_⟩
    rw [tag_ne w1]
    refine iteF ⟨_, rfl, rfl, _, rfl, ?_⟩
    rw [tag_ne w2]
    refine iteF ?_
    have dk2 : max r.deep s2.deep + 1 < k + 1 := dk
    refine ⟨_, rfl, a, _, 1, _, rfl, rfl, hT, atI_nat (j := 1) rfl, _, rfl, x, r, n, L, rfl, hx, ok.1, by omega, fun H1 s1 => ?_⟩
    refine ⟨_, rfl, rfl, _, rfl, ?_⟩
    rw [tag_ne w3]
    refine iteF ?_
    have hT1 : SqT K H1 a [.str o.str, .ref x, .ref y] := SqT.of (s1 _ _ ha)
    refine ⟨_, rfl, a, _, 2, _, rfl, rfl, hT1, atI_nat (j := 2) rfl, _, rfl, y, s2, n, L, rfl, RulAt.same s1 s2 y hy, ok.2, by omega, fun H2 t2 => ?_⟩
    refine ⟨_, rfl, (by show 2 ≤ sizeLine; decide), fun D hD => ⟨D, _, rfl, .inl (SqL.of upd_same), rfl, rfl, _, rfl, ?_⟩⟩
    have q := q _ ((s1.trans t2).trans (same_new hD (.lst [V.str "or", V.str "and"])))
    have early : ∀ b : Bool, inV (.str o.str) [.str "or", .str "and"] = b → (if false = true then !inV (V.str o.str) [.str "or", .str "and"] else inV (V.str o.str) [.str "or", .str "and"]) = b := fun b e => e
    have qq : Q (.bl (o.op (r.mem n) (s2.mem n))) (upd H2 D (.lst [V.str "or", V.str "and"])) := q
    clear q
    cases o with
    | or =>
      rw [early true (way_in .or)]
      refine iteT ⟨_, rfl, rfl, _, rfl, ?_⟩
      rw [show decide (V.str Way.or.str = V.str "or") = true from decide_eq_true rfl]
      refine iteT ⟨_, rfl, _, rfl, ?_⟩
      refine ite2 (fun c => ?_) (fun c => ?_)
      · have e : Way.or.op (r.mem n) (s2.mem n) = true := by
          show (r.mem n || s2.mem n) = true
          rw [c]
          rfl
        rw [e] at qq
        exact qq
      · have e : Way.or.op (r.mem n) (s2.mem n) = s2.mem n := by
          show (r.mem n || s2.mem n) = _
          rw [Bool.eq_false_iff.mpr c]
          rfl
        rw [e] at qq
        exact ⟨_, rfl, qq⟩
    | and =>
      rw [early true (way_in .and)]
      refine iteT ⟨_, rfl, rfl, _, rfl, ?_⟩
      rw [tag_ne (by decide +kernel)]
      refine iteF ⟨_, rfl, _, rfl, ?_⟩
      refine ite2 (fun c => ?_) (fun c => ?_)
      · have e : Way.and.op (r.mem n) (s2.mem n) = s2.mem n := by
          show (r.mem n && s2.mem n) = _
          rw [c]
          rfl
        rw [e] at qq
        exact ⟨_, rfl, qq⟩
      · have e : Way.and.op (r.mem n) (s2.mem n) = false := by
          show (r.mem n && s2.mem n) = _
          rw [Bool.eq_false_iff.mpr c]
          rfl
        rw [e] at qq
        exact qq
    | less =>
      rw [early false (way_in .less)]
      refine iteF ⟨_, rfl, rfl, _, rfl, ?_⟩
      rw [show decide (V.str Way.less.str = V.str "less") = true from decide_eq_true rfl]
      refine iteT ⟨_, rfl, _, rfl, ?_⟩
      refine ite2 (fun c => ?_) (fun c => ?_)
      · have e : Way.less.op (r.mem n) (s2.mem n) = !s2.mem n := by
          show (r.mem n && !s2.mem n) = _
          rw [c]
          rfl
        rw [e] at qq
        exact ⟨_, rfl, _, rfl, qq⟩
      · have e : Way.less.op (r.mem n) (s2.mem n) = false := by
          show (r.mem n && !s2.mem n) = _
          rw [Bool.eq_false_iff.mpr c]
          rfl
        rw [e] at qq
        exact qq
    | odd =>
      rw [early false (way_in .odd)]
      refine iteF ⟨_, rfl, rfl, _, rfl, ?_⟩
      rw [tag_ne (by decide +kernel)]
      refine iteF ⟨_, rfl, _, rfl, rfl, ?_⟩
      have e : (!decide (V.bl (r.mem n) = V.bl (s2.mem n))) = Way.odd.op (r.mem n) (s2.mem n) := by
        show _ = Bool.xor (r.mem n) (s2.mem n)
        cases r.mem n <;> cases s2.mem n <;> rfl
      rw [e]
      exact qq
end
end Wp

namespace Wp
open PySem PySem.Spec PyProof.Rows L2 Hx
def spLeastC : Sp := fun vs H Q _ => ∃ x y : Nat, vs = [.int (x : Int), .int (y : Int)] ∧ 1 ≤ x ∧ 1 ≤ y ∧ x ≤ 5000 ∧ y ≤ 5000 ∧ ∀ H', Same H H' → Q (.int (Nat.lcm x y : Nat)) H'
def spSpan (k : Nat) : Sp := fun vs H Q _ => ∃ (a : Addr) (r : Rul) (L : Nat), vs = [.ref a] ∧ RulAt H r a ∧ r.Ok L ∧ 0 < L ∧ L ≤ 5000 ∧ r.deep < k ∧ ∀ p H', Same H H' → H' p = some (.tup [.int (r.begin : Int), .int (r.size : Int)]) → Q (.ref p) H'
/-- the first multiple of x that y divides -/
theorem first_common {x y : Nat} (hx : 1 ≤ x) (hy : 1 ≤ y) : ∃ r, ((((List.range y).map (0 + ·)).filter fun k => decide ((x * (k + 1)) % y = 0)).map fun k => x * (k + 1)) = Nat.lcm x y :: r := by
  have l0 : 0 < Nat.lcm x y := Nat.lcm_pos hx hy
  obtain ⟨c, hc⟩ := Nat.dvd_lcm_left x y
  have c0 : 0 < c := by
    rcases Nat.eq_zero_or_pos c with z | z
    · rw [z, Nat.mul_zero] at hc
      omega
    · exact z
  have cy : c ≤ y := by
    have d : Nat.lcm x y ∣ x * y := Nat.lcm_dvd (Nat.dvd_mul_right x y) (Nat.dvd_mul_left y x)
    have := Nat.le_of_dvd (Nat.mul_pos hx hy) d
    rw [hc] at this
    exact Nat.le_of_mul_le_mul_left this hx
  obtain ⟨i, r, hi, hl, hb, hno⟩ := first_of (fun k => decide ((x * (k + 1)) % y = 0)) 0 y ⟨c - 1, by omega, by
    rw [Nat.zero_add, show c - 1 + 1 = c by omega, ← hc]
    exact decide_eq_true (Nat.mod_eq_zero_of_dvd (Nat.dvd_lcm_right x y))⟩
  rw [Nat.zero_add] at hb
  have hd := Nat.dvd_of_mod_eq_zero (of_decide_eq_true hb)
  have ge := Nat.le_of_dvd (Nat.mul_pos hx (Nat.succ_pos i)) (Nat.lcm_dvd (Nat.dvd_mul_right x (i + 1)) hd)
  rw [hc] at ge
  have ci : c ≤ i + 1 := Nat.le_of_mul_le_mul_left ge hx
  have ic : i + 1 = c := by
    apply Classical.byContradiction
    intro z
    have := hno (c - 1) (by omega)
    rw [Nat.zero_add, show c - 1 + 1 = c by omega, ← hc, Nat.mod_eq_zero_of_dvd (Nat.dvd_lcm_right x y)] at this
    exact absurd this (by simp)
  refine ⟨r.map fun k => x * (k + 1), ?_⟩
  rw [hl, List.map_cons, Nat.zero_add, ic, ← hc]
section
variable {P : Program} {w : World} {K : PySem.W.Frag} {mg : Str → Option Value} {base : Heap} {f f1 f2 f3 C : Addr} {fd fd1 fd2 fd3 : FuncData}
theorem scLeastC : FnScope ["_law_size", "_law_pace", "_law_k"] ["_law_size", "_law_pace"] (defScope s_law_least_common) := ⟨rfl, rfl, rfl, by decide +kernel, rfl, by decide +kernel, by decide +kernel⟩
theorem ok_leastC (F : Fun K "_law_least_common" "_law_least_common" s_law_least_common f fd) (Z : Bp mg) : FnOk P w K mg base CX0 1 f fd ["_law_size", "_law_pace"] spLeastC := by
  refine F.ok scLeastC (fun vs H Q E h => ?_) (fun cdv A outer s H vs Q E hr h => ?_)
  · obtain ⟨x, y, rfl, _⟩ := h
    rfl
  obtain ⟨x, y, rfl, hx, hy, x5, y5, q⟩ := h
  refine ⟨_, pss_one (ps_ret (pe_ix ix_list (pe_lc (own := [("_law_k", 2)]) (g := gName 2) rfl scLeastC.nd (pi_range1 rfl Z.range (pa_cons (pv 1) pa_nil))
      (blkOk_by (N := ["_law_size", "_law_pace", "_law_k"]) (sc := defScope s_law_least_common) (by decide +kernel)) (fun _ _ _ _ _ => pg_name (i := 2) scLeastC.nd rfl (Or.inl rfl))
      (fun _ _ _ _ _ => pts_one (pt_cmpR op_eq (pe_op op_mod (pe_callTy call_int1 (by rfl) Z.int PyProof.Rows.boot_int (pa_cons (pe_op op_mul (pv 0) (pe_op op_add (pv 2) pe_int)) pa_nil)) (pv 1)) pe_int (nomark _)))
      (fun _ _ _ _ _ => pe_op op_mul (pv 0) (pe_op op_add (pv 2) pe_int))) pe_int (fun _ _ => rfl))), ?_⟩
  refine ⟨_, rfl, (y : Int), rfl, by omega, by omega, fun D hD => ?_⟩
  refine lc_range (lo := 0) (n := y) (fun i H' => Same H H' ∧ H' D = some (.lst (nats ((((List.range i).map (0 + ·)).filter fun k => decide ((x * (k + 1)) % y = 0)).map fun k => x * (k + 1))))) ⟨same_new hD _, upd_same⟩ ?_ ?_
  · rintro i H' hi ⟨s1, h1⟩
    have e : (0 : Int) + (i : Int) = (i : Int) := by omega
    rw [e]
    have e2 : (x : Int) * ((i : Int) + 1) = ((x * (i + 1) : Nat) : Int) := by
      rw [Int.natCast_mul, Int.natCast_add]
      rfl
    have e3 : ((x * (i + 1) : Nat) : Int) % (y : Int) = (((x * (i + 1)) % y : Nat) : Int) := (Int.natCast_emod _ _).symm
    have sn : (((List.range (i + 1)).map (0 + ·)).filter fun k => decide ((x * (k + 1)) % y = 0)) = (((List.range i).map (0 + ·)).filter fun k => decide ((x * (k + 1)) % y = 0)) ++ (if decide ((x * (i + 1)) % y = 0) = true then [i] else []) := by
      rw [List.range_succ, List.map_append, List.filter_append]
      cases b : decide ((x * (i + 1)) % y = 0) <;> simp_all
    refine ⟨rfl, ⟨_, rfl, _, rfl, _, _, rfl, rfl, _, _, rfl, rfl, .inl ⟨by omega, by omega⟩, .inl ⟨_, rfl, _, rfl, _, _, rfl, rfl, by omega, rfl, _, rfl, ?_⟩⟩⟩
    refine ite2 (fun c => ?_) (fun c => ?_)
    · have c2 : (x * (i + 1)) % y = 0 := by
        have z := V.int.inj (of_decide_eq_true c)
        rw [e2, e3] at z
        omega
      refine ⟨_, rfl, _, rfl, _, _, rfl, rfl, _, _, rfl, rfl, .inl ⟨by omega, by omega⟩, ?_⟩
      refine ⟨_, h1, ?_, same_at hD s1, ?_⟩
      · rw [nats_len, List.length_map, sizeLine_eq]
        have := List.length_filter_le (fun k => decide ((x * (k + 1)) % y = 0)) ((List.range i).map (0 + ·))
        rw [List.length_map, List.length_range] at this
        omega
      · rw [upd_same, sn, if_pos (decide_eq_true c2), List.map_append]
        unfold nats
        rw [List.map_append]
        dsimp only
        rw [e2]
        rfl
    · have c2 : (x * (i + 1)) % y ≠ 0 := fun z => c (by
        show decide (V.int ((x : Int) * ((i : Int) + 1) % (y : Int)) = V.int 0) = true
        rw [e2, e3, z]
        exact decide_eq_true rfl)
      refine ⟨s1, ?_⟩
      rw [sn, if_neg (by rw [decide_eq_false c2]; exact Bool.false_ne_true), List.append_nil]
      exact h1
  · rintro H1 ⟨s1, h1⟩
    obtain ⟨r, er⟩ := first_common hx hy
    rw [er] at h1
    exact ⟨D, _, 0, _, rfl, rfl, SqL.of h1, atI_nat (j := 0) rfl, q H1 s1⟩
end
end Wp

namespace Wp
open PySem PySem.Spec PyProof.Rows L2 Hx
section
variable {P : Program} {w : World} {K : PySem.W.Frag} {mg : Str → Option Value} {base : Heap} {f f1 f2 f3 C : Addr} {fd fd1 fd2 fd3 : FuncData}
theorem past_max (ms : List Nat) {m : Int} (h1 : m ∈ ((-1 : Int) :: ms.map fun n : Nat => (n : Int))) (h2 : ∀ y, y ∈ ((-1 : Int) :: ms.map fun n : Nat => (n : Int)) → y ≤ m) : m + 1 = (past ms : Int) := by
  have g1 : -1 ≤ m := h2 (-1) List.mem_cons_self
  have a : past ms ≤ (m + 1).toNat := past_le fun x hx => by
    have := h2 (x : Int) (List.mem_cons_of_mem _ (List.mem_map.mpr ⟨x, hx, rfl⟩))
    omega
  rcases List.mem_cons.mp h1 with z | z
  · omega
  · obtain ⟨n, hn, rfl⟩ := List.mem_map.mp z
    have := past_lt n hn
    omega
theorem scSpan : FnScope ["_law_rule_here", "_law_begin", "_law_size", "_law_mate", "_law_pace"] ["_law_rule_here"] (defScope s_law_span) := ⟨rfl, rfl, rfl, by decide +kernel, rfl, by decide +kernel, by decide +kernel⟩
theorem ok_span (F : Fun K "_law_span" "_law_span" s_law_span f fd) (Z : Bp mg) (bF : Binds K fd ["_law_rule_here"] []) (mF : mg "_law_span" = some (.ref f))
    (G1 : FnOk P w K mg base CX0 1 f1 fd1 ["_law_size", "_law_pace"] spLeastC) (b1 : Binds K fd1 ["_law_size", "_law_pace"] []) (k1 : PySem.W.keepIn K (.ref f1) = true) (m1 : mg "_law_least_common" = some (.ref f1)) :
    ∀ k, FnOk P w K mg base CX0 (1 + k) f fd ["_law_rule_here"] (spSpan k) := by
  intro k
  induction k with
  | zero =>
    have no : ∀ vs H Q E, spSpan 0 vs H Q E → False := fun vs H Q E ⟨a, r, L, _, _, _, _, _, h, _⟩ => by omega
    exact ⟨fun vs H Q E h => (no vs H Q E h).elim, fun A outer s H args us vs Q E _ _ _ _ h => (no vs H Q E h).elim⟩
  | succ k ih =>
  refine F.ok scSpan (fun vs H Q E h => ?_) (fun cdv A outer s H vs Q E hr h => ?_)
  · obtain ⟨a, r, L, rfl, _⟩ := h
    rfl
  obtain ⟨a, r, L, rfl, hr1, ok, l0, l1, dk, q⟩ := h
  have r1 := hr.mono (show 1 ≤ 1 + k by omega)
  refine ⟨_, pss_cons (ps_if (pt_cmpR op_eq (pe_ix ix_tup (pv 0) pe_int (fun _ _ => rfl)) pe_str (nomark _)) (pss_one (ps_ret (pe_tup (pa_cons (pe_op op_add (pe_callB (cr_max rfl) (by rfl) Z.max PyProof.Rows.boot_max (pa_cons (pe_op op_cat (pe_lst (pa_cons (pe_un un_neg pe_int) pa_nil)) (pe_ix ix_tup (pv 0) pe_int (fun _ _ => rfl))) pa_nil)) pe_int) (pa_cons pe_int pa_nil))))) pss_nil)
    (pss_cons (ps_if (pt_cmpR op_eq (pe_ix ix_tup (pv 0) pe_int (fun _ _ => rfl)) pe_str (nomark _)) (pss_one (ps_ret (pe_tup (pa_cons (pe_ix ix_tup (pv 0) pe_int (fun _ _ => rfl)) (pa_cons (pe_ix ix_tup (pv 0) pe_int (fun _ _ => rfl)) pa_nil))))) pss_nil)
    (pss_cons (ps_asg (pe_call ih hr rfl mF F.kp bF .nil pass0 (pa_cons (pe_ix ix_tup (pv 0) pe_int (fun _ _ => rfl)) pa_nil)) (pg_tup (by rfl) (pgs_cons (pg_name (i := 1) scSpan.nd rfl (Or.inl rfl)) (pgs_cons (pg_name (i := 2) scSpan.nd rfl (Or.inl rfl)) pgs_nil))))
    (pss_cons (ps_if (pt_cmpR op_eq (pe_ix ix_tup (pv 0) pe_int (fun _ _ => rfl)) pe_str (nomark _)) (pss_one (ps_ret (pe_tup (pa_cons (pv 1) (pa_cons (pv 2) pa_nil))))) pss_nil)
    (pss_cons (ps_asg (pe_call ih hr rfl mF F.kp bF .nil pass0 (pa_cons (pe_ix ix_tup (pv 0) pe_int (fun _ _ => rfl)) pa_nil)) (pg_tup (by rfl) (pgs_cons (pg_name (i := 3) scSpan.nd rfl (Or.inl rfl)) (pgs_cons (pg_name (i := 4) scSpan.nd rfl (Or.inl rfl)) pgs_nil))))
    (pss_one (ps_ret (pe_tup (pa_cons (pe_callB (call_max2 rfl) (by rfl) Z.max PyProof.Rows.boot_max (pa_cons (pv 1) (pa_cons (pv 3) pa_nil))) (pa_cons (pe_call G1 r1 rfl m1 k1 b1 .nil pass0 (pa_cons (pv 2) (pa_cons (pv 4) pa_nil))) pa_nil)))))))))
    , ?_⟩
  cases r with
  | nums ms =>
    obtain ⟨l, ha, hl⟩ := hr1
    have ok4 := ok.1
    have hT : SqT K H a [.str "numbers", .ref l] := SqT.of ha
    refine ⟨_, rfl, a, _, 0, _, rfl, rfl, hT, atI_nat (j := 0) rfl, rfl, _, rfl, ?_⟩
    rw [decide_eq_true rfl]
    refine iteT ⟨_, rfl, (by show 1 ≤ sizeLine; decide), fun p2 n2 => ?_⟩
    have hT2 : SqT K (upd H p2 (.lst [V.int (-1)])) a [.str "numbers", .ref l] := SqT.of (upd_other ha n2)
    refine ⟨_, rfl, a, _, 1, _, rfl, rfl, hT2, atI_nat (j := 1) rfl, p2, l, _, _, rfl, rfl, upd_same, upd_other hl n2, ?_, fun p3 n3 => ?_⟩
    · rw [nats_len, sizeLine_eq]
      show 1 + ms.length ≤ _
      omega
    refine ⟨p3, (-1) :: ms.map fun n : Nat => (n : Int), rfl, SqL.of (by rw [upd_same, nats_ints]; rfl), by simp, fun m hm1 hm2 => ?_⟩
    refine ⟨_, _, rfl, rfl, (by show 2 ≤ sizeLine; decide), fun p4 n4 => ?_⟩
    have eM := past_max ms hm1 hm2
    dsimp only at n4 ⊢
    rw [eM]
    exact q p4 _ (((same_new n2 _).trans (same_new n3 _)).trans (same_new n4 _)) upd_same
  | steps b p =>
    have ha : H a = some (.tup [.str "steps", .int (b : Int), .int (p : Int)]) := hr1
    have hT : SqT K H a [.str "steps", .int (b : Int), .int (p : Int)] := SqT.of ha
    refine ⟨_, rfl, a, _, 0, _, rfl, rfl, hT, atI_nat (j := 0) rfl, rfl, _, rfl, ?_⟩
    rw [tag_ne (by decide +kernel)]
    refine iteF ⟨_, rfl, a, _, 0, _, rfl, rfl, hT, atI_nat (j := 0) rfl, rfl, _, rfl, ?_⟩
    rw [decide_eq_true rfl]
    refine iteT ⟨_, rfl, a, _, 1, _, rfl, rfl, hT, atI_nat (j := 1) rfl, _, rfl, a, _, 2, _, rfl, rfl, hT, atI_nat (j := 2) rfl, (by show 2 ≤ sizeLine; decide), fun p4 n4 => ?_⟩
    exact q p4 _ (same_new n4 _) upd_same
  | neg r =>
    obtain ⟨x, ha, hx⟩ := hr1
    have hT : SqT K H a [.str "not", .ref x] := SqT.of ha
    have dk2 : r.deep + 1 < k + 1 := dk
    refine ⟨_, rfl, a, _, 0, _, rfl, rfl, hT, atI_nat (j := 0) rfl, rfl, _, rfl, ?_⟩
    rw [tag_ne (by decide +kernel)]
    refine iteF ⟨_, rfl, a, _, 0, _, rfl, rfl, hT, atI_nat (j := 0) rfl, rfl, _, rfl, ?_⟩
    rw [tag_ne (by decide +kernel)]
    refine iteF ?_
    refine ⟨_, rfl, a, _, 1, _, rfl, rfl, hT, atI_nat (j := 1) rfl, x, r, L, rfl, hx, ok, l0, l1, by omega, fun p H1 s1 hp => ?_⟩
    refine ⟨p, _, rfl, SqT.of hp, rfl, _, _, rfl, _, _, rfl, rfl, ?_⟩
    have hT1 : SqT K H1 a [.str "not", .ref x] := SqT.of (s1 _ _ ha)
    refine ⟨_, rfl, a, _, 0, _, rfl, rfl, hT1, atI_nat (j := 0) rfl, rfl, _, rfl, ?_⟩
    rw [decide_eq_true rfl]
    refine iteT ⟨_, rfl, _, rfl, (by show 2 ≤ sizeLine; decide), fun p4 n4 => ?_⟩
    exact q p4 _ (s1.trans (same_new n4 _)) upd_same
  | bin o r s2 =>
    obtain ⟨x, y, ha, hx, hy⟩ := hr1
    have hT : SqT K H a [.str o.str, .ref x, .ref y] := SqT.of ha
    obtain ⟨w1, w2, w3⟩ := way_ne o
    have dk2 : max r.deep s2.deep + 1 < k + 1 := dk
    refine ⟨_, rfl, a, _, 0, _, rfl, rfl, hT, atI_nat (j := 0) rfl, rfl, _, rfl, ?_⟩
    rw [tag_ne w1]
    refine iteF ⟨_, rfl, a, _, 0, _, rfl, rfl, hT, atI_nat (j := 0) rfl, rfl, _, rfl, ?_⟩
    rw [tag_ne w2]
    refine iteF ?_
    refine ⟨_, rfl, a, _, 1, _, rfl, rfl, hT, atI_nat (j := 1) rfl, x, r, L, rfl, hx, ok.1, l0, l1, by omega, fun p H1 s1 hp => ?_⟩
    refine ⟨p, _, rfl, SqT.of hp, rfl, _, _, rfl, _, _, rfl, rfl, ?_⟩
    have hT1 : SqT K H1 a [.str o.str, .ref x, .ref y] := SqT.of (s1 _ _ ha)
    refine ⟨_, rfl, a, _, 0, _, rfl, rfl, hT1, atI_nat (j := 0) rfl, rfl, _, rfl, ?_⟩
    rw [tag_ne w3]
    refine iteF ?_
    refine ⟨_, rfl, a, _, 2, _, rfl, rfl, hT1, atI_nat (j := 2) rfl, y, s2, L, rfl, RulAt.same s1 s2 y hy, ok.2, l0, l1, by omega, fun p' H2 t2 hp' => ?_⟩
    refine ⟨p', _, rfl, SqT.of hp', rfl, _, _, rfl, _, _, rfl, rfl, ?_⟩
    have e1 := Nat.le_of_dvd l0 (Rul.size_dvd ok.1)
    have e2 := Nat.le_of_dvd l0 (Rul.size_dvd ok.2)
    have p1 := Rul.size_pos ok.1
    have p2 := Rul.size_pos ok.2
    refine ⟨_, rfl, _, rfl, _, _, rfl, ?_⟩
    rw [Mk.max_int]
    refine ⟨_, rfl, _, rfl, r.size, s2.size, rfl, p1, p2, by omega, by omega, fun H3 t3 => ⟨(by show 2 ≤ sizeLine; decide), fun p4 n4 => ?_⟩⟩
    exact q p4 _ (((s1.trans t2).trans t3).trans (same_new n4 _)) upd_same
end
end Wp

namespace Hx
open PySem PySem.Spec PyProof.Rows L2
/-- the class at C has ~ by a def of its own -/
structure InvOwn0 (P : Program) (w : World) (K : PySem.W.Frag) (mg : Str → Option Value) (base : Heap) (k : Nat) (C : Addr) (sp : Sp) : Prop where
  go : ∃ (g : Addr) (fd : FuncData), PySem.W.findIn K (.ref C) "__invert__" = some (some (.ref g)) ∧ PySem.W.isFn K (.ref g) = true ∧ FnOk P w K mg base CX0 k g fd ["self"] sp ∧ Binds K fd ["self"] []
def rInv0 (P : Program) (w : World) (K : PySem.W.Frag) (mg : Str → Option Value) (base : Heap) (k : Nat) : V → Hp → VK → Prop := fun x H Q => ∃ (a C dx : Addr) (fs : List (Str × V)) (sp : Sp), x = .ref a ∧ H a = some (.ins C dx fs) ∧
  InvOwn0 P w K mg base k C sp ∧ sp [x] H Q E0
section
variable {X : Cx} {k : Nat}
theorem un_inv0 (hr : Room k X.A) : UnR X (unaryOp .Invert) (rInv0 X.prog X.w X.K X.mg X.base k) := by
  intro pins s σ H x v Q I rx h
  obtain ⟨a, C, dx, fs, sp, rfl, ha, T, q⟩ := h
  cases (show v = Value.ref a from rx)
  obtain ⟨g, fd, h1, h2, F, bb⟩ := T.go
  obtain ⟨mA, O, _⟩ := ins_get I.hok ha
  obtain ⟨od, J, _⟩ := O.look
  obtain ⟨m, hF⟩ := I.fr
  exact PySem.W.ksp_inv hF I.ok.mod.kin J h1 h2 (run_below F hr I.env0 bb I (.cons rx .nil) q)
end
end Hx
namespace Wp
open PySem PySem.Spec PyProof.Rows L2 Hx
/-- the set of a rule -/
structure SetOf (r : Rul) (s : Mk.Kept) : Prop where
  good : s.Good
  mem : ∀ n, s.mem n = r.mem n
theorem SetOf.from {r : Rul} {s : Mk.Kept} {L : Nat} (h : SetOf r s) (ok : r.Ok L) : s.From r.begin r.size := fun n hn => by
  rw [h.mem, h.mem]
  exact Rul.per ok n hn
theorem SetOf.len {r : Rul} {s : Mk.Kept} {L : Nat} (h : SetOf r s) (ok : r.Ok L) : Mk.len s.st ≤ 1001 := Nat.le_trans (h.good.len_le (Rul.size_pos ok) (h.from ok)) (Rul.begin_le ok)
theorem SetOf.dvd {r : Rul} {s : Mk.Kept} {L : Nat} (h : SetOf r s) (ok : r.Ok L) : s.w ∣ L := Nat.dvd_trans (h.good.dvd (Rul.size_pos ok) (h.from ok)) (Rul.size_dvd ok)
def spSetR (C : Addr) (k : Nat) : Sp := fun vs H Q _ => ∃ (a : Addr) (r : Rul) (L : Nat), vs = [.ref a] ∧ RulAt H r a ∧ r.Ok L ∧ 0 < L ∧ L ≤ 2000 ∧ r.deep < k ∧ ∀ c s H', Same H H' → PlAt C H' c s → SetOf r s → Q (.ref c) H'
/-- the operators of the class -/
structure Ops (P : Program) (w : World) (K : PySem.W.Frag) (mg : Str → Option Value) (base : Heap) (C : Addr) : Prop where
  or : BinOwn0 P w K mg base 6 C .BitOr (spBinP C fun x y => x || y)
  and : BinOwn0 P w K mg base 6 C .BitAnd (spBinP C fun x y => x && y)
  sub : BinOwn0 P w K mg base 6 C .Sub (spBinP C fun x y => x && !y)
  xor : BinOwn0 P w K mg base 6 C .BitXor (spBinP C fun x y => Bool.xor x y)
  inv : InvOwn0 P w K mg base 6 C (spUnP C)
section
variable {P : Program} {w : World} {K : PySem.W.Frag} {mg : Str → Option Value} {base : Heap} {f f1 f2 f3 C : Addr} {fd fd1 fd2 fd3 : FuncData}
theorem scSetR : FnScope ["_law_rule_here", "_law_way", "_law_mine", "_law_mate"] ["_law_rule_here"] (defScope s_law_set) := ⟨rfl, rfl, rfl, by decide +kernel, rfl, by decide +kernel, by decide +kernel⟩
theorem ok_setR (F : Fun K "_law_set" "_law_set" s_law_set f fd) (Z : Bp mg) (bF : Binds K fd ["_law_rule_here"] []) (mF : mg "_law_set" = some (.ref f)) (O : Ops P w K mg base C)
    (GN : FnOk P w K mg base CX0 8 f1 fd1 ["_law_members"] (spNumsL C)) (bN : Binds K fd1 ["_law_members"] []) (kN : PySem.W.keepIn K (.ref f1) = true) (mN : mg "_law_numbers" = some (.ref f1))
    (GT : FnOk P w K mg base CX0 7 f2 fd2 ["first", "step"] (spSteps C)) (bT : Binds K fd2 ["first", "step"] []) (kT : PySem.W.keepIn K (.ref f2) = true) (mT : mg "steps" = some (.ref f2)) :
    ∀ k, FnOk P w K mg base CX0 (8 + k) f fd ["_law_rule_here"] (spSetR C k) := by
  intro k
  induction k with
  | zero =>
    have no : ∀ vs H Q E, spSetR C 0 vs H Q E → False := fun vs H Q E ⟨a, r, L, _, _, _, _, _, h, _⟩ => by omega
    exact ⟨fun vs H Q E h => (no vs H Q E h).elim, fun A outer s H args us vs Q E _ _ _ _ h => (no vs H Q E h).elim⟩
  | succ k ih =>
  refine F.ok scSetR (fun vs H Q E h => ?_) (fun cdv A outer s H vs Q E hr h => ?_)
  · obtain ⟨a, r, L, rfl, _⟩ := h
    rfl
  obtain ⟨a, r, L, rfl, hr1, ok, l0, l1, dk, q⟩ := h
  have r6 := hr.mono (show 6 ≤ 8 + k by omega)
  have r7 := hr.mono (show 7 ≤ 8 + k by omega)
  have r8 := hr.mono (show 8 ≤ 8 + k by omega)
  refine ⟨_, pss_cons (ps_set (i := 1) scSetR.nd rfl (Or.inl rfl) (pe_ix ix_tup (pv 0) pe_int (fun _ _ => rfl)))
    (pss_cons (ps_if (pt_cmpR op_eq (pv 1) pe_str (nomark _)) (pss_one (ps_ret (pe_call GN r8 rfl mN kN bN .nil pass0 (pa_cons (pe_ix ix_tup (pv 0) pe_int (fun _ _ => rfl)) pa_nil)))) pss_nil)
    (pss_cons (ps_if (pt_cmpR op_eq (pv 1) pe_str (nomark _)) (pss_one (ps_ret (pe_call GT r7 rfl mT kT bT .nil pass0 (pa_cons (pe_ix ix_tup (pv 0) pe_int (fun _ _ => rfl)) (pa_cons (pe_ix ix_tup (pv 0) pe_int (fun _ _ => rfl)) pa_nil))))) pss_nil)
    (pss_cons (ps_set (i := 2) scSetR.nd rfl (Or.inl rfl) (pe_call ih hr rfl mF F.kp bF .nil pass0 (pa_cons (pe_ix ix_tup (pv 0) pe_int (fun _ _ => rfl)) pa_nil)))
    (pss_cons (ps_if (pt_cmpR op_eq (pv 1) pe_str (nomark _)) (pss_one (ps_ret (pe_un (un_inv0 r6) (pv 2)))) pss_nil)
    (pss_cons (ps_set (i := 3) scSetR.nd rfl (Or.inl rfl) (pe_call ih hr rfl mF F.kp bF .nil pass0 (pa_cons (pe_ix ix_tup (pv 0) pe_int (fun _ _ => rfl)) pa_nil)))
    (pss_cons (ps_if (pt_cmpR op_in_seq (pv 1) (pe_lst (pa_cons pe_str (pa_cons pe_str pa_nil))) (by rfl)) (pss_one (ps_ret (pe_ifExp (pt_cmpR op_eq (pv 1) pe_str (nomark _)) (pe_op (op_bin0 r6) (pv 2) (pv 3)) (pe_op (op_bin0 r6) (pv 2) (pv 3))))) pss_nil)
    (pss_one (ps_ret (pe_ifExp (pt_cmpR op_eq (pv 1) pe_str (nomark _)) (pe_op (op_bin0 r6) (pv 2) (pv 3)) (pe_op (op_bin0 r6) (pv 2) (pv 3)))))))))))
    , ?_⟩
  cases r with
  | nums ms =>
    obtain ⟨l, ha, hl⟩ := hr1
    have hT : SqT K H a [.str "numbers", .ref l] := SqT.of ha
    refine ⟨_, rfl, a, _, 0, _, rfl, rfl, hT, atI_nat (j := 0) rfl, ?_⟩
    refine ⟨_, rfl, rfl, _, rfl, ?_⟩
    rw [decide_eq_true rfl]
    refine iteT ⟨_, rfl, a, _, 1, _, rfl, rfl, hT, atI_nat (j := 1) rfl, l, ms, rfl, hl, ok.1, ok.2, fun c s H1 s1 pl is => ?_⟩
    exact q c s H1 s1 pl ⟨Mk.nums_good is, fun n => nums_mem is n⟩
  | steps b p =>
    have ha : H a = some (.tup [.str "steps", .int (b : Int), .int (p : Int)]) := hr1
    obtain ⟨b1, p1, p2, pd⟩ := ok
    have hT : SqT K H a [.str "steps", .int (b : Int), .int (p : Int)] := SqT.of ha
    refine ⟨_, rfl, a, _, 0, _, rfl, rfl, hT, atI_nat (j := 0) rfl, ?_⟩
    refine ⟨_, rfl, rfl, _, rfl, ?_⟩
    rw [tag_ne (by decide +kernel)]
    refine iteF ⟨_, rfl, rfl, _, rfl, ?_⟩
    rw [decide_eq_true rfl]
    refine iteT ⟨_, rfl, a, _, 1, _, rfl, rfl, hT, atI_nat (j := 1) rfl, _, rfl, a, _, 2, _, rfl, rfl, hT, atI_nat (j := 2) rfl, b, p, rfl, b1, p1, p2, fun c s H1 s1 pl is => ?_⟩
    exact q c s H1 s1 pl ⟨Mk.steps_good p1 is, fun n => steps_mem is p1 n⟩
  | neg r =>
    obtain ⟨x, ha, hx⟩ := hr1
    have hT : SqT K H a [.str "not", .ref x] := SqT.of ha
    have dk2 : r.deep + 1 < k + 1 := dk
    refine ⟨_, rfl, a, _, 0, _, rfl, rfl, hT, atI_nat (j := 0) rfl, ?_⟩
    refine ⟨_, rfl, rfl, _, rfl, ?_⟩
    rw [tag_ne (by decide +kernel)]
    refine iteF ⟨_, rfl, rfl, _, rfl, ?_⟩
    rw [tag_ne (by decide +kernel)]
    refine iteF ?_
    refine ⟨_, rfl, a, _, 1, _, rfl, rfl, hT, atI_nat (j := 1) rfl, x, r, L, rfl, hx, ok, l0, l1, by omega, fun c s H1 s1 pl st => ?_⟩
    refine ⟨_, rfl, rfl, _, rfl, ?_⟩
    rw [decide_eq_true rfl]
    have pl' := pl
    obtain ⟨dx, hc⟩ := pl
    have wl := Nat.le_of_dvd l0 (st.dvd ok)
    have ll := st.len ok
    refine iteT ⟨_, rfl, c, C, dx, _, spUnP C, rfl, hc, O.inv, c, s, rfl, pl', st.good, by omega, by omega, fun c2 s2 H2 t2 pl2 op => ?_⟩
    exact q c2 s2 H2 (s1.trans t2) pl2 ⟨op.good, fun n => by rw [op.mem, st.mem]; rfl⟩
  | bin o r s2 =>
    obtain ⟨x, y, ha, hx, hy⟩ := hr1
    have hT : SqT K H a [.str o.str, .ref x, .ref y] := SqT.of ha
    obtain ⟨w1, w2, w3⟩ := way_ne o
    have dk2 : max r.deep s2.deep + 1 < k + 1 := dk
    refine ⟨_, rfl, a, _, 0, _, rfl, rfl, hT, atI_nat (j := 0) rfl, ?_⟩
    refine ⟨_, rfl, rfl, _, rfl, ?_⟩
    rw [tag_ne w1]
    refine iteF ⟨_, rfl, rfl, _, rfl, ?_⟩
    rw [tag_ne w2]
    refine iteF ?_
    refine ⟨_, rfl, a, _, 1, _, rfl, rfl, hT, atI_nat (j := 1) rfl, x, r, L, rfl, hx, ok.1, l0, l1, by omega, fun c1 k1 H1 s1 pl1 st1 => ?_⟩
    refine ⟨_, rfl, rfl, _, rfl, ?_⟩
    rw [tag_ne w3]
    refine iteF ?_
    have hT1 : SqT K H1 a [.str o.str, .ref x, .ref y] := SqT.of (s1 _ _ ha)
    refine ⟨_, rfl, a, _, 2, _, rfl, rfl, hT1, atI_nat (j := 2) rfl, y, s2, L, rfl, RulAt.same s1 s2 y hy, ok.2, l0, l1, by omega, fun c2 k2 H2 t2 pl2 st2 => ?_⟩
    refine ⟨_, rfl, (by show 2 ≤ sizeLine; decide), fun D hD => ⟨D, _, rfl, .inl (SqL.of upd_same), rfl, rfl, _, rfl, ?_⟩⟩
    have early : ∀ b : Bool, inV (.str o.str) [.str "or", .str "and"] = b → (if false = true then !inV (V.str o.str) [.str "or", .str "and"] else inV (V.str o.str) [.str "or", .str "and"]) = b := fun b e => e
    have t3 := same_new hD (.lst [V.str "or", V.str "and"])
    have pa := (pl1.same t2).same t3
    have pb := pl2.same t3
    generalize upd H2 D (.lst [V.str "or", V.str "and"]) = H3 at t3 pa pb ⊢
    have s03 := (s1.trans t2).trans t3
    have pa' := pa
    have pb' := pb
    obtain ⟨dx, hc1⟩ := pa
    obtain ⟨dy, hc2⟩ := pb
    have ll1 := st1.len ok.1
    have ll2 := st2.len ok.2
    have lw := Nat.le_of_dvd l0 (Nat.lcm_dvd (st1.dvd ok.1) (st2.dvd ok.2))
    have fin : ∀ c s4 H4, Same H3 H4 → PlAt C H4 c s4 → Mk.OpOf o.op k1 k2 s4 → Q (.ref c) H4 := fun c s4 H4 t4 pl4 op => q c s4 H4 (s03.trans t4) pl4 ⟨op.good, fun n => by rw [op.mem, st1.mem, st2.mem]; rfl⟩
    clear q pl1 pl2 s1 t2 t3 s03
    cases o with
    | or =>
      rw [early true (way_in .or)]
      refine iteT ⟨_, rfl, rfl, _, rfl, ?_⟩
      rw [show decide (V.str Way.or.str = V.str "or") = true from decide_eq_true rfl]
      exact iteT ⟨_, rfl, _, rfl, c1, c2, C, dx, dy, _, _, _, rfl, rfl, hc1, hc2, O.or, c1, c2, k1, k2, rfl, pa', pb', st1.good, st2.good, by omega, by omega, by omega, fun c s4 H4 t4 pl4 op => ⟨c, rfl, fin c s4 H4 t4 pl4 op⟩⟩
    | and =>
      rw [early true (way_in .and)]
      refine iteT ⟨_, rfl, rfl, _, rfl, ?_⟩
      rw [tag_ne (by decide +kernel)]
      exact iteF ⟨_, rfl, _, rfl, c1, c2, C, dx, dy, _, _, _, rfl, rfl, hc1, hc2, O.and, c1, c2, k1, k2, rfl, pa', pb', st1.good, st2.good, by omega, by omega, by omega, fun c s4 H4 t4 pl4 op => ⟨c, rfl, fin c s4 H4 t4 pl4 op⟩⟩
    | less =>
      rw [early false (way_in .less)]
      refine iteF ⟨_, rfl, rfl, _, rfl, ?_⟩
      rw [show decide (V.str Way.less.str = V.str "less") = true from decide_eq_true rfl]
      exact iteT ⟨_, rfl, _, rfl, c1, c2, C, dx, dy, _, _, _, rfl, rfl, hc1, hc2, O.sub, c1, c2, k1, k2, rfl, pa', pb', st1.good, st2.good, by omega, by omega, by omega, fun c s4 H4 t4 pl4 op => ⟨c, rfl, fin c s4 H4 t4 pl4 op⟩⟩
    | odd =>
      rw [early false (way_in .odd)]
      refine iteF ⟨_, rfl, rfl, _, rfl, ?_⟩
      rw [tag_ne (by decide +kernel)]
      exact iteF ⟨_, rfl, _, rfl, c1, c2, C, dx, dy, _, _, _, rfl, rfl, hc1, hc2, O.xor, c1, c2, k1, k2, rfl, pa', pb', st1.good, st2.good, by omega, by omega, by omega, fun c s4 H4 t4 pl4 op => ⟨c, rfl, fin c s4 H4 t4 pl4 op⟩⟩
end
end Wp

namespace Wp
open PySem PySem.Spec PyProof.Rows L2 Hx
structure MenuOk (menu : List Nat) (L : Nat) : Prop where
  l0 : 0 < L
  l1 : L ≤ 132
  n0 : 0 < menu.length
  n1 : menu.length ≤ 10
  ok : ∀ p ∈ menu, 1 ≤ p ∧ p ≤ 12 ∧ p ∣ L
structure FrameAt (H : Hp) (fr mn : Addr) (most : Nat) (menu : List Nat) (L : Nat) : Prop where
  fr : H fr = some (.lst [.int (most : Int), .ref mn])
  mn : H mn = some (.lst (nats menu))
  most1 : 12 ≤ most
  most2 : most ≤ 1001
  ok : MenuOk menu L
theorem FrameAt.but {d fr mn : Addr} {H H' : Hp} {most L : Nat} {menu : List Nat} (h : FrameAt H fr mn most menu L) (n1 : fr ≠ d) (n2 : mn ≠ d) (b : But d H H') : FrameAt H' fr mn most menu L := ⟨b _ _ n1 h.fr, b _ _ n2 h.mn, h.most1, h.most2, h.ok⟩
def spFrameD : Sp := fun vs H Q _ => ∃ d : Addr, vs = [.ref d] ∧ DeckAt H d ∧ ∀ fr mn most menu L H', But d H H' → DeckAt H' d → fr ≠ d → mn ≠ d → FrameAt H' fr mn most menu L → Q (.ref fr) H'
theorem name_go2 {i : Nat} {x : V} {k : L2.St → Hp → Prop} {σ : L2.St} {H : Hp} (h : k (σ.set i (some x)) H) : gName i x σ H k := h
section
variable {P : Program} {w : World} {K : PySem.W.Frag} {mg : Str → Option Value} {base : Heap} {f f1 f2 f3 C : Addr} {fd fd1 fd2 fd3 : FuncData}
theorem scFrameD : FnScope ["_law_deck_here", "_law_menus", "_law_most"] ["_law_deck_here"] (defScope s_law_frame) := ⟨rfl, rfl, rfl, by decide +kernel, rfl, by decide +kernel, by decide +kernel⟩
theorem ok_frameD (F : Fun K "_law_frame" "_law_frame" s_law_frame f fd)
    (GO : FnOk P w K mg base CX0 2 f1 fd1 ["_law_deck_here", "_law_menu"] (spOf K)) (bO : Binds K fd1 ["_law_deck_here", "_law_menu"] []) (kO : PySem.W.keepIn K (.ref f1) = true) (mO : mg "_law_of" = some (.ref f1)) :
    FnOk P w K mg base CX0 3 f fd ["_law_deck_here"] spFrameD := by
  refine F.ok scFrameD (fun vs H Q E h => ?_) (fun cdv A outer s H vs Q E hr h => ?_)
  · obtain ⟨d, rfl, _⟩ := h
    rfl
  obtain ⟨d, rfl, hd, q⟩ := h
  refine ⟨_, pss_cons (ps_set (i := 1) scFrameD.nd rfl (Or.inl rfl) (pe_lst (pa_cons (pe_lst (pa_cons pe_int (pa_cons pe_int (pa_cons pe_int (pa_cons pe_int (pa_cons pe_int (pa_cons pe_int pa_nil))))))) (pa_cons (pe_lst (pa_cons pe_int (pa_cons pe_int (pa_cons pe_int (pa_cons pe_int pa_nil))))) (pa_cons (pe_lst (pa_cons pe_int (pa_cons pe_int (pa_cons pe_int pa_nil)))) (pa_cons (pe_lst (pa_cons pe_int (pa_cons pe_int (pa_cons pe_int (pa_cons pe_int pa_nil))))) (pa_cons (pe_lst (pa_cons pe_int (pa_cons pe_int (pa_cons pe_int pa_nil)))) (pa_cons (pe_lst (pa_cons pe_int (pa_cons pe_int (pa_cons pe_int pa_nil)))) pa_nil))))))))
    (pss_cons (ps_set (i := 2) scFrameD.nd rfl (Or.inl rfl) (pe_call GO hr rfl mO kO bO .nil pass0 (pa_cons (pv 0) (pa_cons (pe_lst (pa_cons pe_int (pa_cons pe_int (pa_cons pe_int (pa_cons pe_int (pa_cons pe_int pa_nil)))))) pa_nil))))
    (pss_one (ps_ret (pe_lst (pa_cons (pv 2) (pa_cons (pe_call GO hr rfl mO kO bO .nil pass0 (pa_cons (pv 0) (pa_cons (pv 1) pa_nil))) pa_nil)))))), ?_⟩
  refine ⟨(by show 6 ≤ sizeLine; decide), fun p1 n1 => ?_⟩
  have d1 : d ≠ p1 := hd.ne n1
  have b1 := But.refl.new (d := d) n1 (.lst (nats [1, 2, 3, 4, 6, 12]))
  have hd1 : DeckAt _ d := hd.but d1 (.lst (nats [1, 2, 3, 4, 6, 12]))
  have e1_1 : upd H p1 (.lst (nats [1, 2, 3, 4, 6, 12])) p1 = some (.lst (nats [1, 2, 3, 4, 6, 12])) := upd_same
  have r1 : ∃ X, X = upd H p1 (.lst (nats [1, 2, 3, 4, 6, 12])) := ⟨_, rfl⟩
  obtain ⟨X1, r1⟩ := r1
  rw [← r1] at b1 hd1 e1_1
  rw [show upd H p1 (.lst [V.int 1, V.int 2, V.int 3, V.int 4, V.int 6, V.int 12]) = X1 from r1.symm]
  clear r1
  refine ⟨(by show 4 ≤ sizeLine; decide), fun p2 n2 => ?_⟩
  have d2 : d ≠ p2 := hd1.ne n2
  have b2 := b1.new (d := d) n2 (.lst (nats [5, 10, 2, 1]))
  have hd2 : DeckAt _ d := hd1.but d2 (.lst (nats [5, 10, 2, 1]))
  have e2_2 : upd X1 p2 (.lst (nats [5, 10, 2, 1])) p2 = some (.lst (nats [5, 10, 2, 1])) := upd_same
  have e1_2 := upd_other (o := .lst (nats [5, 10, 2, 1])) e1_1 n2
  have r2 : ∃ X, X = upd X1 p2 (.lst (nats [5, 10, 2, 1])) := ⟨_, rfl⟩
  obtain ⟨X2, r2⟩ := r2
  rw [← r2] at b2 hd2 e1_2 e2_2
  rw [show upd X1 p2 (.lst [V.int 5, V.int 10, V.int 2, V.int 1]) = X2 from r2.symm]
  clear r2
  refine ⟨(by show 3 ≤ sizeLine; decide), fun p3 n3 => ?_⟩
  have d3 : d ≠ p3 := hd2.ne n3
  have b3 := b2.new (d := d) n3 (.lst (nats [7, 2, 1]))
  have hd3 : DeckAt _ d := hd2.but d3 (.lst (nats [7, 2, 1]))
  have e3_3 : upd X2 p3 (.lst (nats [7, 2, 1])) p3 = some (.lst (nats [7, 2, 1])) := upd_same
  have e1_3 := upd_other (o := .lst (nats [7, 2, 1])) e1_2 n3
  have e2_3 := upd_other (o := .lst (nats [7, 2, 1])) e2_2 n3
  have r3 : ∃ X, X = upd X2 p3 (.lst (nats [7, 2, 1])) := ⟨_, rfl⟩
  obtain ⟨X3, r3⟩ := r3
  rw [← r3] at b3 hd3 e1_3 e2_3 e3_3
  rw [show upd X2 p3 (.lst [V.int 7, V.int 2, V.int 1]) = X3 from r3.symm]
  clear r3
  refine ⟨(by show 4 ≤ sizeLine; decide), fun p4 n4 => ?_⟩
  have d4 : d ≠ p4 := hd3.ne n4
  have b4 := b3.new (d := d) n4 (.lst (nats [8, 4, 12, 2]))
  have hd4 : DeckAt _ d := hd3.but d4 (.lst (nats [8, 4, 12, 2]))
  have e4_4 : upd X3 p4 (.lst (nats [8, 4, 12, 2])) p4 = some (.lst (nats [8, 4, 12, 2])) := upd_same
  have e1_4 := upd_other (o := .lst (nats [8, 4, 12, 2])) e1_3 n4
  have e2_4 := upd_other (o := .lst (nats [8, 4, 12, 2])) e2_3 n4
  have e3_4 := upd_other (o := .lst (nats [8, 4, 12, 2])) e3_3 n4
  have r4 : ∃ X, X = upd X3 p4 (.lst (nats [8, 4, 12, 2])) := ⟨_, rfl⟩
  obtain ⟨X4, r4⟩ := r4
  rw [← r4] at b4 hd4 e1_4 e2_4 e3_4 e4_4
  rw [show upd X3 p4 (.lst [V.int 8, V.int 4, V.int 12, V.int 2]) = X4 from r4.symm]
  clear r4
  refine ⟨(by show 3 ≤ sizeLine; decide), fun p5 n5 => ?_⟩
  have d5 : d ≠ p5 := hd4.ne n5
  have b5 := b4.new (d := d) n5 (.lst (nats [9, 3, 6]))
  have hd5 : DeckAt _ d := hd4.but d5 (.lst (nats [9, 3, 6]))
  have e5_5 : upd X4 p5 (.lst (nats [9, 3, 6])) p5 = some (.lst (nats [9, 3, 6])) := upd_same
  have e1_5 := upd_other (o := .lst (nats [9, 3, 6])) e1_4 n5
  have e2_5 := upd_other (o := .lst (nats [9, 3, 6])) e2_4 n5
  have e3_5 := upd_other (o := .lst (nats [9, 3, 6])) e3_4 n5
  have e4_5 := upd_other (o := .lst (nats [9, 3, 6])) e4_4 n5
  have r5 : ∃ X, X = upd X4 p5 (.lst (nats [9, 3, 6])) := ⟨_, rfl⟩
  obtain ⟨X5, r5⟩ := r5
  rw [← r5] at b5 hd5 e1_5 e2_5 e3_5 e4_5 e5_5
  rw [show upd X4 p5 (.lst [V.int 9, V.int 3, V.int 6]) = X5 from r5.symm]
  clear r5
  refine ⟨(by show 3 ≤ sizeLine; decide), fun p6 n6 => ?_⟩
  have d6 : d ≠ p6 := hd5.ne n6
  have b6 := b5.new (d := d) n6 (.lst (nats [11, 1, 12]))
  have hd6 : DeckAt _ d := hd5.but d6 (.lst (nats [11, 1, 12]))
  have e6_6 : upd X5 p6 (.lst (nats [11, 1, 12])) p6 = some (.lst (nats [11, 1, 12])) := upd_same
  have e1_6 := upd_other (o := .lst (nats [11, 1, 12])) e1_5 n6
  have e2_6 := upd_other (o := .lst (nats [11, 1, 12])) e2_5 n6
  have e3_6 := upd_other (o := .lst (nats [11, 1, 12])) e3_5 n6
  have e4_6 := upd_other (o := .lst (nats [11, 1, 12])) e4_5 n6
  have e5_6 := upd_other (o := .lst (nats [11, 1, 12])) e5_5 n6
  have r6 : ∃ X, X = upd X5 p6 (.lst (nats [11, 1, 12])) := ⟨_, rfl⟩
  obtain ⟨X6, r6⟩ := r6
  rw [← r6] at b6 hd6 e1_6 e2_6 e3_6 e4_6 e5_6 e6_6
  rw [show upd X5 p6 (.lst [V.int 11, V.int 1, V.int 12]) = X6 from r6.symm]
  clear r6
  refine ⟨(by show 6 ≤ sizeLine; decide), fun p7 n7 => ?_⟩
  have d7 := hd6.ne n7
  have b7 := b6.new n7 (.lst [V.ref p1, V.ref p2, V.ref p3, V.ref p4, V.ref p5, V.ref p6])
  have hd7 := hd6.but d7 (.lst [V.ref p1, V.ref p2, V.ref p3, V.ref p4, V.ref p5, V.ref p6])
  refine name_go2 ?_
  refine ⟨_, rfl, (by show 5 ≤ sizeLine; decide), fun p8 n8 => ?_⟩
  have d8 := hd7.ne n8
  have b8 := b7.new n8 (.lst [V.int 12, .int 30, .int 12, .int 60, .int 1001])
  refine ⟨d, p8, [.int 12, .int 30, .int 12, .int 60, .int 1001], rfl, d8, SqL.of upd_same, by decide, by decide, hd7.but d8 _, fun v H1 hv c1 hd9 => ?_⟩
  obtain ⟨most, rfl, mo0, mo1⟩ : ∃ most : Nat, v = .int (most : Int) ∧ 12 ≤ most ∧ most ≤ 1001 := by
    simp only [List.mem_cons, List.not_mem_nil, or_false] at hv
    rcases hv with rfl | rfl | rfl | rfl | rfl
    · exact ⟨12, rfl, by decide, by decide⟩
    · exact ⟨30, rfl, by decide, by decide⟩
    · exact ⟨12, rfl, by decide, by decide⟩
    · exact ⟨60, rfl, by decide, by decide⟩
    · exact ⟨1001, rfl, by decide, by decide⟩
  have h7 := c1 p7 _ (Ne.symm d7) (upd_other (o := .lst [V.int 12, .int 30, .int 12, .int 60, .int 1001]) (upd_same (H := X6) (a := p7) (o := .lst [V.ref p1, V.ref p2, V.ref p3, V.ref p4, V.ref p5, V.ref p6])) n8)
  refine ⟨_, rfl, _, rfl, _, rfl, d, p7, [V.ref p1, V.ref p2, V.ref p3, V.ref p4, V.ref p5, V.ref p6], rfl, d7, SqL.of h7, (by show 0 < 6; decide), (by show 6 ≤ 1000; decide), hd9, fun v H2 hv2 c2 hd10 => ⟨(by show 2 ≤ sizeLine; decide), fun p9 n9 => ?_⟩⟩
  have d9 := hd10.ne n9
  have fin : ∀ mn menu L, mn ≠ d → X6 mn = some (.lst (nats menu)) → MenuOk menu L → v = .ref mn → Q (.ref p9) (upd H2 p9 (.lst [.int (most : Int), v])) := by
    rintro mn menu L nd hm ok rfl
    have hm2 := c2 mn _ nd (c1 mn _ nd (upd_other (o := .lst [V.int 12, .int 30, .int 12, .int 60, .int 1001]) (upd_other (o := .lst [V.ref p1, V.ref p2, V.ref p3, V.ref p4, V.ref p5, V.ref p6]) hm n7) n8))
    exact q p9 mn most menu L _ (((b8.trans c1).trans c2).new n9 _) (hd10.but d9 _) (Ne.symm d9) nd ⟨upd_same, upd_other hm2 n9, mo0, mo1, ok⟩
  simp only [List.mem_cons, List.not_mem_nil, or_false] at hv2
  rcases hv2 with z | z | z | z | z | z
  · exact fin p1 [1, 2, 3, 4, 6, 12] 12 (Ne.symm d1) e1_6 ⟨by decide, by decide, by decide, by decide, by decide⟩ z
  · exact fin p2 [5, 10, 2, 1] 10 (Ne.symm d2) e2_6 ⟨by decide, by decide, by decide, by decide, by decide⟩ z
  · exact fin p3 [7, 2, 1] 14 (Ne.symm d3) e3_6 ⟨by decide, by decide, by decide, by decide, by decide⟩ z
  · exact fin p4 [8, 4, 12, 2] 24 (Ne.symm d4) e4_6 ⟨by decide, by decide, by decide, by decide, by decide⟩ z
  · exact fin p5 [9, 3, 6] 18 (Ne.symm d5) e5_6 ⟨by decide, by decide, by decide, by decide, by decide⟩ z
  · exact fin p6 [11, 1, 12] 132 (Ne.symm d6) e6_6 ⟨by decide, by decide, by decide, by decide, by decide⟩ z
end
end Wp

namespace Wp
open PySem PySem.Spec PyProof.Rows L2 Hx
theorem _root_.Hx.But.without {d : Addr} {H H' : Hp} (b : But d H H') : Same (without d H) (without d H') := fun a o h => by
  obtain ⟨n, e⟩ := without_some h
  exact without_at n (b a o n e)
def spRuleD (k : Nat) : Sp := fun vs H Q _ => ∃ (d fr mn : Addr) (deep most L : Nat) (menu : List Nat), vs = [.ref d, .ref fr, .int (deep : Int)] ∧ deep < k ∧ DeckAt H d ∧ fr ≠ d ∧ mn ≠ d ∧ FrameAt H fr mn most menu L ∧
  ∀ a r H', But d H H' → DeckAt H' d → RulAt (without d H') r a → r.Ok L → r.deep ≤ deep → Q (.ref a) H'
theorem seq_if_join {tt : TT} {t u w : TS} {D : Ends} {σ : L2.St} {H : Hp} (b : Bool) (h : ∀ R : Bool → Hp → Prop, R b H → tt σ H R) (hq : if b = true then t { D with nx := w D } σ H else u { D with nx := w D } σ H) : tSeq (tIfS tt t u) w D σ H := h _ hq
def NR : List Str := ["_law_deck_here", "_law_frame_here", "_law_deep", "_law_way", "_law_pace", "_law_mine", "_law_k"]
section
variable {P : Program} {w : World} {K : PySem.W.Frag} {mg : Str → Option Value} {base : Heap} {f f1 f2 f3 C : Addr} {fd fd1 fd2 fd3 : FuncData}
theorem scRuleD : FnScope NR ["_law_deck_here", "_law_frame_here", "_law_deep"] (defScope s_law_rule) := ⟨rfl, rfl, rfl, by decide +kernel, rfl, by decide +kernel, by decide +kernel⟩
theorem ok_ruleD (F : Fun K "_law_rule" "_law_rule" s_law_rule f fd) (Z : Bp mg) (bF : Binds K fd ["_law_deck_here", "_law_frame_here", "_law_deep"] []) (mF : mg "_law_rule" = some (.ref f))
    (GC : FnOk P w K mg base CX0 1 f1 fd1 ["_law_deck_here", "_law_top"] spCard) (bC : Binds K fd1 ["_law_deck_here", "_law_top"] []) (kC : PySem.W.keepIn K (.ref f1) = true) (mC : mg "_law_card" = some (.ref f1))
    (GO : FnOk P w K mg base CX0 2 f2 fd2 ["_law_deck_here", "_law_menu"] (spOf K)) (bO : Binds K fd2 ["_law_deck_here", "_law_menu"] []) (kO : PySem.W.keepIn K (.ref f2) = true) (mO : mg "_law_of" = some (.ref f2)) :
    ∀ k, FnOk P w K mg base CX0 (2 + k) f fd ["_law_deck_here", "_law_frame_here", "_law_deep"] (spRuleD k) := by
  intro k
  induction k with
  | zero =>
    have no : ∀ vs H Q E, spRuleD 0 vs H Q E → False := fun vs H Q E ⟨d, fr, mn, deep, most, L, menu, _, h, _⟩ => by omega
    exact ⟨fun vs H Q E h => (no vs H Q E h).elim, fun A outer s H args us vs Q E _ _ _ _ h => (no vs H Q E h).elim⟩
  | succ k ih =>
  refine F.ok scRuleD (fun vs H Q E h => ?_) (fun cdv A outer s H vs Q E hr h => ?_)
  · obtain ⟨d, fr, mn, deep, most, L, menu, rfl, _⟩ := h
    rfl
  obtain ⟨d, fr, mn, deep, most, L, menu, rfl, dk, hd, nf, nm, fa, q⟩ := h
  have r1 := hr.mono (show 1 ≤ 2 + k by omega)
  have r2 := hr.mono (show 2 ≤ 2 + k by omega)
  refine ⟨_, pss_cons (ps_set (i := 3) scRuleD.nd rfl (Or.inl rfl) (pe_call GC r1 rfl mC kC bC .nil pass0 (pa_cons (pv 0) (pa_cons pe_int pa_nil))))
    (pss_cons (ps_if (PW.pt (pw_or (pt_cmpR op_eq (pv 2) pe_int (nomark _)) (pw_or1 (pt_cmpR op_eq (pv 3) pe_int (nomark _)))))
      (pss_cons (ps_if (pt_cmpR op_eq (pe_call GC r1 rfl mC kC bC .nil pass0 (pa_cons (pv 0) (pa_cons pe_int pa_nil))) pe_int (nomark _))
        (pss_one (ps_ret (pe_tup (pa_cons pe_str (pa_cons (pe_lc (te := tCall spCard [] E0 (tCons (tVar 0) (tCons (tOp (rIxL K) (tVar 1) (tC (.int 0))) tNil))) (own := [("_law_k", 6)]) (g := gName 6) (tt := tYes) rfl scRuleD.nd
            (pi_range1 rfl Z.range (pa_cons (pe_call GC r1 rfl mC kC bC .nil pass0 (pa_cons (pv 0) (pa_cons pe_int pa_nil))) pa_nil))
            (blkOk_by (N := NR) (sc := defScope s_law_rule) (by decide +kernel)) (fun _ _ _ _ _ => pg_name (i := 6) scRuleD.nd rfl (Or.inl rfl)) (fun _ _ _ _ _ => pts_nil)
            (fun _ _ _ _ _ => pe_call GC r1 rfl mC kC bC .nil pass0 (pa_cons (pv 0) (pa_cons (pe_ix ix_list (pv 1) pe_int (fun _ _ => rfl)) pa_nil)))) pa_nil))))) pss_nil)
      (pss_cons (ps_set (i := 4) scRuleD.nd rfl (Or.inl rfl) (pe_call GO r2 rfl mO kO bO .nil pass0 (pa_cons (pv 0) (pa_cons (pe_ix ix_list (pv 1) pe_int (fun _ _ => rfl)) pa_nil))))
      (pss_one (ps_ret (pe_tup (pa_cons pe_str (pa_cons (pe_call GC r1 rfl mC kC bC .nil pass0 (pa_cons (pv 0) (pa_cons (pe_ix ix_list (pv 1) pe_int (fun _ _ => rfl)) pa_nil))) (pa_cons (pv 4) pa_nil)))))))) pss_nil)
    (pss_cons (ps_set (i := 5) scRuleD.nd rfl (Or.inl rfl) (pe_call ih hr rfl mF F.kp bF .nil pass0 (pa_cons (pv 0) (pa_cons (pv 1) (pa_cons (pe_op op_sub (pv 2) pe_int) pa_nil)))))
    (pss_cons (ps_if (pt_cmpR op_eq (pv 3) pe_int (nomark _)) (pss_one (ps_ret (pe_tup (pa_cons pe_str (pa_cons (pv 5) pa_nil))))) pss_nil)
    (pss_one (ps_ret (pe_tup (pa_cons (pe_ix ix_list (pe_lst (pa_cons pe_str (pa_cons pe_str (pa_cons pe_str (pa_cons pe_str pa_nil))))) (pe_op op_sub (pv 3) pe_int) (fun _ _ => rfl)) (pa_cons (pv 5)
      (pa_cons (pe_call ih hr rfl mF F.kp bF .nil pass0 (pa_cons (pv 0) (pa_cons (pv 1) (pa_cons (pe_op op_sub (pv 2) pe_int) pa_nil)))) pa_nil))))))))), ?_⟩
  have m1 := fa.most1
  have m2 := fa.most2
  refine ⟨_, rfl, d, 6, rfl, by decide, by decide, hd, fun way H1 y0 y1 c1 hd1 => ?_⟩
  have fa1 := fa.but nf nm c1
  -- a leaf
  have leafQ : ∀ a r H', But d H1 H' → DeckAt H' d → RulAt (without d H') r a → r.Ok L → r.deep = 0 → Q (.ref a) H' := fun a r H' b x y z u => q a r H' (c1.trans b) x y z (by omega)
  refine name_seq ?_
  refine seq_if_join (decide (deep = 0 ∨ way = 0)) (fun R hR => ?_) ?_
  · refine ⟨_, rfl, rfl, _, rfl, ite2 (fun c => ?_) (fun c => ?_)⟩
    · have c' : deep = 0 := by
        have := V.int.inj (of_decide_eq_true c)
        omega
      rw [decide_eq_true (.inl c')] at hR
      exact hR
    · have c' : deep ≠ 0 := fun z => c (by rw [z]; rfl)
      refine ⟨_, rfl, rfl, _, rfl, ?_⟩
      have e : decide (V.int way = V.int 0) = decide (deep = 0 ∨ way = 0) := decide_eq_decide.mpr ⟨fun z => .inr (V.int.inj z), fun z => congrArg V.int (z.resolve_left c')⟩
      rw [e]
      exact hR
  refine ite2 (fun c => ?_) (fun c => ?_)
  · refine ⟨_, rfl, d, 3, rfl, by decide, by decide, hd1, fun u H2 u0 u1 c2 hd2 => ⟨rfl, _, rfl, ite2 (fun e => ?_) (fun e => ?_)⟩⟩
    · refine ⟨_, rfl, d, 5, rfl, by decide, by decide, hd2, fun n H3 z0 z1 c3 hd3 => ⟨n, rfl, by omega, by omega, fun D hD => ?_⟩⟩
      have ndD := hd3.ne hD
      have fa3 := fa1.but nf nm (c2.trans c3)
      refine lc_range (lo := 0) (n := n.toNat) (fun i H' => But d H3 H' ∧ DeckAt H' d ∧ ∃ ms : List Nat, ms.length = i ∧ (∀ m ∈ ms, m < most) ∧ H' D = some (.lst (nats ms)))
        ⟨But.refl.new hD _, hd3.but ndD _, [], rfl, (by intro m hm; cases hm), upd_same⟩ ?_ ?_
      · rintro i H' hi ⟨b, hd', ms, rfl, hm, h1⟩
        have fa' := fa3.but nf nm b
        refine ⟨rfl, turn_yes ⟨_, rfl, _, rfl, fr, _, 0, _, rfl, rfl, SqL.of fa'.fr, atI_nat (j := 0) rfl, d, (most : Int), rfl, by omega, by omega, hd', fun v H4 v0 v1 b4 hd4 => ?_⟩⟩
        have h2 := b4 D _ (Ne.symm ndD) h1
        refine ⟨_, h2, ?_, ?_, hd4.but ndD _, ms ++ [v.toNat], by rw [List.length_append]; rfl, fun m hm' => ?_, ?_⟩
        · rw [nats_len, sizeLine_eq]
          omega
        · intro x o nx hx
          rw [upd_ne (ne_of_none hx hD)]
          exact b4 x o nx (b x o nx hx)
        · rcases List.mem_append.mp hm' with z | z
          · exact hm m z
          · rw [List.mem_singleton.mp z]
            omega
        · rw [upd_same]
          unfold nats
          rw [List.map_append, List.map_cons, List.map_nil]
          show _ = some (HO.lst (_ ++ [V.int ((v.toNat : Nat) : Int)]))
          rw [Int.toNat_of_nonneg v0]
      · rintro H4 ⟨b4, hd4, ms, hl, hm, h4⟩
        refine ⟨(by show 2 ≤ sizeLine; decide), fun T hT => ?_⟩
        have ndT := hd4.ne hT
        refine leafQ T (.nums ms) _ (((c2.trans c3).trans b4).new hT _) (hd4.but ndT _) ⟨D, without_at (Ne.symm ndT) upd_same, without_at (Ne.symm ndD) (upd_other h4 hT)⟩ ⟨by omega, fun m h => by have := hm m h; omega⟩ rfl
    · have fa2 := fa1.but nf nm c2
      refine ⟨_, rfl, _, rfl, fr, _, 1, _, rfl, rfl, SqL.of fa2.fr, atI_nat (j := 1) rfl, d, mn, nats menu, rfl, Ne.symm nm, SqL.of fa2.mn, ?_, ?_, hd2, fun v H3 hv c3 hd3 => ?_⟩
      · rw [nats_len]
        exact fa.ok.n0
      · rw [nats_len]
        have := fa.ok.n1
        omega
      obtain ⟨p, hp, rfl⟩ := List.mem_map.mp hv
      obtain ⟨p1, p2, p3⟩ := fa.ok.ok p hp
      have fa3 := fa2.but nf nm c3
      refine name_go2 ?_
      refine ⟨_, rfl, _, rfl, fr, _, 0, _, rfl, rfl, SqL.of fa3.fr, atI_nat (j := 0) rfl, d, (most : Int), rfl, by omega, by omega, hd3, fun b H4 b0 b1 c4 hd4 => ?_⟩
      refine ⟨_, rfl, (by show 3 ≤ sizeLine; decide), fun T hT => ?_⟩
      have ndT := hd4.ne hT
      refine leafQ T (.steps b.toNat p) _ (((c2.trans c3).trans c4).new hT _) (hd4.but ndT _) ?_ ⟨by omega, p1, p2, p3⟩ rfl
      refine without_at (Ne.symm ndT) ?_
      rw [upd_same, Int.toNat_of_nonneg b0]
  · have c' : ¬ (deep = 0 ∨ way = 0) := fun z => c (decide_eq_true z)
    have dp : 1 ≤ deep := by omega
    have w1 : way ≠ 0 := fun z => c' (.inr z)
    have ed : (deep : Int) - 1 = ((deep - 1 : Nat) : Int) := by omega
    refine ⟨_, rfl, _, rfl, _, rfl, _, _, rfl, rfl, d, fr, mn, deep - 1, most, L, menu, ?_, by omega, hd1, nf, nm, fa1, fun a r H2 c2 hd2 ra ok dr => ?_⟩
    · show [V.ref d, V.ref fr, V.int ((deep : Int) - 1)] = _
      rw [ed]
    refine name_go2 ?_
    have fa2 := fa1.but nf nm c2
    refine ⟨_, rfl, rfl, _, rfl, ite2 (fun e => ?_) (fun e => ?_)⟩
    · refine ⟨_, rfl, (by show 2 ≤ sizeLine; decide), fun T hT => ?_⟩
      have ndT := hd2.ne hT
      have b3 : But d H2 (upd H2 T (.tup [V.str "not", .ref a])) := But.refl.new hT _
      exact q T (.neg r) _ ((c1.trans c2).trans b3) (hd2.but ndT _) ⟨a, without_at (Ne.symm ndT) upd_same, RulAt.same b3.without r a ra⟩ ok (by show r.deep + 1 ≤ deep; omega)
    · have w2 : way ≠ 1 := fun z => e (by rw [z]; rfl)
      refine ⟨(by show 4 ≤ sizeLine; decide), fun p4 n4 => ?_⟩
      have nd4 := hd2.ne n4
      have b3 : But d H2 (upd H2 p4 (.lst [V.str "or", .str "and", .str "less", .str "odd"])) := But.refl.new n4 _
      obtain ⟨v, hv, ev⟩ := atI_in (xs := [V.str "or", .str "and", .str "less", .str "odd"]) (r := way - 2) (by omega) (by show way - 2 < 4; omega)
      refine ⟨_, rfl, _, _, rfl, rfl, p4, _, _, v, rfl, rfl, SqL.of upd_same, ev, ?_⟩
      obtain ⟨o, rfl⟩ : ∃ o : Way, v = .str o.str := by
        simp only [List.mem_cons, List.not_mem_nil, or_false] at hv
        rcases hv with rfl | rfl | rfl | rfl
        · exact ⟨.or, rfl⟩
        · exact ⟨.and, rfl⟩
        · exact ⟨.less, rfl⟩
        · exact ⟨.odd, rfl⟩
      refine ⟨_, rfl, _, rfl, _, rfl, _, rfl, _, _, rfl, rfl, d, fr, mn, deep - 1, most, L, menu, ?_, by omega, hd2.but nd4 _, nf, nm, fa2.but nf nm b3, fun a2 r2' H3 c3 hd3 ra2 ok2 dr2 => ?_⟩
      · show [V.ref d, V.ref fr, V.int ((deep : Int) - 1)] = _
        rw [ed]
      refine ⟨(by show 3 ≤ sizeLine; decide), fun T hT => ?_⟩
      have ndT := hd3.ne hT
      have b5 : But d H3 (upd H3 T (.tup [V.str o.str, .ref a, .ref a2])) := But.refl.new hT _
      exact q T (.bin o r r2') _ ((((c1.trans c2).trans b3).trans c3).trans b5) (hd3.but ndT _) ⟨a, a2, without_at (Ne.symm ndT) upd_same, RulAt.same ((b3.trans c3).trans b5).without r a ra, RulAt.same b5.without r2' a2 ra2⟩ ⟨ok, ok2⟩ (by show max r.deep r2'.deep + 1 ≤ deep; omega)
end
end Wp

namespace Wp
open PySem PySem.Spec PyProof.Rows L2 Hx
def ruleM (r : Rul) : List Bool := (List.range (r.begin + r.size)).map r.mem
theorem ruleM_of {r : Rul} {s : Mk.Kept} (h : SetOf r s) : ruleM r = marksOf s r.begin r.size := by
  unfold ruleM marksOf
  have : s.mem = r.mem := funext h.mem
  rw [this]
def spMarksR (k : Nat) : Sp := fun vs H Q _ => ∃ (a : Addr) (r : Rul) (L : Nat), vs = [.ref a] ∧ RulAt H r a ∧ r.Ok L ∧ 0 < L ∧ L ≤ 2000 ∧ r.deep < k ∧ ∀ p m H', Same H H' → H' p = some (.tup [.ref m, .int (r.begin : Int)]) → H' m = some (.lst (bls (ruleM r))) → Q (.ref p) H'
section
variable {P : Program} {w : World} {K : PySem.W.Frag} {mg : Str → Option Value} {base : Heap} {f f1 f2 f3 C : Addr} {fd fd1 fd2 fd3 : FuncData}
def NMk : List Str := ["_law_rule_here", "_law_begin", "_law_size", "_law_spot"]
theorem scMarksR : FnScope NMk ["_law_rule_here"] (defScope s_law_marks) := ⟨rfl, rfl, rfl, by decide +kernel, rfl, by decide +kernel, by decide +kernel⟩
theorem ok_marksR {k : Nat} (F : Fun K "_law_marks" "_law_marks" s_law_marks f fd) (Z : Bp mg)
    (G1 : FnOk P w K mg base CX0 (1 + k) f1 fd1 ["_law_rule_here"] (spSpan k)) (b1 : Binds K fd1 ["_law_rule_here"] []) (k1 : PySem.W.keepIn K (.ref f1) = true) (m1 : mg "_law_span" = some (.ref f1))
    (G2 : FnOk P w K mg base CX0 (1 + k) f2 fd2 ["_law_rule_here", "_law_spot"] (spHasR k)) (b2 : Binds K fd2 ["_law_rule_here", "_law_spot"] []) (k2 : PySem.W.keepIn K (.ref f2) = true) (m2 : mg "_law_has" = some (.ref f2)) :
    FnOk P w K mg base CX0 (2 + k) f fd ["_law_rule_here"] (spMarksR k) := by
  have e : 2 + k = (1 + k) + 1 := by omega
  rw [e]
  refine F.ok scMarksR (fun vs H Q E h => ?_) (fun cdv A outer s H vs Q E hr h => ?_)
  · obtain ⟨a, r, L, rfl, _⟩ := h
    rfl
  obtain ⟨a, r, L, rfl, hr1, ok, l0, l1, dk, q⟩ := h
  refine ⟨_, pss_cons (ps_asg (pe_call G1 hr rfl m1 k1 b1 .nil pass0 (pa_cons (pv 0) pa_nil)) (pg_tup (by rfl) (pgs_cons (pg_name (i := 1) scMarksR.nd rfl (Or.inl rfl)) (pgs_cons (pg_name (i := 2) scMarksR.nd rfl (Or.inl rfl)) pgs_nil))))
    (pss_one (ps_ret (pe_tup (pa_cons (pe_lc (te := tCall (spHasR k) [] E0 (tCons (tVar 0) (tCons (tVar 3) tNil))) (own := [("_law_spot", 3)]) (g := gName 3) (tt := tYes) rfl scMarksR.nd (pi_range1 rfl Z.range (pa_cons (pe_op op_add (pv 1) (pv 2)) pa_nil))
        (blkOk_by (N := NMk) (sc := defScope s_law_marks) (by decide +kernel)) (fun _ _ _ _ _ => pg_name (i := 3) scMarksR.nd rfl (Or.inl rfl)) (fun _ _ _ _ _ => pts_nil)
        (fun _ _ _ _ _ => pe_call G2 hr rfl m2 k2 b2 .nil pass0 (pa_cons (pv 0) (pa_cons (pv 3) pa_nil)))) (pa_cons (pv 1) pa_nil))))), ?_⟩
  refine ⟨_, rfl, a, r, L, rfl, hr1, ok, l0, by omega, dk, fun p H1 s1 hp => ?_⟩
  refine ⟨p, _, rfl, SqT.of hp, rfl, _, _, rfl, _, _, rfl, rfl, ?_⟩
  have bl := Rul.begin_le ok
  have sl := Nat.le_of_dvd l0 (Rul.size_dvd ok)
  refine ⟨_, rfl, _, rfl, _, _, rfl, rfl, ((r.begin + r.size : Nat) : Int), ?_, by omega, by omega, fun D hD => ?_⟩
  · dsimp only
    rw [Int.natCast_add]
  refine lc_range (lo := 0) (n := r.begin + r.size) (fun i H' => Same H1 H' ∧ H' D = some (.lst (bls ((List.range i).map r.mem)))) ⟨same_new hD _, upd_same⟩ ?_ ?_
  · rintro i H' hi ⟨s2, h2⟩
    have e : (0 : Int) + (i : Int) = (i : Int) := by omega
    rw [e]
    refine ⟨rfl, turn_yes ⟨_, rfl, _, rfl, a, r, i, L, rfl, RulAt.same (s1.trans s2) r a hr1, ok, dk, fun H3 s3 => ?_⟩⟩
    refine ⟨_, s3 _ _ h2, ?_, same_at hD (s2.trans s3), ?_⟩
    · unfold bls
      rw [List.length_map, List.length_map, List.length_range, sizeLine_eq]
      omega
    · rw [upd_same, List.range_succ, List.map_append]
      unfold bls
      rw [List.map_append]
      rfl
  · rintro H2 ⟨s2, h2⟩
    refine ⟨_, rfl, (by show 2 ≤ sizeLine; decide), fun T hT => ?_⟩
    exact q T D _ ((s1.trans s2).trans (same_new hT _)) upd_same (upd_other h2 hT)
end
end Wp

namespace Wp
open PySem PySem.Spec PyProof.Rows L2 Hx
/-! the same set, written otherwise -/
theorem Rul.Ok.dvd {L M : Nat} (d : L ∣ M) : ∀ {r : Rul}, r.Ok L → r.Ok M
  | .nums _, h => h
  | .steps _ _, h => ⟨h.1, h.2.1, h.2.2.1, Nat.dvd_trans h.2.2.2 d⟩
  | .neg r, h => Rul.Ok.dvd (r := r) d h
  | .bin _ r s, h => ⟨Rul.Ok.dvd (r := r) d h.1, Rul.Ok.dvd (r := s) d h.2⟩
theorem twice {b p n : Nat} (hp : 0 < p) : ((decide (b + p ≤ n) && decide ((n - (b + p)) % (2 * p) = 0)) || (decide (b ≤ n) && decide ((n - b) % (2 * p) = 0))) = (decide (b ≤ n) && decide ((n - b) % p = 0)) := by
  rw [Bool.eq_iff_iff]
  simp only [Bool.or_eq_true, Bool.and_eq_true, decide_eq_true_eq]
  constructor
  · rintro (⟨h1, h2⟩ | ⟨h1, h2⟩)
    · obtain ⟨k, hk⟩ := Nat.dvd_of_mod_eq_zero h2
      refine ⟨by omega, ?_⟩
      have e : n - b = p * (2 * k + 1) := by
        have : 2 * p * k = p * (2 * k) := by rw [Nat.mul_comm 2 p, Nat.mul_assoc]
        rw [Nat.mul_succ]
        omega
      rw [e, Nat.mul_mod_right]
    · obtain ⟨k, hk⟩ := Nat.dvd_of_mod_eq_zero h2
      refine ⟨h1, ?_⟩
      rw [hk, Nat.mul_comm 2 p, Nat.mul_assoc, Nat.mul_mod_right]
  · rintro ⟨h1, h2⟩
    obtain ⟨k, hk⟩ := Nat.dvd_of_mod_eq_zero h2
    rcases Nat.mod_two_eq_zero_or_one k with e | e
    · right
      refine ⟨h1, ?_⟩
      have ek : k = 2 * (k / 2) := by omega
      rw [hk, ek, ← Nat.mul_assoc, Nat.mul_comm p 2, Nat.mul_mod_right]
    · left
      have ek : k = 2 * (k / 2) + 1 := by omega
      have e2 : n - b = 2 * p * (k / 2) + p := by
        have e3 : p * (2 * (k / 2) + 1) = 2 * p * (k / 2) + p := by rw [Nat.mul_succ, ← Nat.mul_assoc, Nat.mul_comm p 2]
        rw [hk, ← e3, ← ek]
      refine ⟨by omega, ?_⟩
      rw [show n - (b + p) = 2 * p * (k / 2) by omega, Nat.mul_mod_right]
section
variable {d x y c : Addr} {H : Hp} {o : Way} {r s : Rul}
theorem new_bin (hd : DeckAt H d) (n : H c = none) (hr : RulAt (without d H) r x) (hs : RulAt (without d H) s y) :
    RulAt (without d (upd H c (.tup [.str o.str, .ref x, .ref y]))) (.bin o r s) c ∧ DeckAt (upd H c (.tup [.str o.str, .ref x, .ref y])) d ∧ But d H (upd H c (.tup [.str o.str, .ref x, .ref y])) := by
  have nd := hd.ne n
  have b : But d H (upd H c (.tup [.str o.str, .ref x, .ref y])) := But.refl.new n _
  exact ⟨⟨x, y, without_at (Ne.symm nd) upd_same, RulAt.same b.without r x hr, RulAt.same b.without s y hs⟩, hd.but nd _, b⟩
theorem new_or (hd : DeckAt H d) (n : H c = none) (hr : RulAt (without d H) r x) (hs : RulAt (without d H) s y) :
    RulAt (without d (upd H c (.tup [.str "or", .ref x, .ref y]))) (.bin .or r s) c ∧ DeckAt (upd H c (.tup [.str "or", .ref x, .ref y])) d ∧ But d H (upd H c (.tup [.str "or", .ref x, .ref y])) := new_bin (o := .or) hd n hr hs
theorem new_and (hd : DeckAt H d) (n : H c = none) (hr : RulAt (without d H) r x) (hs : RulAt (without d H) s y) :
    RulAt (without d (upd H c (.tup [.str "and", .ref x, .ref y]))) (.bin .and r s) c ∧ DeckAt (upd H c (.tup [.str "and", .ref x, .ref y])) d ∧ But d H (upd H c (.tup [.str "and", .ref x, .ref y])) := new_bin (o := .and) hd n hr hs
theorem new_less (hd : DeckAt H d) (n : H c = none) (hr : RulAt (without d H) r x) (hs : RulAt (without d H) s y) :
    RulAt (without d (upd H c (.tup [.str "less", .ref x, .ref y]))) (.bin .less r s) c ∧ DeckAt (upd H c (.tup [.str "less", .ref x, .ref y])) d ∧ But d H (upd H c (.tup [.str "less", .ref x, .ref y])) := new_bin (o := .less) hd n hr hs
theorem new_odd (hd : DeckAt H d) (n : H c = none) (hr : RulAt (without d H) r x) (hs : RulAt (without d H) s y) :
    RulAt (without d (upd H c (.tup [.str "odd", .ref x, .ref y]))) (.bin .odd r s) c ∧ DeckAt (upd H c (.tup [.str "odd", .ref x, .ref y])) d ∧ But d H (upd H c (.tup [.str "odd", .ref x, .ref y])) := new_bin (o := .odd) hd n hr hs
theorem new_neg (hd : DeckAt H d) (n : H c = none) (hr : RulAt (without d H) r x) :
    RulAt (without d (upd H c (.tup [.str "not", .ref x]))) (.neg r) c ∧ DeckAt (upd H c (.tup [.str "not", .ref x])) d ∧ But d H (upd H c (.tup [.str "not", .ref x])) := by
  have nd := hd.ne n
  have b : But d H (upd H c (.tup [.str "not", .ref x])) := But.refl.new n _
  exact ⟨⟨x, without_at (Ne.symm nd) upd_same, RulAt.same b.without r x hr⟩, hd.but nd _, b⟩
theorem new_steps {b p : Nat} (hd : DeckAt H d) (n : H c = none) :
    RulAt (without d (upd H c (.tup [.str "steps", .int (b : Int), .int (p : Int)]))) (.steps b p) c ∧ DeckAt (upd H c (.tup [.str "steps", .int (b : Int), .int (p : Int)])) d ∧ But d H (upd H c (.tup [.str "steps", .int (b : Int), .int (p : Int)])) := by
  have nd := hd.ne n
  have bb : But d H (upd H c (.tup [.str "steps", .int (b : Int), .int (p : Int)])) := But.refl.new n _
  exact ⟨without_at (Ne.symm nd) upd_same, hd.but nd _, bb⟩
theorem new_nums {l : Addr} {ms : List Nat} (hd : DeckAt H d) (nl : l ≠ d) (hl : H l = some (.lst (nats ms))) (n : H c = none) :
    RulAt (without d (upd H c (.tup [.str "numbers", .ref l]))) (.nums ms) c ∧ DeckAt (upd H c (.tup [.str "numbers", .ref l])) d ∧ But d H (upd H c (.tup [.str "numbers", .ref l])) := by
  have nd := hd.ne n
  have b : But d H (upd H c (.tup [.str "numbers", .ref l])) := But.refl.new n _
  exact ⟨⟨l, without_at (Ne.symm nd) upd_same, without_at nl (upd_other hl n)⟩, hd.but nd _, b⟩
end
def spOther : Sp := fun vs H Q _ => ∃ (d a b : Addr) (r m : Rul) (L : Nat), vs = [.ref d, .ref a, .ref b] ∧ DeckAt H d ∧ RulAt (without d H) r a ∧ RulAt (without d H) m b ∧ r.Ok L ∧ m.Ok L ∧ 0 < L ∧ r.deep ≤ 2 ∧ m.deep ≤ 2 ∧
  ∀ c o H', But d H H' → DeckAt H' d → RulAt (without d H') o c → o.Ok (2 * L) → o.deep ≤ 5 → (∀ n, o.mem n = r.mem n) → Q (.ref c) H'
def halves : Rul → Bool
  | .steps b p => decide (p < 7) && decide (b + p < 1001)
  | _ => false
section
variable {P : Program} {w : World} {K : PySem.W.Frag} {mg : Str → Option Value} {base : Heap} {f f1 f2 f3 C : Addr} {fd fd1 fd2 fd3 : FuncData}
theorem scOther : FnScope ["_law_deck_here", "_law_rule_here", "_law_mate", "_law_way"] ["_law_deck_here", "_law_rule_here", "_law_mate"] (defScope s_law_otherwise) := ⟨rfl, rfl, rfl, by decide +kernel, rfl, by decide +kernel, by decide +kernel⟩
theorem ok_other (F : Fun K "_law_otherwise" "_law_otherwise" s_law_otherwise f fd) (Z : Bp mg)
    (GC : FnOk P w K mg base CX0 1 f1 fd1 ["_law_deck_here", "_law_top"] spCard) (bC : Binds K fd1 ["_law_deck_here", "_law_top"] []) (kC : PySem.W.keepIn K (.ref f1) = true) (mC : mg "_law_card" = some (.ref f1)) :
    FnOk P w K mg base CX0 2 f fd ["_law_deck_here", "_law_rule_here", "_law_mate"] spOther := by
  refine F.ok scOther (fun vs H Q E h => ?_) (fun cdv A outer s H vs Q E hr h => ?_)
  · obtain ⟨d, a, b, r, m, L, rfl, _⟩ := h
    rfl
  obtain ⟨d, a, b, r, m, L, rfl, hd, ra, rb, okr, okm, l0, dr, dm, q⟩ := h
  refine ⟨_, pss_cons (ps_set (i := 3) scOther.nd rfl (Or.inl rfl) (pe_call GC hr rfl mC kC bC .nil pass0 (pa_cons (pv 0) (pa_cons pe_int pa_nil))))
    (pss_cons (ps_if (PW.pt (pw_and (pt_cmpR op_eq (pv 3) pe_int (nomark _)) (pw_and (pt_cmpR op_eq (pe_ix ix_tup (pv 1) pe_int (fun _ _ => rfl)) pe_str (nomark _)) (pw_and (pt_cmpR op_lt (pe_ix ix_tup (pv 1) pe_int (fun _ _ => rfl)) pe_int (nomark _))
        (pw_and1 (pt_cmpR op_lt (pe_op op_add (pe_ix ix_tup (pv 1) pe_int (fun _ _ => rfl)) (pe_ix ix_tup (pv 1) pe_int (fun _ _ => rfl))) pe_int (nomark _)))))))
      (pss_one (ps_ret (pe_tup (pa_cons pe_str (pa_cons (pe_tup (pa_cons pe_str (pa_cons (pe_op op_add (pe_ix ix_tup (pv 1) pe_int (fun _ _ => rfl)) (pe_ix ix_tup (pv 1) pe_int (fun _ _ => rfl))) (pa_cons (pe_op op_mul pe_int (pe_ix ix_tup (pv 1) pe_int (fun _ _ => rfl))) pa_nil))))
        (pa_cons (pe_tup (pa_cons pe_str (pa_cons (pe_ix ix_tup (pv 1) pe_int (fun _ _ => rfl)) (pa_cons (pe_op op_mul pe_int (pe_ix ix_tup (pv 1) pe_int (fun _ _ => rfl))) pa_nil)))) pa_nil)))))) pss_nil)
    (pss_cons (ps_if (pt_cmpR op_lt (pv 3) pe_int (nomark _)) (pss_one (ps_ret (pe_tup (pa_cons pe_str (pa_cons (pv 1) (pa_cons (pv 1) pa_nil)))))) pss_nil)
    (pss_cons (ps_if (pt_cmpR op_eq (pv 3) pe_int (nomark _)) (pss_one (ps_ret (pe_tup (pa_cons pe_str (pa_cons (pe_tup (pa_cons pe_str (pa_cons (pv 1) pa_nil))) pa_nil))))) pss_nil)
    (pss_cons (ps_if (pt_cmpR op_eq (pv 3) pe_int (nomark _)) (pss_one (ps_ret (pe_tup (pa_cons pe_str (pa_cons (pe_tup (pa_cons pe_str (pa_cons (pv 2) (pa_cons (pv 1) pa_nil)))) (pa_cons (pv 1) pa_nil)))))) pss_nil)
    (pss_cons (ps_if (pt_cmpR op_eq (pv 3) pe_int (nomark _)) (pss_one (ps_ret (pe_tup (pa_cons pe_str (pa_cons (pv 2) (pa_cons (pe_tup (pa_cons pe_str (pa_cons (pv 1) (pa_cons (pv 2) pa_nil)))) pa_nil)))))) pss_nil)
    (pss_cons (ps_if (pt_cmpR op_eq (pv 3) pe_int (nomark _)) (pss_one (ps_ret (pe_tup (pa_cons pe_str (pa_cons (pe_tup (pa_cons pe_str (pa_cons (pv 1) (pa_cons (pv 2) pa_nil)))) (pa_cons (pe_tup (pa_cons pe_str (pa_cons (pv 2) (pa_cons (pv 1) pa_nil)))) pa_nil)))))) pss_nil)
    (pss_cons (ps_if (pt_cmpR op_eq (pv 3) pe_int (nomark _)) (pss_one (ps_ret (pe_tup (pa_cons pe_str (pa_cons (pe_tup (pa_cons pe_str (pa_cons (pe_tup (pa_cons pe_str (pa_cons (pv 1) pa_nil))) (pa_cons (pe_tup (pa_cons pe_str (pa_cons (pv 1) pa_nil))) pa_nil)))) pa_nil))))) pss_nil)
    (pss_one (ps_ret (pe_ifExp (pt_cmpR op_eq (pv 3) pe_int (nomark _))
      (pe_tup (pa_cons pe_str (pa_cons (pe_tup (pa_cons pe_str (pa_cons (pv 1) (pa_cons (pv 2) pa_nil)))) (pa_cons (pe_tup (pa_cons pe_str (pa_cons (pv 1) (pa_cons (pv 2) pa_nil)))) pa_nil))))
      (pe_tup (pa_cons pe_str (pa_cons (pv 1) (pa_cons (pe_tup (pa_cons pe_str (pa_cons (pe_lst pa_nil) pa_nil))) pa_nil)))))))))))))), ?_⟩
  refine ⟨_, rfl, d, 9, rfl, by decide, by decide, hd, fun way H1 y0 y1 c1 hd1 => ?_⟩
  have ra1 := RulAt.same c1.without r a ra
  have rb1 := RulAt.same c1.without m b rb
  have q1 : ∀ c o H', But d H1 H' → DeckAt H' d → RulAt (without d H') o c → o.Ok (2 * L) → o.deep ≤ 5 → (∀ n, o.mem n = r.mem n) → Q (.ref c) H' := fun c o H' x => q c o H' (c1.trans x)
  have dL : L ∣ 2 * L := ⟨2, Nat.mul_comm 2 L⟩
  have okr2 := Rul.Ok.dvd dL okr
  have okm2 := Rul.Ok.dvd dL okm
  clear q ra rb hd c1
  refine name_seq ?_
  refine seq_if_join (decide (way = 0) && halves r) (fun R hR => ?_) ?_
  · refine ⟨_, rfl, rfl, _, rfl, ite2 (fun c => ?_) (fun c => ?_)⟩
    · have c' : way = 0 := V.int.inj (of_decide_eq_true c)
      rw [decide_eq_true c', Bool.true_and] at hR
      have ra' := RulAt.same without_same r a ra1
      cases r with
      | nums ms =>
        obtain ⟨l, ha, _⟩ := ra'
        refine ⟨_, rfl, a, _, 0, _, rfl, rfl, SqT.of ha, atI_nat (j := 0) rfl, rfl, _, rfl, ?_⟩
        rw [tag_ne (by decide +kernel)]
        exact hR
      | neg r =>
        obtain ⟨l, ha, _⟩ := ra'
        refine ⟨_, rfl, a, _, 0, _, rfl, rfl, SqT.of ha, atI_nat (j := 0) rfl, rfl, _, rfl, ?_⟩
        rw [tag_ne (by decide +kernel)]
        exact hR
      | bin o r s =>
        obtain ⟨l, l2, ha, _⟩ := ra'
        refine ⟨_, rfl, a, _, 0, _, rfl, rfl, SqT.of ha, atI_nat (j := 0) rfl, rfl, _, rfl, ?_⟩
        rw [tag_ne (way_ne o).2.1]
        exact hR
      | steps b p =>
        have ha : H1 a = some (.tup [.str "steps", .int (b : Int), .int (p : Int)]) := ra'
        have hT : SqT K H1 a [.str "steps", .int (b : Int), .int (p : Int)] := SqT.of ha
        refine ⟨_, rfl, a, _, 0, _, rfl, rfl, hT, atI_nat (j := 0) rfl, rfl, _, rfl, ?_⟩
        rw [decide_eq_true rfl]
        refine iteT ⟨_, rfl, a, _, 2, _, rfl, rfl, hT, atI_nat (j := 2) rfl, _, _, rfl, rfl, _, rfl, ?_⟩
        have hR' : R (decide (p < 7) && decide (b + p < 1001)) H1 := hR
        refine ite2 (fun e => ?_) (fun e => ?_)
        · have e' : p < 7 := by
            have := of_decide_eq_true e
            omega
          rw [decide_eq_true e', Bool.true_and] at hR'
          refine ⟨_, rfl, a, _, 1, _, rfl, rfl, hT, atI_nat (j := 1) rfl, _, rfl, a, _, 2, _, rfl, rfl, hT, atI_nat (j := 2) rfl, _, _, rfl, rfl, _, _, rfl, rfl, _, rfl, ?_⟩
          rw [show decide ((b : Int) + (p : Int) < 1001) = decide (b + p < 1001) from decide_eq_decide.mpr ⟨fun z => by omega, fun z => by omega⟩]
          exact hR'
        · have e' : ¬ p < 7 := fun z => e (decide_eq_true (by omega))
          rw [decide_eq_false e', Bool.false_and] at hR'
          exact hR'
    · have c' : way ≠ 0 := fun z => c (by rw [z]; rfl)
      rw [decide_eq_false c', Bool.false_and] at hR
      exact hR
  have tailOk : ∀ {x y : Rul} {o : Way}, x.Ok (2 * L) → y.Ok (2 * L) → (Rul.bin o x y).Ok (2 * L) := fun a b => ⟨a, b⟩
  refine ite2 (fun c => ?_) (fun c => ?_)
  · cases r with
    | nums ms => simp [halves] at c
    | neg r => simp [halves] at c
    | bin o r s => simp [halves] at c
    | steps b p =>
      simp only [halves, Bool.and_eq_true, decide_eq_true_eq] at c
      obtain ⟨cw, cp, cb⟩ := c
      obtain ⟨b1, p1, p2, pd⟩ := okr
      have ha : H1 a = some (.tup [.str "steps", .int (b : Int), .int (p : Int)]) := RulAt.same without_same (.steps b p) a ra1
      have hT : SqT K H1 a [.str "steps", .int (b : Int), .int (p : Int)] := SqT.of ha
      refine ⟨_, rfl, a, _, 1, _, rfl, rfl, hT, atI_nat (j := 1) rfl, _, rfl, a, _, 2, _, rfl, rfl, hT, atI_nat (j := 2) rfl, _, _, rfl, rfl, _, rfl, a, _, 2, _, rfl, rfl, hT, atI_nat (j := 2) rfl, _, _, rfl, rfl, .inl ⟨by decide, by omega⟩, (by show 3 ≤ sizeLine; decide), fun t1 n1 => ?_⟩
      dsimp only
      rw [show (b : Int) + (p : Int) = ((b + p : Nat) : Int) by omega, show (2 : Int) * (p : Int) = ((2 * p : Nat) : Int) by omega]
      obtain ⟨x1, hd2, e1⟩ := new_steps (b := b + p) (p := 2 * p) hd1 n1
      have hT2 : SqT K (upd H1 t1 (.tup [.str "steps", .int ((b + p : Nat) : Int), .int ((2 * p : Nat) : Int)])) a [.str "steps", .int (b : Int), .int (p : Int)] := SqT.of (upd_other ha n1)
      generalize upd H1 t1 (.tup [.str "steps", .int ((b + p : Nat) : Int), .int ((2 * p : Nat) : Int)]) = H2 at x1 hd2 e1 hT2 ⊢
      refine ⟨_, rfl, a, _, 1, _, rfl, rfl, hT2, atI_nat (j := 1) rfl, _, rfl, a, _, 2, _, rfl, rfl, hT2, atI_nat (j := 2) rfl, _, _, rfl, rfl, .inl ⟨by decide, by omega⟩, (by show 3 ≤ sizeLine; decide), fun t2 n2 => ?_⟩
      dsimp only
      rw [show (2 : Int) * (p : Int) = ((2 * p : Nat) : Int) by omega]
      obtain ⟨x2, hd3, e2⟩ := new_steps (b := b) (p := 2 * p) hd2 n2
      have x1' := RulAt.same e2.without _ t1 x1
      generalize upd H2 t2 (.tup [.str "steps", .int (b : Int), .int ((2 * p : Nat) : Int)]) = H3 at x1' x2 hd3 e2 ⊢
      refine ⟨(by show 3 ≤ sizeLine; decide), fun t3 n3 => ?_⟩
      obtain ⟨x3, hd4, e3⟩ := new_or hd3 n3 x1' x2
      have d2 : 2 * p ∣ 2 * L := Nat.mul_dvd_mul_left 2 pd
      exact q1 t3 _ _ ((e1.trans e2).trans e3) hd4 x3 ⟨⟨by omega, by omega, by omega, d2⟩, ⟨by omega, by omega, by omega, d2⟩⟩ (by decide : max 0 0 + 1 ≤ 5) fun n => twice (by omega)
  -- two the same
  refine ⟨_, rfl, _, _, rfl, rfl, _, rfl, ite2 (fun e => ?_) (fun e => ?_)⟩
  · refine ⟨_, rfl, _, rfl, (by show 3 ≤ sizeLine; decide), fun t1 n1 => ?_⟩
    obtain ⟨x1, hd2, e1⟩ := new_or hd1 n1 ra1 ra1
    exact q1 t1 _ _ e1 hd2 x1 ⟨okr2, okr2⟩ (by show max r.deep r.deep + 1 ≤ 5; omega) fun n => by
      show (r.mem n || r.mem n) = r.mem n
      cases r.mem n <;> rfl
  refine ⟨_, rfl, rfl, _, rfl, ite2 (fun e => ?_) (fun e => ?_)⟩
  · refine ⟨_, rfl, (by show 2 ≤ sizeLine; decide), fun t1 n1 => ?_⟩
    obtain ⟨x1, hd2, e1⟩ := new_neg hd1 n1 ra1
    generalize upd H1 t1 (.tup [.str "not", .ref a]) = H2 at x1 hd2 e1 ⊢
    refine ⟨(by show 2 ≤ sizeLine; decide), fun t2 n2 => ?_⟩
    obtain ⟨x2, hd3, e2⟩ := new_neg hd2 n2 x1
    exact q1 t2 _ _ (e1.trans e2) hd3 x2 okr2 (by show r.deep + 1 + 1 ≤ 5; omega) fun n => by
      show (!(!r.mem n)) = r.mem n
      cases r.mem n <;> rfl
  refine ⟨_, rfl, rfl, _, rfl, ite2 (fun e => ?_) (fun e => ?_)⟩
  · refine ⟨_, rfl, _, rfl, (by show 3 ≤ sizeLine; decide), fun t1 n1 => ?_⟩
    obtain ⟨x1, hd2, e1⟩ := new_or hd1 n1 rb1 ra1
    have ra2 := RulAt.same e1.without r a ra1
    generalize upd H1 t1 (.tup [.str "or", .ref b, .ref a]) = H2 at x1 hd2 e1 ra2 ⊢
    refine ⟨_, rfl, (by show 3 ≤ sizeLine; decide), fun t2 n2 => ?_⟩
    obtain ⟨x2, hd3, e2⟩ := new_and hd2 n2 x1 ra2
    exact q1 t2 _ _ (e1.trans e2) hd3 x2 ⟨⟨okm2, okr2⟩, okr2⟩ (by show max (max m.deep r.deep + 1) r.deep + 1 ≤ 5; omega) fun n => by
      show ((m.mem n || r.mem n) && r.mem n) = r.mem n
      cases r.mem n <;> cases m.mem n <;> rfl
  refine ⟨_, rfl, rfl, _, rfl, ite2 (fun e => ?_) (fun e => ?_)⟩
  · refine ⟨_, rfl, _, rfl, _, rfl, (by show 3 ≤ sizeLine; decide), fun t1 n1 => ?_⟩
    obtain ⟨x1, hd2, e1⟩ := new_odd hd1 n1 ra1 rb1
    have rb2 := RulAt.same e1.without m b rb1
    generalize upd H1 t1 (.tup [.str "odd", .ref a, .ref b]) = H2 at x1 hd2 e1 rb2 ⊢
    refine ⟨(by show 3 ≤ sizeLine; decide), fun t2 n2 => ?_⟩
    obtain ⟨x2, hd3, e2⟩ := new_odd hd2 n2 rb2 x1
    exact q1 t2 _ _ (e1.trans e2) hd3 x2 ⟨okm2, okr2, okm2⟩ (by show max m.deep (max r.deep m.deep + 1) + 1 ≤ 5; omega) fun n => by
      show Bool.xor (m.mem n) (Bool.xor (r.mem n) (m.mem n)) = r.mem n
      cases r.mem n <;> cases m.mem n <;> rfl
  refine ⟨_, rfl, rfl, _, rfl, ite2 (fun e => ?_) (fun e => ?_)⟩
  · refine ⟨_, rfl, _, rfl, (by show 3 ≤ sizeLine; decide), fun t1 n1 => ?_⟩
    obtain ⟨x1, hd2, e1⟩ := new_or hd1 n1 ra1 rb1
    have ra2 := RulAt.same e1.without r a ra1
    have rb2 := RulAt.same e1.without m b rb1
    generalize upd H1 t1 (.tup [.str "or", .ref a, .ref b]) = H2 at x1 hd2 e1 ra2 rb2 ⊢
    refine ⟨_, rfl, _, rfl, (by show 3 ≤ sizeLine; decide), fun t2 n2 => ?_⟩
    obtain ⟨x2, hd3, e2⟩ := new_less hd2 n2 rb2 ra2
    have x1' := RulAt.same e2.without _ t1 x1
    generalize upd H2 t2 (.tup [.str "less", .ref b, .ref a]) = H3 at x1' x2 hd3 e2 ⊢
    refine ⟨(by show 3 ≤ sizeLine; decide), fun t3 n3 => ?_⟩
    obtain ⟨x3, hd4, e3⟩ := new_less hd3 n3 x1' x2
    exact q1 t3 _ _ ((e1.trans e2).trans e3) hd4 x3 ⟨⟨okr2, okm2⟩, okm2, okr2⟩ (by show max (max r.deep m.deep + 1) (max m.deep r.deep + 1) + 1 ≤ 5; omega) fun n => by
      show ((r.mem n || m.mem n) && !(m.mem n && !r.mem n)) = r.mem n
      cases r.mem n <;> cases m.mem n <;> rfl
  refine ⟨_, rfl, rfl, _, rfl, ite2 (fun e => ?_) (fun e => ?_)⟩
  · refine ⟨_, rfl, (by show 2 ≤ sizeLine; decide), fun t1 n1 => ?_⟩
    obtain ⟨x1, hd2, e1⟩ := new_neg hd1 n1 ra1
    have ra2 := RulAt.same e1.without r a ra1
    generalize upd H1 t1 (.tup [.str "not", .ref a]) = H2 at x1 hd2 e1 ra2 ⊢
    refine ⟨_, rfl, (by show 2 ≤ sizeLine; decide), fun t2 n2 => ?_⟩
    obtain ⟨x2, hd3, e2⟩ := new_neg hd2 n2 ra2
    have x1' := RulAt.same e2.without _ t1 x1
    generalize upd H2 t2 (.tup [.str "not", .ref a]) = H3 at x1' x2 hd3 e2 ⊢
    refine ⟨(by show 3 ≤ sizeLine; decide), fun t3 n3 => ?_⟩
    obtain ⟨x3, hd4, e3⟩ := new_and hd3 n3 x1' x2
    generalize upd H3 t3 (.tup [.str "and", .ref t1, .ref t2]) = H4 at x3 hd4 e3 ⊢
    refine ⟨(by show 2 ≤ sizeLine; decide), fun t4 n4 => ?_⟩
    obtain ⟨x4, hd5, e4⟩ := new_neg hd4 n4 x3
    exact q1 t4 _ _ (((e1.trans e2).trans e3).trans e4) hd5 x4 ⟨okr2, okr2⟩ (by show max (r.deep + 1) (r.deep + 1) + 1 + 1 ≤ 5; omega) fun n => by
      show (!((!r.mem n) && (!r.mem n))) = r.mem n
      cases r.mem n <;> rfl
  refine ⟨_, rfl, rfl, _, rfl, ite2 (fun e => ?_) (fun e => ?_)⟩
  · refine ⟨_, rfl, _, rfl, (by show 3 ≤ sizeLine; decide), fun t1 n1 => ?_⟩
    obtain ⟨x1, hd2, e1⟩ := new_and hd1 n1 ra1 rb1
    have ra2 := RulAt.same e1.without r a ra1
    have rb2 := RulAt.same e1.without m b rb1
    generalize upd H1 t1 (.tup [.str "and", .ref a, .ref b]) = H2 at x1 hd2 e1 ra2 rb2 ⊢
    refine ⟨_, rfl, _, rfl, (by show 3 ≤ sizeLine; decide), fun t2 n2 => ?_⟩
    obtain ⟨x2, hd3, e2⟩ := new_less hd2 n2 ra2 rb2
    have x1' := RulAt.same e2.without _ t1 x1
    generalize upd H2 t2 (.tup [.str "less", .ref a, .ref b]) = H3 at x1' x2 hd3 e2 ⊢
    refine ⟨(by show 3 ≤ sizeLine; decide), fun t3 n3 => ?_⟩
    obtain ⟨x3, hd4, e3⟩ := new_or hd3 n3 x1' x2
    exact q1 t3 _ _ ((e1.trans e2).trans e3) hd4 x3 ⟨⟨okr2, okm2⟩, okr2, okm2⟩ (by show max (max r.deep m.deep + 1) (max r.deep m.deep + 1) + 1 ≤ 5; omega) fun n => by
      show ((r.mem n && m.mem n) || (r.mem n && !m.mem n)) = r.mem n
      cases r.mem n <;> cases m.mem n <;> rfl
  · refine ⟨_, rfl, (by show 0 ≤ sizeLine; decide), fun l nl => ?_⟩
    have ndl := hd1.ne nl
    have e1 : But d H1 (upd H1 l (.lst [])) := But.refl.new nl _
    have hd2 := hd1.but ndl (.lst [])
    have hl : upd H1 l (.lst []) l = some (.lst (nats [])) := upd_same
    have ra2 := RulAt.same e1.without r a ra1
    generalize upd H1 l (.lst []) = H2 at e1 hd2 hl ra2 ⊢
    refine ⟨(by show 2 ≤ sizeLine; decide), fun t1 n1 => ?_⟩
    obtain ⟨x1, hd3, e2⟩ := new_nums hd2 (Ne.symm ndl) hl n1
    have ra3 := RulAt.same e2.without r a ra2
    generalize upd H2 t1 (.tup [.str "numbers", .ref l]) = H3 at x1 hd3 e2 ra3 ⊢
    refine ⟨(by show 3 ≤ sizeLine; decide), fun t2 n2 => ?_⟩
    obtain ⟨x2, hd4, e3⟩ := new_less hd3 n2 ra3 x1
    exact q1 t2 _ _ ((e1.trans e2).trans e3) hd4 x2 ⟨okr2, by decide, by intro m hm; cases hm⟩ (by show max r.deep 0 + 1 ≤ 5; omega) fun n => by
      show (r.mem n && !decide (n ∈ ([] : List Nat))) = r.mem n
      cases r.mem n <;> rfl
end
end Wp

namespace Wp
open PySem PySem.Spec PyProof.Rows L2 Hx
theorem rg_at {z : Int} {i : Nat} {v : V} (h : (rgV 0 z)[i]? = some v) : i < z.toNat ∧ v = .int (i : Int) := by
  unfold rgV at h
  rw [List.getElem?_map] at h
  obtain ⟨n, h1, h2⟩ := Option.map_eq_some_iff.mp h
  obtain ⟨h3, h4⟩ := List.getElem?_eq_some_iff.mp h1
  rw [List.length_range] at h3
  rw [List.getElem_range] at h4
  refine ⟨by omega, ?_⟩
  rw [← h2, ← h4, Int.zero_add]
theorem same_all {r m : Rul} {L : Nat} (okr : r.Ok L) (okm : m.Ok L) (h : ∀ n, n < max r.begin m.begin + Nat.lcm r.size m.size → r.mem n = m.mem n) : ∀ n, r.mem n = m.mem n := by
  intro n
  induction n using Nat.strongRecOn with
  | _ n ih =>
    by_cases c : n < max r.begin m.begin + Nat.lcm r.size m.size
    · exact h n c
    · have l0 := Nat.lcm_pos (Rul.size_pos okr) (Rul.size_pos okm)
      have e1 := (Rul.per okr).dvd (Nat.le_max_left r.begin m.begin) (Nat.dvd_lcm_left r.size m.size) (n - Nat.lcm r.size m.size) (by omega)
      have e2 := (Rul.per okm).dvd (Nat.le_max_right r.begin m.begin) (Nat.dvd_lcm_right r.size m.size) (n - Nat.lcm r.size m.size) (by omega)
      rw [Nat.sub_add_cancel (by omega)] at e1 e2
      rw [e1, e2]
      exact ih _ (by omega)
def spSame (k : Nat) : Sp := fun vs H Q _ => ∃ (a b : Addr) (r m : Rul) (L : Nat), vs = [.ref a, .ref b] ∧ RulAt H r a ∧ RulAt H m b ∧ r.Ok L ∧ m.Ok L ∧ 0 < L ∧ L ≤ 2000 ∧ r.deep < k ∧ m.deep < k ∧ ∀ (x : Bool) H', Same H H' → (x = true ↔ ∀ n, r.mem n = m.mem n) → Q (.bl x) H'
def NSm : List Str := ["_law_rule_here", "_law_mate", "_law_begin", "_law_size", "_law_start", "_law_pace", "_law_spots", "_law_spot"]
section
variable {P : Program} {w : World} {K : PySem.W.Frag} {mg : Str → Option Value} {base : Heap} {f f1 f2 f3 C : Addr} {fd fd1 fd2 fd3 : FuncData}
theorem scSame : FnScope NSm ["_law_rule_here", "_law_mate"] (defScope s_law_same) := ⟨rfl, rfl, rfl, by decide +kernel, rfl, by decide +kernel, by decide +kernel⟩
theorem ok_same {k : Nat} (F : Fun K "_law_same" "_law_same" s_law_same f fd) (Z : Bp mg)
    (G1 : FnOk P w K mg base CX0 (1 + k) f1 fd1 ["_law_rule_here"] (spSpan k)) (b1 : Binds K fd1 ["_law_rule_here"] []) (k1 : PySem.W.keepIn K (.ref f1) = true) (m1 : mg "_law_span" = some (.ref f1))
    (G2 : FnOk P w K mg base CX0 (1 + k) f2 fd2 ["_law_rule_here", "_law_spot"] (spHasR k)) (b2 : Binds K fd2 ["_law_rule_here", "_law_spot"] []) (k2 : PySem.W.keepIn K (.ref f2) = true) (m2 : mg "_law_has" = some (.ref f2))
    (G3 : FnOk P w K mg base CX0 1 f3 fd3 ["_law_size", "_law_pace"] spLeastC) (b3 : Binds K fd3 ["_law_size", "_law_pace"] []) (k3 : PySem.W.keepIn K (.ref f3) = true) (m3 : mg "_law_least_common" = some (.ref f3)) :
    FnOk P w K mg base CX0 (2 + k) f fd ["_law_rule_here", "_law_mate"] (spSame k) := by
  have e : 2 + k = (1 + k) + 1 := by omega
  rw [e]
  refine F.ok scSame (fun vs H Q E h => ?_) (fun cdv A outer s H vs Q E hr h => ?_)
  · obtain ⟨a, b, r, m, L, rfl, _⟩ := h
    rfl
  obtain ⟨a, b, r, m, L, rfl, ra, rb, okr, okm, l0, l1, dr, dm, q⟩ := h
  have r1 := hr.mono (show 1 ≤ 1 + k by omega)
  refine ⟨_, pss_cons (ps_asg (pe_tup (pa_cons (pe_call G1 hr rfl m1 k1 b1 .nil pass0 (pa_cons (pv 0) pa_nil)) (pa_cons (pe_call G1 hr rfl m1 k1 b1 .nil pass0 (pa_cons (pv 1) pa_nil)) pa_nil)))
      (pg_tup (by rfl) (pgs_cons (pg_tup (by rfl) (pgs_cons (pg_name (i := 2) scSame.nd rfl (Or.inl rfl)) (pgs_cons (pg_name (i := 3) scSame.nd rfl (Or.inl rfl)) pgs_nil)))
        (pgs_cons (pg_tup (by rfl) (pgs_cons (pg_name (i := 4) scSame.nd rfl (Or.inl rfl)) (pgs_cons (pg_name (i := 5) scSame.nd rfl (Or.inl rfl)) pgs_nil))) pgs_nil))))
    (pss_cons (ps_set (i := 6) scSame.nd rfl (Or.inl rfl) (pe_listRg rfl rfl Z.list (prg_1 rfl Z.range (pe_op op_add (pe_callB (call_max2 rfl) (by rfl) Z.max PyProof.Rows.boot_max (pa_cons (pv 2) (pa_cons (pv 4) pa_nil)))
        (pe_call G3 r1 rfl m3 k3 b3 .nil pass0 (pa_cons (pv 3) (pa_cons (pv 5) pa_nil)))))))
    (pss_one (ps_ret (pe_callB (cr_all rfl) (by rfl) Z.all PyProof.Rows.boot_all (pa_cons
        (pe_lc (te := tOp rEq (tCall (spHasR k) [] E0 (tCons (tVar 0) (tCons (tVar 7) tNil))) (tCall (spHasR k) [] E0 (tCons (tVar 1) (tCons (tVar 7) tNil)))) (own := [("_law_spot", 7)]) (g := gName 7) (tt := tYes) rfl scSame.nd (pi_list (pv 6))
          (blkOk_by (N := NSm) (sc := defScope s_law_same) (by decide +kernel)) (fun _ _ _ _ _ => pg_name (i := 7) scSame.nd rfl (Or.inl rfl)) (fun _ _ _ _ _ => pts_nil)
          (fun _ _ _ _ _ => pe_cmpR op_eq (pe_call G2 hr rfl m2 k2 b2 .nil pass0 (pa_cons (pv 0) (pa_cons (pv 7) pa_nil))) (pe_call G2 hr rfl m2 k2 b2 .nil pass0 (pa_cons (pv 1) (pa_cons (pv 7) pa_nil))) (nomark _))) pa_nil))))), ?_⟩
  refine ⟨_, rfl, a, r, L, rfl, ra, okr, l0, by omega, dr, fun p1 H1 s1 hp1 => ?_⟩
  refine ⟨_, rfl, b, m, L, rfl, RulAt.same s1 m b rb, okm, l0, by omega, dm, fun p2 H2 s2 hp2 => ?_⟩
  refine ⟨(by show 2 ≤ sizeLine; decide), fun T nT => ?_⟩
  have sT := same_new nT (.tup [V.ref p1, .ref p2])
  have hT : upd H2 T (.tup [V.ref p1, .ref p2]) T = some (.tup [V.ref p1, .ref p2]) := upd_same
  have hp1' := sT _ _ (s2 _ _ hp1)
  have hp2' := sT _ _ hp2
  have s3 := (s1.trans s2).trans sT
  generalize upd H2 T (.tup [V.ref p1, .ref p2]) = H3 at hT hp1' hp2' s3 ⊢
  refine ⟨T, _, rfl, SqT.of hT, rfl, _, _, rfl, p1, _, rfl, SqT.of hp1', rfl, _, _, rfl, _, _, rfl, rfl, _, _, rfl, p2, _, rfl, SqT.of hp2', rfl, _, _, rfl, _, _, rfl, rfl, rfl, ?_⟩
  have e1 := Nat.le_of_dvd l0 (Rul.size_dvd okr)
  have e2 := Nat.le_of_dvd l0 (Rul.size_dvd okm)
  have p1' := Rul.size_pos okr
  have p2' := Rul.size_pos okm
  have bl1 := Rul.begin_le okr
  have bl2 := Rul.begin_le okm
  have lc := Nat.le_of_dvd l0 (Nat.lcm_dvd (Rul.size_dvd okr) (Rul.size_dvd okm))
  refine ⟨_, rfl, _, rfl, _, _, rfl, ?_⟩
  rw [Mk.max_int]
  refine ⟨_, rfl, _, rfl, r.size, m.size, rfl, p1', p2', by omega, by omega, fun H4 s4 => ⟨_, _, rfl, rfl, _, rfl, ?_⟩⟩
  have eN : ((max r.begin m.begin : Nat) : Int) + ((Nat.lcm r.size m.size : Nat) : Int) = ((max r.begin m.begin + Nat.lcm r.size m.size : Nat) : Int) := by omega
  dsimp only
  rw [eN]
  have all := same_all okr okm
  have n1 : max r.begin m.begin + Nat.lcm r.size m.size ≤ 4000 := by omega
  generalize max r.begin m.begin + Nat.lcm r.size m.size = N at all n1 ⊢
  refine ⟨RgOk.of_le (by decide) (by omega) (by decide) (by omega), fun q1 hq1 => ?_⟩
  have s5 := (s3.trans s4).trans (same_new hq1 (.lst (rgV 0 (N : Int))))
  have hq : upd H4 q1 (.lst (rgV 0 (N : Int))) q1 = some (.lst (rgV 0 (N : Int))) := upd_same
  generalize upd H4 q1 (.lst (rgV 0 (N : Int))) = H5 at s5 hq ⊢
  refine name_go2 ?_
  refine ⟨_, rfl, q1, rfl, ⟨_, SqL.of hq⟩, fun E1 hE1 => ?_⟩
  refine lc_list (K := K) (a := q1) (xs := rgV 0 (N : Int)) (fun i H' => Same H5 H' ∧ H' E1 = some (.lst (bls ((List.range i).map fun n => decide (V.bl (r.mem n) = V.bl (m.mem n)))))) ⟨same_new hE1 _, upd_same⟩ (fun i H' _ h => SqL.of (h.1 _ _ hq)) ?_ ?_
  · rintro i v H' hv ⟨t1, h1⟩
    obtain ⟨hi, rfl⟩ := rg_at hv
    refine ⟨rfl, turn_yes ⟨_, rfl, _, rfl, a, r, i, L, rfl, RulAt.same (s5.trans t1) r a ra, okr, dr, fun H6 t2 => ?_⟩⟩
    refine ⟨_, rfl, _, rfl, b, m, i, L, rfl, RulAt.same ((s5.trans t1).trans t2) m b rb, okm, dm, fun H7 t3 => ?_⟩
    refine ⟨rfl, _, t3 _ _ (t2 _ _ h1), ?_, same_at hE1 ((t1.trans t2).trans t3), ?_⟩
    · unfold bls
      rw [List.length_map, List.length_map, List.length_range, sizeLine_eq]
      omega
    · rw [upd_same, List.range_succ, List.map_append]
      unfold bls
      rw [List.map_append]
      rfl
  · rintro H6 ⟨t1, h1⟩
    rw [rgV_length] at h1
    have eN2 : ((N : Int) - 0).toNat = N := by omega
    rw [eN2] at h1
    refine ⟨E1, _, rfl, SqL.of h1, q _ _ (s5.trans t1) ?_⟩
    have one : ∀ n, (id (decide (V.bl (r.mem n) = V.bl (m.mem n))) = true) ↔ r.mem n = m.mem n := fun n => ⟨fun h => V.bl.inj (of_decide_eq_true h), fun h => decide_eq_true (congrArg V.bl h)⟩
    rw [List.all_map, List.all_eq_true]
    constructor
    · intro h
      exact all fun n hn => (one n).mp (h n (List.mem_range.mpr hn))
    · intro h n _
      exact (one n).mpr (h n)
end
end Wp

/-! two sets in least form are the same where they have the same members -/
namespace Mk
theorem Kept.Good.dvd_of {s t : Kept} (G : s.Good) (J : t.Good) (h : ∀ n, s.mem n = t.mem n) : s.w ∣ t.w :=
  G.dvd (begin := len t.st) J.least.pos fun n hn => by rw [h, h]; exact J.from_len n hn
theorem Kept.Good.ext {s t : Kept} (G : s.Good) (J : t.Good) (h : ∀ n, s.mem n = t.mem n) : s = t := by
  have ew : s.w = t.w := Nat.dvd_antisymm (G.dvd_of J h) (J.dvd_of G fun n => (h n).symm)
  have er : ∀ n, rep s.cy s.w n = rep t.cy t.w n := fun n => by
    have w0 := G.least.pos
    have big : len s.st + len t.st ≤ s.w * (len s.st + len t.st) := Nat.le_mul_of_pos_left _ w0
    have e1 := G.least.sh.mul (len s.st + len t.st) n
    have e2 := J.least.sh.mul (len s.st + len t.st) n
    rw [← e1, ← e2, ← ew, ← Kept.mem_rep (s := s) (by omega), ew, ← Kept.mem_rep (s := t) (by rw [← ew]; omega)]
    exact h _
  have ec : s.cy = t.cy := Nat.eq_of_testBit_eq fun i => by
    by_cases c : i < s.w
    · have := er i
      unfold rep at this
      rwa [Nat.mod_eq_of_lt c, Nat.mod_eq_of_lt (by omega)] at this
    · have c' : s.w ≤ i := by omega
      have a : s.cy < 2 ^ i := Nat.lt_of_lt_of_le G.cy (Nat.pow_le_pow_right (by decide) c')
      have b : t.cy < 2 ^ i := Nat.lt_of_lt_of_le J.cy (Nat.pow_le_pow_right (by decide) (by omega))
      rw [Nat.testBit_lt_two_pow a, Nat.testBit_lt_two_pow b]
  have es : s.st = t.st := Nat.eq_of_testBit_eq fun i => by rw [s.st_bit, t.st_bit, h i, er i]
  cases s; cases t
  simp only at ew ec es
  subst ew; subst ec; subst es
  rfl
theorem Kept.Good.same_iff {s t : Kept} (G : s.Good) (J : t.Good) : (s.w = t.w ∧ s.cy = t.cy ∧ s.st = t.st) ↔ ∀ n, s.mem n = t.mem n := by
  constructor
  · rintro ⟨a, b, c⟩ n
    unfold Kept.mem
    rw [a, b, c]
  · intro h
    have := G.ext J h
    subst this
    exact ⟨rfl, rfl, rfl⟩
end Mk

namespace Wp
open PySem PySem.Spec PyProof.Rows L2 Hx
def types7 : List String := ["NoneType", "bool", "int", "str", "list", "tuple", "dict"]
/-- how sets are compared and told -/
structure EqD (P : Program) (w : World) (K : PySem.W.Frag) (mg : Str → Option Value) (base : Heap) (C : Addr) : Prop where
  eq : EqAny P w K mg base 1 C (spEqP K C)
  nf : ∀ T ∈ types7, PySem.W.notFirst K C (.type T) = true
  nt : ∀ T ∈ types7, PySem.W.kitOne K (.type T) (.ref C) = some false
  sh : ShowsBy P w K mg base 7 C (spReprP C)
theorem right_tyB {K : PySem.W.Frag} {H : Hp} {y : V} {T : String} (h : RightB H y (.type T)) : TyX K H y (.type T) := by
  cases h with
  | non => exact .base .non
  | bl b => exact .base (.bl b)
  | int i => exact .base (.int i)
  | str z => exact .base (.str z)
  | lst e => exact .base (.lst e)
  | tup e => exact .base (.tup e)
  | dK e => exact .base (.dK e)
theorem rightB_same {H H' : Hp} {y : V} {t : Value} (h : RightB H y t) (s : Same H H') : RightB H' y t := by
  cases h with
  | non => exact .non
  | bl b => exact .bl b
  | int i => exact .int i
  | str z => exact .str z
  | lst e => exact .lst (s _ _ e)
  | tup e => exact .tup (s _ _ e)
  | dK e => exact .dK (s _ _ e)
  | ins e => exact .ins (s _ _ e)
section
variable {P : Program} {w : World} {K : PySem.W.Frag} {mg : Str → Option Value} {base : Heap} {C a b : Addr} {H : Hp} {s t : Mk.Kept} {y : V}
theorem eq_sets (T : EqD P w K mg base C) (pa : PlAt C H a s) (pb : PlAt C H b t) {x : Bool} (e : x = decide (s.w = t.w ∧ s.cy = t.cy ∧ s.st = t.st)) {Q : VK} (q : Q (.bl x) H) : rEqB P w K mg base 1 (.ref a) (.ref b) H Q := by
  obtain ⟨dx, ha⟩ := pa
  obtain ⟨dy, hb⟩ := pb
  subst e
  exact ⟨a, C, dx, _, _, .ref C, rfl, ha, T.eq, .ins hb, by unfold PySem.W.notFirst; simp, a, s, .ref b, rfl, ⟨dx, ha⟩, .inr ⟨b, t, rfl, ⟨dy, hb⟩, _, rfl, q⟩⟩
theorem ne_sets (T : EqD P w K mg base C) (pa : PlAt C H a s) (pb : PlAt C H b t) {x : Bool} (e : x = !decide (s.w = t.w ∧ s.cy = t.cy ∧ s.st = t.st)) {Q : VK} (q : Q (.bl x) H) : rNeB P w K mg base 1 (.ref a) (.ref b) H Q := by
  obtain ⟨dx, ha⟩ := pa
  obtain ⟨dy, hb⟩ := pb
  subst e
  exact ⟨a, C, dx, _, _, .ref C, rfl, ha, T.eq, .ins hb, by unfold PySem.W.notFirst; simp, a, s, .ref b, rfl, ⟨dx, ha⟩, .inr ⟨b, t, rfl, ⟨dy, hb⟩, _, rfl, q⟩⟩
/-- a value of another kind -/
def Other (H : Hp) (y : V) : Prop := ∃ T ∈ types7, RightB H y (.type T)
theorem eq_other (T : EqD P w K mg base C) (pa : PlAt C H a s) (o : Other H y) {Q : VK} (q : Q (.bl false) H) : rEqB P w K mg base 1 (.ref a) y H Q := by
  obtain ⟨dx, ha⟩ := pa
  obtain ⟨ty, ht, r⟩ := o
  exact ⟨a, C, dx, _, _, .type ty, rfl, ha, T.eq, r, T.nf _ ht, a, s, y, rfl, ⟨dx, ha⟩, .inl ⟨_, right_tyB r, T.nt _ ht, _, rfl, q⟩⟩
theorem ne_other (T : EqD P w K mg base C) (pa : PlAt C H a s) (o : Other H y) {Q : VK} (q : Q (.bl true) H) : rNeB P w K mg base 1 (.ref a) y H Q := by
  obtain ⟨dx, ha⟩ := pa
  obtain ⟨ty, ht, r⟩ := o
  exact ⟨a, C, dx, _, _, .type ty, rfl, ha, T.eq, r, T.nf _ ht, a, s, y, rfl, ⟨dx, ha⟩, .inl ⟨_, right_tyB r, T.nt _ ht, _, rfl, q⟩⟩
end
theorem nx_go {u : Ends → L2.St → Hp → Prop} {D D' : Ends} {σ : L2.St} {H : Hp} (h : u D σ H) : Ends.nx { D' with nx := u D } σ H := h
theorem deck_same {H H' : Hp} {d : Addr} (h : DeckAt H d) (s : Same H H') : DeckAt H' d := by
  obtain ⟨x, y, z, p1, p2, e⟩ := h
  exact ⟨x, y, z, p1, p2, s _ _ e⟩
theorem due_of {ml : List Bool} {begin : Nat} {s : Mk.Kept} (AG : Agree ml begin s) : (List.range (Mk.len s.st)).filter (fun i => ml.getD i false) = s.from 0 (Mk.len s.st) ∧ (List.range s.w).filter (fun i => ml.getD (Mk.len s.st + i) false) = s.from (Mk.len s.st) s.w ∧
    ∀ pb pr, ∃ lv : V, shapeV (Mk.len s.st) s.w pb pr ml begin = [.int (Mk.len s.st : Int), .int (s.w : Int), .ref pb, .ref pr, lv, .bl (decide (s.cy = 0)), .bl (decide (s.cy ||| s.st ≠ 0))] := by
  have inb := AG.inb
  refine ⟨?_, ?_, fun pb pr => ⟨(nats ((List.range ml.length).filter fun i => ml.getD i false)).headD .non, ?_⟩⟩
  · refine List.filter_congr fun n hn => ?_
    rw [Nat.zero_add]
    exact AG.bits n (by have := List.mem_range.mp hn; omega)
  · refine List.filter_congr fun n hn => ?_
    exact AG.bits _ (by have := List.mem_range.mp hn; omega)
  · rw [← AG.fin, ← AG.any]
    rfl
theorem shaped_lines {x : Str} (h : PyData.strOk x = true) : SeqAt.shaped (.list [.str x, .str x]) = true := by
  show ((PyData.strOk x && (PyData.strOk x && true)) && decide (max 0 (max 0 0) + 1 ≤ 64)) = true
  rw [h]
  rfl
theorem eqv_self {d : PyData} (h : SeqAt.shaped d = true) : PyData.eqv d d = true := SeqAt.eqv_refl_plain d (PyData.plain_of_canLay0 d (SeqAt.canLay_of_shaped h))
theorem dq_rep {H : Hp} {z : Str} : ∀ n, DqAll H (List.replicate n (V.str z)) (List.replicate n (PyData.str z))
  | 0 => .nil
  | n + 1 => .cons (.str z) (dq_rep n)
theorem shaped_rep : SeqAt.shaped (.list (List.replicate 12 (PyData.str "[False, True]"))) = true := by decide +kernel
theorem shown_two : (PyData.list [.bool false, .bool true]).shown = "[False, True]" := by decide +kernel
theorem small_two (a b : Bool) : Small (.list [.bool a, .bool b]) := by cases a <;> cases b <;> exact ⟨rfl, by decide, by decide +kernel⟩
theorem small_five : Small (.list [.bool true, .bool true, .bool false, .bool false, .bool true]) := ⟨rfl, by decide, by decide +kernel⟩
def spRight : Sp := fun vs H Q _ => ∃ d, vs = [.ref d] ∧ DeckAt H d ∧ ∀ H', But d H H' → Q (.bl true) H'
def NX : List Str := ["_law_deck_here", "_law_frame_here", "_law_rule_here", "_law_mate", "_law_near", "_law_mine", "_law_twin", "_law_other", "_law_bent", "_law_is_same", "_law_told", "_law_marks_here", "_law_begin", "_law_due", "_law_below", "_law_line", "_law_things", "_law_thing"]
theorem scRight : FnScope NX ["_law_deck_here"] (defScope s_law_right) := ⟨rfl, rfl, rfl, by decide +kernel, rfl, by decide +kernel, by decide +kernel⟩
section
variable {P : Program} {w : World} {K : PySem.W.Frag} {mg : Str → Option Value} {base : Heap} {f C : Addr} {cdv : Value}
theorem right_rest (Z : Bp mg) (M : Mods base) (D : Can P w K mg base C) (ED : EqD P w K mg base C) {A : Around} {outer : List Env} {s : Shared} {H0 : Hp} {E : XK} (hr : Room 14 (A.deeper (envOfC "_law_right" (defScope s_law_right) s.heap.objs.size f cdv))) (gd : A.guards = some []) :
    ∃ t2, PSs (cxOf CX0 P w K mg base NX "_law_right" (defScope s_law_right) f cdv A outer s H0 E).nox ((defBody s_law_right).drop 14) t2 ∧
      ∀ (Dn : Ends) (a0 a1 p2 pb pr : Addr) (k0 : Mk.Kept) (ln : Str) (lv : V) (o0 o1 o2 o3 o4 o7 o8 o9 o10 o11 o12 : Option V) (H : Hp), PlAt C H a0 k0 → PlAt C H a1 k0 → k0.Fit → Mk.len k0.st ≤ 1400 → k0.w ≤ 1400 →
        H p2 = some (.lst [.int (Mk.len k0.st : Int), .int (k0.w : Int), .ref pb, .ref pr, lv, .bl (decide (k0.cy = 0)), .bl (decide (k0.cy ||| k0.st ≠ 0))]) → H pb = some (.tup (nats (k0.from 0 (Mk.len k0.st)))) → ln = lineOf k0 → PyData.strOk ln = true → (∀ H', Same H H' → Dn.rt (.bl true) H') →
        t2 Dn [o0, o1, o2, o3, o4, some (.ref a0), some (.ref a1), o7, o8, o9, o10, o11, o12, some (.ref p2), some (.ref pb), some (.str ln), none, none] H := by
  have r1 := hr.mono (by decide : 1 ≤ 14)
  have r2 := hr.mono (by decide : 2 ≤ 14)
  have r3 := hr.mono (by decide : 3 ≤ 14)
  have r8 := hr.mono (by decide : 8 ≤ 14)
  refine ⟨_, (pss_cons (ps_if (PW.pt (pw_or (pt_cmpR (op_neQ hr.units) (pe_lst (pa_cons (pe_callB (call_show ED.sh r8) (by rfl) Z.repr PyProof.Rows.boot_repr (pa_cons (pv 5) pa_nil)) (pa_cons (pe_callB (call_show ED.sh r8) (by rfl) Z.repr PyProof.Rows.boot_repr (pa_cons (pv 6) pa_nil)) pa_nil))) (pe_lst (pa_cons (pv 15) (pa_cons (pv 15) pa_nil))) (nomark _))
        (pw_or1 (pt_cmpR op_ne (pe_callB (call_reprD gd hr.units M) (by rfl) Z.repr PyProof.Rows.boot_repr (pa_cons (pe_callTy (call_boolB (k := 1) r3) (by rfl) Z.bool (by decide +kernel) (pa_cons (pv 5) pa_nil)) pa_nil)) (pe_callB (call_reprD gd hr.units M) (by rfl) Z.repr PyProof.Rows.boot_repr (pa_cons (pe_ix ix_list (pv 13) pe_int (fun _ _ => rfl)) pa_nil)) (nomark _)))))
        (pss_one (ps_ret pe_bl)) pss_nil)
    (pss_cons (ps_set (i := 16) scRight.nd rfl (Or.inl rfl) (pe_lst (pa_cons pe_non (pa_cons pe_int (pa_cons pe_int (pa_cons pe_bl (pa_cons pe_bl (pa_cons pe_str (pa_cons (pv 15) (pa_cons (pe_tup pa_nil) pa_nil))))))))))
    (pss_cons (ps_set (i := 16) scRight.nd rfl (Or.inl rfl) (pe_op op_cat (pv 16) (pe_lst (pa_cons (pv 14) (pa_cons (pe_callTy call_list_of (by rfl) Z.list (by decide +kernel) (pa_cons (pv 14) pa_nil)) (pa_cons (pe_lst pa_nil) (pa_cons pe_dnewK pa_nil)))))))
    (pss_cons (ps_setLc (i := 10) (te := tCB rRepr (tCons (tLst (tCons (tOp (rEqB P w K mg base 1) (tVar 5) (tVar 17)) (tCons (tOp (rNeB P w K mg base 1) (tVar 5) (tVar 17)) tNil))) tNil)) (own := [("_law_thing", 17)]) (g := gName 17) (tt := tYes) rfl scRight.nd rfl rfl (sw_true rfl rfl rfl rfl) (pi_list (pv 16))
        (blkOk_by (N := NX) (sc := defScope s_law_right) (by decide +kernel)) (fun _ _ _ _ _ => pg_name (i := 17) scRight.nd rfl (Or.inl rfl)) (fun _ _ _ _ _ => pts_nil)
        (fun _ _ _ _ _ => pe_callB (call_reprD gd hr.units M) (by rfl) Z.repr PyProof.Rows.boot_repr (pa_cons (pe_lst (pa_cons (pe_cmpR (op_eqB r1) (pv 5) (pv 17) (nomark _)) (pa_cons (pe_cmpR (op_neB r2) (pv 5) (pv 17) (nomark _)) pa_nil))) pa_nil)))
    (pss_one (ps_ret (pe_cmpR (op_eqQ hr.units) (pv 10) (pe_op op_rep (pe_lst (pa_cons pe_str pa_nil)) pe_int) (nomark _)))))))), ?_⟩
  intro Dn a0 a1 p2 pb pr k0 ln lv o0 o1 o2 o3 o4 o7 o8 o9 o10 o11 o12 H pl0 pl1 fit L3 L4 hp2 hb2 el ok q
  have ne0 : ∀ x : Str, (!decide (V.str x = V.str x)) = false := fun x => by rw [decide_eq_true rfl]; rfl
  have plA := pl0
  obtain ⟨dx, ha⟩ := plA
  obtain ⟨dy, hb⟩ := pl1
  refine ⟨_, rfl, a0, dx, _, rfl, ha, a0, k0, rfl, ⟨dx, ha⟩, fit, by omega, by omega, fun H22 s22 => ⟨_, rfl, ?_⟩⟩
  rw [← el]
  have hb := s22 _ _ hb
  refine ⟨_, rfl, a1, dy, _, rfl, hb, a1, k0, rfl, ⟨dy, hb⟩, fit, by omega, by omega, fun H23 s23 => ⟨_, rfl, ?_⟩⟩
  rw [← el]
  refine ⟨(by show 2 ≤ sizeLine; decide), fun q1 nq1 => ?_⟩
  have t1 := same_new nq1 (.lst [V.str ln, .str ln])
  refine ⟨_, rfl, _, rfl, (by show 2 ≤ sizeLine; decide), fun q2 nq2 => ?_⟩
  have t2 := same_new nq2 (.lst [V.str ln, .str ln])
  refine ⟨.list [.str ln, .str ln], .list [.str ln, .str ln], .lst (upd_other upd_same nq2) (.cons (.str _) (.cons (.str _) .nil)), .lst upd_same (.cons (.str _) (.cons (.str _) .nil)), shaped_lines ok, shaped_lines ok, _, rfl, ?_⟩
  rw [eqv_self (shaped_lines ok)]
  refine iteF ?_
  have s24 := ((s22.trans s23).trans t1).trans t2
  have pl0 := pl0.same s24
  have ha := s24 _ _ ha
  have hp2 := s24 _ _ hp2
  have hb2 := s24 _ _ hb2
  clear t1 t2 nq1 nq2 hb s22 s23
  refine ⟨_, rfl, a0, C, dx, _, _, rfl, ha, D.bool, a0, k0, rfl, ⟨dx, ha⟩, _, rfl, _, .bool (decide (k0.cy ||| k0.st ≠ 0)), rfl, .bl _, small_bool _, ?_⟩
  refine ⟨_, rfl, p2, _, 6, _, rfl, rfl, SqL.of hp2, atI_nat (j := 6) rfl, _, .bool (decide (k0.cy ||| k0.st ≠ 0)), rfl, .bl _, small_bool _, rfl, _, rfl, ?_⟩
  rw [ne0]
  refine iteF ?_
  -- things of other kinds
  refine ⟨_, rfl, (by show 0 ≤ sizeLine; decide), fun t1 n1 => ?_⟩
  have g1 := same_new n1 (.tup [])
  have h1 : upd _ t1 (.tup []) t1 = some (.tup []) := upd_same (H := upd (upd H23 q1 (.lst [V.str ln, .str ln])) q2 (.lst [V.str ln, .str ln]))
  have pl0 := pl0.same g1
  have hb2 := g1 _ _ hb2
  have s25 := s24.trans g1
  generalize upd (upd (upd H23 q1 (.lst [V.str ln, .str ln])) q2 (.lst [V.str ln, .str ln])) t1 (.tup []) = H25 at h1 pl0 hb2 s25 ⊢
  clear g1 n1 s24 ha hp2
  refine ⟨(by show 8 ≤ sizeLine; decide), fun t2 n2 => ?_⟩
  have g2 := same_new n2 (.lst [V.non, .int 0, .int 1, .bl true, .bl false, .str "", .str ln, .ref t1])
  have h2 : upd H25 t2 (.lst [V.non, .int 0, .int 1, .bl true, .bl false, .str "", .str ln, .ref t1]) t2 = some (.lst [V.non, .int 0, .int 1, .bl true, .bl false, .str "", .str ln, .ref t1]) := upd_same
  have h1 := g2 _ _ h1
  have pl0 := pl0.same g2
  have hb2 := g2 _ _ hb2
  have s26 := s25.trans g2
  generalize upd H25 t2 (.lst [V.non, .int 0, .int 1, .bl true, .bl false, .str "", .str ln, .ref t1]) = H26 at h2 h1 pl0 hb2 s26 ⊢
  clear g2 n2 s25
  refine name_go2 ?_
  refine ⟨_, rfl, _, rfl, _, rfl, pb, _, rfl, .inr (SqT.of hb2), fun t3 n3 => ?_⟩
  have g3 := same_new n3 (.lst (nats (k0.from 0 (Mk.len k0.st))))
  have h3 : upd H26 t3 (.lst (nats (k0.from 0 (Mk.len k0.st)))) t3 = some (.lst (nats (k0.from 0 (Mk.len k0.st)))) := upd_same
  have h1 := g3 _ _ h1
  have h2 := g3 _ _ h2
  have pl0 := pl0.same g3
  have hb2 := g3 _ _ hb2
  have s27 := s26.trans g3
  generalize upd H26 t3 (.lst (nats (k0.from 0 (Mk.len k0.st)))) = H27 at h3 h2 h1 pl0 hb2 s27 ⊢
  clear g3 n3 s26
  refine ⟨(by show 0 ≤ sizeLine; decide), fun t4 n4 => ?_⟩
  have g4 := same_new n4 (.lst [])
  have h4 : upd H27 t4 (.lst []) t4 = some (.lst []) := upd_same
  have h1 := g4 _ _ h1
  have h2 := g4 _ _ h2
  have h3 := g4 _ _ h3
  have pl0 := pl0.same g4
  have hb2 := g4 _ _ hb2
  have s28 := s27.trans g4
  generalize upd H27 t4 (.lst []) = H28 at h4 h3 h2 h1 pl0 hb2 s28 ⊢
  clear g4 n4 s27
  refine fun t5 n5 => ?_
  have g5 := same_new n5 (.dK [])
  have h5 : upd H28 t5 (.dK []) t5 = some (.dK []) := upd_same
  have h1 := g5 _ _ h1
  have h2 := g5 _ _ h2
  have h3 := g5 _ _ h3
  have h4 := g5 _ _ h4
  have pl0 := pl0.same g5
  have hb2 := g5 _ _ hb2
  have s29 := s28.trans g5
  generalize upd H28 t5 (.dK []) = H29 at h5 h4 h3 h2 h1 pl0 hb2 s29 ⊢
  clear g5 n5 s28
  refine ⟨(by show 4 ≤ sizeLine; decide), fun t6 n6 => ?_⟩
  have g6 := same_new n6 (.lst [V.ref pb, .ref t3, .ref t4, .ref t5])
  refine ⟨t2, t6, _, _, rfl, rfl, g6 _ _ h2, upd_same, (by show 8 + 4 ≤ sizeLine; decide), fun t7 n7 => name_go2 ?_⟩
  have g7 := g6.trans (same_new n7 (.lst ([V.non, .int 0, .int 1, .bl true, .bl false, .str "", .str ln, .ref t1] ++ [V.ref pb, .ref t3, .ref t4, .ref t5])))
  have h7 : upd (upd H29 t6 (.lst [V.ref pb, .ref t3, .ref t4, .ref t5])) t7 (.lst ([V.non, .int 0, .int 1, .bl true, .bl false, .str "", .str ln, .ref t1] ++ [V.ref pb, .ref t3, .ref t4, .ref t5])) t7 = some (.lst [V.non, .int 0, .int 1, .bl true, .bl false, .str "", .str ln, .ref t1, .ref pb, .ref t3, .ref t4, .ref t5]) := upd_same
  have h1 := g7 _ _ h1
  have h3 := g7 _ _ h3
  have h4 := g7 _ _ h4
  have h5 := g7 _ _ h5
  have pl0 := pl0.same g7
  have hb2 := g7 _ _ hb2
  have s30 := s29.trans g7
  generalize upd (upd H29 t6 (.lst [V.ref pb, .ref t3, .ref t4, .ref t5])) t7 (.lst ([V.non, .int 0, .int 1, .bl true, .bl false, .str "", .str ln, .ref t1] ++ [V.ref pb, .ref t3, .ref t4, .ref t5])) = H30 at h7 h5 h4 h3 h1 pl0 hb2 s30 ⊢
  clear g6 n6 g7 n7 s29 h2
  have menu : ∀ x ∈ [V.non, .int 0, .int 1, .bl true, .bl false, .str "", .str ln, .ref t1, .ref pb, .ref t3, .ref t4, .ref t5], Other H30 x := by
    intro x hx
    simp only [List.mem_cons, List.not_mem_nil, or_false] at hx
    rcases hx with rfl | rfl | rfl | rfl | rfl | rfl | rfl | rfl | rfl | rfl | rfl | rfl
    · exact ⟨"NoneType", by simp [types7], .non⟩
    · exact ⟨"int", by simp [types7], .int _⟩
    · exact ⟨"int", by simp [types7], .int _⟩
    · exact ⟨"bool", by simp [types7], .bl _⟩
    · exact ⟨"bool", by simp [types7], .bl _⟩
    · exact ⟨"str", by simp [types7], .str _⟩
    · exact ⟨"str", by simp [types7], .str _⟩
    · exact ⟨"tuple", by simp [types7], .tup h1⟩
    · exact ⟨"tuple", by simp [types7], .tup hb2⟩
    · exact ⟨"list", by simp [types7], .lst h3⟩
    · exact ⟨"list", by simp [types7], .lst h4⟩
    · exact ⟨"dict", by simp [types7], .dK h5⟩
  refine ⟨_, rfl, t7, rfl, ⟨_, SqL.of h7⟩, fun E1 hE1 => ?_⟩
  refine lc_list (K := K) (a := t7) (xs := [V.non, .int 0, .int 1, .bl true, .bl false, .str "", .str ln, .ref t1, .ref pb, .ref t3, .ref t4, .ref t5]) (fun i H' => Same H30 H' ∧ H' E1 = some (.lst (List.replicate i (V.str "[False, True]")))) ⟨same_new hE1 _, upd_same⟩ (fun i H' _ h => SqL.of (h.1 _ _ h7)) ?_ ?_
  · rintro i v H' hv ⟨s1, e1⟩
    obtain ⟨ty, hty, rb⟩ := menu v (List.mem_of_getElem? hv)
    have o : Other H' v := ⟨ty, hty, rightB_same rb s1⟩
    have hi : i < 12 := (List.getElem?_eq_some_iff.mp hv).1
    have pl := pl0.same s1
    refine ⟨rfl, turn_yes ⟨_, rfl, _, rfl, eq_other ED pl o ?_⟩⟩
    refine ⟨_, rfl, _, rfl, ne_other ED pl o ?_⟩
    refine ⟨(by show 2 ≤ sizeLine; decide), fun x nx => ?_⟩
    refine ⟨_, .list ([false, true].map PyData.bool), rfl, .lst upd_same (dq_bools [false, true]), small_two _ _, ?_⟩
    rw [show (PyData.list ([false, true].map PyData.bool)).shown = "[False, True]" from shown_two]
    refine ⟨_, upd_other e1 nx, ?_, ?_, ?_⟩
    · rw [List.length_replicate, sizeLine_eq]
      omega
    · exact same_at hE1 (s1.trans (same_new nx _))
    · rw [upd_same, List.replicate_succ']
  · rintro H31 ⟨s1, e1⟩
    have e1 : H31 E1 = some (.lst (List.replicate 12 (V.str "[False, True]"))) := e1
    refine ⟨_, rfl, (by show 1 ≤ sizeLine; decide), fun y1 ny1 => ?_⟩
    refine ⟨y1, 12, _, rfl, rfl, upd_same, by decide, by decide, (by show 1 * 12 ≤ sizeLine; decide), fun y2 ny2 => ?_⟩
    refine ⟨.list (List.replicate 12 (.str "[False, True]")), .list (List.replicate 12 (.str "[False, True]")), .lst (upd_other (upd_other e1 ny1) ny2) (dq_rep 12), .lst upd_same (dq_rep 12), shaped_rep, shaped_rep, ?_⟩
    rw [eqv_self shaped_rep]
    exact q _ (((s30.trans s1).trans (same_new ny1 _)).trans (same_new ny2 _))
end
end Wp

namespace Wp
open PySem PySem.Spec PyProof.Rows L2 Hx
section
variable {P : Program} {w : World} {K : PySem.W.Frag} {mg : Str → Option Value} {base : Heap} {f fF fR fS fC fO fA fM fI fH C : Addr} {fd fdF fdR fdS fdC fdO fdA fdM fdI fdH : FuncData}
theorem ok_right (F : Fun K "_law_right" "_law_right" s_law_right f fd) (Z : Bp mg) (M : Mods base) (D : Can P w K mg base C) (ED : EqD P w K mg base C)
    (GF : FnOk P w K mg base CX0 3 fF fdF ["_law_deck_here"] spFrameD) (bF : Binds K fdF ["_law_deck_here"] []) (kF : PySem.W.keepIn K (.ref fF) = true) (mF : mg "_law_frame" = some (.ref fF))
    (GR : FnOk P w K mg base CX0 5 fR fdR ["_law_deck_here", "_law_frame_here", "_law_deep"] (spRuleD 3)) (bR : Binds K fdR ["_law_deck_here", "_law_frame_here", "_law_deep"] []) (kR : PySem.W.keepIn K (.ref fR) = true) (mR : mg "_law_rule" = some (.ref fR))
    (GS : FnOk P w K mg base CX0 14 fS fdS ["_law_rule_here"] (spSetR C 6)) (bS : Binds K fdS ["_law_rule_here"] []) (kS : PySem.W.keepIn K (.ref fS) = true) (mS : mg "_law_set" = some (.ref fS))
    (GC : FnOk P w K mg base CX0 1 fC fdC ["_law_deck_here", "_law_top"] spCard) (bC : Binds K fdC ["_law_deck_here", "_law_top"] []) (kC : PySem.W.keepIn K (.ref fC) = true) (mC : mg "_law_card" = some (.ref fC))
    (GO : FnOk P w K mg base CX0 2 fO fdO ["_law_deck_here", "_law_rule_here", "_law_mate"] spOther) (bO : Binds K fdO ["_law_deck_here", "_law_rule_here", "_law_mate"] []) (kO : PySem.W.keepIn K (.ref fO) = true) (mO : mg "_law_otherwise" = some (.ref fO))
    (GA : FnOk P w K mg base CX0 5 fA fdA ["_law_rule_here", "_law_mate"] (spSame 3)) (bA : Binds K fdA ["_law_rule_here", "_law_mate"] []) (kA : PySem.W.keepIn K (.ref fA) = true) (mA : mg "_law_same" = some (.ref fA))
    (GM : FnOk P w K mg base CX0 5 fM fdM ["_law_rule_here"] (spMarksR 3)) (bM : Binds K fdM ["_law_rule_here"] []) (kM : PySem.W.keepIn K (.ref fM) = true) (mM : mg "_law_marks" = some (.ref fM))
    (GI : GOk P w K mg base CX0 8 fI fdI ["_law_mine", "_law_marks_here", "_law_begin"] (spIsSet K C)) (bI : Binds K fdI ["_law_mine", "_law_marks_here", "_law_begin"] []) (kI : PySem.W.keepIn K (.ref fI) = true) (mI : mg "_law_is_set" = some (.ref fI))
    (GH : FnOk P w K mg base CX0 1 fH fdH ["_law_marks_here", "_law_begin"] (spShape K)) (bH : Binds K fdH ["_law_marks_here", "_law_begin"] []) (kH : PySem.W.keepIn K (.ref fH) = true) (mH : mg "_law_shape" = some (.ref fH)) :
    GOk P w K mg base CX0 15 f fd ["_law_deck_here"] spRight := by
  refine gok0 F scRight (fun vs H Q E h => ?_) (fun cdv A outer s H vs Q E hr gd h => ?_)
  · obtain ⟨d, rfl, _⟩ := h
    rfl
  obtain ⟨d, rfl, hd, q⟩ := h
  have r1 := hr.mono (by decide : 1 ≤ 14)
  have r2 := hr.mono (by decide : 2 ≤ 14)
  have r3 := hr.mono (by decide : 3 ≤ 14)
  have r5 := hr.mono (by decide : 5 ≤ 14)
  have r8 := hr.mono (by decide : 8 ≤ 14)
  obtain ⟨t2, hp2, hread⟩ := right_rest Z M D ED (cdv := cdv) (f := f) (A := A) (outer := outer) (s := s) (H0 := H) (E := E) hr gd
  refine ⟨_, pss_cons (ps_set (i := 1) scRight.nd rfl (Or.inl rfl) (pe_call GF r3 rfl mF kF bF .nil pass0 (pa_cons (pv 0) pa_nil)))
    (pss_cons (ps_par (i := 2) (j := 3) rfl scRight.nd rfl rfl (by decide) rfl rfl (pa_cons (pe_call GR r5 rfl mR kR bR .nil pass0 (pa_cons (pv 0) (pa_cons (pv 1) (pa_cons pe_int pa_nil)))) (pa_cons (pe_call GR r5 rfl mR kR bR .nil pass0 (pa_cons (pv 0) (pa_cons (pv 1) (pa_cons pe_int pa_nil)))) pa_nil)) rfl)
    (pss_cons (ps_set (i := 4) scRight.nd rfl (Or.inl rfl) (pe_tup (pa_cons pe_str (pa_cons (pv 2) (pa_cons (pe_tup (pa_cons pe_str (pa_cons (pe_lst (pa_cons (pe_call GC r1 rfl mC kC bC .nil pass0 (pa_cons (pv 0) (pa_cons (pe_ix ix_list (pv 1) pe_int (fun _ _ => rfl)) pa_nil))) pa_nil)) pa_nil))) pa_nil)))))
    (pss_cons (ps_asg (pe_tup (pa_cons (pe_call GS hr rfl mS kS bS .nil pass0 (pa_cons (pv 2) pa_nil)) (pa_cons (pe_call GS hr rfl mS kS bS .nil pass0 (pa_cons (pe_call GO r2 rfl mO kO bO .nil pass0 (pa_cons (pv 0) (pa_cons (pv 2) (pa_cons (pv 3) pa_nil)))) pa_nil)) (pa_cons (pe_call GS hr rfl mS kS bS .nil pass0 (pa_cons (pv 3) pa_nil)) pa_nil)))) (pg_tup (by rfl) (pgs_cons (pg_name (i := 5) scRight.nd rfl (Or.inr rfl)) (pgs_cons (pg_name (i := 6) scRight.nd rfl (Or.inl rfl)) (pgs_cons (pg_name (i := 7) scRight.nd rfl (Or.inl rfl)) pgs_nil)))))
    (pss_cons (ps_par (i := 8) (j := 9) rfl scRight.nd rfl rfl (by decide) rfl rfl (pa_cons (pe_call GS hr rfl mS kS bS .nil pass0 (pa_cons (pv 4) pa_nil)) (pa_cons (pe_call GA r5 rfl mA kA bA .nil pass0 (pa_cons (pv 2) (pa_cons (pv 3) pa_nil))) pa_nil)) rfl)
    (pss_cons (ps_set (i := 10) scRight.nd rfl (Or.inl rfl) (pe_lst (pa_cons (pe_cmpR (op_eqB r1) (pv 5) (pv 6) (nomark _)) (pa_cons (pe_cmpR (op_eqB r1) (pv 6) (pv 5) (nomark _)) (pa_cons (pe_cmpR (op_neB r2) (pv 5) (pv 6) (nomark _)) (pa_cons (pe_cmpR (op_eqB r1) (pv 5) (pv 8) (nomark _)) (pa_cons (pe_cmpR (op_neB r2) (pv 5) (pv 8) (nomark _)) pa_nil)))))))
    (pss_cons (ps_if (pt_cmpR op_ne (pe_callB (call_reprD gd hr.units M) (by rfl) Z.repr PyProof.Rows.boot_repr (pa_cons (pv 10) pa_nil)) (pe_callB (call_reprD gd hr.units M) (by rfl) Z.repr PyProof.Rows.boot_repr (pa_cons (pe_lst (pa_cons pe_bl (pa_cons pe_bl (pa_cons pe_bl (pa_cons pe_bl (pa_cons pe_bl pa_nil)))))) pa_nil)) (nomark _)) (pss_one (ps_ret pe_bl)) pss_nil)
    (pss_cons (ps_if (pt_cmpR op_ne (pe_callB (call_reprD gd hr.units M) (by rfl) Z.repr PyProof.Rows.boot_repr (pa_cons (pe_lst (pa_cons (pe_cmpR (op_eqB r1) (pv 5) (pv 7) (nomark _)) (pa_cons (pe_cmpR (op_neB r2) (pv 7) (pv 5) (nomark _)) pa_nil))) pa_nil))
        (pe_callB (call_reprD gd hr.units M) (by rfl) Z.repr PyProof.Rows.boot_repr (pa_cons (pe_lst (pa_cons (pv 9) (pa_cons (pe_not (pv 9)) pa_nil))) pa_nil)) (nomark _)) (pss_one (ps_ret pe_bl)) pss_nil)
    (pss_cons (ps_asg (pe_call GM r5 rfl mM kM bM .nil pass0 (pa_cons (pv 2) pa_nil)) (pg_tup (by rfl) (pgs_cons (pg_name (i := 11) scRight.nd rfl (Or.inl rfl)) (pgs_cons (pg_name (i := 12) scRight.nd rfl (Or.inl rfl)) pgs_nil))))
    (pss_cons (ps_if (PW.pt (pw_or (pt_not (pt_val (pe_callG GI r8 gd rfl mI kI bI .nil pass0 (pa_cons (pv 5) (pa_cons (pv 11) (pa_cons (pv 12) pa_nil)))))) (pw_or1 (pt_not (pt_val (pe_callG GI r8 gd rfl mI kI bI .nil pass0 (pa_cons (pv 6) (pa_cons (pv 11) (pa_cons (pv 12) pa_nil)))))))))
        (pss_one (ps_ret pe_bl)) pss_nil)
    (pss_cons (ps_set (i := 13) scRight.nd rfl (Or.inl rfl) (pe_call GH r1 rfl mH kH bH .nil pass0 (pa_cons (pv 11) (pa_cons (pv 12) pa_nil))))
    (pss_cons (ps_set (i := 14) scRight.nd rfl (Or.inl rfl) (pe_ix ix_list (pv 13) pe_int (fun _ _ => rfl)))
    (pss_cons (ps_set (i := 15) scRight.nd rfl (Or.inl rfl) (pe_op op_add_str (pe_op op_add_str (pe_op op_add_str pe_str (pe_callTy call_str_int (by rfl) Z.str (by decide +kernel) (pa_cons (pe_callB call_len_seq (by rfl) Z.len PySem.boot_len (pa_cons (pv 14) pa_nil)) pa_nil))) pe_str)
        (pe_callTy call_str_int (by rfl) Z.str (by decide +kernel) (pa_cons (pe_ix ix_list (pv 13) pe_int (fun _ _ => rfl)) pa_nil))))
    (pss_cons (ps_set (i := 15) scRight.nd rfl (Or.inl rfl) (pe_op op_add_str (pe_op op_add_str (pe_op op_add_str (pe_op op_add_str (pe_op op_add_str (pv 15) pe_str) (pe_callTy call_str_int (by rfl) Z.str (by decide +kernel) (pa_cons (pe_callB call_len_seq (by rfl) Z.len PySem.boot_len (pa_cons (pe_ix ix_list (pv 13) pe_int (fun _ _ => rfl)) pa_nil)) pa_nil))) pe_str)
        (pe_callTy call_str_int (by rfl) Z.str (by decide +kernel) (pa_cons (pe_ix ix_list (pv 13) pe_int (fun _ _ => rfl)) pa_nil))) pe_str))
    hp2))))))))))))), ?_⟩
  -- frame, rules
  refine ⟨_, rfl, d, rfl, hd, fun fr mn most menu L H1 b1 hd1 nf nm fa => ?_⟩
  have l0 := fa.ok.l0
  have l1 := fa.ok.l1
  have m1 := fa.most1
  have m2 := fa.most2
  refine ⟨_, rfl, _, rfl, d, fr, mn, 2, most, L, menu, rfl, by decide, hd1, nf, nm, fa, fun u0 ru0 H2 b2 hd2 ra0 ok0 dp0 => ?_⟩
  refine ⟨_, rfl, _, rfl, d, fr, mn, 2, most, L, menu, rfl, by decide, hd2, nf, nm, fa.but nf nm b2, fun u1 ru1 H3 b3 hd3 ra1 ok1 dp1 => ?_⟩
  refine ⟨_, _, rfl, ?_⟩
  have fa3 := (fa.but nf nm b2).but nf nm b3
  have ra0 := RulAt.same b3.without ru0 u0 ra0
  have bH := (b1.trans b2).trans b3
  clear hd hd1 hd2 fa b1 b2 b3
  -- near
  refine ⟨_, rfl, _, rfl, _, rfl, fr, _, 0, _, rfl, rfl, SqL.of fa3.fr, atI_nat (j := 0) rfl, d, (most : Int), rfl, by omega, by omega, hd3, fun v H4 v0 v1 b4 hd4 => ?_⟩
  obtain ⟨c, rfl⟩ : ∃ c : Nat, v = (c : Int) := ⟨v.toNat, by omega⟩
  have bH := bH.trans b4
  have ra0 := RulAt.same b4.without ru0 u0 ra0
  have ra1 := RulAt.same b4.without ru1 u1 ra1
  clear fa3 hd3 b4
  refine ⟨(by show 1 ≤ sizeLine; decide), fun pl nl => ?_⟩
  have ndl := hd4.ne nl
  have e1 : But d H4 (upd H4 pl (.lst [V.int (c : Int)])) := But.refl.new nl _
  have hd5 := hd4.but ndl (.lst [V.int (c : Int)])
  have hl : upd H4 pl (.lst [V.int (c : Int)]) pl = some (.lst (nats [c])) := upd_same
  have ra0 := RulAt.same e1.without ru0 u0 ra0
  have ra1 := RulAt.same e1.without ru1 u1 ra1
  have bH := bH.trans e1
  generalize upd H4 pl (.lst [V.int (c : Int)]) = H5 at e1 hd5 hl ra0 ra1 bH ⊢
  refine ⟨(by show 2 ≤ sizeLine; decide), fun pn nn => ?_⟩
  obtain ⟨xn, hd6, e2⟩ := new_nums hd5 (Ne.symm ndl) hl nn
  have ra0 := RulAt.same e2.without ru0 u0 ra0
  have ra1 := RulAt.same e2.without ru1 u1 ra1
  have bH := bH.trans e2
  generalize upd H5 pn (.tup [.str "numbers", .ref pl]) = H6 at xn hd6 e2 ra0 ra1 bH ⊢
  refine ⟨(by show 3 ≤ sizeLine; decide), fun un no => ?_⟩
  obtain ⟨ran, hd7, e3⟩ := new_odd hd6 no ra0 xn
  have ra0 := RulAt.same e3.without ru0 u0 ra0
  have ra1 := RulAt.same e3.without ru1 u1 ra1
  have bH := bH.trans e3
  generalize upd H6 un (.tup [.str "odd", .ref u0, .ref pn]) = H7 at ran hd7 e3 ra0 ra1 bH ⊢
  clear xn hd6 e2 hl hd5 e1 ndl nl hd4 e3 nn no
  have okn : (Rul.bin .odd ru0 (.nums [c])).Ok L := ⟨ok0, (by show 1 ≤ 4; decide), fun m hm => by
    rw [List.mem_singleton.mp hm]
    omega⟩
  have dpn : (Rul.bin .odd ru0 (.nums [c])).deep ≤ 3 := by
    show max ru0.deep 0 + 1 ≤ 3
    omega
  refine name_go2 ?_
  -- sets
  refine ⟨_, rfl, u0, ru0, L, rfl, RulAt.same without_same ru0 u0 ra0, ok0, l0, by omega, by omega, fun a0 k0 H8 s8 pl0 st0 => ?_⟩
  have hd8 := deck_same hd7 s8
  have ra0 := RulAt.same (But.of (d := d) s8).without ru0 u0 ra0
  have ra1 := RulAt.same (But.of (d := d) s8).without ru1 u1 ra1
  have ran := RulAt.same (But.of (d := d) s8).without _ un ran
  have bH := bH.trans (But.of s8)
  clear s8 hd7
  refine ⟨_, rfl, _, rfl, _, rfl, d, u0, u1, ru0, ru1, L, rfl, hd8, ra0, ra1, ok0, ok1, l0, dp0, dp1, fun ut rt H9 b9 hd9 rat okt dpt mt => ?_⟩
  have pl0 := pl0.but (pl0.ne hd8) b9
  have ra0 := RulAt.same b9.without ru0 u0 ra0
  have ra1 := RulAt.same b9.without ru1 u1 ra1
  have ran := RulAt.same b9.without _ un ran
  have bH := bH.trans b9
  clear b9 hd8
  refine ⟨ut, rt, 2 * L, rfl, RulAt.same without_same rt ut rat, okt, by omega, by omega, by omega, fun a1 k1 H10 s10 pl1 st1 => ?_⟩
  obtain rfl : k0 = k1 := (st1.good.ext st0.good fun n => by rw [st1.mem, mt, st0.mem]).symm
  refine ⟨_, rfl, u1, ru1, L, rfl, RulAt.same s10 ru1 u1 (RulAt.same without_same ru1 u1 ra1), ok1, l0, by omega, by omega, fun a2 k2 H11 s11 pl2 st2 => ?_⟩
  refine ⟨(by show 3 ≤ sizeLine; decide), fun T nT => ?_⟩
  have sT := (s10.trans s11).trans (same_new nT (.tup [V.ref a0, .ref a1, .ref a2]))
  have hT : upd H11 T (.tup [V.ref a0, .ref a1, .ref a2]) T = some (.tup [V.ref a0, .ref a1, .ref a2]) := upd_same
  have pl0 := pl0.same sT
  have pl1 := (pl1.same s11).same (same_new nT (.tup [V.ref a0, .ref a1, .ref a2]))
  have pl2 := pl2.same (same_new nT (.tup [V.ref a0, .ref a1, .ref a2]))
  have ra0 := RulAt.same sT ru0 u0 (RulAt.same without_same ru0 u0 ra0)
  have ra1 := RulAt.same sT ru1 u1 (RulAt.same without_same ru1 u1 ra1)
  have ran := RulAt.same sT _ un (RulAt.same without_same _ un ran)
  have bH := bH.trans (But.of (d := d) sT)
  generalize upd H11 T (.tup [V.ref a0, .ref a1, .ref a2]) = H12 at sT hT pl0 pl1 pl2 ra0 ra1 ran bH ⊢
  clear nT s10 s11 sT hd9 rat okt dpt mt
  refine ⟨T, _, rfl, SqT.of hT, rfl, _, _, rfl, _, _, rfl, _, _, rfl, rfl, ?_⟩
  clear hT
  -- near, the same
  refine ⟨_, rfl, un, _, L, rfl, ran, okn, l0, by omega, by omega, fun a3 k3 H13 s13 pl3 st3 => ?_⟩
  have ra0 := RulAt.same s13 ru0 u0 ra0
  have ra1 := RulAt.same s13 ru1 u1 ra1
  refine ⟨_, rfl, _, rfl, u0, u1, ru0, ru1, L, rfl, ra0, ra1, ok0, ok1, l0, by omega, by omega, by omega, fun same H14 s14 hsame => ?_⟩
  refine ⟨_, _, rfl, ?_⟩
  have s1314 := s13.trans s14
  have pl0 := pl0.same s1314
  have pl1 := pl1.same s1314
  have pl2 := pl2.same s1314
  have pl3 := pl3.same s14
  have ra0 := RulAt.same s14 ru0 u0 ra0
  have bH := bH.trans (But.of (d := d) s1314)
  clear ra1 ran s1314 s13 s14
  -- how they compare
  have e00 : true = decide (k0.w = k0.w ∧ k0.cy = k0.cy ∧ k0.st = k0.st) := (decide_eq_true ⟨rfl, rfl, rfl⟩).symm
  have e03 : false = decide (k0.w = k3.w ∧ k0.cy = k3.cy ∧ k0.st = k3.st) := (decide_eq_false fun z => by
    have := (st0.good.same_iff st3.good).mp z c
    rw [st0.mem, st3.mem] at this
    have e : (Rul.bin .odd ru0 (.nums [c])).mem c = !ru0.mem c := by
      show Bool.xor (ru0.mem c) (decide (c ∈ [c])) = _
      rw [decide_eq_true List.mem_cons_self, Bool.xor_true]
    rw [e] at this
    cases hx : ru0.mem c <;> rw [hx] at this <;> cases this).symm
  have e02 : same = decide (k0.w = k2.w ∧ k0.cy = k2.cy ∧ k0.st = k2.st) := by
    rw [Bool.eq_iff_iff, hsame, decide_eq_true_eq, st0.good.same_iff st2.good]
    simp only [st0.mem, st2.mem]
  have e20 : (!same) = !decide (k2.w = k0.w ∧ k2.cy = k0.cy ∧ k2.st = k0.st) := by
    rw [e02]
    exact congrArg (!·) (decide_eq_decide.mpr ⟨fun ⟨x, y, z⟩ => ⟨x.symm, y.symm, z.symm⟩, fun ⟨x, y, z⟩ => ⟨x.symm, y.symm, z.symm⟩⟩)
  refine ⟨_, rfl, _, rfl, eq_sets ED pl0 pl1 e00 ?_⟩
  refine ⟨_, rfl, _, rfl, eq_sets ED pl1 pl0 e00 ?_⟩
  refine ⟨_, rfl, _, rfl, ne_sets ED pl0 pl1 (x := false) (congrArg (!·) e00) ?_⟩
  refine ⟨_, rfl, _, rfl, eq_sets ED pl0 pl3 e03 ?_⟩
  refine ⟨_, rfl, _, rfl, ne_sets ED pl0 pl3 (x := true) (congrArg (!·) e03) ?_⟩
  refine ⟨(by show 5 ≤ sizeLine; decide), fun p1 n1 => ?_⟩
  have s1 := same_new n1 (.lst [V.bl true, .bl true, .bl false, .bl false, .bl true])
  have h1 : upd H14 p1 (.lst [V.bl true, .bl true, .bl false, .bl false, .bl true]) p1 = some (.lst [V.bl true, .bl true, .bl false, .bl false, .bl true]) := upd_same
  generalize upd H14 p1 (.lst [V.bl true, .bl true, .bl false, .bl false, .bl true]) = H15 at s1 h1 ⊢
  refine name_go2 ?_
  refine ⟨_, rfl, _, .list ([true, true, false, false, true].map PyData.bool), rfl, .lst h1 (dq_bools [true, true, false, false, true]), small_five, ?_⟩
  refine ⟨(by show 5 ≤ sizeLine; decide), fun p2 n2 => ?_⟩
  refine ⟨_, .list ([true, true, false, false, true].map PyData.bool), rfl, .lst upd_same (dq_bools [true, true, false, false, true]), small_five, ?_⟩
  have ne0 : ∀ x : Str, (!decide (V.str x = V.str x)) = false := fun x => by rw [decide_eq_true rfl]; rfl
  refine ⟨rfl, _, rfl, ?_⟩
  rw [ne0]
  refine iteF ?_
  have s2 := s1.trans (same_new n2 (.lst [V.bl true, .bl true, .bl false, .bl false, .bl true]))
  have pl0 := pl0.same s2
  have pl1 := pl1.same s2
  have pl2 := pl2.same s2
  have ra0 := RulAt.same s2 ru0 u0 ra0
  have bH := bH.trans (But.of (d := d) s2)
  generalize upd H15 p2 (.lst [V.bl true, .bl true, .bl false, .bl false, .bl true]) = H16 at s2 pl0 pl1 pl2 ra0 bH ⊢
  clear s1 h1 n1 n2 s2 pl3
  refine ⟨_, rfl, _, rfl, eq_sets ED pl0 pl2 e02 ?_⟩
  refine ⟨_, rfl, _, rfl, ne_sets ED pl2 pl0 e20 ?_⟩
  refine ⟨(by show 2 ≤ sizeLine; decide), fun p3 n3 => ?_⟩
  refine ⟨_, .list ([same, !same].map PyData.bool), rfl, .lst upd_same (dq_bools [same, !same]), small_two _ _, ?_⟩
  have s3 := same_new n3 (.lst [V.bl same, .bl (!same)])
  refine ⟨_, rfl, _, rfl, _, rfl, (by show 2 ≤ sizeLine; decide), fun p4 n4 => ?_⟩
  refine ⟨_, .list ([same, !same].map PyData.bool), rfl, .lst upd_same (dq_bools [same, !same]), small_two _ _, ?_⟩
  refine ⟨rfl, _, rfl, ?_⟩
  rw [ne0]
  refine iteF ?_
  have s4 := s3.trans (same_new n4 (.lst [V.bl same, .bl (!same)]))
  have pl0 := pl0.same s4
  have pl1 := pl1.same s4
  have ra0 := RulAt.same s4 ru0 u0 ra0
  have bH := bH.trans (But.of (d := d) s4)
  generalize upd (upd H16 p3 (.lst [V.bl same, .bl (!same)])) p4 (.lst [V.bl same, .bl (!same)]) = H17 at s4 pl0 pl1 ra0 bH ⊢
  clear s3 n3 n4 s4 pl2 e02 e20 e03 e00 hsame st3 st2
  -- the marks
  refine ⟨_, rfl, u0, ru0, L, rfl, ra0, ok0, l0, by omega, by omega, fun p m H18 s18 hp hm => ?_⟩
  refine ⟨p, _, rfl, SqT.of hp, rfl, _, _, rfl, _, _, rfl, rfl, ?_⟩
  have bl := Rul.begin_le ok0
  have sp0 := Rul.size_pos ok0
  have sl := Nat.le_of_dvd l0 (Rul.size_dvd ok0)
  have AG := agree_gen st0.good sp0 (st0.from ok0) (by omega) (by omega)
  rw [← ruleM_of st0] at AG
  have pl0 := pl0.same s18
  have pl1 := pl1.same s18
  have bH := bH.trans (But.of (d := d) s18)
  clear s18 hp ra0
  refine ⟨_, rfl, _, rfl, _, rfl, a0, m, k0, ruleM ru0, ru0.begin, rfl, pl0, SqL.of hm, AG, fun H19 s19 => ⟨_, rfl, iteF ?_⟩⟩
  have pl0 := pl0.same s19
  have pl1 := pl1.same s19
  have hm := s19 _ _ hm
  refine ⟨_, rfl, _, rfl, _, rfl, a1, m, k0, ruleM ru0, ru0.begin, rfl, pl1, SqL.of hm, AG, fun H20 s20 => ⟨_, rfl, iteF ?_⟩⟩
  have pl0 := pl0.same s20
  have pl1 := pl1.same s20
  have hm := s20 _ _ hm
  have bH := bH.trans (But.of (d := d) (s19.trans s20))
  clear s19 s20
  -- what is due
  refine ⟨_, rfl, _, rfl, m, ruleM ru0, ru0.begin, rfl, SqL.of hm, AG.lt, AG.few, fun pace start SH p2 pb pr H21 s21 hp2 hb2 hr2 => ?_⟩
  obtain ⟨rfl, rfl⟩ := AG.sh pace start SH
  obtain ⟨d1, d2, d3⟩ := due_of AG
  obtain ⟨lv, d3⟩ := d3 pb pr
  rw [d1] at hb2
  rw [d2] at hr2
  rw [d3] at hp2
  have pl0 := pl0.same s21
  have pl1 := pl1.same s21
  have bH := bH.trans (But.of (d := d) s21)
  have fit := AG.fit
  have ll := st0.len ok0
  have lw := Nat.le_of_dvd l0 (st0.dvd ok0)
  clear s21 hm AG SH d1 d2 d3
  refine name_go2 ?_
  refine ⟨_, rfl, p2, _, 2, _, rfl, rfl, SqL.of hp2, atI_nat (j := 2) rfl, name_go2 ?_⟩
  have L1 : (k0.from 0 (Mk.len k0.st)).length ≤ 1400 := Nat.le_trans (from_len k0 0 _) (by omega)
  have L2 : (k0.from (Mk.len k0.st) k0.w).length ≤ 1400 := Nat.le_trans (from_len k0 _ _) (by omega)
  have L3 : Mk.len k0.st ≤ 1400 := by omega
  have L4 : k0.w ≤ 1400 := by omega
  obtain ⟨ok, okl⟩ := line_ok L1 L3 L2 L4
  obtain ⟨_, z1⟩ := num_ok _ L1
  obtain ⟨_, z2⟩ := num_ok _ L3
  obtain ⟨_, z3⟩ := num_ok _ L2
  obtain ⟨_, z4⟩ := num_ok _ L4
  -- the line
  refine ⟨_, rfl, pb, _, rfl, .inr (SqT.of hb2), ?_⟩
  rw [nats_len]
  refine ⟨_, rfl, log_ok L1, _, _, rfl, rfl, ?_, _, _, rfl, rfl, ?_, ?_⟩
  · simp only [PySem.Str.length_append, (by decide +kernel : ("Places(" : Str).length = 7)]
    exact small_line (by omega)
  · simp only [PySem.Str.length_append, (by decide +kernel : ("Places(" : Str).length = 7), (by decide +kernel : (" below " : Str).length = 7)]
    exact small_line (by omega)
  refine ⟨_, rfl, p2, _, 0, _, rfl, rfl, SqL.of hp2, atI_nat (j := 0) rfl, _, rfl, log_ok L3, _, _, rfl, rfl, ?_, name_go2 ?_⟩
  · simp only [PySem.Str.length_append, (by decide +kernel : ("Places(" : Str).length = 7), (by decide +kernel : (" below " : Str).length = 7)]
    exact small_line (by omega)
  refine ⟨_, rfl, _, _, rfl, rfl, ?_, ?_⟩
  · simp only [PySem.Str.length_append, (by decide +kernel : ("Places(" : Str).length = 7), (by decide +kernel : (" below " : Str).length = 7), (by decide +kernel : (", " : Str).length = 2)]
    exact small_line (by omega)
  refine ⟨_, rfl, p2, _, 3, _, rfl, rfl, SqL.of hp2, atI_nat (j := 3) rfl, pr, _, rfl, .inr (SqT.of hr2), ?_⟩
  rw [nats_len]
  refine ⟨_, rfl, log_ok L2, _, _, rfl, rfl, ?_, _, _, rfl, rfl, ?_, ?_⟩
  · simp only [PySem.Str.length_append, (by decide +kernel : ("Places(" : Str).length = 7), (by decide +kernel : (" below " : Str).length = 7), (by decide +kernel : (", " : Str).length = 2)]
    exact small_line (by omega)
  · simp only [PySem.Str.length_append, (by decide +kernel : ("Places(" : Str).length = 7), (by decide +kernel : (" below " : Str).length = 7), (by decide +kernel : (", " : Str).length = 2), (by decide +kernel : (" of " : Str).length = 4)]
    exact small_line (by omega)
  refine ⟨_, rfl, p2, _, 1, _, rfl, rfl, SqL.of hp2, atI_nat (j := 1) rfl, _, rfl, log_ok L4, _, _, rfl, rfl, ?_, _, _, rfl, rfl, ?_, ?_⟩
  · simp only [PySem.Str.length_append, (by decide +kernel : ("Places(" : Str).length = 7), (by decide +kernel : (" below " : Str).length = 7), (by decide +kernel : (", " : Str).length = 2), (by decide +kernel : (" of " : Str).length = 4)]
    exact small_line (by omega)
  · simp only [PySem.Str.length_append, (by decide +kernel : ("Places(" : Str).length = 7), (by decide +kernel : (" below " : Str).length = 7), (by decide +kernel : (", " : Str).length = 2), (by decide +kernel : (" of " : Str).length = 4), (by decide +kernel : (")" : Str).length = 1)]
    exact small_line (by omega)
  refine name_go2 ?_
  refine hread _ a0 a1 p2 pb pr k0 _ lv _ _ _ _ _ _ _ _ _ _ _ H21 pl0 pl1 fit L3 L4 hp2 hb2 ?e1 ?e2 (fun H' s' => q H' (bH.trans (But.of s')))
  case e1 => 
    unfold lineOf lineP
    rfl
  case e2 =>
    unfold lineP at ok
    exact ok
end
end Wp

namespace Wp
open PySem PySem.Spec PyProof.Rows L2 Hx
def spLaw (K : PySem.W.Frag) : Sp := fun vs H Q _ => ∃ (a : Addr) (ns : List Int), vs = [.ref a] ∧ SqL K H a (ns.map V.int) ∧ ns.length ≤ 63 ∧ ∀ H', Q (.bl true) H'
theorem scLaw : FnScope ["_law_cells", "_law_turn"] ["_law_cells"] (defScope s_law) := ⟨rfl, rfl, rfl, by decide +kernel, rfl, by decide +kernel, by decide +kernel⟩
section
variable {P : Program} {w : World} {K : PySem.W.Frag} {mg : Str → Option Value} {base : Heap} {f fD fR : Addr} {fd fdD fdR : FuncData}
theorem ok_law (F : Fun K "law" "law" s_law f fd) (Z : Bp mg)
    (GD : FnOk P w K mg base CX0 1 fD fdD ["_law_cells", "_law_turn"] (spDeck K)) (bD : Binds K fdD ["_law_cells", "_law_turn"] []) (kD : PySem.W.keepIn K (.ref fD) = true) (mD : mg "_law_deck" = some (.ref fD))
    (GR : GOk P w K mg base CX0 15 fR fdR ["_law_deck_here"] spRight) (bR : Binds K fdR ["_law_deck_here"] []) (kR : PySem.W.keepIn K (.ref fR) = true) (mR : mg "_law_right" = some (.ref fR)) :
    GOk P w K mg base CX0 16 f fd ["_law_cells"] (spLaw K) := by
  refine gok0 F scLaw (fun vs H Q E h => ?_) (fun cdv A outer s H vs Q E hr gd h => ?_)
  · obtain ⟨a, ns, rfl, _⟩ := h
    rfl
  obtain ⟨a, ns, rfl, hS, h63, q⟩ := h
  have r1 := hr.mono (by decide : 1 ≤ 15)
  refine ⟨_, pss_one (ps_ret (pe_callB (cr_all rfl) (by rfl) Z.all PyProof.Rows.boot_all (pa_cons
      (pe_lc (te := tCall spRight [] E0 (tCons (tCall (spDeck K) [] E0 (tCons (tVar 0) (tCons (tVar 1) tNil))) tNil)) (own := [("_law_turn", 1)]) (g := gName 1) (tt := tYes) rfl scLaw.nd
        (pi_range1 rfl Z.range (pa_cons (pe_callB (call_max2 rfl) (by rfl) Z.max PyProof.Rows.boot_max (pa_cons pe_int (pa_cons
          (pe_callB (call_min2 rfl) (by rfl) Z.min PyProof.Rows.boot_min (pa_cons (pe_callB call_len_seq (by rfl) Z.len PySem.boot_len (pa_cons (pv 0) pa_nil)) (pa_cons pe_int pa_nil))) pa_nil))) pa_nil))
        (blkOk_by (N := ["_law_cells", "_law_turn"]) (sc := defScope s_law) (by decide +kernel))
        (fun _ _ _ _ _ => pg_name (i := 1) scLaw.nd rfl (Or.inl rfl)) (fun _ _ _ _ _ => pts_nil)
        (fun _ _ _ _ _ => pe_callG GR hr gd rfl mR kR bR .nil pass0 (pa_cons (pe_call GD r1 rfl mD kD bD .nil pass0 (pa_cons (pv 0) (pa_cons (pv 1) pa_nil))) pa_nil))) pa_nil))), ?_⟩
  have hl : (ns.map V.int).length = ns.length := List.length_map _
  refine ⟨_, rfl, a, _, rfl, .inl hS, _, _, rfl, _, _, rfl, ?_⟩
  generalize hnum : (if (if (6 : Int) < (((ns.map V.int).length : Nat) : Int) then (6 : Int) else (((ns.map V.int).length : Nat) : Int)) > 2 then (if (6 : Int) < (((ns.map V.int).length : Nat) : Int) then (6 : Int) else (((ns.map V.int).length : Nat) : Int)) else 2) = z
  have hz : 2 ≤ z ∧ z ≤ 6 := by
    rw [← hnum]
    split <;> split <;> omega
  refine ⟨z, rfl, by omega, by omega, fun D hD => ?_⟩
  refine lc_range (lo := 0) (n := z.toNat) (fun i H' => Same H H' ∧ H' D = some (.lst ((List.replicate i true).map V.bl))) ⟨same_new hD _, upd_same⟩ ?_ ?_
  · rintro i H' hi ⟨s5, h5⟩
    refine ⟨rfl, turn_yes ?_⟩
    refine ⟨_, rfl, _, rfl, a, ns, i, ?_, s5.seq hS, h63, fun p H2 s6 np dk => ?_⟩
    · show [V.ref a, V.int (0 + (i : Int))] = _
      rw [Int.zero_add]
    refine ⟨p, rfl, dk, fun H3 b => ?_⟩
    have npD : D ≠ p := ne_of_none h5 np
    refine ⟨_, b _ _ npD (s6 _ _ h5), ?_, ?_, ?_⟩
    · rw [List.length_map, List.length_replicate]
      exact Nat.lt_of_lt_of_le (by omega : i < 1000) (small_line (Nat.le_refl _))
    · intro c o hc
      have nD : c ≠ D := ne_of_none hc hD
      rw [upd_ne nD]
      exact b c o (ne_of_none (s5 c o hc) np) (s6 c o (s5 c o hc))
    · rw [upd_same, List.replicate_succ', List.map_append]
      rfl
  · rintro H' ⟨s5, h5⟩
    refine ⟨D, List.replicate z.toNat true, rfl, SqL.of h5, ?_⟩
    have e : (List.replicate z.toNat true).all id = true := by
      rw [List.all_eq_true]
      intro x hx
      exact (List.eq_of_mem_replicate hx)
    rw [e]
    exact q H'
end
end Wp

namespace Wp
open PySem PySem.Spec PyProof.Rows L2 Hx
/-- what is seen of a def -/
structure DF (K : PySem.W.Frag) (x : Str) (st : Stmt) (f : Addr) : Prop where
  g : PySem.W.nsIn K mainGlobals x = some (some (.ref f))
  fn : ∃ fd, Fun K x x st f fd
/-- of a method -/
structure MF (K : PySem.W.Frag) (C : Addr) (m qual : Str) (st : Stmt) (f : Addr) : Prop where
  at_ : PySem.W.findIn K (.ref C) m = some (some (.ref f))
  isf : PySem.W.isFn K (.ref f) = true
  fn : ∃ fd, Fun K m qual st f fd
section
variable {l : PySem.W.OpenLaw} {w : World} {K : PySem.W.Frag} {h : Heap} {mg : Str → Option Value} {fa : Addr}
variable {C d0 d1 d2 d3 d4 d5 d6 d7 d8 d9 d10 d11 d12 d13 d14 d15 d16 d17 d18 d19 d20 d21 d22 d23 d24 d25 d26 d27 d28 d29 d30 d31 d32 d33 d34 m_init m_contains m_bool m_or m_and m_sub m_xor m_invert m_eq m_repr p_start g_start p_period g_period p_below g_below p_rests g_rests p_least g_least p_is_finite g_is_finite : Addr} {tM tS : Tok} {y_start y_period y_below y_rests y_least y_is_finite : List Value}
theorem all_mk (X : K.In h) (G : h.Ns mainGlobals mg) (hfa : mg "law" = some (.ref fa))
    (gC : PySem.W.nsIn K mainGlobals "Places" = some (some (.ref C)))
    (pg : PySem.W.plainGet K C Str.empty = true)
    (hd : PySem.W.hasDictIn K C = true)
    (po : PySem.W.plainOver K C = true)
    (sa : PySem.W.findIn K (.ref C) "__setattr__" = some (some (.builtin "object.__setattr__")))
    (mk : PySem.W.makesIn K C = true)
    (kc : PySem.W.keepIn K (.ref C) = true)
    (nW : PySem.W.findIn K (.ref C) "width" = some none)
    (nC : PySem.W.findIn K (.ref C) "cycle" = some none)
    (nS : PySem.W.findIn K (.ref C) "strays" = some none)
    (kC : PySem.W.kitOne K (.ref C) (.ref C) = some true)
    (ha : PySem.W.findIn K (.ref C) "__class__" = some (some (.builtin "object.__class__")))
    (hn : PySem.W.specialIn K (.builtin "object.__class__") "__get__" = some (some (.builtin "getset_descriptor.__get__")))
    (sf : PySem.W.selfFirst K C = true)
    (htk : PySem.W.takesIn K (.builtin "object.__class__") = some true)
    (hm : PySem.W.mroIn K C (.type "object") = some true)
    (hne : PySem.W.findIn K (.ref C) "__ne__" = some (some (.builtin "object.__ne__")))
    (nfNoneType : PySem.W.notFirst K C (.type "NoneType") = true)
    (ntNoneType : PySem.W.kitOne K (.type "NoneType") (.ref C) = some false)
    (nfbool : PySem.W.notFirst K C (.type "bool") = true)
    (ntbool : PySem.W.kitOne K (.type "bool") (.ref C) = some false)
    (nfint : PySem.W.notFirst K C (.type "int") = true)
    (ntint : PySem.W.kitOne K (.type "int") (.ref C) = some false)
    (nfstr : PySem.W.notFirst K C (.type "str") = true)
    (ntstr : PySem.W.kitOne K (.type "str") (.ref C) = some false)
    (nflist : PySem.W.notFirst K C (.type "list") = true)
    (ntlist : PySem.W.kitOne K (.type "list") (.ref C) = some false)
    (nftuple : PySem.W.notFirst K C (.type "tuple") = true)
    (nttuple : PySem.W.kitOne K (.type "tuple") (.ref C) = some false)
    (nfdict : PySem.W.notFirst K C (.type "dict") = true)
    (ntdict : PySem.W.kitOne K (.type "dict") (.ref C) = some false)
    (M_init : MF K C "__init__" "Places.__init__" s_Places_init m_init)
    (M_contains : MF K C "__contains__" "Places.__contains__" s_Places_contains m_contains)
    (M_bool : MF K C "__bool__" "Places.__bool__" s_Places_bool m_bool)
    (M_or : MF K C "__or__" "Places.__or__" s_Places_or m_or)
    (M_and : MF K C "__and__" "Places.__and__" s_Places_and m_and)
    (M_sub : MF K C "__sub__" "Places.__sub__" s_Places_sub m_sub)
    (M_xor : MF K C "__xor__" "Places.__xor__" s_Places_xor m_xor)
    (M_invert : MF K C "__invert__" "Places.__invert__" s_Places_invert m_invert)
    (M_eq : MF K C "__eq__" "Places.__eq__" s_Places_eq m_eq)
    (M_repr : MF K C "__repr__" "Places.__repr__" s_Places_repr m_repr)
    (Pa_start : PySem.W.findIn K (.ref C) "start" = some (some (.ref p_start)))
    (Pg_start : PySem.W.specialIn K (.ref p_start) "__get__" = some (some (.builtin "property.__get__")))
    (Pt_start : PySem.W.takesIn K (.ref p_start) = some true)
    (Pr_start : PySem.W.recIn K p_start "property" = some (.ref g_start :: y_start))
    (Pf_start : ∃ fd, Fun K "start" "Places.start" s_Places_start g_start fd)
    (Pa_period : PySem.W.findIn K (.ref C) "period" = some (some (.ref p_period)))
    (Pg_period : PySem.W.specialIn K (.ref p_period) "__get__" = some (some (.builtin "property.__get__")))
    (Pt_period : PySem.W.takesIn K (.ref p_period) = some true)
    (Pr_period : PySem.W.recIn K p_period "property" = some (.ref g_period :: y_period))
    (Pf_period : ∃ fd, Fun K "period" "Places.period" s_Places_period g_period fd)
    (Pa_below : PySem.W.findIn K (.ref C) "below" = some (some (.ref p_below)))
    (Pg_below : PySem.W.specialIn K (.ref p_below) "__get__" = some (some (.builtin "property.__get__")))
    (Pt_below : PySem.W.takesIn K (.ref p_below) = some true)
    (Pr_below : PySem.W.recIn K p_below "property" = some (.ref g_below :: y_below))
    (Pf_below : ∃ fd, Fun K "below" "Places.below" s_Places_below g_below fd)
    (Pa_rests : PySem.W.findIn K (.ref C) "rests" = some (some (.ref p_rests)))
    (Pg_rests : PySem.W.specialIn K (.ref p_rests) "__get__" = some (some (.builtin "property.__get__")))
    (Pt_rests : PySem.W.takesIn K (.ref p_rests) = some true)
    (Pr_rests : PySem.W.recIn K p_rests "property" = some (.ref g_rests :: y_rests))
    (Pf_rests : ∃ fd, Fun K "rests" "Places.rests" s_Places_rests g_rests fd)
    (Pa_least : PySem.W.findIn K (.ref C) "least" = some (some (.ref p_least)))
    (Pg_least : PySem.W.specialIn K (.ref p_least) "__get__" = some (some (.builtin "property.__get__")))
    (Pt_least : PySem.W.takesIn K (.ref p_least) = some true)
    (Pr_least : PySem.W.recIn K p_least "property" = some (.ref g_least :: y_least))
    (Pf_least : ∃ fd, Fun K "least" "Places.least" s_Places_least g_least fd)
    (Pa_is_finite : PySem.W.findIn K (.ref C) "is_finite" = some (some (.ref p_is_finite)))
    (Pg_is_finite : PySem.W.specialIn K (.ref p_is_finite) "__get__" = some (some (.builtin "property.__get__")))
    (Pt_is_finite : PySem.W.takesIn K (.ref p_is_finite) = some true)
    (Pr_is_finite : PySem.W.recIn K p_is_finite "property" = some (.ref g_is_finite :: y_is_finite))
    (Pf_is_finite : ∃ fd, Fun K "is_finite" "Places.is_finite" s_Places_is_finite g_is_finite fd)
    (lM : PySem.W.nsIn K mainGlobals "MOST_MEMBER" = some (some (.int 1000 tM)))
    (lS : PySem.W.nsIn K mainGlobals "MOST_STEP" = some (some (.int 12 tS)))
    (zisinstance : PySem.W.nsIn K mainGlobals "isinstance" = some none)
    (zint : PySem.W.nsIn K mainGlobals "int" = some none)
    (zbool : PySem.W.nsIn K mainGlobals "bool" = some none)
    (zstr : PySem.W.nsIn K mainGlobals "str" = some none)
    (zlen : PySem.W.nsIn K mainGlobals "len" = some none)
    (zall : PySem.W.nsIn K mainGlobals "all" = some none)
    (zlist : PySem.W.nsIn K mainGlobals "list" = some none)
    (ztuple : PySem.W.nsIn K mainGlobals "tuple" = some none)
    (zrange : PySem.W.nsIn K mainGlobals "range" = some none)
    (zmax : PySem.W.nsIn K mainGlobals "max" = some none)
    (zmin : PySem.W.nsIn K mainGlobals "min" = some none)
    (zrepr : PySem.W.nsIn K mainGlobals "repr" = some none)
    (zenumerate : PySem.W.nsIn K mainGlobals "enumerate" = some none)
    (zabs : PySem.W.nsIn K mainGlobals "abs" = some none)
    (zdivmod : PySem.W.nsIn K mainGlobals "divmod" = some none)
    (D0 : DF K "is_integer" s_is_integer d0)
    (D1 : DF K "is_within" s_is_within d1)
    (D2 : DF K "check_within" s_check_within d2)
    (D3 : DF K "full" s_full d3)
    (D4 : DF K "low" s_low d4)
    (D5 : DF K "tiled" s_tiled d5)
    (D6 : DF K "positions" s_positions d6)
    (D7 : DF K "primes_of" s_primes_of d7)
    (D8 : DF K "least_width" s_least_width d8)
    (D9 : DF K "bits_below" s_bits_below d9)
    (D10 : DF K "gathered" s_gathered d10)
    (D11 : DF K "numbers" s_numbers d11)
    (D12 : DF K "steps" s_steps d12)
    (D13 : DF K "common_width" s_common_width d13)
    (D14 : DF K "frame" s_frame d14)
    (D15 : DF K "check_places" s_check_places d15)
    (D16 : DF K "opposite" s_opposite d16)
    (D17 : DF K "_law_deck" s_law_deck d17)
    (D18 : DF K "_law_card" s_law_card d18)
    (D19 : DF K "_law_of" s_law_of d19)
    (D20 : DF K "_law_numbers" s_law_numbers d20)
    (D21 : DF K "_law_shape" s_law_shape d21)
    (D22 : DF K "_law_shape_told" s_law_shape_told d22)
    (D23 : DF K "_law_is_set" s_law_is_set d23)
    (D24 : DF K "_law_frame" s_law_frame d24)
    (D25 : DF K "_law_rule" s_law_rule d25)
    (D26 : DF K "_law_has" s_law_has d26)
    (D27 : DF K "_law_least_common" s_law_least_common d27)
    (D28 : DF K "_law_span" s_law_span d28)
    (D29 : DF K "_law_set" s_law_set d29)
    (D30 : DF K "_law_marks" s_law_marks d30)
    (D31 : DF K "_law_otherwise" s_law_otherwise d31)
    (D32 : DF K "_law_same" s_law_same d32)
    (D33 : DF K "_law_right" s_law_right d33)
    (D34 : DF K "law" s_law d34) :
    ∃ fd : FuncData, (∀ (s : Shared) (u : Value), BindsTo s fd ⟨[u], []⟩ [("_law_cells", u)]) ∧
      ∀ base : Heap, K.In base → base.Ns mainGlobals mg → Mods base → GOk l.prog w K mg base CX0 16 fa fd ["_law_cells"] (spLaw K) := by
  cases (hfa.symm.trans (PySem.W.mg_of X G D34.g))
  obtain ⟨fd0, F0⟩ := D0.fn
  obtain ⟨fd1, F1⟩ := D1.fn
  obtain ⟨fd2, F2⟩ := D2.fn
  obtain ⟨fd3, F3⟩ := D3.fn
  obtain ⟨fd4, F4⟩ := D4.fn
  obtain ⟨fd5, F5⟩ := D5.fn
  obtain ⟨fd6, F6⟩ := D6.fn
  obtain ⟨fd7, F7⟩ := D7.fn
  obtain ⟨fd8, F8⟩ := D8.fn
  obtain ⟨fd9, F9⟩ := D9.fn
  obtain ⟨fd10, F10⟩ := D10.fn
  obtain ⟨fd11, F11⟩ := D11.fn
  obtain ⟨fd12, F12⟩ := D12.fn
  obtain ⟨fd13, F13⟩ := D13.fn
  obtain ⟨fd14, F14⟩ := D14.fn
  obtain ⟨fd15, F15⟩ := D15.fn
  obtain ⟨fd16, F16⟩ := D16.fn
  obtain ⟨fd17, F17⟩ := D17.fn
  obtain ⟨fd18, F18⟩ := D18.fn
  obtain ⟨fd19, F19⟩ := D19.fn
  obtain ⟨fd20, F20⟩ := D20.fn
  obtain ⟨fd21, F21⟩ := D21.fn
  obtain ⟨fd22, F22⟩ := D22.fn
  obtain ⟨fd23, F23⟩ := D23.fn
  obtain ⟨fd24, F24⟩ := D24.fn
  obtain ⟨fd25, F25⟩ := D25.fn
  obtain ⟨fd26, F26⟩ := D26.fn
  obtain ⟨fd27, F27⟩ := D27.fn
  obtain ⟨fd28, F28⟩ := D28.fn
  obtain ⟨fd29, F29⟩ := D29.fn
  obtain ⟨fd30, F30⟩ := D30.fn
  obtain ⟨fd31, F31⟩ := D31.fn
  obtain ⟨fd32, F32⟩ := D32.fn
  obtain ⟨fd33, F33⟩ := D33.fn
  obtain ⟨fd34, F34⟩ := D34.fn
  obtain ⟨fm_init, N_init⟩ := M_init.fn
  obtain ⟨fm_contains, N_contains⟩ := M_contains.fn
  obtain ⟨fm_bool, N_bool⟩ := M_bool.fn
  obtain ⟨fm_or, N_or⟩ := M_or.fn
  obtain ⟨fm_and, N_and⟩ := M_and.fn
  obtain ⟨fm_sub, N_sub⟩ := M_sub.fn
  obtain ⟨fm_xor, N_xor⟩ := M_xor.fn
  obtain ⟨fm_invert, N_invert⟩ := M_invert.fn
  obtain ⟨fm_eq, N_eq⟩ := M_eq.fn
  obtain ⟨fm_repr, N_repr⟩ := M_repr.fn
  have P_start : PropOf K C "start" p_start g_start := ⟨Pa_start, Pg_start, Pt_start, ⟨_, Pr_start⟩⟩
  obtain ⟨fp_start, O_start⟩ := Pf_start
  have P_period : PropOf K C "period" p_period g_period := ⟨Pa_period, Pg_period, Pt_period, ⟨_, Pr_period⟩⟩
  obtain ⟨fp_period, O_period⟩ := Pf_period
  have P_below : PropOf K C "below" p_below g_below := ⟨Pa_below, Pg_below, Pt_below, ⟨_, Pr_below⟩⟩
  obtain ⟨fp_below, O_below⟩ := Pf_below
  have P_rests : PropOf K C "rests" p_rests g_rests := ⟨Pa_rests, Pg_rests, Pt_rests, ⟨_, Pr_rests⟩⟩
  obtain ⟨fp_rests, O_rests⟩ := Pf_rests
  have P_least : PropOf K C "least" p_least g_least := ⟨Pa_least, Pg_least, Pt_least, ⟨_, Pr_least⟩⟩
  obtain ⟨fp_least, O_least⟩ := Pf_least
  have P_is_finite : PropOf K C "is_finite" p_is_finite g_is_finite := ⟨Pa_is_finite, Pg_is_finite, Pt_is_finite, ⟨_, Pr_is_finite⟩⟩
  obtain ⟨fp_is_finite, O_is_finite⟩ := Pf_is_finite
  have b0 := F0.binds (ps := ["value"]) fun _ _ _ _ _ _ us hl => match us, hl with | [_], _ => rfl
  have b1 := F1.binds (ps := ["value", "least", "most"]) fun _ _ _ _ _ _ us hl => match us, hl with | [_, _, _], _ => rfl
  have b2 := F2.binds (ps := ["given", "least", "most"]) fun _ _ _ _ _ _ us hl => match us, hl with | [_, _, _], _ => rfl
  have b3 := F3.binds (ps := ["many"]) fun _ _ _ _ _ _ us hl => match us, hl with | [_], _ => rfl
  have b4 := F4.binds (ps := ["bits", "many"]) fun _ _ _ _ _ _ us hl => match us, hl with | [_, _], _ => rfl
  have b5 := F5.binds (ps := ["pattern", "width", "many"]) fun _ _ _ _ _ _ us hl => match us, hl with | [_, _, _], _ => rfl
  have b6 := F6.binds (ps := ["bits"]) fun _ _ _ _ _ _ us hl => match us, hl with | [_], _ => rfl
  have b7 := F7.binds (ps := ["number"]) fun _ _ _ _ _ _ us hl => match us, hl with | [_], _ => rfl
  have b8 := F8.binds (ps := ["pattern", "width"]) fun _ _ _ _ _ _ us hl => match us, hl with | [_, _], _ => rfl
  have b9 := F9.binds (ps := ["places", "many"]) fun _ _ _ _ _ _ us hl => match us, hl with | [_, _], _ => rfl
  have b10 := F10.binds (ps := ["pairs"]) fun _ _ _ _ _ _ us hl => match us, hl with | [_], _ => rfl
  have b12 := F12.binds (ps := ["first", "step"]) fun _ _ _ _ _ _ us hl => match us, hl with | [_, _], _ => rfl
  have b17 := F17.binds (ps := ["_law_cells", "_law_turn"]) fun _ _ _ _ _ _ us hl => match us, hl with | [_, _], _ => rfl
  have b18 := F18.binds (ps := ["_law_deck_here", "_law_top"]) fun _ _ _ _ _ _ us hl => match us, hl with | [_, _], _ => rfl
  have b19 := F19.binds (ps := ["_law_deck_here", "_law_menu"]) fun _ _ _ _ _ _ us hl => match us, hl with | [_, _], _ => rfl
  have b20 := F20.binds (ps := ["_law_members"]) fun _ _ _ _ _ _ us hl => match us, hl with | [_], _ => rfl
  have b21 := F21.binds (ps := ["_law_marks_here", "_law_begin"]) fun _ _ _ _ _ _ us hl => match us, hl with | [_, _], _ => rfl
  have b22 := F22.binds (ps := ["_law_mine"]) fun _ _ _ _ _ _ us hl => match us, hl with | [_], _ => rfl
  have b23 := F23.binds (ps := ["_law_mine", "_law_marks_here", "_law_begin"]) fun _ _ _ _ _ _ us hl => match us, hl with | [_, _, _], _ => rfl
  have b24 := F24.binds (ps := ["_law_deck_here"]) fun _ _ _ _ _ _ us hl => match us, hl with | [_], _ => rfl
  have b25 := F25.binds (ps := ["_law_deck_here", "_law_frame_here", "_law_deep"]) fun _ _ _ _ _ _ us hl => match us, hl with | [_, _, _], _ => rfl
  have b26 := F26.binds (ps := ["_law_rule_here", "_law_spot"]) fun _ _ _ _ _ _ us hl => match us, hl with | [_, _], _ => rfl
  have b27 := F27.binds (ps := ["_law_size", "_law_pace"]) fun _ _ _ _ _ _ us hl => match us, hl with | [_, _], _ => rfl
  have b28 := F28.binds (ps := ["_law_rule_here"]) fun _ _ _ _ _ _ us hl => match us, hl with | [_], _ => rfl
  have b29 := F29.binds (ps := ["_law_rule_here"]) fun _ _ _ _ _ _ us hl => match us, hl with | [_], _ => rfl
  have b30 := F30.binds (ps := ["_law_rule_here"]) fun _ _ _ _ _ _ us hl => match us, hl with | [_], _ => rfl
  have b31 := F31.binds (ps := ["_law_deck_here", "_law_rule_here", "_law_mate"]) fun _ _ _ _ _ _ us hl => match us, hl with | [_, _, _], _ => rfl
  have b32 := F32.binds (ps := ["_law_rule_here", "_law_mate"]) fun _ _ _ _ _ _ us hl => match us, hl with | [_, _], _ => rfl
  have b13 := F13.binds (ps := ["one", "other"]) fun _ _ _ _ _ _ us hl => match us, hl with | [_, _], _ => rfl
  have b14 := F14.binds (ps := ["one", "other"]) fun _ _ _ _ _ _ us hl => match us, hl with | [_, _], _ => rfl
  have b15 := F15.binds (ps := ["given"]) fun _ _ _ _ _ _ us hl => match us, hl with | [_], _ => rfl
  have b16 := F16.binds (ps := ["bits", "many"]) fun _ _ _ _ _ _ us hl => match us, hl with | [_, _], _ => rfl
  have b33 := F33.binds (ps := ["_law_deck_here"]) fun _ _ _ _ _ _ us hl => match us, hl with | [_], _ => rfl
  have bm_init := N_init.binds (ps := ["self", "bits", "start", "width"]) fun _ _ _ _ _ _ us hl => match us, hl with | [_, _, _, _], _ => rfl
  have bm_contains := N_contains.binds (ps := ["self", "n"]) fun _ _ _ _ _ _ us hl => match us, hl with | [_, _], _ => rfl
  have bm_bool := N_bool.binds (ps := ["self"]) fun _ _ _ _ _ _ us hl => match us, hl with | [_], _ => rfl
  have bm_or := N_or.binds (ps := ["self", "other"]) fun _ _ _ _ _ _ us hl => match us, hl with | [_, _], _ => rfl
  have bm_and := N_and.binds (ps := ["self", "other"]) fun _ _ _ _ _ _ us hl => match us, hl with | [_, _], _ => rfl
  have bm_sub := N_sub.binds (ps := ["self", "other"]) fun _ _ _ _ _ _ us hl => match us, hl with | [_, _], _ => rfl
  have bm_xor := N_xor.binds (ps := ["self", "other"]) fun _ _ _ _ _ _ us hl => match us, hl with | [_, _], _ => rfl
  have bm_invert := N_invert.binds (ps := ["self"]) fun _ _ _ _ _ _ us hl => match us, hl with | [_], _ => rfl
  have bm_eq := N_eq.binds (ps := ["self", "other"]) fun _ _ _ _ _ _ us hl => match us, hl with | [_, _], _ => rfl
  have bm_repr := N_repr.binds (ps := ["self"]) fun _ _ _ _ _ _ us hl => match us, hl with | [_], _ => rfl
  have bp_start := O_start.binds (ps := ["self"]) fun _ _ _ _ _ _ us hl => match us, hl with | [_], _ => rfl
  have bp_period := O_period.binds (ps := ["self"]) fun _ _ _ _ _ _ us hl => match us, hl with | [_], _ => rfl
  have bp_below := O_below.binds (ps := ["self"]) fun _ _ _ _ _ _ us hl => match us, hl with | [_], _ => rfl
  have bp_rests := O_rests.binds (ps := ["self"]) fun _ _ _ _ _ _ us hl => match us, hl with | [_], _ => rfl
  have bp_least := O_least.binds (ps := ["self"]) fun _ _ _ _ _ _ us hl => match us, hl with | [_], _ => rfl
  have bp_is_finite := O_is_finite.binds (ps := ["self"]) fun _ _ _ _ _ _ us hl => match us, hl with | [_], _ => rfl
  have Z : Bp mg := ⟨PySem.W.mg_none_of X G zisinstance, PySem.W.mg_none_of X G zint, PySem.W.mg_none_of X G zbool, PySem.W.mg_none_of X G zstr, PySem.W.mg_none_of X G zlen, PySem.W.mg_none_of X G zall, PySem.W.mg_none_of X G zlist, PySem.W.mg_none_of X G ztuple, PySem.W.mg_none_of X G zrange, PySem.W.mg_none_of X G zmax, PySem.W.mg_none_of X G zmin, PySem.W.mg_none_of X G zrepr, PySem.W.mg_none_of X G zenumerate⟩
  have R : Pd K mg C := ⟨⟨pg, hd, po, sa⟩, nW, nC, nS, PySem.W.mg_of X G gC⟩
  have m0 := PySem.W.mg_of X G D0.g
  have m1 := PySem.W.mg_of X G D1.g
  have m2 := PySem.W.mg_of X G D2.g
  have m3 := PySem.W.mg_of X G D3.g
  have m4 := PySem.W.mg_of X G D4.g
  have m5 := PySem.W.mg_of X G D5.g
  have m6 := PySem.W.mg_of X G D6.g
  have m7 := PySem.W.mg_of X G D7.g
  have m8 := PySem.W.mg_of X G D8.g
  have m9 := PySem.W.mg_of X G D9.g
  have m10 := PySem.W.mg_of X G D10.g
  have m11 := PySem.W.mg_of X G D11.g
  have m12 := PySem.W.mg_of X G D12.g
  have m13 := PySem.W.mg_of X G D13.g
  have m14 := PySem.W.mg_of X G D14.g
  have m15 := PySem.W.mg_of X G D15.g
  have m16 := PySem.W.mg_of X G D16.g
  have m17 := PySem.W.mg_of X G D17.g
  have m18 := PySem.W.mg_of X G D18.g
  have m19 := PySem.W.mg_of X G D19.g
  have m20 := PySem.W.mg_of X G D20.g
  have m21 := PySem.W.mg_of X G D21.g
  have m22 := PySem.W.mg_of X G D22.g
  have m23 := PySem.W.mg_of X G D23.g
  have m24 := PySem.W.mg_of X G D24.g
  have m25 := PySem.W.mg_of X G D25.g
  have m26 := PySem.W.mg_of X G D26.g
  have m27 := PySem.W.mg_of X G D27.g
  have m28 := PySem.W.mg_of X G D28.g
  have m29 := PySem.W.mg_of X G D29.g
  have m30 := PySem.W.mg_of X G D30.g
  have m31 := PySem.W.mg_of X G D31.g
  have m32 := PySem.W.mg_of X G D32.g
  have m33 := PySem.W.mg_of X G D33.g
  have G0 : ∀ base, FnOk l.prog w K mg base CX0 1 d0 fd0 _ _ := fun base => ok_isintN F0 Z
  have G1 : ∀ base, FnOk l.prog w K mg base CX0 2 d1 fd1 _ _ := fun base => ok_withinN F1 (G0 base) b0 F0.kp m0
  have G2 : ∀ base, FnOk l.prog w K mg base CX0 3 d2 fd2 _ _ := fun base => ok_ckWN F2 (G1 base) b1 F1.kp m1
  have G3 : ∀ base, FnOk l.prog w K mg base CX0 1 d3 fd3 _ _ := fun base => ok_full F3
  have G4 : ∀ base, FnOk l.prog w K mg base CX0 2 d4 fd4 _ _ := fun base => ok_low F4 (G3 base) b3 F3.kp m3
  have G5 : ∀ base, FnOk l.prog w K mg base CX0 3 d5 fd5 _ _ := fun base => ok_tiled F5 (G4 base) b4 F4.kp m4
  have G6 : ∀ base, FnOk l.prog w K mg base CX0 1 d6 fd6 _ _ := fun base => ok_positions F6 Z
  have G7 : ∀ base, FnOk l.prog w K mg base CX0 1 d7 fd7 _ _ := fun base => ok_primes F7
  have G8 : ∀ base, FnOk l.prog w K mg base CX0 3 d8 fd8 _ _ := fun base => ok_leastW F8 (G7 base) b7 F7.kp m7 (G4 base) b4 F4.kp m4
  have G9 : ∀ base, FnOk l.prog w K mg base CX0 4 d9 fd9 _ _ := fun base => ok_bitsB F9 R (G5 base) b5 F5.kp m5
  have MI : ∀ base, FnOk l.prog w K mg base CX0 4 m_init fm_init _ _ := fun base => ok_initP N_init R (G8 base) b8 F8.kp m8 (G4 base) b4 F4.kp m4 (G5 base) b5 F5.kp m5
  have G10 : ∀ base, FnOk l.prog w K mg base CX0 6 d10 fd10 _ _ := fun base => ok_gath F10 R Z ⟨mk, M_init.at_, M_init.isf, kc⟩ (MI base) bm_init (G5 base) b5 F5.kp m5
  have G11 : ∀ base, FnR l.prog w K mg base CX0 7 d11 _ := fun base => ok_nums F11 (PySem.W.mg_of X G lM) (G2 base) b2 F2.kp m2 (G10 base) b10 F10.kp m10
  have G12 : ∀ base, FnOk l.prog w K mg base CX0 7 d12 fd12 _ _ := fun base => ok_steps F12 (PySem.W.mg_of X G lM) (PySem.W.mg_of X G lS) (G2 base) b2 F2.kp m2 (G10 base) b10 F10.kp m10
  have PS : ∀ base, PropD l.prog w K mg base C 1 "start" (spStart C) := fun base => ⟨_, _, _, P_start, ok_start O_start R, bp_start⟩
  have D : ∀ base, Can l.prog w K mg base C := fun base =>
    { pd := R
      start := PS base
      period := ⟨_, _, _, P_period, ok_period O_period R, bp_period⟩
      below := ⟨_, _, _, P_below, ok_below O_below R Z (PS base) (G6 base) b6 F6.kp m6 (G9 base) b9 F9.kp m9, bp_below⟩
      rests := ⟨_, _, _, P_rests, ok_rests O_rests R Z (PS base) (G6 base) b6 F6.kp m6 (G9 base) b9 F9.kp m9, bp_rests⟩
      least := ⟨_, _, _, P_least, ok_leastP O_least R (PS base) (G9 base) b9 F9.kp m9, bp_least⟩
      fin := ⟨_, _, _, P_is_finite, ok_finite O_is_finite R, bp_is_finite⟩
      bool := ⟨_, _, M_bool.at_, M_bool.isf, ok_truthP N_bool R Z, bm_bool⟩
      has := ⟨_, _, _, M_contains.at_, M_contains.isf, ok_has N_contains R (G0 base) b0 F0.kp m0, bm_contains⟩
      kC := kC, ha := ha, hn := hn, htk := htk, hm := hm }
  have G17 : ∀ base, FnOk l.prog w K mg base CX0 1 d17 fd17 _ _ := fun base => ok_deck F17 Z.len Z.int (PySem.W.mg_none_of X G zabs)
  have G18 : ∀ base, FnOk l.prog w K mg base CX0 1 d18 fd18 _ _ := fun base => ok_card F18 Z.int (PySem.W.mg_none_of X G zdivmod)
  have G19 : ∀ base, FnOk l.prog w K mg base CX0 2 d19 fd19 _ _ := fun base => ok_of F19 (G18 base) b18 F18.kp m18 Z.len
  have G20 : ∀ base, FnOk l.prog w K mg base CX0 8 d20 fd20 _ _ := fun base => ok_numsL F20 Z (G11 base) F11.kp m11
  have G21 : ∀ base, FnOk l.prog w K mg base CX0 1 d21 fd21 _ _ := fun base => ok_shape F21 Z
  have G22 : ∀ base, FnOk l.prog w K mg base CX0 7 d22 fd22 _ _ := fun base => ok_told F22 (D base) Z
  have G23 : ∀ base, Mods base → GOk l.prog w K mg base CX0 8 d23 fd23 _ _ := fun base M => ok_isset F23 (D base) Z M (G22 base) b22 F22.kp m22 (G21 base) b21 F21.kp m21
  have GPC : ∀ base, FnOk l.prog w K mg base CX0 1 d7 fd7 _ _ := fun base => ok_primesC F7
  have GLG : ∀ base, FnOk l.prog w K mg base CX0 3 d8 fd8 _ _ := fun base => ok_leastG F8 (GPC base) b7 F7.kp m7 (G4 base) b4 F4.kp m4
  have MG : ∀ base, FnOk l.prog w K mg base CX0 4 m_init fm_init _ _ := fun base => ok_initG N_init R (GLG base) b8 F8.kp m8 (G4 base) b4 F4.kp m4 (G5 base) b5 F5.kp m5
  have IP : IsP K C := ⟨kC, ha, hn, htk, hm⟩
  have G13 : ∀ base, FnOk l.prog w K mg base CX0 1 d13 fd13 _ _ := fun base => ok_lcm F13
  have G14 : ∀ base, FnOk l.prog w K mg base CX0 3 d14 fd14 _ _ := fun base => ok_frame F14 R Z (PS base) (G13 base) b13 F13.kp m13
  have G15 : ∀ base, FnOk l.prog w K mg base CX0 1 d15 fd15 _ _ := fun base => ok_ckP F15 R Z IP
  have G16 : ∀ base, FnOk l.prog w K mg base CX0 2 d16 fd16 _ _ := fun base => ok_opp F16 (G3 base) b3 F3.kp m3
  have O : ∀ base, Ops l.prog w K mg base C := fun base =>
    { or := ⟨⟨_, _, _, M_or.at_, M_or.isf, ok_or N_or R ⟨mk, M_init.at_, M_init.isf, kc⟩ (MG base) bm_init (G15 base) b15 F15.kp m15 (G14 base) b14 F14.kp m14 (G9 base) b9 F9.kp m9, bm_or⟩, sf⟩
      and := ⟨⟨_, _, _, M_and.at_, M_and.isf, ok_and N_and R ⟨mk, M_init.at_, M_init.isf, kc⟩ (MG base) bm_init (G15 base) b15 F15.kp m15 (G14 base) b14 F14.kp m14 (G9 base) b9 F9.kp m9, bm_and⟩, sf⟩
      sub := ⟨⟨_, _, _, M_sub.at_, M_sub.isf, ok_sub N_sub R ⟨mk, M_init.at_, M_init.isf, kc⟩ (MG base) bm_init (G15 base) b15 F15.kp m15 (G14 base) b14 F14.kp m14 (G9 base) b9 F9.kp m9 (G16 base) b16 F16.kp m16, bm_sub⟩, sf⟩
      xor := ⟨⟨_, _, _, M_xor.at_, M_xor.isf, ok_xor N_xor R ⟨mk, M_init.at_, M_init.isf, kc⟩ (MG base) bm_init (G15 base) b15 F15.kp m15 (G14 base) b14 F14.kp m14 (G9 base) b9 F9.kp m9, bm_xor⟩, sf⟩
      inv := ⟨⟨_, _, M_invert.at_, M_invert.isf, ok_invert N_invert R ⟨mk, M_init.at_, M_init.isf, kc⟩ (MG base) bm_init (G14 base) b14 F14.kp m14 (G9 base) b9 F9.kp m9 (G16 base) b16 F16.kp m16, bm_invert⟩⟩ }
  have G24 : ∀ base, FnOk l.prog w K mg base CX0 3 d24 fd24 _ _ := fun base => ok_frameD F24 (G19 base) b19 F19.kp m19
  have G25 : ∀ base k, FnOk l.prog w K mg base CX0 (2 + k) d25 fd25 _ _ := fun base => ok_ruleD F25 Z b25 m25 (G18 base) b18 F18.kp m18 (G19 base) b19 F19.kp m19
  have G26 : ∀ base k, FnOk l.prog w K mg base CX0 (1 + k) d26 fd26 _ _ := fun base => ok_hasR F26 Z b26 m26
  have G27 : ∀ base, FnOk l.prog w K mg base CX0 1 d27 fd27 _ _ := fun base => ok_leastC F27 Z
  have G28 : ∀ base k, FnOk l.prog w K mg base CX0 (1 + k) d28 fd28 _ _ := fun base => ok_span F28 Z b28 m28 (G27 base) b27 F27.kp m27
  have G29 : ∀ base k, FnOk l.prog w K mg base CX0 (8 + k) d29 fd29 _ _ := fun base => ok_setR F29 Z b29 m29 (O base) (G20 base) b20 F20.kp m20 (G12 base) b12 F12.kp m12
  have G30 : ∀ base, FnOk l.prog w K mg base CX0 5 d30 fd30 _ _ := fun base => ok_marksR (k := 3) F30 Z (G28 base 3) b28 F28.kp m28 (G26 base 3) b26 F26.kp m26
  have G31 : ∀ base, FnOk l.prog w K mg base CX0 2 d31 fd31 _ _ := fun base => ok_other F31 Z (G18 base) b18 F18.kp m18
  have G32 : ∀ base, FnOk l.prog w K mg base CX0 5 d32 fd32 _ _ := fun base => ok_same (k := 3) F32 Z (G28 base 3) b28 F28.kp m28 (G26 base 3) b26 F26.kp m26 (G27 base) b27 F27.kp m27
  have ED : ∀ base, EqD l.prog w K mg base C := fun base =>
    { eq := ⟨⟨_, _, _, M_eq.at_, M_eq.isf, ok_eqP N_eq R Z IP, bm_eq⟩, hne, hm⟩
      nf := by
        intro T hT
        simp only [types7, List.mem_cons, List.not_mem_nil, or_false] at hT
        rcases hT with rfl | rfl | rfl | rfl | rfl | rfl | rfl <;> assumption
      nt := by
        intro T hT
        simp only [types7, List.mem_cons, List.not_mem_nil, or_false] at hT
        rcases hT with rfl | rfl | rfl | rfl | rfl | rfl | rfl <;> assumption
      sh := ⟨⟨_, _, M_repr.at_, M_repr.isf, ok_reprP N_repr (D base) Z, bm_repr⟩⟩ }
  have G33 : ∀ base, Mods base → GOk l.prog w K mg base CX0 15 d33 fd33 _ _ := fun base M => ok_right F33 Z M (D base) (ED base) (G24 base) b24 F24.kp m24 (G25 base 3) b25 F25.kp m25 (G29 base 6) b29 F29.kp m29 (G18 base) b18 F18.kp m18 (G31 base) b31 F31.kp m31 (G32 base) b32 F32.kp m32 (G30 base) b30 F30.kp m30 (G23 base M) b23 F23.kp m23 (G21 base) b21 F21.kp m21
  refine ⟨fd34, ?_, fun base _ _ M => ok_law F34 Z (G17 base) b17 F17.kp m17 (G33 base M) b33 F33.kp m33⟩
  obtain ⟨oc, od, kV, doc, pm, an, cdv, ct, osl, rfl, lk, hcd⟩ := F34.ex
  exact fun s u => .of_eq rfl
end
end Wp

open PySem PySem.W PyProof.Rows in
set_option maxRecDepth 100000 in
set_option maxHeartbeats 0 in
theorem PySem.Challenge.cw_wovenplaces_k39_equal_sets_holds : PySem.Challenge.rw_wovenplaces_k39_equal_sets.Holds := by
  w_on; o_law; k_head; (case hw => w_witness2)
  k_fill
  refine Hx.walk_G (n := 63) (k := 16) (x := "_law_cells") (sp := fun K => Wp.spLaw K) rfl (by decide) rfl ⟨rfl, by decide, by decide⟩ rfl (fun w h Y => PySem.W.kIn_of Y) ?F (fun K H a ns hl hS => ⟨a, ns, rfl, hS, hl, fun _ => rfl⟩)
  case F =>
    intro w mg fa h KX G hmg
    refine' Wp.all_mk (l := PySem.Challenge.rw_wovenplaces_k39_equal_sets) KX G hmg ?r5gC ?r5pg ?r5hd ?r5po ?r5sa ?r5mk ?r5kc ?r5nW ?r5nC ?r5nS ?r5kC ?r5ha ?r5hn ?r5sf ?r5htk ?r5hm ?r5hne ?r5nfNoneType ?r5ntNoneType ?r5nfbool ?r5ntbool ?r5nfint ?r5ntint ?r5nfstr ?r5ntstr ?r5nflist ?r5ntlist ?r5nftuple ?r5nttuple ?r5nfdict ?r5ntdict ?r5M_init ?r5M_contains ?r5M_bool ?r5M_or ?r5M_and ?r5M_sub ?r5M_xor ?r5M_invert ?r5M_eq ?r5M_repr ?r5Pa_start ?r5Pg_start ?r5Pt_start ?r5Pr_start ?r5Pf_start ?r5Pa_period ?r5Pg_period ?r5Pt_period ?r5Pr_period ?r5Pf_period ?r5Pa_below ?r5Pg_below ?r5Pt_below ?r5Pr_below ?r5Pf_below ?r5Pa_rests ?r5Pg_rests ?r5Pt_rests ?r5Pr_rests ?r5Pf_rests ?r5Pa_least ?r5Pg_least ?r5Pt_least ?r5Pr_least ?r5Pf_least ?r5Pa_is_finite ?r5Pg_is_finite ?r5Pt_is_finite ?r5Pr_is_finite ?r5Pf_is_finite ?r5lM ?r5lS ?r5zisinstance ?r5zint ?r5zbool ?r5zstr ?r5zlen ?r5zall ?r5zlist ?r5ztuple ?r5zrange ?r5zmax ?r5zmin ?r5zrepr ?r5zenumerate ?r5zabs ?r5zdivmod ?r5D0 ?r5D1 ?r5D2 ?r5D3 ?r5D4 ?r5D5 ?r5D6 ?r5D7 ?r5D8 ?r5D9 ?r5D10 ?r5D11 ?r5D12 ?r5D13 ?r5D14 ?r5D15 ?r5D16 ?r5D17 ?r5D18 ?r5D19 ?r5D20 ?r5D21 ?r5D22 ?r5D23 ?r5D24 ?r5D25 ?r5D26 ?r5D27 ?r5D28 ?r5D29 ?r5D30 ?r5D31 ?r5D32 ?r5D33 ?r5D34
    (case r5gC => k_is)
    (case r5pg => k_is)
    (case r5hd => k_is)
    (case r5po => k_is)
    (case r5sa => k_is)
    (case r5mk => k_is)
    (case r5kc => k_is)
    (case r5nW => k_is)
    (case r5nC => k_is)
    (case r5nS => k_is)
    (case r5kC => kernel_rfl)
    (case r5ha => k_is)
    (case r5hn => k_is)
    (case r5sf => k_is)
    (case r5htk => k_is)
    (case r5hm => k_is)
    (case r5hne => k_is)
    (case r5nfNoneType => k_is)
    (case r5ntNoneType => kernel_rfl)
    (case r5nfbool => k_is)
    (case r5ntbool => kernel_rfl)
    (case r5nfint => k_is)
    (case r5ntint => kernel_rfl)
    (case r5nfstr => k_is)
    (case r5ntstr => kernel_rfl)
    (case r5nflist => k_is)
    (case r5ntlist => kernel_rfl)
    (case r5nftuple => k_is)
    (case r5nttuple => kernel_rfl)
    (case r5nfdict => k_is)
    (case r5ntdict => kernel_rfl)
    case r5M_init =>
      refine' ⟨?a, ?i, ⟨_, L2.fun_mk ?l ?c ?k⟩⟩
      (case a => k_is)
      (case i => k_is)
      (case l => k_is)
      (case c => k_is)
      (case k => k_is)
    case r5M_contains =>
      refine' ⟨?a, ?i, ⟨_, L2.fun_mk ?l ?c ?k⟩⟩
      (case a => k_is)
      (case i => k_is)
      (case l => k_is)
      (case c => k_is)
      (case k => k_is)
    case r5M_bool =>
      refine' ⟨?a, ?i, ⟨_, L2.fun_mk ?l ?c ?k⟩⟩
      (case a => k_is)
      (case i => k_is)
      (case l => k_is)
      (case c => k_is)
      (case k => k_is)
    case r5M_or =>
      refine' ⟨?a, ?i, ⟨_, L2.fun_mk ?l ?c ?k⟩⟩
      (case a => k_is)
      (case i => k_is)
      (case l => k_is)
      (case c => k_is)
      (case k => k_is)
    case r5M_and =>
      refine' ⟨?a, ?i, ⟨_, L2.fun_mk ?l ?c ?k⟩⟩
      (case a => k_is)
      (case i => k_is)
      (case l => k_is)
      (case c => k_is)
      (case k => k_is)
    case r5M_sub =>
      refine' ⟨?a, ?i, ⟨_, L2.fun_mk ?l ?c ?k⟩⟩
      (case a => k_is)
      (case i => k_is)
      (case l => k_is)
      (case c => k_is)
      (case k => k_is)
    case r5M_xor =>
      refine' ⟨?a, ?i, ⟨_, L2.fun_mk ?l ?c ?k⟩⟩
      (case a => k_is)
      (case i => k_is)
      (case l => k_is)
      (case c => k_is)
      (case k => k_is)
    case r5M_invert =>
      refine' ⟨?a, ?i, ⟨_, L2.fun_mk ?l ?c ?k⟩⟩
      (case a => k_is)
      (case i => k_is)
      (case l => k_is)
      (case c => k_is)
      (case k => k_is)
    case r5M_eq =>
      refine' ⟨?a, ?i, ⟨_, L2.fun_mk ?l ?c ?k⟩⟩
      (case a => k_is)
      (case i => k_is)
      (case l => k_is)
      (case c => k_is)
      (case k => k_is)
    case r5M_repr =>
      refine' ⟨?a, ?i, ⟨_, L2.fun_mk ?l ?c ?k⟩⟩
      (case a => k_is)
      (case i => k_is)
      (case l => k_is)
      (case c => k_is)
      (case k => k_is)
    (case r5Pa_start => k_is)
    (case r5Pg_start => k_is)
    (case r5Pt_start => k_is)
    (case r5Pr_start => k_is)
    case r5Pf_start =>
      refine' ⟨_, L2.fun_mk ?l ?c ?k⟩
      (case l => k_is)
      (case c => k_is)
      (case k => k_is)
    (case r5Pa_period => k_is)
    (case r5Pg_period => k_is)
    (case r5Pt_period => k_is)
    (case r5Pr_period => k_is)
    case r5Pf_period =>
      refine' ⟨_, L2.fun_mk ?l ?c ?k⟩
      (case l => k_is)
      (case c => k_is)
      (case k => k_is)
    (case r5Pa_below => k_is)
    (case r5Pg_below => k_is)
    (case r5Pt_below => k_is)
    (case r5Pr_below => k_is)
    case r5Pf_below =>
      refine' ⟨_, L2.fun_mk ?l ?c ?k⟩
      (case l => k_is)
      (case c => k_is)
      (case k => k_is)
    (case r5Pa_rests => k_is)
    (case r5Pg_rests => k_is)
    (case r5Pt_rests => k_is)
    (case r5Pr_rests => k_is)
    case r5Pf_rests =>
      refine' ⟨_, L2.fun_mk ?l ?c ?k⟩
      (case l => k_is)
      (case c => k_is)
      (case k => k_is)
    (case r5Pa_least => k_is)
    (case r5Pg_least => k_is)
    (case r5Pt_least => k_is)
    (case r5Pr_least => k_is)
    case r5Pf_least =>
      refine' ⟨_, L2.fun_mk ?l ?c ?k⟩
      (case l => k_is)
      (case c => k_is)
      (case k => k_is)
    (case r5Pa_is_finite => k_is)
    (case r5Pg_is_finite => k_is)
    (case r5Pt_is_finite => k_is)
    (case r5Pr_is_finite => k_is)
    case r5Pf_is_finite =>
      refine' ⟨_, L2.fun_mk ?l ?c ?k⟩
      (case l => k_is)
      (case c => k_is)
      (case k => k_is)
    (case r5lM => k_is)
    (case r5lS => k_is)
    (case r5zisinstance => k_is)
    (case r5zint => k_is)
    (case r5zbool => k_is)
    (case r5zstr => k_is)
    (case r5zlen => k_is)
    (case r5zall => k_is)
    (case r5zlist => k_is)
    (case r5ztuple => k_is)
    (case r5zrange => k_is)
    (case r5zmax => k_is)
    (case r5zmin => k_is)
    (case r5zrepr => k_is)
    (case r5zenumerate => k_is)
    (case r5zabs => k_is)
    (case r5zdivmod => k_is)
    case r5D0 =>
      refine' ⟨?g, ⟨_, L2.fun_mk ?l ?c ?k⟩⟩
      (case g => k_is)
      (case l => k_is)
      (case c => k_is)
      (case k => k_is)
    case r5D1 =>
      refine' ⟨?g, ⟨_, L2.fun_mk ?l ?c ?k⟩⟩
      (case g => k_is)
      (case l => k_is)
      (case c => k_is)
      (case k => k_is)
    case r5D2 =>
      refine' ⟨?g, ⟨_, L2.fun_mk ?l ?c ?k⟩⟩
      (case g => k_is)
      (case l => k_is)
      (case c => k_is)
      (case k => k_is)
    case r5D3 =>
      refine' ⟨?g, ⟨_, L2.fun_mk ?l ?c ?k⟩⟩
      (case g => k_is)
      (case l => k_is)
      (case c => k_is)
      (case k => k_is)
    case r5D4 =>
      refine' ⟨?g, ⟨_, L2.fun_mk ?l ?c ?k⟩⟩
      (case g => k_is)
      (case l => k_is)
      (case c => k_is)
      (case k => k_is)
    case r5D5 =>
      refine' ⟨?g, ⟨_, L2.fun_mk ?l ?c ?k⟩⟩
      (case g => k_is)
      (case l => k_is)
      (case c => k_is)
      (case k => k_is)
    case r5D6 =>
      refine' ⟨?g, ⟨_, L2.fun_mk ?l ?c ?k⟩⟩
      (case g => k_is)
      (case l => k_is)
      (case c => k_is)
      (case k => k_is)
    case r5D7 =>
      refine' ⟨?g, ⟨_, L2.fun_mk ?l ?c ?k⟩⟩
      (case g => k_is)
      (case l => k_is)
      (case c => k_is)
      (case k => k_is)
    case r5D8 =>
      refine' ⟨?g, ⟨_, L2.fun_mk ?l ?c ?k⟩⟩
      (case g => k_is)
      (case l => k_is)
      (case c => k_is)
      (case k => k_is)
    case r5D9 =>
      refine' ⟨?g, ⟨_, L2.fun_mk ?l ?c ?k⟩⟩
      (case g => k_is)
      (case l => k_is)
      (case c => k_is)
      (case k => k_is)
    case r5D10 =>
      refine' ⟨?g, ⟨_, L2.fun_mk ?l ?c ?k⟩⟩
      (case g => k_is)
      (case l => k_is)
      (case c => k_is)
      (case k => k_is)
    case r5D11 =>
      refine' ⟨?g, ⟨_, L2.fun_mk ?l ?c ?k⟩⟩
      (case g => k_is)
      (case l => k_is)
      (case c => k_is)
      (case k => k_is)
    case r5D12 =>
      refine' ⟨?g, ⟨_, L2.fun_mk ?l ?c ?k⟩⟩
      (case g => k_is)
      (case l => k_is)
      (case c => k_is)
      (case k => k_is)
    case r5D13 =>
      refine' ⟨?g, ⟨_, L2.fun_mk ?l ?c ?k⟩⟩
      (case g => k_is)
      (case l => k_is)
      (case c => k_is)
      (case k => k_is)
    case r5D14 =>
      refine' ⟨?g, ⟨_, L2.fun_mk ?l ?c ?k⟩⟩
      (case g => k_is)
      (case l => k_is)
      (case c => k_is)
      (case k => k_is)
    case r5D15 =>
      refine' ⟨?g, ⟨_, L2.fun_mk ?l ?c ?k⟩⟩
      (case g => k_is)
      (case l => k_is)
      (case c => k_is)
      (case k => k_is)
    case r5D16 =>
      refine' ⟨?g, ⟨_, L2.fun_mk ?l ?c ?k⟩⟩
      (case g => k_is)
      (case l => k_is)
      (case c => k_is)
      (case k => k_is)
    case r5D17 =>
      refine' ⟨?g, ⟨_, L2.fun_mk ?l ?c ?k⟩⟩
      (case g => k_is)
      (case l => k_is)
      (case c => k_is)
      (case k => k_is)
    case r5D18 =>
      refine' ⟨?g, ⟨_, L2.fun_mk ?l ?c ?k⟩⟩
      (case g => k_is)
      (case l => k_is)
      (case c => k_is)
      (case k => k_is)
    case r5D19 =>
      refine' ⟨?g, ⟨_, L2.fun_mk ?l ?c ?k⟩⟩
      (case g => k_is)
      (case l => k_is)
      (case c => k_is)
      (case k => k_is)
    case r5D20 =>
      refine' ⟨?g, ⟨_, L2.fun_mk ?l ?c ?k⟩⟩
      (case g => k_is)
      (case l => k_is)
      (case c => k_is)
      (case k => k_is)
    case r5D21 =>
      refine' ⟨?g, ⟨_, L2.fun_mk ?l ?c ?k⟩⟩
      (case g => k_is)
      (case l => k_is)
      (case c => k_is)
      (case k => k_is)
    case r5D22 =>
      refine' ⟨?g, ⟨_, L2.fun_mk ?l ?c ?k⟩⟩
      (case g => k_is)
      (case l => k_is)
      (case c => k_is)
      (case k => k_is)
    case r5D23 =>
      refine' ⟨?g, ⟨_, L2.fun_mk ?l ?c ?k⟩⟩
      (case g => k_is)
      (case l => k_is)
      (case c => k_is)
      (case k => k_is)
    case r5D24 =>
      refine' ⟨?g, ⟨_, L2.fun_mk ?l ?c ?k⟩⟩
      (case g => k_is)
      (case l => k_is)
      (case c => k_is)
      (case k => k_is)
    case r5D25 =>
      refine' ⟨?g, ⟨_, L2.fun_mk ?l ?c ?k⟩⟩
      (case g => k_is)
      (case l => k_is)
      (case c => k_is)
      (case k => k_is)
    case r5D26 =>
      refine' ⟨?g, ⟨_, L2.fun_mk ?l ?c ?k⟩⟩
      (case g => k_is)
      (case l => k_is)
      (case c => k_is)
      (case k => k_is)
    case r5D27 =>
      refine' ⟨?g, ⟨_, L2.fun_mk ?l ?c ?k⟩⟩
      (case g => k_is)
      (case l => k_is)
      (case c => k_is)
      (case k => k_is)
    case r5D28 =>
      refine' ⟨?g, ⟨_, L2.fun_mk ?l ?c ?k⟩⟩
      (case g => k_is)
      (case l => k_is)
      (case c => k_is)
      (case k => k_is)
    case r5D29 =>
      refine' ⟨?g, ⟨_, L2.fun_mk ?l ?c ?k⟩⟩
      (case g => k_is)
      (case l => k_is)
      (case c => k_is)
      (case k => k_is)
    case r5D30 =>
      refine' ⟨?g, ⟨_, L2.fun_mk ?l ?c ?k⟩⟩
      (case g => k_is)
      (case l => k_is)
      (case c => k_is)
      (case k => k_is)
    case r5D31 =>
      refine' ⟨?g, ⟨_, L2.fun_mk ?l ?c ?k⟩⟩
      (case g => k_is)
      (case l => k_is)
      (case c => k_is)
      (case k => k_is)
    case r5D32 =>
      refine' ⟨?g, ⟨_, L2.fun_mk ?l ?c ?k⟩⟩
      (case g => k_is)
      (case l => k_is)
      (case c => k_is)
      (case k => k_is)
    case r5D33 =>
      refine' ⟨?g, ⟨_, L2.fun_mk ?l ?c ?k⟩⟩
      (case g => k_is)
      (case l => k_is)
      (case c => k_is)
      (case k => k_is)
    case r5D34 =>
      refine' ⟨?g, ⟨_, L2.fun_mk ?l ?c ?k⟩⟩
      (case g => k_is)
      (case l => k_is)
      (case c => k_is)
      (case k => k_is)

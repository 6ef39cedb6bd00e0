import PyProof.Rows.All
import Wide.All
import OpenK.AllK
import Wide.FinOn
import PyProof.EqAt
import PyProof.EqKinds
import PyProof.TupleCall
import PyProof.ReprRoads
import HandS.Base
import HandS.Call
import HandS.List
import HandS.Comp
import HandS.Ends
import HandS.Dict
import HandS.Iter
import HandS.Words
import HandS.WordsList
import KE.KExcInit
import HandS.Exc
import HandS.ExcInit
import HandS.IsInst
import KE.KExcIs
import HandS.ExcValue
import HandS.ListEq
import HandS.Text
import HandS.WordsExc
import HandS.Walk
import HandS.Property
import HandS.RaiseMore
import KE.KCallOwn
import HandS.FStr
import HandS.Star
import HandS.Set
import HandS.SetFor
import HandS.Strs
import PyProof.Rows.SortShellAny
import HandS.NoneIn
import OpenK.KOps
import OpenK.KMeth
import HandS.MakeKwOnly
import HandS.SlotsOwn
import PyProof.StrBlock2
import KE.DataEq
import KE.KRevSl
import PyProof.Rows.StrRev
import HandS.Small
import HandS.CallLocal
import KE.KOpsOwn
import HandS.TryOnly
import HandS.TryMany
import HandS.ExcField
import HandS.Lambda
import HandS.EndTab
import HandS.HeadHook4
import KE.KStateDown
import HandS.HeadEnd
import HandS.Head0
import HandS.Head1
import HandS.Head2
import HandS.HeadHook1
import HandS.HeadHook2
import PySem.Challenge.RW_wovenplaces_k04_operators_and_exchanges
set_option Elab.async false
set_option linter.all false
set_option maxRecDepth 100000
set_option maxHeartbeats 0
namespace Hx
open PySem PySem.Spec PyProof.Rows L2

/-! a def's promise where no guard (a repr that runs) stands below -/
structure GOk (P : Program) (w : World) (K : PySem.W.Frag) (mg : Str → Option Value) (base : Heap) (CX : CXT) (k : Nat)
    (f : Addr) (fd : FuncData) (ps : List Str) (sp : Sp) : Prop where
  long : ∀ vs H Q E, sp vs H Q E → vs.length = ps.length
  goes : ∀ (A : Around) (outer : List Env) (s : Shared) (H : Hp) (args : Args) (us : List Value) (vs : List V) (Q : VK) (E : XK),
    Room k A → A.guards = some [] → Env0 P w K mg base A outer s H → BindsTo s fd args (ps.zip us) → Vals vs us → sp vs H Q E →
    codeAny (model P w) A (.call (.ref f) args) (CR CX outer P w H s Q E) s

section
variable {P : Program} {w : World} {K : PySem.W.Frag} {mg : Str → Option Value} {base : Heap} {CX : CXT} {k j : Nat}
  {f : Addr} {fd : FuncData} {ps : List Str} {sp : Sp}
theorem GOk.of (F : FnOk P w K mg base CX k f fd ps sp) : GOk P w K mg base CX k f fd ps sp :=
  ⟨F.len, fun A outer s H args us vs Q E room _ => F.run A outer s H args us vs Q E room⟩
theorem GOk.more (F : GOk P w K mg base CX j f fd ps sp) (h : j ≤ k) : GOk P w K mg base CX k f fd ps sp :=
  ⟨F.long, fun A outer s H args us vs Q E room => F.goes A outer s H args us vs Q E (room.mono h)⟩

/-- a def of the text keeps its promise, by its body, no guard below -/
theorem gok {x qual : Str} {st : Stmt} {N : List Str} (F : Fun K x qual st f fd) (S : FnScope N ps (defScope st))
    (long : ∀ vs H Q E, sp vs H Q E → vs.length = ps.length)
    (body : ∀ (cdv : Value) (A : Around) (outer : List Env) (s : Shared) (H : Hp) (vs : List V) (Q : VK) (E : XK),
      Room k (A.deeper (envOfC qual (defScope st) s.heap.objs.size f cdv)) → A.guards = some [] → sp vs H Q E →
      ∃ t, PSs (cxOf CX P w K mg base N qual (defScope st) f cdv A outer s H E) (defBody st) t ∧
        t { nx := fun _ H' => Q .non H', rt := Q } (start N vs) H) :
    GOk P w K mg base CX (k + 1) f fd ps sp := by
  obtain ⟨oc, od, kV, doc, pm, an, cdv, ct, osl, efd, hlook, hcode⟩ := F.ex
  subst efd
  constructor
  · exact long
  · intro A outer s H args us vs Q E room gd e0 hbind rel hsp
    have inK : K.In s.heap := e0.mod.kin.keeps fun b o h => (e0.bs b o h).1
    have noLim : s.heap.NoLimit := e0.mod.nolimit.keeps fun b o h => (e0.bs b o h).1
    refine codeAny_call_function room.depth (inK _ _ hlook) rfl S.co S.gen rfl (PySem.W.codeRec_of inK hcode) (hbind _ _ _ _ ?_)
    refine wpAny_newFunctionEnv_cells S.kind ?kinds fun env henv s1 inside => ?_
    case kinds =>
      rintro ⟨nm, val⟩ hm
      have hp := (List.of_mem_zip hm).1
      cases S.par nm hp with
      | inl hl => exact .inl hl
      | inr hc => exact .inr ⟨hc, PySem.W.cellsFrom_some _ _ _ (.inl hc)⟩
    subst henv
    refine ⟨noLim.keeps inside.toInCall.keep, codeAny_func ?_⟩
    obtain ⟨t, ht, hq⟩ := body cdv A outer s H vs Q E (room.deeper _) gd hsp
    have I0 := inv_start (CX := CX) (E := E) S room.hd e0 (long _ _ _ _ hsp) rel inside
    refine wpAny_mono (ht.run [] s1 (start N vs) H _ I0 hq) ?_ (fun _ _ z => z)
    intro fl s' hfl
    cases fl with
    | ret u =>
      obtain ⟨v, _, H', J, rv, q⟩ := hfl
      exact ⟨v, H', J.os, J.bare, J.base, J.hok, rv, q⟩
    | next =>
      obtain ⟨_, H', J, q⟩ := hfl
      exact ⟨V.non, H', J.os, J.bare, J.base, J.hok, rfl, q⟩
    | brk => exact hfl.elim fun _ z => z.elim fun _ z => z.2.elim
    | cont => exact hfl.elim fun _ z => z.elim fun _ z => z.2.elim
end

section
variable {X : Cx} {CX : CXT} {k : Nat} {f : Addr} {fd : FuncData} {ps : List Str} {sp : Sp} {dvs : List V} {ds : List Value} {E : XK}
theorem run_g {pins : List (Addr × Obj)} {σ : L2.St} {H : Hp} {s : Shared} {Q : VK} {us : List Value} {vs : List V}
    (F : GOk X.prog X.w X.K X.mg X.base CX k f fd ps sp) (room : Room k X.A) (gd : X.A.guards = some []) (hb : Binds X.K fd ps ds)
    (hd : Vals dvs ds) (pass : Passes CX X E) (I : Inv X pins σ H s) (r : Vals vs us) (h : sp (vs ++ dvs) H Q E) :
    wpAny (model X.prog X.w) X.A (call (.ref f) us) (EP X pins σ Q) X.xe s := by
  have rr := r.append hd
  have hlen : (us ++ ds).length = ps.length := rr.length.symm.trans (F.long _ _ _ _ h)
  have go := F.goes X.A X.stack s H ⟨us, []⟩ (us ++ ds) (vs ++ dvs) Q E room gd I.env0 (hb s us I.kIn hlen) rr h
  refine wpAny_call (codeAny_mono go ?_)
  intro r s' hr
  cases r with
  | error e => exact pass pins σ H s e s' I hr
  | ok fl =>
    cases fl with
    | ret u => exact I.after hr
    | next => exact hr.elim
    | brk => exact hr.elim
    | cont => exact hr.elim

theorem pe_callG {x : Str} {p pos : Pos} {e : Expr} {es : List Expr} {t : TA} (F : GOk X.prog X.w X.K X.mg X.base CX k f fd ps sp)
    (room : Room k X.A) (gd : X.A.guards = some []) (hg : Gl X x) (hm : X.mg x = some (.ref f)) (hk : PySem.W.keepIn X.K (.ref f) = true)
    (hb : Binds X.K fd ps ds) (hd : Vals dvs ds) (pass : Passes CX X E) (ha : PA X (e :: es) t)
    (hdb : (x == ("__debug__" : Str)) = false := by decide)
    (he : starEach (e :: es) X.env = (false, eval e X.env) :: starEach es X.env := by rfl)
    (hpl : (backTo pos (starEach es X.env)).any (·.1) = false := by rfl) :
    PE X (.Call (.Name x p) (e :: es) [] pos) (tCall sp dvs E t) := by
  constructor
  intro pins s σ H Q I h
  refine wpAny_Call_Name_kw (ld_glob I hg hm ?_ hdb)
  refine PySem.W.callWith_K (h₀ := X.base) I.ok.mod.kin hk ?_ he hpl
  refine thn (ha.run pos pins s σ H _ I h) ?_
  rintro us s1 ⟨vs, H1, J, r, q⟩
  exact ⟨J.kIn, run_g F room gd hb hd pass J r q⟩
end
end Hx
namespace Hx
open PySem PySem.Spec PyProof.Rows L2
section
variable {P : Program} {w : World} {K : PySem.W.Frag} {mg : Str → Option Value} {base : Heap} {k : Nat}
  {f : Addr} {fd : FuncData} {ps : List Str} {sp : Sp}
/-- the same where no exception leaves the def -/
theorem gok0 {x qual : Str} {st : Stmt} {N : List Str} (F : Fun K x qual st f fd) (S : FnScope N ps (defScope st))
    (long : ∀ vs H Q E, sp vs H Q E → vs.length = ps.length)
    (body : ∀ (cdv : Value) (A : Around) (outer : List Env) (s : Shared) (H : Hp) (vs : List V) (Q : VK) (E : XK),
      Room k (A.deeper (envOfC qual (defScope st) s.heap.objs.size f cdv)) → A.guards = some [] → sp vs H Q E →
      ∃ t, PSs (cxOf CX0 P w K mg base N qual (defScope st) f cdv A outer s H E).nox (defBody st) t ∧
        t { nx := fun _ H' => Q .non H', rt := Q } (start N vs) H) :
    GOk P w K mg base CX0 (k + 1) f fd ps sp :=
  gok F S long fun cdv A outer s H vs Q E room gd hsp => by
    obtain ⟨t, h, q⟩ := body cdv A outer s H vs Q E room gd hsp
    exact ⟨t, h.nox, q⟩
end
/-! joining ways: what is known of a value, for any wish -/
theorem asg_join {te : TE} {g : TG} {D : Ends} {σ : L2.St} {H : Hp} (R : V → Hp → Prop)
    (h : ∀ Q : VK, (∀ v H', R v H' → Q v H') → te σ H Q) (hq : ∀ v H', R v H' → g v σ H' D.nx) : tAsg te g D σ H := h _ hq
theorem te_join {te : TE} {Q : VK} {σ : L2.St} {H : Hp} (R : V → Hp → Prop)
    (h : ∀ Q : VK, (∀ v H', R v H' → Q v H') → te σ H Q) (hq : ∀ v H', R v H' → Q v H') : te σ H Q := h _ hq
theorem seq_set {te : TE} {i : Nat} {u : TS} {D : Ends} {σ : L2.St} {H : Hp} (h : te σ H fun x H1 => u D (σ.set i (some x)) H1) : tSeq (tAsg te (gName i)) u D σ H := h
theorem seq_if_op {r : R2} {ta tb : TE} {t u w : TS} {D : Ends} {σ : L2.St} {H : Hp}
    (h : ta σ H fun x H1 => tb σ H1 fun y H2 => r x y H2 fun z H3 => ∃ k, z = .bl k ∧ if k = true then t { D with nx := w D } σ H3 else u { D with nx := w D } σ H3) :
    tSeq (tIfS (tTest (tOp r ta tb)) t u) w D σ H := h
theorem ret_op {r : R2} {ta tb : TE} {D : Ends} {σ : L2.St} {H : Hp} (h : ta σ H fun x H1 => tb σ H1 fun y H2 => r x y H2 D.rt) : tRet (tOp r ta tb) D σ H := h
theorem next_go {w : Ends → L2.St → Hp → Prop} {D : Ends} {σ : L2.St} {H : Hp} (h : w D σ H) : tNext { D with nx := w D } σ H := h
theorem ret_go {te : TE} {D : Ends} {σ : L2.St} {H : Hp} (h : te σ H D.rt) : tRet te D σ H := h
theorem ret_join {te : TE} {D : Ends} {σ : L2.St} {H : Hp} (R : V → Hp → Prop)
    (h : ∀ Q : VK, (∀ v H', R v H' → Q v H') → te σ H Q) (hq : ∀ v H', R v H' → D.rt v H') : tRet te D σ H := h _ hq
theorem cons_join {te : TE} {tr : TA} {Q : List V → Hp → Prop} {σ : L2.St} {H : Hp} (R : V → Hp → Prop)
    (h : ∀ Q : VK, (∀ v H', R v H' → Q v H') → te σ H Q) (hq : ∀ v H', R v H' → tr σ H' fun xs H2 => Q (v :: xs) H2) : tCons te tr σ H Q := h _ hq
theorem ret_lst_join {te : TE} {tr : TA} {D : Ends} {σ : L2.St} {H : Hp} (R : V → Hp → Prop)
    (h : ∀ Q : VK, (∀ v H', R v H' → Q v H') → te σ H Q)
    (hq : ∀ v H', R v H' → tr σ H' fun xs H2 => (v :: xs).length ≤ sizeLine ∧ ∀ p, H2 p = none → D.rt (.ref p) (upd H2 p (.lst (v :: xs)))) :
    tRet (tLst (tCons te tr)) D σ H := h _ hq
theorem same_new {H : Hp} {p : Addr} (h : H p = none) (o : HO) : Same H (upd H p o) := fun b u q => by
  rw [upd_ne (ne_of_none q h)]
  exact q
theorem upd_other {H : Hp} {p q : Addr} {o u : HO} (h : H q = some u) (n : H p = none) : upd H p o q = some u := by
  rw [upd_ne (ne_of_none h n)]
  exact h
/-- all stands but what is at d -/
def But (d : Addr) (H H' : Hp) : Prop := ∀ b o, b ≠ d → H b = some o → H' b = some o
theorem But.of {d : Addr} {H H' : Hp} (s : Same H H') : But d H H' := fun b o _ h => s b o h
theorem But.refl {d : Addr} {H : Hp} : But d H H := fun _ _ _ h => h
theorem But.trans {d : Addr} {H H1 H2 : Hp} (a : But d H H1) (b : But d H1 H2) : But d H H2 := fun c o n h => b c o n (a c o n h)
theorem But.upd {d : Addr} {H H' : Hp} (a : But d H H') (o : HO) : But d H (L2.upd H' d o) := fun c u n h => by
  rw [upd_ne n]
  exact a c u n h
theorem But.new {d p : Addr} {H H' : Hp} (a : But d H H') (hp : H' p = none) (o : HO) : But d H (L2.upd H' p o) := fun c u n h => by
  have z := a c u n h
  rw [upd_ne (ne_of_none z hp)]
  exact z
theorem But.seq {K : PySem.W.Frag} {d a : Addr} {H H' : Hp} {xs : List V} (e : But d H H') (n : a ≠ d) (h : SqL K H a xs) : SqL K H' a xs := by
  rcases h with (h | ⟨o, h⟩) | h
  · exact .inl (.inl (e _ _ n h))
  · exact .inl (.inr ⟨o, e _ _ n h⟩)
  · exact .inr h
theorem atI_in {α : Type} {xs : List α} {r : Int} (r0 : 0 ≤ r) (r1 : r < (xs.length : Int)) : ∃ v, v ∈ xs ∧ atI xs r = some v := by
  have hr : r.toNat < xs.length := by omega
  have er : ((r.toNat : Nat) : Int) = r := by omega
  have z := atI_nat (List.getElem?_eq_getElem hr)
  rw [er] at z
  exact ⟨_, List.getElem_mem hr, z⟩
theorem small_line {n : Nat} (h : n ≤ 1000) : n ≤ sizeLine := Nat.le_trans h (by decide)
end Hx

namespace Wp
open PySem PySem.Spec PyProof.Rows L2
def top (i : Nat) : Stmt := PySem.Challenge.pw_wovenplaces_k04_operators_and_exchanges.main.body.getD i (.Pass ⟨0, 0, 0, 0⟩)
abbrev c_WrongValue : Stmt := top 1
abbrev c_InvalidNumber : Stmt := top 2
abbrev s_InvalidNumber_init : Stmt := inClass (top 2) 0
abbrev c_InvalidName : Stmt := top 3
abbrev s_InvalidName_init : Stmt := inClass (top 3) 0
abbrev c_InvalidSign : Stmt := top 4
abbrev s_InvalidSign_init : Stmt := inClass (top 4) 0
abbrev c_InvalidWord : Stmt := top 5
abbrev s_InvalidWord_init : Stmt := inClass (top 5) 0
abbrev c_InvalidExpression : Stmt := top 6
abbrev s_InvalidExpression_init : Stmt := inClass (top 6) 0
abbrev s_is_integer : Stmt := top 15
abbrev s_is_within : Stmt := top 16
abbrev s_is_lettered : Stmt := top 17
abbrev s_is_name : Stmt := top 18
abbrev s_check_within : Stmt := top 19
abbrev s_check_sign : Stmt := top 20
abbrev s_check_name : Stmt := top 21
abbrev s_check_word : Stmt := top 22
abbrev s_knots_above : Stmt := top 24
abbrev s_exchange : Stmt := top 25
abbrev s_spelled : Stmt := top 27
abbrev c_Facts : Stmt := top 28
abbrev s_Facts_init : Stmt := inClass (top 28) 0
abbrev c_Expression : Stmt := top 30
abbrev s_Expression_kind : Stmt := inClass (top 30) 0
abbrev s_Expression_inner : Stmt := inClass (top 30) 1
abbrev s_Expression_told : Stmt := inClass (top 30) 2
abbrev s_Expression_names : Stmt := inClass (top 30) 3
abbrev s_Expression_knots : Stmt := inClass (top 30) 4
abbrev s_Expression_str : Stmt := inClass (top 30) 5
abbrev s_Expression_repr : Stmt := inClass (top 30) 6
abbrev s_Expression_eq : Stmt := inClass (top 30) 7
abbrev s_Expression_add : Stmt := inClass (top 30) 8
abbrev s_Expression_rshift : Stmt := inClass (top 30) 9
abbrev s_Expression_exchanged : Stmt := inClass (top 30) 10
abbrev c_Sign : Stmt := top 31
abbrev s_Sign_init : Stmt := inClass (top 31) 0
abbrev s_Sign_kind : Stmt := inClass (top 31) 1
abbrev s_Sign_inner : Stmt := inClass (top 31) 2
abbrev s_Sign_told : Stmt := inClass (top 31) 3
abbrev s_Sign_names : Stmt := inClass (top 31) 4
abbrev s_Sign_knots : Stmt := inClass (top 31) 5
abbrev s_Sign_str : Stmt := inClass (top 31) 6
abbrev s_Sign_repr : Stmt := inClass (top 31) 7
abbrev s_Sign_eq : Stmt := inClass (top 31) 8
abbrev s_Sign_add : Stmt := inClass (top 31) 9
abbrev s_Sign_rshift : Stmt := inClass (top 31) 10
abbrev s_Sign_exchanged : Stmt := inClass (top 31) 11
abbrev c_Name : Stmt := top 32
abbrev s_Name_init : Stmt := inClass (top 32) 0
abbrev s_Name_kind : Stmt := inClass (top 32) 1
abbrev s_Name_inner : Stmt := inClass (top 32) 2
abbrev s_Name_told : Stmt := inClass (top 32) 3
abbrev s_Name_names : Stmt := inClass (top 32) 4
abbrev s_Name_knots : Stmt := inClass (top 32) 5
abbrev s_Name_str : Stmt := inClass (top 32) 6
abbrev s_Name_repr : Stmt := inClass (top 32) 7
abbrev s_Name_eq : Stmt := inClass (top 32) 8
abbrev s_Name_add : Stmt := inClass (top 32) 9
abbrev s_Name_rshift : Stmt := inClass (top 32) 10
abbrev s_Name_exchanged : Stmt := inClass (top 32) 11
abbrev c_Weave : Stmt := top 33
abbrev s_Weave_init : Stmt := inClass (top 33) 0
abbrev s_Weave_kind : Stmt := inClass (top 33) 1
abbrev s_Weave_inner : Stmt := inClass (top 33) 2
abbrev s_Weave_told : Stmt := inClass (top 33) 3
abbrev s_Weave_names : Stmt := inClass (top 33) 4
abbrev s_Weave_knots : Stmt := inClass (top 33) 5
abbrev s_Weave_str : Stmt := inClass (top 33) 6
abbrev s_Weave_repr : Stmt := inClass (top 33) 7
abbrev s_Weave_eq : Stmt := inClass (top 33) 8
abbrev s_Weave_add : Stmt := inClass (top 33) 9
abbrev s_Weave_rshift : Stmt := inClass (top 33) 10
abbrev s_Weave_exchanged : Stmt := inClass (top 33) 11
abbrev c_Part : Stmt := top 34
abbrev s_Part_init : Stmt := inClass (top 34) 0
abbrev s_Part_kind : Stmt := inClass (top 34) 1
abbrev s_Part_inner : Stmt := inClass (top 34) 2
abbrev s_Part_told : Stmt := inClass (top 34) 3
abbrev s_Part_names : Stmt := inClass (top 34) 4
abbrev s_Part_knots : Stmt := inClass (top 34) 5
abbrev s_Part_str : Stmt := inClass (top 34) 6
abbrev s_Part_repr : Stmt := inClass (top 34) 7
abbrev s_Part_eq : Stmt := inClass (top 34) 8
abbrev s_Part_add : Stmt := inClass (top 34) 9
abbrev s_Part_rshift : Stmt := inClass (top 34) 10
abbrev s_Part_exchanged : Stmt := inClass (top 34) 11
abbrev c_Drop : Stmt := top 35
abbrev s_Drop_init : Stmt := inClass (top 35) 0
abbrev s_Drop_kind : Stmt := inClass (top 35) 1
abbrev s_Drop_inner : Stmt := inClass (top 35) 2
abbrev s_Drop_told : Stmt := inClass (top 35) 3
abbrev s_Drop_names : Stmt := inClass (top 35) 4
abbrev s_Drop_knots : Stmt := inClass (top 35) 5
abbrev s_Drop_str : Stmt := inClass (top 35) 6
abbrev s_Drop_repr : Stmt := inClass (top 35) 7
abbrev s_Drop_eq : Stmt := inClass (top 35) 8
abbrev s_Drop_add : Stmt := inClass (top 35) 9
abbrev s_Drop_rshift : Stmt := inClass (top 35) 10
abbrev s_Drop_exchanged : Stmt := inClass (top 35) 11
abbrev c_Lead : Stmt := top 36
abbrev s_Lead_init : Stmt := inClass (top 36) 0
abbrev s_Lead_kind : Stmt := inClass (top 36) 1
abbrev s_Lead_inner : Stmt := inClass (top 36) 2
abbrev s_Lead_told : Stmt := inClass (top 36) 3
abbrev s_Lead_names : Stmt := inClass (top 36) 4
abbrev s_Lead_knots : Stmt := inClass (top 36) 5
abbrev s_Lead_str : Stmt := inClass (top 36) 6
abbrev s_Lead_repr : Stmt := inClass (top 36) 7
abbrev s_Lead_eq : Stmt := inClass (top 36) 8
abbrev s_Lead_add : Stmt := inClass (top 36) 9
abbrev s_Lead_rshift : Stmt := inClass (top 36) 10
abbrev s_Lead_exchanged : Stmt := inClass (top 36) 11
abbrev c_Turn : Stmt := top 37
abbrev s_Turn_init : Stmt := inClass (top 37) 0
abbrev s_Turn_kind : Stmt := inClass (top 37) 1
abbrev s_Turn_inner : Stmt := inClass (top 37) 2
abbrev s_Turn_told : Stmt := inClass (top 37) 3
abbrev s_Turn_names : Stmt := inClass (top 37) 4
abbrev s_Turn_knots : Stmt := inClass (top 37) 5
abbrev s_Turn_str : Stmt := inClass (top 37) 6
abbrev s_Turn_repr : Stmt := inClass (top 37) 7
abbrev s_Turn_eq : Stmt := inClass (top 37) 8
abbrev s_Turn_add : Stmt := inClass (top 37) 9
abbrev s_Turn_rshift : Stmt := inClass (top 37) 10
abbrev s_Turn_exchanged : Stmt := inClass (top 37) 11
abbrev s_check_expressions : Stmt := top 38
abbrev s_make : Stmt := top 39
abbrev s_exchanged_in : Stmt := top 40
abbrev s_law_deck : Stmt := top 42
abbrev s_law_card : Stmt := top 43
abbrev s_law_of : Stmt := top 44
abbrev s_law_leaf : Stmt := top 45
abbrev s_law_tree : Stmt := top 46
abbrev s_law_titles : Stmt := top 47
abbrev s_law_signs : Stmt := top 48
abbrev s_law_plain : Stmt := top 49
abbrev s_law_made : Stmt := top 50
abbrev s_law_text : Stmt := top 51
abbrev s_law_caught : Stmt := top 52
abbrev s_law_put : Stmt := top 53
abbrev s_law_right : Stmt := top 54
abbrev s_law : Stmt := top 55
end Wp

namespace Hx
open PySem PySem.Spec PyProof.Rows L2
/-- the data of a key -/
def keyD : Key → PyData
  | .inl i => .int i
  | .inr x => .str x
mutual
/-- at v stands the data d, in objects that are tracked -/
inductive Dq (H : Hp) : V → PyData → Prop
  | non : Dq H .non .none
  | bl (b : Bool) : Dq H (.bl b) (.bool b)
  | int (i : Int) : Dq H (.int i) (.int i)
  | str (x : Str) : Dq H (.str x) (.str x)
  | lst {a : Addr} {xs : List V} {ds : List PyData} : H a = some (.lst xs) → DqAll H xs ds → Dq H (.ref a) (.list ds)
  | tup {a : Addr} {xs : List V} {ds : List PyData} : H a = some (.tup xs) → DqAll H xs ds → Dq H (.ref a) (.tuple ds)
  | dct {a : Addr} {ks : List (Key × V)} {es : List (PyData × PyData)} : H a = some (.dK ks) → DqKv H ks es → Dq H (.ref a) (.dict es)
inductive DqAll (H : Hp) : List V → List PyData → Prop
  | nil : DqAll H [] []
  | cons {v : V} {vs : List V} {d : PyData} {ds : List PyData} : Dq H v d → DqAll H vs ds → DqAll H (v :: vs) (d :: ds)
inductive DqKv (H : Hp) : List (Key × V) → List (PyData × PyData) → Prop
  | nil : DqKv H [] []
  | cons {k : Key} {v : V} {d : PyData} {r : List (Key × V)} {es : List (PyData × PyData)} : Dq H v d → DqKv H r es → DqKv H ((k, v) :: r) ((keyD k, d) :: es)
end
mutual
theorem Dq.same {H H' : Hp} (s : Same H H') : ∀ (d : PyData) (v : V), Dq H v d → Dq H' v d
  | .none, _, h => by cases h; exact .non
  | .bool b, _, h => by cases h; exact .bl b
  | .int i, _, h => by cases h; exact .int i
  | .str x, _, h => by cases h; exact .str x
  | .list ds, _, h => by cases h with | lst e r => exact .lst (s _ _ e) (DqAll.same s ds _ r)
  | .tuple ds, _, h => by cases h with | tup e r => exact .tup (s _ _ e) (DqAll.same s ds _ r)
  | .dict es, _, h => by cases h with | dct e r => exact .dct (s _ _ e) (DqKv.same s es _ r)
theorem DqAll.same {H H' : Hp} (s : Same H H') : ∀ (ds : List PyData) (vs : List V), DqAll H vs ds → DqAll H' vs ds
  | [], _, h => by cases h; exact .nil
  | d :: ds, _, h => by cases h with | cons e r => exact .cons (Dq.same s d _ e) (DqAll.same s ds _ r)
theorem DqKv.same {H H' : Hp} (s : Same H H') : ∀ (es : List (PyData × PyData)) (ks : List (Key × V)), DqKv H ks es → DqKv H' ks es
  | [], _, h => by cases h; exact .nil
  | (_, d) :: es, _, h => by cases h with | cons e r => exact .cons (Dq.same s d _ e) (DqKv.same s es _ r)
end
section
variable {X : Cx} {pins : List (Addr × Obj)} {σ : L2.St} {H : Hp} {s : Shared}
theorem reads_key {w : World} {P : Program} {h : Heap} {k : Key} {u : Value} (e : (mixKind P w).is k u = true) : Reads h u (keyD k) [] := by
  rw [mixKind_is] at e
  rcases keyIs_shape e with ⟨i, t, rfl, rfl⟩ | ⟨x, t, rfl, rfl⟩
  · exact .int i t
  · exact .str x t
mutual
theorem Dq.reads (I : Inv X pins σ H s) : ∀ (d : PyData) (v : V) (u : Value), Dq H v d → RelV v u → ∃ as, Reads s.heap u d as ∧ ∀ b ∈ as, ∃ o, H b = some o
  | .none, _, _, h, r => by
    cases h; cases r
    exact ⟨_, Reads.none, by simp⟩
  | .bool b, _, _, h, r => by
    cases h; cases r
    exact ⟨_, Reads.bool b, by simp⟩
  | .int i, _, _, h, r => by
    cases h; obtain ⟨t, rfl⟩ := r
    exact ⟨_, Reads.int i t, by simp⟩
  | .str x, _, _, h, r => by
    cases h; obtain ⟨t, rfl⟩ := r
    exact ⟨_, Reads.str x t, by simp⟩
  | .list ds, _, _, h, r => by
    cases h with
    | @lst a xs _ e ra =>
      cases r
      obtain ⟨_, its, n, rv, hg⟩ := (show ObjOk X.prog X.w H s.heap a (.lst xs) from I.hok a _ e)
      obtain ⟨as, hr, ha⟩ := DqAll.reads I ds _ its ra rv
      refine ⟨_, Reads.list hg rfl rfl hr, fun b hb => ?_⟩
      rcases List.mem_cons.mp hb with rfl | hb
      · exact ⟨_, e⟩
      · exact ha b hb
  | .tuple ds, _, _, h, r => by
    cases h with
    | @tup a xs _ e ra =>
      cases r
      obtain ⟨_, its, rv, o, hg, hc, n, hd⟩ := (show ObjOk X.prog X.w H s.heap a (.tup xs) from I.hok a _ e)
      obtain ⟨as, hr, ha⟩ := DqAll.reads I ds _ its ra rv
      exact ⟨_, Reads.tuple hg hc hd hr, ha⟩
  | .dict es, _, _, h, r => by
    cases h with
    | @dct a ks _ e ra =>
      cases r
      obtain ⟨_, _, vs, rk, o, des, ep, hg, hx, hd, _, hp, _⟩ := (show ObjOk X.prog X.w H s.heap a (.dK ks) from I.hok a _ e)
      obtain ⟨as, bs, h1, h2, h3⟩ := DqKv.reads I es ks vs _ ra rk hp
      refine ⟨_, Reads.dict hg hx.1 hd h1 h2, fun b hb => ?_⟩
      rcases List.mem_append.mp hb with hb | hb
      · rcases List.mem_cons.mp hb with rfl | hb
        · exact ⟨_, e⟩
        · exact h3 b (List.mem_append_left _ hb)
      · exact h3 b (List.mem_append_right _ hb)
theorem DqAll.reads (I : Inv X pins σ H s) : ∀ (ds : List PyData) (vs : List V) (us : List Value), DqAll H vs ds → Vals vs us → ∃ as, ReadsAll s.heap us ds as ∧ ∀ b ∈ as, ∃ o, H b = some o
  | [], _, _, h, r => by
    cases h; cases r
    exact ⟨_, ReadsAll.nil, by simp⟩
  | d :: ds, _, _, h, r => by
    cases h with
    | cons h1 h2 =>
      cases r with
      | cons r1 r2 =>
        obtain ⟨as, q1, m1⟩ := Dq.reads I d _ _ h1 r1
        obtain ⟨bs, q2, m2⟩ := DqAll.reads I ds _ _ h2 r2
        exact ⟨_, ReadsAll.cons q1 q2, fun b hb => (List.mem_append.mp hb).elim (m1 b) (m2 b)⟩
theorem DqKv.reads (I : Inv X pins σ H s) : ∀ (es : List (PyData × PyData)) (ks : List (Key × V)) (vs : List (Key × Value)) (des : List DictEntry), DqKv H ks es → KV ks vs → Pairs (mixKind X.prog X.w) des vs →
    ∃ as bs, ReadsAll s.heap (des.map (·.key)) (es.map (·.1)) as ∧ ReadsAll s.heap (des.map (·.val)) (es.map (·.2)) bs ∧ ∀ b ∈ as ++ bs, ∃ o, H b = some o
  | [], _, _, _, h, r, p => by
    cases h; cases r; cases p
    exact ⟨_, _, ReadsAll.nil, ReadsAll.nil, by simp⟩
  | (_, d) :: es, _, _, _, h, r, p => by
    cases h with
    | cons h1 h2 =>
      cases r with
      | cons r1 r2 =>
        cases p with
        | cons p1 p2 p3 =>
          obtain ⟨as, bs, q1, q2, m⟩ := DqKv.reads I es _ _ _ h2 r2 p3
          obtain ⟨cs, q3, m3⟩ := Dq.reads I d _ _ h1 r1.2
          rw [← r1.1] at p1
          refine ⟨_, _, ReadsAll.cons (reads_key p1) q1, ReadsAll.cons (by dsimp only; rw [p2]; exact q3) q2, fun b hb => ?_⟩
          rcases List.mem_append.mp hb with hb | hb
          · exact m b (List.mem_append_left _ hb)
          · rcases List.mem_append.mp hb with hb | hb
            · exact m3 b hb
            · exact m b (List.mem_append_right _ hb)
end
end
/-- the base has sys.modules -/
def Mods (base : Heap) : Prop := ∃ o, base.get? sysModules = some o
/-- a datum that a repr may be asked of -/
def Small (d : PyData) : Prop := d.showable = true ∧ d.depth ≤ 20 ∧ d.shown.length ≤ 100000
def rRepr : List V → Hp → VK → Prop := fun xs H Q => ∃ v d, xs = [v] ∧ Dq H v d ∧ Small d ∧ Q (.str d.shown) H
section
variable {X : Cx}
theorem call_reprD (gd : X.A.guards = some []) (hu : X.A.units + 64 < cLine) (hm : Mods X.base) : CallR X (.builtin "repr") rRepr := by
  intro pins s σ H xs us Q I r h
  obtain ⟨v, d, rfl, hd, ⟨h1, h2, h3⟩, q⟩ := h
  obtain ⟨u, rfl, ru⟩ := vals1 r
  have hz : d.shown.length ≤ sizeLine := Nat.le_trans h3 (by decide)
  obtain ⟨as, hr, ha⟩ := Dq.reads I d v u hd ru
  have hno : sysModules ∉ as := fun z => by
    obtain ⟨o, e⟩ := ha _ z
    obtain ⟨b, eb⟩ := hm
    have n := (I.bs _ _ eb).2
    rw [n] at e
    cases e
  have fin : ∀ (h' : Heap) (tu : Tok) (tk : Nat), (∀ b o, s.heap.get? b = some o → h'.get? b = some o) → EP X pins σ Q (.str d.shown tu) { s with heap := h', toks := tk } :=
    fun h' tu tk k => ⟨.str d.shown, H, I.kept (t' := tk) k, ⟨_, rfl⟩, q⟩
  cases hd with
  | non => cases ru; exact P.repr_of_none (fin _ _ _ fun _ _ z => z)
  | bl b => cases ru; exact P.repr_of_bool (fin _ _ _ fun _ _ z => z)
  | int i =>
    obtain ⟨t, rfl⟩ := ru
    exact P.repr_of_int (of_decide_eq_true h1) (fin _ _ _ fun _ _ z => z)
  | str x =>
    obtain ⟨t, rfl⟩ := ru
    exact P.repr_of_str (fin _ _ _ fun _ _ z => z) hz
  | lst _ _ => cases ru; exact repr_of_reads' hr h1 (fun _ => hno) gd (by omega) (fun _ _ z => z) fin hz
  | tup _ _ => cases ru; exact repr_of_reads' hr h1 (fun _ => hno) gd (by omega) (fun _ _ z => z) fin hz
  | dct _ _ => cases ru; exact repr_of_reads' hr h1 (fun _ => hno) gd (by omega) (fun _ _ z => z) fin hz
end
end Hx

namespace Hx
open PySem PySem.Spec PyProof.Rows L2
/-- a number of the module -/
theorem pe_gint {X : Cx} {x : Str} {i : Int} {t : Tok} {pos : Pos} (hg : Gl X x) (hm : X.mg x = some (.int i t))
    (hd : (x == ("__debug__" : Str)) = false := by decide) : PE X (.Name x pos) (tC (.int i)) := pe_glob hg hm ⟨_, rfl⟩ hd
/-- a class or def of the module; a built-in class, as a value -/
theorem pe_gref {X : Cx} {x : Str} {a : Addr} {pos : Pos} (hg : Gl X x) (hm : X.mg x = some (.ref a))
    (hd : (x == ("__debug__" : Str)) = false := by decide) : PE X (.Name x pos) (tC (.ref a)) := pe_glob hg hm (show RelV (.ref a) (.ref a) from rfl) hd
theorem pe_bty {X : Cx} {x : Str} {T : String} {pos : Pos} (hg : Gl X x) (hm : X.mg x = none) (hv : bootBuiltins x = some (.type T))
    (hn : x ≠ "__name__" := by decide) (hd : (x == ("__debug__" : Str)) = false := by decide) : PE X (.Name x pos) (tC (.ty T)) :=
  pe_bltn hg hm hv (show RelV (.ty T) (.type T) from rfl) hn hd
/-- a comprehension without an if: the turn is taken -/
theorem turn_yes {σ : L2.St} {H : Hp} {R S : Hp → Prop} (h : R H) : tYes σ H fun b H3 => if b = true then R H3 else S H3 := by
  show (if true = true then R H else S H)
  rw [if_pos rfl]
  exact h
/-- the script as an object that is only read -/
def scriptO (vs : List Value) (ns : List Int) : HO := .frz { cls := .type "list", data := .seq vs.toArray } (.lst (ns.map V.int))
section
variable {P : Program} {w : World} {K : PySem.W.Frag} {mg mb : Str → Option Value} {k : Nat} {fa a : Addr} {fd : FuncData} {x : Str} {sp : Sp}
  {s1 : Shared} {vs : List Value} {ns : List Int}
theorem enter_with (H : Hp) (KX : K.In s1.heap) (hglob : s1.heap.Ns mainGlobals mg) (hblt : s1.heap.Ns builtinsNs mb)
    (hboot : ∀ x : Str, x ≠ "__name__" → mb x = bootBuiltins x) (hlim : s1.heap.NoLimit) (hmods : ∃ mm, s1.heap.Ns sysModules mm) (hgen : s1.gens = #[])
    (ha : s1.heap.get? a = some { cls := .type "list", data := .seq vs.toArray }) (room : Room k callerA)
    (F : ∀ base : Heap, K.In base → base.Ns mainGlobals mg → Mods base → GOk P w K mg base CX0 k fa fd [x] sp)
    (hbind : ∀ (s : Shared) (u : Value), BindsTo s fd ⟨[u], []⟩ [(x, u)])
    (hH : ∀ b u, H b = some u → b = a ∧ u = scriptO vs ns) (hK : ∀ u, H a = some u → K.lookup a = none) (hok : HOk P w H s1.heap)
    (hsp : sp [.ref a] H (fun v _ => v = .bl true) E0) :
    codeAny (model P w) callerA (.call (.ref fa) ⟨[.ref a], []⟩) (fun r s' => r = .ok (.ret (.bool true)) ∧ OldK s1.heap s'.heap ∧ s'.os = s1.os ∧ AllBare s'.gens) s1 := by
  have untracked : ∀ {b : Addr} {o : Obj} {es : Array DictEntry} {ep : Nat}, s1.heap.get? b = some o → o.data = .dict es ep → H b = none := by
    intro b o es ep e d
    cases hb : H b with
    | none => rfl
    | some u =>
      obtain ⟨rfl, _⟩ := hH b u hb
      rw [ha] at e
      cases e
      cases (show Data.seq vs.toArray _ = Data.dict es ep from d)
  have nsBase : ∀ {b : Addr} {m : Str → Option Value}, s1.heap.Ns b m → (hidT s1.heap H).Ns b m := fun {b m} ⟨o, es, ep, e, d, r⟩ =>
    ⟨o, es, ep, hidT_get e (untracked e d), d, r⟩
  have inBase : K.In (hidT s1.heap H) := by
    intro b o e
    refine hidT_get (KX b o e) ?_
    cases hb : H b with
    | none => rfl
    | some u =>
      obtain ⟨rfl, _⟩ := hH b u hb
      rw [hK u hb] at e
      cases e
  have modOk : Mod K mg (hidT s1.heap H) := by
    refine ⟨inBase, nsBase hglob, ⟨mb, nsBase hblt, hboot⟩, ?_⟩
    obtain ⟨mc, l1, l2⟩ := hlim
    exact ⟨mc, nsBase l1, l2⟩
  have modsOk : Mods (hidT s1.heap H) := by
    obtain ⟨mm, hm⟩ := hmods
    obtain ⟨o, es, ep, e, _⟩ := nsBase hm
    exact ⟨o, e⟩
  have start0 : Env0 P w K mg (hidT s1.heap H) callerA [] s1 H :=
    { frames := rfl, mod := modOk, bs := fun b o e => of_hidT e, bsz := Nat.le_of_eq (hidT_size _ _), funs := trivial,
      frf := fun b hb => absurd (show b ∈ ([] : List Addr) from hb) (by simp), hok := hok, bare := .of_eq hgen }
  have run := (F _ inBase (nsBase hglob) modsOk).goes callerA [] s1 H ⟨[.ref a], []⟩ [.ref a] [.ref a] _ _ room rfl start0 (hbind s1 (.ref a)) (.cons rfl .nil) hsp
  refine codeAny_mono run ?_
  intro r s' hr
  cases r with
  | error e => exact (show False from hr).elim
  | ok fl =>
    cases fl with
    | next => exact hr.elim
    | brk => exact hr.elim
    | cont => exact hr.elim
    | ret u =>
      obtain ⟨v, H', osEq, bare, un, hok', rel, rfl⟩ := hr
      cases (show u = Value.bool true from rel)
      refine ⟨rfl, OldK.of_keep ?_, osEq, bare⟩
      intro b o e
      cases hb : H b with
      | none => exact un.keep b o e hb (fun z => absurd (show b ∈ ([] : List Addr) from z) (by simp)) (by simp)
      | some u =>
        obtain ⟨rfl, rfl⟩ := hH b u hb
        have stay := un.frzs b _ _ hb
        obtain ⟨e1, _⟩ := hok b _ hb
        obtain ⟨e2, _⟩ := hok' b _ stay
        rw [e] at e1
        rw [e2, ← Option.some.inj e1]

theorem law_enter (KX : K.In s1.heap) (hglob : s1.heap.Ns mainGlobals mg) (hblt : s1.heap.Ns builtinsNs mb)
    (hboot : ∀ x : Str, x ≠ "__name__" → mb x = bootBuiltins x) (hlim : s1.heap.NoLimit) (hmods : ∃ mm, s1.heap.Ns sysModules mm) (hgen : s1.gens = #[])
    (ha : s1.heap.get? a = some { cls := .type "list", data := .seq vs.toArray }) (hi : IntsAre vs ns) (hl : ns.length ≤ sizeLine) (room : Room k callerA)
    (F : ∀ base : Heap, K.In base → base.Ns mainGlobals mg → Mods base → GOk P w K mg base CX0 k fa fd [x] sp)
    (hbind : ∀ (s : Shared) (u : Value), BindsTo s fd ⟨[u], []⟩ [(x, u)])
    (hsp : ∀ H : Hp, SqL K H a (ns.map V.int) → sp [.ref a] H (fun v _ => v = .bl true) E0) :
    codeAny (model P w) callerA (.call (.ref fa) ⟨[.ref a], []⟩) (fun r s' => r = .ok (.ret (.bool true)) ∧ OldK s1.heap s'.heap ∧ s'.os = s1.os ∧ AllBare s'.gens) s1 := by
  have rel := vals_ints hi
  cases hk : K.lookup a with
  | some o =>
    have e := KX a o hk
    rw [ha] at e
    cases e
    refine enter_with (ns := ns) (fun _ => none) KX hglob hblt hboot hlim hmods hgen ha room F hbind (fun _ _ z => by cases z) (fun _ z => by cases z) (fun _ _ z => by cases z) ?_
    refine hsp _ (.inr ⟨_, vs.toArray, _, hk, rfl, rfl, rfl, ?_, by simpa using rel⟩)
    rw [List.size_toArray, hi.length]
    exact hl
  | none =>
    have at_a : (fun b => if b = a then some (scriptO vs ns) else none : Hp) a = some (scriptO vs ns) := if_pos rfl
    refine enter_with (ns := ns) (fun b => if b = a then some (scriptO vs ns) else none) KX hglob hblt hboot hlim hmods hgen ha room F hbind ?_ (fun _ _ => hk) ?_ (hsp _ (.inl (.inr ⟨_, at_a⟩)))
    · intro b u z
      by_cases hb : b = a
      · exact ⟨hb, (Option.some.inj ((if_pos hb).symm.trans z)).symm⟩
      · cases (if_neg hb).symm.trans z
    · intro b u z
      by_cases hb : b = a
      · have e := Option.some.inj ((if_pos hb).symm.trans z)
        subst hb
        subst e
        exact ⟨ha, by rw [List.length_map]; exact hl, vs, _, rel, ha⟩
      · cases (if_neg hb).symm.trans z
end
/-- the goal that k_head leaves, for a law whose defs ask that no guard stands below -/
theorem walk_G {l : PySem.W.OpenLaw} {n k : Nat} {q : Program} {loose : List Str} {XP : (Str → Option Value) → Heap → Prop} {YP : World → Heap → Prop} {d : DefRec}
    {K : Params → PySem.W.Frag} {sp : PySem.W.Frag → Sp} {x : Str} (hn : l.most = some n) (hn2 : n ≤ sizeLine) (hdf : d.params.defaults = []) (room : Room k callerA)
    (himp : importsNone q = true) (hY : ∀ (w : World) (h : Heap), YP w h → (K w.params).In h)
    (F : ∀ (w : World) (mg : Str → Option Value) (fa : Addr) (h : Heap), (K w.params).In h → h.Ns mainGlobals mg → mg d.name = some (.ref fa) →
      ∃ fd : FuncData, (∀ (s : Shared) (u : Value), BindsTo s fd ⟨[u], []⟩ [(x, u)]) ∧
        ∀ base : Heap, (K w.params).In base → base.Ns mainGlobals mg → Mods base → GOk l.prog w (K w.params) mg base CX0 k fa fd [x] (sp (K w.params)))
    (hsp : ∀ (K : PySem.W.Frag) (H : Hp) (a : Addr) (ns : List Int), ns.length ≤ n → SqL K H a (ns.map V.int) → sp K [.ref a] H (fun v _ => v = .bl true) E0) :
    PySem.W.WalkO q loose XP YP l.row.toRowW d [] (fun f vs => PySem.call f vs) := by
  refine Att.attach_call hn hdf ?_
  intro w s0 s1 mg mb fa o pm cd doc a vs ns G Y ho hd hcd hmg hobj hints hlen hgen
  have KX := hY w _ Y
  obtain ⟨fd, hb, hF⟩ := F w mg fa _ KX G.T.g hmg
  obtain ⟨mm, hmm, _⟩ := (G.T.seer himp).mods
  exact law_enter KX G.T.g G.T.b G.T.builtins G.T.nolimit ⟨mm, hmm⟩ hgen hobj hints (Nat.le_trans hlen hn2) room hF hb fun H hS => hsp _ H a ns hlen hS
end Hx

/-! own exception classes made with keywords -/
namespace PySem
namespace EK
open PySem.W PySem.Calls PyProof.Rows PySem.PX
section
variable {M : Model} {A : Around} {E : Value → Shared → Prop} {h : Heap} {g : Array GenState} {d : Drawn} {t : Nat} {os : OsState}
variable {nm q : Str} {C N : Addr} {bs bm bmB : List Value} {hdct : Bool} {sn : List Str} {sub : List Value} {ab : Bool} {col : Option Bool}
  {dd : Option Addr} {k0 k1 k2 k3 k5 : Option Value} {B newId initId : String} {kw : List (Str × Value)} {us : List Value}
theorem look_new (F : ExcBaseFacts B newId initId bmB) (same : ∀ X : String, bm.contains (.type X) = bmB.contains (.type X)) {Q : Unit → Shared → Prop}
    (hC : h.get? C = some (excClassObj nm q C N bs bm hdct sn sub ab col dd k0 k1 k2 k3 k5 newId)) (hq : Q () ⟨h, g, d, t, os⟩) :
    wpAny M A (checkBuiltinCall newId ⟨.ref C :: us, kw⟩) Q E ⟨h, g, d, t, os⟩ := by
  have inB : (Value.ref C :: bm).contains (.type B) = true := by
    rw [List.contains_cons, same, F.hasB, Bool.or_true]
  have star := F.noStar
  simp only [checkBuiltinCall, F.newKind, F.newSplit, F.newRow]
  repeat (first
    | refine wpAny_loadPart_at hC ?_
    | (refine wpAny_isSubtype_exc hC ?_; rw [inB])
    | refine wpAny_staticBase_exc hC ?_
    | refine wpAny_madeBy_exc hC ?_
    | simp only [bne_self_eq_false, Bool.false_eq_true, if_false]
    | wp_step)
  exact hq
end
section
variable {prog : Program} {w : World} {A : Around} {E : Value → Shared → Prop} {R : Result → Shared → Prop} {h : Heap} {g : Array GenState} {d : Drawn} {t : Nat} {os : OsState}
variable {nm q : Str} {C N : Addr} {bs bm bmB : List Value} {hdct : Bool} {sn : List Str} {sub : List Value} {ab : Bool} {col : Option Bool}
  {dd : Option Addr} {k0 k1 k2 k3 k5 : Option Value} {B newId initId : String} {kw : List (Str × Value)} {us : List Value} {fI : Addr}
/-- the heap behind the making -/
abbrev madeHeap (h : Heap) (C : Addr) (us : List Value) : Heap := (h.push (kdv_tup us)).push (excO C h.objs.size)
theorem made_keep (b : Addr) (o : Obj) (e : h.get? b = some o) : (madeHeap h C us).get? b = some o :=
  Heap.get?_push_of_some _ (Heap.get?_push_of_some _ e)
theorem made_at : (madeHeap h C us).get? (h.objs.size + 1) = some (excO C h.objs.size) := by heap_get
theorem run_new (F : ExcBaseFacts B newId initId bmB) (same : ∀ X : String, bm.contains (.type X) = bmB.contains (.type X))
    (hC : h.get? C = some (excClassObj nm q C N bs bm hdct sn sub ab col dd k0 k1 k2 k3 k5 newId)) (small : us.length ≤ sizeLine)
    (hq : R (.ok (.ret (.ref (h.objs.size + 1)))) ⟨madeHeap h C us, g, d, t, os⟩) :
    codeAny (model prog w) A (.builtin newId ⟨.ref C :: us, kw⟩) R ⟨h, g, d, t, os⟩ := by
  have ends := F.ends
  have inB : (Value.ref C :: bm).contains (.type B) = true := by
    rw [List.contains_cons, same, F.hasB, Bool.or_true]
  have noA : (Value.ref C :: bm).contains (.type "AttributeError") = false := by
    rw [List.contains_cons, same, F.noAttr]
    rfl
  have noN : (Value.ref C :: bm).contains (.type "NameError") = false := by
    rw [List.contains_cons, same, F.noName]
    rfl
  refine codeAny_builtinAt F.entry ?_
  unfold Builtin.«BaseException.__new__»
  refine wpAt_bind ?_
  show wpAt _ _ _ (stack >>= _) _ _ _
  refine wpAt_bind (wpAt_stack fun p under => wpAt_of_wpAny ?_)
  wp_walk
  refine wpAt_of_wpAny ?_
  rw [F.owner]
  repeat (first
    | with_reducible refine wpAny_madeHere_exc F.canon hC ?_
    | with_reducible refine wpAny_loadPart_at hC ?_
    | (with_reducible refine wpAny_isSubtype_exc hC ?_
       first | rw [inB] | rw [noA] | rw [noN])
    | wp_step)
  show R _ _
  rw [Heap.size_push]
  exact hq
theorem run_type (F : ExcBaseFacts B newId initId bmB) (same : ∀ X : String, bm.contains (.type X) = bmB.contains (.type X))
    (hC : h.get? C = some (excClassObj nm q C N bs bm hdct sn sub ab col dd k0 k1 k2 k3 k5 newId)) {Q : Fin → Shared → Prop}
    (li : Looks (model prog w) h (typeLookup (.ref C) "__init__") (some (.ref fI)))
    (lb : ∀ self, Looks (model prog w) h (bindSpecial (.ref fI) self) (.ref fI, [self])) (small : us.length ≤ sizeLine)
    (hq : codeAny (model prog w) A (.call (.ref fI) ⟨.ref (h.objs.size + 1) :: us, kw⟩)
      (fun r s' => match r with
        | .ok (.ret v) => v = .none ∧ Q (.done (.ret (.ref (h.objs.size + 1)))) s'
        | .ok _ => False
        | .error e => E e s') ⟨madeHeap h C us, g, d, t, os⟩) :
    wpAny (model prog w) A (Builtin.«type.__call__» ⟨.ref C :: us, kw⟩) Q E ⟨h, g, d, t, os⟩ := by
  repeat (first
    | with_reducible refine wpAny_loadPart_at hC ?_
    | with_reducible refine wpAny_madeBy_exc hC ?_
    | wp_step)
  refine codeAny_call_builtin_code (Code.quiet_builtin _ F.quiet) (look_new F same hC ?_)
  refine run_new F same hC small ?_
  show wpAny _ _ _ _ _ _
  have hC1 := made_keep (C := C) (us := us) _ _ hC
  have own : (Value.ref C :: bm).contains (.ref C) = true := by simp
  have li1 := li.keeps (made_keep (C := C) (us := us))
  have lb1 := (lb (.ref (h.objs.size + 1))).keeps (made_keep (C := C) (us := us))
  unfold isInstance
  repeat (first
    | with_reducible refine wpAny_loadPart_at made_at ?_
    | (with_reducible refine wpAny_isSubtype_exc hC1 ?_
       rw [own])
    | wp_step)
  show wpAny _ _ (typeLookup (.ref C) _) _ _ _
  refine li1.at ?_
  refine wpAny_holding (wpAny_bind (lb1.at ?_))
  refine wpAny_bind (wpAny_call (codeAny_mono hq ?_))
  intro r s' z
  cases r with
  | error e => exact z
  | ok fl =>
    cases fl with
    | ret v =>
      obtain ⟨rfl, z⟩ := z
      first
        | exact wpAny_pure (wpAny_pure z)
        | (wp_walk; exact z)
    | next => exact z.elim
    | brk => exact z.elim
    | cont => exact z.elim
end
section
variable {prog : Program} {w : World} {A : Around} {E : Value → Shared → Prop} {R : Result → Shared → Prop} {h : Heap} {g : Array GenState} {d : Drawn} {t : Nat} {os : OsState}
variable {nm q : Str} {C N : Addr} {bs bm bmB : List Value} {hdct : Bool} {sn : List Str} {sub : List Value} {ab : Bool} {col : Option Bool}
  {dd : Option Addr} {k0 k1 k2 k3 k5 : Option Value} {B newId initId : String} {kw : List (Str × Value)} {us : List Value} {fI : Addr}
theorem look_type {M : Model} {Q : Unit → Shared → Prop} (hC : h.get? C = some (excClassObj nm q C N bs bm hdct sn sub ab col dd k0 k1 k2 k3 k5 newId))
    (hq : Q () ⟨h, g, d, t, os⟩) : wpAny M A (checkBuiltinCall "type.__call__" ⟨.ref C :: us, kw⟩) Q E ⟨h, g, d, t, os⟩ := by
  have f0 := tc_sub
  have ofType : (⟨h, g, d, t, os⟩ : Shared).TypeIs (.ref C) "type" := ⟨_, hC, rfl⟩
  simp only [checkBuiltinCall, tc_kind, tc_split]
  repeat (any_goals (first
    | assumption
    | with_reducible refine wpAny_loadPart_at hC ?_
    | with_reducible refine wpAny_onRaise ?_
    | with_reducible refine wpAny_map ?_
    | wp_step))
/-- C(us, kw): the object is laid, then __init__ -/
theorem run_call (F : ExcBaseFacts B newId initId bmB) (same : ∀ X : String, bm.contains (.type X) = bmB.contains (.type X))
    (hC : h.get? C = some (excClassObj nm q C N bs bm hdct sn sub ab col dd k0 k1 k2 k3 k5 newId))
    (li : Looks (model prog w) h (typeLookup (.ref C) "__init__") (some (.ref fI)))
    (lb : ∀ self, Looks (model prog w) h (bindSpecial (.ref fI) self) (.ref fI, [self])) (small : us.length ≤ sizeLine)
    (hq : codeAny (model prog w) (A.under (.builtin "type.__call__" ⟨.ref C :: us, kw⟩)) (.call (.ref fI) ⟨.ref (h.objs.size + 1) :: us, kw⟩)
      (InitBack (h.objs.size + 1) R) ⟨madeHeap h C us, g, d, t, os⟩) :
    codeAny (model prog w) A (.call (.ref C) ⟨us, kw⟩) R ⟨h, g, d, t, os⟩ := by
  have f1 := tc_lookup
  have f2 := tc_bind (.ref C)
  have ofType : (⟨h, g, d, t, os⟩ : Shared).TypeIs (.ref C) "type" := ⟨_, hC, rfl⟩
  refine codeAny_of_tree ?_
  show wpAny _ _ (callAny (.ref C) _) _ _ _
  repeat (any_goals (first
    | assumption
    | with_reducible refine wpAny_loadPart_at hC ?_
    | wp_step))
  refine ⟨rfl, ?_⟩
  refine codeAny_call_builtin_at (Code.quiet_builtin _ (by decide +kernel)) entry_typeCall (look_type hC ?_)
  refine run_type F same hC li lb small (codeAny_mono hq ?_)
  intro r s' z
  rcases r with e | (v | _ | _ | _) <;> exact z
end
/-! storing into an exception -/
section
open Builtin Builtin.ObjectAttr
variable {prog : Program} {w : World} {A : Around} {R : Result → Shared → Prop} {hp : Heap} {g : Array GenState} {d : Drawn} {t : Nat} {os : OsState}
  {K : Frag} {C x : Addr} {B : String} {bmB : List Value} {name : Str} {tk : Tok} {v : Value} {fv : Array Value}
theorem first_field (SF : StoreFacts B bmB "object.__setattr__" "object") (X : K.In hp) (hx : hp.get? x = some { cls := .ref C, data := .fields fv })
    (over : excOver K C bmB = true) (free : takerIn K C name = some none) (dct : hasDictIn K C = true)
    (hq : ∀ h' tk' dx, (∀ b o, b ≠ x → hp.get? b = some o → h'.get? b = some o) → hp.objs.size ≤ dx → dx ≠ x →
      h'.get? x = some { cls := .ref C, dict := some dx, data := .fields fv } → h'.Ns1 dx (fun y => if y = name then some v else none) →
      R (.ok (.ret .none)) ⟨h', g, d, tk', os⟩) :
    codeAny (model prog w) A (.call (.builtin "object.__setattr__") ⟨[.ref x, .str name tk, v], []⟩) R ⟨hp, g, d, t, os⟩ := by
  have I : InstAt hp x { cls := .ref C, data := .fields fv } C none := ⟨hx, rfl, rfl, trivial⟩
  refine osa_openX (s := ⟨hp, g, d, t, os⟩) SF X I over free fun b => ?_
  show wpAny _ _ (storeInOwnDict (.ref x) (.ref C) (.str name tk) name v b) _ _ _
  obtain ⟨cd, hcd, hd⟩ := any_some dct
  have lc : Looks (model prog w) hp (classData C) cd := looks_clsIn X hcd
  obtain ⟨nm, bs, mro, ns, qn, hdd, sn, sb, ab, col, del⟩ := cd
  dsimp only at hd
  subst hd
  have apart : x ≠ hp.objs.size := Nat.ne_of_lt (Heap.lt_size hx)
  unfold storeInOwnDict ownDictForStores
  repeat (first
    | with_reducible refine PX.store_in_new ?_ ?_
    | with_reducible refine wpAny_loadPart_at hx ?_
    | with_reducible refine lc.at ?_
    | wp_step)
  · exact ⟨_, #[], _, (Heap.get?_update_ne _ _ _ _ apart.symm).trans (Heap.get?_push_at rfl rfl), rfl, fun e he => absurd he (by simp), fun _ => rfl⟩
  · intro h' tk' hn' but
    have hx1 : (hp.push { cls := .type "dict", data := .dict #[] }).get? x = some { cls := .ref C, data := .fields fv } := Heap.get?_push_of_some _ hx
    refine hq h' tk' hp.objs.size ?_ (Nat.le_refl _) apart.symm ?_ hn'
    · intro b o hb ho
      have z := but.2 b (Nat.ne_of_lt (Heap.lt_size ho))
      rw [z, Heap.get?_update_ne _ _ _ _ hb]
      exact Heap.get?_push_of_some _ ho
    · rw [but.2 x apart]
      exact Heap.get?_update_self _ hx1 rfl
theorem next_field (SF : StoreFacts B bmB "object.__setattr__" "object") (X : K.In hp) {dx : Addr} {m0 : Str → Option Value} {nl : List Str}
    (hx : hp.get? x = some { cls := .ref C, dict := some dx, data := .fields fv }) (hn : hp.Ns1 dx m0) (within : Within m0 nl) (few : nl.length ≤ 1000)
    (over : excOver K C bmB = true) (free : takerIn K C name = some none) (dct : hasDictIn K C = true)
    (hq : ∀ h' tk', (∀ b o, b ≠ dx → hp.get? b = some o → h'.get? b = some o) → h'.Ns1 dx (fun y => if y = name then some v else m0 y) →
      R (.ok (.ret .none)) ⟨h', g, d, tk', os⟩) :
    codeAny (model prog w) A (.call (.builtin "object.__setattr__") ⟨[.ref x, .str name tk, v], []⟩) R ⟨hp, g, d, t, os⟩ := by
  obtain ⟨oD, _, _, hoD, _, _⟩ := hn.count within
  have I : InstAt hp x { cls := .ref C, dict := some dx, data := .fields fv } C (some oD) := ⟨hx, rfl, rfl, hoD⟩
  refine osa_openX (s := ⟨hp, g, d, t, os⟩) SF X I over free fun b => ?_
  show wpAny _ _ (storeInOwnDict (.ref x) (.ref C) (.str name tk) name v b) _ _ _
  obtain ⟨cd, hcd, hd⟩ := any_some dct
  have lc : Looks (model prog w) hp (classData C) cd := looks_clsIn X hcd
  obtain ⟨nm, bs, mro, ns, qn, hdd, sn, sb, ab, col, del⟩ := cd
  dsimp only at hd
  subst hd
  unfold storeInOwnDict ownDictForStores
  repeat (first
    | with_reducible refine PX.store_in_old hn within few ?_
    | with_reducible refine wpAny_loadPart_at hx ?_
    | with_reducible refine lc.at ?_
    | wp_step)
  intro h' tk' hn' but
  exact hq h' tk' (fun b o hb ho => (but.2 b hb).trans ho) hn'
end
end EK
end PySem

namespace Hx
open PySem PySem.Spec PyProof.Rows L2
/-- what the written part says of an own exception class at C, over the built-in B -/
structure ExK (K : PySem.W.Frag) (C : Addr) (B newId initId : String) (bmB : List Value) : Prop where
  facts : ExcBaseFacts B newId initId bmB
  store : StoreFacts B bmB "object.__setattr__" "object"
  made : PySem.W.excInitIn K C bmB newId = true
  over : PySem.W.excOver K C bmB = true
  dct : PySem.W.hasDictIn K C = true
  sa : PySem.W.findIn K (.ref C) "__setattr__" = some (some (.builtin "object.__setattr__"))
  ga : PySem.W.findIn K (.ref C) "__getattribute__" = some (some (.builtin "BaseException.__getattribute__"))
  gt : PySem.W.findIn K (.ref C) "__getattr__" = some none
  sub : PySem.W.subIn K (.ref C) (.type "BaseException") = some true
  keep : PySem.W.keepIn K (.ref C) = true
  cl : PySem.W.findIn K (.ref C) "__class__" = some (some (.builtin "object.__class__"))
  gg : PySem.W.specialIn K (.builtin "object.__class__") "__get__" = some (some (.builtin "getset_descriptor.__get__"))
  tk : PySem.W.takesIn K (.builtin "object.__class__") = some true
  mo : PySem.W.mroIn K C (.type "object") = some true
section
variable {X : Cx} {pins : List (Addr × Obj)} {σ : L2.St} {H : Hp} {s : Shared} {a C dx : Addr} {f : Str} {y : V} {u : Value} {fs : List (Str × V)}
  {B newId initId : String} {bmB : List Value} {A : Around} {E : Value → Shared → Prop}
/-- self.f = y, the first field: the exception gets its dict -/
theorem put_first {Q : Unit → Shared → Prop} (T : ExK X.K C B newId initId bmB) (I : Inv X pins σ H s) (e : H a = some (exo a C none))
    (free : PySem.W.takerIn X.K C f = some none) (ry : RelV y u)
    (h : ∀ dx s', H dx = none → dx ≠ a → Inv X pins σ (upd (upd H dx (exd dx [(f, y)])) a (exo a C (some dx))) s' → Q () s') :
    wpAny (model X.prog X.w) A (setAttr (.ref a) f u) Q E s := by
  obtain ⟨t1, ho⟩ := exo_at I.hok e
  obtain ⟨hp, g, d, t, os⟩ := s
  refine PySem.W.set_plain I.kIn (ox := { cls := .ref C, dict := none, data := .fields #[.ref t1, .none, .none, .none, .bool false, .none] }) (od := none) ⟨ho, rfl, rfl, trivial⟩ T.sa ?_
  refine PySem.EK.first_field T.store I.kIn ho T.over free T.dct ?_
  intro h' tk' dx keeps new apart at_a ns
  have n0 : H dx = none := I.hok.fresh new
  have old : ∀ {b : Addr} {o : Obj}, hp.get? b = some o → b ≠ dx := fun {b o} z => Nat.ne_of_lt (Nat.lt_of_lt_of_le (Heap.lt_size z) new)
  have other : ∀ {b : Addr}, H b = none → b ≠ a := fun {b} n z => by
    rw [z, e] at n
    cases n
  have un : Un X.fs [] H (upd (upd H dx (exd dx [(f, y)])) a (exo a C (some dx))) hp h' :=
    { keep := fun b o z n _ _ => keeps b o (other n) z
      slot := fun b o z n _ _ => ⟨o.slots, keeps b o (other n) z⟩
      free := fun b o z n _ => by
        rw [upd_ne (other n), upd_ne (old z)]
        exact n
      there := fun b o z _ => by
        by_cases hb : b = a
        · exact ⟨_, by rw [hb]; exact at_a⟩
        · exact ⟨o, keeps b o hb z⟩
      tups := fun b xs z => by
        rw [upd_ne (at_ne e z exo_tup), upd_ne (ne_of_none z n0)]
        exact z
      frzs := fun b o v z => by
        rw [upd_ne (at_ne e z exo_frz), upd_ne (ne_of_none z n0)]
        exact z
      tbls := fun b ps z => ⟨#[], by
        rw [upd_ne (at_ne e z exo_tbl), upd_ne (ne_of_none z n0), z]
        simp⟩ }
  refine h dx _ n0 apart (I.un (t' := tk') un ?_)
  intro b o z
  by_cases hb : b = a
  · subst hb
    rw [upd_same] at z
    cases z
    exact exo_ok at_a
  rw [upd_ne hb] at z
  by_cases hd : b = dx
  · subst hd
    rw [upd_same] at z
    cases z
    exact exd_ok ns (relO_put (fs := []) ry fun _ => True.intro)
  rw [upd_ne hd] at z
  refine (I.hok b o z).stay ?_ ?_ ?_
  · intro c v hc r
    refine keeps c v ?_ r
    rcases hc with hc | hc
    · rw [hc]
      exact hb
    · exact at_ne e hc exo_own
  · intro c hc
    rw [upd_ne (at_ne e hc exo_own), upd_ne (ne_of_none hc n0)]
    exact hc
  · intro c xs hc
    rw [upd_ne (at_ne e hc exo_tup), upd_ne (ne_of_none hc n0)]
    exact hc
/-- self.f = y, a further field -/
theorem put_next {Q : Unit → Shared → Prop} (T : ExK X.K C B newId initId bmB) (I : Inv X pins σ H s) (e : H a = some (exo a C (some dx))) (ed : H dx = some (exd dx fs))
    (few : fs.length ≤ 900) (free : PySem.W.takerIn X.K C f = some none) (ry : RelV y u)
    (h : ∀ s', Inv X pins σ (upd H dx (exd dx ((f, y) :: fs))) s' → Q () s') : wpAny (model X.prog X.w) A (setAttr (.ref a) f u) Q E s := by
  obtain ⟨t1, ho⟩ := exo_at I.hok e
  obtain ⟨mA, ns, rel⟩ := exd_at I.hok ed
  have within := within_of rel
  obtain ⟨hp, g, d, t, os⟩ := s
  obtain ⟨oD, _, _, hoD, _, _⟩ := ns.count within
  refine PySem.W.set_plain I.kIn (ox := { cls := .ref C, dict := some dx, data := .fields #[.ref t1, .none, .none, .none, .bool false, .none] }) (od := some oD) ⟨ho, rfl, rfl, hoD⟩ T.sa ?_
  refine PySem.EK.next_field T.store I.kIn ho ns within (by rw [List.length_map]; omega) T.over free T.dct ?_
  intro h' tk' keeps ns'
  obtain ⟨o', _, _, there, _⟩ := id ns'
  exact h _ (I.write (t' := tk') (x := dx) (e := dx) (o := exd dx ((f, y) :: fs)) (by rw [ed]; exact True.intro) (.inl rfl) keeps ⟨o', there⟩ (exd_ok ns' (relO_put ry rel)))
end
/-- self.f = e, self an exception of the class at C -/
def tPut (f : Str) (C : Addr) (to te : TE) : TS := fun D σ H => te σ H fun y H1 => to σ H1 fun x H2 => ∃ a : Addr, x = .ref a ∧
  ((H2 a = some (exo a C none) ∧ ∀ dx, H2 dx = none → dx ≠ a → D.nx σ (upd (upd H2 dx (exd dx [(f, y)])) a (exo a C (some dx)))) ∨
    ∃ (dx : Addr) (fs : List (Str × V)), H2 a = some (exo a C (some dx)) ∧ H2 dx = some (exd dx fs) ∧ fs.length ≤ 900 ∧ D.nx σ (upd H2 dx (exd dx ((f, y) :: fs))))
section
variable {X : Cx} {o e : Expr} {es : List Expr} {to te : TE} {ta : TA} {f : Str} {p p' p1 p2 pos : Pos} {C : Addr} {B newId initId : String} {bmB : List Value}
theorem ps_put (T : ExK X.K C B newId initId bmB) (free : PySem.W.takerIn X.K C f = some none) (ho : PE X o to) (he : PE X e te)
    (hs : swapsWith e (some (.Attribute o f p')) pos.line X.env = pure false := by rfl) : PS X (.Assign [.Attribute o f p'] e pos) (tPut f C to te) := by
  constructor
  intro pins s σ H D I h
  refine plainObj_wpAny_Assign_Attribute (thn (he.run pins s σ H _ I h) ?_) hs
  rintro v s1 ⟨y, H1, I1, r1, q1⟩
  refine thn (ho.run pins s1 σ H1 _ I1 q1) ?_
  rintro u s2 ⟨x, H2, I2, r2, a, ex, q⟩
  subst ex
  cases (show u = Value.ref a from r2)
  rcases q with ⟨ea, q⟩ | ⟨dx, fs, ea, ed, few, q⟩
  · exact put_first T I2 ea free r1 fun dx s' n ne J => ⟨σ, _, J, q dx n ne⟩
  · exact put_next T I2 ea ed few free r1 fun s' J => ⟨σ, _, J, q⟩
end
/-- a fresh exception -/
def spIn1 (C : Addr) (f : Str) : Sp := fun vs H Q _ => ∃ (a : Addr) (v : V), vs = [.ref a, v] ∧ H a = some (exo a C none) ∧
  ∀ d, H d = none → d ≠ a → Q .non (upd (upd H d (exd d [(f, v)])) a (exo a C (some d)))
def spIn2 (C : Addr) (f g : Str) : Sp := fun vs H Q _ => ∃ (a : Addr) (v u : V), vs = [.ref a, v, u] ∧ H a = some (exo a C none) ∧
  ∀ d, H d = none → d ≠ a → Q .non (upd (upd (upd H d (exd d [(f, v)])) a (exo a C (some d))) d (exd d [(g, u), (f, v)]))
section
variable {P : Program} {w : World} {K : PySem.W.Frag} {mg : Str → Option Value} {base : Heap} {fI C : Addr} {fd : FuncData} {st : Stmt} {qual f g : Str}
  {B newId initId : String} {bmB : List Value} {q1 q2 q3 q4 q5 q6 q7 q8 : Pos}
theorem ok_in1 (F : Fun K "__init__" qual st fI fd) (S : FnScope ["self", f] ["self", f] (defScope st))
    (hb : defBody st = [.Assign [.Attribute (.Name "self" q1) f q2] (.Name f q3) q4]) (v1 : Vis (defScope st) "self") (v2 : Vis (defScope st) f)
    (hd : (f == ("__debug__" : Str)) = false) (hc : (f == ("__classdict__" : Str)) = false) (T : ExK K C B newId initId bmB) (free : PySem.W.takerIn K C f = some none) :
    FnOk P w K mg base CX0 1 fI fd ["self", f] (spIn1 C f) := by
  refine F.ok S (fun vs H Q E h => ?_) (fun cdv A outer s H vs Q E hr h => ?_)
  · obtain ⟨a, v, rfl, _⟩ := h
    rfl
  obtain ⟨a, v, rfl, ha, q⟩ := h
  rw [hb]
  refine ⟨_, pss_one (ps_put T free (pe_var (i := 0) rfl v1) (pe_var (i := 1) rfl v2 hd hc)), ?_⟩
  exact ⟨_, rfl, _, rfl, a, rfl, .inl ⟨ha, fun d n ne => q d n ne⟩⟩
theorem ok_in2 (F : Fun K "__init__" qual st fI fd) (S : FnScope ["self", f, g] ["self", f, g] (defScope st))
    (hb : defBody st = [.Assign [.Attribute (.Name "self" q1) f q2] (.Name f q3) q4, .Assign [.Attribute (.Name "self" q5) g q6] (.Name g q7) q8])
    (v1 : Vis (defScope st) "self") (v2 : Vis (defScope st) f) (v3 : Vis (defScope st) g)
    (hd : (f == ("__debug__" : Str)) = false) (hc : (f == ("__classdict__" : Str)) = false) (hd2 : (g == ("__debug__" : Str)) = false) (hc2 : (g == ("__classdict__" : Str)) = false)
    (T : ExK K C B newId initId bmB) (free : PySem.W.takerIn K C f = some none) (free2 : PySem.W.takerIn K C g = some none) :
    FnOk P w K mg base CX0 1 fI fd ["self", f, g] (spIn2 C f g) := by
  refine F.ok S (fun vs H Q E h => ?_) (fun cdv A outer s H vs Q E hr h => ?_)
  · obtain ⟨a, v, u, rfl, _⟩ := h
    rfl
  obtain ⟨a, v, u, rfl, ha, q⟩ := h
  rw [hb]
  refine ⟨_, pss_cons (ps_put T free (pe_var (i := 0) rfl v1) (pe_var (i := 1) rfl v2 hd hc)) (pss_one (ps_put T free2 (pe_var (i := 0) rfl v1) (pe_var (i := 2) rfl v3 hd2 hc2))), ?_⟩
  refine ⟨_, rfl, _, rfl, a, rfl, .inl ⟨ha, fun d n ne => ?_⟩⟩
  refine ⟨_, rfl, _, rfl, a, rfl, .inr ⟨d, [(f, v)], upd_same, ?_, (by show 1 ≤ 900; decide), q d n ne⟩⟩
  rw [upd_ne ne]
  exact upd_same
end

/-! C(..) as a value -/
section
variable {X : Cx} {pins : List (Addr × Obj)} {σ : L2.St} {H : Hp} {s : Shared} {C fI : Addr} {fd : FuncData} {ps : List Str} {sp : Sp} {k : Nat}
  {B newId initId : String} {bmB : List Value}
theorem run_mk {Q : VK} {us bs : List Value} {kw : List (Str × Value)} {vs : List V} (T : ExK X.K C B newId initId bmB)
    (hi : PySem.W.findIn X.K (.ref C) "__init__" = some (some (.ref fI))) (tI : PySem.W.typeIn X.K (.ref fI) = some (.type "function"))
    (F : FnOk X.prog X.w X.K X.mg X.base CX0 k fI fd ps sp) (room : Room (k + 1) X.A) (I : Inv X pins σ H s) (rel : Vals vs bs)
    (binds : ∀ (s : Shared) (self : Value), X.K.In s.heap → BindsTo s fd ⟨self :: us, kw⟩ (ps.zip (self :: bs))) (small : us.length ≤ sizeLine)
    (q : ∀ a, H a = none → sp (.ref a :: vs) (upd H a (exo a C none)) (fun v H2 => v = .non ∧ Q (.ref a) H2) E0) :
    wpAny (model X.prog X.w) X.A (call (.ref C) us kw) (EP X pins σ Q) X.xe s := by
  obtain ⟨nm, N, qn, bs0, bm, hdct, sn, sub, ab, col, dd, k0, k1, k2, k3, k5, hC, same⟩ := PySem.W.excInit_of I.kIn T.made
  obtain ⟨hp, g, dr, tk, os⟩ := s
  have above : hp.objs.size ≤ hp.objs.size + 1 := Nat.le_succ _
  have n0 : H (hp.objs.size + 1) = none := I.hok.fresh above
  have q0 := q _ n0
  have J : Inv X pins σ (upd H (hp.objs.size + 1) (exo (hp.objs.size + 1) C none)) ⟨PySem.EK.madeHeap hp C us, g, dr, tk, os⟩ :=
    I.laid (t' := tk) (h' := PySem.EK.madeHeap hp C us) (fun b o e => PySem.EK.made_keep b o e) above (exo_ok PySem.EK.made_at)
  have rel2 : Vals (V.ref (hp.objs.size + 1) :: vs) (Value.ref (hp.objs.size + 1) :: bs) := .cons rfl rel
  refine wpAny_call (PySem.EK.run_call T.facts same hC (PySem.W.looks_findIn I.kIn hi) (fun self => PySem.W.bind_fn I.kIn self tI) small ?_)
  refine codeAny_mono (F.run _ X.stack _ _ ⟨Value.ref (hp.objs.size + 1) :: us, kw⟩ _ _ _ E0 (room.make C us kw) (J.env0.make C us kw) (binds _ _ J.kIn) rel2 q0) ?_
  intro r s' hr
  cases r with
  | error e => exact (show False from hr).elim
  | ok fl =>
    cases fl with
    | ret u =>
      obtain ⟨v, H2, J2, rv, ev, q2⟩ := J.after hr
      subst ev
      exact ⟨rv, ⟨V.ref (hp.objs.size + 1), H2, J2, rfl, q2⟩⟩
    | next => exact hr.elim
    | brk => exact hr.elim
    | cont => exact hr.elim
end
/-- C(e, ..) -/
def tMk (C : Addr) (sp : Sp) (ta : TA) : TE := fun σ H Q => ta σ H fun vs H1 => vs.length ≤ 100 ∧ ∀ a, H1 a = none →
  sp (.ref a :: vs) (upd H1 a (exo a C none)) (fun v H2 => v = .non ∧ Q (.ref a) H2) E0
def tMkK (C : Addr) (sp : Sp) (gV : List V → List V) (tk : TA) : TE := fun σ H Q => tk σ H fun vs H1 => ∀ a, H1 a = none →
  sp (.ref a :: gV vs) (upd H1 a (exo a C none)) (fun v H2 => v = .non ∧ Q (.ref a) H2) E0
section
variable {X : Cx} {C fI : Addr} {fd : FuncData} {ps ks : List Str} {sp : Sp} {k : Nat} {B newId initId : String} {bmB : List Value}
  {x : Str} {p pos : Pos} {e : Expr} {es : List Expr} {t tk : TA} {kws : List Keyword}
theorem pe_mk (T : ExK X.K C B newId initId bmB)
    (hi : PySem.W.findIn X.K (.ref C) "__init__" = some (some (.ref fI))) (tI : PySem.W.typeIn X.K (.ref fI) = some (.type "function"))
    (F : FnOk X.prog X.w X.K X.mg X.base CX0 k fI fd ps sp) (hb : Binds X.K fd ps []) (room : Room (k + 1) X.A) (hg : Gl X x) (hm : X.mg x = some (.ref C)) (ha : PA X (e :: es) t)
    (hdb : (x == ("__debug__" : Str)) = false := by decide) (he : starEach (e :: es) X.env = (false, eval e X.env) :: starEach es X.env := by rfl)
    (hpl : (backTo pos (starEach es X.env)).any (·.1) = false := by rfl) : PE X (.Call (.Name x p) (e :: es) [] pos) (tMk C sp t) := by
  constructor
  intro pins s σ H Q I h
  refine wpAny_Call_Name_kw (ld_glob I hg hm ?_ hdb)
  refine PySem.W.callWith_K (h₀ := X.base) I.ok.mod.kin T.keep ?_ he hpl
  refine thn (ha.run pos pins s σ H _ I h) ?_
  rintro us s1 ⟨vs, H1, J, r, hl, q⟩
  refine ⟨J.kIn, ?_⟩
  have hlen : (Value.none :: us).length = ps.length := by
    have z := F.len _ _ _ _ (q s1.heap.objs.size (J.hok.fresh (Nat.le_refl _)))
    rw [← z, List.length_cons, List.length_cons, r.length]
  refine run_mk (bs := us) (kw := []) T hi tI F room J r (fun s' self hK => ?_) (by show us.length ≤ sizeLine; rw [← r.length]; exact small_line (by omega)) q
  have z := hb s' (self :: us) hK (by rw [List.append_nil]; exact hlen)
  rw [List.append_nil] at z
  exact z
theorem pe_mkK (T : ExK X.K C B newId initId bmB) {g : List Value → List Value} {gV : List V → List V}
    (hi : PySem.W.findIn X.K (.ref C) "__init__" = some (some (.ref fI))) (tI : PySem.W.typeIn X.K (.ref fI) = some (.type "function"))
    (F : FnOk X.prog X.w X.K X.mg X.base CX0 k fI fd ps sp) (hgV : ∀ vs us, Vals vs us → Vals (gV vs) (g us))
    (hb : ∀ (s : Shared) (self : Value) (ws : List Value), ws.length = ks.length → BindsTo s fd ⟨[self], ks.zip ws⟩ (ps.zip (self :: g ws)))
    (room : Room (k + 1) X.A) (hg : Gl X x) (hm : X.mg x = some (.ref C)) (hkw : PK X kws tk) (hn : ∀ σ H Q, tk σ H Q → tk σ H fun vs H1 => vs.length = ks.length ∧ Q vs H1)
    (hall : (backToKw pos (keywordEach kws X.env)).all (·.1.isSome) = true := by rfl) (hks : (backToKw pos (keywordEach kws X.env)).filterMap (·.1) = ks := by rfl)
    (hdb : (x == ("__debug__" : Str)) = false := by decide)
    (hpl : ((backTo pos (starEach [] X.env)).any (·.1) || (backToKw pos (keywordEach kws X.env)).any (·.1.isNone)) = false := by rfl) :
    PE X (.Call (.Name x p) [] kws pos) (tMkK C sp gV tk) := by
  constructor
  intro pins s σ H Q I h
  refine wpAny_Call_Name_kw (ld_glob I hg hm ?_ hdb)
  refine PySem.W.callWith_KW0 (h₀ := X.base) I.ok.mod.kin T.keep hall ?_ hpl
  refine thn (hkw.run pos pins s σ H _ I (hn _ _ _ h)) ?_
  rintro ws s1 ⟨vs, H1, J, r, hl, q⟩
  refine ⟨J.kIn, ?_⟩
  rw [hks]
  exact run_mk (us := []) (bs := g ws) (kw := ks.zip ws) T hi tI F room J (hgV _ _ r) (fun s' self _ => hb s' self ws (by rw [← r.length]; exact hl)) (small_line (by decide)) q
end
/-- o.f of an exception that has its dict -/
def tGet (C : Addr) (f : Str) (to : TE) : TE := fun σ H Q => to σ H fun x H1 => ∃ (a d : Addr) (fs : List (Str × V)) (v : V), x = .ref a ∧ H1 a = some (exo a C (some d)) ∧ H1 d = some (exd d fs) ∧ fs.lookup f = some v ∧ Q v H1
theorem pe_get {X : Cx} {o : Expr} {to : TE} {f : Str} {pos : Pos} {C : Addr} {B newId initId : String} {bmB : List Value} (T : ExK X.K C B newId initId bmB) (hno : PySem.W.findIn X.K (.ref C) f = some none) (ho : PE X o to)
    (hb : attributeBase o f X.env (eval o X.env) = eval o X.env := by rfl) : PE X (.Attribute o f pos) (tGet C f to) := by
  constructor
  intro pins s σ H Q I h
  refine attr_of hb (thn (ho.run pins s σ H _ I h) ?_)
  rintro u s1 ⟨x, H1, J, r, a, d, fs, v, ex, ea, ed, hv, q⟩
  subst ex
  cases (show u = Value.ref a from r)
  obtain ⟨t1, hobj⟩ := exo_at J.hok ea
  obtain ⟨mA, ns, rel⟩ := exd_at J.hok ed
  have rv := rel f
  rw [hv] at rv
  obtain ⟨u', hu, ru⟩ := RelO.some_of rv
  obtain ⟨od, hod, look⟩ := lookIn_ns ns
  have inst : PySem.W.InstAt s1.heap a { cls := .ref C, dict := some d, data := .fields #[.ref t1, .none, .none, .none, .bool false, .none] } C (some od) := ⟨hobj, rfl, rfl, hod⟩
  exact PySem.PX.exc_get J.kIn inst T.ga T.gt T.sub (PySem.W.findObj_own T.dct hno rfl (by rw [look, hu])) (handed_of ru) ⟨v, H1, J.tok _, ru, q⟩
/-- isinstance(e, c), e an exception -/
def rIsX (K : PySem.W.Frag) : List V → Hp → VK → Prop := fun xs H Q => ∃ (a C : Addr) (d : Option Addr) (c : V) (cv : Value) (b : Bool), xs = [.ref a, c] ∧ H a = some (exo a C d) ∧ (∀ x, d = some x → ∃ fs, H x = some (exd x fs)) ∧
  ClsV c cv ∧ PySem.W.kitOne K (.ref C) cv = some b ∧ Q (.bl b) H
/-- the classes that a law's exceptions are of -/
def ExAll (K : PySem.W.Frag) (P : Addr → Prop) : Prop := ∀ C, P C → ∃ B newId initId bmB, ExK K C B newId initId bmB
theorem call_isX {X : Cx} {P : Addr → Prop} (T : ExAll X.K P) : CallR X (.builtin "isinstance") (fun xs H Q => rIsX X.K xs H Q ∧ ∀ a c, xs = [.ref a, c] → ∀ C d, H a = some (exo a C d) → P C) := by
  intro pins s σ H xs us Q I r h
  obtain ⟨⟨a, C, d, c, cv, b, rfl, ha, hd, hc, e, q⟩, hP⟩ := h
  obtain ⟨u1, u2, rfl, r1, r2⟩ := vals2 r
  cases (show u1 = Value.ref a from r1)
  have e2 := hc.eq r2
  subst e2
  obtain ⟨B, newId, initId, bmB, K0⟩ := T C (hP a c rfl C d ha)
  obtain ⟨t1, hobj⟩ := exo_at I.hok ha
  obtain ⟨cd, hcd, _⟩ := PySem.W.any_some K0.dct
  have hcl : (PySem.W.clsIn X.K C).isSome = true := by
    rw [hcd]
    rfl
  cases d with
  | none =>
    have inst : PySem.W.InstAt s.heap a { cls := .ref C, dict := none, data := .fields #[.ref t1, .none, .none, .none, .bool false, .none] } C none := ⟨hobj, rfl, rfl, trivial⟩
    exact PySem.W.kia_one (PySem.W.kitx_exc hcl K0.ga K0.gt K0.sub K0.cl K0.gg K0.tk K0.mo) I.kIn inst e (fun z => nomatch z) fun tk => ⟨.bl b, H, I.tok tk, rfl, q⟩
  | some x =>
    obtain ⟨fs, ex⟩ := hd x rfl
    obtain ⟨mA, ns, rel⟩ := exd_at I.hok ex
    obtain ⟨od, hod, look⟩ := lookIn_ns ns
    have inst : PySem.W.InstAt s.heap a { cls := .ref C, dict := some x, data := .fields #[.ref t1, .none, .none, .none, .bool false, .none] } C (some od) := ⟨hobj, rfl, rfl, hod⟩
    exact PySem.W.kia_one (PySem.W.kitx_exc hcl K0.ga K0.gt K0.sub K0.cl K0.gg K0.tk K0.mo) I.kIn inst e (fun z => nomatch z) fun tk => ⟨.bl b, H, I.tok tk, rfl, q⟩
end Hx

namespace Hx
open PySem PySem.Spec PyProof.Rows L2
section
variable {X : Cx} {C fI : Addr} {fd : FuncData} {ps : List Str} {sp : Sp} {k : Nat} {B newId initId : String} {bmB : List Value}
  {x : Str} {p pos : Pos} {e : Expr} {es : List Expr} {ta : TA}
/-- raise C(e, ..), C an own class over any built-in one whose __init__ is a def -/
theorem pmk_own2 (T : ExK X.K C B newId initId bmB) (ty : PySem.W.typeIn X.K (.ref C) = some (.type "type")) (hi : PySem.W.findIn X.K (.ref C) "__init__" = some (some (.ref fI))) (tI : PySem.W.typeIn X.K (.ref fI) = some (.type "function"))
    (F1 : FnOk X.prog X.w X.K X.mg X.base CX0 k fI fd ps sp) (room : Room (k + 1) X.A) (hb : Binds X.K fd ps []) (hg : Gl X x) (hm : X.mg x = some (.ref C)) (ha : PA X (e :: es) ta)
    (hdb : (x == ("__debug__" : Str)) = false := by decide) (he : starEach (e :: es) X.env = (false, eval e X.env) :: starEach es X.env := by rfl) (hpl : (backTo pos (starEach es X.env)).any (·.1) = false := by rfl) :
    PMk X (.Call (.Name x p) (e :: es) [] pos) (tMkO C sp [] ta) := by
  intro pins s σ H Q I h
  refine wpAny_Call_Name_kw (ld_glob I hg hm ?_ hdb)
  refine PySem.W.callWith_K (h₀ := X.base) I.ok.mod.kin T.keep (thn (ha.run pos pins s σ H _ I h) fun us s1 ⟨vs, H1, I1, r1, few, q1⟩ => ⟨I1.kIn, ?_⟩) he hpl
  obtain ⟨nm, N, qn, bs0, bm, hdct, sn, sub, ab, col, dd, k0, k1, k2, k3, k5, hC, same⟩ := PySem.W.excInit_of I1.kIn T.made
  obtain ⟨hp, g, dr, tk, os⟩ := s1
  have above : hp.objs.size ≤ hp.objs.size + 1 := Nat.le_succ _
  have n0 : H1 (hp.objs.size + 1) = none := I1.hok.fresh above
  have q0 := q1 _ n0
  rw [List.append_nil] at q0
  have J : Inv X pins σ (upd H1 (hp.objs.size + 1) (exo (hp.objs.size + 1) C none)) ⟨PySem.EK.madeHeap hp C us, g, dr, tk, os⟩ :=
    I1.laid (t' := tk) (h' := PySem.EK.madeHeap hp C us) (fun b o e => PySem.EK.made_keep b o e) above (exo_ok PySem.EK.made_at)
  have rel2 : Vals (V.ref (hp.objs.size + 1) :: vs) (Value.ref (hp.objs.size + 1) :: us) := .cons rfl r1
  have hl : ((Value.ref (hp.objs.size + 1) :: us) ++ []).length = ps.length := by
    rw [List.append_nil, ← rel2.length]
    exact F1.len _ _ _ _ q0
  have small : us.length ≤ sizeLine := by
    rw [← r1.length]
    exact small_line few
  have bind := hb _ (Value.ref (hp.objs.size + 1) :: us) J.kIn hl
  rw [List.append_nil] at bind
  refine wpAny_call (PySem.EK.run_call T.facts same hC (PySem.W.looks_findIn I1.kIn hi) (fun self => PySem.W.bind_fn I1.kIn self tI) small ?_)
  refine codeAny_mono (F1.run _ X.stack _ _ ⟨Value.ref (hp.objs.size + 1) :: us, []⟩ _ _ _ (fun _ _ _ => False) (room.make C us []) (J.env0.make C us []) bind rel2 q0) ?_
  intro r s' hr
  cases r with
  | error e => exact (show False from hr).elim
  | ok fl =>
    cases fl with
    | next => exact hr.elim
    | brk => exact hr.elim
    | cont => exact hr.elim
    | ret u =>
      obtain ⟨v, H2, os2, bare2, un2, hok2, rv, ev, d, fs, ea, ed, hd1, q2⟩ := hr
      subst ev
      obtain ⟨h2, g2, d2, t2, os'⟩ := s'
      exact ⟨rv, mk_end (raises_own T.sub ty) I1 above (fun b o e => PySem.EK.made_keep b o e) un2 hok2 os2 bare2 ea ed hd1 q2⟩
end
end Hx

namespace Hx
open PySem PySem.Spec PyProof.Rows L2
/-! comparing data -/
section
variable {X : Cx}
def rNeQ : R2 := fun x y H Q => ∃ d e, Dq H x d ∧ Dq H y e ∧ SeqAt.shaped d = true ∧ SeqAt.shaped e = true ∧ Q (.bl (!PyData.eqv d e)) H
def rEqQ : R2 := fun x y H Q => ∃ d e, Dq H x d ∧ Dq H y e ∧ SeqAt.shaped d = true ∧ SeqAt.shaped e = true ∧ Q (.bl (PyData.eqv d e)) H
theorem op_neQ (hu : X.A.units + 64 < cLine) : OpR X (compareOp .NotEq) rNeQ := by
  intro pins s σ H x y v u Q I rx ry h
  obtain ⟨d, e, hd, he, sd, se, q⟩ := h
  obtain ⟨as, r1, _⟩ := Dq.reads I d x v hd rx
  obtain ⟨bs, r2, _⟩ := Dq.reads I e y u he ry
  exact SeqAt.compareNe_shaped r1 r2 sd se hu ⟨.bl _, H, I, rfl, q⟩
theorem op_eqQ (hu : X.A.units + 64 < cLine) : OpR X (compareOp .Eq) rEqQ := by
  intro pins s σ H x y v u Q I rx ry h
  obtain ⟨d, e, hd, he, sd, se, q⟩ := h
  obtain ⟨as, r1, _⟩ := Dq.reads I d x v hd rx
  obtain ⟨bs, r2, _⟩ := Dq.reads I e y u he ry
  exact SeqAt.compareEq_shaped r1 r2 sd se hu ⟨.bl _, H, I, rfl, q⟩
end
/-! comprehensions that make data -/
def without (D : Addr) (H : Hp) : Hp := fun b => if b = D then none else H b
def newPart (H H' : Hp) : Hp := fun b => if H b = none then H' b else none
theorem without_some {D b : Addr} {H : Hp} {o : HO} (h : without D H b = some o) : b ≠ D ∧ H b = some o := by
  unfold without at h
  split at h
  · cases h
  · exact ⟨by assumption, h⟩
theorem without_at {D b : Addr} {H : Hp} {o : HO} (n : b ≠ D) (h : H b = some o) : without D H b = some o := by
  unfold without
  rw [if_neg n]
  exact h
theorem newPart_some {b : Addr} {H H' : Hp} {o : HO} (h : newPart H H' b = some o) : H b = none ∧ H' b = some o := by
  unfold newPart at h
  split at h
  · exact ⟨by assumption, h⟩
  · cases h
theorem newPart_at {b : Addr} {H H' : Hp} {o : HO} (n : H b = none) (h : H' b = some o) : newPart H H' b = some o := by
  unfold newPart
  rw [if_pos n]
  exact h
theorem without_same {D : Addr} {H : Hp} : Same (without D H) H := fun b o h => (without_some h).2
theorem newPart_same {H H' : Hp} : Same (newPart H H') H' := fun b o h => (newPart_some h).2
theorem without_upd {D : Addr} {H : Hp} {o : HO} : without D (upd H D o) = without D H := by
  funext b
  unfold without
  split
  · rfl
  · rw [upd_ne (by assumption)]
theorem DqAll.snoc {H : Hp} {v : V} {d : PyData} : ∀ {vs : List V} {ds : List PyData}, DqAll H vs ds → Dq H v d → DqAll H (vs ++ [v]) (ds ++ [d])
  | _, _, .nil, h => .cons h .nil
  | _, _, .cons a r, h => .cons a (DqAll.snoc r h)
theorem DqAll.len {H : Hp} : ∀ {vs : List V} {ds : List PyData}, DqAll H vs ds → vs.length = ds.length
  | _, _, .nil => rfl
  | _, _, .cons _ r => congrArg Nat.succ (DqAll.len r)
/-- what a turn's element must do: a new datum, all else as it was -/
def Gives (te : TE) (σ : L2.St) (H : Hp) (d : PyData) : Prop := ∀ Q : VK, (∀ y H', Same H H' → Dq (newPart H H') y d → Q y H') → te σ H Q
def LcAt (H1 : Hp) (D : Addr) (f : Nat → PyData) (i : Nat) (H' : Hp) : Prop :=
  Same H1 H' ∧ ∃ xs, H' D = some (.lst xs) ∧ DqAll (without D H') xs ((List.range i).map f)
theorem LcAt.start {H1 : Hp} {D : Addr} {f : Nat → PyData} (hD : H1 D = none) : LcAt H1 D f 0 (upd H1 D (.lst [])) := ⟨same_new hD _, [], upd_same, .nil⟩
theorem LcAt.turn {H1 H' H2 : Hp} {D : Addr} {f : Nat → PyData} {i : Nat} {y : V} (hD : H1 D = none) (h : LcAt H1 D f i H') (s : Same H' H2) (hy : Dq (newPart H' H2) y (f i)) (hi : i < 100000) :
    ∃ acc, H2 D = some (.lst acc) ∧ acc.length < sizeLine ∧ LcAt H1 D f (i + 1) (upd H2 D (.lst (acc ++ [y]))) := by
  obtain ⟨s1, xs, hx, ha⟩ := h
  have hlen := ha.len
  rw [List.length_map, List.length_range] at hlen
  refine ⟨xs, s _ _ hx, by rw [hlen]; exact Nat.lt_of_lt_of_le hi (by decide), ?_, xs ++ [y], upd_same, ?_⟩
  · intro b o hb
    rw [upd_ne (ne_of_none hb hD)]
    exact s _ _ (s1 _ _ hb)
  · rw [without_upd, List.range_succ, List.map_append]
    refine DqAll.snoc (DqAll.same (fun b o hb => ?_) _ _ ha) (Dq.same (fun b o hb => ?_) _ _ hy)
    · obtain ⟨n, e⟩ := without_some hb
      exact without_at n (s _ _ e)
    · obtain ⟨n, e⟩ := newPart_some hb
      exact without_at (fun z => by rw [z, hx] at n; cases n) e
theorem lc_data_range {n : Nat} {i0 : Nat} {te : TE} {vs : List Nat} {σ : L2.St} {H1 : Hp} {D : Addr} {Qd : Hp → Prop} (f : Nat → PyData) (hD : H1 D = none) (hn : n ≤ 100000)
    (hw : ∀ x : V, wipe ((wipe σ vs).set i0 (some x)) vs = wipe σ vs)
    (hs : ∀ i H', i < n → Same H1 H' → Gives te ((wipe σ vs).set i0 (some (.int (i : Nat)))) H' (f i))
    (hd : ∀ H' xs, Same H1 H' → H' D = some (.lst xs) → DqAll H' xs ((List.range n).map f) → Qd H') :
    ∃ W : Nat → Nat → Hp → Prop, (∃ m, W 0 m (upd H1 D (.lst []))) ∧ ∀ i m H, W i m H →
      ((Itr 0 n).stop i H ∧ Qd H) ∨ ((Itr 0 n).go i H ∧ ∃ Nx : Hp → Prop, (∀ H', Nx H' → ∃ m', m' < m ∧ W (i + 1) m' H') ∧
        ∀ x H', (Itr 0 n).yld i H x H' → gName i0 x (wipe σ vs) H' fun σ2 H2 => wipe σ2 vs = wipe σ vs ∧ tYes σ2 H2 fun b H3 =>
          if b = true then te σ2 H3 fun y H4 => ∃ acc, H4 D = some (.lst acc) ∧ acc.length < sizeLine ∧ Nx (upd H4 D (.lst (acc ++ [y]))) else Nx H3) := by
  refine lc_range (lo := 0) (n := n) (LcAt H1 D f) (LcAt.start hD) ?_ ?_
  · intro i H' hi h
    refine ⟨hw _, turn_yes ?_⟩
    have e : (V.int (0 + (i : Int))) = V.int ((i : Nat) : Int) := by rw [Int.zero_add]
    rw [e]
    exact hs i H' hi h.1 _ fun y H2 s hy => h.turn hD s hy (by omega)
  · rintro H' ⟨s1, xs, hx, ha⟩
    exact hd H' xs s1 hx (DqAll.same without_same _ _ ha)
theorem lc_data_list {K : PySem.W.Frag} {a : Addr} {ws : List V} {i0 : Nat} {te : TE} {vs : List Nat} {σ : L2.St} {H1 : Hp} {D : Addr} {Qd : Hp → Prop} (f : Nat → PyData) (hD : H1 D = none) (hn : ws.length ≤ 100000)
    (hl : SqL K H1 a ws) (hw : ∀ x : V, wipe ((wipe σ vs).set i0 (some x)) vs = wipe σ vs)
    (hs : ∀ i x H', ws[i]? = some x → Same H1 H' → Gives te ((wipe σ vs).set i0 (some x)) H' (f i))
    (hd : ∀ H' xs, Same H1 H' → H' D = some (.lst xs) → DqAll H' xs ((List.range ws.length).map f) → Qd H') :
    ∃ W : Nat → Nat → Hp → Prop, (∃ m, W 0 m (upd H1 D (.lst []))) ∧ ∀ i m H, W i m H →
      ((Itl K a).stop i H ∧ Qd H) ∨ ((Itl K a).go i H ∧ ∃ Nx : Hp → Prop, (∀ H', Nx H' → ∃ m', m' < m ∧ W (i + 1) m' H') ∧
        ∀ x H', (Itl K a).yld i H x H' → gName i0 x (wipe σ vs) H' fun σ2 H2 => wipe σ2 vs = wipe σ vs ∧ tYes σ2 H2 fun b H3 =>
          if b = true then te σ2 H3 fun y H4 => ∃ acc, H4 D = some (.lst acc) ∧ acc.length < sizeLine ∧ Nx (upd H4 D (.lst (acc ++ [y]))) else Nx H3) := by
  refine lc_list (K := K) (a := a) (xs := ws) (LcAt H1 D f) (LcAt.start hD) (fun i H' _ h => h.1.seq hl) ?_ ?_
  · intro i x H' hi h
    have lt : i < ws.length := (List.getElem?_eq_some_iff.mp hi).1
    refine ⟨hw _, turn_yes ?_⟩
    exact hs i x H' hi h.1 _ fun y H2 s hy => h.turn hD s hy (by omega)
  · rintro H' ⟨s1, xs, hx, ha⟩
    exact hd H' xs s1 hx (DqAll.same without_same _ _ ha)
/-! isinstance of an exception -/
/-- at a stands an exception of the class at C -/
def XAt (H : Hp) (a C : Addr) : Prop := ∃ d, H a = some (exo a C d) ∧ ∀ x, d = some x → ∃ fs, H x = some (exd x fs)
theorem XAt.same {H H' : Hp} {a C : Addr} (h : XAt H a C) (s : Same H H') : XAt H' a C := by
  obtain ⟨d, e, k⟩ := h
  refine ⟨d, s _ _ e, fun x hx => ?_⟩
  obtain ⟨fs, z⟩ := k x hx
  exact ⟨fs, s _ _ z⟩
def tIs (i : Nat) (a C : Addr) (b : Bool) : TE := fun σ H Q => σ[i]? = some (some (.ref a)) ∧ XAt H a C ∧ Q (.bl b) H
section
variable {X : Cx} {a C : Addr} {i : Nat} {x : Str} {p p1 pos : Pos} {ce : Expr} {c : V} {cv : Value} {b : Bool} {B newId initId : String} {bmB : List Value}
theorem call_isK (T : ExK X.K C B newId initId bmB) : CallR X (.builtin "isinstance") (fun xs H Q => ∃ (a : Addr) (c : V) (cv : Value) (b : Bool), xs = [.ref a, c] ∧ XAt H a C ∧ ClsV c cv ∧ PySem.W.kitOne X.K (.ref C) cv = some b ∧ Q (.bl b) H) := by
  intro pins s σ H xs us Q I r h
  obtain ⟨a, c, cv, b, rfl, ⟨d, ha, hd⟩, hc, e, q⟩ := h
  obtain ⟨u1, u2, rfl, r1, r2⟩ := vals2 r
  cases (show u1 = Value.ref a from r1)
  have e2 := hc.eq r2
  subst e2
  obtain ⟨t1, hobj⟩ := exo_at I.hok ha
  obtain ⟨cd, hcd, _⟩ := PySem.W.any_some T.dct
  have hcl : (PySem.W.clsIn X.K C).isSome = true := by
    rw [hcd]
    rfl
  cases d with
  | none =>
    have inst : PySem.W.InstAt s.heap a { cls := .ref C, dict := none, data := .fields #[.ref t1, .none, .none, .none, .bool false, .none] } C none := ⟨hobj, rfl, rfl, trivial⟩
    exact PySem.W.kia_one (PySem.W.kitx_exc hcl T.ga T.gt T.sub T.cl T.gg T.tk T.mo) I.kIn inst e (fun z => nomatch z) fun tk => ⟨.bl b, H, I.tok tk, rfl, q⟩
  | some x =>
    obtain ⟨fs, ex⟩ := hd x rfl
    obtain ⟨mA, ns, rel⟩ := exd_at I.hok ex
    obtain ⟨od, hod, look⟩ := lookIn_ns ns
    have inst : PySem.W.InstAt s.heap a { cls := .ref C, dict := some x, data := .fields #[.ref t1, .none, .none, .none, .bool false, .none] } C (some od) := ⟨hobj, rfl, rfl, hod⟩
    exact PySem.W.kia_one (PySem.W.kitx_exc hcl T.ga T.gt T.sub T.cl T.gg T.tk T.mo) I.kIn inst e (fun z => nomatch z) fun tk => ⟨.bl b, H, I.tok tk, rfl, q⟩
theorem pe_is (T : ExK X.K C B newId initId bmB) (hg : Gl X "isinstance") (hm : X.mg "isinstance" = none) (hx : PE X (.Name x p1) (tVar i)) (hc : PE X ce (tC c)) (cl : ClsV c cv)
    (hk : PySem.W.kitOne X.K (.ref C) cv = some b) (he1 : starEach [.Name x p1, ce] X.env = (false, eval (.Name x p1) X.env) :: starEach [ce] X.env := by rfl)
    (he2 : starEach [ce] X.env = (false, eval ce X.env) :: starEach [] X.env := by rfl)
    (hpl : (backTo pos (starEach [ce] X.env)).any (·.1) = false := by rfl) : PE X (.Call (.Name "isinstance" p) [.Name x p1, ce] [] pos) (tIs i a C b) := by
  constructor
  intro pins s σ H Q I h
  obtain ⟨h1, h2, h3⟩ := h
  exact (pe_callB (call_isK T) hg hm PyProof.Rows.boot_isinstance (pa_cons hx (pa_cons hc pa_nil he2) he1) (by decide) (by decide) he1 hpl).run pins s σ H Q I ⟨_, h1, a, c, cv, b, rfl, h2, cl, hk, h3⟩
end
/-- C(), C an own exception class without __init__ -/
theorem pe_mk0 {X : Cx} {C : Addr} {B newId initId : String} {bmB : List Value} {x : Str} {p pos : Pos} (F : ExcBaseFacts B newId initId bmB) (q : PySem.W.excIn X.K C bmB newId = true)
    (gC : X.mg x = some (.ref C)) (kC : PySem.W.keepIn X.K (.ref C) = true) (hg : Gl X x) (hdb : (x == ("__debug__" : Str)) = false := by decide) :
    PE X (.Call (.Name x p) [] [] pos) (fun σ H Q => ∀ a, H a = none → Q (.ref a) (upd H a (exo a C none))) := by
  constructor
  intro pins s σ H Q I h
  refine wpAny_Call_Name_kw (ld_glob I hg gC ?_ hdb)
  refine PySem.W.callWith_K0 I.kIn kC ?_
  show wpAny _ _ (call (.ref C) []) _ _ _
  obtain ⟨bm, N, nm, qn, bs, hdct, sn, sub, ab, col, dd, k0, k1, k2, k3, k5, mN, hC, hN, hni, T⟩ := exc_obj I.kIn q
  refine wpAny_call_exc_subT F T hC hN hni (fun h' a hm => ?_) (by show 0 ≤ sizeLine; exact Nat.zero_le _)
  have hn : H a = none := I.hok.gone hm.new
  obtain ⟨t, ht, _, _⟩ := hm.there
  exact ⟨.ref a, upd H a (exo a C none), I.laidN hm.keeps hm.new hn (exo_ok ht), rfl, h a hn⟩
end Hx

namespace Wp
open PySem PySem.Spec PyProof.Rows L2 Hx
/-! ### what values are -/
/-- no integer: of another class, or True, False -/
def NotInt (K : PySem.W.Frag) (H : Hp) (v : V) : Prop := ∃ t bi bb, TyX K H v t ∧ PySem.W.kitOne K t (.type "int") = some bi ∧ PySem.W.kitOne K t (.type "bool") = some bb ∧ (bi && !bb) = false
def NotStr (K : PySem.W.Frag) (H : Hp) (v : V) : Prop := ∃ t, TyX K H v t ∧ PySem.W.kitOne K t (.type "str") = some false
def letterB (c : Nat) : Bool := decide (97 ≤ c ∧ c ≤ 122)
/-- a text of one letter to m -/
def lettered (m : Int) (x : Str) : Bool := decide (1 ≤ (x.length : Int)) && (decide ((x.length : Int) ≤ m) && x.cps.toList.all letterB)
def abc : Str := "abcdefghijklmnopqrstuvwxyz"
theorem abc_list : abc.cps.toList = [97, 98, 99, 100, 101, 102, 103, 104, 105, 106, 107, 108, 109, 110, 111, 112, 113, 114, 115, 116, 117, 118, 119, 120, 121, 122] := by decide +kernel
theorem is_letter {c : Nat} : decide (c ∈ abc.cps.toList) = letterB c := by
  rw [abc_list]
  unfold letterB
  rw [Bool.eq_iff_iff, decide_eq_true_eq, decide_eq_true_eq]
  simp only [List.mem_cons, List.not_mem_nil, or_false]
  omega
def noNames : List Str := ["weave", "part", "drop", "lead", "turn"]
structure Consts (mg : Str → Option Value) (K : PySem.W.Frag) : Prop where
  letters : ∃ t, mg "LETTERS" = some (.str abc t)
  most : ∃ t, mg "MOST_LETTERS" = some (.int 8 t)
  signs : ∃ t, mg "MOST_SIGNS" = some (.int 4 t)
  base : ∃ t, mg "MOST_BASE" = some (.int 4 t)
  least : ∃ t, mg "LEAST_BASE" = some (.int 2 t)
  drop : ∃ t, mg "MOST_DROP" = some (.int 9 t)
  no : ∃ p, mg "NO_NAMES" = some (.ref p) ∧ ∀ H, SqT K H p (noNames.map V.str)
structure Bltn (mg : Str → Option Value) : Prop where
  isinstance : mg "isinstance" = none
  int : mg "int" = none
  bool : mg "bool" = none
  str : mg "str" = none
  len : mg "len" = none
  all : mg "all" = none
def spIsInt (K : PySem.W.Frag) : Sp := fun vs H Q _ => ∃ v, vs = [v] ∧ ((∃ i, v = .int i ∧ Q (.bl true) H) ∨ (NotInt K H v ∧ Q (.bl false) H))
def spWithin (K : PySem.W.Frag) : Sp := fun vs H Q _ => ∃ (v : V) (l m : Int), vs = [v, .int l, .int m] ∧ ((∃ i, v = .int i ∧ Q (.bl (decide (l ≤ i) && decide (i ≤ m))) H) ∨ (NotInt K H v ∧ Q (.bl false) H))
def spLettered (K : PySem.W.Frag) : Sp := fun vs H Q _ => ∃ (v : V) (m : Int), vs = [v, .int m] ∧ m ≤ 1000 ∧ ((∃ x : Str, v = .str x ∧ x.length ≤ 100000 ∧ ∀ H', Same H H' → Q (.bl (lettered m x)) H') ∨ (NotStr K H v ∧ Q (.bl false) H))
section
variable {P : Program} {w : World} {K : PySem.W.Frag} {mg : Str → Option Value} {base : Heap} {f fI fW fL fN : Addr} {fd fdI fdW fdL fdN : FuncData}
theorem scIsInt : FnScope ["value"] ["value"] (defScope s_is_integer) := ⟨rfl, rfl, rfl, by decide +kernel, rfl, by decide +kernel, by decide +kernel⟩
theorem ok_isint (F : Fun K "is_integer" "is_integer" s_is_integer f fd) (Z : Bltn mg) : FnOk P w K mg base CX0 1 f fd ["value"] (spIsInt K) := by
  refine F.ok scIsInt (fun vs H Q E h => ?_) (fun cdv A outer s H vs Q E hr h => ?_)
  · obtain ⟨v, rfl, _⟩ := h
    rfl
  obtain ⟨v, rfl, h⟩ := h
  refine ⟨_, pss_one (ps_ret (pe_and (pe_callB call_isi (by rfl) Z.isinstance PyProof.Rows.boot_isinstance (pa_cons (pv 0) (pa_cons (pe_bty (T := "int") rfl Z.int (by decide +kernel)) pa_nil)))
    (pe_one (pe_not (pe_callB call_isi (by rfl) Z.isinstance PyProof.Rows.boot_isinstance (pa_cons (pv 0) (pa_cons (pe_bty (T := "bool") rfl Z.bool (by decide +kernel)) pa_nil))))))), ?_⟩
  rcases h with ⟨i, rfl, q⟩ | ⟨⟨t, bi, bb, ty, k1, k2, e⟩, q⟩
  · refine ⟨_, rfl, _, _, .type "int", _, true, rfl, .ty "int", .base (.int i), kit_ty (by decide +kernel), _, rfl, iteT ?_⟩
    exact ⟨_, rfl, _, _, .type "int", _, false, rfl, .ty "bool", .base (.int i), kit_ty (by decide +kernel), _, rfl, q⟩
  · refine ⟨_, rfl, _, _, t, _, bi, rfl, .ty "int", ty, k1, _, rfl, ?_⟩
    cases bi with
    | false => exact iteF q
    | true =>
      refine iteT ⟨_, rfl, _, _, t, _, bb, rfl, .ty "bool", ty, k2, _, rfl, ?_⟩
      cases bb with
      | true => exact q
      | false => cases e
theorem scWithin : FnScope ["value", "least", "most"] ["value", "least", "most"] (defScope s_is_within) := ⟨rfl, rfl, rfl, by decide +kernel, rfl, by decide +kernel, by decide +kernel⟩
theorem ok_within (F : Fun K "is_within" "is_within" s_is_within f fd) (GI : FnOk P w K mg base CX0 1 fI fdI ["value"] (spIsInt K)) (bI : Binds K fdI ["value"] []) (kI : PySem.W.keepIn K (.ref fI) = true) (mI : mg "is_integer" = some (.ref fI)) :
    FnOk P w K mg base CX0 2 f fd ["value", "least", "most"] (spWithin K) := by
  refine F.ok scWithin (fun vs H Q E h => ?_) (fun cdv A outer s H vs Q E hr h => ?_)
  · obtain ⟨v, l, m, rfl, _⟩ := h
    rfl
  obtain ⟨v, l, m, rfl, h⟩ := h
  refine ⟨_, pss_one (ps_ret (pe_and (pe_call GI hr rfl mI kI bI .nil pass0 (pa_cons (pv 0) pa_nil)) (pe_one (pe_chain op_le op_le (pv 1) (pv 0) (pv 2))))), ?_⟩
  rcases h with ⟨i, rfl, q⟩ | ⟨n, q⟩
  · refine ⟨_, rfl, _, rfl, .inl ⟨i, rfl, _, rfl, iteT ?_⟩⟩
    refine ⟨_, rfl, _, rfl, _, _, rfl, rfl, _, rfl, ?_⟩
    by_cases c : l ≤ i
    · rw [decide_eq_true c] at q ⊢
      exact iteT ⟨_, rfl, _, _, rfl, rfl, q⟩
    · rw [decide_eq_false c] at q ⊢
      exact iteF q
  · exact ⟨_, rfl, _, rfl, .inr ⟨n, _, rfl, iteF q⟩⟩
theorem scLettered : FnScope ["value", "most", "letter"] ["value", "most"] (defScope s_is_lettered) := ⟨rfl, rfl, rfl, by decide +kernel, rfl, by decide +kernel, by decide +kernel⟩
theorem ok_lettered (F : Fun K "is_lettered" "is_lettered" s_is_lettered f fd) (Z : Bltn mg) (C : Consts mg K) : FnOk P w K mg base CX0 1 f fd ["value", "most"] (spLettered K) := by
  refine F.ok scLettered (fun vs H Q E h => ?_) (fun cdv A outer s H vs Q E hr h => ?_)
  · obtain ⟨v, m, rfl, _⟩ := h
    rfl
  obtain ⟨v, m, rfl, m1, h⟩ := h
  obtain ⟨tl, ml⟩ := C.letters
  refine ⟨_, pss_cons (ps_if (PW.pt (pw_or (pt_not (pt_val (pe_callB call_isi (by rfl) Z.isinstance PyProof.Rows.boot_isinstance (pa_cons (pv 0) (pa_cons (pe_bty (T := "str") rfl Z.str (by decide +kernel)) pa_nil)))))
      (pw_or1 (pt_not (pt_chain op_le op_le pe_int (pe_callB call_len_str (by rfl) Z.len PySem.boot_len (pa_cons (pv 0) pa_nil)) (pv 1)))))) (pss_one (ps_ret pe_bl)) pss_nil)
    (pss_one (ps_ret (pe_callB (cr_all rfl) (by rfl) Z.all PyProof.Rows.boot_all (pa_cons (pe_lc (own := [("letter", 2)]) (g := gName 2) (tt := tYes) rfl scLettered.nd (pi_str (pv 0))
      (blkOk_by (N := ["value", "most", "letter"]) (sc := defScope s_is_lettered) (by decide +kernel)) (fun _ _ _ _ _ => pg_name (i := 2) scLettered.nd rfl (Or.inl rfl)) (fun _ _ _ _ _ => pts_nil)
      (fun _ _ _ _ _ => pe_cmpR op_in_sign (pv 2) (pe_glob (v := .str abc) rfl ml ⟨_, rfl⟩) (by rfl))) pa_nil)))), ?_⟩
  rcases h with ⟨x, rfl, few, q⟩ | ⟨⟨t, ty, k1⟩, q⟩
  · have small : x.length ≤ sizeLine := Nat.le_trans few (by decide)
    refine ⟨_, rfl, _, _, .type "str", _, true, rfl, .ty "str", .base (.str x), kit_ty (by decide +kernel), _, rfl, iteF ?_⟩
    refine ⟨_, rfl, x, rfl, small, _, _, rfl, rfl, _, rfl, ?_⟩
    by_cases c1 : (1 : Int) ≤ (x.length : Int)
    · rw [decide_eq_true c1]
      refine iteT ⟨_, rfl, _, _, rfl, rfl, _, rfl, ?_⟩
      by_cases c2 : (x.length : Int) ≤ m
      · have el : lettered m x = x.cps.toList.all letterB := by
          unfold lettered
          rw [decide_eq_true c1, decide_eq_true c2, Bool.true_and, Bool.true_and]
        rw [el] at q
        rw [decide_eq_true c2]
        refine iteF ?_
        refine ⟨_, rfl, x, rfl, fun D hD => ?_⟩
        refine L2.lc_it L2.walk_str (fun i H' => Same H H' ∧ H' D = some (.lst (((x.cps.toList.take i).map letterB).map V.bl))) ⟨same_new hD _, upd_same⟩ (fun _ _ _ _ => trivial) ?_ ?_
        · rintro i _ H1 _ hi ⟨s1, h1⟩ ⟨rfl, c, hc, rfl⟩
          refine ⟨rfl, turn_yes ⟨_, rfl, c, abc, rfl, rfl, ?_⟩⟩
          have hc2 : x.cps.toList[i]? = some c := by rw [Array.getElem?_toList]; exact hc
          refine ⟨_, h1, ?_, fun b o hb => ?_, ?_⟩
          · rw [List.length_map, List.length_map, List.length_take]
            exact Nat.lt_of_le_of_lt (Nat.le_trans (Nat.min_le_right _ _) few) (by decide)
          · rw [upd_ne (ne_of_none hb hD)]
            exact s1 b o hb
          · rw [upd_same, is_letter, List.take_add_one, hc2, List.map_append, List.map_append]
            rfl
        · rintro H1 ⟨s1, h1⟩
          rw [List.take_of_length_le (by rw [Array.length_toList]; exact Nat.le_refl _)] at h1
          refine ⟨D, _, rfl, SqL.of h1, ?_⟩
          rw [List.all_map]
          exact q H1 s1
      · have el : lettered m x = false := by
          unfold lettered
          rw [decide_eq_false c2, Bool.false_and, Bool.and_false]
        rw [el] at q
        rw [decide_eq_false c2]
        exact iteT (q H (Same.refl H))
    · have el : lettered m x = false := by
        unfold lettered
        rw [decide_eq_false c1, Bool.false_and]
      rw [el] at q
      rw [decide_eq_false c1]
      exact iteF ⟨_, rfl, iteT (q H (Same.refl H))⟩
  · exact ⟨_, rfl, _, _, t, _, false, rfl, .ty "str", ty, k1, _, rfl, iteT (iteT q)⟩
end
end Wp

namespace Hx
open PySem PySem.Spec PyProof.Rows L2
/-- at a stands an exception of the class at C with these fields -/
def EAt (H : Hp) (a C : Addr) (fs : List (Str × V)) : Prop := ∃ d, H a = some (exo a C (some d)) ∧ H d = some (exd d fs)
theorem EAt.same {H H' : Hp} {a C : Addr} {fs : List (Str × V)} (h : EAt H a C fs) (s : Same H H') : EAt H' a C fs := by
  obtain ⟨d, h1, h2⟩ := h
  exact ⟨d, s _ _ h1, s _ _ h2⟩
theorem EAt.x {H : Hp} {a C : Addr} {fs : List (Str × V)} (h : EAt H a C fs) : XAt H a C := by
  obtain ⟨d, h1, h2⟩ := h
  refine ⟨some d, h1, fun x hx => ?_⟩
  cases hx
  exact ⟨fs, h2⟩
/-- an own exception class x at C whose __init__ keeps its one parameter f -/
structure MkC (P : Program) (w : World) (K : PySem.W.Frag) (mg : Str → Option Value) (base : Heap) (x : Str) (C : Addr) (f : Str) : Prop where
  go : ∃ (fI : Addr) (fd : FuncData) (B newId initId : String) (bmB : List Value), ExK K C B newId initId bmB ∧ PySem.W.findIn K (.ref C) "__init__" = some (some (.ref fI)) ∧
    PySem.W.typeIn K (.ref fI) = some (.type "function") ∧ FnOk P w K mg base CX0 1 fI fd ["self", f] (spIn1 C f) ∧ Binds K fd ["self", f] [] ∧
    ∀ (s : Shared) (self w1 : Value), BindsTo s fd ⟨[self], [(f, w1)]⟩ [("self", self), (f, w1)]
  m : mg x = some (.ref C)
  no : PySem.W.findIn K (.ref C) f = some none
structure MkC2 (P : Program) (w : World) (K : PySem.W.Frag) (mg : Str → Option Value) (base : Heap) (x : Str) (C : Addr) (f g : Str) : Prop where
  go : ∃ (fI : Addr) (fd : FuncData) (B newId initId : String) (bmB : List Value), ExK K C B newId initId bmB ∧ PySem.W.findIn K (.ref C) "__init__" = some (some (.ref fI)) ∧
    PySem.W.typeIn K (.ref fI) = some (.type "function") ∧ FnOk P w K mg base CX0 1 fI fd ["self", f, g] (spIn2 C f g) ∧ Binds K fd ["self", f, g] [] ∧
    ∀ (s : Shared) (self w1 w2 : Value), BindsTo s fd ⟨[self], [(g, w2), (f, w1)]⟩ [("self", self), (f, w1), (g, w2)]
  m : mg x = some (.ref C)
  no : PySem.W.findIn K (.ref C) f = some none
  no2 : PySem.W.findIn K (.ref C) g = some none
/-- X(y), y in slot i -/
def tNew (i : Nat) (C : Addr) (f : Str) : TE := fun σ H Q => ∃ v, σ[i]? = some (some v) ∧ ∀ a H', H a = none → Same H H' → EAt H' a C [(f, v)] → Q (.ref a) H'
def tNew2 (i j : Nat) (C : Addr) (f g : Str) : TE := fun σ H Q => ∃ v u, σ[i]? = some (some v) ∧ σ[j]? = some (some u) ∧ ∀ a H', H a = none → Same H H' → EAt H' a C [(g, u), (f, v)] → Q (.ref a) H'
theorem made_same {H : Hp} {a d C : Addr} {o o1 o2 : HO} (na : H a = none) (nd : upd H a o d = none) : Same H (upd (upd (upd H a o) d o1) a o2) := fun b u hb => by
  rw [upd_ne (ne_of_none hb na)]
  exact ((same_new na o).trans (same_new nd o1)) b u hb
section
variable {X : Cx} {x y z f g : Str} {C : Addr} {i j : Nat} {p py pz pos kp kq : Pos}
theorem pe_new (M : MkC X.prog X.w X.K X.mg X.base x C f) (room : Room 2 X.A) (hg : Gl X x) (hy : PE X (.Name y py) (tVar i))
    (hdb : (x == ("__debug__" : Str)) = false := by decide) (he : starEach [.Name y py] X.env = (false, eval (.Name y py) X.env) :: starEach [] X.env := by rfl)
    (hpl : (backTo pos (starEach [] X.env)).any (·.1) = false := by rfl) : PE X (.Call (.Name x p) [.Name y py] [] pos) (tNew i C f) := by
  obtain ⟨fI, fd, B, newId, initId, bmB, T, hi, tI, F, hb, _⟩ := M.go
  constructor
  intro pins s σ H Q I h
  obtain ⟨v, hv, q⟩ := h
  refine (pe_mk T hi tI F hb room hg M.m (pa_cons hy pa_nil he) hdb he hpl).run pins s σ H Q I ⟨v, hv, (by show 1 ≤ 100; decide), fun a na => ?_⟩
  refine ⟨a, v, rfl, upd_same, fun d nd ne => ⟨rfl, q a _ na (made_same (C := C) na nd) ⟨d, upd_same, ?_⟩⟩⟩
  rw [upd_ne ne]
  exact upd_same
theorem pe_newK (M : MkC X.prog X.w X.K X.mg X.base x C f) (room : Room 2 X.A) (hg : Gl X x) (hy : PE X (.Name y py) (tVar i))
    (hdb : (x == ("__debug__" : Str)) = false := by decide)
    (hall : (backToKw pos (keywordEach [⟨some f, .Name y py, kp⟩] X.env)).all (·.1.isSome) = true := by rfl)
    (hks : (backToKw pos (keywordEach [⟨some f, .Name y py, kp⟩] X.env)).filterMap (·.1) = [f] := by rfl)
    (hpl : ((backTo pos (starEach [] X.env)).any (·.1) || (backToKw pos (keywordEach [⟨some f, .Name y py, kp⟩] X.env)).any (·.1.isNone)) = false := by rfl) :
    PE X (.Call (.Name x p) [] [⟨some f, .Name y py, kp⟩] pos) (tNew i C f) := by
  obtain ⟨fI, fd, B, newId, initId, bmB, T, hi, tI, F, _, hb⟩ := M.go
  constructor
  intro pins s σ H Q I h
  obtain ⟨v, hv, q⟩ := h
  refine (pe_mkK (g := id) (gV := id) T hi tI F (fun _ _ r => r) (fun s self ws hl => ?_) room hg M.m (pk_cons hy pk_nil) (fun σ H Q ⟨v, e, q⟩ => ⟨v, e, rfl, q⟩) hall hks hdb hpl).run pins s σ H Q I ⟨v, hv, fun a na => ?_⟩
  · match ws, hl with
    | [w1], _ => exact hb s self w1
  refine ⟨a, v, rfl, upd_same, fun d nd ne => ⟨rfl, q a _ na (made_same (C := C) na nd) ⟨d, upd_same, ?_⟩⟩⟩
  rw [upd_ne ne]
  exact upd_same
theorem made_same2 {H : Hp} {a d : Addr} {o o1 o2 o3 : HO} (na : H a = none) (nd : upd H a o d = none) : Same H (upd (upd (upd (upd H a o) d o1) a o2) d o3) := fun b u hb => by
  have n : b ≠ d := ne_of_none (same_new na o b u hb) nd
  rw [upd_ne n]
  exact made_same (C := a) na nd b u hb
theorem pe_new2 (M : MkC2 X.prog X.w X.K X.mg X.base x C f g) (room : Room 2 X.A) (hg : Gl X x) (hy : PE X (.Name y py) (tVar i)) (hz : PE X (.Name z pz) (tVar j))
    (hdb : (x == ("__debug__" : Str)) = false := by decide) (he : starEach [.Name y py, .Name z pz] X.env = (false, eval (.Name y py) X.env) :: starEach [.Name z pz] X.env := by rfl)
    (he2 : starEach [.Name z pz] X.env = (false, eval (.Name z pz) X.env) :: starEach [] X.env := by rfl)
    (hpl : (backTo pos (starEach [.Name z pz] X.env)).any (·.1) = false := by rfl) : PE X (.Call (.Name x p) [.Name y py, .Name z pz] [] pos) (tNew2 i j C f g) := by
  obtain ⟨fI, fd, B, newId, initId, bmB, T, hi, tI, F, hb, _⟩ := M.go
  constructor
  intro pins s σ H Q I h
  obtain ⟨v, u, hv, hu, q⟩ := h
  refine (pe_mk T hi tI F hb room hg M.m (pa_cons hy (pa_cons hz pa_nil he2) he) hdb he hpl).run pins s σ H Q I ⟨v, hv, u, hu, (by show 2 ≤ 100; decide), fun a na => ?_⟩
  refine ⟨a, v, u, rfl, upd_same, fun d nd ne => ⟨rfl, q a _ na (made_same2 na nd) ⟨d, ?_, upd_same⟩⟩⟩
  rw [upd_ne (Ne.symm ne)]
  exact upd_same
/-- X(g = z, f = y) -/
theorem pe_new2K (M : MkC2 X.prog X.w X.K X.mg X.base x C f g) (room : Room 2 X.A) (hg : Gl X x) (hy : PE X (.Name y py) (tVar i)) (hz : PE X (.Name z pz) (tVar j))
    (hdb : (x == ("__debug__" : Str)) = false := by decide)
    (hall : (backToKw pos (keywordEach [⟨some g, .Name z pz, kp⟩, ⟨some f, .Name y py, kq⟩] X.env)).all (·.1.isSome) = true := by rfl)
    (hks : (backToKw pos (keywordEach [⟨some g, .Name z pz, kp⟩, ⟨some f, .Name y py, kq⟩] X.env)).filterMap (·.1) = [g, f] := by rfl)
    (hpl : ((backTo pos (starEach [] X.env)).any (·.1) || (backToKw pos (keywordEach [⟨some g, .Name z pz, kp⟩, ⟨some f, .Name y py, kq⟩] X.env)).any (·.1.isNone)) = false := by rfl) :
    PE X (.Call (.Name x p) [] [⟨some g, .Name z pz, kp⟩, ⟨some f, .Name y py, kq⟩] pos) (tNew2 i j C f g) := by
  obtain ⟨fI, fd, B, newId, initId, bmB, T, hi, tI, F, _, hb⟩ := M.go
  constructor
  intro pins s σ H Q I h
  obtain ⟨v, u, hv, hu, q⟩ := h
  refine (pe_mkK (g := List.reverse) (gV := List.reverse) T hi tI F (fun _ _ r => r.reverse) (fun s self ws hl => ?_) room hg M.m (pk_cons hz (pk_cons hy pk_nil))
    (fun σ H Q ⟨v, e, u, e2, q⟩ => ⟨v, e, u, e2, rfl, q⟩) hall hks hdb hpl).run pins s σ H Q I ⟨u, hu, v, hv, fun a na => ?_⟩
  · match ws, hl with
    | [w2, w1], _ => exact hb s self w1 w2
  refine ⟨a, v, u, rfl, upd_same, fun d nd ne => ⟨rfl, q a _ na (made_same2 na nd) ⟨d, ?_, upd_same⟩⟩⟩
  rw [upd_ne (Ne.symm ne)]
  exact upd_same
/-- o.f, o an exception of some class that is told where it is read -/
def tGetA (K : PySem.W.Frag) (f : Str) (to : TE) : TE := fun σ H Q => to σ H fun x H1 => ∃ (a C : Addr) (fs : List (Str × V)) (v : V), x = .ref a ∧ EAt H1 a C fs ∧
  (∃ B newId initId bmB, ExK K C B newId initId bmB) ∧ PySem.W.findIn K (.ref C) f = some none ∧ fs.lookup f = some v ∧ Q v H1
theorem pe_getA {o : Expr} {to : TE} (ho : PE X o to) (hb : attributeBase o f X.env (eval o X.env) = eval o X.env := by rfl) : PE X (.Attribute o f pos) (tGetA X.K f to) := by
  constructor
  intro pins s σ H Q I h
  refine attr_of hb (thn (ho.run pins s σ H _ I h) ?_)
  rintro u s1 ⟨x, H1, J, r, a, C, fs, v, ex, ⟨d, ea, ed⟩, ⟨B, newId, initId, bmB, T⟩, hno, hv, q⟩
  subst ex
  cases (show u = Value.ref a from r)
  obtain ⟨t1, hobj⟩ := exo_at J.hok ea
  obtain ⟨mA, ns, rel⟩ := exd_at J.hok ed
  have rv := rel f
  rw [hv] at rv
  obtain ⟨u', hu, ru⟩ := RelO.some_of rv
  obtain ⟨od, hod, look⟩ := lookIn_ns ns
  have inst : PySem.W.InstAt s1.heap a { cls := .ref C, dict := some d, data := .fields #[.ref t1, .none, .none, .none, .bool false, .none] } C (some od) := ⟨hobj, rfl, rfl, hod⟩
  exact PySem.PX.exc_get J.kIn inst T.ga T.gt T.sub (PySem.W.findObj_own T.dct hno rfl (by rw [look, hu])) (handed_of ru) ⟨v, H1, J.tok _, ru, q⟩
end
end Hx

namespace Hx
open PySem PySem.Spec PyProof.Rows L2
theorem made_gone {H : Hp} {a d : Addr} {o1 o2 o3 o4 : HO} (na : H a = none) : upd (del (upd (upd (upd H a o1) d o2) a o3) a) d o4 = upd H d o4 := by
  funext b
  by_cases h : b = d
  · rw [h, upd_same, upd_same]
  · rw [upd_ne h, upd_ne h]
    by_cases k : b = a
    · rw [k, del_same, na]
    · rw [del_ne k, upd_ne k, upd_ne h, upd_ne k]
/-- raise C(y), C an own class that keeps its one parameter as f -/
def tRaise1 (i : Nat) (C : Addr) (f : Str) (W : WX) : TS := fun _ σ H => ∃ v, σ[i]? = some (some v) ∧ ∀ d, H d = none → W (.ref C) (some d) σ (upd H d (.xd [(f, v)]))
theorem ps_raise1 {X : Cx} {W : WX} {x y f : Str} {C : Addr} {i : Nat} {p py pos pos2 : Pos} (M : MkC X.prog X.w X.K X.mg X.base x C f) (ty : PySem.W.typeIn X.K (.ref C) = some (.type "type")) (hc : X.calm = true) (tk : Takes X W) (room : Room 2 X.A)
    (hg : Gl X x) (hy : PE X (.Name y py) (tVar i)) (hdb : (x == ("__debug__" : Str)) = false := by decide) (he : starEach [.Name y py] X.env = (false, eval (.Name y py) X.env) :: starEach [] X.env := by rfl)
    (hpl : (backTo pos (starEach [] X.env)).any (·.1) = false := by rfl) : PS X (.Raise (some (.Call (.Name x p) [.Name y py] [] pos)) none pos2) (tRaise1 i C f W) := by
  obtain ⟨fI, fd, B, newId, initId, bmB, T, hi, tI, F, hb, _⟩ := M.go
  constructor
  intro pins s σ H D I h
  obtain ⟨v, hv, q⟩ := h
  refine (ps_raise hc tk (pmk_own2 T ty hi tI F room hb hg M.m (pa_cons hy pa_nil he) hdb he hpl)).run pins s σ H D I ⟨v, hv, (by show 1 ≤ 1000; decide), fun a na => ⟨a, v, rfl, upd_same, fun d nd ne => ⟨rfl, d, [(f, v)], upd_same, ?_, ?_, ?_⟩⟩⟩
  · rw [upd_ne ne]
    exact upd_same
  · rw [upd_ne ne] at nd
    exact nd
  · rw [made_gone na]
    rw [upd_ne ne] at nd
    exact q d nd
end Hx

namespace Wp
open PySem PySem.Spec PyProof.Rows L2 Hx
def nameB (x : Str) : Bool := lettered 8 x && !inV (.str x) (noNames.map V.str)
def spName (K : PySem.W.Frag) : Sp := fun vs H Q _ => ∃ v, vs = [v] ∧ ((∃ x : Str, v = .str x ∧ x.length ≤ 100000 ∧ ∀ H', Same H H' → Q (.bl (nameB x)) H') ∨ (NotStr K H v ∧ Q (.bl false) H))
/-- an error that tells v -/
def Tells (E : XK) (C : Addr) (v : V) (H : Hp) : Prop := ∀ H' d, Same H H' → H' d = none → E (.ref C) (some d) (upd H' d (.xd [("given", v)]))
/-- a check: the value is as g says, or the error of the class at C -/
def spCheck (K : PySem.W.Frag) (g : Str → Bool) (C : Addr) : Sp := fun vs H Q E => ∃ v, vs = [v] ∧ ((∃ x : Str, v = .str x ∧ x.length ≤ 100000 ∧ g x = true ∧ ∀ H', Same H H' → Q .non H') ∨
  (((∃ x : Str, v = .str x ∧ x.length ≤ 100000 ∧ g x = false) ∨ NotStr K H v) ∧ Tells E C v H))
def spCheckWithin (K : PySem.W.Frag) (C : Addr) : Sp := fun vs H Q E => ∃ (v : V) (l m : Int), vs = [v, .int l, .int m] ∧ ((∃ i, v = .int i ∧ l ≤ i ∧ i ≤ m ∧ Q .non H) ∨
  (((∃ i, v = .int i ∧ ¬ (l ≤ i ∧ i ≤ m)) ∨ NotInt K H v) ∧ Tells E C v H))
section
variable {P : Program} {w : World} {K : PySem.W.Frag} {mg : Str → Option Value} {base : Heap} {f fI fW fL fN C : Addr} {fd fdI fdW fdL fdN : FuncData}
theorem scName : FnScope ["value"] ["value"] (defScope s_is_name) := ⟨rfl, rfl, rfl, by decide +kernel, rfl, by decide +kernel, by decide +kernel⟩
theorem ok_name (F : Fun K "is_name" "is_name" s_is_name f fd) (CO : Consts mg K) (GL : FnOk P w K mg base CX0 1 fL fdL ["value", "most"] (spLettered K)) (bL : Binds K fdL ["value", "most"] []) (kL : PySem.W.keepIn K (.ref fL) = true) (mL : mg "is_lettered" = some (.ref fL)) :
    FnOk P w K mg base CX0 2 f fd ["value"] (spName K) := by
  refine F.ok scName (fun vs H Q E h => ?_) (fun cdv A outer s H vs Q E hr h => ?_)
  · obtain ⟨v, rfl, _⟩ := h
    rfl
  obtain ⟨v, rfl, h⟩ := h
  obtain ⟨tm, mm⟩ := CO.most
  obtain ⟨p, mp, hp⟩ := CO.no
  refine ⟨_, pss_one (ps_ret (pe_and (pe_call GL hr rfl mL kL bL .nil pass0 (pa_cons (pv 0) (pa_cons (pe_gint rfl mm) pa_nil)))
    (pe_one (pe_cmpR op_notIn_seq (pv 0) (pe_gref rfl mp) (by rfl))))), ?_⟩
  rcases h with ⟨x, rfl, few, q⟩ | ⟨n, q⟩
  · refine ⟨_, rfl, _, 8, rfl, by decide, .inl ⟨x, rfl, few, fun H' s' => ⟨_, rfl, ?_⟩⟩⟩
    have q2 := q H' s'
    unfold nameB at q2
    cases e : lettered 8 x with
    | false =>
      rw [e] at q2
      exact iteF q2
    | true =>
      rw [e] at q2
      exact iteT ⟨_, rfl, p, _, rfl, .inr (hp H'), rfl, by decide +kernel, q2⟩
  · exact ⟨_, rfl, _, 8, rfl, by decide, .inr ⟨n, _, rfl, iteF q⟩⟩
theorem scCkW : FnScope ["given", "least", "most"] ["given", "least", "most"] (defScope s_check_within) := ⟨rfl, rfl, rfl, by decide +kernel, rfl, by decide +kernel, by decide +kernel⟩
theorem ok_ckW (F : Fun K "check_within" "check_within" s_check_within f fd) (M : MkC P w K mg base "InvalidNumber" C "given") (ty : PySem.W.typeIn K (.ref C) = some (.type "type"))
    (GW : FnOk P w K mg base CX0 2 fW fdW ["value", "least", "most"] (spWithin K)) (bW : Binds K fdW ["value", "least", "most"] []) (kW : PySem.W.keepIn K (.ref fW) = true) (mW : mg "is_within" = some (.ref fW)) :
    FnOk P w K mg base (L2.CX P w) 3 f fd ["given", "least", "most"] (spCheckWithin K C) := by
  refine F.okX scCkW (fun vs H Q E h => ?_) (fun cdv A outer s H vs Q E hr h => ?_)
  · obtain ⟨v, l, m, rfl, _⟩ := h
    rfl
  obtain ⟨v, l, m, rfl, h⟩ := h
  refine ⟨_, pss_one (ps_if (pt_not (pt_val (pe_call GW hr rfl mW kW bW .nil pass0 (pa_cons (pv 0) (pa_cons (pv 1) (pa_cons (pv 2) pa_nil)))))) (pss_one (ps_raise1 M ty rfl (takes_of rfl rfl rfl rfl) hr rfl (pv 0))) pss_nil), ?_⟩
  rcases h with ⟨i, rfl, h1, h2, q⟩ | ⟨⟨i, rfl, n⟩ | n, t⟩
  · refine ⟨_, rfl, _, rfl, _, rfl, _, l, m, rfl, .inl ⟨i, rfl, _, rfl, ?_⟩⟩
    rw [decide_eq_true h1, decide_eq_true h2]
    exact iteF q
  · refine ⟨_, rfl, _, rfl, _, rfl, _, l, m, rfl, .inl ⟨i, rfl, _, rfl, ?_⟩⟩
    have e : (decide (l ≤ i) && decide (i ≤ m)) = false := by
      rw [Bool.eq_false_iff]
      intro z
      obtain ⟨z1, z2⟩ := Bool.and_eq_true_iff.mp z
      exact n ⟨of_decide_eq_true z1, of_decide_eq_true z2⟩
    rw [e]
    exact iteT ⟨_, rfl, fun d hd => t H d (Same.refl H) hd⟩
  · exact ⟨_, rfl, _, rfl, _, rfl, _, l, m, rfl, .inr ⟨n, _, rfl, iteT ⟨_, rfl, fun d hd => t H d (Same.refl H) hd⟩⟩⟩
theorem scCkS : FnScope ["given"] ["given"] (defScope s_check_sign) := ⟨rfl, rfl, rfl, by decide +kernel, rfl, by decide +kernel, by decide +kernel⟩
theorem ok_check_sign (F : Fun K "check_sign" "check_sign" s_check_sign f fd) (M : MkC P w K mg base "InvalidSign" C "given") (ty : PySem.W.typeIn K (.ref C) = some (.type "type"))
    (GL : FnOk P w K mg base CX0 1 fL fdL ["value", "most"] (spLettered K)) (bL : Binds K fdL ["value", "most"] []) (kL : PySem.W.keepIn K (.ref fL) = true) (mL : mg "is_lettered" = some (.ref fL)) :
    FnOk P w K mg base (L2.CX P w) 3 f fd ["given"] (spCheck K (lettered 1) C) := by
  refine F.okX scCkS (fun vs H Q E h => ?_) (fun cdv A outer s H vs Q E hr h => ?_)
  · obtain ⟨v, rfl, _⟩ := h
    rfl
  obtain ⟨v, rfl, h⟩ := h
  refine ⟨_, pss_one (ps_if (pt_not (pt_val (pe_call GL (hr.mono (by decide)) rfl mL kL bL .nil pass0 (pa_cons (pv 0) (pa_cons pe_int pa_nil))))) (pss_one (ps_raise1 M ty rfl (takes_of rfl rfl rfl rfl) hr rfl (pv 0))) pss_nil), ?_⟩
  rcases h with ⟨x, rfl, few, e, q⟩ | ⟨⟨x, rfl, few, e⟩ | n, t⟩
  · refine ⟨_, rfl, _, 1, rfl, by decide, .inl ⟨x, rfl, few, fun H' s' => ⟨_, rfl, ?_⟩⟩⟩
    rw [e]
    exact iteF (q H' s')
  · refine ⟨_, rfl, _, 1, rfl, by decide, .inl ⟨x, rfl, few, fun H' s' => ⟨_, rfl, ?_⟩⟩⟩
    rw [e]
    exact iteT ⟨_, rfl, fun d hd => t H' d s' hd⟩
  · exact ⟨_, rfl, _, 1, rfl, by decide, .inr ⟨n, _, rfl, iteT ⟨_, rfl, fun d hd => t H d (Same.refl H) hd⟩⟩⟩
theorem scCkN : FnScope ["given"] ["given"] (defScope s_check_name) := ⟨rfl, rfl, rfl, by decide +kernel, rfl, by decide +kernel, by decide +kernel⟩
theorem ok_check_name (F : Fun K "check_name" "check_name" s_check_name f fd) (M : MkC P w K mg base "InvalidName" C "given") (ty : PySem.W.typeIn K (.ref C) = some (.type "type"))
    (GL : FnOk P w K mg base CX0 2 fL fdL ["value"] (spName K)) (bL : Binds K fdL ["value"] []) (kL : PySem.W.keepIn K (.ref fL) = true) (mL : mg "is_name" = some (.ref fL)) :
    FnOk P w K mg base (L2.CX P w) 3 f fd ["given"] (spCheck K nameB C) := by
  refine F.okX scCkN (fun vs H Q E h => ?_) (fun cdv A outer s H vs Q E hr h => ?_)
  · obtain ⟨v, rfl, _⟩ := h
    rfl
  obtain ⟨v, rfl, h⟩ := h
  refine ⟨_, pss_one (ps_if (pt_not (pt_val (pe_call GL hr rfl mL kL bL .nil pass0 (pa_cons (pv 0) pa_nil)))) (pss_one (ps_raise1 M ty rfl (takes_of rfl rfl rfl rfl) hr rfl (pv 0))) pss_nil), ?_⟩
  rcases h with ⟨x, rfl, few, e, q⟩ | ⟨⟨x, rfl, few, e⟩ | n, t⟩
  · refine ⟨_, rfl, _, rfl, .inl ⟨x, rfl, few, fun H' s' => ⟨_, rfl, ?_⟩⟩⟩
    rw [e]
    exact iteF (q H' s')
  · refine ⟨_, rfl, _, rfl, .inl ⟨x, rfl, few, fun H' s' => ⟨_, rfl, ?_⟩⟩⟩
    rw [e]
    exact iteT ⟨_, rfl, fun d hd => t H' d s' hd⟩
  · exact ⟨_, rfl, _, rfl, .inr ⟨n, _, rfl, iteT ⟨_, rfl, fun d hd => t H d (Same.refl H) hd⟩⟩⟩
theorem scCkWd : FnScope ["given"] ["given"] (defScope s_check_word) := ⟨rfl, rfl, rfl, by decide +kernel, rfl, by decide +kernel, by decide +kernel⟩
theorem ok_check_word (F : Fun K "check_word" "check_word" s_check_word f fd) (M : MkC P w K mg base "InvalidWord" C "given") (ty : PySem.W.typeIn K (.ref C) = some (.type "type")) (CO : Consts mg K)
    (GL : FnOk P w K mg base CX0 1 fL fdL ["value", "most"] (spLettered K)) (bL : Binds K fdL ["value", "most"] []) (kL : PySem.W.keepIn K (.ref fL) = true) (mL : mg "is_lettered" = some (.ref fL)) :
    FnOk P w K mg base (L2.CX P w) 3 f fd ["given"] (spCheck K (lettered 4) C) := by
  refine F.okX scCkWd (fun vs H Q E h => ?_) (fun cdv A outer s H vs Q E hr h => ?_)
  · obtain ⟨v, rfl, _⟩ := h
    rfl
  obtain ⟨v, rfl, h⟩ := h
  obtain ⟨tm, ms⟩ := CO.signs
  refine ⟨_, pss_one (ps_if (pt_not (pt_val (pe_call GL (hr.mono (by decide)) rfl mL kL bL .nil pass0 (pa_cons (pv 0) (pa_cons (pe_gint rfl ms) pa_nil))))) (pss_one (ps_raise1 M ty rfl (takes_of rfl rfl rfl rfl) hr rfl (pv 0))) pss_nil), ?_⟩
  rcases h with ⟨x, rfl, few, e, q⟩ | ⟨⟨x, rfl, few, e⟩ | n, t⟩
  · refine ⟨_, rfl, _, 4, rfl, by decide, .inl ⟨x, rfl, few, fun H' s' => ⟨_, rfl, ?_⟩⟩⟩
    rw [e]
    exact iteF (q H' s')
  · refine ⟨_, rfl, _, 4, rfl, by decide, .inl ⟨x, rfl, few, fun H' s' => ⟨_, rfl, ?_⟩⟩⟩
    rw [e]
    exact iteT ⟨_, rfl, fun d hd => t H' d s' hd⟩
  · exact ⟨_, rfl, _, 4, rfl, by decide, .inr ⟨n, _, rfl, iteT ⟨_, rfl, fun d hd => t H d (Same.refl H) hd⟩⟩⟩
end
end Wp

namespace Hx
open PySem PySem.Spec PyProof.Rows L2
/-- the class at C tells its text by a def of its own, whose promise is sp -/
structure TellsBy (P : Program) (w : World) (K : PySem.W.Frag) (mg : Str → Option Value) (base : Heap) (k : Nat) (C : Addr) (sp : Sp) : Prop where
  cls : Cls K C
  go : ∃ (g : Addr) (fd : FuncData), PySem.W.findIn K (.ref C) "__str__" = some (some (.ref g)) ∧ PySem.W.isFn K (.ref g) = true ∧
    FnOk P w K mg base CX0 k g fd ["self"] sp ∧ Binds K fd ["self"] []
/-- str(x): a number, a text, or an object that tells its text -/
def rTell (P : Program) (w : World) (K : PySem.W.Frag) (mg : Str → Option Value) (base : Heap) (k : Nat) : List V → Hp → VK → Prop := fun xs H Q => ∃ x, xs = [x] ∧
  ((∃ i : Int, x = .int i ∧ i.natAbs.log2 < 1920 ∧ Q (.str (toString i)) H) ∨ (∃ y : Str, x = .str y ∧ Q (.str y) H) ∨
    ∃ (a C dx : Addr) (fs : List (Str × V)) (sp : Sp), x = .ref a ∧ H a = some (.ins C dx fs) ∧ TellsBy P w K mg base k C sp ∧
      sp [.ref a] H (fun v H' => ∃ y : Str, v = .str y ∧ Q (.str y) H') E0)
theorem Room.less {k j : Nat} {A : Around} (r : Room k A) (h : j ≤ k) : Room j A := r.mono h
theorem call_tell {X : Cx} {k : Nat} (room : Room (k + 2) X.A) : CallR X (.type "str") (rTell X.prog X.w X.K X.mg X.base k) := by
  intro pins s σ H xs us Q I r h
  obtain ⟨x, rfl, ⟨i, rfl, small, q⟩ | ⟨y, rfl, q⟩ | ⟨a, C, dx, fs, sp, rfl, ha, T, q⟩⟩ := h
  · exact call_str_int pins s σ H _ us Q I r ⟨i, rfl, small, q⟩
  · exact SkE.call_str_str pins s σ H _ us Q I r ⟨y, rfl, q⟩
  · rw [Vals.ref1 r]
    obtain ⟨mA, O, _, _, _, _⟩ := ins_get I.hok ha
    obtain ⟨od, J, _⟩ := O.look
    obtain ⟨g, fd, hs, hf, F, b⟩ := T.go
    refine PySem.W.kso_call (by have := room.units; show _ < _; exact Nat.lt_of_le_of_lt (Nat.le_add_right _ 64) room.in1.in1.units) I.kIn J hs hf ?_
    have go := F.run X.A.in1.in1 X.stack s H ⟨[.ref a], []⟩ [.ref a] [.ref a] _ E0 room.in1.in1 I.env0.in1.in1 (b s [.ref a] I.kIn rfl) (.cons rfl .nil) q
    refine wpAny_call (codeAny_mono go ?_)
    intro r' s' hr
    cases r' with
    | error e => exact (show False from hr).elim
    | ok fl =>
      cases fl with
      | ret u =>
        obtain ⟨v, H', J', rv, y, ev, qy⟩ := I.after hr
        subst ev
        obtain ⟨t, rfl⟩ := rv
        exact ⟨.str y, H', J', ⟨t, rfl⟩, qy⟩
      | next => exact hr.elim
      | brk => exact hr.elim
      | cont => exact hr.elim
end Hx

namespace Wp
open PySem PySem.Spec PyProof.Rows L2 Hx
/-- the class at C has f as a property of its own, whose getter keeps sp -/
structure PropBy (P : Program) (w : World) (K : PySem.W.Frag) (mg : Str → Option Value) (base : Heap) (k : Nat) (C : Addr) (f : Str) (sp : Sp) : Prop where
  cls : Cls K C
  go : ∃ (p g : Addr) (fd : FuncData), PropOf K C f p g ∧ FnOk P w K mg base CX0 k g fd ["self"] sp ∧ Binds K fd ["self"] []
/-- e.f, a property of the class that is met there -/
def tPropA (P : Program) (w : World) (K : PySem.W.Frag) (mg : Str → Option Value) (base : Heap) (k : Nat) (f : Str) (ta : TE) : TE := fun σ H Q => ta σ H fun x H1 => ∃ (a C dx : Addr) (fs : List (Str × V)) (sp : Sp), x = .ref a ∧ H1 a = some (.ins C dx fs) ∧ PropBy P w K mg base k C f sp ∧ sp [.ref a] H1 Q E0
theorem pe_propA {X : Cx} {k : Nat} {f : Str} {e : Expr} {pos : Pos} {ta : TE} (he : PE X e ta) (room : Room (k + 1) X.A) (hab : attributeBase e f X.env (eval e X.env) = eval e X.env := by rfl) : PE X (.Attribute e f pos) (tPropA X.prog X.w X.K X.mg X.base k f ta) := by
  constructor
  intro pins s σ H Q I h
  refine attr_of hab (thn (he.run pins s σ H _ I h) ?_)
  rintro u s1 ⟨x, H1, I1, rx, a, C, dx, fs, sp, rfl, ea, T, q⟩
  cases (show u = Value.ref a from rx)
  obtain ⟨p, g, fd, hp, F, b⟩ := T.go
  exact getprop_ok I1 ea T.cls hp F room b .nil pass0 q
/-- the promise of a getter: a field of what stands at the object's facts -/
def spGet (C CF : Addr) (fld : Str) : Sp := fun vs H Q _ => ∃ (a dx fa dfa : Addr) (fs gs : List (Str × V)) (v : V), vs = [.ref a] ∧ H a = some (.ins C dx fs) ∧ fs.lookup ("facts" : Str) = some (.ref fa) ∧ H fa = some (.ins CF dfa gs) ∧ gs.lookup fld = some v ∧ Q v H
def spStr (C CF : Addr) : Sp := fun vs H Q _ => ∃ (a dx fa dfa : Addr) (fs gs : List (Str × V)) (y : Str), vs = [.ref a] ∧ H a = some (.ins C dx fs) ∧ fs.lookup ("facts" : Str) = some (.ref fa) ∧ H fa = some (.ins CF dfa gs) ∧ gs.lookup ("text" : Str) = some (.str y) ∧ Q (.str y) H
section
variable {P : Program} {w : World} {K : PySem.W.Frag} {mg : Str → Option Value} {base : Heap} {f C CF : Addr} {fd : FuncData} {st : Stmt} {x qual fld : Str} {p1 p2 p3 p4 p5 p6 : Pos}
theorem ok_get (F : Fun K x qual st f fd) (S : FnScope ["self"] ["self"] (defScope st)) (hb : defBody st = [.Return (some (.Attribute (.Attribute (.Name "self" p1) "facts" p2) fld p3)) p4]) (v1 : Vis (defScope st) "self")
    (cC : Cls K C) (nC : NoAttr K C "facts") (cF : Cls K CF) (nF : NoAttr K CF fld) : FnOk P w K mg base CX0 1 f fd ["self"] (spGet C CF fld) := by
  refine F.ok S (fun vs H Q E h => ?_) (fun cdv A outer s H vs Q E hr h => ?_)
  · obtain ⟨a, dx, fa, dfa, fs, gs, v, rfl, _⟩ := h
    rfl
  obtain ⟨a, dx, fa, dfa, fs, gs, v, rfl, h1, h2, h3, h4, q⟩ := h
  rw [hb]
  refine ⟨_, pss_one (ps_ret (pe_fld (pe_fld (pe_var (i := 0) rfl v1) rfl) rfl)), ?_⟩
  exact ⟨_, rfl, a, C, dx, fs, _, rfl, h1, cC, nC, h2, fa, CF, dfa, gs, v, rfl, h3, cF, nF, h4, q⟩
theorem ok_str (F : Fun K x qual st f fd) (S : FnScope ["self"] ["self"] (defScope st)) (hb : defBody st = [.Return (some (.Call (.Name "str" p5) [.Attribute (.Attribute (.Name "self" p1) "facts" p2) "text" p3] [] p6)) p4]) (v1 : Vis (defScope st) "self")
    (gl : ∀ n cdv, (envOfC qual (defScope st) n f cdv).kindOf "str" = some .globalImplicit) (ms : mg "str" = none)
    (cC : Cls K C) (nC : NoAttr K C "facts") (cF : Cls K CF) (nF : NoAttr K CF "text") : FnOk P w K mg base CX0 1 f fd ["self"] (spStr C CF) := by
  refine F.ok S (fun vs H Q E h => ?_) (fun cdv A outer s H vs Q E hr h => ?_)
  · obtain ⟨a, dx, fa, dfa, fs, gs, y, rfl, _⟩ := h
    rfl
  obtain ⟨a, dx, fa, dfa, fs, gs, y, rfl, h1, h2, h3, h4, q⟩ := h
  rw [hb]
  refine ⟨_, pss_one (ps_ret (pe_callTy SkE.call_str_str (gl _ _) ms (by decide +kernel) (pa_cons (pe_fld (pe_fld (pe_var (i := 0) rfl v1) rfl) rfl) pa_nil))), ?_⟩
  exact ⟨_, rfl, a, C, dx, fs, _, rfl, h1, cC, nC, h2, fa, CF, dfa, gs, .str y, rfl, h3, cF, nF, h4, y, rfl, q⟩
end
end Wp

namespace Wp
open PySem PySem.Spec PyProof.Rows L2 Hx
def factL (kind : Str) (pm pi : Addr) (text : Str) (pl : Addr) (size : Int) : List (Str × V) := [("word", .str kind), ("marks", .ref pm), ("parts", .ref pi), ("text", .str text), ("labels", .ref pl), ("size", .int size)]
/-- at a stands an expression of one of the classes, and this is told of it -/
def XpAt (CF : Addr) (cls : Addr → Prop) (H : Hp) (a C : Addr) (kind text : Str) (told inner : List V) (labels : List Str) (size : Int) : Prop :=
  ∃ (dx fa dfa pm pi pl : Addr), cls C ∧ H a = some (.ins C dx [("facts", .ref fa)]) ∧ H fa = some (.ins CF dfa (factL kind pm pi text pl size)) ∧ H pm = some (.tup told) ∧ H pi = some (.tup inner) ∧ H pl = some (.tup (labels.map V.str))
theorem XpAt.same {CF : Addr} {cls : Addr → Prop} {H H' : Hp} {a C : Addr} {kind text : Str} {told inner : List V} {labels : List Str} {size : Int} (h : XpAt CF cls H a C kind text told inner labels size) (s : Same H H') : XpAt CF cls H' a C kind text told inner labels size := by
  obtain ⟨dx, fa, dfa, pm, pi, pl, h0, h1, h2, h3, h4, h5⟩ := h
  exact ⟨dx, fa, dfa, pm, pi, pl, h0, s _ _ h1, s _ _ h2, s _ _ h3, s _ _ h4, s _ _ h5⟩
/-- what stands within the brackets of a text -/
inductive TxAt (CF : Addr) (cls : Addr → Prop) (H : Hp) : V → Str → Prop
  | int (i : Int) (h : 0 ≤ i ∧ i ≤ 1000) : TxAt CF cls H (.int i) (toString i)
  | str (y : Str) : TxAt CF cls H (.str y) y
  | exp {a C : Addr} {kind y : Str} {told inner : List V} {labels : List Str} {size : Int} (h : XpAt CF cls H a C kind y told inner labels size) : TxAt CF cls H (.ref a) y
theorem TxAt.same {CF : Addr} {cls : Addr → Prop} {H H' : Hp} {v : V} {y : Str} (h : TxAt CF cls H v y) (s : Same H H') : TxAt CF cls H' v y := by
  cases h with
  | int i h => exact .int i h
  | str => exact .str y
  | exp h => exact .exp (h.same s)
/-- what the program's part says of the classes of expressions -/
structure Kls (P : Program) (w : World) (K : PySem.W.Frag) (mg : Str → Option Value) (base : Heap) (CF : Addr) (cls : Addr → Prop) : Prop where
  str : ∀ C, cls C → TellsBy P w K mg base 1 C (spStr C CF)
  get : ∀ C, cls C → ∀ f fld, (f, fld) ∈ ([("kind", "word"), ("inner", "parts"), ("told", "marks"), ("names", "labels"), ("knots", "size")] : List (Str × Str)) → PropBy P w K mg base 1 C f (spGet C CF fld)
theorem join_len (y : Str) : ∀ ps : List Str, (Str.join y ps).length ≤ (ps.map (·.length)).sum + ps.length * y.length
  | [] => by
    show Str.empty.length ≤ _
    exact Nat.le_trans (by decide +kernel : Str.empty.length ≤ 0) (Nat.zero_le _)
  | [x] => by
    show x.length ≤ _
    simp
  | x :: z :: r => by
    have h := join_len y (z :: r)
    show (x ++ y ++ Str.join y (z :: r)).length ≤ _
    rw [PySem.Str.length_append, PySem.Str.length_append]
    simp only [List.map_cons, List.sum_cons, List.length_cons, Nat.succ_mul] at h ⊢
    omega
theorem paired_get {α β : Type} {R : α → β → Prop} : ∀ {xs : List α} {ys : List β} {i : Nat} {x : α}, Paired R xs ys → xs[i]? = some x → ∃ y, ys[i]? = some y ∧ R x y
  | _, _, 0, _, .cons r t, h => ⟨_, rfl, by cases h; exact r⟩
  | _, _, i + 1, _, .cons r t, h => paired_get (i := i) t h
theorem str_ne {a b : Str} (h : a ≠ b) : decide (V.str a = V.str b) = false := decide_eq_false fun z => h (V.str.inj z)
theorem small_log {j : Int} (h : 0 ≤ j ∧ j ≤ 1000) : j.natAbs.log2 < 1920 := by
  have z : j.natAbs ≤ 1000 := by omega
  exact Nat.lt_of_le_of_lt (Nat.le_trans (Nat.log2_le_self _) z) (by decide)
/-- the text that spelled makes -/
def Spells (CF : Addr) (cls : Addr → Prop) (H : Hp) (kind : Str) (told : List V) (inner : List V) (text : Str) : Prop :=
  (kind = "sign" ∧ ∃ s : Str, told = [.str s] ∧ s.length ≤ 1000 ∧ text = ((Str.empty ++ "'") ++ s) ++ "'") ∨ (kind = "name" ∧ ∃ s : Str, told = [.str s] ∧ text = s) ∨
    (kind ≠ "sign" ∧ kind ≠ "name" ∧ kind.length ≤ 10 ∧ ∃ ys : List Str, Paired (TxAt CF cls H) (told ++ inner) ys ∧ ys.length ≤ 100 ∧ (ys.map (·.length)).sum ≤ 100000 ∧ text = (((Str.empty ++ kind) ++ "(") ++ Str.join ", " ys) ++ ")")
def spSpelled (CF : Addr) (cls : Addr → Prop) : Sp := fun vs H Q _ => ∃ (kind : Str) (pt pi : Addr) (told inner : List V) (text : Str), vs = [.str kind, .ref pt, .ref pi] ∧ H pt = some (.tup told) ∧ H pi = some (.tup inner) ∧
  Spells CF cls H kind told inner text ∧ ∀ H', Same H H' → Q (.str text) H'
section
variable {P : Program} {w : World} {K : PySem.W.Frag} {mg : Str → Option Value} {base : Heap} {f CF : Addr} {fd : FuncData} {cls : Addr → Prop}
theorem scSpelled : FnScope ["kind", "told", "inner", "listed", "part"] ["kind", "told", "inner"] (defScope s_spelled) := ⟨rfl, rfl, rfl, by decide +kernel, rfl, by decide +kernel, by decide +kernel⟩
theorem ok_spelled (F : Fun K "spelled" "spelled" s_spelled f fd) (Z : Bltn mg) (T : Kls P w K mg base CF cls) : FnOk P w K mg base CX0 4 f fd ["kind", "told", "inner"] (spSpelled CF cls) := by
  refine F.ok scSpelled (fun vs H Q E h => ?_) (fun cdv A outer s H vs Q E hr h => ?_)
  · obtain ⟨kind, pt, pi, told, inner, text, rfl, _⟩ := h
    rfl
  obtain ⟨kind, pt, pi, told, inner, text, rfl, ht, hi, h, q⟩ := h
  refine ⟨_, pss_cons (ps_if (pt_cmpR op_eq (pv 0) pe_str (nomark _)) (pss_one (ps_ret (pe_joined (.cons pe_str (.cons (pe_fmt (pe_ix ix_tup (pv 1) pe_int (fun _ _ => rfl))) (.cons pe_str .nil)))))) pss_nil)
    (pss_cons (ps_if (pt_cmpR op_eq (pv 0) pe_str (nomark _)) (pss_one (ps_ret (pe_ix ix_tup (pv 1) pe_int (fun _ _ => rfl)))) pss_nil)
    (pss_cons (ps_set (i := 3) scSpelled.nd rfl (Or.inl rfl) (pe_join pe_str (pe_lc (te := tCB (rTell P w K mg base 1) (tCons (tVar 4) tNil)) (own := [("part", 4)]) (g := gName 4) (tt := tYes) rfl scSpelled.nd (pi_tup (pe_tup (StX.pa_star (pv 1) (StX.pa_star (pv 2) pa_nil))))
        (blkOk_by (N := ["kind", "told", "inner", "listed", "part"]) (sc := defScope s_spelled) (by decide +kernel)) (fun _ _ _ _ _ => pg_name (i := 4) scSpelled.nd rfl (Or.inl rfl)) (fun _ _ _ _ _ => pts_nil)
        (fun _ _ _ _ _ => pe_callTy (call_tell (k := 1) hr) (by rfl) Z.str (by decide +kernel) (pa_cons (pv 4) pa_nil)))))
    (pss_one (ps_ret (pe_joined (.cons (pe_fmt (pv 0)) (.cons pe_str (.cons (pe_fmt (pv 3)) (.cons pe_str .nil))))))))), ?_⟩
  have go : ∀ ys : List Str, ys.length ≤ 100 → (ys.map (·.length)).sum ≤ 100000 → (Str.join ", " ys).length ≤ 100200 := fun ys h1 h2 => by
    have z := join_len ", " ys
    have l2 : (", " : Str).length = 2 := by decide +kernel
    rw [l2] at z
    omega
  have one : ("'" : Str).length = 1 := by decide +kernel
  have e0 : Str.empty.length = 0 := by decide +kernel
  have big : 100300 ≤ sizeLine := by decide
  rcases h with ⟨rfl, s', rfl, few, ex⟩ | ⟨rfl, s', rfl, ex⟩ | ⟨n1, n2, kf, ys, ty, y1, y2, ex⟩ <;> rw [ex] at q
  · refine ⟨_, rfl, rfl, _, rfl, ?_⟩
    rw [decide_eq_true rfl]
    refine iteT ⟨"'", rfl, by decide +kernel, _, rfl, pt, _, _, .str s', rfl, rfl, SqT.of ht, rfl, .inl ⟨s', rfl, Nat.le_trans few (by decide), s', rfl, ?_, "'", rfl, ?_, q H (Same.refl H)⟩⟩
    · simp only [PySem.Str.length_append, one, e0]
      omega
    · simp only [PySem.Str.length_append, one, e0]
      omega
  · refine ⟨_, rfl, rfl, _, rfl, ?_⟩
    rw [str_ne (by decide +kernel)]
    refine iteF ⟨_, rfl, rfl, _, rfl, ?_⟩
    rw [decide_eq_true rfl]
    exact iteT ⟨_, rfl, pt, _, _, .str s', rfl, rfl, SqT.of ht, rfl, q H (Same.refl H)⟩
  · refine ⟨_, rfl, rfl, _, rfl, ?_⟩
    rw [str_ne n1]
    refine iteF ⟨_, rfl, rfl, _, rfl, ?_⟩
    rw [str_ne n2]
    refine iteF ?_
    have len : (told ++ (inner ++ [])).length = ys.length := by
      rw [List.append_nil]
      exact ty.length
    refine ⟨⟨_, rfl⟩, _, rfl, pt, told, rfl, .inl (SqT.of ht), _, rfl, pi, inner, rfl, .inl (SqT.of hi), ?_, fun tp htp => ⟨tp, rfl, ⟨_, SqT.of upd_same⟩, fun D hD => ?_⟩⟩
    · rw [len]
      exact small_line (by omega)
    have s0 := same_new htp (.tup (told ++ (inner ++ [])))
    refine lc_tup (K := K) (a := tp) (xs := told ++ (inner ++ [])) (fun i H' => Same (upd H tp (.tup (told ++ (inner ++ [])))) H' ∧ H' D = some (.lst ((ys.take i).map V.str))) ⟨same_new hD _, upd_same⟩ (fun i H' _ h => SqT.of (h.1 _ _ upd_same)) ?_ ?_
    · rintro i x H' hx ⟨s1, h1⟩
      rw [List.append_nil] at hx
      obtain ⟨y, hy, t⟩ := paired_get ty hx
      have iy : i < ys.length := (List.getElem?_eq_some_iff.mp hy).1
      have fin : ∃ acc, H' D = some (.lst acc) ∧ acc.length < sizeLine ∧ Same (upd H tp (.tup (told ++ (inner ++ [])))) (upd H' D (.lst (acc ++ [V.str y]))) ∧
          upd H' D (.lst (acc ++ [V.str y])) D = some (.lst ((ys.take (i + 1)).map V.str)) := by
        refine ⟨_, h1, ?_, fun b o hb => ?_, ?_⟩
        · rw [List.length_map, List.length_take]
          exact Nat.lt_of_lt_of_le (by omega : _ < 1000) (small_line (Nat.le_refl _))
        · rw [upd_ne (ne_of_none hb hD)]
          exact s1 b o hb
        · rw [upd_same, List.take_add_one, hy, List.map_append]
          rfl
      refine ⟨rfl, turn_yes ⟨_, rfl, x, rfl, ?_⟩⟩
      cases t.same (s0.trans s1) with
      | int j hj => exact .inl ⟨j, rfl, small_log hj, fin⟩
      | str => exact .inr (.inl ⟨y, rfl, fin⟩)
      | exp h =>
        obtain ⟨dx, fa, dfa, pm, pi', pl, hc, e1, e2, _⟩ := h
        exact .inr (.inr ⟨_, _, dx, _, spStr _ CF, rfl, e1, T.str _ hc, _, dx, fa, dfa, _, _, y, rfl, e1, rfl, e2, rfl, y, rfl, fin⟩)
    · rintro H' ⟨s1, h1⟩
      rw [len, List.take_of_length_le (Nat.le_refl _)] at h1
      refine ⟨", ", D, ys, rfl, rfl, .inl (SqL.of h1), ?_, ?_⟩
      · have l2 : (", " : Str).length = 2 := by decide +kernel
        rw [l2]
        omega
      rw [TL.join_eq]
      have g := go ys y1 y2
      refine ⟨_, rfl, .inl ⟨kind, rfl, Nat.le_trans kf (by decide), kind, rfl, ?_, "(", rfl, ?_, _, rfl, .inl ⟨_, rfl, ?_, _, rfl, ?_, ")", rfl, ?_, q H' (s0.trans s1)⟩⟩⟩
      all_goals try simp only [PySem.Str.length_append, e0, (by decide +kernel : ("(" : Str).length = 1), (by decide +kernel : (")" : Str).length = 1)]
      all_goals omega
end
end Wp

namespace Hs
open PySem PySem.Spec PyProof.Rows L2
/-! sets of texts: made of a list, sorted -/
def textOf (e : Int × Value) : Str := match e.2 with | .str x _ => x | _ => Str.empty
def TextE (P : Program) (w : World) (e : Int × Value) : Prop := ∃ x tk, e.2 = Value.str x tk ∧ e.1 = (strKind P w).hash x
/-- at a stands a set of just these texts -/
structure Table (P : Program) (w : World) (ms : List Str) (es : Array (Int × Value)) (t : SetTable) : Prop where
  texts : ∀ e ∈ es.toList, TextE P w e
  perm : (es.toList.map textOf).Perm ms
  once : ms.Nodup
  few : es.size < scanBound
  fits : t.fits es.size = true
  ris : Ris t.place.toList
  led : w.params.followText "set-order" = true ∨ t.led = true
def SetT (P : Program) (w : World) (h : Heap) (a : Addr) (ms : List Str) : Prop :=
  ∃ o es ep t, h.get? a = some o ∧ o.ExactSet ∧ o.data = .set es ep t ∧ Table P w ms es t
section
variable {P : Program} {w : World} {h h' : Heap} {a : Addr} {ms : List Str} {es : Array (Int × Value)} {t : SetTable}
theorem SetT.keep (R : SetT P w h a ms) (k : ∀ o, h.get? a = some o → h'.get? a = some o) : SetT P w h' a ms := by
  obtain ⟨o, es, ep, t, ho, r⟩ := R
  exact ⟨o, es, ep, t, k o ho, r⟩
theorem Table.elems (T : Table P w ms es t) : ElemsOf (strKind P w) es.toList := fun e he => by
  obtain ⟨x, tk, h1, h2⟩ := T.texts e he
  rw [h1]
  exact ⟨⟨x, strKind_is P w x tk, h2⟩, rfl⟩
theorem text_is {e : Int × Value} (g : TextE P w e) (x : Str) : (strKind P w).is x e.2 = true ↔ textOf e = x := by
  obtain ⟨y, tk, h1, _⟩ := g
  unfold textOf
  rw [h1]
  show ((y == x) = true) ↔ y = x
  exact beq_iff_eq
theorem Table.mem (T : Table P w ms es t) (x : Str) : x ∈ ms ↔ ∃ e ∈ es.toList, (strKind P w).is x e.2 = true := by
  rw [← T.perm.mem_iff, List.mem_map]
  exact ⟨fun ⟨e, he, q⟩ => ⟨e, he, (text_is (T.texts e he) x).2 q⟩, fun ⟨e, he, q⟩ => ⟨e, he, (text_is (T.texts e he) x).1 q⟩⟩
theorem Table.size (T : Table P w ms es t) : es.size = ms.length := by
  rw [← T.perm.length_eq, List.length_map, Array.length_toList]
theorem fresh {h : Heap} {a : Addr} (ho : h.get? a = some { cls := .type "set", dict := none, data := .set #[] 0 (.fresh 0 0 (!w.params.followText "set-order")) }) : SetT P w h a [] := by
  refine ⟨_, #[], 0, _, ho, ⟨rfl, rfl, rfl⟩, rfl, ⟨fun e he => ?_, .nil, .nil, by decide, rfl, .nil, ?_⟩⟩
  · cases he
  · show _ ∨ (!w.params.followText "set-order") = true
    cases w.params.followText "set-order" <;> simp
end
/-- the members when x comes to ms -/
def put (ms : List Str) (x : Str) : List Str := if x ∈ ms then ms else x :: ms
section
variable {P : Program} {w : World} {A : Around} {E : Value → Shared → Prop} {s : Shared} {a : Addr} {ms : List Str}
theorem settle {g : Bool → Sem Unit} (hg : ∀ (b : Bool) (s1 : Shared) (Q' : Unit → Shared → Prop), Q' () s1 → wpAny (model P w) A (g b) Q' E s1)
    {o : Obj} {es es1 : Array (Int × Value)} {ep : Nat} {t t2 : SetTable} {ns : List Str} (ho : s.heap.get? a = some o) (hex : o.ExactSet) (hd : o.data = .set es ep t) (T : Table P w ns es1 t2)
    {wasDummy : Bool} {R : Option Bool → Shared → Prop} (hR : ∀ h', Heap.SameBut a s.heap h' → SetT P w h' a ns → R (some true) { s with heap := h' }) :
    wpAny (model P w) A (do
      storeSet a es1 t2
      if (!wasDummy && t2.tooFull) = true then do
          g (relayAll t2 es1 (SetTable.grown es1.size)).2.2
          storeSet a (relayAll t2 es1 (SetTable.grown es1.size)).1 (relayAll t2 es1 (SetTable.grown es1.size)).2.1
          pure (some true)
        else pure (some true)) R E s := by
  have h1 := store_at (es' := es1) (t' := t2) ho hd
  have b1 := Heap.SameBut.update s.heap a (Obj.putSet es1 t2)
  refine wpAny_bind (wpAny_storeSet_of ho hd ?_ (fits_of_scanBound T.few))
  split
  case isFalse => exact wpAny_pure (hR _ b1 ⟨_, es1, _, t2, h1, hex, rfl, T⟩)
  case isTrue =>
    have q1 := relayAll_perm t2 es1 (SetTable.grown es1.size)
    have q2 := relayAll_fits t2 es1 (SetTable.grown es1.size)
    have q3 := relayAll_ris t2 es1 (SetTable.grown es1.size)
    have q4 := relayAll_led t2 es1 (SetTable.grown es1.size)
    generalize relayAll t2 es1 (SetTable.grown es1.size) = Z at q1 q2 q3 q4 ⊢
    obtain ⟨es2, t3, gave⟩ := Z
    dsimp only at q1 q2 q3 q4 ⊢
    have z : es2.size = es1.size := by
      rw [← Array.length_toList, q1.length_eq, Array.length_toList]
    have T2 : Table P w ns es2 t3 := ⟨fun e he => T.texts e (q1.mem_iff.mp he), (q1.map textOf).trans T.perm, T.once, by rw [z]; exact T.few, q2, q3, T.led.imp id fun y => by rw [q4]; exact y⟩
    refine wpAny_bind (hg _ _ _ (wpAny_bind (wpAny_storeSet_of h1 rfl ?_ (fits_of_scanBound T2.few))))
    exact wpAny_pure (hR _ (b1.trans (Heap.SameBut.update _ a _)) ⟨_, es2, _, t3, store_at (es' := es2) (t' := t3) h1 rfl, hex, rfl, T2⟩)
theorem add_text {x : Str} {tk : Tok} {Q : Bool → Shared → Prop} (R : SetT P w s.heap a ms) (room : ms.length + 1 < scanBound)
    (hQ : ∀ h' b, Heap.SameBut a s.heap h' → SetT P w h' a (put ms x) → Q b { s with heap := h' }) :
    wpAny (model P w) A (setAddHashed a (.str x tk) ((strKind P w).hash x)) Q E s := by
  obtain ⟨o, es, ep, t, ho, hex, hd, T⟩ := R
  have sc : (Value.str x tk).scannable = true := rfl
  unfold setAddHashed setAddHashedIn
  refine wpAny_holding (wpAny_bind (wpAny_setState_of ho hd T.fits ?_))
  dsimp only
  rw [byScan_of sc T.few T.elems, if_pos rfl]
  unfold setAddByScan
  refine wpAny_bind (wpAny_bind (wpAny_rule (wpAny_bind (wpAny_setScan_of (strKind_is P w x tk) ho hd T.fits T.elems ?_))))
  cases found : List.findIdx? (fun e => (strKind P w).is x e.2) es.toList with
  | some j =>
    obtain ⟨hj, pj, _⟩ := List.findIdx?_eq_some_iff_getElem.mp found
    have hx : x ∈ ms := (T.mem x).2 ⟨_, List.getElem_mem hj, pj⟩
    have e : put ms x = ms := if_pos hx
    dsimp only
    refine wpAny_pure (wpAny_pure (hQ s.heap _ (Heap.SameBut.refl a s.heap) ?_))
    rw [e]
    exact ⟨o, es, ep, t, ho, hex, hd, T⟩
  | none =>
    have hx : x ∉ ms := fun z => by
      obtain ⟨e, he, q⟩ := (T.mem x).1 z
      have c := List.findIdx?_eq_none_iff.mp found e he
      rw [q] at c
      cases c
    have ep' : put ms x = x :: ms := if_neg hx
    dsimp only
    have q1 := layNew_perm t es ((strKind P w).hash x) (.str x tk)
    have q2 := layNew_fits t es ((strKind P w).hash x) (.str x tk)
    have q3 := layNew_ris t es ((strKind P w).hash x) (.str x tk) T.ris
    have q4 := layNew_led t es ((strKind P w).hash x) (.str x tk)
    generalize layNew t es ((strKind P w).hash x) (.str x tk) = Z at q1 q2 q3 q4 ⊢
    obtain ⟨es1, t1, wasDummy, gave⟩ := Z
    dsimp only at q1 q2 q3 q4 ⊢
    rw [Array.toList_push] at q1
    have pc : es1.toList.Perm (((strKind P w).hash x, Value.str x tk) :: es.toList) := q1.trans (List.perm_append_singleton _ _)
    have pm : (es1.toList.map textOf).Perm (x :: ms) := (pc.map textOf).trans (T.perm.cons x)
    have tx : ∀ e ∈ es1.toList, TextE P w e := fun e he => by
      rcases List.mem_cons.mp (pc.mem_iff.mp he) with rfl | z
      · exact ⟨x, tk, rfl, rfl⟩
      · exact T.texts e z
    have few : es1.size < scanBound := by
      have z := pc.length_eq
      rw [Array.length_toList, List.length_cons, Array.length_toList, T.size] at z
      omega
    have mk : ∀ t2 : SetTable, t2.fits es1.size = true → Ris t2.place.toList → t2.led = t1.led → Table P w (x :: ms) es1 t2 := fun t2 f r l =>
      ⟨tx, pm, List.nodup_cons.mpr ⟨hx, T.once⟩, few, f, r, T.led.imp id fun y => by rw [l, q4]; exact y⟩
    have fin : ∀ h', Heap.SameBut a s.heap h' → SetT P w h' a (x :: ms) → Q true { s with heap := h' } := fun h' b r => hQ h' _ b (by rw [ep']; exact r)
    have say : ∀ (b : Bool) {s1 : Shared} {Q' : Unit → Shared → Prop}, Q' () s1 → wpAny (model P w) A (match b with | true => rule "set.scan.the-table-gave-way" | false => pure ()) Q' E s1 := fun b s1 Q' q => by
      cases b
      · exact wpAny_pure q
      · exact wpAny_rule q
    refine wpAny_bind (say _ ?_)
    split
    · rw [hashByValue_scannable 8 sc]
      refine wpAny_bind (wpAny_pure (settle (ns := x :: ms) (fun b s1 Q' q => by cases b <;> first | exact wpAny_pure q | exact wpAny_rule q) ho hex hd (mk _ ?_ ?_ ?_) fun h' b r => wpAny_pure (fin h' b r)))
      · first | (split <;> first | exact q2 | exact SetTable.fits_plain_off q2) | exact q2
      · first | (split <;> exact q3) | exact q3
      · first | (split <;> rfl) | rfl
    · refine wpAny_bind (wpAny_pure ?_)
      rw [if_pos rfl]
      exact settle (ns := x :: ms) (fun b s1 Q' q => by cases b <;> first | exact wpAny_pure q | exact wpAny_rule q) ho hex hd (mk _ q2 q3 rfl) fun h' b r => wpAny_pure (fin h' b r)
end
end Hs

namespace Hs
open PySem PySem.Spec PyProof.Rows L2
theorem put_len (ms : List Str) (x : Str) : (put ms x).length ≤ ms.length + 1 := by
  unfold put
  split
  · omega
  · rw [List.length_cons]
    omega
theorem puts_len : ∀ (xs ms : List Str), (xs.foldl put ms).length ≤ ms.length + xs.length
  | [], ms => Nat.le_refl _
  | x :: xs, ms => by
    have h := puts_len xs (put ms x)
    have h2 := put_len ms x
    rw [List.foldl_cons, List.length_cons]
    omega
theorem put_mem (ms : List Str) (x y : Str) : y ∈ put ms x ↔ y ∈ ms ∨ y = x := by
  unfold put
  split
  · rename_i h
    exact ⟨.inl, fun z => z.elim id fun e => e ▸ h⟩
  · rw [List.mem_cons]
    exact Or.comm
theorem puts_mem : ∀ (xs ms : List Str) (y : Str), y ∈ xs.foldl put ms ↔ y ∈ ms ∨ y ∈ xs
  | [], ms, y => by simp
  | x :: xs, ms, y => by
    rw [List.foldl_cons, puts_mem xs, put_mem, List.mem_cons, or_assoc]
section
variable {P : Program} {w : World} {A : Around} {E : Value → Shared → Prop} {s : Shared}
theorem gather {I : Addr} {fp wr : List Addr} {G : Array GenState → Array GenState → Prop} {n : Nat} {Pv : Nat → Value → Prop} {St : Nat → Shared → Prop} {R : Result → Shared → Prop}
    (W : WalksS P w A.in1 I fp wr G n Pv St) (S : Addr) (out : S ∉ fp) (xs : List Str) (hn : n = xs.length) (room : xs.length + 1 < scanBound) (val : ∀ i v, Pv i v → ∃ x t, xs[i]? = some x ∧ v = .str x t) :
    ∀ (k i : Nat) (s : Shared), n - i = k → i ≤ n → St i s → SetT P w s.heap S ((xs.take i).foldl put []) →
      (∀ s', Moved (S :: wr) G s s' → SetT P w s'.heap S (xs.foldl put []) → R (.ok (.ret .none)) s') → codeAny (model P w) A (.builtin "set.update.loop" ⟨[.ref S, .ref I], []⟩) R s := by
  have apart : S ∉ wr := fun h => out (W.sub _ h)
  have more : ∀ b ∈ wr, b ∈ S :: wr := fun b hb => List.mem_cons_of_mem _ hb
  intro k
  induction k with
  | zero =>
    intro i s hk hi st hS hR
    obtain rfl : i = n := by omega
    rw [List.take_of_length_le (by omega)] at hS
    refine codeAny_builtin F.entry_set_update_loop ?_
    rw [Around.under_plainId F.plain_set_update_loop _]
    exact wpAny_bind (W.done s _ _ st fun s' hm => wpAny_pure (hR s' (hm.mono more) (hS.keep fun o e => hm.heap S o apart e)))
  | succ k ih =>
    intro i s hk hi st hS hR
    have lt : i < n := by omega
    refine codeAny_builtin F.entry_set_update_loop ?_
    rw [Around.under_plainId F.plain_set_update_loop _]
    refine wpAny_bind (W.item i s _ _ lt st fun v s1 hP st1 hm => ?_)
    obtain ⟨x, t, hx, rfl⟩ := val i v hP
    show wpAny _ A.in1 (holding [Value.str x t] (setAdd S (.str x t)) >>= _) _ _ s1
    refine wpAny_bind (wpAny_holding ?_)
    unfold setAdd
    refine wpAny_holding (wpAny_bind ((strKind P w).pyHash (k := x) (strKind_is _ _ _ _) ?_))
    have hl : ((xs.take i).foldl put []).length + 1 < scanBound := by
      have z := puts_len (xs.take i) []
      rw [List.length_take, List.length_nil] at z
      omega
    refine add_text (s := { s1 with toks := s1.toks + 1 }) (hS.keep fun o e => hm.heap S o apart e) hl fun h' b sb hS2 => ?_
    have same : (xs.take (i + 1)).foldl put [] = put ((xs.take i).foldl put []) x := by
      rw [List.take_add_one, hx, List.foldl_append]
      rfl
    rw [← same] at hS2
    have far : ∀ b, b ≠ S → ∀ o, s1.heap.get? b = some o → h'.get? b = some o := fun b hb o e => by
      rw [sb.2 b hb]
      exact e
    refine wpAny_pure ⟨plainId_quiet F.plain_set_update_loop _, ih (i + 1) _ (by omega) lt (W.frame _ s1 _ _ st1 (Nat.le_succ _) fun b hb o e => far b (fun z => out (z ▸ hb)) o e) hS2 fun s2 hm2 hS3 => ?_⟩
    exact hR s2 (Moved.trans W.gtrans ((hm.mono more).then_heap (Nat.le_succ _) fun b o hb e => far b (fun z => hb (z ▸ List.mem_cons_self)) o e) hm2) hS3
/-- the empty set that set(..) begins with -/
abbrev bare (w : World) : Obj := { cls := .type "set", dict := none, data := .set #[] 0 (.fresh 0 0 (!w.params.followText "set-order")) }
/-- set(l), l a list of texts -/
theorem set_of {l : Addr} {items : Array Value} {xs : List Str} {Q : Value → Shared → Prop} (hh : A.handled = none) (hl : s.heap.IsList l items) (hi : StrsAre items.toList xs) (room : xs.length + 1 < scanBound)
    (h : ∀ (h' : Heap) (tk : Nat), SetT P w h' s.heap.objs.size (xs.foldl put []) → (∀ b o, s.heap.get? b = some o → h'.get? b = some o) → Q (.ref s.heap.objs.size) { s with heap := h', toks := tk }) :
    wpAny (model P w) A (call (.type "set") [.ref l]) Q E s := by
  have hz : items.size = xs.length := by
    rw [← StrsAre.len_eq hi, Array.length_toList]
  obtain ⟨c, tl, hmro⟩ := F.called_set.mro
  have hmade := F.called_set.made
  have hsub := F.called_set.sub
  refine wpAny_call (codeAny_of_tree ?_)
  show wpAny _ _ (callAny (.type "set") _) _ _ _
  refine wpAny_pure ⟨Code.quiet_builtin _ (by decide +kernel), codeAny_builtin F.entry_type_call ?_⟩
  rw [Around.under_plain (weight_type_call_type "set" [.ref l] []) rfl]
  have h1 := F.called_set.notType
  have h2 := F.called_set.canCreate
  have hct := F.typeCall_set_1 (.ref l)
  repeat (any_goals (first | assumption | wp_step))
  refine codeAny_mono (code_set_led1 (P := P) (w := w) (A := A.in1) (.ref l) (E := E) (Q₁ := fun obj s1 => obj = .ref s.heap.objs.size ∧ s1 = { s with heap := s.heap.push (bare w) }) ⟨rfl, rfl⟩) fun r s1 hr => ?_
  cases r with
  | error e => exact hr
  | ok fl =>
    cases fl with
    | next => exact hr.elim
    | brk => exact hr.elim
    | cont => exact hr.elim
    | ret obj =>
      obtain ⟨rfl, rfl⟩ := hr
      have at0 : (s.heap.push (bare w)).get? s.heap.objs.size = some (bare w) := Heap.get?_push_size _ rfl
      have hT : Shared.TypeIs { s with heap := s.heap.push (bare w) } (.ref s.heap.objs.size) "set" := ⟨_, at0, rfl⟩
      have hli := F.called_set.init.lookup
      have hbi := F.called_set.init.bind (.ref s.heap.objs.size)
      repeat (any_goals (first | assumption | wp_step))
      refine codeAny_mono (codeAny_call_builtin (R := wants (fun r s2 => r = .none ∧ ∃ h' tk, s2 = { s with heap := h', toks := tk } ∧
        SetT P w h' s.heap.objs.size (xs.foldl put []) ∧ ∀ b o, s.heap.get? b = some o → h'.get? b = some o) E) F.called_set.init.plain F.entry_set_init (check_set_init_1 hT ?_)) fun r2 s2 hr2 => ?_
      · obtain ⟨ol, hol, hcl, nl, hdl⟩ := hl
        obtain ⟨ocls, odict, odata, oslots⟩ := ol
        simp only at hcl hdl
        subst hcl; subst hdl
        have at1 : (s.heap.push (bare w)).get? l = some { cls := .type "list", dict := odict, data := .seq items nl, slots := oslots } := Heap.get?_push_of_some _ hol
        have n1 := F.sub_list_set
        have n2 := F.sub_list_frozenset
        have n3 : (Value.type "list" == Value.type "dict") = false := by decide
        have l1 : (s.heap.push (bare w)).IsList l items := ⟨_, at1, rfl, nl, rfl⟩
        unfold Builtin.«set.__init__» noKeywords Builtin.Frozenset.updateFrom
        generalize hPI : pyIter = PI
        wp_walk
        subst hPI
        refine wpAny_pyIter_list l1 (wpAny_bind (wpAny_runValue ?_))
        have small : l < s.heap.objs.size := Heap.lt_size hol
        have sz : (s.heap.push (bare w)).objs.size = s.heap.objs.size + 1 := Heap.size_push ..
        have hh3 : A.in1.in1.in1.handled = none := by simp [hh]
        have ne1 : l ≠ (s.heap.push (bare w)).objs.size := by
          rw [sz]
          exact Nat.ne_of_lt (Nat.lt_succ_of_lt small)
        have ne2 : s.heap.objs.size ∉ [(s.heap.push (bare w)).objs.size, l] := fun z => by
          rcases List.mem_cons.mp z with z | z
          · rw [sz] at z
            exact absurd z (Nat.ne_of_lt (Nat.lt_succ_self _))
          · exact absurd (List.mem_singleton.mp z) (Nat.ne_of_gt small)
        refine gather ((Walks.list hh3 _ l ne1 items).toS) s.heap.objs.size ne2 xs hz room (fun i v hv => ?val) (items.size - 0) 0 _ (by omega) (Nat.zero_le _)
          ⟨⟨_, Heap.get?_push_size _ rfl, rfl, rfl⟩, l1.push _⟩ ?start ?fin
        case val =>
          obtain ⟨t, e⟩ := SS.strs_at hi i v (by rw [Array.getElem?_toList]; exact hv)
          have lt : i < xs.length := by
            rw [← hz]
            exact (Array.getElem?_eq_some_iff.mp hv).1
          refine ⟨xs[i], t, List.getElem?_eq_getElem lt, ?_⟩
          rw [e, List.getD_eq_getElem?_getD, List.getElem?_eq_getElem lt]
          rfl
        case start => exact fresh (Heap.get?_push_of_some _ at0)
        case fin =>
          intro s' hm hS'
          obtain ⟨h', g2, d', tk', os'⟩ := s'
          obtain rfl : g2 = s.gens := hm.gens
          obtain rfl : d' = s.drawn := hm.drawn
          obtain rfl : os' = s.os := hm.os
          refine wpAny_pure (wpAny_pure ⟨rfl, h', tk', rfl, hS', fun b o e => ?_⟩)
          have lt : b < s.heap.objs.size := Heap.lt_size e
          refine hm.heap b o (fun z => ?_) (Heap.get?_push_of_some _ (Heap.get?_push_of_some _ e))
          rcases List.mem_cons.mp z with z | z
          · exact absurd z (Nat.ne_of_lt lt)
          · have z2 := List.mem_singleton.mp z
            rw [sz] at z2
            exact absurd z2 (Nat.ne_of_lt (Nat.lt_succ_of_lt lt))
      · cases r2 with
        | error e => exact hr2
        | ok fl2 =>
          cases fl2 with
          | next => exact hr2.elim
          | brk => exact hr2.elim
          | cont => exact hr2.elim
          | ret r =>
            obtain ⟨rfl, h', tk, rfl, hS', hk'⟩ := hr2
            repeat (any_goals (first | assumption | wp_step))
            exact h _ _ hS' hk'
end
end Hs

namespace Hs
open PySem PySem.Spec PyProof.Rows L2
theorem strs_are : ∀ {us : List Value}, (∀ v ∈ us, ∃ x t, v = Value.str x t) → StrsAre us (us.map fun v => textOf (0, v))
  | [], _ => .nil
  | v :: us, h => by
    obtain ⟨x, t, rfl⟩ := h _ List.mem_cons_self
    exact .cons x t (strs_are fun u hu => h u (List.mem_cons_of_mem _ hu))
section
variable {P : Program} {w : World} {A : Around} {E : Value → Shared → Prop} {s : Shared} {a : Addr} {ms : List Str}
/-- sorted(s), s a set of texts -/
theorem sorted_of {Q : Value → Shared → Prop} (R : SetT P w s.heap a ms) (hh : A.handled = none)
    (hQ : ∀ s' p (out : Array Value) (c : Nat) (ys : List Str), (∀ b o, s.heap.get? b = some o → s'.heap.get? b = some o) → s'.gens = s.gens → s'.os = s.os → s.heap.objs.size ≤ p →
      s'.heap.get? p = some (seqObj "list" out c) → StrsAre out.toList ys → ys.Perm ms → sortedS ys = true → Q (.ref p) s') : wpAny (model P w) A (call (.builtin "sorted") [.ref a]) Q E s := by
  obtain ⟨o, es, ep, t, ho, hex, hd, T⟩ := R
  refine Calls.call_function_entry kind_sorted plain_sorted entry_sorted (args_sorted1 _) ?_
  unfold Builtin.«sorted»
  refine wpAny_bind (m := checkCount "sorted" 1 1 _) (wpAny_pure ?_)
  refine wpAny_bind (collect_set (A := A.in1) hh ⟨o, ho, hex.1, hd⟩ T.fits T.few T.ris T.led fun s1 vs k1 hz g1 o1 pm => ?_)
  have len : vs.length = es.size := by rw [pm.length_eq, List.length_map, Array.length_toList]
  have few : vs.length ≤ sizeLine := by
    rw [len]
    exact fits_of_scanBound T.few
  have hS : StrsAre vs (vs.map fun v => textOf (0, v)) := strs_are fun v hv => by
    obtain ⟨e, he, q⟩ := List.mem_map.mp (pm.mem_iff.mp hv)
    obtain ⟨x, tk, h1, _⟩ := T.texts e he
    exact ⟨x, tk, q.symm.trans h1⟩
  have pk : (vs.map fun v => textOf (0, v)).Perm ms := by
    have z := pm.map fun v => textOf (0, v)
    rw [List.map_map] at z
    exact z.trans T.perm
  refine wpAny_bind (wpAny_newList ?_ few)
  have at1 : (s1.heap.push (seqObj "list" vs.toArray 0)).get? s1.heap.objs.size = some (seqObj "list" vs.toArray 0) := Heap.get?_push_size _ rfl
  refine wpAny_bind (wpAny_holding (wpAny_call_entry slot_list_sort ⟨_, at1, rfl⟩ entry_list_sort
    (list_sort_treeKAny strKind_oneLt at1 hS.keysOf (fun v1 v2 rest e => keyKind_strs (by rw [← e]; exact hS)) few fun st' hp hs => ⟨_, rfl, ?_⟩) (args_list_sort _)))
  obtain ⟨ys, y1, y2, y3⟩ := sorted_out_str hS hp hs
  obtain ⟨c, hc⟩ := sortedHeap_at (vs := vs) (out := (arrOf st').map (·.2)) at1
  refine wpAny_pure ⟨_, rfl, hQ _ s1.heap.objs.size ((arrOf st').map (·.2)) c ys (fun b u e => ?_) g1 o1 hz hc y1 (y2.trans pk) y3⟩
  have q := k1 b u e
  have lt := Heap.lt_size q
  show (sortedHeap (s1.heap.push (seqObj "list" vs.toArray 0)) s1.heap.objs.size vs ((arrOf st').map (·.2))).get? b = some u
  rw [sortedHeap_old (Nat.ne_of_lt lt) (by rw [size_push']; exact Nat.lt_succ_of_lt lt)]
  exact Heap.get?_push_of_some _ q
end
/-! over the layer -/
def SetS (P : Program) (w : World) (a : Addr) (ms : List Str) : HO := .ext fun h => SetT P w h a ms
section
variable {X : Cx}
theorem setS_ok {P : Program} {w : World} {H : Hp} {h : Heap} {a : Addr} {ms : List Str} (R : SetT P w h a ms) : ObjOk P w H h a (SetS P w a ms) := by
  have ⟨o, _, _, _, ho, _⟩ := R
  exact ⟨R, ⟨o, ho⟩, fun h1 h2 p k => SetT.keep p k⟩
/-- set(xs), a list of texts -/
def rSetOf (X : Cx) : List V → Hp → VK → Prop := fun vs H Q => ∃ (l : Addr) (xs : List Str), vs = [.ref l] ∧ SqL X.K H l (xs.map V.str) ∧ xs.length ≤ 1000 ∧ ∀ p, H p = none → Q (.ref p) (upd H p (SetS X.prog X.w p (xs.foldl put [])))
theorem call_setOf (hc : X.calm = true) : CallR X (.type "set") (rSetOf X) := by
  intro pins s σ H vs us Q I r h
  obtain ⟨l, xs, rfl, hs, few, q⟩ := h
  obtain ⟨its, rv, hl, _⟩ := I.list hs
  rw [Vals.ref1 r]
  refine set_of (I.ok.hd hc) hl.isList (by simpa using rv.strs) (by unfold scanBound; omega) fun h' tk R k => ?_
  exact ⟨.ref _, upd H s.heap.objs.size (SetS X.prog X.w s.heap.objs.size (xs.foldl put [])), I.laid (t' := tk) k (Nat.le_refl _) (setS_ok R), rfl, q _ (I.hok.fresh (Nat.le_refl _))⟩
/-- sorted(s), s such a set -/
def rSortedOf (X : Cx) : List V → Hp → VK → Prop := fun vs H Q => ∃ (a : Addr) (ms : List Str), vs = [.ref a] ∧ H a = some (SetS X.prog X.w a ms) ∧ ms.length ≤ 1000 ∧ ∀ ys p, ys.Perm ms → sortedS ys = true → H p = none → Q (.ref p) (upd H p (.lst (ys.map V.str)))
theorem call_sortedOf (hc : X.calm = true) : CallR X (.builtin "sorted") (rSortedOf X) := by
  intro pins s σ H vs us Q I r h
  obtain ⟨a, ms, rfl, ha, few, q⟩ := h
  rw [Vals.ref1 r]
  refine sorted_of (show SetT X.prog X.w s.heap a ms from (I.hok a _ ha).1) (I.ok.hd hc) fun s' p out c ys k g o hp hg hi hm hs => ?_
  have hlen : (ys.map V.str).length ≤ sizeLine := by
    rw [List.length_map, hm.length_eq]
    exact Nat.le_trans few (by decide)
  have hn : H p = none := I.hok.fresh hp
  have J : Inv X pins σ (upd H p (.lst (ys.map V.str))) { s with heap := s'.heap, gens := s'.gens, drawn := s'.drawn, toks := s'.toks } :=
    I.call (ch := []) (Un.laid k hp hn) (I.hok.laid k hp ⟨hlen, out.toList, c, vals_of_strs hi, hg⟩) (by rw [g]; exact I.bare) (fun _ z => nomatch z)
  have e : s' = { s with heap := s'.heap, gens := s'.gens, drawn := s'.drawn, toks := s'.toks } := by
    cases s'
    cases s
    cases o
    rfl
  rw [e]
  exact ⟨.ref p, _, J, rfl, q ys p hm hs hn⟩
end
end Hs

namespace Wp
open PySem PySem.Spec PyProof.Rows L2 Hx
/-! two loops in a comprehension -/
section
variable {J J1 : It} {n n1 : Nat} {G G1 : Hp → Prop} {Y Y1 : Nat → Hp → V → Hp → Prop} {g g1 : TG} {tt tt1 : TT} {te : TE} {vs vs1 : List Nat} {σ : L2.St} {H1 : Hp} {D : Addr}
theorem outer_it (w : Walk J n G Y) {wi1 : TI} {Qd : Hp → Prop} (Pv : Nat → Hp → Prop) (h0 : Pv 0 (upd H1 D (.lst []))) (hG : ∀ i H, i ≤ n → Pv i H → G H)
    (hs : ∀ i x H H', i < n → Pv i H → Y i H x H' → g x (wipe σ vs) H' fun σ2 H2 => wipe σ2 vs = wipe σ vs ∧ tt σ2 H2 fun b H3 =>
      if b = true then wi1 σ2 H3 fun J1 H4 => ∃ W1 : Nat → Nat → Hp → Prop, (∃ m, W1 0 m H4) ∧ ∀ j k H, W1 j k H →
        (J1.stop j H ∧ Pv (i + 1) H) ∨ (J1.go j H ∧ ∃ Nx1 : Hp → Prop, (∀ H', Nx1 H' → ∃ k', k' < k ∧ W1 (j + 1) k' H') ∧ ∀ x H', J1.yld j H x H' → g1 x (wipe σ2 vs1) H' fun σ3 H5 => wipe σ3 vs1 = wipe σ2 vs1 ∧ tt1 σ3 H5 fun b H6 =>
          if b = true then te σ3 H6 fun y H7 => ∃ acc, H7 D = some (.lst acc) ∧ acc.length < sizeLine ∧ Nx1 (upd H7 D (.lst (acc ++ [y]))) else Nx1 H6)
      else Pv (i + 1) H3) (hd : ∀ H, Pv n H → Qd H) :
    ∃ W : Nat → Nat → Hp → Prop, (∃ m, W 0 m (upd H1 D (.lst []))) ∧ ∀ i m H, W i m H →
      (J.stop i H ∧ Qd H) ∨ (J.go i H ∧ ∃ Nx : Hp → Prop, (∀ H', Nx H' → ∃ m', m' < m ∧ W (i + 1) m' H') ∧ ∀ x H', J.yld i H x H' → g x (wipe σ vs) H' fun σ2 H2 => wipe σ2 vs = wipe σ vs ∧ tt σ2 H2 fun b H3 =>
        if b = true then wi1 σ2 H3 fun J1 H4 => ∃ W1 : Nat → Nat → Hp → Prop, (∃ m, W1 0 m H4) ∧ ∀ j k H, W1 j k H →
          (J1.stop j H ∧ Nx H) ∨ (J1.go j H ∧ ∃ Nx1 : Hp → Prop, (∀ H', Nx1 H' → ∃ k', k' < k ∧ W1 (j + 1) k' H') ∧ ∀ x H', J1.yld j H x H' → g1 x (wipe σ2 vs1) H' fun σ3 H5 => wipe σ3 vs1 = wipe σ2 vs1 ∧ tt1 σ3 H5 fun b H6 =>
            if b = true then te σ3 H6 fun y H7 => ∃ acc, H7 D = some (.lst acc) ∧ acc.length < sizeLine ∧ Nx1 (upd H7 D (.lst (acc ++ [y]))) else Nx1 H6)
        else Nx H3) := by
  refine ⟨fun i m H => m = n - i ∧ i ≤ n ∧ Pv i H, ⟨n, rfl, Nat.zero_le _, h0⟩, ?_⟩
  rintro i m H ⟨rfl, hi, p⟩
  by_cases lt : i < n
  · exact .inr ⟨w.goes i H lt (hG i H hi p), Pv (i + 1), fun H' p' => ⟨n - (i + 1), by omega, rfl, lt, p'⟩, fun x H' y => hs i x H H' lt p (w.yields i H x H' lt (hG i H hi p) y)⟩
  · obtain rfl : i = n := by omega
    exact .inl ⟨w.stops H (hG i H hi p), hd H p⟩
theorem inner_it (w : Walk J1 n1 G1 Y1) {H4 : Hp} {Nx : Hp → Prop} (Pv : Nat → Hp → Prop) (h0 : Pv 0 H4) (hG : ∀ i H, i ≤ n1 → Pv i H → G1 H)
    (hs : ∀ j x H H', j < n1 → Pv j H → Y1 j H x H' → g1 x (wipe σ vs1) H' fun σ3 H5 => wipe σ3 vs1 = wipe σ vs1 ∧ tt1 σ3 H5 fun b H6 =>
      if b = true then te σ3 H6 fun y H7 => ∃ acc, H7 D = some (.lst acc) ∧ acc.length < sizeLine ∧ Pv (j + 1) (upd H7 D (.lst (acc ++ [y]))) else Pv (j + 1) H6) (hd : ∀ H, Pv n1 H → Nx H) :
    ∃ W1 : Nat → Nat → Hp → Prop, (∃ m, W1 0 m H4) ∧ ∀ j k H, W1 j k H →
      (J1.stop j H ∧ Nx H) ∨ (J1.go j H ∧ ∃ Nx1 : Hp → Prop, (∀ H', Nx1 H' → ∃ k', k' < k ∧ W1 (j + 1) k' H') ∧ ∀ x H', J1.yld j H x H' → g1 x (wipe σ vs1) H' fun σ3 H5 => wipe σ3 vs1 = wipe σ vs1 ∧ tt1 σ3 H5 fun b H6 =>
        if b = true then te σ3 H6 fun y H7 => ∃ acc, H7 D = some (.lst acc) ∧ acc.length < sizeLine ∧ Nx1 (upd H7 D (.lst (acc ++ [y]))) else Nx1 H6) := by
  refine ⟨fun i m H => m = n1 - i ∧ i ≤ n1 ∧ Pv i H, ⟨n1, rfl, Nat.zero_le _, h0⟩, ?_⟩
  rintro i m H ⟨rfl, hi, p⟩
  by_cases lt : i < n1
  · exact .inr ⟨w.goes i H lt (hG i H hi p), Pv (i + 1), fun H' p' => ⟨n1 - (i + 1), by omega, rfl, lt, p'⟩, fun x H' y => hs i x H H' lt p (w.yields i H x H' lt (hG i H hi p) y)⟩
  · obtain rfl : i = n1 := by omega
    exact .inl ⟨w.stops H (hG i H hi p), hd H p⟩
end
/-- what is told of an expression -/
structure Told where
  at_ : Addr
  own : Addr
  kind : Str
  text : Str
  told : List V
  inner : List V
  labels : List Str
  size : Int
def Told.stands (CF : Addr) (cls : Addr → Prop) (H : Hp) (e : Told) : Prop := XpAt CF cls H e.at_ e.own e.kind e.text e.told e.inner e.labels e.size
def namesOf (kind : Str) (told : List V) (es : List Told) : List Str := if kind = "name" then told.filterMap fun | .str s => some s | _ => none else es.flatMap (·.labels)
def spFacts (CF : Addr) (cls : Addr → Prop) : Sp := fun vs H Q _ => ∃ (a dx : Addr) (kind : Str) (pt pi : Addr) (told : List V) (es : List Told) (text : Str), vs = [.ref a, .str kind, .ref pt, .ref pi] ∧ H a = some (.ins CF dx []) ∧
  H pt = some (.tup told) ∧ H pi = some (.tup (es.map fun e => .ref e.at_)) ∧ (∀ e ∈ es, e.stands CF cls H ∧ e.labels.length ≤ 40) ∧ es.length ≤ 10 ∧ Spells CF cls H kind told (es.map fun e => .ref e.at_) text ∧
  ∀ H' pl ls, But a H H' → H' a = some (.ins CF dx (factL kind pt pi text pl (1 + (es.map (·.size)).sum))) → H' pl = some (.tup (ls.map V.str)) → ls.Perm ((namesOf kind told es).foldl Hs.put []) → sortedS ls = true → Q .non H'
section
variable {P : Program} {w : World} {K : PySem.W.Frag} {mg : Str → Option Value} {base : Heap} {f fS CF : Addr} {fd fdS : FuncData} {cls : Addr → Prop}
theorem scFacts : FnScope ["self", "kind", "told", "inner", "names", "name", "knot"] ["self", "kind", "told", "inner"] (defScope s_Facts_init) := ⟨rfl, rfl, rfl, by decide +kernel, rfl, by decide +kernel, by decide +kernel⟩
theorem seq_join {te : TE} {i : Nat} {u : TS} {D : Ends} {σ : L2.St} {H : Hp} (R : V → Hp → Prop) (h : ∀ Q : VK, (∀ v H', R v H' → Q v H') → te σ H Q) (hq : ∀ v H', R v H' → u D (σ.set i (some v)) H') : tSeq (tAsg te (gName i)) u D σ H := h _ hq
theorem but_ne {a dx CF : Addr} {H : Hp} {c : Addr} {o : HO} (ha : H a = some (.ins CF dx [])) (e : H c = some o) (n : o ≠ .ins CF dx []) : c ≠ a := fun z => by
  rw [z, ha] at e
  exact n (Option.some.inj e).symm
theorem xp_but {a dx CF : Addr} {H H' : Hp} {x C : Addr} {kind text : Str} {told inner : List V} {labels : List Str} {size : Int} (ha : H a = some (.ins CF dx [])) (b : But a H H') (h : XpAt CF cls H x C kind text told inner labels size) : XpAt CF cls H' x C kind text told inner labels size := by
  obtain ⟨dx', fa, dfa, pm, pi, pl, h0, h1, h2, h3, h4, h5⟩ := h
  refine ⟨dx', fa, dfa, pm, pi, pl, h0, b _ _ (but_ne ha h1 ?_) h1, b _ _ (but_ne ha h2 ?_) h2, b _ _ (but_ne ha h3 ?_) h3, b _ _ (but_ne ha h4 ?_) h4, b _ _ (but_ne ha h5 ?_) h5⟩
  · intro z
    cases z
  · intro z
    have y := (HO.ins.inj z).2.2
    unfold factL at y
    cases y
  · intro z
    cases z
  · intro z
    cases z
  · intro z
    cases z
theorem tx_but {a dx CF : Addr} {H H' : Hp} {v : V} {y : Str} (ha : H a = some (.ins CF dx [])) (b : But a H H') (h : TxAt CF cls H v y) : TxAt CF cls H' v y := by
  cases h with
  | int i h => exact .int i h
  | str => exact .str y
  | exp h => exact .exp (xp_but ha b h)
theorem paired_imp {α β : Type} {R S : α → β → Prop} (f : ∀ x y, R x y → S x y) : ∀ {xs : List α} {ys : List β}, Paired R xs ys → Paired S xs ys
  | _, _, .nil => .nil
  | _, _, .cons r t => .cons (f _ _ r) (paired_imp f t)
theorem flat_len : ∀ es : List Told, (∀ e ∈ es, e.labels.length ≤ 40) → (es.flatMap (·.labels)).length ≤ es.length * 40
  | [], _ => Nat.zero_le _
  | e :: es, h => by
    have h1 := h e List.mem_cons_self
    have h2 := flat_len es fun x hx => h x (List.mem_cons_of_mem _ hx)
    rw [List.flatMap_cons, List.length_append, List.length_cons, Nat.succ_mul]
    omega
theorem spells_but {a dx CF : Addr} {H H' : Hp} {kind text : Str} {told inner : List V} (ha : H a = some (.ins CF dx [])) (b : But a H H') (sp : Spells CF cls H kind told inner text) : Spells CF cls H' kind told inner text := by
  rcases sp with h | h | ⟨n1, n2, kf, ys, h1, h2, h3, e⟩
  · exact .inl h
  · exact .inr (.inl h)
  · exact .inr (.inr ⟨n1, n2, kf, ys, paired_imp (fun _ _ => tx_but ha b) h1, h2, h3, e⟩)
theorem put0 {v1 : V} : putF "word" v1 [] = ([("word", v1)] : List (Str × V)) := rfl
theorem put1 {v1 v2 : V} : putF "marks" v2 ([("word", v1)] : List (Str × V)) = ([("word", v1), ("marks", v2)] : List (Str × V)) := by kernel_rfl
theorem put2 {v1 v2 v3 : V} : putF "parts" v3 ([("word", v1), ("marks", v2)] : List (Str × V)) = ([("word", v1), ("marks", v2), ("parts", v3)] : List (Str × V)) := by kernel_rfl
theorem put3 {v1 v2 v3 v4 : V} : putF "text" v4 ([("word", v1), ("marks", v2), ("parts", v3)] : List (Str × V)) = ([("word", v1), ("marks", v2), ("parts", v3), ("text", v4)] : List (Str × V)) := by kernel_rfl
theorem put4 {v1 v2 v3 v4 v5 : V} : putF "labels" v5 ([("word", v1), ("marks", v2), ("parts", v3), ("text", v4)] : List (Str × V)) = ([("word", v1), ("marks", v2), ("parts", v3), ("text", v4), ("labels", v5)] : List (Str × V)) := by kernel_rfl
theorem put5 {v1 v2 v3 v4 v5 v6 : V} : putF "size" v6 ([("word", v1), ("marks", v2), ("parts", v3), ("text", v4), ("labels", v5)] : List (Str × V)) = ([("word", v1), ("marks", v2), ("parts", v3), ("text", v4), ("labels", v5), ("size", v6)] : List (Str × V)) := by kernel_rfl
structure FactsC (K : PySem.W.Frag) (CF : Addr) : Prop where
  cls : Cls K CF
  no : ∀ f ∈ (["word", "marks", "parts", "text", "labels", "size"] : List Str), NoAttr K CF f
structure Bltn2 (mg : Str → Option Value) : Prop where
  list : mg "list" = none
  set : mg "set" = none
  sorted : mg "sorted" = none
  tuple : mg "tuple" = none
  sum : mg "sum" = none
theorem ok_facts (F : Fun K "__init__" "Facts.__init__" s_Facts_init f fd) (Z : Bltn2 mg) (T : Kls P w K mg base CF cls) (FC : FactsC K CF)
    (GS : FnOk P w K mg base CX0 4 fS fdS ["kind", "told", "inner"] (spSpelled CF cls)) (bS : Binds K fdS ["kind", "told", "inner"] []) (kS : PySem.W.keepIn K (.ref fS) = true) (mS : mg "spelled" = some (.ref fS)) :
    FnOk P w K mg base CX0 5 f fd ["self", "kind", "told", "inner"] (spFacts CF cls) := by
  refine F.ok scFacts (fun vs H Q E h => ?_) (fun cdv A outer s H vs Q E hr h => ?_)
  · obtain ⟨a, dx, kind, pt, pi, told, es, text, rfl, _⟩ := h
    rfl
  obtain ⟨a, dx, kind, pt, pi, told, es, text, rfl, ha, ht, hi, hes, few, sp, q⟩ := h
  refine ⟨_, pss_cons (ps_fld (pv 0) (pv 1) rfl) (pss_cons (ps_fld (pv 0) (pv 2) rfl) (pss_cons (ps_fld (pv 0) (pv 3) rfl)
    (pss_cons (ps_fld (pv 0) (pe_call GS hr rfl mS kS bS .nil pass0 (pa_cons (pv 1) (pa_cons (pv 2) (pa_cons (pv 3) pa_nil)))) rfl)
    (pss_cons (ps_set (i := 4) scFacts.nd rfl (Or.inl rfl) (pe_ifExp (pt_cmpR op_eq (pv 1) pe_str (nomark _)) (pe_callTy call_list_of (by rfl) Z.list (by decide +kernel) (pa_cons (pv 2) pa_nil))
        (pe_lc2 (te := tVar 5) (own := [("knot", 6), ("name", 5)]) (vs1 := [5]) (g := gName 6) (tt := tYes) (g1 := gName 5) (tt1 := tYes) (wi1 := iTup K (tPropA P w K mg base 1 "names" (tVar 6))) rfl scFacts.nd (pi_tup (pv 3)) (blkOk_by (N := ["self", "kind", "told", "inner", "names", "name", "knot"]) (sc := defScope s_Facts_init) (by decide +kernel)) (by decide)
          (fun _ _ _ _ _ => pg_name (i := 6) scFacts.nd rfl (Or.inl rfl)) (fun _ _ _ _ _ => pts_nil) (fun _ _ _ _ _ => pi_tup (pe_propA (k := 1) (pv 6) (hr.mono (by decide)) rfl)) (fun _ _ _ _ _ => pg_name (i := 5) scFacts.nd rfl (Or.inl rfl)) (fun _ _ _ _ _ => pts_nil) (fun _ _ _ _ _ => pv 5))))
    (pss_cons (ps_fld (pv 0) (pe_callTy call_tuple_of (by rfl) Z.tuple (by decide +kernel) (pa_cons (pe_callB (Hs.call_sortedOf rfl) (by rfl) Z.sorted (by decide +kernel) (pa_cons (pe_callTy (Hs.call_setOf rfl) (by rfl) Z.set (by decide +kernel) (pa_cons (pv 4) pa_nil)) pa_nil)) pa_nil)) rfl)
    (pss_one (ps_fld (pv 0) (pe_op op_add pe_int (pe_callB (cr_sum rfl) (by rfl) Z.sum (by decide +kernel) (pa_cons (pe_lc (te := tPropA P w K mg base 1 "knots" (tVar 6)) (own := [("knot", 6)]) (g := gName 6) (tt := tYes) rfl scFacts.nd (pi_tup (pv 3)) (blkOk_by (N := ["self", "kind", "told", "inner", "names", "name", "knot"]) (sc := defScope s_Facts_init) (by decide +kernel))
          (fun _ _ _ _ _ => pg_name (i := 6) scFacts.nd rfl (Or.inl rfl)) (fun _ _ _ _ _ => pts_nil) (fun _ _ _ _ _ => pe_propA (k := 1) (pv 6) (hr.mono (by decide)) rfl)) pa_nil))) rfl))))))), ?_⟩
  have npt : pt ≠ a := but_ne ha ht (by intro z; cases z)
  have npi : pi ≠ a := but_ne ha hi (by intro z; cases z)
  have no := FC.no
  refine ⟨_, rfl, _, rfl, a, CF, dx, [], rfl, ha, FC.cls, no "word" (by simp), (by show 0 < 1000; decide), ?_⟩
  rw [put0]
  have b1 : But a H (upd H a (.ins CF dx ([("word", V.str kind)] : List (Str × V)))) := But.refl.upd _
  refine ⟨_, rfl, _, rfl, a, CF, dx, [("word", V.str kind)], rfl, upd_same, FC.cls, no "marks" (by simp), (by show 1 < 1000; decide), ?_⟩
  rw [put1]
  have b2 := b1.upd (.ins CF dx ([("word", V.str kind), ("marks", .ref pt)] : List (Str × V)))
  refine ⟨_, rfl, _, rfl, a, CF, dx, _, rfl, upd_same, FC.cls, no "parts" (by simp), (by show 2 < 1000; decide), ?_⟩
  rw [put2]
  have b3 := b2.upd (.ins CF dx ([("word", V.str kind), ("marks", .ref pt), ("parts", .ref pi)] : List (Str × V)))
  obtain ⟨H3, e3, b3, h3a⟩ : ∃ H3, upd (upd (upd H a (.ins CF dx ([("word", V.str kind)] : List (Str × V)))) a (.ins CF dx ([("word", V.str kind), ("marks", .ref pt)] : List (Str × V)))) a (.ins CF dx ([("word", V.str kind), ("marks", .ref pt), ("parts", .ref pi)] : List (Str × V))) = H3 ∧ But a H H3 ∧
      H3 a = some (.ins CF dx ([("word", V.str kind), ("marks", .ref pt), ("parts", .ref pi)] : List (Str × V))) := ⟨_, rfl, b3, upd_same⟩
  rw [e3]
  refine ⟨_, rfl, _, rfl, _, rfl, kind, pt, pi, told, _, text, rfl, b3 pt _ npt ht, b3 pi _ npi hi, spells_but ha b3 sp, fun H4 s4 => ?_⟩
  refine ⟨_, rfl, a, CF, dx, _, rfl, s4 _ _ h3a, FC.cls, no "text" (by simp), (by show 3 < 1000; decide), ?_⟩
  rw [put3]
  obtain ⟨H5, e5, b5, h5a⟩ : ∃ H5, upd H4 a (.ins CF dx ([("word", V.str kind), ("marks", .ref pt), ("parts", .ref pi), ("text", .str text)] : List (Str × V))) = H5 ∧ But a H H5 ∧
      H5 a = some (.ins CF dx ([("word", V.str kind), ("marks", .ref pt), ("parts", .ref pi), ("text", .str text)] : List (Str × V))) := ⟨_, rfl, (b3.trans (But.of s4)).upd _, upd_same⟩
  rw [e5]
  have hpi5 := b5 pi _ npi hi
  dsimp only
  refine seq_join (fun v H' => ∃ D, v = .ref D ∧ Same H5 H' ∧ H' D = some (.lst ((namesOf kind told es).map V.str)) ∧ (namesOf kind told es).length ≤ 400) (fun Q' hQ => ?_) ?_
  · refine ⟨_, rfl, rfl, _, rfl, ?_⟩
    by_cases hk : kind = "name"
    · subst hk
      rw [decide_eq_true rfl]
      obtain ⟨s', rfl⟩ : ∃ s', told = [V.str s'] := by
        rcases sp with ⟨z, _⟩ | ⟨_, s', e, _⟩ | ⟨_, z, _⟩
        · exact absurd z (by decide +kernel)
        · exact ⟨s', e⟩
        · exact absurd rfl z
      exact iteT ⟨_, rfl, pt, _, rfl, .inr (SqT.of (b5 pt _ npt ht)), fun l hl => hQ _ _ ⟨l, rfl, same_new hl _, upd_same, by show 1 ≤ 400; decide⟩⟩
    · have en : namesOf kind told es = es.flatMap (·.labels) := by
        unfold namesOf
        rw [if_neg hk]
      have fl := flat_len es fun e he => (hes e he).2
      rw [str_ne hk]
      refine iteF ⟨_, rfl, pi, rfl, ⟨_, SqT.of hpi5⟩, fun D hD => ?_⟩
      refine outer_it walk_tup (fun i H' => Same H5 H' ∧ H' D = some (.lst (((es.take i).flatMap (·.labels)).map V.str))) ⟨same_new hD _, upd_same⟩ (fun i H' _ h => SqT.of (h.1 _ _ hpi5)) ?_ ?_
      · rintro i x H6 _ hi' ⟨s6, h6⟩ ⟨rfl, hx⟩
        rw [List.getElem?_map] at hx
        cases he : es[i]? with
        | none =>
          rw [he] at hx
          cases hx
        | some e =>
          rw [he] at hx
          cases hx
          have he2 := hes e (List.mem_of_getElem? he)
          obtain ⟨dx', fa, dfa, pm, pi', pl, hc, g1, g2, g3, g4, g5⟩ := xp_but ha b5 he2.1
          have ft := flat_len (es.take i) fun e he => (hes e (List.mem_of_mem_take he)).2
          have lt : (es.take i).length ≤ 10 := Nat.le_trans (by rw [List.length_take]; exact Nat.min_le_right _ _) few
          refine ⟨rfl, turn_yes ?_⟩
          refine ⟨_, rfl, e.at_, e.own, dx', _, spGet e.own CF "labels", rfl, s6 _ _ g1, T.get e.own hc "names" "labels" (by simp), e.at_, dx', fa, dfa, _, _, .ref pl, rfl, s6 _ _ g1, rfl, s6 _ _ g2, rfl, pl, rfl, ⟨_, SqT.of (s6 _ _ g5)⟩, ?_⟩
          refine inner_it walk_tup (fun j H' => Same H5 H' ∧ H' D = some (.lst ((((es.take i).flatMap (·.labels)) ++ e.labels.take j).map V.str))) ⟨s6, by rw [List.take_zero, List.append_nil]; exact h6⟩ (fun j H' _ h => SqT.of (h.1 _ _ g5)) ?_ ?_
          · rintro j y H7 _ hj ⟨s7, h7⟩ ⟨rfl, hy⟩
            rw [List.getElem?_map] at hy
            cases hl : e.labels[j]? with
            | none =>
              rw [hl] at hy
              cases hy
            | some l =>
              rw [hl] at hy
              cases hy
              refine ⟨rfl, turn_yes ⟨_, rfl, _, h7, ?_, fun b o hb => ?_, ?_⟩⟩
              · rw [List.length_map, List.length_append, List.length_take]
                exact Nat.lt_of_lt_of_le (by have := he2.2; omega : _ < 1000) (small_line (Nat.le_refl _))
              · rw [upd_ne (ne_of_none hb hD)]
                exact s7 b o hb
              · rw [upd_same, List.take_add_one, hl]
                simp
          · rintro H7 ⟨s7, h7⟩
            rw [List.length_map, List.take_of_length_le (Nat.le_refl _)] at h7
            refine ⟨s7, ?_⟩
            rw [List.take_add_one, he, List.flatMap_append, h7]
            simp
      · rintro H6 ⟨s6, h6⟩
        rw [List.length_map, List.take_of_length_le (Nat.le_refl _)] at h6
        exact hQ _ _ ⟨D, rfl, s6, by rw [en]; exact h6, by rw [en]; omega⟩
  rintro _ H6 ⟨D, rfl, s6, h6, nf⟩
  have ml := Hs.puts_len (namesOf kind told es) []
  refine ⟨_, rfl, D, namesOf kind told es, rfl, SqL.of h6, by omega, fun ps hps => ?_⟩
  refine ⟨ps, _, rfl, upd_same, by rw [List.length_nil] at ml; omega, fun ls p1 perm srt np1 => ?_⟩
  refine ⟨p1, _, rfl, .inl ⟨SqL.of upd_same, fun pl hpl => ?_⟩⟩
  have s7 := ((s6.trans (same_new hps (Hs.SetS P w ps ((namesOf kind told es).foldl Hs.put [])))).trans (same_new np1 (.lst (ls.map V.str)))).trans (same_new hpl (.tup (ls.map V.str)))
  refine ⟨_, rfl, a, CF, dx, _, rfl, s7 _ _ h5a, FC.cls, no "labels" (by simp), (by show 4 < 1000; decide), ?_⟩
  rw [put4]
  have b7 := (b5.trans (But.of s7)).upd (.ins CF dx ([("word", V.str kind), ("marks", .ref pt), ("parts", .ref pi), ("text", .str text), ("labels", .ref pl)] : List (Str × V)))
  have s67 := (s6.trans (same_new hps (Hs.SetS P w ps ((namesOf kind told es).foldl Hs.put [])))).trans (same_new np1 (.lst (ls.map V.str)))
  have apl : a ≠ pl := ne_of_none (s67 _ _ h5a) hpl
  refine ⟨_, rfl, pi, rfl, ⟨_, SqT.of (b7 pi _ npi hi)⟩, fun D2 hD2 => ?_⟩
  have d1 : a ≠ D2 := ne_of_none upd_same hD2
  have d2 : pl ≠ D2 := ne_of_none (o := .tup (ls.map V.str)) (by rw [upd_ne (Ne.symm apl)]; exact upd_same) hD2
  have d3 : ∀ b o, b ≠ a → H b = some o → b ≠ D2 := fun b o n hb => ne_of_none (b7 b o n hb) hD2
  refine lc_tup (K := K) (a := pi) (xs := es.map fun e => V.ref e.at_) (fun i H' => But a H H' ∧ H' a = some (.ins CF dx ([("word", V.str kind), ("marks", .ref pt), ("parts", .ref pi), ("text", .str text), ("labels", .ref pl)] : List (Str × V))) ∧ H' pl = some (.tup (ls.map V.str)) ∧ H' D2 = some (.lst (((es.take i).map (·.size)).map V.int)))
    ⟨fun b o n hb => by rw [upd_ne (d3 b o n hb)]; exact b7 b o n hb, by rw [upd_ne d1]; exact upd_same, by rw [upd_ne d2, upd_ne (Ne.symm apl)]; exact upd_same, upd_same⟩ (fun i H' _ h => SqT.of (h.1 pi _ npi hi)) ?_ ?_
  · rintro i x H8 hx ⟨c1, c2, c3, c4⟩
    rw [List.getElem?_map] at hx
    cases he : es[i]? with
    | none =>
      rw [he] at hx
      cases hx
    | some e =>
      rw [he] at hx
      cases hx
      have he2 := hes e (List.mem_of_getElem? he)
      obtain ⟨dx', fa, dfa, pm, pi', pl', hc, g1, g2, g3, g4, g5⟩ := xp_but ha c1 he2.1
      refine ⟨rfl, turn_yes ?_⟩
      refine ⟨_, rfl, e.at_, e.own, dx', _, spGet e.own CF "size", rfl, g1, T.get e.own hc "knots" "size" (by simp), e.at_, dx', fa, dfa, _, _, .int e.size, rfl, g1, rfl, g2, rfl, _, c4, ?_, ?_⟩
      · rw [List.length_map, List.length_map, List.length_take]
        exact Nat.lt_of_lt_of_le (by omega : _ < 1000) (small_line (Nat.le_refl _))
      · refine ⟨fun b o n hb => by rw [upd_ne (d3 b o n hb)]; exact c1 b o n hb, by rw [upd_ne d1]; exact c2, by rw [upd_ne d2]; exact c3, ?_⟩
        rw [upd_same, List.take_add_one, he]
        simp
  · rintro H8 ⟨c1, c2, c3, c4⟩
    rw [List.length_map, List.take_of_length_le (Nat.le_refl _)] at c4
    refine ⟨D2, es.map (·.size), rfl, SqL.of c4, _, _, rfl, rfl, _, rfl, a, CF, dx, _, rfl, c2, FC.cls, no "size" (by simp), (by show 5 < 1000; decide), ?_⟩
    rw [put5]
    exact q _ pl ls (c1.upd _) upd_same (by rw [upd_ne (Ne.symm apl)]; exact c3) perm srt
end
end Wp

namespace Wp
open PySem PySem.Spec PyProof.Rows L2 Hx
/-! an object that has just been made -/
theorem born {H : Hp} {x dx C : Addr} (hx : H x = none) (hdx : H dx = none) (ne : dx ≠ x) : Same H (upd (upd H dx (.own x)) x (.ins C dx [])) := fun b o hb => by
  rw [upd_ne (ne_of_none hb hx), upd_ne (ne_of_none hb hdx)]
  exact hb
theorem grown {H H' : Hp} {x dx C : Addr} (hx : H x = none) (hdx : H dx = none) (ne : dx ≠ x) (b : But x (upd (upd H dx (.own x)) x (.ins C dx [])) H') : Same H H' := fun c o hc =>
  b c o (ne_of_none hc hx) (born hx hdx ne c o hc)
theorem Told.same {CF : Addr} {cls : Addr → Prop} {H H' : Hp} {e : Told} (h : e.stands CF cls H) (s : Same H H') : e.stands CF cls H' := XpAt.same h s
/-- the promise of the __init__ of an expression without inner ones -/
def spLeaf (K : PySem.W.Frag) (CF : Addr) (cls : Addr → Prop) (g : Str → Bool) (Ce : Addr) (kind : Str) (mk : Str → Str) (lab : Str → List Str) : Sp := fun vs H Q E => ∃ (a dx C : Addr) (v : V), vs = [.ref a, v] ∧ cls C ∧ H a = some (.ins C dx []) ∧
  ((∃ x : Str, v = .str x ∧ x.length ≤ 1000 ∧ g x = true ∧ ∀ H', But a H H' → XpAt CF cls H' a C kind (mk x) [v] [] (lab x) 1 → Q .non H') ∨
    (((∃ x : Str, v = .str x ∧ x.length ≤ 1000 ∧ g x = false) ∨ NotStr K H v) ∧ Tells E Ce v H))
/-- what is known of the class Facts -/
structure FactsOk (P : Program) (w : World) (K : PySem.W.Frag) (mg : Str → Option Value) (base : Heap) (CF : Addr) (cls : Addr → Prop) : Prop where
  m : mg "Facts" = some (.ref CF)
  go : ∃ (fI : Addr) (fd : FuncData), Mk K CF fI ∧ FnOk P w K mg base CX0 5 fI fd ["self", "kind", "told", "inner"] (spFacts CF cls) ∧ Binds K fd ["self", "kind", "told", "inner"] []
/-- of a class of expressions, for its own stores -/
structure Own (K : PySem.W.Frag) (C : Addr) : Prop where
  cls : Cls K C
  no : NoAttr K C "facts"
section
variable {P : Program} {w : World} {K : PySem.W.Frag} {mg : Str → Option Value} {base : Heap} {f fC CF Ce : Addr} {fd fdC : FuncData} {cls : Addr → Prop}
theorem finish {H3 : Hp} {a dx C y dy pt pi pl : Addr} {kind text : Str} {told inner : List V} {ls : List Str} {size : Int} (hC : cls C) (ha : H3 a = some (.ins C dx [])) (h1 : H3 y = some (.ins CF dy (factL kind pt pi text pl size)))
    (hpt : H3 pt = some (.tup told)) (hpi : H3 pi = some (.tup inner)) (h2 : H3 pl = some (.tup (ls.map V.str))) :
    XpAt CF cls (upd H3 a (.ins C dx (putF "facts" (.ref y) []))) a C kind text told inner ls size ∧ ∀ H, Same H H3 → But a H (upd H3 a (.ins C dx (putF "facts" (.ref y) []))) := by
  refine ⟨⟨dx, y, dy, pt, pi, pl, hC, upd_same, ?_, ?_, ?_, ?_⟩, fun H s => (But.of s).upd _⟩
  · rw [upd_ne (but_ne ha h1 ?_)]
    · exact h1
    · intro z
      have y := (HO.ins.inj z).2.2
      unfold factL at y
      cases y
  · rw [upd_ne (but_ne ha hpt (by intro z; cases z))]
    exact hpt
  · rw [upd_ne (but_ne ha hpi (by intro z; cases z))]
    exact hpi
  · rw [upd_ne (but_ne ha h2 (by intro z; cases z))]
    exact h2
theorem scSign : FnScope ["self", "sign"] ["self", "sign"] (defScope s_Sign_init) := ⟨rfl, rfl, rfl, by decide +kernel, rfl, by decide +kernel, by decide +kernel⟩
theorem ok_sign (F : Fun K "__init__" "Sign.__init__" s_Sign_init f fd) (FO : FactsOk P w K mg base CF cls) (OW : ∀ C, cls C → Own K C)
    (GC : FnOk P w K mg base (L2.CX P w) 3 fC fdC ["given"] (spCheck K (lettered 1) Ce)) (bC : Binds K fdC ["given"] []) (kC : PySem.W.keepIn K (.ref fC) = true) (mC : mg "check_sign" = some (.ref fC)) :
    FnOk P w K mg base (L2.CX P w) 7 f fd ["self", "sign"] (spLeaf K CF cls (lettered 1) Ce "sign" (fun x => ((Str.empty ++ "'") ++ x) ++ "'") fun _ => []) := by
  refine F.okX scSign (fun vs H Q E h => ?_) (fun cdv A outer s H vs Q E hr h => ?_)
  · obtain ⟨a, dx, C, v, rfl, _⟩ := h
    rfl
  obtain ⟨a, dx, C, v, rfl, hC, ha, h⟩ := h
  obtain ⟨fI, fdI, M, GI, bI⟩ := FO.go
  have tk := takes_of (X := cxOf (L2.CX P w) P w K mg base ["self", "sign"] "Sign.__init__" (defScope s_Sign_init) f cdv A outer s H E) rfl rfl rfl rfl
  refine ⟨_, pss_cons (ps_expr (pe_callS GC (hr.mono (by decide)) rfl mC kC bC (fun σ => passAt tk σ) (pa_cons (pv 1) pa_nil)))
    (pss_one (ps_fld (pv 0) (pe_make M GI hr rfl FO.m bI .nil pass0 (pa_cons pe_str (pa_cons (pe_tup (pa_cons (pv 1) pa_nil)) (pa_cons (pe_tup pa_nil) pa_nil)))) rfl)), ?_⟩
  rcases h with ⟨x, rfl, few, e, q⟩ | ⟨bad, t⟩
  · refine ⟨_, rfl, _, rfl, .inl ⟨x, rfl, Nat.le_trans few (by decide), e, fun H1 s1 => ?_⟩⟩
    refine ⟨_, rfl, (by show 1 ≤ sizeLine; decide), fun pt hpt => ⟨(by show 0 ≤ sizeLine; decide), fun pi hpi => fun y dy hy hdy ne => ?_⟩⟩
    have s2 := (s1.trans (same_new hpt (.tup [V.str x]))).trans (same_new hpi (.tup []))
    have g := born (C := CF) hy hdy ne
    refine ⟨y, dy, "sign", pt, pi, [V.str x], [], _, rfl, upd_same, g _ _ (upd_other upd_same hpi), g _ _ upd_same, (fun e he => nomatch he), by decide, .inl ⟨rfl, x, rfl, few, rfl⟩, fun H3 pl ls b h1 h2 h3 h4 => ⟨rfl, ?_⟩⟩
    have s3 := grown hy hdy ne b
    have s4 := s2.trans s3
    refine ⟨_, rfl, a, C, dx, [], rfl, s4 _ _ ha, (OW C hC).cls, (OW C hC).no, (by show 0 < 1000; decide), ?_⟩
    obtain ⟨r1, r2⟩ := finish (a := a) hC (s4 _ _ ha) h1 (s3 _ _ (upd_other upd_same hpi)) (s3 _ _ upd_same) h2
    have en : ls = [] := by
      rw [show namesOf "sign" [V.str x] [] = [] from by unfold namesOf; rw [if_neg (by decide +kernel)]; rfl] at h3
      exact List.perm_nil.mp h3
    subst en
    exact q _ (r2 H s4) r1
  · refine ⟨_, rfl, _, rfl, .inr ⟨?_, t⟩⟩
    rcases bad with ⟨x, rfl, few, e⟩ | n
    · exact .inl ⟨x, rfl, Nat.le_trans few (by decide), e⟩
    · exact .inr n
end
end Wp

namespace Wp
open PySem PySem.Spec PyProof.Rows L2 Hx
def IsExp (K : PySem.W.Frag) (CE : Addr) (H : Hp) (v : V) : Prop := ∃ t, TyX K H v t ∧ PySem.W.kitOne K t (.ref CE) = some true
def NotExp (K : PySem.W.Frag) (CE : Addr) (H : Hp) (v : V) : Prop := ∃ t, TyX K H v t ∧ PySem.W.kitOne K t (.ref CE) = some false
def spCheckAll (K : PySem.W.Frag) (CE Ce : Addr) : Sp := fun vs H Q E => ∃ (p : Addr) (xs : List V), vs = [.ref p] ∧ H p = some (.tup xs) ∧ (((∀ x ∈ xs, IsExp K CE H x) ∧ Q .non H) ∨
  ∃ (j : Nat) (x : V), xs[j]? = some x ∧ (∀ (i : Nat) (y : V), i < j → xs[i]? = some y → IsExp K CE H y) ∧ NotExp K CE H x ∧ Tells E Ce x H)
section
variable {P : Program} {w : World} {K : PySem.W.Frag} {mg : Str → Option Value} {base : Heap} {f fC CF CE Ce : Addr} {fd fdC : FuncData} {cls : Addr → Prop}
theorem scName2 : FnScope ["self", "name"] ["self", "name"] (defScope s_Name_init) := ⟨rfl, rfl, rfl, by decide +kernel, rfl, by decide +kernel, by decide +kernel⟩
theorem ok_nameE (F : Fun K "__init__" "Name.__init__" s_Name_init f fd) (FO : FactsOk P w K mg base CF cls) (OW : ∀ C, cls C → Own K C)
    (GC : FnOk P w K mg base (L2.CX P w) 3 fC fdC ["given"] (spCheck K nameB Ce)) (bC : Binds K fdC ["given"] []) (kC : PySem.W.keepIn K (.ref fC) = true) (mC : mg "check_name" = some (.ref fC)) :
    FnOk P w K mg base (L2.CX P w) 7 f fd ["self", "name"] (spLeaf K CF cls nameB Ce "name" (fun x => x) fun x => [x]) := by
  refine F.okX scName2 (fun vs H Q E h => ?_) (fun cdv A outer s H vs Q E hr h => ?_)
  · obtain ⟨a, dx, C, v, rfl, _⟩ := h
    rfl
  obtain ⟨a, dx, C, v, rfl, hC, ha, h⟩ := h
  obtain ⟨fI, fdI, M, GI, bI⟩ := FO.go
  have tk := takes_of (X := cxOf (L2.CX P w) P w K mg base ["self", "name"] "Name.__init__" (defScope s_Name_init) f cdv A outer s H E) rfl rfl rfl rfl
  refine ⟨_, pss_cons (ps_expr (pe_callS GC (hr.mono (by decide)) rfl mC kC bC (fun σ => passAt tk σ) (pa_cons (pv 1) pa_nil)))
    (pss_one (ps_fld (pv 0) (pe_make M GI hr rfl FO.m bI .nil pass0 (pa_cons pe_str (pa_cons (pe_tup (pa_cons (pv 1) pa_nil)) (pa_cons (pe_tup pa_nil) pa_nil)))) rfl)), ?_⟩
  rcases h with ⟨x, rfl, few, e, q⟩ | ⟨bad, t⟩
  · refine ⟨_, rfl, _, rfl, .inl ⟨x, rfl, Nat.le_trans few (by decide), e, fun H1 s1 => ?_⟩⟩
    refine ⟨_, rfl, (by show 1 ≤ sizeLine; decide), fun pt hpt => ⟨(by show 0 ≤ sizeLine; decide), fun pi hpi => fun y dy hy hdy ne => ?_⟩⟩
    have s2 := (s1.trans (same_new hpt (.tup [V.str x]))).trans (same_new hpi (.tup []))
    have g := born (C := CF) hy hdy ne
    refine ⟨y, dy, "name", pt, pi, [V.str x], [], _, rfl, upd_same, g _ _ (upd_other upd_same hpi), g _ _ upd_same, (fun e he => nomatch he), by decide, .inr (.inl ⟨rfl, x, rfl, rfl⟩), fun H3 pl ls b h1 h2 h3 h4 => ⟨rfl, ?_⟩⟩
    have s3 := grown hy hdy ne b
    have s4 := s2.trans s3
    refine ⟨_, rfl, a, C, dx, [], rfl, s4 _ _ ha, (OW C hC).cls, (OW C hC).no, (by show 0 < 1000; decide), ?_⟩
    obtain ⟨r1, r2⟩ := finish (a := a) hC (s4 _ _ ha) h1 (s3 _ _ (upd_other upd_same hpi)) (s3 _ _ upd_same) h2
    have en : ls = [x] := by
      rw [show namesOf "name" [V.str x] [] = [x] from by unfold namesOf; rw [if_pos rfl]; rfl] at h3
      exact List.perm_singleton.mp h3
    subst en
    exact q _ (r2 H s4) r1
  · refine ⟨_, rfl, _, rfl, .inr ⟨?_, t⟩⟩
    rcases bad with ⟨x, rfl, few, e⟩ | n
    · exact .inl ⟨x, rfl, Nat.le_trans few (by decide), e⟩
    · exact .inr n
theorem scCkE : FnScope ["values", "value"] ["values"] (defScope s_check_expressions) := ⟨rfl, rfl, rfl, by decide +kernel, rfl, by decide +kernel, by decide +kernel⟩
theorem ok_ckE (F : Fun K "check_expressions" "check_expressions" s_check_expressions f fd) (Z : Bltn mg) (M : MkC P w K mg base "InvalidExpression" Ce "given") (ty : PySem.W.typeIn K (.ref Ce) = some (.type "type")) (mE : mg "Expression" = some (.ref CE)) :
    FnOk P w K mg base (L2.CX P w) 3 f fd ["values"] (spCheckAll K CE Ce) := by
  refine F.okX scCkE (fun vs H Q E h => ?_) (fun cdv A outer s H vs Q E hr h => ?_)
  · obtain ⟨p, xs, rfl, _⟩ := h
    rfl
  obtain ⟨p, xs, rfl, hp, h⟩ := h
  refine ⟨_, pss_one (ps_for (passes_of rfl) rfl (pi_tup (pv 0)) (pg_name (i := 1) scCkE.nd rfl (Or.inl rfl))
    (pss_one (ps_if (pt_not (pt_val (pe_callB call_isi (by rfl) Z.isinstance PyProof.Rows.boot_isinstance (pa_cons (pv 1) (pa_cons (pe_gref rfl mE) pa_nil))))) (pss_one (ps_raise1 M ty rfl (takes_of rfl rfl rfl rfl) hr rfl (pv 1))) pss_nil))), ?_⟩
  have hS : SqT K H p xs := SqT.of hp
  rcases h with ⟨all, q⟩ | ⟨j, x, hj, bef, bad, t⟩
  · refine ⟨_, rfl, p, rfl, ⟨_, hS⟩, for_tup (xs := xs) (fun i σ H' => H = H' ∧ ∃ v, σ = [some (V.ref p), v]) ⟨rfl, none, rfl⟩ (fun i σ H' _ h => h.1 ▸ hS) ?_ ?_⟩
    · rintro i x σ H' hx ⟨rfl, v, rfl⟩
      obtain ⟨ty', t1, t2⟩ := all x (List.mem_of_getElem? hx)
      exact ⟨_, rfl, _, _, ty', _, true, rfl, .own CE, t1, t2, _, rfl, iteF ⟨rfl, _, rfl⟩⟩
    · rintro σ H' ⟨rfl, v, rfl⟩
      exact q
  · obtain ⟨tb, b1, b2⟩ := bad
    refine ⟨_, rfl, p, rfl, ⟨_, hS⟩, for_tup (xs := xs) (fun i σ H' => H = H' ∧ i ≤ j ∧ ∃ v, σ = [some (V.ref p), v]) ⟨rfl, Nat.zero_le _, none, rfl⟩ (fun i σ H' _ h => h.1 ▸ hS) ?_ ?_⟩
    · rintro i y σ H' hy ⟨rfl, hi, v, rfl⟩
      by_cases c : i = j
      · subst c
        rw [hj] at hy
        cases hy
        exact ⟨_, rfl, _, _, tb, _, false, rfl, .own CE, b1, b2, _, rfl, iteT ⟨_, rfl, fun d hd => t H d (Same.refl H) hd⟩⟩
      · obtain ⟨ty', t1, t2⟩ := bef i y (by omega) hy
        exact ⟨_, rfl, _, _, ty', _, true, rfl, .own CE, t1, t2, _, rfl, iteF ⟨rfl, by omega, _, rfl⟩⟩
    · rintro σ H' ⟨_, hi, _⟩
      have lt := (List.getElem?_eq_some_iff.mp hj).1
      exact absurd lt (by omega)
end
end Wp

namespace Wp
open PySem PySem.Spec PyProof.Rows L2 Hx
/-- the text of an expression of a word -/
def spell (kind : Str) (ys : List Str) : Str := (((Str.empty ++ kind) ++ "(") ++ Str.join ", " ys) ++ ")"
/-- an inner expression that may be passed -/
structure Arg (CF : Addr) (cls : Addr → Prop) (H : Hp) (e : Told) : Prop where
  stands : e.stands CF cls H
  few : e.labels.length ≤ 40
  short : e.text.length ≤ 20000
theorem Arg.same {CF : Addr} {cls : Addr → Prop} {H H' : Hp} {e : Told} (h : Arg CF cls H e) (s : Same H H') : Arg CF cls H' e := ⟨XpAt.same h.stands s, h.few, h.short⟩
/-- a new expression of inner ones stands at a -/
def Made (CF : Addr) (cls : Addr → Prop) (H : Hp) (a C : Addr) (kind text : Str) (told : List V) (es : List Told) (Q : VK) : Prop :=
  ∀ H' ls, But a H H' → XpAt CF cls H' a C kind text told (es.map fun e => .ref e.at_) ls (1 + (es.map (·.size)).sum) → ls.Perm ((namesOf kind told es).foldl Hs.put []) → sortedS ls = true → Q .non H'
def IsX (K : PySem.W.Frag) (CE : Addr) (cls : Addr → Prop) : Prop := ∀ (H : Hp) (C a dx : Addr) (fs : List (Str × V)), cls C → H a = some (.ins C dx fs) → IsExp K CE H (.ref a)
theorem Arg.isx {K : PySem.W.Frag} {CE CF : Addr} {cls : Addr → Prop} {H : Hp} {e : Told} (h : Arg CF cls H e) (ix : IsX K CE cls) : IsExp K CE H (.ref e.at_) := by
  obtain ⟨dx, fa, dfa, pm, pi, pl, hc, e1, _⟩ := h.stands
  exact ix H _ _ dx _ hc e1
theorem IsExp.same {K : PySem.W.Frag} {CE CF : Addr} {cls : Addr → Prop} {H H' : Hp} {e : Told} (h : Arg CF cls H e) (ix : IsX K CE cls) (s : Same H H') : IsExp K CE H' (.ref e.at_) := (h.same s).isx ix
theorem TyX.same {K : PySem.W.Frag} {H H' : Hp} {v : V} {t : Value} (h : TyX K H v t) (s : Same H H') : TyX K H' v t := by
  cases h with
  | base h =>
    refine .base ?_
    cases h with
    | non => exact .non
    | bl x => exact .bl x
    | int i => exact .int i
    | str x => exact .str x
    | flt x => exact .flt x
    | lst e => exact .lst (s _ _ e)
    | frz e => exact .frz (s _ _ e)
    | tup e => exact .tup (s _ _ e)
    | dK e => exact .dK (s _ _ e)
    | dT e => exact .dT (s _ _ e)
    | ins e c1 c2 c3 c4 c5 => exact .ins (s _ _ e) c1 c2 c3 c4 c5
  | byt b => exact .byt b
  | set e => exact .set (s _ _ e)
  | kList e c => exact .kList e c
  | kTuple e c => exact .kTuple e c
  | kDict e c => exact .kDict e c
  | fTuple e => exact .fTuple (s _ _ e)
  | fDict e => exact .fDict (s _ _ e)
theorem NotExp.same {K : PySem.W.Frag} {CE : Addr} {H H' : Hp} {v : V} (h : NotExp K CE H v) (s : Same H H') : NotExp K CE H' v := by
  obtain ⟨t, h1, h2⟩ := h
  exact ⟨t, TyX.same h1 s, h2⟩
theorem Tells.same {E : XK} {C : Addr} {v : V} {H H' : Hp} (t : Tells E C v H) (s : Same H H') : Tells E C v H' := fun H2 d s2 hd => t H2 d (s.trans s2) hd
theorem fig_len {i : Int} (h0 : 0 ≤ i) (h1 : i ≤ 9) : (toString i : Str).length ≤ 10 := by
  have : i = 0 ∨ i = 1 ∨ i = 2 ∨ i = 3 ∨ i = 4 ∨ i = 5 ∨ i = 6 ∨ i = 7 ∨ i = 8 ∨ i = 9 := by omega
  rcases this with rfl | rfl | rfl | rfl | rfl | rfl | rfl | rfl | rfl | rfl <;> decide +kernel
/-- Turn(word, inner) -/
def spTurn (K : PySem.W.Frag) (CF CE Cw Ce : Addr) (cls : Addr → Prop) : Sp := fun vs H Q E => ∃ (a dx C : Addr) (v u : V), vs = [.ref a, v, u] ∧ cls C ∧ H a = some (.ins C dx []) ∧
  ((∃ (x : Str) (e : Told), v = .str x ∧ x.length ≤ 1000 ∧ lettered 4 x = true ∧ u = .ref e.at_ ∧ Arg CF cls H e ∧ Made CF cls H a C "turn" (spell "turn" [x, e.text]) [v] [e] Q) ∨
    (((∃ x : Str, v = .str x ∧ x.length ≤ 1000 ∧ lettered 4 x = false) ∨ NotStr K H v) ∧ Tells E Cw v H) ∨
    ((∃ x : Str, v = .str x ∧ x.length ≤ 1000 ∧ lettered 4 x = true) ∧ NotExp K CE H u ∧ Tells E Ce u H))
section
variable {P : Program} {w : World} {K : PySem.W.Frag} {mg : Str → Option Value} {base : Heap} {f fC fX CF CE Ce Cw : Addr} {fd fdC fdX : FuncData} {cls : Addr → Prop}
theorem scTurn : FnScope ["self", "word", "inner"] ["self", "word", "inner"] (defScope s_Turn_init) := ⟨rfl, rfl, rfl, by decide +kernel, rfl, by decide +kernel, by decide +kernel⟩
theorem ok_turn (F : Fun K "__init__" "Turn.__init__" s_Turn_init f fd) (FO : FactsOk P w K mg base CF cls) (OW : ∀ C, cls C → Own K C) (ix : IsX K CE cls)
    (GC : FnOk P w K mg base (L2.CX P w) 3 fC fdC ["given"] (spCheck K (lettered 4) Cw)) (bC : Binds K fdC ["given"] []) (kC : PySem.W.keepIn K (.ref fC) = true) (mC : mg "check_word" = some (.ref fC))
    (GX : FnOk P w K mg base (L2.CX P w) 3 fX fdX ["values"] (spCheckAll K CE Ce)) (bX : Binds K fdX ["values"] []) (kX : PySem.W.keepIn K (.ref fX) = true) (mX : mg "check_expressions" = some (.ref fX)) :
    FnOk P w K mg base (L2.CX P w) 7 f fd ["self", "word", "inner"] (spTurn K CF CE Cw Ce cls) := by
  refine F.okX scTurn (fun vs H Q E h => ?_) (fun cdv A outer s H vs Q E hr h => ?_)
  · obtain ⟨a, dx, C, v, u, rfl, _⟩ := h
    rfl
  obtain ⟨a, dx, C, v, u, rfl, hC, ha, h⟩ := h
  obtain ⟨fI, fdI, M, GI, bI⟩ := FO.go
  have tk := takes_of (X := cxOf (L2.CX P w) P w K mg base ["self", "word", "inner"] "Turn.__init__" (defScope s_Turn_init) f cdv A outer s H E) rfl rfl rfl rfl
  refine ⟨_, pss_cons (ps_expr (pe_callS GC (hr.mono (by decide)) rfl mC kC bC (fun σ => passAt tk σ) (pa_cons (pv 1) pa_nil)))
    (pss_cons (ps_expr (pe_callS GX (hr.mono (by decide)) rfl mX kX bX (fun σ => passAt tk σ) (pa_cons (pe_tup (pa_cons (pv 2) pa_nil)) pa_nil)))
    (pss_one (ps_fld (pv 0) (pe_make M GI hr rfl FO.m bI .nil pass0 (pa_cons pe_str (pa_cons (pe_tup (pa_cons (pv 1) pa_nil)) (pa_cons (pe_tup (pa_cons (pv 2) pa_nil)) pa_nil)))) rfl))), ?_⟩
  rcases h with ⟨x, e, rfl, few, ex, rfl, ar, q⟩ | ⟨bad, t⟩ | ⟨⟨x, rfl, few, ex⟩, ne, t⟩
  · refine ⟨_, rfl, _, rfl, .inl ⟨x, rfl, Nat.le_trans few (by decide), ex, fun H1 s1 => ?_⟩⟩
    refine ⟨_, rfl, (by show 1 ≤ sizeLine; decide), fun pq hpq => ⟨pq, [.ref e.at_], rfl, upd_same, .inl ⟨fun y hy => ?_, ?_⟩⟩⟩
    · cases List.mem_singleton.mp hy
      exact IsExp.same ar ix (s1.trans (same_new hpq _))
    have s1' := s1.trans (same_new hpq (.tup [V.ref e.at_]))
    refine ⟨_, rfl, (by show 1 ≤ sizeLine; decide), fun pt hpt => ⟨_, rfl, (by show 1 ≤ sizeLine; decide), fun pi hpi => fun y dy hy hdy ne => ?_⟩⟩
    have s2 := (s1'.trans (same_new hpt (.tup [V.str x]))).trans (same_new hpi (.tup [V.ref e.at_]))
    have g := born (C := CF) hy hdy ne
    have ar2 := ar.same (s2.trans g)
    refine ⟨y, dy, "turn", pt, pi, [V.str x], [e], spell "turn" [x, e.text], rfl, upd_same, g _ _ (upd_other upd_same hpi), g _ _ upd_same, (fun e' he => ?_), (by show 1 ≤ 10; decide), .inr (.inr ⟨by decide +kernel, by decide +kernel, by decide +kernel, [x, e.text], ?_, (by show 2 ≤ 100; decide), ?_, rfl⟩), fun H3 pl ls b h1 h2 h3 h4 => ⟨rfl, ?_⟩⟩
    · cases List.mem_singleton.mp he
      exact ⟨ar2.stands, ar2.few⟩
    · exact .cons (.str x) (.cons (.exp ar2.stands) .nil)
    · have := ar.short
      simp only [List.map_cons, List.map_nil, List.sum_cons, List.sum_nil]
      omega
    have s3 := grown hy hdy ne b
    have s4 := s2.trans s3
    refine ⟨_, rfl, a, C, dx, [], rfl, s4 _ _ ha, (OW C hC).cls, (OW C hC).no, (by show 0 < 1000; decide), ?_⟩
    obtain ⟨r1, r2⟩ := finish (a := a) hC (s4 _ _ ha) h1 (s3 _ _ (upd_other upd_same hpi)) (s3 _ _ upd_same) h2
    exact q _ ls (r2 H s4) r1 h3 h4
  · refine ⟨_, rfl, _, rfl, .inr ⟨?_, t⟩⟩
    rcases bad with ⟨x, rfl, few, e⟩ | n
    · exact .inl ⟨x, rfl, Nat.le_trans few (by decide), e⟩
    · exact .inr n
  · refine ⟨_, rfl, _, rfl, .inl ⟨x, rfl, Nat.le_trans few (by decide), ex, fun H1 s1 => ?_⟩⟩
    refine ⟨_, rfl, (by show 1 ≤ sizeLine; decide), fun pq hpq => ⟨pq, [u], rfl, upd_same, .inr ⟨0, u, rfl, fun i y hi => by omega, ?_, ?_⟩⟩⟩
    · exact NotExp.same ne (s1.trans (same_new hpq _))
    · exact Tells.same t (s1.trans (same_new hpq _))
/-- Drop(many, inner) -/
theorem scDrop : FnScope ["self", "many", "inner"] ["self", "many", "inner"] (defScope s_Drop_init) := ⟨rfl, rfl, rfl, by decide +kernel, rfl, by decide +kernel, by decide +kernel⟩
def spDrop (K : PySem.W.Frag) (CF CE Cn Ce : Addr) (cls : Addr → Prop) : Sp := fun vs H Q E => ∃ (a dx C : Addr) (v u : V), vs = [.ref a, v, u] ∧ cls C ∧ H a = some (.ins C dx []) ∧
  ((∃ (i : Int) (e : Told), v = .int i ∧ 1 ≤ i ∧ i ≤ 9 ∧ u = .ref e.at_ ∧ Arg CF cls H e ∧ Made CF cls H a C "drop" (spell "drop" [toString i, e.text]) [v] [e] Q) ∨
    (((∃ i : Int, v = .int i ∧ ¬ (1 ≤ i ∧ i ≤ 9)) ∨ NotInt K H v) ∧ Tells E Cn v H) ∨
    ((∃ i : Int, v = .int i ∧ 1 ≤ i ∧ i ≤ 9) ∧ NotExp K CE H u ∧ Tells E Ce u H))
theorem ok_drop (F : Fun K "__init__" "Drop.__init__" s_Drop_init f fd) (FO : FactsOk P w K mg base CF cls) (OW : ∀ C, cls C → Own K C) (ix : IsX K CE cls) (CO : Consts mg K)
    (GC : FnOk P w K mg base (L2.CX P w) 3 fC fdC ["given", "least", "most"] (spCheckWithin K Cw)) (bC : Binds K fdC ["given", "least", "most"] []) (kC : PySem.W.keepIn K (.ref fC) = true) (mC : mg "check_within" = some (.ref fC))
    (GX : FnOk P w K mg base (L2.CX P w) 3 fX fdX ["values"] (spCheckAll K CE Ce)) (bX : Binds K fdX ["values"] []) (kX : PySem.W.keepIn K (.ref fX) = true) (mX : mg "check_expressions" = some (.ref fX)) :
    FnOk P w K mg base (L2.CX P w) 7 f fd ["self", "many", "inner"] (spDrop K CF CE Cw Ce cls) := by
  refine F.okX scDrop (fun vs H Q E h => ?_) (fun cdv A outer s H vs Q E hr h => ?_)
  · obtain ⟨a, dx, C, v, u, rfl, _⟩ := h
    rfl
  obtain ⟨a, dx, C, v, u, rfl, hC, ha, h⟩ := h
  obtain ⟨fI, fdI, M, GI, bI⟩ := FO.go
  obtain ⟨td, md⟩ := CO.drop
  have tk := takes_of (X := cxOf (L2.CX P w) P w K mg base ["self", "many", "inner"] "Drop.__init__" (defScope s_Drop_init) f cdv A outer s H E) rfl rfl rfl rfl
  refine ⟨_, pss_cons (ps_expr (pe_callS GC (hr.mono (by decide)) rfl mC kC bC (fun σ => passAt tk σ) (pa_cons (pv 1) (pa_cons pe_int (pa_cons (pe_gint rfl md) pa_nil)))))
    (pss_cons (ps_expr (pe_callS GX (hr.mono (by decide)) rfl mX kX bX (fun σ => passAt tk σ) (pa_cons (pe_tup (pa_cons (pv 2) pa_nil)) pa_nil)))
    (pss_one (ps_fld (pv 0) (pe_make M GI hr rfl FO.m bI .nil pass0 (pa_cons pe_str (pa_cons (pe_tup (pa_cons (pv 1) pa_nil)) (pa_cons (pe_tup (pa_cons (pv 2) pa_nil)) pa_nil)))) rfl))), ?_⟩
  rcases h with ⟨i, e, rfl, i1, i9, rfl, ar, q⟩ | ⟨bad, t⟩ | ⟨⟨i, rfl, i1, i9⟩, ne, t⟩
  · refine ⟨_, rfl, _, 1, 9, rfl, .inl ⟨i, rfl, i1, i9, ?_⟩⟩
    refine ⟨_, rfl, (by show 1 ≤ sizeLine; decide), fun pq hpq => ⟨pq, [.ref e.at_], rfl, upd_same, .inl ⟨fun y hy => ?_, ?_⟩⟩⟩
    · cases List.mem_singleton.mp hy
      exact IsExp.same ar ix (same_new hpq _)
    have s1' := same_new hpq (.tup [V.ref e.at_])
    refine ⟨_, rfl, (by show 1 ≤ sizeLine; decide), fun pt hpt => ⟨_, rfl, (by show 1 ≤ sizeLine; decide), fun pi hpi => fun y dy hy hdy ne => ?_⟩⟩
    have s2 := (s1'.trans (same_new hpt (.tup [V.int i]))).trans (same_new hpi (.tup [V.ref e.at_]))
    have g := born (C := CF) hy hdy ne
    have ar2 := ar.same (s2.trans g)
    have il : (toString i : Str).length ≤ 10 := fig_len (by omega) (by omega)
    refine ⟨y, dy, "drop", pt, pi, [V.int i], [e], spell "drop" [toString i, e.text], rfl, upd_same, g _ _ (upd_other upd_same hpi), g _ _ upd_same, (fun e' he => ?_), (by show 1 ≤ 10; decide), .inr (.inr ⟨by decide +kernel, by decide +kernel, by decide +kernel, [toString i, e.text], ?_, (by show 2 ≤ 100; decide), ?_, rfl⟩), fun H3 pl ls b h1 h2 h3 h4 => ⟨rfl, ?_⟩⟩
    · cases List.mem_singleton.mp he
      exact ⟨ar2.stands, ar2.few⟩
    · exact .cons (.int i ⟨by omega, by omega⟩) (.cons (.exp ar2.stands) .nil)
    · have := ar.short
      simp only [List.map_cons, List.map_nil, List.sum_cons, List.sum_nil]
      omega
    have s3 := grown hy hdy ne b
    have s4 := s2.trans s3
    refine ⟨_, rfl, a, C, dx, [], rfl, s4 _ _ ha, (OW C hC).cls, (OW C hC).no, (by show 0 < 1000; decide), ?_⟩
    obtain ⟨r1, r2⟩ := finish (a := a) hC (s4 _ _ ha) h1 (s3 _ _ (upd_other upd_same hpi)) (s3 _ _ upd_same) h2
    exact q _ ls (r2 H s4) r1 h3 h4
  · exact ⟨_, rfl, _, 1, 9, rfl, .inr ⟨bad, t⟩⟩
  · refine ⟨_, rfl, _, 1, 9, rfl, .inl ⟨i, rfl, i1, i9, ?_⟩⟩
    refine ⟨_, rfl, (by show 1 ≤ sizeLine; decide), fun pq hpq => ⟨pq, [u], rfl, upd_same, .inr ⟨0, u, rfl, fun i y hi => by omega, ?_, ?_⟩⟩⟩
    · exact NotExp.same ne (same_new hpq _)
    · exact Tells.same t (same_new hpq _)
/-- Lead(first, rest) -/
theorem scLead : FnScope ["self", "first", "rest"] ["self", "first", "rest"] (defScope s_Lead_init) := ⟨rfl, rfl, rfl, by decide +kernel, rfl, by decide +kernel, by decide +kernel⟩
def spLead (K : PySem.W.Frag) (CF CE Ce : Addr) (cls : Addr → Prop) : Sp := fun vs H Q E => ∃ (a dx C : Addr) (v u : V), vs = [.ref a, v, u] ∧ cls C ∧ H a = some (.ins C dx []) ∧
  ((∃ (e e2 : Told), v = .ref e.at_ ∧ u = .ref e2.at_ ∧ Arg CF cls H e ∧ Arg CF cls H e2 ∧ Made CF cls H a C "lead" (spell "lead" [e.text, e2.text]) [] [e, e2] Q) ∨
    (NotExp K CE H v ∧ Tells E Ce v H) ∨ (IsExp K CE H v ∧ NotExp K CE H u ∧ Tells E Ce u H))
theorem IsExp.keep {H H' : Hp} {v : V} (h : IsExp K CE H v) (s : Same H H') : IsExp K CE H' v := by
  obtain ⟨t, h1, h2⟩ := h
  exact ⟨t, TyX.same h1 s, h2⟩
theorem ok_lead (F : Fun K "__init__" "Lead.__init__" s_Lead_init f fd) (FO : FactsOk P w K mg base CF cls) (OW : ∀ C, cls C → Own K C) (ix : IsX K CE cls)
    (GX : FnOk P w K mg base (L2.CX P w) 3 fX fdX ["values"] (spCheckAll K CE Ce)) (bX : Binds K fdX ["values"] []) (kX : PySem.W.keepIn K (.ref fX) = true) (mX : mg "check_expressions" = some (.ref fX)) :
    FnOk P w K mg base (L2.CX P w) 7 f fd ["self", "first", "rest"] (spLead K CF CE Ce cls) := by
  refine F.okX scLead (fun vs H Q E h => ?_) (fun cdv A outer s H vs Q E hr h => ?_)
  · obtain ⟨a, dx, C, v, u, rfl, _⟩ := h
    rfl
  obtain ⟨a, dx, C, v, u, rfl, hC, ha, h⟩ := h
  obtain ⟨fI, fdI, M, GI, bI⟩ := FO.go
  have tk := takes_of (X := cxOf (L2.CX P w) P w K mg base ["self", "first", "rest"] "Lead.__init__" (defScope s_Lead_init) f cdv A outer s H E) rfl rfl rfl rfl
  refine ⟨_, pss_cons (ps_expr (pe_callS GX (hr.mono (by decide)) rfl mX kX bX (fun σ => passAt tk σ) (pa_cons (pe_tup (pa_cons (pv 1) (pa_cons (pv 2) pa_nil))) pa_nil)))
    (pss_one (ps_fld (pv 0) (pe_make M GI hr rfl FO.m bI .nil pass0 (pa_cons pe_str (pa_cons (pe_tup pa_nil) (pa_cons (pe_tup (pa_cons (pv 1) (pa_cons (pv 2) pa_nil))) pa_nil)))) rfl)), ?_⟩
  rcases h with ⟨e, e2, rfl, rfl, ar, br, q⟩ | ⟨ne, t⟩ | ⟨ie, ne, t⟩
  · refine ⟨_, rfl, _, rfl, (by show 2 ≤ sizeLine; decide), fun pq hpq => ⟨pq, [.ref e.at_, .ref e2.at_], rfl, upd_same, .inl ⟨fun y hy => ?_, ?_⟩⟩⟩
    · rcases List.mem_cons.mp hy with rfl | hy
      · exact IsExp.same ar ix (same_new hpq _)
      · cases List.mem_singleton.mp hy
        exact IsExp.same br ix (same_new hpq _)
    have s1' := same_new hpq (.tup [V.ref e.at_, .ref e2.at_])
    refine ⟨(by show 0 ≤ sizeLine; decide), fun pt hpt => ⟨_, rfl, _, rfl, (by show 2 ≤ sizeLine; decide), fun pi hpi => fun y dy hy hdy ne => ?_⟩⟩
    have s2 := (s1'.trans (same_new hpt (.tup []))).trans (same_new hpi (.tup [V.ref e.at_, .ref e2.at_]))
    have g := born (C := CF) hy hdy ne
    have ar2 := ar.same (s2.trans g)
    have br2 := br.same (s2.trans g)
    refine ⟨y, dy, "lead", pt, pi, [], [e, e2], spell "lead" [e.text, e2.text], rfl, upd_same, g _ _ (upd_other upd_same hpi), g _ _ upd_same, (fun e' he => ?_), (by show 2 ≤ 10; decide), .inr (.inr ⟨by decide +kernel, by decide +kernel, by decide +kernel, [e.text, e2.text], ?_, (by show 2 ≤ 100; decide), ?_, rfl⟩), fun H3 pl ls b h1 h2 h3 h4 => ⟨rfl, ?_⟩⟩
    · rcases List.mem_cons.mp he with rfl | he
      · exact ⟨ar2.stands, ar2.few⟩
      · cases List.mem_singleton.mp he
        exact ⟨br2.stands, br2.few⟩
    · exact .cons (.exp ar2.stands) (.cons (.exp br2.stands) .nil)
    · have := ar.short
      have := br.short
      simp only [List.map_cons, List.map_nil, List.sum_cons, List.sum_nil]
      omega
    have s3 := grown hy hdy ne b
    have s4 := s2.trans s3
    refine ⟨_, rfl, a, C, dx, [], rfl, s4 _ _ ha, (OW C hC).cls, (OW C hC).no, (by show 0 < 1000; decide), ?_⟩
    obtain ⟨r1, r2⟩ := finish (a := a) hC (s4 _ _ ha) h1 (s3 _ _ (upd_other upd_same hpi)) (s3 _ _ upd_same) h2
    exact q _ ls (r2 H s4) r1 h3 h4
  · refine ⟨_, rfl, _, rfl, (by show 2 ≤ sizeLine; decide), fun pq hpq => ⟨pq, [v, u], rfl, upd_same, .inr ⟨0, v, rfl, fun i y hi => by omega, ?_, ?_⟩⟩⟩
    · exact NotExp.same ne (same_new hpq _)
    · exact Tells.same t (same_new hpq _)
  · refine ⟨_, rfl, _, rfl, (by show 2 ≤ sizeLine; decide), fun pq hpq => ⟨pq, [v, u], rfl, upd_same, .inr ⟨1, u, rfl, fun i y hi hy => ?_, ?_, ?_⟩⟩⟩
    · obtain rfl : i = 0 := by omega
      cases hy
      exact IsExp.keep ie (same_new hpq _)
    · exact NotExp.same ne (same_new hpq _)
    · exact Tells.same t (same_new hpq _)
end
end Wp

namespace Wp
open PySem PySem.Spec PyProof.Rows L2 Hx
/-- the least base beside a lane -/
def lo (i : Int) : Int := if i + 1 > 2 then i + 1 else 2
def spPart (K : PySem.W.Frag) (CF CE Cn Ce : Addr) (cls : Addr → Prop) : Sp := fun vs H Q E => ∃ (a dx C : Addr) (v b u : V), vs = [.ref a, v, b, u] ∧ cls C ∧ H a = some (.ins C dx []) ∧
  ((∃ (i k : Int) (e : Told), v = .int i ∧ 0 ≤ i ∧ i ≤ 3 ∧ b = .int k ∧ lo i ≤ k ∧ k ≤ 4 ∧ u = .ref e.at_ ∧ Arg CF cls H e ∧ Made CF cls H a C "part" (spell "part" [toString i, toString k, e.text]) [v, b] [e] Q) ∨
    (((∃ i : Int, v = .int i ∧ ¬ (0 ≤ i ∧ i ≤ 3)) ∨ NotInt K H v) ∧ Tells E Cn v H) ∨
    (∃ i : Int, v = .int i ∧ 0 ≤ i ∧ i ≤ 3 ∧ ((∃ k : Int, b = .int k ∧ ¬ (lo i ≤ k ∧ k ≤ 4)) ∨ NotInt K H b) ∧ Tells E Cn b H) ∨
    (∃ i k : Int, v = .int i ∧ 0 ≤ i ∧ i ≤ 3 ∧ b = .int k ∧ lo i ≤ k ∧ k ≤ 4 ∧ NotExp K CE H u ∧ Tells E Ce u H))
section
variable {P : Program} {w : World} {K : PySem.W.Frag} {mg : Str → Option Value} {base : Heap} {f fC fX CF CE Ce Cw : Addr} {fd fdC fdX : FuncData} {cls : Addr → Prop}
theorem scPart : FnScope ["self", "at", "base", "inner"] ["self", "at", "base", "inner"] (defScope s_Part_init) := ⟨rfl, rfl, rfl, by decide +kernel, rfl, by decide +kernel, by decide +kernel⟩
theorem ok_part (F : Fun K "__init__" "Part.__init__" s_Part_init f fd) (FO : FactsOk P w K mg base CF cls) (OW : ∀ C, cls C → Own K C) (ix : IsX K CE cls) (CO : Consts mg K) (zm : mg "max" = none)
    (GC : FnOk P w K mg base (L2.CX P w) 3 fC fdC ["given", "least", "most"] (spCheckWithin K Cw)) (bC : Binds K fdC ["given", "least", "most"] []) (kC : PySem.W.keepIn K (.ref fC) = true) (mC : mg "check_within" = some (.ref fC))
    (GX : FnOk P w K mg base (L2.CX P w) 3 fX fdX ["values"] (spCheckAll K CE Ce)) (bX : Binds K fdX ["values"] []) (kX : PySem.W.keepIn K (.ref fX) = true) (mX : mg "check_expressions" = some (.ref fX)) :
    FnOk P w K mg base (L2.CX P w) 7 f fd ["self", "at", "base", "inner"] (spPart K CF CE Cw Ce cls) := by
  refine F.okX scPart (fun vs H Q E h => ?_) (fun cdv A outer s H vs Q E hr h => ?_)
  · obtain ⟨a, dx, C, v, b, u, rfl, _⟩ := h
    rfl
  obtain ⟨a, dx, C, v, b, u, rfl, hC, ha, h⟩ := h
  obtain ⟨fI, fdI, M, GI, bI⟩ := FO.go
  obtain ⟨tb, mb⟩ := CO.base
  obtain ⟨tl, ml⟩ := CO.least
  have tk := takes_of (X := cxOf (L2.CX P w) P w K mg base ["self", "at", "base", "inner"] "Part.__init__" (defScope s_Part_init) f cdv A outer s H E) rfl rfl rfl rfl
  refine ⟨_, pss_cons (ps_expr (pe_callS GC (hr.mono (by decide)) rfl mC kC bC (fun σ => passAt tk σ) (pa_cons (pv 1) (pa_cons pe_int (pa_cons (pe_op op_sub (pe_gint rfl mb) pe_int) pa_nil)))))
    (pss_cons (ps_expr (pe_callS GC (hr.mono (by decide)) rfl mC kC bC (fun σ => passAt tk σ) (pa_cons (pv 2) (pa_cons (pe_callB (call_max2 rfl) (by rfl) zm PyProof.Rows.boot_max (pa_cons (pe_gint rfl ml) (pa_cons (pe_op op_add (pv 1) pe_int) pa_nil))) (pa_cons (pe_gint rfl mb) pa_nil)))))
    (pss_cons (ps_expr (pe_callS GX (hr.mono (by decide)) rfl mX kX bX (fun σ => passAt tk σ) (pa_cons (pe_tup (pa_cons (pv 3) pa_nil)) pa_nil)))
    (pss_one (ps_fld (pv 0) (pe_make M GI hr rfl FO.m bI .nil pass0 (pa_cons pe_str (pa_cons (pe_tup (pa_cons (pv 1) (pa_cons (pv 2) pa_nil))) (pa_cons (pe_tup (pa_cons (pv 3) pa_nil)) pa_nil)))) rfl)))), ?_⟩
  rcases h with ⟨i, k, e, rfl, i0, i3, rfl, k0, k4, rfl, ar, q⟩ | ⟨bad, t⟩ | ⟨i, rfl, i0, i3, bad, t⟩ | ⟨i, k, rfl, i0, i3, rfl, k0, k4, ne, t⟩
  · refine ⟨_, rfl, _, _, rfl, rfl, _, 0, 3, rfl, .inl ⟨i, rfl, i0, i3, ?_⟩⟩
    refine ⟨_, rfl, _, rfl, _, _, rfl, rfl, _, _, rfl, _, lo i, 4, rfl, .inl ⟨k, rfl, k0, k4, ?_⟩⟩
    refine ⟨_, rfl, (by show 1 ≤ sizeLine; decide), fun pq hpq => ⟨pq, [.ref e.at_], rfl, upd_same, .inl ⟨fun y hy => ?_, ?_⟩⟩⟩
    · cases List.mem_singleton.mp hy
      exact IsExp.same ar ix (same_new hpq _)
    have s1' := same_new hpq (.tup [V.ref e.at_])
    refine ⟨_, rfl, _, rfl, (by show 2 ≤ sizeLine; decide), fun pt hpt => ⟨_, rfl, (by show 1 ≤ sizeLine; decide), fun pi hpi => fun y dy hy hdy ne => ?_⟩⟩
    have s2 := (s1'.trans (same_new hpt (.tup [V.int i, .int k]))).trans (same_new hpi (.tup [V.ref e.at_]))
    have g := born (C := CF) hy hdy ne
    have ar2 := ar.same (s2.trans g)
    have k00 : 0 ≤ k := by
      unfold lo at k0
      split at k0 <;> omega
    have il : (toString i : Str).length ≤ 10 := fig_len (by omega) (by omega)
    have kl : (toString k : Str).length ≤ 10 := fig_len (by omega) (by omega)
    refine ⟨y, dy, "part", pt, pi, [V.int i, .int k], [e], spell "part" [toString i, toString k, e.text], rfl, upd_same, g _ _ (upd_other upd_same hpi), g _ _ upd_same, (fun e' he => ?_), (by show 1 ≤ 10; decide), .inr (.inr ⟨by decide +kernel, by decide +kernel, by decide +kernel, [toString i, toString k, e.text], ?_, (by show 3 ≤ 100; decide), ?_, rfl⟩), fun H3 pl ls b h1 h2 h3 h4 => ⟨rfl, ?_⟩⟩
    · cases List.mem_singleton.mp he
      exact ⟨ar2.stands, ar2.few⟩
    · exact .cons (.int i ⟨by omega, by omega⟩) (.cons (.int k ⟨by omega, by omega⟩) (.cons (.exp ar2.stands) .nil))
    · have := ar.short
      simp only [List.map_cons, List.map_nil, List.sum_cons, List.sum_nil]
      omega
    have s3 := grown hy hdy ne b
    have s4 := s2.trans s3
    refine ⟨_, rfl, a, C, dx, [], rfl, s4 _ _ ha, (OW C hC).cls, (OW C hC).no, (by show 0 < 1000; decide), ?_⟩
    obtain ⟨r1, r2⟩ := finish (a := a) hC (s4 _ _ ha) h1 (s3 _ _ (upd_other upd_same hpi)) (s3 _ _ upd_same) h2
    exact q _ ls (r2 H s4) r1 h3 h4
  · exact ⟨_, rfl, _, _, rfl, rfl, _, 0, 3, rfl, .inr ⟨bad, t⟩⟩
  · refine ⟨_, rfl, _, _, rfl, rfl, _, 0, 3, rfl, .inl ⟨i, rfl, i0, i3, ?_⟩⟩
    exact ⟨_, rfl, _, rfl, _, _, rfl, rfl, _, _, rfl, _, lo i, 4, rfl, .inr ⟨bad, t⟩⟩
  · refine ⟨_, rfl, _, _, rfl, rfl, _, 0, 3, rfl, .inl ⟨i, rfl, i0, i3, ?_⟩⟩
    refine ⟨_, rfl, _, rfl, _, _, rfl, rfl, _, _, rfl, _, lo i, 4, rfl, .inl ⟨k, rfl, k0, k4, ?_⟩⟩
    refine ⟨_, rfl, (by show 1 ≤ sizeLine; decide), fun pq hpq => ⟨pq, [u], rfl, upd_same, .inr ⟨0, u, rfl, fun i y hi => by omega, ?_, ?_⟩⟩⟩
    · exact NotExp.same ne (same_new hpq _)
    · exact Tells.same t (same_new hpq _)
end
end Wp

namespace Wp
open PySem PySem.Spec PyProof.Rows L2 Hx
/-- Weave(..), the inner ones in a tuple -/
def spWeaveB (K : PySem.W.Frag) (CF CE Cn Ce : Addr) (cls : Addr → Prop) : Sp := fun vs H Q E => ∃ (a dx C pi : Addr) (us : List V), vs = [.ref a, .ref pi] ∧ cls C ∧ H a = some (.ins C dx []) ∧ H pi = some (.tup us) ∧
  ((∃ es : List Told, us = es.map (fun e => V.ref e.at_) ∧ 2 ≤ es.length ∧ es.length ≤ 4 ∧ (∀ e ∈ es, Arg CF cls H e) ∧ Made CF cls H a C "weave" (spell "weave" (es.map (·.text))) [] es Q) ∨
    (¬ (2 ≤ us.length ∧ us.length ≤ 4) ∧ Tells E Cn (.int (us.length : Nat)) H) ∨
    (2 ≤ us.length ∧ us.length ≤ 4 ∧ ∃ (j : Nat) (x : V), us[j]? = some x ∧ (∀ (i : Nat) (y : V), i < j → us[i]? = some y → IsExp K CE H y) ∧ NotExp K CE H x ∧ Tells E Ce x H))
def spWeave (K : PySem.W.Frag) (CF CE Cn Ce : Addr) (cls : Addr → Prop) : Sp := fun vs H Q E => ∃ ws rest : List V, vs = ws ++ rest ∧ ws.length = 1 ∧ rest.length ≤ sizeLine ∧ ∀ p, H p = none → spWeaveB K CF CE Cn Ce cls (ws ++ [V.ref p]) (upd H p (.tup rest)) Q E
theorem sum_short {es : List Told} : ∀ {n : Nat}, (∀ e ∈ es, e.text.length ≤ n) → ((es.map (·.text)).map (·.length)).sum ≤ es.length * n := by
  intro n h
  induction es with
  | nil => exact Nat.zero_le _
  | cons e es ih =>
    have h1 := h e List.mem_cons_self
    have h2 := ih fun x hx => h x (List.mem_cons_of_mem _ hx)
    simp only [List.map_cons, List.sum_cons, List.length_cons, Nat.succ_mul]
    omega
section
variable {P : Program} {w : World} {K : PySem.W.Frag} {mg : Str → Option Value} {base : Heap} {f fC fX CF CE Ce Cw : Addr} {fd fdC fdX : FuncData} {cls : Addr → Prop}
theorem exps_pair {H : Hp} : ∀ {es : List Told}, (∀ e ∈ es, Arg CF cls H e) → Paired (TxAt CF cls H) (es.map fun e => V.ref e.at_) (es.map (·.text))
  | [], _ => .nil
  | e :: es, h => .cons (.exp (h e List.mem_cons_self).stands) (exps_pair fun x hx => h x (List.mem_cons_of_mem _ hx))
theorem scWeave : FnScope ["self", "inner"] ((["self"] : List Str) ++ [("inner" : Str)]) (defScope s_Weave_init) := ⟨rfl, rfl, rfl, by decide +kernel, rfl, by decide +kernel, by decide +kernel⟩
theorem ok_weave (F : Fun K "__init__" "Weave.__init__" s_Weave_init f fd) (FO : FactsOk P w K mg base CF cls) (OW : ∀ C, cls C → Own K C) (ix : IsX K CE cls) (CO : Consts mg K) (Z : Bltn mg)
    (GC : FnOk P w K mg base (L2.CX P w) 3 fC fdC ["given", "least", "most"] (spCheckWithin K Cw)) (bC : Binds K fdC ["given", "least", "most"] []) (kC : PySem.W.keepIn K (.ref fC) = true) (mC : mg "check_within" = some (.ref fC))
    (GX : FnOk P w K mg base (L2.CX P w) 3 fX fdX ["values"] (spCheckAll K CE Ce)) (bX : Binds K fdX ["values"] []) (kX : PySem.W.keepIn K (.ref fX) = true) (mX : mg "check_expressions" = some (.ref fX)) :
    FnR P w K mg base (L2.CX P w) 7 f (spWeave K CF CE Cw Ce cls) := by
  obtain ⟨oc, od, kV, doc, pm, an, cdv, ct, osl, rfl, lk, hcd⟩ := F.ex
  refine StX.fn_star (ps := ["self"]) (pv := "inner") (sp := spWeaveB K CF CE Cw Ce cls) lk hcd scWeave StX.cxUp (StX.bind_star1 (B := fun us => bindArgs (PySem.W.fnOf "__init__" "Weave.__init__" (defArgs s_Weave_init) (defBody s_Weave_init) (defScope s_Weave_init) .none kV doc pm an cdv ct) ⟨us, []⟩) (fun a => rfl) fun a r rs => rfl) fun A outer s H vs Q E hr h => ?_
  obtain ⟨a, dx, C, pi, us, rfl, hC, ha, hpi, h⟩ := h
  obtain ⟨fI, fdI, M, GI, bI⟩ := FO.go
  obtain ⟨tb, mb⟩ := CO.base
  obtain ⟨tl, ml⟩ := CO.least
  have tk := takes_of (X := cxOf (L2.CX P w) P w K mg base ["self", "inner"] "Weave.__init__" (defScope s_Weave_init) f cdv A outer s H E) rfl rfl rfl rfl
  refine ⟨_, pss_cons (ps_expr (pe_callS GC (hr.mono (by decide)) rfl mC kC bC (fun σ => passAt tk σ) (pa_cons (pe_callB call_len_seq (by rfl) Z.len PySem.boot_len (pa_cons (pv 1) pa_nil)) (pa_cons (pe_gint rfl ml) (pa_cons (pe_gint rfl mb) pa_nil)))))
    (pss_cons (ps_expr (pe_callS GX (hr.mono (by decide)) rfl mX kX bX (fun σ => passAt tk σ) (pa_cons (pv 1) pa_nil)))
    (pss_one (ps_fld (pv 0) (pe_make M GI hr rfl FO.m bI .nil pass0 (pa_cons pe_str (pa_cons (pe_tup pa_nil) (pa_cons (pv 1) pa_nil)))) rfl))), ?_⟩
  have hS : SqT K H pi us := SqT.of hpi
  rcases h with ⟨es, rfl, e2, e4, ar, q⟩ | ⟨bad, t⟩ | ⟨l2, l4, j, x, hj, bef, ne, t⟩
  · have ll : (es.map fun e => V.ref e.at_).length = es.length := List.length_map _
    refine ⟨_, rfl, pi, _, rfl, .inr hS, _, 2, 4, rfl, .inl ⟨_, rfl, by rw [ll]; omega, by rw [ll]; omega, ?_⟩⟩
    refine ⟨_, rfl, pi, _, rfl, hpi, .inl ⟨fun y hy => ?_, ?_⟩⟩
    · obtain ⟨e, he, rfl⟩ := List.mem_map.mp hy
      exact (ar e he).isx ix
    refine ⟨(by show 0 ≤ sizeLine; decide), fun pt hpt => ⟨_, rfl, fun y dy hy hdy ne => ?_⟩⟩
    have s2 := same_new hpt (.tup [])
    have g := born (C := CF) hy hdy ne
    have ar2 : ∀ e ∈ es, Arg CF cls _ e := fun e he => (ar e he).same (s2.trans g)
    refine ⟨y, dy, "weave", pt, pi, [], es, spell "weave" (es.map (·.text)), rfl, upd_same, g _ _ upd_same, g _ _ (s2 _ _ hpi), (fun e he => ⟨(ar2 e he).stands, (ar2 e he).few⟩), by omega, .inr (.inr ⟨by decide +kernel, by decide +kernel, by decide +kernel, es.map (fun (x : Told) => x.text), exps_pair ar2, ?_, ?_, rfl⟩), fun H3 pl ls b h1 h2 h3 h4 => ⟨rfl, ?_⟩⟩
    · rw [List.length_map]
      omega
    · have := sum_short (es := es) (n := 20000) fun e he => (ar e he).short
      have : es.length * 20000 ≤ 4 * 20000 := Nat.mul_le_mul_right _ e4
      omega
    have s3 := grown hy hdy ne b
    have s4 := s2.trans s3
    refine ⟨_, rfl, a, C, dx, [], rfl, s4 _ _ ha, (OW C hC).cls, (OW C hC).no, (by show 0 < 1000; decide), ?_⟩
    obtain ⟨r1, r2⟩ := finish (a := a) hC (s4 _ _ ha) h1 (s3 _ _ upd_same) (s3 _ _ (s2 _ _ hpi)) h2
    exact q _ ls (r2 H s4) r1 h3 h4
  · exact ⟨_, rfl, pi, _, rfl, .inr hS, _, 2, 4, rfl, .inr ⟨.inl ⟨_, rfl, fun z => bad ⟨by omega, by omega⟩⟩, t⟩⟩
  · refine ⟨_, rfl, pi, _, rfl, .inr hS, _, 2, 4, rfl, .inl ⟨_, rfl, by omega, by omega, ?_⟩⟩
    exact ⟨_, rfl, pi, _, rfl, hpi, .inr ⟨j, x, hj, bef, ne, t⟩⟩
end
end Wp

namespace Wp
open PySem PySem.Spec PyProof.Rows L2 Hx

/-- a deck: a list of three ints at d, the first two not negative -/
def DeckAt (H : Hp) (d : Addr) : Prop := ∃ a m c : Int, 0 ≤ a ∧ 0 ≤ m ∧ H d = some (.lst [.int a, .int m, .int c])
def spDeck (K : PySem.W.Frag) : Sp := fun vs H Q _ => ∃ (a : Addr) (ns : List Int) (t : Nat), vs = [.ref a, .int t] ∧
  SqL K H a (ns.map V.int) ∧ ns.length ≤ 63 ∧ ∀ p H', Same H H' → H p = none → DeckAt H' p → Q (.ref p) H'
section
variable {P : Program} {w : World} {K : PySem.W.Frag} {mg : Str → Option Value} {base : Heap}
theorem scDeck : FnScope ["_law_cells", "_law_turn", "_law_cell", "_law_mixed", "_law_each"] ["_law_cells", "_law_turn"] (defScope s_law_deck) :=
  ⟨rfl, rfl, rfl, by decide +kernel, rfl, by decide +kernel, by decide +kernel⟩
theorem ok_deck {f : Addr} {fd : FuncData} (F : Fun K "_law_deck" "_law_deck" s_law_deck f fd) (ml : mg "len" = none) (mi : mg "int" = none)
    (ma : mg "abs" = none) : FnOk P w K mg base CX0 1 f fd ["_law_cells", "_law_turn"] (spDeck K) := by
  refine F.ok scDeck (fun vs H Q E h => ?_) (fun cdv A outer s H vs Q E hr h => ?_)
  · obtain ⟨a, ns, t, rfl, _⟩ := h
    rfl
  obtain ⟨a, ns, t, rfl, hS, h63, q⟩ := h
  refine ⟨_, pss_cons (ps_set (i := 2) scDeck.nd rfl (Or.inl rfl)
      (pe_ifExp (pt_cmpR op_lt (pv 1) (pe_callB call_len_seq (by rfl) ml PySem.boot_len (pa_cons (pv 0) pa_nil)) (nomark _))
        (pe_ix ix_list (pv 0) (pv 1) (fun _ _ => rfl)) (pe_op op_add (pe_op op_mul pe_int (pv 1)) pe_int)))
    (pss_cons (ps_set (i := 3) scDeck.nd rfl (Or.inl rfl) (pe_op op_add pe_int (pe_op op_mul pe_int (pv 1))))
    (pss_cons (ps_for PassesOwn.never rfl (pi_list (pe_op op_cat (pe_slice sl_list (pv 0) po_none (po_some pe_int)) (pe_lst (pa_cons (pv 2) pa_nil))))
        (pg_name (i := 4) scDeck.nd rfl (Or.inl rfl))
        (pss_one (ps_set (i := 3) scDeck.nd rfl (Or.inl rfl)
          (pe_op op_mod (pe_callTy call_int1 (by rfl) mi PyProof.Rows.boot_int (pa_cons (pe_op op_add (pe_op op_mul (pv 3) pe_int) (pv 4)) pa_nil)) pe_int))))
    (pss_one (ps_ret (pe_lst (pa_cons
        (pe_ifExp (PW.pt (pw_or (pt_cmpR op_lt (pv 2) pe_int (nomark _)) (pw_or1 (pt_cmpR op_ge (pv 2) (pe_op op_pow pe_int pe_int) (nomark _)))))
          (pe_callB call_abs (by rfl) ma PyProof.Rows.boot_abs (pa_cons (pv 2) pa_nil)) pe_int)
        (pa_cons (pv 3) (pa_cons pe_int pa_nil)))))))), ?_⟩
  have hl : (ns.map V.int).length = ns.length := List.length_map _
  refine asg_join (fun v H' => H = H' ∧ ∃ c : Int, v = .int c) (fun Q' hQ => ?_) ?_
  · refine ⟨_, rfl, _, rfl, a, _, rfl, .inl hS, _, _, rfl, rfl, _, rfl, ?_⟩
    refine ite2 (fun c => ?_) (fun c => ?_)
    · have c' : (t : Int) < (((ns.map V.int).length : Nat) : Int) := of_decide_eq_true c
      have hlt : t < ns.length := by rw [hl] at c'; omega
      refine ⟨_, rfl, _, rfl, a, _, _, _, rfl, rfl, hS, atI_nat (j := t) (v := V.int ns[t]) ?_, hQ _ _ ⟨rfl, _, rfl⟩⟩
      rw [List.getElem?_map, List.getElem?_eq_getElem hlt]
      rfl
    · exact ⟨_, rfl, _, _, rfl, rfl, .inl ⟨by decide, by decide⟩, _, _, rfl, rfl, hQ _ _ ⟨rfl, _, rfl⟩⟩
  rintro _ _ ⟨rfl, c, rfl⟩
  refine ⟨_, rfl, _, _, rfl, rfl, .inl ⟨by decide, by decide⟩, _, _, rfl, rfl, ?_⟩
  refine ⟨_, rfl, _, rfl, a, _, rfl, hS, fun l hl0 => ?_⟩
  refine ⟨_, rfl, (by show 1 ≤ sizeLine; decide), fun l2 hl2 => ?_⟩
  have hcut := cutV_length (ns.map V.int) none (some 4)
  have allInt : ∀ x ∈ cutV (ns.map V.int) none (some 4) ++ [V.int c], ∃ i, x = V.int i := by
    intro x hx
    rcases List.mem_append.mp hx with hx | hx
    · have hx2 : x ∈ ns.map V.int := List.mem_of_mem_drop (List.mem_of_mem_take hx)
      obtain ⟨i, _, rfl⟩ := List.mem_map.mp hx2
      exact ⟨i, rfl⟩
    · exact ⟨c, by simpa using hx⟩
  refine ⟨l, l2, _, _, rfl, rfl, upd_other upd_same hl2, upd_same, small_line ?_, fun l3 hl3 => ?_⟩
  · rw [List.length_singleton]
    omega
  have s3 : Same H (upd (upd (upd H l (.lst (cutV (ns.map V.int) none (some 4)))) l2 (.lst [V.int c])) l3 (.lst (cutV (ns.map V.int) none (some 4) ++ [V.int c]))) :=
    ((same_new hl0 _).trans (same_new hl2 _)).trans (same_new hl3 _)
  refine ⟨l3, rfl, ⟨_, SqL.of upd_same⟩, for_list (K := K) (a := l3) (xs := cutV (ns.map V.int) none (some 4) ++ [V.int c])
    (fun _ σ H' => Same H H' ∧ H' l3 = some (.lst (cutV (ns.map V.int) none (some 4) ++ [V.int c])) ∧
      ∃ (m : Int) (v : Option V), 0 ≤ m ∧ σ = [some (.ref a), some (.int t), some (.int c), some (.int m), v])
    ⟨s3, upd_same, _, none, ?_, rfl⟩ (fun _ _ _ _ h => SqL.of h.2.1) ?_ ?_⟩
  · omega
  · rintro i x σ H' hx ⟨s4, h4, m, v, hm, rfl⟩
    obtain ⟨n, rfl⟩ := allInt x (List.mem_of_getElem? hx)
    refine ⟨_, rfl, _, _, rfl, rfl, .inr ⟨by decide, by decide⟩, _, rfl, _, _, rfl, rfl, .inl ⟨_, rfl, ?_⟩⟩
    exact ⟨_, _, rfl, rfl, (by decide : (0 : Int) < 2147483629), s4, h4, _, some (.int n), Int.emod_nonneg _ (by decide), rfl⟩
  · rintro σ H' ⟨s4, h4, m, v, hm, rfl⟩
    dsimp only
    refine ret_lst_join (fun v H2 => H' = H2 ∧ ∃ b : Int, 0 ≤ b ∧ v = .int b) (fun Q' hQ => ?_) ?_
    · refine ⟨_, rfl, _, _, rfl, rfl, _, rfl, ?_⟩
      refine ite2 (fun c0 => ?_) (fun c0 => ?_)
      · refine iteT ⟨_, rfl, _, rfl, hQ _ _ ⟨rfl, _, ?_, rfl⟩⟩
        split <;> omega
      · refine ⟨_, rfl, _, _, rfl, rfl, ⟨by decide, by decide, by decide⟩, _, _, rfl, rfl, _, rfl, ?_⟩
        refine ite2 (fun c1 => ?_) (fun c1 => ?_)
        · refine ⟨_, rfl, _, rfl, hQ _ _ ⟨rfl, _, ?_, rfl⟩⟩
          split <;> omega
        · exact hQ _ _ ⟨rfl, 0, Int.le_refl 0, rfl⟩
    rintro _ _ ⟨rfl, b, hb, rfl⟩
    refine ⟨_, rfl, (by show 3 ≤ sizeLine; decide), fun p hp => ?_⟩
    exact q p _ (s4.trans (same_new hp _)) (s4.free hp) ⟨b, m, 0, hb, hm, upd_same⟩
def spCard : Sp := fun vs H Q _ => ∃ (d : Addr) (t : Int), vs = [.ref d, .int t] ∧ 0 < t ∧ t < 1073741824 ∧ DeckAt H d ∧
  ∀ r H', 0 ≤ r → r < t → But d H H' → DeckAt H' d → Q (.int r) H'
theorem scCard : FnScope ["_law_deck_here", "_law_top", "_law_figure"] ["_law_deck_here", "_law_top"] (defScope s_law_card) :=
  ⟨rfl, rfl, rfl, by decide +kernel, rfl, by decide +kernel, by decide +kernel⟩
theorem ok_card {f : Addr} {fd : FuncData} (F : Fun K "_law_card" "_law_card" s_law_card f fd) (mi : mg "int" = none) (md : mg "divmod" = none) :
    FnOk P w K mg base CX0 1 f fd ["_law_deck_here", "_law_top"] spCard := by
  refine F.ok scCard (fun vs H Q E h => ?_) (fun cdv A outer s H vs Q E hr h => ?_)
  · obtain ⟨d, t, rfl, _⟩ := h
    rfl
  obtain ⟨d, t, rfl, t0, t1, ⟨a, m, c, a0, m0, hd⟩, q⟩ := h
  refine ⟨_, pss_cons (ps_asg (pe_op op_add (pe_ix ix_list (pv 0) pe_int (fun _ _ => rfl)) pe_int) (pg_sub (pv 0) pe_int set_list))
    (pss_cons (ps_if (pt_cmpR op_gt (pe_ix ix_list (pv 0) pe_int (fun _ _ => rfl)) pe_int (nomark _))
      (pss_cons (ps_asg (pe_callB call_divmod (by rfl) md PyProof.Rows.boot_divmod (pa_cons (pe_ix ix_list (pv 0) pe_int (fun _ _ => rfl)) (pa_cons (pv 1) pa_nil)))
          (pg_tup (by rfl) (pgs_cons (pg_sub (pv 0) pe_int set_list) (pgs_cons (pg_name (i := 2) scCard.nd rfl (Or.inl rfl)) pgs_nil))))
        (pss_one (ps_ret (pv 2)))) pss_nil)
    (pss_cons (ps_asg (pe_op op_mod (pe_callTy call_int1 (by rfl) mi PyProof.Rows.boot_int (pa_cons
        (pe_op op_add (pe_op op_mul (pe_ix ix_list (pv 0) pe_int (fun _ _ => rfl)) pe_int) (pe_op op_mul pe_int (pe_ix ix_list (pv 0) pe_int (fun _ _ => rfl)))) pa_nil)) pe_int)
        (pg_sub (pv 0) pe_int set_list))
    (pss_one (ps_ret (pe_op op_mod (pe_callTy call_int1 (by rfl) mi PyProof.Rows.boot_int (pa_cons
        (pe_op op_fdiv (pe_ix ix_list (pv 0) pe_int (fun _ _ => rfl)) pe_int) pa_nil)) (pv 1)))))), ?_⟩
  refine ⟨_, rfl, d, _, _, _, rfl, rfl, SqL.of hd, rfl, _, _, rfl, rfl, _, rfl, d, _, _, _, rfl, rfl, hd, rfl, ?_⟩
  refine ⟨_, rfl, d, _, _, _, rfl, rfl, SqL.of upd_same, rfl, _, _, rfl, rfl, _, rfl, ?_⟩
  refine ite2 (fun c0 => ?_) (fun c0 => ?_)
  · refine ⟨_, rfl, d, _, _, _, rfl, rfl, SqL.of upd_same, rfl, _, rfl, _, _, rfl, ⟨t0, t1⟩, fun p hp => ?_⟩
    have npd : d ≠ p := ne_of_none upd_same hp
    refine ⟨p, _, rfl, SqT.of upd_same, rfl, _, _, rfl, ?_⟩
    refine ⟨_, rfl, d, _, _, _, rfl, rfl, by rw [upd_ne npd]; exact upd_same, rfl, ?_⟩
    refine ⟨_, _, rfl, rfl, _, rfl, ?_⟩
    refine q _ _ (Int.emod_nonneg _ (by omega)) (Int.emod_lt_of_pos _ t0) (((But.refl.upd _).new hp _).upd _) ⟨_, _, _, ?_, m0, upd_same⟩
    exact Int.ediv_nonneg a0 (by omega)
  · refine ⟨_, rfl, d, _, _, _, rfl, rfl, SqL.of upd_same, rfl, _, _, rfl, rfl, .inr ⟨by decide, by decide⟩, ?_⟩
    refine ⟨_, rfl, d, _, _, _, rfl, rfl, SqL.of upd_same, rfl, _, _, rfl, rfl, .inl ⟨by decide, by decide⟩, _, _, rfl, rfl, .inl ⟨_, rfl, ?_⟩⟩
    refine ⟨_, _, rfl, rfl, (by decide : (0 : Int) < 2147483629), ?_⟩
    refine ⟨_, rfl, d, _, _, _, rfl, rfl, upd_same, rfl, ?_⟩
    refine ⟨_, rfl, d, _, _, _, rfl, rfl, SqL.of upd_same, rfl, _, _, rfl, rfl, ⟨by decide, by decide⟩, .inl ⟨_, rfl, ?_⟩⟩
    refine ⟨_, rfl, _, _, rfl, rfl, t0, ?_⟩
    refine q _ _ (Int.emod_nonneg _ (by omega)) (Int.emod_lt_of_pos _ t0) ((But.refl.upd _).upd _) ⟨_, _, _, a0, Int.emod_nonneg _ (by decide), upd_same⟩
/-- _law_of, over a list -/
def spOf (K : PySem.W.Frag) : Sp := fun vs H Q _ => ∃ (d l : Addr) (xs : List V), vs = [.ref d, .ref l] ∧ d ≠ l ∧ SqL K H l xs ∧ 0 < xs.length ∧ xs.length ≤ 1000 ∧ DeckAt H d ∧
  ∀ v H', v ∈ xs → But d H H' → DeckAt H' d → Q v H'
theorem scOf : FnScope ["_law_deck_here", "_law_menu"] ["_law_deck_here", "_law_menu"] (defScope s_law_of) :=
  ⟨rfl, rfl, rfl, by decide +kernel, rfl, by decide +kernel, by decide +kernel⟩
theorem ok_of {f fC : Addr} {fd fdC : FuncData} (F : Fun K "_law_of" "_law_of" s_law_of f fd)
    (GC : FnOk P w K mg base CX0 1 fC fdC ["_law_deck_here", "_law_top"] spCard) (bC : Binds K fdC ["_law_deck_here", "_law_top"] [])
    (kC : PySem.W.keepIn K (.ref fC) = true) (mC : mg "_law_card" = some (.ref fC)) (ml : mg "len" = none) :
    FnOk P w K mg base CX0 2 f fd ["_law_deck_here", "_law_menu"] (spOf K) := by
  refine F.ok scOf (fun vs H Q E h => ?_) (fun cdv A outer s H vs Q E hr h => ?_)
  · obtain ⟨d, l, xs, rfl, _⟩ := h
    rfl
  obtain ⟨d, l, xs, rfl, ndl, hl, l0, l1, hd, q⟩ := h
  refine ⟨_, pss_one (ps_ret (pe_ix ix_list (pv 1) (pe_call GC hr rfl mC kC bC .nil pass0 (pa_cons (pv 0) (pa_cons
    (pe_callB call_len_seq (by rfl) ml PySem.boot_len (pa_cons (pv 1) pa_nil)) pa_nil))) (fun _ _ => rfl))), ?_⟩
  refine ⟨_, rfl, _, rfl, _, rfl, l, _, rfl, .inl hl, d, _, rfl, by omega, by omega, hd, fun r H' r0 r1 b hd' => ?_⟩
  obtain ⟨v, hv, ev⟩ := atI_in r0 r1
  exact ⟨l, _, _, _, rfl, rfl, b.seq (Ne.symm ndl) hl, ev, q v H' hv b hd'⟩
end
end Wp

namespace Wp
open PySem PySem.Spec PyProof.Rows L2 Hx
/-! trees of the law, and the expressions that are made of them -/
inductive Tr where
  | sign (s : Str) | name (n : Str) | weave (l : List Tr) | part (j : Int) (t : Tr) | drop (c : Int) (t : Tr) | lead (t u : Tr) | turn (w : Str) (t : Tr)
def Tr.kids : Tr → List Tr
  | .sign _ => [] | .name _ => [] | .weave l => l | .part _ t => [t] | .drop _ t => [t] | .lead t u => [t, u] | .turn _ t => [t]
def Tr.kind : Tr → Str
  | .sign _ => "sign" | .name _ => "name" | .weave _ => "weave" | .part .. => "part" | .drop .. => "drop" | .lead .. => "lead" | .turn .. => "turn"
def Tr.told (b : Int) : Tr → List V
  | .sign s => [.str s] | .name n => [.str n] | .weave _ => [] | .part j _ => [.int j, .int b] | .drop c _ => [.int c] | .lead .. => [] | .turn w _ => [.str w]
mutual
def Tr.knots : Tr → Nat
  | .sign _ => 1 | .name _ => 1 | .weave l => 1 + Tr.knotsL l | .part _ t => 1 + t.knots | .drop _ t => 1 + t.knots | .lead t u => 1 + (t.knots + u.knots) | .turn _ t => 1 + t.knots
def Tr.knotsL : List Tr → Nat
  | [] => 0 | t :: r => t.knots + Tr.knotsL r
end
mutual
def Tr.names : Tr → List Str
  | .sign _ => [] | .name n => [n] | .weave l => Tr.namesL l | .part _ t => t.names | .drop _ t => t.names | .lead t u => t.names ++ u.names | .turn _ t => t.names
def Tr.namesL : List Tr → List Str
  | [] => [] | t :: r => t.names ++ Tr.namesL r
end
mutual
def Tr.text (b : Int) : Tr → Str
  | .sign s => ((Str.empty ++ "'") ++ s) ++ "'" | .name n => n | .weave l => spell "weave" (Tr.textL b l) | .part j t => spell "part" [toString j, toString b, t.text b]
  | .drop c t => spell "drop" [toString c, t.text b] | .lead t u => spell "lead" [t.text b, u.text b] | .turn w t => spell "turn" [w, t.text b]
def Tr.textL (b : Int) : List Tr → List Str
  | [] => [] | t :: r => t.text b :: Tr.textL b r
end
mutual
/-- a tree that its classes take, over the base b -/
inductive Tr.Ok (b : Int) : Tr → Prop
  | sign {s : Str} : lettered 1 s = true → Tr.Ok b (.sign s)
  | name {n : Str} : nameB n = true → Tr.Ok b (.name n)
  | weave {l : List Tr} : (l.length : Int) = b → Tr.OkL b l → Tr.Ok b (.weave l)
  | part {j : Int} {t : Tr} : 0 ≤ j → j < b → Tr.Ok b t → Tr.Ok b (.part j t)
  | drop {c : Int} {t : Tr} : 1 ≤ c → c ≤ 9 → Tr.Ok b t → Tr.Ok b (.drop c t)
  | lead {t u : Tr} : Tr.Ok b t → Tr.Ok b u → Tr.Ok b (.lead t u)
  | turn {w : Str} {t : Tr} : lettered 4 w = true → Tr.Ok b t → Tr.Ok b (.turn w t)
inductive Tr.OkL (b : Int) : List Tr → Prop
  | nil : Tr.OkL b []
  | cons {t : Tr} {r : List Tr} : Tr.Ok b t → Tr.OkL b r → Tr.OkL b (t :: r)
end
mutual
/-- a tree as it stands: tuples, a list for the parts of a weave -/
inductive TrAt (H : Hp) : V → Tr → Prop
  | sign {p : Addr} {s : Str} : H p = some (.tup [.str "sign", .str s]) → TrAt H (.ref p) (.sign s)
  | name {p : Addr} {n : Str} : H p = some (.tup [.str "name", .str n]) → TrAt H (.ref p) (.name n)
  | weave {p q : Addr} {vs : List V} {l : List Tr} : H p = some (.tup [.str "weave", .ref q]) → H q = some (.lst vs) → TrAll H vs l → TrAt H (.ref p) (.weave l)
  | part {p : Addr} {j : Int} {v : V} {t : Tr} : H p = some (.tup [.str "part", .int j, v]) → TrAt H v t → TrAt H (.ref p) (.part j t)
  | drop {p : Addr} {c : Int} {v : V} {t : Tr} : H p = some (.tup [.str "drop", .int c, v]) → TrAt H v t → TrAt H (.ref p) (.drop c t)
  | lead {p : Addr} {v u : V} {t s : Tr} : H p = some (.tup [.str "lead", v, u]) → TrAt H v t → TrAt H u s → TrAt H (.ref p) (.lead t s)
  | turn {p : Addr} {w : Str} {v : V} {t : Tr} : H p = some (.tup [.str "turn", .str w, v]) → TrAt H v t → TrAt H (.ref p) (.turn w t)
inductive TrAll (H : Hp) : List V → List Tr → Prop
  | nil : TrAll H [] []
  | cons {v : V} {vs : List V} {t : Tr} {r : List Tr} : TrAt H v t → TrAll H vs r → TrAll H (v :: vs) (t :: r)
end
mutual
theorem TrAt.same {H H' : Hp} (s : Same H H') : ∀ (t : Tr) (v : V), TrAt H v t → TrAt H' v t
  | .sign _, _, h => by cases h with | sign e => exact .sign (s _ _ e)
  | .name _, _, h => by cases h with | name e => exact .name (s _ _ e)
  | .weave l, _, h => by cases h with | weave e e2 r => exact .weave (s _ _ e) (s _ _ e2) (TrAll.same s l _ r)
  | .part _ t, _, h => by cases h with | part e r => exact .part (s _ _ e) (TrAt.same s t _ r)
  | .drop _ t, _, h => by cases h with | drop e r => exact .drop (s _ _ e) (TrAt.same s t _ r)
  | .lead t u, _, h => by cases h with | lead e r r2 => exact .lead (s _ _ e) (TrAt.same s t _ r) (TrAt.same s u _ r2)
  | .turn _ t, _, h => by cases h with | turn e r => exact .turn (s _ _ e) (TrAt.same s t _ r)
theorem TrAll.same {H H' : Hp} (s : Same H H') : ∀ (l : List Tr) (vs : List V), TrAll H vs l → TrAll H' vs l
  | [], _, h => by cases h; exact .nil
  | t :: r, _, h => by cases h with | cons a b => exact .cons (TrAt.same s t _ a) (TrAll.same s r _ b)
end
/-- the names of a tree, each one once, in order -/
structure Lab (ns ls : List Str) : Prop where
  once : ls.Nodup
  inOrder : sortedS ls = true
  mem : ∀ x, x ∈ ls ↔ x ∈ ns
/-- the addresses of the seven classes, by kind -/
abbrev KCls := Str → Addr
mutual
/-- at v stands the expression of the tree -/
inductive ExAt (CF : Addr) (kc : KCls) (cls : Addr → Prop) (b : Int) (H : Hp) : V → Tr → Prop
  | mk {a : Addr} {inner : List V} {ls : List Str} (t : Tr) : XpAt CF cls H a (kc t.kind) t.kind (t.text b) (t.told b) inner ls (t.knots : Nat) → Lab t.names ls → ExAll CF kc cls b H inner t.kids → ExAt CF kc cls b H (.ref a) t
inductive ExAll (CF : Addr) (kc : KCls) (cls : Addr → Prop) (b : Int) (H : Hp) : List V → List Tr → Prop
  | nil : ExAll CF kc cls b H [] []
  | cons {v : V} {vs : List V} {t : Tr} {r : List Tr} : ExAt CF kc cls b H v t → ExAll CF kc cls b H vs r → ExAll CF kc cls b H (v :: vs) (t :: r)
end
end Wp

namespace Wp
open PySem PySem.Spec PyProof.Rows L2 Hx
section
variable {CF : Addr} {kc : KCls} {cls : Addr → Prop} {b : Int}
mutual
theorem ExAt.same {H H' : Hp} (s : Same H H') : ∀ (t : Tr) (v : V), ExAt CF kc cls b H v t → ExAt CF kc cls b H' v t
  | .sign x, _, h => by cases h with | mk _ e l r => exact .mk _ (e.same s) l (by cases r; exact .nil)
  | .name x, _, h => by cases h with | mk _ e l r => exact .mk _ (e.same s) l (by cases r; exact .nil)
  | .weave l, _, h => by cases h with | mk _ e lb r => exact .mk _ (e.same s) lb (ExAll.same s l _ r)
  | .part j t, _, h => by cases h with | mk _ e l r => cases r with | cons a n => exact .mk _ (e.same s) l (.cons (ExAt.same s t _ a) (by cases n; exact .nil))
  | .drop j t, _, h => by cases h with | mk _ e l r => cases r with | cons a n => exact .mk _ (e.same s) l (.cons (ExAt.same s t _ a) (by cases n; exact .nil))
  | .lead t u, _, h => by cases h with | mk _ e l r => cases r with | cons a n => cases n with | cons a2 n2 => exact .mk _ (e.same s) l (.cons (ExAt.same s t _ a) (.cons (ExAt.same s u _ a2) (by cases n2; exact .nil)))
  | .turn j t, _, h => by cases h with | mk _ e l r => cases r with | cons a n => exact .mk _ (e.same s) l (.cons (ExAt.same s t _ a) (by cases n; exact .nil))
theorem ExAll.same {H H' : Hp} (s : Same H H') : ∀ (l : List Tr) (vs : List V), ExAll CF kc cls b H vs l → ExAll CF kc cls b H' vs l
  | [], _, h => by cases h; exact .nil
  | t :: r, _, h => by cases h with | cons a q => exact .cons (ExAt.same s t _ a) (ExAll.same s r _ q)
end
end
theorem sub_len : ∀ {xs ys : List Str}, xs.Nodup → (∀ x ∈ xs, x ∈ ys) → xs.length ≤ ys.length
  | [], _, _, _ => Nat.zero_le _
  | x :: xs, ys, n, h => by
    have hx := h x List.mem_cons_self
    have h2 := sub_len (xs := xs) (ys := ys.erase x) (List.nodup_cons.mp n).2 fun y hy => (List.mem_erase_of_ne (fun z => (List.nodup_cons.mp n).1 (by rw [← z]; exact hy))).2 (h y (List.mem_cons_of_mem _ hy))
    rw [List.length_erase_of_mem hx] at h2
    have : 0 < ys.length := List.length_pos_of_mem hx
    rw [List.length_cons]
    omega
mutual
theorem names_len : ∀ t : Tr, t.names.length ≤ t.knots
  | .sign _ => by simp [Tr.names, Tr.knots]
  | .name _ => by simp [Tr.names, Tr.knots]
  | .weave l => by have := namesL_len l; simp only [Tr.names, Tr.knots]; omega
  | .part _ t => by have := names_len t; simp only [Tr.names, Tr.knots]; omega
  | .drop _ t => by have := names_len t; simp only [Tr.names, Tr.knots]; omega
  | .lead t u => by have := names_len t; have := names_len u; simp only [Tr.names, Tr.knots, List.length_append]; omega
  | .turn _ t => by have := names_len t; simp only [Tr.names, Tr.knots]; omega
theorem namesL_len : ∀ l : List Tr, (Tr.namesL l).length ≤ Tr.knotsL l
  | [] => by simp [Tr.namesL, Tr.knotsL]
  | t :: r => by have := names_len t; have := namesL_len r; simp only [Tr.namesL, Tr.knotsL, List.length_append]; omega
end
theorem spell_len (k : Str) (ys : List Str) : (spell k ys).length ≤ k.length + 2 + ((ys.map (·.length)).sum + ys.length * 2) := by
  have z := join_len ", " ys
  have l2 : (", " : Str).length = 2 := by decide +kernel
  rw [l2] at z
  unfold spell
  simp only [PySem.Str.length_append, (by decide +kernel : ("(" : Str).length = 1), (by decide +kernel : (")" : Str).length = 1), (by decide +kernel : Str.empty.length = 0)]
  omega
theorem lettered_len {m : Int} {x : Str} (h : lettered m x = true) : (x.length : Int) ≤ m := by
  unfold lettered at h
  obtain ⟨_, h2⟩ := Bool.and_eq_true_iff.mp h
  exact of_decide_eq_true (Bool.and_eq_true_iff.mp h2).1
theorem nameB_len {x : Str} (h : nameB x = true) : x.length ≤ 8 := by
  have := lettered_len (Bool.and_eq_true_iff.mp h).1
  omega
theorem fig_one {i : Int} (h0 : 0 ≤ i) (h1 : i ≤ 9) : (toString i : Str).length ≤ 1 := by
  have : i = 0 ∨ i = 1 ∨ i = 2 ∨ i = 3 ∨ i = 4 ∨ i = 5 ∨ i = 6 ∨ i = 7 ∨ i = 8 ∨ i = 9 := by omega
  rcases this with rfl | rfl | rfl | rfl | rfl | rfl | rfl | rfl | rfl | rfl <;> decide +kernel
section
variable {b : Int}
mutual
theorem text_len (b0 : 0 ≤ b) (b9 : b ≤ 9) : ∀ t : Tr, t.Ok b → (t.text b).length + 2 ≤ 30 * t.knots
  | .sign s, h => by
    cases h with
    | sign e =>
      have := lettered_len e
      simp only [Tr.text, Tr.knots, PySem.Str.length_append, (by decide +kernel : ("'" : Str).length = 1), (by decide +kernel : Str.empty.length = 0)]
      omega
  | .name n, h => by
    cases h with
    | name e =>
      have := nameB_len e
      simp only [Tr.text, Tr.knots]
      omega
  | .weave l, h => by
    cases h with
    | weave _ e =>
      have z := textL_len b0 b9 l e
      have y := spell_len "weave" (Tr.textL b l)
      rw [(by decide +kernel : ("weave" : Str).length = 5)] at y
      simp only [Tr.text, Tr.knots]
      omega
  | .part j t, h => by
    cases h with
    | part j0 jb e =>
      have z := text_len b0 b9 t e
      have y := spell_len "part" [toString j, toString b, t.text b]
      have y1 : (toString j : Str).length ≤ 1 := fig_one j0 (by omega)
      have y2 : (toString b : Str).length ≤ 1 := fig_one b0 b9
      rw [(by decide +kernel : ("part" : Str).length = 4)] at y
      simp only [List.map_cons, List.map_nil, List.sum_cons, List.sum_nil, List.length_cons, List.length_nil] at y
      simp only [Tr.text, Tr.knots]
      omega
  | .drop c t, h => by
    cases h with
    | drop c1 c9 e =>
      have z := text_len b0 b9 t e
      have y := spell_len "drop" [toString c, t.text b]
      have y1 : (toString c : Str).length ≤ 1 := fig_one (by omega) c9
      rw [(by decide +kernel : ("drop" : Str).length = 4)] at y
      simp only [List.map_cons, List.map_nil, List.sum_cons, List.sum_nil, List.length_cons, List.length_nil] at y
      simp only [Tr.text, Tr.knots]
      omega
  | .lead t u, h => by
    cases h with
    | lead e e2 =>
      have z := text_len b0 b9 t e
      have z2 := text_len b0 b9 u e2
      have y := spell_len "lead" [t.text b, u.text b]
      rw [(by decide +kernel : ("lead" : Str).length = 4)] at y
      simp only [List.map_cons, List.map_nil, List.sum_cons, List.sum_nil, List.length_cons, List.length_nil] at y
      simp only [Tr.text, Tr.knots]
      omega
  | .turn w t, h => by
    cases h with
    | turn ew e =>
      have z := text_len b0 b9 t e
      have y := spell_len "turn" [w, t.text b]
      have := lettered_len ew
      rw [(by decide +kernel : ("turn" : Str).length = 4)] at y
      simp only [List.map_cons, List.map_nil, List.sum_cons, List.sum_nil, List.length_cons, List.length_nil] at y
      simp only [Tr.text, Tr.knots]
      omega
theorem textL_len (b0 : 0 ≤ b) (b9 : b ≤ 9) : ∀ l : List Tr, Tr.OkL b l → ((Tr.textL b l).map (·.length)).sum + (Tr.textL b l).length * 2 ≤ 30 * Tr.knotsL l
  | [], _ => by simp [Tr.textL, Tr.knotsL]
  | t :: r, h => by
    cases h with
    | cons a e =>
      have z := text_len b0 b9 t a
      have z2 := textL_len b0 b9 r e
      simp only [Tr.textL, Tr.knotsL, List.map_cons, List.sum_cons, List.length_cons]
      omega
end
end
/-! names, each one once -/
theorem puts_nodup : ∀ (xs ms : List Str), ms.Nodup → (xs.foldl Hs.put ms).Nodup
  | [], _, h => h
  | x :: xs, ms, h => by
    rw [List.foldl_cons]
    refine puts_nodup xs _ ?_
    unfold Hs.put
    split
    · exact h
    · rename_i n
      exact List.nodup_cons.mpr ⟨n, h⟩
theorem lab_of {ns xs ls : List Str} (p : ls.Perm (xs.foldl Hs.put [])) (s : sortedS ls = true) (h : ∀ x, x ∈ xs ↔ x ∈ ns) : Lab ns ls :=
  ⟨p.nodup_iff.mpr (puts_nodup xs [] .nil), s, fun x => by rw [p.mem_iff, Hs.puts_mem, h]; simp⟩
end Wp

namespace Wp
open PySem PySem.Spec PyProof.Rows L2 Hx
/-- the seven classes, as they are called -/
structure Ctors (P : Program) (w : World) (K : PySem.W.Frag) (mg : Str → Option Value) (base : Heap) (CF CE Cn Cs Cm Cw Ce : Addr) (kc : KCls) (cls : Addr → Prop) : Prop where
  own : ∀ k ∈ (["sign", "name", "weave", "part", "drop", "lead", "turn"] : List Str), cls (kc k)
  sign : mg "Sign" = some (.ref (kc "sign")) ∧ ∃ fI fd, Mk K (kc "sign") fI ∧ FnOk P w K mg base (L2.CX P w) 7 fI fd ["self", "sign"] (spLeaf K CF cls (lettered 1) Cs "sign" (fun x => ((Str.empty ++ "'") ++ x) ++ "'") fun _ => []) ∧ Binds K fd ["self", "sign"] []
  name : mg "Name" = some (.ref (kc "name")) ∧ ∃ fI fd, Mk K (kc "name") fI ∧ FnOk P w K mg base (L2.CX P w) 7 fI fd ["self", "name"] (spLeaf K CF cls nameB Cm "name" (fun x => x) fun x => [x]) ∧ Binds K fd ["self", "name"] []
  weave : mg "Weave" = some (.ref (kc "weave")) ∧ ∃ fI, Mk K (kc "weave") fI ∧ FnR P w K mg base (L2.CX P w) 7 fI (spWeave K CF CE Cn Ce cls)
  part : mg "Part" = some (.ref (kc "part")) ∧ ∃ fI fd, Mk K (kc "part") fI ∧ FnOk P w K mg base (L2.CX P w) 7 fI fd ["self", "at", "base", "inner"] (spPart K CF CE Cn Ce cls) ∧ Binds K fd ["self", "at", "base", "inner"] []
  drop : mg "Drop" = some (.ref (kc "drop")) ∧ ∃ fI fd, Mk K (kc "drop") fI ∧ FnOk P w K mg base (L2.CX P w) 7 fI fd ["self", "many", "inner"] (spDrop K CF CE Cn Ce cls) ∧ Binds K fd ["self", "many", "inner"] []
  lead : mg "Lead" = some (.ref (kc "lead")) ∧ ∃ fI fd, Mk K (kc "lead") fI ∧ FnOk P w K mg base (L2.CX P w) 7 fI fd ["self", "first", "rest"] (spLead K CF CE Ce cls) ∧ Binds K fd ["self", "first", "rest"] []
  turn : mg "Turn" = some (.ref (kc "turn")) ∧ ∃ fI fd, Mk K (kc "turn") fI ∧ FnOk P w K mg base (L2.CX P w) 7 fI fd ["self", "word", "inner"] (spTurn K CF CE Cw Ce cls) ∧ Binds K fd ["self", "word", "inner"] []
def spMade (CF : Addr) (kc : KCls) (cls : Addr → Prop) (n : Nat) : Sp := fun vs H Q _ => ∃ (tv : V) (b : Int) (t : Tr), vs = [tv, .int b] ∧ TrAt H tv t ∧ t.Ok b ∧ 2 ≤ b ∧ b ≤ 4 ∧ t.knots ≤ n ∧ t.knots ≤ 40 ∧ ∀ v H', Same H H' → ExAt CF kc cls b H' v t → Q v H'
theorem knots_pos : ∀ t : Tr, 1 ≤ t.knots
  | .sign _ => by simp [Tr.knots] | .name _ => by simp [Tr.knots] | .weave l => by simp only [Tr.knots]; omega | .part _ t => by simp only [Tr.knots]; omega | .drop _ t => by simp only [Tr.knots]; omega
  | .lead t u => by simp only [Tr.knots]; omega | .turn _ t => by simp only [Tr.knots]; omega
section
variable {P : Program} {w : World} {K : PySem.W.Frag} {mg : Str → Option Value} {base : Heap} {f CF CE Cn Cs Cm Cw Ce : Addr} {fd : FuncData} {kc : KCls} {cls : Addr → Prop}
/-- what is told of an expression that stands for a tree -/
structure For (CF : Addr) (kc : KCls) (cls : Addr → Prop) (b : Int) (H : Hp) (t : Tr) (e : Told) : Prop where
  arg : Arg CF cls H e
  text : e.text = t.text b
  size : e.size = (t.knots : Nat)
  lab : Lab t.names e.labels
theorem for_of {b : Int} {H : Hp} {v : V} {t : Tr} (h : ExAt CF kc cls b H v t) (ok : t.Ok b) (b0 : 0 ≤ b) (b9 : b ≤ 9) (k : t.knots ≤ 40) : ∃ e : Told, v = .ref e.at_ ∧ For CF kc cls b H t e := by
  cases h with
  | @mk a inner ls _ xp lab all =>
    have l1 := sub_len lab.once fun x hx => (lab.mem x).1 hx
    have l2 := names_len t
    have l3 := text_len b0 b9 t ok
    exact ⟨⟨a, kc t.kind, t.kind, t.text b, t.told b, inner, ls, (t.knots : Nat)⟩, rfl, ⟨⟨xp, by show ls.length ≤ 40; omega, by show (t.text b).length ≤ 20000; omega⟩, rfl, rfl, lab⟩⟩
theorem fors_of {b : Int} {H : Hp} (b0 : 0 ≤ b) (b9 : b ≤ 9) : ∀ {vs : List V} {l : List Tr}, ExAll CF kc cls b H vs l → Tr.OkL b l → Tr.knotsL l ≤ 40 →
    ∃ es : List Told, vs = es.map (fun e => V.ref e.at_) ∧ (∀ e ∈ es, Arg CF cls H e) ∧ es.map (fun e => e.text) = Tr.textL b l ∧ (es.map (fun e => e.size)).sum = (Tr.knotsL l : Nat) ∧ ∀ x, x ∈ es.flatMap (fun e => e.labels) ↔ x ∈ Tr.namesL l
  | _, [], .nil, _, _ => ⟨[], rfl, (fun e he => nomatch he), rfl, rfl, fun x => by simp [Tr.namesL]⟩
  | _, t :: r, .cons a q, ok, k => by
    cases ok with
    | cons o1 o2 =>
      have k1 : t.knots + Tr.knotsL r ≤ 40 := by
        simp only [Tr.knotsL] at k
        exact k
      obtain ⟨e, rfl, f⟩ := for_of a o1 b0 b9 (by omega)
      obtain ⟨es, rfl, h1, h2, h3, h4⟩ := fors_of b0 b9 q o2 (by omega)
      refine ⟨e :: es, rfl, fun x hx => ?_, ?_, ?_, fun x => ?_⟩
      · rcases List.mem_cons.mp hx with rfl | hx
        · exact f.arg
        · exact h1 x hx
      · rw [List.map_cons, h2, f.text]
        simp only [Tr.textL]
      · rw [List.map_cons, List.sum_cons, h3, f.size]
        simp only [Tr.knotsL]
        omega
      · rw [List.flatMap_cons, List.mem_append, h4, f.lab.mem]
        simp only [Tr.namesL, List.mem_append]
theorem lab1 {kind : Str} {told : List V} {e : Told} {ns ls : List Str} (hk : kind ≠ "name") (p : ls.Perm ((namesOf kind told [e]).foldl Hs.put [])) (s : sortedS ls = true) (l : Lab ns e.labels) : Lab ns ls :=
  lab_of p s fun x => by
    unfold namesOf
    rw [if_neg hk]
    simp only [List.flatMap_cons, List.flatMap_nil, List.append_nil]
    exact l.mem x
/-- all but lists stand -/
def Sm (H H' : Hp) : Prop := ∀ c o, H c = some o → (∀ xs, o ≠ .lst xs) → H' c = some o
theorem XpAt.sm {H H' : Hp} {a C : Addr} {kind text : Str} {told inner : List V} {labels : List Str} {size : Int} (h : XpAt CF cls H a C kind text told inner labels size) (s : Sm H H') : XpAt CF cls H' a C kind text told inner labels size := by
  obtain ⟨dx, fa, dfa, pm, pi, pl, h0, h1, h2, h3, h4, h5⟩ := h
  exact ⟨dx, fa, dfa, pm, pi, pl, h0, s _ _ h1 (by intro xs z; cases z), s _ _ h2 (by intro xs z; cases z), s _ _ h3 (by intro xs z; cases z), s _ _ h4 (by intro xs z; cases z), s _ _ h5 (by intro xs z; cases z)⟩
mutual
theorem ExAt.sm {b : Int} {H H' : Hp} (s : Sm H H') : ∀ (t : Tr) (v : V), ExAt CF kc cls b H v t → ExAt CF kc cls b H' v t
  | .sign x, _, h => by cases h with | mk _ e l r => exact .mk _ (XpAt.sm e s) l (by cases r; exact .nil)
  | .name x, _, h => by cases h with | mk _ e l r => exact .mk _ (XpAt.sm e s) l (by cases r; exact .nil)
  | .weave l, _, h => by cases h with | mk _ e lb r => exact .mk _ (XpAt.sm e s) lb (ExAll.sm s l _ r)
  | .part j t, _, h => by cases h with | mk _ e l r => cases r with | cons a n => exact .mk _ (XpAt.sm e s) l (.cons (ExAt.sm s t _ a) (by cases n; exact .nil))
  | .drop j t, _, h => by cases h with | mk _ e l r => cases r with | cons a n => exact .mk _ (XpAt.sm e s) l (.cons (ExAt.sm s t _ a) (by cases n; exact .nil))
  | .lead t u, _, h => by cases h with | mk _ e l r => cases r with | cons a n => cases n with | cons a2 n2 => exact .mk _ (XpAt.sm e s) l (.cons (ExAt.sm s t _ a) (.cons (ExAt.sm s u _ a2) (by cases n2; exact .nil)))
  | .turn j t, _, h => by cases h with | mk _ e l r => cases r with | cons a n => exact .mk _ (XpAt.sm e s) l (.cons (ExAt.sm s t _ a) (by cases n; exact .nil))
theorem ExAll.sm {b : Int} {H H' : Hp} (s : Sm H H') : ∀ (l : List Tr) (vs : List V), ExAll CF kc cls b H vs l → ExAll CF kc cls b H' vs l
  | [], _, h => by cases h; exact .nil
  | t :: r, _, h => by cases h with | cons a q => exact .cons (ExAt.sm s t _ a) (ExAll.sm s r _ q)
end
theorem ExAll.snoc {b : Int} {H : Hp} {v : V} {t : Tr} : ∀ {vs : List V} {l : List Tr}, ExAll CF kc cls b H vs l → ExAt CF kc cls b H v t → ExAll CF kc cls b H (vs ++ [v]) (l ++ [t])
  | _, [], .nil, h => .cons h .nil
  | _, _ :: _, .cons a r, h => .cons a (ExAll.snoc r h)
theorem ExAll.len {b : Int} {H : Hp} : ∀ {vs : List V} {l : List Tr}, ExAll CF kc cls b H vs l → vs.length = l.length
  | _, [], .nil => rfl
  | _, _ :: _, .cons _ r => congrArg Nat.succ (ExAll.len r)
theorem TrAll.get {H : Hp} : ∀ {vs : List V} {l : List Tr} {i : Nat} {x : V}, TrAll H vs l → vs[i]? = some x → ∃ t, l[i]? = some t ∧ TrAt H x t
  | _, [], _, _, .nil, h => by simp at h
  | _, t :: _, 0, x, .cons a _, h => ⟨t, rfl, by cases h; exact a⟩
  | _, _ :: _, i + 1, x, .cons _ r, h => TrAll.get (i := i) r h
theorem TrAll.len {H : Hp} : ∀ {vs : List V} {l : List Tr}, TrAll H vs l → vs.length = l.length
  | _, [], .nil => rfl
  | _, _ :: _, .cons _ r => congrArg Nat.succ (TrAll.len r)
theorem OkL.get {b : Int} : ∀ {l : List Tr} {i : Nat} {t : Tr}, Tr.OkL b l → l[i]? = some t → t.Ok b ∧ t.knots ≤ Tr.knotsL l
  | [], _, _, _, h => by simp at h
  | u :: _, 0, t, .cons a _, h => by
    cases h
    refine ⟨a, ?_⟩
    simp only [Tr.knotsL]
    omega
  | _ :: _, i + 1, t, .cons _ r, h => by
    obtain ⟨h1, h2⟩ := OkL.get (i := i) r h
    refine ⟨h1, ?_⟩
    simp only [Tr.knotsL]
    omega
theorem weave_go {K : PySem.W.Frag} {CE Cn Ce : Addr} {b : Int} {H : Hp} {x dx : Addr} {ws : List V} {l : List Tr} {Q : VK} (hx : H x = none) (hdx : H dx = none) (ne : dx ≠ x) (ea : ExAll CF kc cls b H ws l) (ok : Tr.OkL b l) (hl : (l.length : Int) = b) (b2 : 2 ≤ b) (b4 : b ≤ 4) (k : Tr.knotsL l ≤ 39)
    (own : cls (kc "weave")) (q : ∀ v H2, Same H H2 → ExAt CF kc cls b H2 v (.weave l) → Q v H2) :
    spWeave K CF CE Cn Ce cls (.ref x :: ws) (upd (upd H dx (.own x)) x (.ins (kc "weave") dx [])) (fun v H2 => v = .non ∧ Q (.ref x) H2) E0 := by
  have wl := ea.len
  obtain ⟨es, rfl, h1, h2, h3, h4⟩ := fors_of (by omega) (by omega) ea ok (by omega)
  have el : es.length = l.length := by
    rw [List.length_map] at wl
    exact wl
  refine ⟨[.ref x], es.map (fun e => V.ref e.at_), rfl, rfl, by rw [List.length_map]; exact small_line (by omega), fun p hp => ?_⟩
  have g := born (C := kc "weave") hx hdx ne
  refine ⟨x, dx, kc "weave", p, _, rfl, own, upd_other upd_same hp, upd_same, .inl ⟨es, rfl, by omega, by omega, fun e he => (h1 e he).same (g.trans (same_new hp _)), fun H2 ls bt xp pm srt => ⟨rfl, ?_⟩⟩⟩
  have s2 : Same H H2 := fun c o hc => bt c o (ne_of_none hc hx) ((g.trans (same_new hp _)) c o hc)
  have ek : (1 + (es.map (·.size)).sum : Int) = ((Tr.knots (.weave l) : Nat) : Int) := by
    simp only [Tr.knots]
    rw [h3]
    omega
  have et : spell "weave" (es.map (·.text)) = Tr.text b (.weave l) := by
    simp only [Tr.text]
    rw [h2]
  rw [ek, et] at xp
  refine q _ _ s2 (.mk (.weave l) xp (lab_of pm srt fun y => ?_) (ExAll.same s2 l _ ea))
  unfold namesOf
  rw [if_neg (by decide +kernel), h4]
  simp only [Tr.names]
theorem scMade : FnScope ["_law_tree_here", "_law_wide", "_law_kind", "_law_below", "_law_each"] ["_law_tree_here", "_law_wide"] (defScope s_law_made) := ⟨rfl, rfl, rfl, by decide +kernel, rfl, by decide +kernel, by decide +kernel⟩
theorem ok_made (F : Fun K "_law_made" "_law_made" s_law_made f fd) (T : Ctors P w K mg base CF CE Cn Cs Cm Cw Ce kc cls) (bF : Binds K fd ["_law_tree_here", "_law_wide"] []) (mF : mg "_law_made" = some (.ref f)) :
    ∀ n, FnOk P w K mg base CX0 (9 + n) f fd ["_law_tree_here", "_law_wide"] (spMade CF kc cls n) := by
  intro n
  induction n with
  | zero =>
    have no : ∀ vs H Q E, spMade CF kc cls 0 vs H Q E → False := fun vs H Q E ⟨tv, b, t, _, _, _, _, _, k0, _⟩ => by
      have := knots_pos t
      omega
    exact ⟨fun vs H Q E h => (no vs H Q E h).elim, fun A outer s H args us vs Q E _ _ _ _ h => (no vs H Q E h).elim⟩
  | succ n ih =>
    refine F.ok scMade (fun vs H Q E h => ?_) (fun cdv A outer s H vs Q E hr h => ?_)
    · obtain ⟨tv, b, t, rfl, _⟩ := h
      rfl
    obtain ⟨tv, b, t, rfl, ht, hok, b2, b4, kn, k40, q⟩ := h
    obtain ⟨ms, fS, dS, MS, GS, BS⟩ := T.sign
    obtain ⟨mn, fN, dN, MN, GN, BN⟩ := T.name
    obtain ⟨mw, fW, MW, GW⟩ := T.weave
    obtain ⟨mp, fP, dP, MP, GP, BP⟩ := T.part
    obtain ⟨md, fD, dD, MD, GD, BD⟩ := T.drop
    obtain ⟨ml, fL, dL, ML, GL, BL⟩ := T.lead
    obtain ⟨mt, fT, dT, MT, GT, BT⟩ := T.turn
    have r8 := hr.mono (show 8 ≤ 9 + n by omega)
    refine ⟨_, pss_cons (ps_set (i := 2) scMade.nd rfl (Or.inl rfl) (pe_ix ix_tup (pv 0) pe_int (fun _ _ => rfl)))
      (pss_cons (ps_if (pt_cmpR op_eq (pv 2) pe_str (nomark _)) (pss_one (ps_ret (pe_make MS GS r8 rfl ms BS .nil passL (pa_cons (pe_ix ix_tup (pv 0) pe_int (fun _ _ => rfl)) pa_nil)))) pss_nil)
      (pss_cons (ps_if (pt_cmpR op_eq (pv 2) pe_str (nomark _)) (pss_one (ps_ret (pe_make MN GN r8 rfl mn BN .nil passL (pa_cons (pe_ix ix_tup (pv 0) pe_int (fun _ _ => rfl)) pa_nil)))) pss_nil)
      (pss_cons (ps_if (pt_cmpR op_eq (pv 2) pe_str (nomark _))
        (pss_cons (ps_setLc (i := 3) (te := tCall (spMade CF kc cls n) [] E0 (tCons (tVar 4) (tCons (tVar 1) tNil))) (own := [("_law_each", 4)]) (g := gName 4) (tt := tYes) rfl scMade.nd rfl rfl (sw_true rfl rfl rfl (by decide +kernel)) (pi_list (pe_ix ix_tup (pv 0) pe_int (fun _ _ => rfl)))
            (blkOk_by (N := ["_law_tree_here", "_law_wide", "_law_kind", "_law_below", "_law_each"]) (sc := defScope s_law_made) (by decide +kernel)) (fun _ _ _ _ _ => pg_name (i := 4) scMade.nd rfl (Or.inl rfl)) (fun _ _ _ _ _ => pts_nil)
            (fun _ _ _ _ _ => pe_call ih hr rfl mF F.kp bF .nil pass0 (pa_cons (pv 4) (pa_cons (pv 1) pa_nil))))
        (pss_cons (ps_if (pt_cmpR op_eq (pv 1) pe_int (nomark _)) (pss_one (ps_ret (StX.pe_makeR MW GW r8 rfl mw passL (pa_cons (pe_ix ix_list (pv 3) pe_int (fun _ _ => rfl)) (pa_cons (pe_ix ix_list (pv 3) pe_int (fun _ _ => rfl)) pa_nil))))) pss_nil)
        (pss_cons (ps_if (pt_cmpR op_eq (pv 1) pe_int (nomark _)) (pss_one (ps_ret (StX.pe_makeR MW GW r8 rfl mw passL (pa_cons (pe_ix ix_list (pv 3) pe_int (fun _ _ => rfl)) (pa_cons (pe_ix ix_list (pv 3) pe_int (fun _ _ => rfl)) (pa_cons (pe_ix ix_list (pv 3) pe_int (fun _ _ => rfl)) pa_nil)))))) pss_nil)
        (pss_one (ps_ret (StX.pe_makeR MW GW r8 rfl mw passL (pa_cons (pe_ix ix_list (pv 3) pe_int (fun _ _ => rfl)) (pa_cons (pe_ix ix_list (pv 3) pe_int (fun _ _ => rfl)) (pa_cons (pe_ix ix_list (pv 3) pe_int (fun _ _ => rfl)) (pa_cons (pe_ix ix_list (pv 3) pe_int (fun _ _ => rfl)) pa_nil)))))))))) pss_nil)
      (pss_cons (ps_if (pt_cmpR op_eq (pv 2) pe_str (nomark _)) (pss_one (ps_ret (pe_make MP GP r8 rfl mp BP .nil passL (pa_cons (pe_ix ix_tup (pv 0) pe_int (fun _ _ => rfl)) (pa_cons (pv 1) (pa_cons (pe_call ih hr rfl mF F.kp bF .nil pass0 (pa_cons (pe_ix ix_tup (pv 0) pe_int (fun _ _ => rfl)) (pa_cons (pv 1) pa_nil))) pa_nil)))))) pss_nil)
      (pss_cons (ps_if (pt_cmpR op_eq (pv 2) pe_str (nomark _)) (pss_one (ps_ret (pe_make MD GD r8 rfl md BD .nil passL (pa_cons (pe_ix ix_tup (pv 0) pe_int (fun _ _ => rfl)) (pa_cons (pe_call ih hr rfl mF F.kp bF .nil pass0 (pa_cons (pe_ix ix_tup (pv 0) pe_int (fun _ _ => rfl)) (pa_cons (pv 1) pa_nil))) pa_nil))))) pss_nil)
      (pss_cons (ps_if (pt_cmpR op_eq (pv 2) pe_str (nomark _)) (pss_one (ps_ret (pe_make ML GL r8 rfl ml BL .nil passL (pa_cons (pe_call ih hr rfl mF F.kp bF .nil pass0 (pa_cons (pe_ix ix_tup (pv 0) pe_int (fun _ _ => rfl)) (pa_cons (pv 1) pa_nil))) (pa_cons (pe_call ih hr rfl mF F.kp bF .nil pass0 (pa_cons (pe_ix ix_tup (pv 0) pe_int (fun _ _ => rfl)) (pa_cons (pv 1) pa_nil))) pa_nil))))) pss_nil)
      (pss_one (ps_ret (pe_make MT GT r8 rfl mt BT .nil passL (pa_cons (pe_ix ix_tup (pv 0) pe_int (fun _ _ => rfl)) (pa_cons (pe_call ih hr rfl mF F.kp bF .nil pass0 (pa_cons (pe_ix ix_tup (pv 0) pe_int (fun _ _ => rfl)) (pa_cons (pv 1) pa_nil))) pa_nil))))))))))), ?_⟩
    have b0 : 0 ≤ b := by omega
    have b9 : b ≤ 9 := by omega
    cases ht with
    | @sign p s e =>
      cases hok with
      | sign es =>
        have sl := lettered_len es
        refine ⟨_, rfl, p, _, _, _, rfl, rfl, SqT.of e, rfl, ?_⟩
        refine ⟨_, rfl, rfl, _, rfl, ?_⟩
        rw [decide_eq_true rfl]
        refine iteT ?_
        refine ⟨_, rfl, p, _, _, _, rfl, rfl, SqT.of e, rfl, fun x dx hx hdx ne => ⟨x, dx, kc "sign", .str s, rfl, T.own "sign" (by simp), upd_same, .inl ⟨s, rfl, by omega, es, fun H1 bt xp => ⟨rfl, ?_⟩⟩⟩⟩
        exact q _ _ (grown hx hdx ne bt) (.mk (.sign s) xp ⟨.nil, rfl, fun x => Iff.rfl⟩ .nil)
    | @name p s e =>
      cases hok with
      | name es =>
        have sl := nameB_len es
        refine ⟨_, rfl, p, _, _, _, rfl, rfl, SqT.of e, rfl, ?_⟩
        refine ⟨_, rfl, rfl, _, rfl, ?_⟩
        rw [str_ne (by decide +kernel)]
        refine iteF ?_
        refine ⟨_, rfl, rfl, _, rfl, ?_⟩
        rw [decide_eq_true rfl]
        refine iteT ?_
        refine ⟨_, rfl, p, _, _, _, rfl, rfl, SqT.of e, rfl, fun x dx hx hdx ne => ⟨x, dx, kc "name", .str s, rfl, T.own "name" (by simp), upd_same, .inl ⟨s, rfl, by omega, es, fun H1 bt xp => ⟨rfl, ?_⟩⟩⟩⟩
        exact q _ _ (grown hx hdx ne bt) (.mk (.name s) xp ⟨by simp, rfl, fun x => Iff.rfl⟩ .nil)
    | @weave p pq vs l e e2 r =>
      cases hok with
      | weave hl okl =>
        simp only [Tr.knots] at kn k40
        refine ⟨_, rfl, p, _, _, _, rfl, rfl, SqT.of e, rfl, ?_⟩
        refine ⟨_, rfl, rfl, _, rfl, ?_⟩
        rw [str_ne (by decide +kernel)]
        refine iteF ?_
        refine ⟨_, rfl, rfl, _, rfl, ?_⟩
        rw [str_ne (by decide +kernel)]
        refine iteF ?_
        refine ⟨_, rfl, rfl, _, rfl, ?_⟩
        rw [decide_eq_true rfl]
        refine iteT ?_
        refine ⟨_, rfl, p, _, _, _, rfl, rfl, SqT.of e, rfl, pq, rfl, ⟨_, SqL.of e2⟩, fun D hD => ?_⟩
        have vl := r.len
        refine lc_list (K := K) (a := pq) (xs := vs) (fun i H1 => Same H H1 ∧ ∃ ws, H1 D = some (.lst ws) ∧ ExAll CF kc cls b H1 ws (l.take i)) ⟨same_new hD _, [], upd_same, .nil⟩ (fun i H1 _ h => SqL.of (h.1 _ _ e2)) ?_ ?_
        · rintro i x H1 hx ⟨s1, ws, h1, ea⟩
          obtain ⟨t, htt, tr⟩ := r.get hx
          obtain ⟨okt, kt⟩ := OkL.get okl htt
          have il := (List.getElem?_eq_some_iff.mp htt).1
          have wl := ea.len
          rw [List.length_take] at wl
          refine ⟨rfl, turn_yes ⟨_, rfl, _, rfl, x, b, t, rfl, TrAt.same s1 t _ tr, okt, b2, b4, by omega, by omega, fun v1 H2 s2 ex => ⟨ws, s2 _ _ h1, Nat.lt_of_lt_of_le (by omega : ws.length < 1000) (small_line (Nat.le_refl _)), fun c o hc => ?_, ws ++ [v1], upd_same, ?_⟩⟩⟩
          · rw [upd_ne (ne_of_none hc hD)]
            exact s2 _ _ (s1 _ _ hc)
          · have m : Sm H2 (upd H2 D (.lst (ws ++ [v1]))) := fun c o hc n => by
              rw [upd_ne fun z => ?_]
              · exact hc
              · rw [z, s2 _ _ h1] at hc
                exact n _ (Option.some.inj hc).symm
            have et : l.take (i + 1) = l.take i ++ [t] := by
              rw [List.take_add_one, htt]
              rfl
            rw [et]
            exact ExAll.snoc (ExAll.sm m _ _ (ExAll.same s2 _ _ ea)) (ExAt.sm m _ _ ex)
        · rintro H1 ⟨s1, ws, h1, ea⟩
          rw [vl, List.take_of_length_le (Nat.le_refl _)] at ea
          have wl := ea.len
          have q2 : ∀ v H2, Same H1 H2 → ExAt CF kc cls b H2 v (.weave l) → Q v H2 := fun v H2 s2 ex => q v H2 (s1.trans s2) ex
          have ow := T.own "weave" (by simp)
          rcases (show b = 2 ∨ b = 3 ∨ b = 4 by omega) with rfl | rfl | rfl
          · obtain ⟨x1, x2, rfl⟩ : ∃ x1 x2, ws = [x1, x2] := by
              match ws, (by omega : ws.length = 2) with
              | [x1, x2], _ => exact ⟨x1, x2, rfl⟩
            refine ⟨_, rfl, rfl, _, rfl, ?_⟩
            rw [decide_eq_true rfl]
            refine iteT ?_
            exact ⟨_, rfl, D, _, _, x1, rfl, rfl, SqL.of h1, rfl, _, rfl, D, _, _, x2, rfl, rfl, SqL.of h1, rfl, fun x dx hx hdx ne => weave_go (Q := Q) hx hdx ne ea okl hl (by omega) (by omega) (by omega) ow q2⟩
          · obtain ⟨x1, x2, x3, rfl⟩ : ∃ x1 x2 x3, ws = [x1, x2, x3] := by
              match ws, (by omega : ws.length = 3) with
              | [x1, x2, x3], _ => exact ⟨x1, x2, x3, rfl⟩
            refine ⟨_, rfl, rfl, _, rfl, ?_⟩
            rw [decide_eq_false (by decide +kernel)]
            refine iteF ?_
            refine ⟨_, rfl, rfl, _, rfl, ?_⟩
            rw [decide_eq_true rfl]
            refine iteT ?_
            exact ⟨_, rfl, D, _, _, x1, rfl, rfl, SqL.of h1, rfl, _, rfl, D, _, _, x2, rfl, rfl, SqL.of h1, rfl, _, rfl, D, _, _, x3, rfl, rfl, SqL.of h1, rfl, fun x dx hx hdx ne => weave_go (Q := Q) hx hdx ne ea okl hl (by omega) (by omega) (by omega) ow q2⟩
          · obtain ⟨x1, x2, x3, x4, rfl⟩ : ∃ x1 x2 x3 x4, ws = [x1, x2, x3, x4] := by
              match ws, (by omega : ws.length = 4) with
              | [x1, x2, x3, x4], _ => exact ⟨x1, x2, x3, x4, rfl⟩
            refine ⟨_, rfl, rfl, _, rfl, ?_⟩
            rw [decide_eq_false (by decide +kernel)]
            refine iteF ?_
            refine ⟨_, rfl, rfl, _, rfl, ?_⟩
            rw [decide_eq_false (by decide +kernel)]
            refine iteF ?_
            exact ⟨_, rfl, D, _, _, x1, rfl, rfl, SqL.of h1, rfl, _, rfl, D, _, _, x2, rfl, rfl, SqL.of h1, rfl, _, rfl, D, _, _, x3, rfl, rfl, SqL.of h1, rfl, _, rfl, D, _, _, x4, rfl, rfl, SqL.of h1, rfl, fun x dx hx hdx ne => weave_go (Q := Q) hx hdx ne ea okl hl (by omega) (by omega) (by omega) ow q2⟩
    | @part p j v t e r =>
      cases hok with
      | part j0 jb ok =>
        simp only [Tr.knots] at kn k40
        refine ⟨_, rfl, p, _, _, _, rfl, rfl, SqT.of e, rfl, ?_⟩
        refine ⟨_, rfl, rfl, _, rfl, ?_⟩
        rw [str_ne (by decide +kernel)]
        refine iteF ?_
        refine ⟨_, rfl, rfl, _, rfl, ?_⟩
        rw [str_ne (by decide +kernel)]
        refine iteF ?_
        refine ⟨_, rfl, rfl, _, rfl, ?_⟩
        rw [str_ne (by decide +kernel)]
        refine iteF ?_
        refine ⟨_, rfl, rfl, _, rfl, ?_⟩
        rw [decide_eq_true rfl]
        refine iteT ?_
        refine ⟨_, rfl, p, _, _, _, rfl, rfl, SqT.of e, rfl, _, rfl, _, rfl, p, _, _, _, rfl, rfl, SqT.of e, rfl, _, rfl, v, b, t, rfl, r, ok, b2, b4, by omega, by omega, fun v1 H1 s1 ex => fun x dx hx hdx ne => ?_⟩
        obtain ⟨o, rfl, f⟩ := for_of ex ok b0 b9 (by omega)
        have lj : lo j ≤ b := by unfold lo; split <;> omega
        refine ⟨x, dx, kc "part", .int j, .int b, _, rfl, T.own "part" (by simp), upd_same, .inl ⟨j, b, o, rfl, j0, by omega, rfl, lj, b4, rfl, f.arg.same (born hx hdx ne), fun H2 ls bt xp pm srt => ⟨rfl, ?_⟩⟩⟩
        have g := grown hx hdx ne bt
        have ek : (1 + ([o].map (·.size)).sum : Int) = ((Tr.knots (.part j t) : Nat) : Int) := by
          simp only [Tr.knots, List.map_cons, List.map_nil, List.sum_cons, List.sum_nil, f.size]
          omega
        rw [ek, f.text] at xp
        exact q _ _ (s1.trans g) (.mk (.part j t) xp (lab1 (by decide +kernel) pm srt f.lab) (.cons (ExAt.same g t _ ex) .nil))
    | @drop p j v t e r =>
      cases hok with
      | drop c1 c9 ok =>
        simp only [Tr.knots] at kn k40
        refine ⟨_, rfl, p, _, _, _, rfl, rfl, SqT.of e, rfl, ?_⟩
        refine ⟨_, rfl, rfl, _, rfl, ?_⟩
        rw [str_ne (by decide +kernel)]
        refine iteF ?_
        refine ⟨_, rfl, rfl, _, rfl, ?_⟩
        rw [str_ne (by decide +kernel)]
        refine iteF ?_
        refine ⟨_, rfl, rfl, _, rfl, ?_⟩
        rw [str_ne (by decide +kernel)]
        refine iteF ?_
        refine ⟨_, rfl, rfl, _, rfl, ?_⟩
        rw [str_ne (by decide +kernel)]
        refine iteF ?_
        refine ⟨_, rfl, rfl, _, rfl, ?_⟩
        rw [decide_eq_true rfl]
        refine iteT ?_
        refine ⟨_, rfl, p, _, _, _, rfl, rfl, SqT.of e, rfl, _, rfl, p, _, _, _, rfl, rfl, SqT.of e, rfl, _, rfl, v, b, t, rfl, r, ok, b2, b4, by omega, by omega, fun v1 H1 s1 ex => fun x dx hx hdx ne => ?_⟩
        obtain ⟨o, rfl, f⟩ := for_of ex ok b0 b9 (by omega)
        refine ⟨x, dx, kc "drop", .int j, _, rfl, T.own "drop" (by simp), upd_same, .inl ⟨j, o, rfl, c1, c9, rfl, f.arg.same (born hx hdx ne), fun H2 ls bt xp pm srt => ⟨rfl, ?_⟩⟩⟩
        have g := grown hx hdx ne bt
        have ek : (1 + ([o].map (·.size)).sum : Int) = ((Tr.knots (.drop j t) : Nat) : Int) := by
          simp only [Tr.knots, List.map_cons, List.map_nil, List.sum_cons, List.sum_nil, f.size]
          omega
        rw [ek, f.text] at xp
        exact q _ _ (s1.trans g) (.mk (.drop j t) xp (lab1 (by decide +kernel) pm srt f.lab) (.cons (ExAt.same g t _ ex) .nil))
    | @lead p v u t t2 e r r2 =>
      cases hok with
      | lead ok ok2 =>
        simp only [Tr.knots] at kn k40
        refine ⟨_, rfl, p, _, _, _, rfl, rfl, SqT.of e, rfl, ?_⟩
        refine ⟨_, rfl, rfl, _, rfl, ?_⟩
        rw [str_ne (by decide +kernel)]
        refine iteF ?_
        refine ⟨_, rfl, rfl, _, rfl, ?_⟩
        rw [str_ne (by decide +kernel)]
        refine iteF ?_
        refine ⟨_, rfl, rfl, _, rfl, ?_⟩
        rw [str_ne (by decide +kernel)]
        refine iteF ?_
        refine ⟨_, rfl, rfl, _, rfl, ?_⟩
        rw [str_ne (by decide +kernel)]
        refine iteF ?_
        refine ⟨_, rfl, rfl, _, rfl, ?_⟩
        rw [str_ne (by decide +kernel)]
        refine iteF ?_
        refine ⟨_, rfl, rfl, _, rfl, ?_⟩
        rw [decide_eq_true rfl]
        refine iteT ?_
        refine ⟨_, rfl, p, _, _, _, rfl, rfl, SqT.of e, rfl, _, rfl, v, b, t, rfl, r, ok, b2, b4, by omega, by omega, fun v1 H1 s1 ex => ⟨_, rfl, p, _, _, _, rfl, rfl, SqT.of (s1 _ _ e), rfl, _, rfl, u, b, t2, rfl, TrAt.same s1 t2 _ r2, ok2, b2, b4, by omega, by omega, fun v2 H2 s2 ex2 => fun x dx hx hdx ne => ?_⟩⟩
        obtain ⟨o, rfl, f⟩ := for_of (ExAt.same s2 t _ ex) ok b0 b9 (by omega)
        obtain ⟨o2, rfl, f2⟩ := for_of ex2 ok2 b0 b9 (by omega)
        refine ⟨x, dx, kc "lead", _, _, rfl, T.own "lead" (by simp), upd_same, .inl ⟨o, o2, rfl, rfl, f.arg.same (born hx hdx ne), f2.arg.same (born hx hdx ne), fun H3 ls bt xp pm srt => ⟨rfl, ?_⟩⟩⟩
        have g := grown hx hdx ne bt
        have ek : (1 + ([o, o2].map (·.size)).sum : Int) = ((Tr.knots (.lead t t2) : Nat) : Int) := by
          simp only [Tr.knots, List.map_cons, List.map_nil, List.sum_cons, List.sum_nil, f.size, f2.size]
          omega
        rw [ek, f.text, f2.text] at xp
        have lb : Lab (Tr.names (.lead t t2)) ls := lab_of pm srt fun y => by
          unfold namesOf
          rw [if_neg (by decide +kernel)]
          simp only [List.flatMap_cons, List.flatMap_nil, List.append_nil, List.mem_append, Tr.names, f.lab.mem, f2.lab.mem]
        exact q _ _ ((s1.trans s2).trans g) (.mk (.lead t t2) xp lb (.cons (ExAt.same (s2.trans g) t _ ex) (.cons (ExAt.same g t2 _ ex2) .nil)))
    | @turn p w v t e r =>
      cases hok with
      | turn ew ok =>
        simp only [Tr.knots] at kn k40
        have wl := lettered_len ew
        refine ⟨_, rfl, p, _, _, _, rfl, rfl, SqT.of e, rfl, ?_⟩
        refine ⟨_, rfl, rfl, _, rfl, ?_⟩
        rw [str_ne (by decide +kernel)]
        refine iteF ?_
        refine ⟨_, rfl, rfl, _, rfl, ?_⟩
        rw [str_ne (by decide +kernel)]
        refine iteF ?_
        refine ⟨_, rfl, rfl, _, rfl, ?_⟩
        rw [str_ne (by decide +kernel)]
        refine iteF ?_
        refine ⟨_, rfl, rfl, _, rfl, ?_⟩
        rw [str_ne (by decide +kernel)]
        refine iteF ?_
        refine ⟨_, rfl, rfl, _, rfl, ?_⟩
        rw [str_ne (by decide +kernel)]
        refine iteF ?_
        refine ⟨_, rfl, rfl, _, rfl, ?_⟩
        rw [str_ne (by decide +kernel)]
        refine iteF ?_
        refine ⟨_, rfl, p, _, _, _, rfl, rfl, SqT.of e, rfl, _, rfl, p, _, _, _, rfl, rfl, SqT.of e, rfl, _, rfl, v, b, t, rfl, r, ok, b2, b4, by omega, by omega, fun v1 H1 s1 ex => fun x dx hx hdx ne => ?_⟩
        obtain ⟨o, rfl, f⟩ := for_of ex ok b0 b9 (by omega)
        refine ⟨x, dx, kc "turn", .str w, _, rfl, T.own "turn" (by simp), upd_same, .inl ⟨w, o, rfl, by omega, ew, rfl, f.arg.same (born hx hdx ne), fun H2 ls bt xp pm srt => ⟨rfl, ?_⟩⟩⟩
        have g := grown hx hdx ne bt
        have ek : (1 + ([o].map (·.size)).sum : Int) = ((Tr.knots (.turn w t) : Nat) : Int) := by
          simp only [Tr.knots, List.map_cons, List.map_nil, List.sum_cons, List.sum_nil, f.size]
          omega
        rw [ek, f.text] at xp
        exact q _ _ (s1.trans g) (.mk (.turn w t) xp (lab1 (by decide +kernel) pm srt f.lab) (.cons (ExAt.same g t _ ex) .nil))
end
end Wp

namespace Wp
open PySem PySem.Spec PyProof.Rows L2 Hx
def spText (n : Nat) : Sp := fun vs H Q _ => ∃ (tv : V) (b : Int) (t : Tr), vs = [tv, .int b] ∧ TrAt H tv t ∧ t.Ok b ∧ 0 ≤ b ∧ b ≤ 9 ∧ t.knots ≤ n ∧ t.knots ≤ 100 ∧ ∀ H', Same H H' → Q (.str (t.text b)) H'
section
variable {P : Program} {w : World} {K : PySem.W.Frag} {mg : Str → Option Value} {base : Heap} {f : Addr} {fd : FuncData}
theorem spell_eq (k : Str) (ys : List Str) : spell k ys = ((k ++ "(") ++ Str.join ", " ys) ++ ")" := by
  unfold spell
  rw [PySem.Str.empty_append]
theorem join2 (x y : Str) : Str.join ", " [x, y] = x ++ ", " ++ y := rfl
theorem join3 (x y z : Str) : Str.join ", " [x, y, z] = x ++ ", " ++ (y ++ ", " ++ z) := rfl
theorem textL_n {b : Int} : ∀ {l : List Tr}, (Tr.textL b l).length = l.length
  | [] => by simp [Tr.textL]
  | t :: r => by simp only [Tr.textL, List.length_cons, textL_n (l := r)]
theorem textL_get {b : Int} : ∀ {l : List Tr} {i : Nat} {t : Tr}, l[i]? = some t → (Tr.textL b l)[i]? = some (t.text b)
  | [], _, _, h => by simp at h
  | u :: r, 0, t, h => by
    cases h
    simp only [Tr.textL]
    rfl
  | u :: r, i + 1, t, h => by
    simp only [Tr.textL]
    exact textL_get (l := r) (i := i) h
theorem scText : FnScope ["_law_tree_here", "_law_wide", "_law_kind", "_law_begin", "_law_each"] ["_law_tree_here", "_law_wide"] (defScope s_law_text) := ⟨rfl, rfl, rfl, by decide +kernel, rfl, by decide +kernel, by decide +kernel⟩
theorem ok_text (F : Fun K "_law_text" "_law_text" s_law_text f fd) (Z : Bltn mg) (bF : Binds K fd ["_law_tree_here", "_law_wide"] []) (mF : mg "_law_text" = some (.ref f)) :
    ∀ n, FnOk P w K mg base CX0 (9 + n) f fd ["_law_tree_here", "_law_wide"] (spText n) := by
  intro n
  induction n with
  | zero =>
    have no : ∀ vs H Q E, spText 0 vs H Q E → False := fun vs H Q E ⟨tv, b, t, _, _, _, _, _, k0, _⟩ => by
      have := knots_pos t
      omega
    exact ⟨fun vs H Q E h => (no vs H Q E h).elim, fun A outer s H args us vs Q E _ _ _ _ h => (no vs H Q E h).elim⟩
  | succ n ih =>
    refine F.ok scText (fun vs H Q E h => ?_) (fun cdv A outer s H vs Q E hr h => ?_)
    · obtain ⟨tv, b, t, rfl, _⟩ := h
      rfl
    obtain ⟨tv, b, t, rfl, ht, hok, b0, b9, kn, k100, q⟩ := h
    have r2 := hr.mono (show 2 ≤ 9 + n by omega)
    refine ⟨_, pss_cons (ps_set (i := 2) scText.nd rfl (Or.inl rfl) (pe_ix ix_tup (pv 0) pe_int (fun _ _ => rfl)))
      (pss_cons (ps_if (pt_cmpR op_eq (pv 2) pe_str (nomark _)) (pss_one (ps_ret (pe_op op_add_str (pe_op op_add_str pe_str (pe_ix ix_tup (pv 0) pe_int (fun _ _ => rfl))) pe_str))) pss_nil)
      (pss_cons (ps_if (pt_cmpR op_eq (pv 2) pe_str (nomark _)) (pss_one (ps_ret (pe_ix ix_tup (pv 0) pe_int (fun _ _ => rfl)))) pss_nil)
      (pss_cons (ps_if (pt_cmpR op_eq (pv 2) pe_str (nomark _)) (pss_one (ps_ret (pe_op op_add_str (pe_op op_add_str pe_str (pe_join pe_str
          (pe_lc (te := tCall (spText n) [] E0 (tCons (tVar 4) (tCons (tVar 1) tNil))) (own := [("_law_each", 4)]) (g := gName 4) (tt := tYes) rfl scText.nd (pi_list (pe_ix ix_tup (pv 0) pe_int (fun _ _ => rfl)))
            (blkOk_by (N := ["_law_tree_here", "_law_wide", "_law_kind", "_law_begin", "_law_each"]) (sc := defScope s_law_text) (by decide +kernel)) (fun _ _ _ _ _ => pg_name (i := 4) scText.nd rfl (Or.inl rfl)) (fun _ _ _ _ _ => pts_nil)
            (fun _ _ _ _ _ => pe_call ih hr rfl mF F.kp bF .nil pass0 (pa_cons (pv 4) (pa_cons (pv 1) pa_nil)))))) pe_str))) pss_nil)
      (pss_cons (ps_if (pt_cmpR op_eq (pv 2) pe_str (nomark _)) (pss_one (ps_ret (pe_op op_add_str (pe_op op_add_str (pe_op op_add_str (pe_op op_add_str pe_str
          (pe_call ih hr rfl mF F.kp bF .nil pass0 (pa_cons (pe_ix ix_tup (pv 0) pe_int (fun _ _ => rfl)) (pa_cons (pv 1) pa_nil)))) pe_str)
          (pe_call ih hr rfl mF F.kp bF .nil pass0 (pa_cons (pe_ix ix_tup (pv 0) pe_int (fun _ _ => rfl)) (pa_cons (pv 1) pa_nil)))) pe_str))) pss_nil)
      (pss_cons (ps_set (i := 3) scText.nd rfl (Or.inl rfl) (pe_op op_add_str (pe_op op_add_str (pe_op op_add_str (pv 2) pe_str) (pe_callTy (call_tell (k := 0) r2) (by rfl) Z.str (by decide +kernel) (pa_cons (pe_ix ix_tup (pv 0) pe_int (fun _ _ => rfl)) pa_nil))) pe_str))
      (pss_one (ps_ret (pe_op op_add_str (pe_op op_add_str (pe_op op_add_str (pv 3)
          (pe_ifExp (pt_cmpR op_eq (pv 2) pe_str (nomark _)) (pe_op op_add_str (pe_callTy (call_tell (k := 0) r2) (by rfl) Z.str (by decide +kernel) (pa_cons (pv 1) pa_nil)) pe_str) pe_str))
          (pe_call ih hr rfl mF F.kp bF .nil pass0 (pa_cons (pe_ix ix_tup (pv 0) pe_int (fun _ _ => rfl)) (pa_cons (pv 1) pa_nil)))) pe_str)))))))), ?_⟩
    have c0 : ("'" : Str).length = 1 := by decide +kernel
    have c1 : ("weave(" : Str).length = 6 := by decide +kernel
    have c2 : (")" : Str).length = 1 := by decide +kernel
    have c3 : ("lead(" : Str).length = 5 := by decide +kernel
    have c4 : (", " : Str).length = 2 := by decide +kernel
    have c5 : ("(" : Str).length = 1 := by decide +kernel
    have c6 : ("" : Str).length = 0 := by decide +kernel
    have d0 : ("part" : Str).length = 4 := by decide +kernel
    have d1 : ("drop" : Str).length = 4 := by decide +kernel
    have d2 : ("turn" : Str).length = 4 := by decide +kernel
    have big : 10000 ≤ sizeLine := by decide
    have tl := text_len b0 b9 t hok
    cases ht with
    | @sign p s e =>
      cases hok with
      | sign es =>
        have sl := lettered_len es
        refine ⟨_, rfl, p, _, _, _, rfl, rfl, SqT.of e, rfl, ?_⟩
        refine ⟨_, rfl, rfl, _, rfl, ?_⟩
        rw [decide_eq_true rfl]
        refine iteT ?_
        refine ⟨_, rfl, p, _, _, _, rfl, rfl, SqT.of e, rfl, _, _, rfl, rfl, (by (try simp only [PySem.Str.length_append, c0, c1, c2, c3, c4, c5, c6, d0, d1, d2]); omega), _, _, rfl, rfl, (by (try simp only [PySem.Str.length_append, c0, c1, c2, c3, c4, c5, c6, d0, d1, d2]); omega), ?_⟩
        have z := q H (Same.refl H)
        simp only [Tr.text, PySem.Str.empty_append] at z
        exact z
    | @name p s e =>
      refine ⟨_, rfl, p, _, _, _, rfl, rfl, SqT.of e, rfl, ?_⟩
      refine ⟨_, rfl, rfl, _, rfl, ?_⟩
      rw [str_ne (by decide +kernel)]
      refine iteF ?_
      refine ⟨_, rfl, rfl, _, rfl, ?_⟩
      rw [decide_eq_true rfl]
      refine iteT ?_
      refine ⟨_, rfl, p, _, _, _, rfl, rfl, SqT.of e, rfl, ?_⟩
      have z := q H (Same.refl H)
      simp only [Tr.text] at z
      exact z
    | @weave p pq vs l e e2 r =>
      cases hok with
      | weave hl okl =>
        have ll := textL_len b0 b9 l okl
        simp only [Tr.knots] at kn k100
        refine ⟨_, rfl, p, _, _, _, rfl, rfl, SqT.of e, rfl, ?_⟩
        refine ⟨_, rfl, rfl, _, rfl, ?_⟩
        rw [str_ne (by decide +kernel)]
        refine iteF ?_
        refine ⟨_, rfl, rfl, _, rfl, ?_⟩
        rw [str_ne (by decide +kernel)]
        refine iteF ?_
        refine ⟨_, rfl, rfl, _, rfl, ?_⟩
        rw [decide_eq_true rfl]
        refine iteT ?_
        have vl := r.len
        refine ⟨⟨_, rfl⟩, _, rfl, p, _, _, _, rfl, rfl, SqT.of e, rfl, pq, rfl, ⟨_, SqL.of e2⟩, fun D hD => ?_⟩
        refine lc_list (K := K) (a := pq) (xs := vs) (fun i H1 => Same H H1 ∧ H1 D = some (.lst (((Tr.textL b l).take i).map V.str))) ⟨same_new hD _, upd_same⟩ (fun i H1 _ h => SqL.of (h.1 _ _ e2)) ?_ ?_
        · rintro i x H1 hx ⟨s1, h1⟩
          obtain ⟨t, htt, tr⟩ := r.get hx
          obtain ⟨okt, kt⟩ := OkL.get okl htt
          refine ⟨rfl, turn_yes ⟨_, rfl, _, rfl, x, b, t, rfl, TrAt.same s1 t _ tr, okt, b0, b9, by omega, by omega, fun H2 s2 => ⟨_, s2 _ _ h1, ?_, fun c o hc => ?_, ?_⟩⟩⟩
          · rw [List.length_map, List.length_take]
            exact Nat.lt_of_lt_of_le (by omega : _ < 10000) big
          · rw [upd_ne (ne_of_none hc hD)]
            exact s2 _ _ (s1 _ _ hc)
          · rw [upd_same, List.take_add_one, textL_get htt]
            simp
        · rintro H1 ⟨s1, h1⟩
          rw [vl, ← textL_n, List.take_of_length_le (Nat.le_refl _)] at h1
          have jl := join_len ", " (Tr.textL b l)
          rw [c4] at jl
          refine ⟨", ", D, Tr.textL b l, rfl, rfl, .inl (SqL.of h1), by rw [c4]; omega, ?_⟩
          rw [TL.join_eq]
          refine ⟨_, _, rfl, rfl, (by (try simp only [PySem.Str.length_append, c0, c1, c2, c3, c4, c5, c6, d0, d1, d2]); omega), _, _, rfl, rfl, (by (try simp only [PySem.Str.length_append, c0, c1, c2, c3, c4, c5, c6, d0, d1, d2]); omega), ?_⟩
          have z := q H1 s1
          simp only [Tr.text, spell_eq, (by decide +kernel : ("weave" : Str) ++ "(" = "weave(")] at z
          exact z
    | @lead p v u t t2 e r r2 =>
      cases hok with
      | lead ok ok2 =>
        have l1 := text_len b0 b9 t ok
        have l2 := text_len b0 b9 t2 ok2
        simp only [Tr.knots] at kn k100
        refine ⟨_, rfl, p, _, _, _, rfl, rfl, SqT.of e, rfl, ?_⟩
        refine ⟨_, rfl, rfl, _, rfl, ?_⟩
        rw [str_ne (by decide +kernel)]
        refine iteF ?_
        refine ⟨_, rfl, rfl, _, rfl, ?_⟩
        rw [str_ne (by decide +kernel)]
        refine iteF ?_
        refine ⟨_, rfl, rfl, _, rfl, ?_⟩
        rw [str_ne (by decide +kernel)]
        refine iteF ?_
        refine ⟨_, rfl, rfl, _, rfl, ?_⟩
        rw [decide_eq_true rfl]
        refine iteT ?_
        refine ⟨_, rfl, p, _, _, _, rfl, rfl, SqT.of e, rfl, _, rfl, v, b, t, rfl, r, ok, b0, b9, by omega, by omega, fun H1 s1 => ⟨_, _, rfl, rfl, (by (try simp only [PySem.Str.length_append, c0, c1, c2, c3, c4, c5, c6, d0, d1, d2]); omega), _, _, rfl, rfl, (by (try simp only [PySem.Str.length_append, c0, c1, c2, c3, c4, c5, c6, d0, d1, d2]); omega), _, rfl, p, _, _, _, rfl, rfl, SqT.of (s1 _ _ e), rfl, _, rfl, u, b, t2, rfl, TrAt.same s1 t2 _ r2, ok2, b0, b9, by omega, by omega, fun H2 s2 => ⟨_, _, rfl, rfl, (by (try simp only [PySem.Str.length_append, c0, c1, c2, c3, c4, c5, c6, d0, d1, d2]); omega), _, _, rfl, rfl, (by (try simp only [PySem.Str.length_append, c0, c1, c2, c3, c4, c5, c6, d0, d1, d2]); omega), ?_⟩⟩⟩
        have z := q H2 (s1.trans s2)
        simp only [Tr.text, spell_eq, join2, (by decide +kernel : ("lead" : Str) ++ "(" = "lead("), PySem.Str.append_assoc] at z ⊢
        exact z
    | @part p j v t e r =>
      cases hok with
      | part j0 jb ok =>
        have y1 := fig_one j0 (by omega)
        have y2 := fig_one b0 b9
        have l1 := text_len b0 b9 t ok
        simp only [Tr.knots] at kn k100
        refine ⟨_, rfl, p, _, _, _, rfl, rfl, SqT.of e, rfl, ?_⟩
        refine ⟨_, rfl, rfl, _, rfl, ?_⟩
        rw [str_ne (by decide +kernel)]
        refine iteF ?_
        refine ⟨_, rfl, rfl, _, rfl, ?_⟩
        rw [str_ne (by decide +kernel)]
        refine iteF ?_
        refine ⟨_, rfl, rfl, _, rfl, ?_⟩
        rw [str_ne (by decide +kernel)]
        refine iteF ?_
        refine ⟨_, rfl, rfl, _, rfl, ?_⟩
        rw [str_ne (by decide +kernel)]
        refine iteF ?_
        refine ⟨_, rfl, _, _, rfl, rfl, (by (try simp only [PySem.Str.length_append, c0, c1, c2, c3, c4, c5, c6, d0, d1, d2]); omega), _, rfl, p, _, _, _, rfl, rfl, SqT.of e, rfl, _, rfl, .inl ⟨j, rfl, small_log ⟨j0, by omega⟩, ?_⟩⟩
        refine ⟨_, _, rfl, rfl, (by (try simp only [PySem.Str.length_append, c0, c1, c2, c3, c4, c5, c6, d0, d1, d2]); omega), _, _, rfl, rfl, (by (try simp only [PySem.Str.length_append, c0, c1, c2, c3, c4, c5, c6, d0, d1, d2]); omega), ?_⟩
        refine ⟨_, rfl, _, rfl, rfl, _, rfl, ?_⟩
        rw [decide_eq_true rfl]
        refine iteT ⟨_, rfl, _, rfl, .inl ⟨b, rfl, small_log ⟨b0, by omega⟩, _, _, rfl, rfl, (by (try simp only [PySem.Str.length_append, c0, c1, c2, c3, c4, c5, c6, d0, d1, d2]); omega), _, _, rfl, rfl, (by (try simp only [PySem.Str.length_append, c0, c1, c2, c3, c4, c5, c6, d0, d1, d2]); omega), ?_⟩⟩
        refine ⟨_, rfl, p, _, _, _, rfl, rfl, SqT.of e, rfl, _, rfl, v, b, t, rfl, r, ok, b0, b9, by omega, by omega, fun H1 s1 => ⟨_, _, rfl, rfl, (by (try simp only [PySem.Str.length_append, c0, c1, c2, c3, c4, c5, c6, d0, d1, d2]); omega), _, _, rfl, rfl, (by (try simp only [PySem.Str.length_append, c0, c1, c2, c3, c4, c5, c6, d0, d1, d2]); omega), ?_⟩⟩
        have z := q H1 s1
        simp only [Tr.text, spell_eq, join3, PySem.Str.append_assoc, (by decide +kernel : ("" : Str) = Str.empty), PySem.Str.empty_append] at z ⊢
        exact z
    | @drop p j v t e r =>
      cases hok with
      | drop c1' c9 ok =>
        have y1 := fig_one (i := j) (by omega) c9
        have l1 := text_len b0 b9 t ok
        simp only [Tr.knots] at kn k100
        refine ⟨_, rfl, p, _, _, _, rfl, rfl, SqT.of e, rfl, ?_⟩
        refine ⟨_, rfl, rfl, _, rfl, ?_⟩
        rw [str_ne (by decide +kernel)]
        refine iteF ?_
        refine ⟨_, rfl, rfl, _, rfl, ?_⟩
        rw [str_ne (by decide +kernel)]
        refine iteF ?_
        refine ⟨_, rfl, rfl, _, rfl, ?_⟩
        rw [str_ne (by decide +kernel)]
        refine iteF ?_
        refine ⟨_, rfl, rfl, _, rfl, ?_⟩
        rw [str_ne (by decide +kernel)]
        refine iteF ?_
        refine ⟨_, rfl, _, _, rfl, rfl, (by (try simp only [PySem.Str.length_append, c0, c1, c2, c3, c4, c5, c6, d0, d1, d2]); omega), _, rfl, p, _, _, _, rfl, rfl, SqT.of e, rfl, _, rfl, .inl ⟨j, rfl, small_log ⟨by omega, by omega⟩, ?_⟩⟩
        refine ⟨_, _, rfl, rfl, (by (try simp only [PySem.Str.length_append, c0, c1, c2, c3, c4, c5, c6, d0, d1, d2]); omega), _, _, rfl, rfl, (by (try simp only [PySem.Str.length_append, c0, c1, c2, c3, c4, c5, c6, d0, d1, d2]); omega), ?_⟩
        refine ⟨_, rfl, _, rfl, rfl, _, rfl, ?_⟩
        rw [str_ne (by decide +kernel)]
        refine iteF ⟨_, _, rfl, rfl, (by (try simp only [PySem.Str.length_append, c0, c1, c2, c3, c4, c5, c6, d0, d1, d2]); omega), ?_⟩
        refine ⟨_, rfl, p, _, _, _, rfl, rfl, SqT.of e, rfl, _, rfl, v, b, t, rfl, r, ok, b0, b9, by omega, by omega, fun H1 s1 => ⟨_, _, rfl, rfl, (by (try simp only [PySem.Str.length_append, c0, c1, c2, c3, c4, c5, c6, d0, d1, d2]); omega), _, _, rfl, rfl, (by (try simp only [PySem.Str.length_append, c0, c1, c2, c3, c4, c5, c6, d0, d1, d2]); omega), ?_⟩⟩
        have z := q H1 s1
        simp only [Tr.text, spell_eq, join2, PySem.Str.append_assoc, (by decide +kernel : ("" : Str) = Str.empty), PySem.Str.empty_append] at z ⊢
        exact z
    | @turn p w v t e r =>
      cases hok with
      | turn ew ok =>
        have y1 := lettered_len ew
        have l1 := text_len b0 b9 t ok
        simp only [Tr.knots] at kn k100
        refine ⟨_, rfl, p, _, _, _, rfl, rfl, SqT.of e, rfl, ?_⟩
        refine ⟨_, rfl, rfl, _, rfl, ?_⟩
        rw [str_ne (by decide +kernel)]
        refine iteF ?_
        refine ⟨_, rfl, rfl, _, rfl, ?_⟩
        rw [str_ne (by decide +kernel)]
        refine iteF ?_
        refine ⟨_, rfl, rfl, _, rfl, ?_⟩
        rw [str_ne (by decide +kernel)]
        refine iteF ?_
        refine ⟨_, rfl, rfl, _, rfl, ?_⟩
        rw [str_ne (by decide +kernel)]
        refine iteF ?_
        refine ⟨_, rfl, _, _, rfl, rfl, (by (try simp only [PySem.Str.length_append, c0, c1, c2, c3, c4, c5, c6, d0, d1, d2]); omega), _, rfl, p, _, _, _, rfl, rfl, SqT.of e, rfl, _, rfl, .inr (.inl ⟨w, rfl, ?_⟩)⟩
        refine ⟨_, _, rfl, rfl, (by (try simp only [PySem.Str.length_append, c0, c1, c2, c3, c4, c5, c6, d0, d1, d2]); omega), _, _, rfl, rfl, (by (try simp only [PySem.Str.length_append, c0, c1, c2, c3, c4, c5, c6, d0, d1, d2]); omega), ?_⟩
        refine ⟨_, rfl, _, rfl, rfl, _, rfl, ?_⟩
        rw [str_ne (by decide +kernel)]
        refine iteF ⟨_, _, rfl, rfl, (by (try simp only [PySem.Str.length_append, c0, c1, c2, c3, c4, c5, c6, d0, d1, d2]); omega), ?_⟩
        refine ⟨_, rfl, p, _, _, _, rfl, rfl, SqT.of e, rfl, _, rfl, v, b, t, rfl, r, ok, b0, b9, by omega, by omega, fun H1 s1 => ⟨_, _, rfl, rfl, (by (try simp only [PySem.Str.length_append, c0, c1, c2, c3, c4, c5, c6, d0, d1, d2]); omega), _, _, rfl, rfl, (by (try simp only [PySem.Str.length_append, c0, c1, c2, c3, c4, c5, c6, d0, d1, d2]); omega), ?_⟩⟩
        have z := q H1 s1
        simp only [Tr.text, spell_eq, join2, PySem.Str.append_assoc, (by decide +kernel : ("" : Str) = Str.empty), PySem.Str.empty_append] at z ⊢
        exact z
end
end Wp

namespace Wp
open PySem PySem.Spec PyProof.Rows L2 Hx
/-- _law_of, over a text: one of its signs -/
def spOfS : Sp := fun vs H Q _ => ∃ (d : Addr) (z : Str), vs = [.ref d, .str z] ∧ 0 < z.length ∧ z.length ≤ 1000 ∧ DeckAt H d ∧ ∀ c H', c ∈ z.cps.toList → But d H H' → DeckAt H' d → Q (.str ⟨#[c]⟩) H'
section
variable {P : Program} {w : World} {K : PySem.W.Frag} {mg : Str → Option Value} {base : Heap} {f fC fO : Addr} {fd fdC fdO : FuncData}
theorem ok_ofS (F : Fun K "_law_of" "_law_of" s_law_of f fd) (GC : FnOk P w K mg base CX0 1 fC fdC ["_law_deck_here", "_law_top"] spCard) (bC : Binds K fdC ["_law_deck_here", "_law_top"] [])
    (kC : PySem.W.keepIn K (.ref fC) = true) (mC : mg "_law_card" = some (.ref fC)) (ml : mg "len" = none) : FnOk P w K mg base CX0 2 f fd ["_law_deck_here", "_law_menu"] spOfS := by
  refine F.ok scOf (fun vs H Q E h => ?_) (fun cdv A outer s H vs Q E hr h => ?_)
  · obtain ⟨d, z, rfl, _⟩ := h
    rfl
  obtain ⟨d, z, rfl, z0, z1, hd, q⟩ := h
  refine ⟨_, pss_one (ps_ret (pe_ix ix_str (pv 1) (pe_call GC hr rfl mC kC bC .nil pass0 (pa_cons (pv 0) (pa_cons
    (pe_callB call_len_str (by rfl) ml PySem.boot_len (pa_cons (pv 1) pa_nil)) pa_nil))) (fun _ _ => rfl))), ?_⟩
  have zl : z.cps.toList.length = z.length := Array.length_toList
  refine ⟨_, rfl, _, rfl, _, rfl, z, rfl, small_line z1, d, _, rfl, by omega, by omega, hd, fun r H' r0 r1 b hd' => ?_⟩
  obtain ⟨c, hc, ec⟩ := atI_in (xs := z.cps.toList) r0 (by rw [zl]; exact r1)
  exact ⟨_, _, c, rfl, rfl, small_line z1, ec, q c H' hc b hd'⟩
end
end Wp

namespace Wp
open PySem PySem.Spec PyProof.Rows L2 Hx
theorem deck_ne {H : Hp} {d c : Addr} {o : HO} (hd : DeckAt H d) (h : H c = some o) (n : ∀ a m k : Int, o ≠ .lst [.int a, .int m, .int k]) : c ≠ d := fun z => by
  obtain ⟨a, m, k, _, _, e⟩ := hd
  rw [z, e] at h
  exact n a m k (Option.some.inj h).symm
mutual
theorem TrAt.but {H H' : Hp} {d : Addr} (hd : DeckAt H d) (s : But d H H') : ∀ (t : Tr) (v : V), TrAt H v t → TrAt H' v t
  | .sign _, _, h => by cases h with | sign e => exact .sign (s _ _ (deck_ne hd e (by intro a m k z; cases z)) e)
  | .name _, _, h => by cases h with | name e => exact .name (s _ _ (deck_ne hd e (by intro a m k z; cases z)) e)
  | .weave l, _, h => by
    cases h with
    | weave e e2 r =>
      refine .weave (s _ _ (deck_ne hd e (by intro a m k z; cases z)) e) (s _ _ (deck_ne hd e2 fun a m k z => ?_) e2) (TrAll.but hd s l _ r)
      cases HO.lst.inj z
      cases r with
      | cons a _ => cases a
  | .part _ t, _, h => by cases h with | part e r => exact .part (s _ _ (deck_ne hd e (by intro a m k z; cases z)) e) (TrAt.but hd s t _ r)
  | .drop _ t, _, h => by cases h with | drop e r => exact .drop (s _ _ (deck_ne hd e (by intro a m k z; cases z)) e) (TrAt.but hd s t _ r)
  | .lead t u, _, h => by cases h with | lead e r r2 => exact .lead (s _ _ (deck_ne hd e (by intro a m k z; cases z)) e) (TrAt.but hd s t _ r) (TrAt.but hd s u _ r2)
  | .turn _ t, _, h => by cases h with | turn e r => exact .turn (s _ _ (deck_ne hd e (by intro a m k z; cases z)) e) (TrAt.but hd s t _ r)
theorem TrAll.but {H H' : Hp} {d : Addr} (hd : DeckAt H d) (s : But d H H') : ∀ (l : List Tr) (vs : List V), TrAll H vs l → TrAll H' vs l
  | [], _, h => by cases h; exact .nil
  | t :: r, _, h => by cases h with | cons a b => exact .cons (TrAt.but hd s t _ a) (TrAll.but hd s r _ b)
end
theorem but_free {H H' : Hp} {d p : Addr} (b : But d H H') (hd : DeckAt H' d) (hp : H' p = none) : H p = none := by
  cases e : H p with
  | none => rfl
  | some o =>
    obtain ⟨x, y, k, _, _, g⟩ := hd
    by_cases n : p = d
    · rw [← n, hp] at g
      cases g
    · have z := b p o n e
      rw [hp] at z
      cases z
theorem new_same {H H1 H2 H3 : Hp} {d : Addr} (b : But d H H1) (hd : DeckAt H1 d) (b' : But d H2 H3) : Same (newPart H1 H2) (newPart H H3) := fun c o h => by
  obtain ⟨n, e⟩ := newPart_some h
  refine newPart_at (but_free b hd n) (b' c o (fun z => ?_) e)
  obtain ⟨x, y, k, _, _, g⟩ := hd
  rw [← z, n] at g
  cases g
/-- letters that may be drawn -/
structure Letters (z : Str) : Prop where
  one : 1 ≤ z.length
  four : z.length ≤ 4
  low : ∀ c ∈ z.cps.toList, letterB c = true
theorem letter_sign {z : Str} (h : Letters z) {c : Nat} (hc : c ∈ z.cps.toList) : lettered 1 ⟨#[c]⟩ = true := by
  have l : (⟨#[c]⟩ : Str).length = 1 := rfl
  unfold lettered
  rw [l]
  simp [h.low c hc]
def spLeafT : Sp := fun vs H Q _ => ∃ (d m : Addr) (z : Str) (ns : List Str), vs = [.ref d, .str z, .ref m] ∧ DeckAt H d ∧ Letters z ∧ H m = some (.lst (ns.map V.str)) ∧ (∀ n ∈ ns, nameB n = true ∧ PyData.strOk n = true) ∧ ns.length ≤ 20 ∧
  ∀ v H' t, But d H H' → DeckAt H' d → TrAt (newPart H H') v t → (∀ b, t.Ok b) → t.knots = 1 → Q v H'
theorem shaped_names : ∀ {ns : List Str}, (∀ n ∈ ns, PyData.strOk n = true) → PyData.canLayAll0 (ns.map PyData.str) = true ∧ PyData.depthAll (ns.map PyData.str) = 0
  | [], _ => ⟨rfl, rfl⟩
  | n :: ns, h => by
    obtain ⟨h1, h2⟩ := shaped_names (ns := ns) fun x hx => h x (List.mem_cons_of_mem _ hx)
    constructor
    · show (PyData.strOk n && PyData.canLayAll0 (ns.map PyData.str)) = true
      rw [h n List.mem_cons_self, h1]
      rfl
    · show max 0 (PyData.depthAll (ns.map PyData.str)) = 0
      rw [h2]
      rfl
theorem dq_names {H : Hp} : ∀ ns : List Str, DqAll H (ns.map V.str) (ns.map PyData.str)
  | [] => .nil
  | n :: ns => .cons (.str n) (dq_names ns)
section
variable {P : Program} {w : World} {K : PySem.W.Frag} {mg : Str → Option Value} {base : Heap} {f fC fO : Addr} {fd fdC fdO : FuncData}
theorem scLeaf : FnScope ["_law_deck_here", "_law_letters", "_law_menu"] ["_law_deck_here", "_law_letters", "_law_menu"] (defScope s_law_leaf) := ⟨rfl, rfl, rfl, by decide +kernel, rfl, by decide +kernel, by decide +kernel⟩
theorem ok_leaf (F : Fun K "_law_leaf" "_law_leaf" s_law_leaf f fd) (GC : FnOk P w K mg base CX0 1 fC fdC ["_law_deck_here", "_law_top"] spCard) (bC : Binds K fdC ["_law_deck_here", "_law_top"] []) (kC : PySem.W.keepIn K (.ref fC) = true) (mC : mg "_law_card" = some (.ref fC))
    (GO : FnOk P w K mg base CX0 2 fO fdO ["_law_deck_here", "_law_menu"] (spOf K)) (GS : FnOk P w K mg base CX0 2 fO fdO ["_law_deck_here", "_law_menu"] spOfS) (bO : Binds K fdO ["_law_deck_here", "_law_menu"] []) (kO : PySem.W.keepIn K (.ref fO) = true) (mO : mg "_law_of" = some (.ref fO)) :
    FnOk P w K mg base CX0 3 f fd ["_law_deck_here", "_law_letters", "_law_menu"] spLeafT := by
  refine F.ok scLeaf (fun vs H Q E h => ?_) (fun cdv A outer s H vs Q E hr h => ?_)
  · obtain ⟨d, m, z, ns, rfl, _⟩ := h
    rfl
  obtain ⟨d, m, z, ns, rfl, hd, hz, hm, hn, few, q⟩ := h
  refine ⟨_, pss_cons (ps_if (PW.pt (pw_or (pt_cmpR (op_eqQ hr.units) (pv 2) (pe_lst pa_nil) (nomark _)) (pw_or1 (pt_cmpR op_eq (pe_call GC (hr.mono (by decide)) rfl mC kC bC .nil pass0 (pa_cons (pv 0) (pa_cons pe_int pa_nil))) pe_int (nomark _)))))
      (pss_one (ps_ret (pe_tup (pa_cons pe_str (pa_cons (pe_call GS hr rfl mO kO bO .nil pass0 (pa_cons (pv 0) (pa_cons (pv 1) pa_nil))) pa_nil))))) pss_nil)
    (pss_one (ps_ret (pe_tup (pa_cons pe_str (pa_cons (pe_call GO hr rfl mO kO bO .nil pass0 (pa_cons (pv 0) (pa_cons (pv 2) pa_nil))) pa_nil))))), ?_⟩
  have sh : SeqAt.shaped (.list (ns.map PyData.str)) = true := by
    obtain ⟨h1, h2⟩ := shaped_names fun n h => (hn n h).2
    show (PyData.canLayAll0 (ns.map PyData.str) && decide (PyData.depthAll (ns.map PyData.str) + 1 ≤ 64)) = true
    rw [h1, h2]
    rfl
  have sign : ∀ H1, But d H H1 → DeckAt H1 d → ∀ c H2, c ∈ z.cps.toList → But d H1 H2 → DeckAt H2 d → ∀ p, H2 p = none → Q (.ref p) (upd H2 p (.tup [.str "sign", .str ⟨#[c]⟩])) := fun H1 b1 d1 c H2 hc b2 d2 p hp => by
    obtain ⟨x, y, k, h1, h2, e⟩ := id d2
    exact q _ _ (.sign ⟨#[c]⟩) ((b1.trans b2).new hp _) ⟨x, y, k, h1, h2, by rw [upd_ne (ne_of_none e hp)]; exact e⟩ (.sign (newPart_at (but_free (b1.trans b2) d2 hp) upd_same)) (fun b => .sign (letter_sign hz hc)) (by simp [Tr.knots])
  refine ⟨_, rfl, (by show 0 ≤ sizeLine; decide), fun pe hpe => ?_⟩
  have s1 := same_new hpe (.lst [])
  obtain ⟨x0, y0, k0, g1, g2, g3⟩ := id hd
  have d1 : DeckAt (upd H pe (.lst [])) d := ⟨x0, y0, k0, g1, g2, s1 _ _ g3⟩
  refine ⟨_, _, .lst (s1 _ _ hm) (dq_names ns), .lst upd_same .nil, sh, rfl, _, rfl, ?_⟩
  cases ns with
  | nil =>
    refine iteT (iteT ⟨_, rfl, _, rfl, d, z, rfl, by have := hz.one; omega, by have := hz.four; omega, d1, fun c H2 hc b2 d2 => ⟨(by show 2 ≤ sizeLine; decide), fun p hp => sign _ (But.of s1) d1 c H2 hc b2 d2 p hp⟩⟩)
  | cons n ns =>
    refine iteF ⟨_, rfl, d, 6, rfl, by decide, by decide, d1, fun r H1 r0 r6 b1 d1' => ⟨rfl, _, rfl, ?_⟩⟩
    have bb : But d H H1 := (But.of s1).trans b1
    refine ite2 (fun c0 => ?_) (fun c0 => ?_)
    · exact ⟨_, rfl, _, rfl, d, z, rfl, by have := hz.one; omega, by have := hz.four; omega, d1', fun c H2 hc b2 d2 => ⟨(by show 2 ≤ sizeLine; decide), fun p hp => sign _ bb d1' c H2 hc b2 d2 p hp⟩⟩
    · have hm1 : H1 m = some (.lst ((n :: ns).map V.str)) := bb _ _ (deck_ne hd hm (by intro a m k z; cases HO.lst.inj z)) hm
      refine ⟨_, rfl, _, rfl, d, m, _, rfl, Ne.symm (deck_ne hd hm (by intro a m k z; cases HO.lst.inj z)), SqL.of hm1, by simp, by rw [List.length_map]; omega, d1', fun v H2 hv b2 d2 => ⟨(by show 2 ≤ sizeLine; decide), fun p hp => ?_⟩⟩
      obtain ⟨nm, hnm, rfl⟩ := List.mem_map.mp hv
      obtain ⟨x, y, k, h1, h2, e⟩ := id d2
      exact q _ _ (.name nm) ((bb.trans b2).new hp _) ⟨x, y, k, h1, h2, by rw [upd_ne (ne_of_none e hp)]; exact e⟩ (.name (newPart_at (but_free (bb.trans b2) d2 hp) upd_same)) (fun b => .name (hn nm hnm).1) (by simp [Tr.knots])
end
end Wp

namespace Wp
open PySem PySem.Spec PyProof.Rows L2 Hx
def Nms (ns : List Str) : Prop := (∀ n ∈ ns, nameB n = true ∧ PyData.strOk n = true) ∧ ns.length ≤ 20
/-- the frame of a tree: base, signs, names outside of weaves, within them, under parts; no simple turns -/
def FrameAt (H : Hp) (fr : Addr) (b : Int) (z : Str) : Prop := ∃ (m1 m2 m3 : Addr) (n1 n2 n3 : List Str), H fr = some (.lst [.int b, .str z, .ref m1, .ref m2, .ref m3, .bl false]) ∧
  H m1 = some (.lst (n1.map V.str)) ∧ H m2 = some (.lst (n2.map V.str)) ∧ H m3 = some (.lst (n3.map V.str)) ∧ Nms n1 ∧ Nms n2 ∧ Nms n3
theorem names_ne {ns : List Str} : ∀ a m k : Int, HO.lst (ns.map V.str) ≠ .lst [.int a, .int m, .int k] := fun a m k z => by
  have y := HO.lst.inj z
  cases ns with
  | nil => cases y
  | cons n r => cases y
theorem FrameAt.but {H H' : Hp} {d fr : Addr} {b : Int} {z : Str} (hd : DeckAt H d) (s : But d H H') (h : FrameAt H fr b z) : FrameAt H' fr b z := by
  obtain ⟨m1, m2, m3, n1, n2, n3, h0, h1, h2, h3, k⟩ := h
  exact ⟨m1, m2, m3, n1, n2, n3, s _ _ (deck_ne hd h0 (by intro a m k z; cases z)) h0, s _ _ (deck_ne hd h1 names_ne) h1, s _ _ (deck_ne hd h2 names_ne) h2, s _ _ (deck_ne hd h3 names_ne) h3, k⟩
def spTree (n : Nat) : Sp := fun vs H Q _ => ∃ (d fr : Addr) (room parts b : Int) (z : Str), vs = [.ref d, .ref fr, .int room, .int parts] ∧ DeckAt H d ∧ FrameAt H fr b z ∧ Letters z ∧ 2 ≤ b ∧ b ≤ 4 ∧ 1 ≤ room ∧ room ≤ n ∧ room ≤ 100 ∧
  ∀ v H' t, But d H H' → DeckAt H' d → TrAt (newPart H H') v t → t.Ok b → (t.knots : Int) ≤ room → Q v H'
theorem and_if {tA tB : TT} {T W : TS} {D : Ends} {σ : L2.St} {H : Hp} {p1 p2 : Bool} (h1 : ∀ Q : Bool → Hp → Prop, Q p1 H → tA σ H Q) (h2 : ∀ Q : Bool → Hp → Prop, Q p2 H → tB σ H Q)
    (ht : p1 = true → p2 = true → T { D with nx := W D } σ H) (hf : (p1 && p2) = false → W D σ H) : tSeq (tIfS (tAnd tA tB) T tNext) W D σ H := by
  refine h1 _ ?_
  cases p1 with
  | false => exact iteF (iteF (hf rfl))
  | true =>
    refine iteT (h2 _ ?_)
    cases p2 with
    | false => exact iteF (hf rfl)
    | true => exact iteT (ht rfl rfl)
theorem one_if {tA : TT} {T W : TS} {D : Ends} {σ : L2.St} {H : Hp} {p1 : Bool} (h1 : ∀ Q : Bool → Hp → Prop, Q p1 H → tA σ H Q)
    (ht : p1 = true → T { D with nx := W D } σ H) (hf : p1 = false → W D σ H) : tSeq (tIfS tA T tNext) W D σ H := by
  refine h1 _ ?_
  cases p1 with
  | false => exact iteF (hf rfl)
  | true => exact iteT (ht rfl)
theorem DeckAt.new {H : Hp} {d p : Addr} {o : HO} (h : DeckAt H d) (hp : H p = none) : DeckAt (upd H p o) d := by
  obtain ⟨x, y, k, h1, h2, e⟩ := h
  exact ⟨x, y, k, h1, h2, by rw [upd_ne (ne_of_none e hp)]; exact e⟩
theorem TrAll.snoc {H : Hp} {v : V} {t : Tr} : ∀ {vs : List V} {l : List Tr}, TrAll H vs l → TrAt H v t → TrAll H (vs ++ [v]) (l ++ [t])
  | _, [], .nil, h => .cons h .nil
  | _, _ :: _, .cons a r, h => .cons a (TrAll.snoc r h)
theorem OkL.snoc {b : Int} {t : Tr} : ∀ {l : List Tr}, Tr.OkL b l → t.Ok b → Tr.OkL b (l ++ [t])
  | [], .nil, h => .cons h .nil
  | _ :: _, .cons a r, h => .cons a (OkL.snoc r h)
theorem knots_snoc {t : Tr} : ∀ {l : List Tr}, Tr.knotsL (l ++ [t]) = Tr.knotsL l + t.knots
  | [] => by simp [Tr.knotsL]
  | u :: r => by
    show Tr.knotsL (u :: (r ++ [t])) = _
    simp only [Tr.knotsL]
    rw [knots_snoc (l := r)]
    omega
theorem join_letters : ∀ ys : List Str, (∀ y ∈ ys, ∃ c, y = ⟨#[c]⟩ ∧ letterB c = true) → (Str.join "" ys).length = ys.length ∧ ∀ c ∈ (Str.join "" ys).cps.toList, letterB c = true
  | [], _ => ⟨by decide +kernel, fun c hc => by cases hc⟩
  | [y], h => by
    obtain ⟨c, rfl, e⟩ := h y (by simp)
    refine ⟨rfl, fun c' hc => ?_⟩
    have : c' = c := by simpa [Str.join] using hc
    rw [this]
    exact e
  | y :: y2 :: r, h => by
    obtain ⟨c, rfl, e⟩ := h y (by simp)
    obtain ⟨i1, i2⟩ := join_letters (y2 :: r) fun x hx => h x (List.mem_cons_of_mem _ hx)
    have ej : Str.join "" (⟨#[c]⟩ :: y2 :: r) = ⟨#[c]⟩ ++ Str.join "" (y2 :: r) := by
      show (⟨#[c]⟩ : Str) ++ "" ++ Str.join "" (y2 :: r) = _
      rw [(by decide +kernel : ("" : Str) = Str.empty), PySem.Str.append_empty]
    rw [ej]
    refine ⟨?_, fun c' hc => ?_⟩
    · rw [PySem.Str.length_append, i1]
      show 1 + _ = _
      simp only [List.length_cons]
      omega
    · rw [PySem.Str.cps_append, Array.toList_append] at hc
      rcases List.mem_append.mp hc with hc | hc
      · have : c' = c := by simpa using hc
        rw [this]
        exact e
      · exact i2 c' hc
theorem sum_ones : ∀ {ys : List Str}, (∀ y ∈ ys, ∃ c, y = (⟨#[c]⟩ : Str) ∧ letterB c = true) → (ys.map (·.length)).sum = ys.length
  | [], _ => rfl
  | y :: r, h => by
    obtain ⟨c, rfl, _⟩ := h y (by simp)
    rw [List.map_cons, List.sum_cons, sum_ones (ys := r) fun x hx => h x (List.mem_cons_of_mem _ hx)]
    show 1 + _ = _
    rw [List.length_cons]
    omega
structure Bltn3 (mg : Str → Option Value) : Prop where
  range : mg "range" = none
section
variable {P : Program} {w : World} {K : PySem.W.Frag} {mg : Str → Option Value} {base : Heap} {f fC fO fL : Addr} {fd fdC fdO fdL : FuncData}
theorem scTree : FnScope ["_law_deck_here", "_law_frame", "_law_room", "_law_parts", "_law_wide", "_law_letters", "_law_outside", "_law_within", "_law_under", "_law_simple", "_law_way", "_law_below", "_law_size", "_law_marks", "_law_k", "_law_letter"] ["_law_deck_here", "_law_frame", "_law_room", "_law_parts"] (defScope s_law_tree) := ⟨rfl, rfl, rfl, by decide +kernel, rfl, by decide +kernel, by decide +kernel⟩
theorem ok_tree (F : Fun K "_law_tree" "_law_tree" s_law_tree f fd) (Z2 : Bltn3 mg) (bF : Binds K fd ["_law_deck_here", "_law_frame", "_law_room", "_law_parts"] []) (mF : mg "_law_tree" = some (.ref f))
    (GC : FnOk P w K mg base CX0 1 fC fdC ["_law_deck_here", "_law_top"] spCard) (bC : Binds K fdC ["_law_deck_here", "_law_top"] []) (kC : PySem.W.keepIn K (.ref fC) = true) (mC : mg "_law_card" = some (.ref fC))
    (GS : FnOk P w K mg base CX0 2 fO fdO ["_law_deck_here", "_law_menu"] spOfS) (bO : Binds K fdO ["_law_deck_here", "_law_menu"] []) (kO : PySem.W.keepIn K (.ref fO) = true) (mO : mg "_law_of" = some (.ref fO))
    (GL : FnOk P w K mg base CX0 3 fL fdL ["_law_deck_here", "_law_letters", "_law_menu"] spLeafT) (bL : Binds K fdL ["_law_deck_here", "_law_letters", "_law_menu"] []) (kL : PySem.W.keepIn K (.ref fL) = true) (mL : mg "_law_leaf" = some (.ref fL)) :
    ∀ n, FnOk P w K mg base CX0 (4 + n) f fd ["_law_deck_here", "_law_frame", "_law_room", "_law_parts"] (spTree n) := by
  intro n
  induction n with
  | zero =>
    have no : ∀ vs H Q E, spTree 0 vs H Q E → False := fun vs H Q E ⟨d, fr, room, parts, b, z, _, _, _, _, _, _, r1, r0, _⟩ => by omega
    exact ⟨fun vs H Q E h => (no vs H Q E h).elim, fun A outer s H args us vs Q E _ _ _ _ h => (no vs H Q E h).elim⟩
  | succ n ih =>
    refine F.ok scTree (fun vs H Q E h => ?_) (fun cdv A outer s H vs Q E hr h => ?_)
    · obtain ⟨d, fr, room, parts, b, z, rfl, _⟩ := h
      rfl
    obtain ⟨d, fr, room, parts, b, z, rfl, hd, hf, hz, b2, b4, r1, rn, r100, q⟩ := h
    have k1 := hr.mono (show 1 ≤ 4 + n by omega)
    have k2 := hr.mono (show 2 ≤ 4 + n by omega)
    have k3 := hr.mono (show 3 ≤ 4 + n by omega)
    refine ⟨_, (pss_cons (ps_asg (pv 1) (pg_unl (by rfl) (pgs_cons (pg_name (i := 4) scTree.nd rfl (Or.inr rfl)) (pgs_cons (pg_name (i := 5) scTree.nd rfl (Or.inr rfl)) (pgs_cons (pg_name (i := 6) scTree.nd rfl (Or.inl rfl)) (pgs_cons (pg_name (i := 7) scTree.nd rfl (Or.inl rfl)) (pgs_cons (pg_name (i := 8) scTree.nd rfl (Or.inl rfl)) (pgs_cons (pg_name (i := 9) scTree.nd rfl (Or.inl rfl)) pgs_nil))))))))
      (pss_cons (ps_set (i := 10) scTree.nd rfl (Or.inl rfl) (pe_ifExp (pt_cmpR op_gt (pv 2) pe_int (nomark _)) (pe_call GC k1 rfl mC kC bC .nil pass0 (pa_cons (pv 0) (pa_cons pe_int pa_nil))) pe_int))
      (pss_cons (ps_if (PW.pt (pw_and (pt_cmpR op_lt (pv 10) pe_int (nomark _)) (pw_and1 (pt_cmpR op_gt (pv 2) (pv 4) (nomark _))))) (pss_cons (ps_set (i := 11) scTree.nd rfl (Or.inr rfl) (pe_lst (pa_cons (pv 4) (pa_cons (pv 5) (pa_cons (pv 7) (pa_cons (pv 7) (pa_cons (pv 8) (pa_cons (pv 9) pa_nil)))))))) (pss_one (ps_ret (pe_tup (pa_cons pe_str (pa_cons (pe_lc (te := tCall (spTree n) [] E0 (tCons (tVar 0) (tCons (tVar 11) (tCons (tOp (rI CDivN fun i j => .int (i.fdiv j)) (tOp (rI0 fun i j => .int (i - j)) (tVar 2) (tC (.int 1))) (tVar 4)) (tCons (tVar 3) tNil))))) (own := [("_law_k", 14)]) (g := gName 14) (tt := tYes) rfl scTree.nd (pi_range1 rfl Z2.range (pa_cons (pv 4) pa_nil)) (blkOk_by (N := ["_law_deck_here", "_law_frame", "_law_room", "_law_parts", "_law_wide", "_law_letters", "_law_outside", "_law_within", "_law_under", "_law_simple", "_law_way", "_law_below", "_law_size", "_law_marks", "_law_k", "_law_letter"]) (sc := defScope s_law_tree) (by decide +kernel)) (fun _ _ _ _ _ => pg_name (i := 14) scTree.nd rfl (Or.inl rfl)) (fun _ _ _ _ _ => pts_nil) (fun _ _ _ _ _ => (pe_call ih hr rfl mF F.kp bF .nil pass0 (pa_cons (pv 0) (pa_cons (pv 11) (pa_cons (pe_op op_fdivN (pe_op op_sub (pv 2) pe_int) (pv 4)) (pa_cons (pv 3) pa_nil))))))) pa_nil)))))) pss_nil)
      (pss_cons (ps_if (PW.pt (pw_and (pt_cmpR op_eq (pv 10) pe_int (nomark _)) (pw_and1 (pt_cmpR op_gt (pv 3) pe_int (nomark _))))) (pss_cons (ps_set (i := 11) scTree.nd rfl (Or.inr rfl) (pe_lst (pa_cons (pv 4) (pa_cons (pv 5) (pa_cons (pv 8) (pa_cons (pv 8) (pa_cons (pv 8) (pa_cons (pv 9) pa_nil)))))))) (pss_one (ps_ret (pe_tup (pa_cons pe_str (pa_cons (pe_call GC k1 rfl mC kC bC .nil pass0 (pa_cons (pv 0) (pa_cons (pv 4) pa_nil))) (pa_cons (pe_call ih hr rfl mF F.kp bF .nil pass0 (pa_cons (pv 0) (pa_cons (pv 11) (pa_cons (pe_op op_sub (pv 2) pe_int) (pa_cons (pe_op op_sub (pv 3) pe_int) pa_nil))))) pa_nil))))))) pss_nil)
      (pss_cons (ps_if (pt_cmpR op_eq (pv 10) pe_int (nomark _)) (pss_cons (ps_set (i := 12) scTree.nd rfl (Or.inl rfl) (pe_ix ix_list (pe_lst (pa_cons pe_int (pa_cons pe_int (pa_cons pe_int (pa_cons pe_int (pa_cons (pe_ifExp (pt_val (pv 9)) pe_int pe_int) pa_nil)))))) (pe_call GC k1 rfl mC kC bC .nil pass0 (pa_cons (pv 0) (pa_cons pe_int pa_nil))) (fun _ _ => rfl))) (pss_one (ps_ret (pe_tup (pa_cons pe_str (pa_cons (pv 12) (pa_cons (pe_call ih hr rfl mF F.kp bF .nil pass0 (pa_cons (pv 0) (pa_cons (pv 1) (pa_cons (pe_op op_sub (pv 2) pe_int) (pa_cons (pv 3) pa_nil))))) pa_nil))))))) pss_nil)
      (pss_cons (ps_if (PW.pt (pw_and (pt_cmpR op_lt (pv 10) pe_int (nomark _)) (pw_and1 (pt_cmpR op_gt (pv 2) pe_int (nomark _))))) (pss_one (ps_ret (pe_tup (pa_cons pe_str (pa_cons (pe_call GL k3 rfl mL kL bL .nil pass0 (pa_cons (pv 0) (pa_cons (pv 5) (pa_cons (pv 6) pa_nil)))) (pa_cons (pe_call ih hr rfl mF F.kp bF .nil pass0 (pa_cons (pv 0) (pa_cons (pv 1) (pa_cons (pe_op op_sub (pv 2) pe_int) (pa_cons (pv 3) pa_nil))))) pa_nil)))))) pss_nil)
      (pss_cons (ps_if (pt_cmpR op_eq (pv 10) pe_int (nomark _)) (pss_cons (ps_set (i := 13) scTree.nd rfl (Or.inl rfl) (pe_join pe_str (pe_lc (te := tCall spOfS [] E0 (tCons (tVar 0) (tCons (tVar 5) tNil))) (own := [("_law_letter", 15)]) (g := gName 15) (tt := tYes) rfl scTree.nd (pi_str (pv 5)) (blkOk_by (N := ["_law_deck_here", "_law_frame", "_law_room", "_law_parts", "_law_wide", "_law_letters", "_law_outside", "_law_within", "_law_under", "_law_simple", "_law_way", "_law_below", "_law_size", "_law_marks", "_law_k", "_law_letter"]) (sc := defScope s_law_tree) (by decide +kernel)) (fun _ _ _ _ _ => pg_name (i := 15) scTree.nd rfl (Or.inl rfl)) (fun _ _ _ _ _ => pts_nil) (fun _ _ _ _ _ => pe_call GS k2 rfl mO kO bO .nil pass0 (pa_cons (pv 0) (pa_cons (pv 5) pa_nil)))))) (pss_cons (ps_if (pt_val (pv 9)) pss_never pss_nil) (pss_one (ps_ret (pe_tup (pa_cons pe_str (pa_cons (pv 13) (pa_cons (pe_call ih hr rfl mF F.kp bF .nil pass0 (pa_cons (pv 0) (pa_cons (pv 1) (pa_cons (pe_op op_sub (pv 2) pe_int) (pa_cons (pv 3) pa_nil))))) pa_nil)))))))) pss_nil)
      (pss_one (ps_ret (pe_call GL k3 rfl mL kL bL .nil pass0 (pa_cons (pv 0) (pa_cons (pv 5) (pa_cons (pv 6) pa_nil))))))))))))), ?_⟩
    obtain ⟨m1, m2, m3, n1, n2, n3, h0, h1, h2, h3, o1, o2, o3⟩ := id hf
    refine ⟨_, rfl, fr, _, rfl, SqL.of h0, rfl, _, _, rfl, _, _, rfl, _, _, rfl, _, _, rfl, _, _, rfl, _, _, rfl, rfl, ?_⟩
    dsimp only
    refine seq_join (fun v H1 => ∃ way : Int, v = .int way ∧ 0 ≤ way ∧ way < 12 ∧ (room ≤ 1 → way = 11) ∧ But d H H1 ∧ DeckAt H1 d) (fun Q1 hQ => ?_) ?_
    · refine ⟨_, rfl, _, _, rfl, rfl, _, rfl, ?_⟩
      refine ite2 (fun c => ?_) (fun c => ?_)
      · exact ⟨_, rfl, d, 12, rfl, by decide, by decide, hd, fun r H1 r0 r12 bt hd1 => hQ _ _ ⟨r, rfl, r0, r12, fun z => absurd (of_decide_eq_true c) (by omega), bt, hd1⟩⟩
      · exact hQ _ _ ⟨11, rfl, by decide, by decide, fun _ => rfl, But.refl, hd⟩
    rintro _ H1 ⟨way, rfl, w0, w12, wr, bt, hd1⟩
    have hf1 := hf.but hd bt
    have lf : ∀ H2, But d H H2 → DeckAt H2 d → H2 m1 = some (.lst (n1.map V.str)) := fun H2 b _ => b _ _ (deck_ne hd h1 names_ne) h1
    refine and_if (p1 := decide (way < 4)) (p2 := decide (room > b)) (fun Q q => ⟨_, rfl, _, _, rfl, rfl, _, rfl, q⟩) (fun Q q => ⟨_, rfl, _, rfl, _, _, rfl, rfl, _, rfl, q⟩) (fun e1 e2 => ?_) (fun ne1 => ?_)
    · have rb : b < room := of_decide_eq_true e2
      refine ⟨_, rfl, _, rfl, _, rfl, _, rfl, _, rfl, _, rfl, (by show 6 ≤ sizeLine; decide), fun bl hbl => ?_⟩
      have fr2 : FrameAt (upd H1 bl (.lst [.int b, .str z, .ref m2, .ref m2, .ref m3, .bl false])) bl b z := by
        have g2 := bt _ _ (deck_ne hd h2 names_ne) h2
        have g3 := bt _ _ (deck_ne hd h3 names_ne) h3
        exact ⟨m2, m2, m3, n2, n2, n3, upd_same, upd_other g2 hbl, upd_other g2 hbl, upd_other g3 hbl, o2, o2, o3⟩
      have d2 := hd1.new (o := .lst [.int b, .str z, .ref m2, .ref m2, .ref m3, .bl false]) hbl
      have bt2 := bt.new hbl (.lst [.int b, .str z, .ref m2, .ref m2, .ref m3, .bl false])
      generalize upd H1 bl (.lst [.int b, .str z, .ref m2, .ref m2, .ref m3, .bl false]) = H2 at fr2 d2 bt2
      have hq : 1 ≤ (room - 1).fdiv b ∧ b * (room - 1).fdiv b ≤ room - 1 := by
        rw [Int.fdiv_eq_ediv_of_nonneg _ (by omega)]
        rcases (show b = 2 ∨ b = 3 ∨ b = 4 by omega) with rfl | rfl | rfl <;> omega
      generalize hr' : (room - 1).fdiv b = r at hq
      have rr : r ≤ room - 1 := by
        rcases (show b = 2 ∨ b = 3 ∨ b = 4 by omega) with rfl | rfl | rfl <;> omega
      refine ⟨_, rfl, b, rfl, by omega, by omega, fun D hD => ?_⟩
      have nD : D ≠ d := fun z => by
        obtain ⟨x, y, k, _, _, g⟩ := d2
        rw [← z, hD] at g
        cases g
      refine lc_range (lo := 0) (n := b.toNat) (fun i H3 => But d H2 H3 ∧ DeckAt H3 d ∧ ∃ ws l, H3 D = some (.lst ws) ∧ TrAll (without D (newPart H H3)) ws l ∧ l.length = i ∧ Tr.OkL b l ∧ (Tr.knotsL l : Int) ≤ i * r)
        ⟨But.refl.new hD _, d2.new hD, [], [], upd_same, .nil, rfl, .nil, by simp [Tr.knotsL]⟩ ?_ ?_
      · rintro i H3 hi ⟨b3, d3, ws, l, g, tr, ll, okl, kl⟩
        refine ⟨rfl, turn_yes ?_⟩
        refine ⟨_, rfl, _, rfl, _, rfl, _, _, rfl, rfl, _, rfl, _, _, rfl, rfl, ⟨by omega, by omega⟩, _, rfl, d, bl, r, parts, b, z, by show [V.ref d, V.ref bl, V.int ((room - 1).fdiv b), V.int parts] = _; rw [hr'], d3, fr2.but d2 b3, hz, b2, b4, by omega, by omega, by omega, fun v H4 t bt4 d4 trn ok k => ⟨ws, bt4 _ _ nD g, ?_, ?_⟩⟩
        · have wl : ws.length = l.length := tr.len
          exact Nat.lt_of_lt_of_le (by omega : ws.length < 1000) (small_line (Nat.le_refl _))
        have bb := b3.trans bt4
        have bu : But d H2 (upd H4 D (.lst (ws ++ [v]))) := fun c o n hc => by
          rw [upd_ne (ne_of_none hc hD)]
          exact bb c o n hc
        have du : DeckAt (upd H4 D (.lst (ws ++ [v]))) d := by
          obtain ⟨x, y, k, h1, h2, e⟩ := d4
          exact ⟨x, y, k, h1, h2, by rw [upd_ne (Ne.symm nD)]; exact e⟩
        refine ⟨bu, du, ws ++ [v], l ++ [t], upd_same, ?_, ?_, ?_, ?_⟩
        · refine TrAll.snoc (TrAll.same (fun c o h => ?_) l _ tr) (TrAt.same (fun c o h => ?_) t _ trn)
          · obtain ⟨n, e⟩ := without_some h
            obtain ⟨e0, e'⟩ := newPart_some e
            refine without_at n (newPart_at e0 ?_)
            rw [upd_ne n]
            refine bt4 c o (fun z => ?_) e'
            obtain ⟨x, y, k, _, _, gd⟩ := hd
            rw [← z, e0] at gd
            cases gd
          · obtain ⟨e0, e'⟩ := newPart_some h
            have n : c ≠ D := fun z => by
              rw [z, g] at e0
              cases e0
            refine without_at n (newPart_at (but_free (bt2.trans b3) d3 e0) ?_)
            rw [upd_ne n]
            exact e'
        · rw [List.length_append, ll]
          rfl
        · exact OkL.snoc okl ok
        · rw [knots_snoc]
          have : ((i + 1 : Nat) : Int) * r = i * r + r := by
            rw [Int.natCast_add, Int.add_mul]
            simp
          rw [this]
          omega
      · rintro H3 ⟨b3, d3, ws, l, g, tr, ll, okl, kl⟩
        refine ⟨(by show 2 ≤ sizeLine; decide), fun p hp => ?_⟩
        have all := bt2.trans b3
        have hD0 : H D = none := but_free bt2 d2 hD
        have np := (But.refl (d := d) (H := H3)).new hp (.tup [.str "weave", .ref D])
        refine q _ _ (.weave l) (all.new hp _) (d3.new hp) (.weave (newPart_at (but_free all d3 hp) upd_same) (newPart_at hD0 (upd_other g hp)) (TrAll.same (fun c o h => ?_) l _ tr)) (.weave (by omega) okl) ?_
        · obtain ⟨n, e⟩ := without_some h
          obtain ⟨e0, e'⟩ := newPart_some e
          exact newPart_at e0 (upd_other e' hp)
        · simp only [Tr.knots]
          have eb : ((b.toNat : Nat) : Int) = b := by omega
          rw [eb] at kl
          omega
    refine and_if (p1 := decide (way = 4)) (p2 := decide (parts > 0)) (fun Q q => ⟨_, rfl, rfl, _, rfl, by rw [dec_int]; exact q⟩) (fun Q q => ⟨_, rfl, _, _, rfl, rfl, _, rfl, q⟩) (fun e1 e2 => ?_) (fun ne2 => ?_)
    · have w4 := of_decide_eq_true e1
      have rm : 2 ≤ room := by
        by_cases c : room ≤ 1
        · have := wr c
          omega
        · omega
      refine ⟨_, rfl, _, rfl, _, rfl, _, rfl, _, rfl, _, rfl, (by show 6 ≤ sizeLine; decide), fun bl hbl => ?_⟩
      have fr2 : FrameAt (upd H1 bl (.lst [.int b, .str z, .ref m3, .ref m3, .ref m3, .bl false])) bl b z := by
        have g := bt _ _ (deck_ne hd h3 names_ne) h3
        exact ⟨m3, m3, m3, n3, n3, n3, upd_same, upd_other g hbl, upd_other g hbl, upd_other g hbl, o3, o3, o3⟩
      have d2 := hd1.new (o := .lst [.int b, .str z, .ref m3, .ref m3, .ref m3, .bl false]) hbl
      have bt2 := bt.new hbl (.lst [.int b, .str z, .ref m3, .ref m3, .ref m3, .bl false])
      refine ⟨_, rfl, _, rfl, d, b, rfl, by omega, by omega, d2, fun j H3 j0 jb bt3 d3 => ?_⟩
      refine ⟨_, rfl, _, rfl, _, rfl, _, _, rfl, rfl, _, rfl, _, _, rfl, rfl, d, bl, room - 1, parts - 1, b, z, rfl, d3, fr2.but d2 bt3, hz, b2, b4, by omega, by omega, by omega, fun v H4 t bt4 d4 tr ok k => ⟨(by show 3 ≤ sizeLine; decide), fun p hp => ?_⟩⟩
      have b34 := bt2.trans bt3
      have all := b34.trans bt4
      exact q _ _ (.part j t) (all.new hp _) (d4.new hp) (.part (newPart_at (but_free all d4 hp) upd_same) (TrAt.same (new_same b34 d3 ((But.refl).new hp _)) t _ tr)) (.part j0 jb ok) (by simp only [Tr.knots]; omega)
    refine one_if (p1 := decide (way = 5)) (fun Q q => ⟨_, rfl, rfl, _, rfl, by rw [dec_int]; exact q⟩) (fun e1 => ?_) (fun ne3 => ?_)
    · have w5 := of_decide_eq_true e1
      have rm : 2 ≤ room := by
        by_cases c : room ≤ 1
        · have := wr c
          omega
        · omega
      refine seq_join (fun v H2 => ∃ c : Int, v = .int c ∧ 1 ≤ c ∧ c ≤ 9 ∧ But d H1 H2 ∧ DeckAt H2 d) (fun Q1 hQ => ?_) ?_
      · refine ⟨_, rfl, _, rfl, iteF ⟨(by show 5 ≤ sizeLine; decide), fun l5 hl5 => ?_⟩⟩
        refine ⟨_, rfl, d, 5, rfl, by decide, by decide, hd1.new hl5, fun r H2 r0 r5 bt2 d2 => ?_⟩
        have g5 : H2 l5 = some (.lst [.int 1, .int 1, .int 2, .int 3, .int 9]) := bt2 _ _ (deck_ne (o := .lst [.int 1, .int 1, .int 2, .int 3, .int 9]) (hd1.new hl5) upd_same (by intro a m k z; cases z)) upd_same
        have bb := (But.refl.new hl5 (.lst [V.int 1, .int 1, .int 2, .int 3, .int 9])).trans bt2
        have key : ∃ c : Int, atI [V.int 1, .int 1, .int 2, .int 3, .int 9] r = some (.int c) ∧ 1 ≤ c ∧ c ≤ 9 := by
          rcases (show r = 0 ∨ r = 1 ∨ r = 2 ∨ r = 3 ∨ r = 4 by omega) with rfl | rfl | rfl | rfl | rfl
          · exact ⟨1, rfl, by decide, by decide⟩
          · exact ⟨1, rfl, by decide, by decide⟩
          · exact ⟨2, rfl, by decide, by decide⟩
          · exact ⟨3, rfl, by decide, by decide⟩
          · exact ⟨9, rfl, by decide, by decide⟩
        obtain ⟨c, ec, c1, c9⟩ := key
        exact ⟨l5, _, _, _, rfl, rfl, SqL.of g5, ec, hQ _ _ ⟨c, rfl, c1, c9, bb, d2⟩⟩
      rintro _ H2 ⟨c, rfl, c1, c9, bt2, d2⟩
      refine ⟨_, rfl, _, rfl, _, rfl, _, rfl, _, _, rfl, rfl, _, rfl, d, fr, room - 1, parts, b, z, rfl, d2, hf1.but hd1 bt2, hz, b2, b4, by omega, by omega, by omega, fun v H4 t bt4 d4 tr ok k => ⟨(by show 3 ≤ sizeLine; decide), fun p hp => ?_⟩⟩
      have b34 := bt.trans bt2
      have all := b34.trans bt4
      exact q _ _ (.drop c t) (all.new hp _) (d4.new hp) (.drop (newPart_at (but_free all d4 hp) upd_same) (TrAt.same (new_same b34 d2 ((But.refl).new hp _)) t _ tr)) (.drop c1 c9 ok) (by simp only [Tr.knots]; omega)
    refine and_if (p1 := decide (way < 8)) (p2 := decide (room > 2)) (fun Q q => ⟨_, rfl, _, _, rfl, rfl, _, rfl, q⟩) (fun Q q => ⟨_, rfl, _, _, rfl, rfl, _, rfl, q⟩) (fun e1 e2 => ?_) (fun ne4 => ?_)
    · have rm : 2 < room := of_decide_eq_true e2
      refine ⟨_, rfl, _, rfl, _, rfl, d, m1, z, n1, rfl, hd1, hz, lf H1 bt hd1, o1.1, o1.2, fun v1 H2 t1 bt2 d2 tr1 ok1 k1' => ?_⟩
      refine ⟨_, rfl, _, rfl, _, rfl, _, _, rfl, rfl, _, rfl, d, fr, room - 2, parts, b, z, rfl, d2, hf1.but hd1 bt2, hz, b2, b4, by omega, by omega, by omega, fun v H4 t bt4 d4 tr ok k => ⟨(by show 3 ≤ sizeLine; decide), fun p hp => ?_⟩⟩
      have b34 := bt.trans bt2
      have all := b34.trans bt4
      have np := (But.refl (d := d) (H := H4)).new hp (.tup [.str "lead", v1, v])
      exact q _ _ (.lead t1 t) (all.new hp _) (d4.new hp) (.lead (newPart_at (but_free all d4 hp) upd_same) (TrAt.same (new_same bt hd1 (bt4.trans np)) t1 _ tr1) (TrAt.same (new_same b34 d2 np) t _ tr)) (.lead (ok1 b) ok) (by simp only [Tr.knots]; omega)
    refine one_if (p1 := decide (way = 8)) (fun Q q => ⟨_, rfl, rfl, _, rfl, by rw [dec_int]; exact q⟩) (fun e1 => ?_) (fun ne5 => ?_)
    · have w8 := of_decide_eq_true e1
      have rm : 2 ≤ room := by
        by_cases c : room ≤ 1
        · have := wr c
          omega
        · omega
      refine seq_join (fun v H2 => ∃ mk : Str, v = .str mk ∧ lettered 4 mk = true ∧ But d H1 H2 ∧ DeckAt H2 d) (fun Q1 hQ => ?_) ?_
      · refine ⟨⟨_, rfl⟩, _, rfl, z, rfl, fun D hD => ?_⟩
        have nD : D ≠ d := fun z => by
          obtain ⟨x, y, k, _, _, g⟩ := hd1
          rw [← z, hD] at g
          cases g
        have zl : z.cps.size = z.length := rfl
        refine L2.lc_it L2.walk_str (fun i H2 => But d H1 H2 ∧ DeckAt H2 d ∧ ∃ ys : List Str, H2 D = some (.lst (ys.map V.str)) ∧ ys.length = i ∧ ∀ y ∈ ys, ∃ c, y = ⟨#[c]⟩ ∧ letterB c = true)
          ⟨But.refl.new hD _, hd1.new hD, [], upd_same, rfl, fun y hy => nomatch hy⟩ (fun _ _ _ _ => trivial) ?_ ?_
        · rintro i _ H2 _ hi ⟨b2', d2, ys, g, yl, yc⟩ ⟨rfl, c0, hc0, rfl⟩
          refine ⟨rfl, turn_yes ⟨_, rfl, _, rfl, d, z, rfl, by have := hz.one; omega, by have := hz.four; omega, d2, fun c H3 hc b3 d3 => ⟨ys.map V.str, b3 _ _ nD g, ?_, ?_, ?_, ys ++ [⟨#[c]⟩], ?_, ?_, ?_⟩⟩⟩
          · rw [List.length_map]
            have := hz.four
            exact Nat.lt_of_lt_of_le (by omega : ys.length < 1000) (small_line (Nat.le_refl _))
          · intro c' o n hc'
            rw [upd_ne (ne_of_none hc' hD)]
            exact (b2'.trans b3) c' o n hc'
          · obtain ⟨x, y, k, h1, h2, e⟩ := d3
            exact ⟨x, y, k, h1, h2, by rw [upd_ne (Ne.symm nD)]; exact e⟩
          · rw [upd_same, List.map_append]
            rfl
          · rw [List.length_append, yl]
            rfl
          · intro y hy
            rcases List.mem_append.mp hy with hy | hy
            · exact yc y hy
            · exact ⟨c, List.mem_singleton.mp hy, hz.low c hc⟩
        · rintro H2 ⟨b2', d2, ys, g, yl, yc⟩
          obtain ⟨j1, j2⟩ := join_letters ys yc
          have z4 := hz.four
          have z1 := hz.one
          refine ⟨"", D, ys, rfl, rfl, .inl (SqL.of g), ?_, ?_⟩
          · rw [(by decide +kernel : ("" : Str).length = 0), sum_ones yc]
            omega
          rw [TL.join_eq]
          refine hQ _ _ ⟨_, rfl, ?_, b2', d2⟩
          unfold lettered
          rw [j1, decide_eq_true (by omega), decide_eq_true (by omega), Bool.true_and, Bool.true_and, List.all_eq_true]
          exact fun c hc => j2 c hc
      rintro _ H2 ⟨mk, rfl, lm, bt2, d2⟩
      refine one_if (p1 := false) (fun Q q => ⟨_, rfl, _, rfl, q⟩) (fun e => nomatch e) (fun _ => ?_)
      refine ⟨_, rfl, _, rfl, _, rfl, _, rfl, _, _, rfl, rfl, _, rfl, d, fr, room - 1, parts, b, z, rfl, d2, hf1.but hd1 bt2, hz, b2, b4, by omega, by omega, by omega, fun v H4 t bt4 d4 tr ok k => ⟨(by show 3 ≤ sizeLine; decide), fun p hp => ?_⟩⟩
      have b34 := bt.trans bt2
      have all := b34.trans bt4
      exact q _ _ (.turn mk t) (all.new hp _) (d4.new hp) (.turn (newPart_at (but_free all d4 hp) upd_same) (TrAt.same (new_same b34 d2 ((But.refl).new hp _)) t _ tr)) (.turn lm ok) (by simp only [Tr.knots]; omega)
    refine ⟨_, rfl, _, rfl, _, rfl, d, m1, z, n1, rfl, hd1, hz, lf H1 bt hd1, o1.1, o1.2, fun v H2 t b2' d2 tr ok k => ?_⟩
    exact q _ _ t (bt.trans b2') d2 (TrAt.same (new_same bt hd1 But.refl) t _ tr) (ok b) (by rw [k]; exact r1)
end
end Wp

namespace Wp
open PySem PySem.Spec PyProof.Rows L2 Hx
def spSigns : Sp := fun vs H Q _ => ∃ (d : Addr) (k : Int), vs = [.ref d, .int k] ∧ 1 ≤ k ∧ k ≤ 4 ∧ DeckAt H d ∧ ∀ z H', Letters z → But d H H' → DeckAt H' d → Q (.str z) H'
theorem DeckAt.byt {d : Addr} {H H' : Hp} (h : DeckAt H d) (s : Same H H') : DeckAt H' d := by
  obtain ⟨x, y, z, e1, e2, e3⟩ := h
  exact ⟨x, y, z, e1, e2, s _ _ e3⟩
theorem DeckAt.off {d D : Addr} {H : Hp} (h : DeckAt H d) (n : H D = none) : d ≠ D := by
  obtain ⟨x, y, z, e1, e2, e3⟩ := h
  exact ne_of_none e3 n
theorem join_fit {ys : List Str} (h : ∀ y ∈ ys, ∃ c, y = (⟨#[c]⟩ : Str) ∧ letterB c = true) (hl : ys.length ≤ 1000) : (ys.map (·.length)).sum + ys.length * ("" : Str).length ≤ 16777216 := by
  have e0 : ("" : Str).length = 0 := by decide +kernel
  rw [e0, sum_ones h]
  omega
section
variable {P : Program} {w : World} {K : PySem.W.Frag} {mg : Str → Option Value} {base : Heap} {f fC fO fL fT fS fU : Addr} {fd fdC fdO fdL fdT fdS fdU : FuncData}
theorem scSigns : FnScope ["_law_deck_here", "_law_size", "_law_begin", "_law_pace", "_law_k"] ["_law_deck_here", "_law_size"] (defScope s_law_signs) := ⟨rfl, rfl, rfl, by decide +kernel, rfl, by decide +kernel, by decide +kernel⟩
theorem ok_signs (F : Fun K "_law_signs" "_law_signs" s_law_signs f fd) (Z : Bltn mg) (Z2 : Bltn3 mg)
    (GC : FnOk P w K mg base CX0 1 fC fdC ["_law_deck_here", "_law_top"] spCard) (bC : Binds K fdC ["_law_deck_here", "_law_top"] []) (kC : PySem.W.keepIn K (.ref fC) = true) (mC : mg "_law_card" = some (.ref fC)) :
    FnOk P w K mg base CX0 2 f fd ["_law_deck_here", "_law_size"] spSigns := by
  refine F.ok scSigns (fun vs H Q E h => ?_) (fun cdv A outer s H vs Q E hr h => ?_)
  · obtain ⟨d, k, rfl, _⟩ := h
    rfl
  obtain ⟨d, k, rfl, k1, k4, hd, q⟩ := h
  refine ⟨_, pss_cons (ps_asg (pe_tup (pa_cons (pe_call GC hr rfl mC kC bC .nil pass0 (pa_cons (pv 0) (pa_cons pe_int pa_nil))) (pa_cons (pe_ix ix_list (pe_lst (pa_cons pe_int (pa_cons pe_int (pa_cons pe_int (pa_cons pe_int (pa_cons pe_int (pa_cons pe_int pa_nil))))))) (pe_call GC hr rfl mC kC bC .nil pass0 (pa_cons (pv 0) (pa_cons pe_int pa_nil))) (fun _ _ => rfl)) pa_nil)))
      (pg_tup (by rfl) (pgs_cons (pg_name (i := 2) scSigns.nd rfl (Or.inr rfl)) (pgs_cons (pg_name (i := 3) scSigns.nd rfl (Or.inr rfl)) pgs_nil))))
    (pss_one (ps_ret (pe_join pe_str (pe_lc (own := [("_law_k", 4)]) (g := gName 4) (tt := tYes) rfl scSigns.nd (pi_range1 rfl Z2.range (pa_cons (pv 1) pa_nil))
      (blkOk_by (N := ["_law_deck_here", "_law_size", "_law_begin", "_law_pace", "_law_k"]) (sc := defScope s_law_signs) (by decide +kernel)) (fun _ _ _ _ _ => pg_name (i := 4) scSigns.nd rfl (Or.inl rfl)) (fun _ _ _ _ _ => pts_nil)
      (fun _ _ _ _ _ => pe_ix ix_str pe_str (pe_op op_mod (pe_callTy call_int1 (by rfl) Z.int PyProof.Rows.boot_int (pa_cons (pe_op op_add (pv 2) (pe_op op_mul (pv 3) (pv 4))) pa_nil)) pe_int) (fun _ _ => rfl)))))), ?_⟩
  refine ⟨_, rfl, d, 26, rfl, by decide, by decide, hd, fun r H1 r0 r1 b1 hd1 => ?_⟩
  refine ⟨(by show 6 ≤ sizeLine; decide), fun p1 n1 => ?_⟩
  refine ⟨_, rfl, d, 6, rfl, by decide, by decide, hd1.new n1, fun x H2 x0 x1 b2 hd2 => ?_⟩
  have np1 : p1 ≠ d := Ne.symm (hd1.off n1)
  obtain ⟨v, hv, ev⟩ := atI_in (xs := [V.int 1, .int 3, .int 5, .int 7, .int 9, .int 11]) x0 x1
  refine ⟨p1, _, _, v, rfl, rfl, b2.seq np1 (SqL.of upd_same), ev, ?_⟩
  obtain ⟨pace, rfl, p0, p11⟩ : ∃ i : Int, v = .int i ∧ 0 ≤ i ∧ i ≤ 11 := by
    simp only [List.mem_cons, List.not_mem_nil, or_false] at hv
    rcases hv with rfl | rfl | rfl | rfl | rfl | rfl <;> exact ⟨_, rfl, by decide, by decide⟩
  refine ⟨(by show 2 ≤ sizeLine; decide), fun pt nt => ?_⟩
  refine ⟨pt, _, rfl, SqT.of upd_same, rfl, _, _, rfl, _, _, rfl, rfl, ?_⟩
  have bH := (b1.trans ((But.refl.new n1 _).trans b2)).new nt (.tup [V.int r, .int pace])
  have hd3 : DeckAt (upd H2 pt (.tup [V.int r, .int pace])) d := hd2.new nt
  clear b1 b2 hd1 hd2 ev hv
  refine ⟨⟨_, rfl⟩, _, rfl, k, rfl, by omega, by omega, fun D hD => ?_⟩
  have al : abc.length = 26 := by decide +kernel
  refine lc_range (lo := 0) (n := k.toNat) (fun i H' => Same (upd H2 pt (.tup [V.int r, .int pace])) H' ∧ ∃ ys : List Str, ys.length = i ∧ (∀ y ∈ ys, ∃ c, y = (⟨#[c]⟩ : Str) ∧ letterB c = true) ∧ H' D = some (.lst (ys.map V.str)))
    ⟨same_new hD _, [], rfl, (by intro y hy; cases hy), upd_same⟩ ?_ ?_
  · rintro i H' hi ⟨s1, ys, rfl, hy, h1⟩
    refine ⟨rfl, turn_yes ?_⟩
    refine ⟨_, rfl, _, rfl, _, rfl, _, _, rfl, rfl, .inl ⟨by omega, by omega⟩, _, _, rfl, rfl, .inl ⟨_, rfl, ?_⟩⟩
    refine ⟨_, _, rfl, rfl, (by show (0 : Int) < 26; decide), ?_⟩
    generalize hz : (r + pace * (0 + (ys.length : Int))) % 26 = z
    have z0 : 0 ≤ z := by rw [← hz]; exact Int.emod_nonneg _ (by decide)
    have z1 : z < 26 := by rw [← hz]; exact Int.emod_lt_of_pos _ (by decide)
    obtain ⟨c, hc, ec⟩ := atI_in (xs := abc.cps.toList) z0 (by rw [abc_list]; exact z1)
    dsimp only
    rw [hz]
    refine ⟨_, _, c, rfl, rfl, (by show abc.length ≤ sizeLine; rw [al]; decide), ec, ?_⟩
    refine ⟨_, h1, ?_, fun b o hb => ?_, ys ++ [⟨#[c]⟩], by rw [List.length_append]; rfl, fun y hy2 => ?_, ?_⟩
    · rw [List.length_map]
      exact Nat.lt_of_lt_of_le (by omega : _ < 1000) (small_line (Nat.le_refl _))
    · rw [upd_ne (ne_of_none hb hD)]
      exact s1 b o hb
    · rcases List.mem_append.mp hy2 with q1 | q1
      · exact hy y q1
      · exact ⟨c, List.mem_singleton.mp q1, by rw [← is_letter]; exact decide_eq_true hc⟩
    · rw [upd_same, List.map_append]
      rfl
  · rintro H' ⟨s1, ys, hl, hy, h1⟩
    refine ⟨"", D, ys, rfl, rfl, .inl (SqL.of h1), join_fit hy (by omega), ?_⟩
    rw [TL.join_eq]
    obtain ⟨j1, j2⟩ := join_letters ys hy
    exact q _ H' ⟨by omega, by omega, j2⟩ (bH.trans (But.of s1)) (hd3.byt s1)
end
end Wp

namespace Wp
open PySem PySem.Spec PyProof.Rows L2 Hx
theorem inV_str {x : Str} : ∀ {l : List Str}, inV (.str x) (l.map V.str) = decide (x ∈ l)
  | [] => rfl
  | y :: r => by
    have ih := inV_str (x := x) (l := r)
    unfold inV at ih ⊢
    rw [List.map_cons, List.any_cons, ih]
    show (decide (y = x) || decide (x ∈ r)) = _
    by_cases h : y = x
    · subst h
      rw [decide_eq_true rfl, decide_eq_true (show y ∈ y :: r from List.mem_cons_self)]
      rfl
    · rw [decide_eq_false h, Bool.false_or]
      by_cases h2 : x ∈ r
      · rw [decide_eq_true h2, decide_eq_true (List.mem_cons_of_mem _ h2)]
      · rw [decide_eq_false h2, decide_eq_false fun z => (List.mem_cons.mp z).elim (fun e => h e.symm) h2]
theorem flat_strs : ∀ l : List Str, (l.map V.str).all flatV = true
  | [] => rfl
  | _ :: r => by rw [List.map_cons, List.all_cons, flat_strs r]; rfl
def menuT : List Str := ["x", "row", "in", "base", "full", "handed", "weav", "parts", "turns", "ab", "abc", "zzzzzzzz"]
def spareT : List Str := ["na", "nb", "nc", "nd", "ne", "nf", "ng", "nh"]
/-- a string of one to eight letters -/
def T8 (x : Str) : Prop := lettered 8 x = true ∧ PyData.strOk x = true
theorem menu_t8 : ∀ x ∈ menuT, T8 x := by
  have h : ∀ x ∈ menuT, lettered 8 x = true ∧ PyData.strOk x = true := by decide +kernel
  exact h
theorem spare_t8 : ∀ x ∈ spareT, T8 x := by
  have h : ∀ x ∈ spareT, lettered 8 x = true ∧ PyData.strOk x = true := by decide +kernel
  exact h
theorem letters_ok {x : Str} (h : ∀ c ∈ x.cps.toList, letterB c = true) : PyData.strOk x = true := by
  unfold PyData.strOk
  rw [← Array.all_toList]
  refine List.all_eq_true.mpr fun c hc => ?_
  have := of_decide_eq_true (h c hc)
  exact decide_eq_true (by omega)
theorem t8_of {x : Str} (h1 : 1 ≤ x.length) (h8 : x.length ≤ 8) (h : ∀ c ∈ x.cps.toList, letterB c = true) : T8 x := by
  refine ⟨?_, letters_ok h⟩
  unfold lettered
  rw [decide_eq_true (by omega), decide_eq_true (by omega), Bool.true_and, Bool.true_and]
  exact List.all_eq_true.mpr h
theorem if_join {c : TT} {t u w : TS} {D : Ends} {σ : L2.St} {H : Hp} (P : L2.St → Hp → Prop)
    (h : ∀ N : L2.St → Hp → Prop, (∀ σ' H', P σ' H' → N σ' H') → tIfS c t u { D with nx := N } σ H) (hq : ∀ σ' H', P σ' H' → w D σ' H') : tSeq (tIfS c t u) w D σ H := h _ hq
theorem nx_go {u : Ends → L2.St → Hp → Prop} {D D' : Ends} {σ : L2.St} {H : Hp} (h : u D σ H) : Ends.nx { D' with nx := u D } σ H := h
/-- one of the spare names is free -/
theorem spare_free {ns : List Str} (h : ns.length ≤ 2) : ∃ x ∈ spareT, x ∉ noNames ++ ns := by
  refine Classical.byContradiction fun z => ?_
  have all : ∀ x ∈ spareT, x ∈ ns := fun x hx => by
    have y : x ∈ noNames ++ ns := Classical.byContradiction fun n => z ⟨x, hx, n⟩
    rcases List.mem_append.mp y with y | y
    · have no : ∀ x ∈ spareT, x ∉ noNames := by decide +kernel
      exact absurd y (no x hx)
    · exact y
  have nd : spareT.Nodup := by decide +kernel
  have := sub_len nd all
  have l8 : spareT.length = 8 := rfl
  omega
def spTitles : Sp := fun vs H Q _ => ∃ (d t : Addr) (k : Int), vs = [.ref d, .int k, .ref t] ∧ 1 ≤ k ∧ k ≤ 3 ∧ DeckAt H d ∧ H t = some (.lst []) ∧
  ∀ p ns H', Nms ns → 0 < ns.length → But d H H' → DeckAt H' d → H p = none → H' p = some (.lst (ns.map V.str)) → Q (.ref p) H'
section
variable {P : Program} {w : World} {K : PySem.W.Frag} {mg : Str → Option Value} {base : Heap} {f fC fO fL fT fS fU : Addr} {fd fdC fdO fdL fdT fdS fdU : FuncData}
def NT : List Str := ["_law_deck_here", "_law_size", "_law_taken", "_law_menu", "_law_letters", "_law_found", "_law_k", "_law_title", "_law_banned", "_law_spare", "_law_turn", "_law_each"]
theorem scTitles : FnScope NT ["_law_deck_here", "_law_size", "_law_taken"] (defScope s_law_titles) := ⟨rfl, rfl, rfl, by decide +kernel, rfl, by decide +kernel, by decide +kernel⟩
theorem ok_titles (F : Fun K "_law_titles" "_law_titles" s_law_titles f fd) (Z2 : Bltn3 mg)
    (GC : FnOk P w K mg base CX0 1 fC fdC ["_law_deck_here", "_law_top"] spCard) (bC : Binds K fdC ["_law_deck_here", "_law_top"] []) (kC : PySem.W.keepIn K (.ref fC) = true) (mC : mg "_law_card" = some (.ref fC))
    (GO : FnOk P w K mg base CX0 2 fO fdO ["_law_deck_here", "_law_menu"] (spOf K)) (GS : FnOk P w K mg base CX0 2 fO fdO ["_law_deck_here", "_law_menu"] spOfS) (bO : Binds K fdO ["_law_deck_here", "_law_menu"] []) (kO : PySem.W.keepIn K (.ref fO) = true) (mO : mg "_law_of" = some (.ref fO)) :
    FnOk P w K mg base CX0 3 f fd ["_law_deck_here", "_law_size", "_law_taken"] spTitles := by
  refine F.ok scTitles (fun vs H Q E h => ?_) (fun cdv A outer s H vs Q E hr h => ?_)
  · obtain ⟨d, t, k, rfl, _⟩ := h
    rfl
  obtain ⟨d, t, k, rfl, k1, k3, hd, ht, q⟩ := h
  have r1 := hr.mono (by decide : 1 ≤ 2)
  refine ⟨_, pss_cons (ps_set (i := 3) scTitles.nd rfl (Or.inl rfl) (pe_lst (pa_cons pe_str (pa_cons pe_str (pa_cons pe_str (pa_cons pe_str (pa_cons pe_str (pa_cons pe_str (pa_cons pe_str (pa_cons pe_str (pa_cons pe_str (pa_cons pe_str (pa_cons pe_str (pa_cons pe_str pa_nil))))))))))))))
    (pss_cons (ps_asg (pe_tup (pa_cons pe_str (pa_cons (pe_lst pa_nil) pa_nil))) (pg_tup (by rfl) (pgs_cons (pg_name (i := 4) scTitles.nd rfl (Or.inr rfl)) (pgs_cons (pg_name (i := 5) scTitles.nd rfl (Or.inl rfl)) pgs_nil))))
    (pss_cons (ps_for PassesOwn.never rfl (pi_range1 rfl Z2.range (pa_cons (pv 1) pa_nil)) (pg_name (i := 6) scTitles.nd rfl (Or.inl rfl))
      (pss_cons (ps_set (i := 7) scTitles.nd rfl (Or.inl rfl) (pe_call GO hr rfl mO kO bO .nil pass0 (pa_cons (pv 0) (pa_cons (pv 3) pa_nil))))
      (pss_cons (ps_if (pt_cmpR op_eq (pe_call GC r1 rfl mC kC bC .nil pass0 (pa_cons (pv 0) (pa_cons pe_int pa_nil))) pe_int (nomark _))
        (pss_one (ps_set (i := 7) scTitles.nd rfl (Or.inl rfl) (pe_join pe_str (pe_lc (te := tCall spOfS [] E0 (tCons (tVar 0) (tCons (tVar 4) tNil))) (own := [("_law_turn", 10)]) (g := gName 10) (tt := tYes) rfl scTitles.nd
          (pi_range1 rfl Z2.range (pa_cons (pe_op op_add pe_int (pe_call GC r1 rfl mC kC bC .nil pass0 (pa_cons (pv 0) (pa_cons pe_int pa_nil)))) pa_nil))
          (blkOk_by (N := NT) (sc := defScope s_law_titles) (by decide +kernel)) (fun _ _ _ _ _ => pg_name (i := 10) scTitles.nd rfl (Or.inl rfl)) (fun _ _ _ _ _ => pts_nil)
          (fun _ _ _ _ _ => pe_call GS hr rfl mO kO bO .nil pass0 (pa_cons (pv 0) (pa_cons (pv 4) pa_nil))))))) pss_nil)
      (pss_cons (ps_set (i := 8) scTitles.nd rfl (Or.inr rfl) (pe_op op_cat (pe_op op_cat (pe_lst (pa_cons pe_str (pa_cons pe_str (pa_cons pe_str (pa_cons pe_str (pa_cons pe_str pa_nil)))))) (pv 2)) (pv 5)))
      (pss_cons (ps_set (i := 9) scTitles.nd rfl (Or.inl rfl) (pe_lst (pa_cons pe_str (pa_cons pe_str (pa_cons pe_str (pa_cons pe_str (pa_cons pe_str (pa_cons pe_str (pa_cons pe_str (pa_cons pe_str pa_nil))))))))))
      (pss_one (ps_expr (pe_bm PySem.F.plainAttrs_list PySem.F.slot_list_append PySem.F.type_list_append mt_append (pv 5) (pa_cons
        (pe_ix ix_list (pe_lc (te := tVar 11) (own := [("_law_each", 11)]) (g := gName 11) (tt := tTest (tOp (rIn K true) (tVar 11) (tVar 8))) rfl scTitles.nd
          (pi_list (pe_op op_cat (pe_lst (pa_cons (pv 7) pa_nil)) (pv 9)))
          (blkOk_by (N := NT) (sc := defScope s_law_titles) (by decide +kernel)) (fun _ _ _ _ _ => pg_name (i := 11) scTitles.nd rfl (Or.inl rfl)) (fun _ _ _ _ _ => pts_one (pt_cmpR op_notIn_seq (pv 11) (pv 8) (by rfl)))
          (fun _ _ _ _ _ => pv 11)) pe_int (fun _ _ => rfl)) pa_nil)))))))))
    (pss_one (ps_ret (pv 5))))), ?_⟩
  have ntd : t ≠ d := deck_ne hd ht (by intro a m k z; cases z)
  refine ⟨(by show 12 ≤ sizeLine; decide), fun pm nm => ?_⟩
  have b1 : But d H (upd H pm (.lst (menuT.map V.str))) := But.refl.new nm _
  have hd1 : DeckAt (upd H pm (.lst (menuT.map V.str))) d := hd.new nm
  have ht1 : (upd H pm (.lst (menuT.map V.str))) t = some (.lst []) := upd_other ht nm
  have hm1 : (upd H pm (.lst (menuT.map V.str))) pm = some (.lst (menuT.map V.str)) := upd_same
  have nmd : pm ≠ d := Ne.symm (hd.off nm)
  refine ⟨(by show 0 ≤ sizeLine; decide), fun pf nf => ?_⟩
  refine ⟨(by show 2 ≤ sizeLine; decide), fun pt nt => ?_⟩
  refine ⟨pt, _, rfl, SqT.of upd_same, rfl, _, _, rfl, _, _, rfl, rfl, ?_⟩
  have nf0 : H pf = none := but_free b1 hd1 nf
  have b3 := ((But.refl (d := d)).new nf (.lst [])).new nt (.tup [V.str "abcdefghijklmnopqrstuvwxyz", .ref pf])
  have hd3 := (hd1.new (o := .lst []) nf).new (o := .tup [V.str "abcdefghijklmnopqrstuvwxyz", .ref pf]) nt
  have hf3 : (upd (upd (upd H pm (.lst (menuT.map V.str))) pf (.lst [])) pt (.tup [V.str "abcdefghijklmnopqrstuvwxyz", .ref pf])) pf = some (.lst []) := upd_other upd_same nt
  have npf : pf ≠ d := Ne.symm (hd1.off nf)
  have goal : ∀ σ H', (But d (upd H pm (.lst (menuT.map V.str))) H' ∧ DeckAt H' d ∧ ∃ ns : List Str, ns.length = k.toNat ∧ (∀ n ∈ ns, nameB n = true ∧ PyData.strOk n = true) ∧ H' pf = some (.lst (ns.map V.str)) ∧
      ∃ v6 v7 v8 v9 v10 v11, σ = [some (.ref d), some (.int k), some (.ref t), some (.ref pm), some (.str abc), some (.ref pf), v6, v7, v8, v9, v10, v11]) →
      tRet (tVar 5) { nx := fun x H' => Q .non H', rt := Q } σ H' := by
    rintro σ H' ⟨bb, hdd, ns, ln, hn, hp, v6, v7, v8, v9, v10, v11, rfl⟩
    exact ⟨_, rfl, q pf ns H' ⟨hn, by omega⟩ (by omega) (b1.trans bb) hdd nf0 hp⟩
  refine ⟨_, rfl, k, rfl, by omega, by omega, ?_⟩
  refine for_range (lo := 0) (n := k.toNat) (fun i σ H' => But d (upd H pm (.lst (menuT.map V.str))) H' ∧ DeckAt H' d ∧ ∃ ns : List Str, ns.length = i ∧ (∀ n ∈ ns, nameB n = true ∧ PyData.strOk n = true) ∧ H' pf = some (.lst (ns.map V.str)) ∧
      ∃ v6 v7 v8 v9 v10 v11, σ = [some (.ref d), some (.int k), some (.ref t), some (.ref pm), some (.str abc), some (.ref pf), v6, v7, v8, v9, v10, v11])
    ⟨b3, hd3, [], rfl, (by intro n hn; cases hn), hf3, none, none, none, none, none, none, rfl⟩ ?_ goal
  clear goal b3 hd3 hf3 nt
  rintro i σ H3 hi ⟨b3, hd3, ns, rfl, hns, hf3, v6, v7, v8, v9, v10, v11, rfl⟩
  have hm3 := b3 pm _ nmd hm1
  have ht3 := b3 t _ ntd ht1
  have n2 : ns.length ≤ 2 := by omega
  -- a title
  refine seq_set ?_
  refine ⟨_, rfl, _, rfl, d, pm, menuT.map V.str, rfl, Ne.symm nmd, SqL.of hm3, by decide, by decide, hd3, fun v H4 hv b4 hd4 => ?_⟩
  obtain ⟨title, htl, rfl⟩ := List.mem_map.mp hv
  have t8 := menu_t8 title htl
  refine if_join (fun σ' H' => But d H4 H' ∧ DeckAt H' d ∧ ∃ title v10', T8 title ∧ σ' = [some (.ref d), some (.int k), some (.ref t), some (.ref pm), some (.str abc), some (.ref pf), some (.int (0 + (ns.length : Int))), some (.str title), v8, v9, v10', v11]) (fun Nx hN => ?_) ?_
  · refine ⟨_, rfl, d, 2, rfl, by decide, by decide, hd4, fun r H5 _ _ b5 hd5 => ⟨rfl, _, rfl, ?_⟩⟩
    refine ite2 (fun _ => ?_) (fun _ => ?_)
    · refine ⟨⟨_, rfl⟩, _, rfl, d, 8, rfl, by decide, by decide, hd5, fun r2 H6 y0 y1 b6 hd6 => ⟨_, _, rfl, rfl, _, rfl, by omega, by omega, fun D hD => ?_⟩⟩
      have nD := hd6.off hD
      refine lc_range (lo := 0) (n := (1 + r2).toNat) (fun i H' => But d H6 H' ∧ DeckAt H' d ∧ ∃ ys : List Str, ys.length = i ∧ (∀ y ∈ ys, ∃ c, y = (⟨#[c]⟩ : Str) ∧ letterB c = true) ∧ H' D = some (.lst (ys.map V.str)))
        ⟨But.refl.new hD _, hd6.new hD, [], rfl, (by intro y hy; cases hy), upd_same⟩ ?_ ?_
      · rintro i H7 hi2 ⟨b7, hd7, ys, rfl, hy, h1⟩
        have al : abc.length = 26 := by decide +kernel
        refine ⟨rfl, turn_yes ⟨_, rfl, _, rfl, d, abc, rfl, by rw [al]; decide, by rw [al]; decide, hd7, fun c H8 hc b8 hd8 => ?_⟩⟩
        have h2 := b8 D _ (Ne.symm nD) h1
        refine ⟨_, h2, ?_, ?_, ?_, ys ++ [⟨#[c]⟩], by rw [List.length_append]; rfl, fun y hy2 => ?_, ?_⟩
        · rw [List.length_map]
          exact Nat.lt_of_lt_of_le (by omega : _ < 1000) (small_line (Nat.le_refl _))
        · intro x o nx hx
          rw [upd_ne (ne_of_none hx hD)]
          exact b8 x o nx (b7 x o nx hx)
        · obtain ⟨x, y, z, e1, e2, e3⟩ := hd8
          exact ⟨x, y, z, e1, e2, by rw [upd_ne nD]; exact e3⟩
        · rcases List.mem_append.mp hy2 with q1 | q1
          · exact hy y q1
          · exact ⟨c, List.mem_singleton.mp q1, by rw [← is_letter]; exact decide_eq_true hc⟩
        · rw [upd_same, List.map_append]
          rfl
      · rintro H7 ⟨b7, hd7, ys, hl, hy, h1⟩
        refine ⟨"", D, ys, rfl, rfl, .inl (SqL.of h1), join_fit hy (by omega), ?_⟩
        rw [TL.join_eq]
        obtain ⟨j1, j2⟩ := join_letters ys hy
        exact hN _ _ ⟨(b5.trans b6).trans b7, hd7, _, v10, t8_of (by omega) (by omega) j2, rfl⟩
    · exact hN _ _ ⟨b5, hd5, title, v10, t8, rfl⟩
  clear t8 htl hv title
  rintro σ' H5 ⟨b5, hd5, title, v10', t8, rfl⟩
  have bA := (b3.trans b4).trans b5
  have hf5 := b5 pf _ npf (b4 pf _ npf hf3)
  have ht5 := b5 t _ ntd (b4 t _ ntd ht3)
  clear b3 b4 b5 hd3 hd4 hf3 ht3 hm3
  -- banned, spare
  refine seq_set ?_
  refine ⟨(by show 5 ≤ sizeLine; decide), fun q1 m1 => ?_⟩
  have npf1 : pf ≠ q1 := ne_of_none hf5 m1
  refine ⟨_, rfl, q1, t, _, _, rfl, rfl, upd_same, upd_other ht5 m1, (by show 5 + 0 ≤ sizeLine; decide), fun q2 m2 => ?_⟩
  have h1 := upd_other (o := .lst [V.str "weave", .str "part", .str "drop", .str "lead", .str "turn"]) hf5 m1
  have h2 := upd_other (o := .lst ([V.str "weave", .str "part", .str "drop", .str "lead", .str "turn"] ++ [])) h1 m2
  refine ⟨_, rfl, q2, pf, _, _, rfl, rfl, upd_same, h2, (by show 5 + _ ≤ sizeLine; rw [List.length_map]; exact small_line (by omega)), fun q3 m3 => ?_⟩
  have h3 := upd_other (o := .lst ([V.str "weave", .str "part", .str "drop", .str "lead", .str "turn"] ++ [] ++ ns.map V.str)) h2 m3
  have ss := ((same_new m1 (.lst [V.str "weave", .str "part", .str "drop", .str "lead", .str "turn"])).trans (same_new m2 (.lst ([V.str "weave", .str "part", .str "drop", .str "lead", .str "turn"] ++ [])))).trans (same_new m3 (.lst ([V.str "weave", .str "part", .str "drop", .str "lead", .str "turn"] ++ [] ++ ns.map V.str)))
  have hb : (upd (upd (upd H5 q1 (.lst [V.str "weave", .str "part", .str "drop", .str "lead", .str "turn"])) q2 (.lst ([V.str "weave", .str "part", .str "drop", .str "lead", .str "turn"] ++ []))) q3 (.lst ([V.str "weave", .str "part", .str "drop", .str "lead", .str "turn"] ++ [] ++ ns.map V.str))) q3 = some (.lst ((noNames ++ ns).map V.str)) := by
    rw [upd_same, List.append_nil, List.map_append]
    rfl
  have bB := bA.trans (But.of ss)
  have hdB := hd5.byt ss
  clear ss h1 h2 npf1 ht5 hf5 bA hd5
  generalize (upd (upd (upd H5 q1 (.lst [V.str "weave", .str "part", .str "drop", .str "lead", .str "turn"])) q2 (.lst ([V.str "weave", .str "part", .str "drop", .str "lead", .str "turn"] ++ []))) q3 (.lst ([V.str "weave", .str "part", .str "drop", .str "lead", .str "turn"] ++ [] ++ ns.map V.str))) = H6 at *
  refine seq_set ?_
  refine ⟨(by show 8 ≤ sizeLine; decide), fun q4 m4 => ?_⟩
  have hs : (upd H6 q4 (.lst [V.str "na", .str "nb", .str "nc", .str "nd", .str "ne", .str "nf", .str "ng", .str "nh"])) q4 = some (.lst [V.str "na", .str "nb", .str "nc", .str "nd", .str "ne", .str "nf", .str "ng", .str "nh"]) := upd_same
  have hb4 := upd_other (o := .lst [V.str "na", .str "nb", .str "nc", .str "nd", .str "ne", .str "nf", .str "ng", .str "nh"]) hb m4
  have hf4 := upd_other (o := .lst [V.str "na", .str "nb", .str "nc", .str "nd", .str "ne", .str "nf", .str "ng", .str "nh"]) h3 m4
  have bC := bB.new m4 (.lst [V.str "na", .str "nb", .str "nc", .str "nd", .str "ne", .str "nf", .str "ng", .str "nh"])
  have hdC : DeckAt (upd H6 q4 (.lst [V.str "na", .str "nb", .str "nc", .str "nd", .str "ne", .str "nf", .str "ng", .str "nh"])) d := hdB.new m4
  clear bB hdB hb h3
  refine ⟨_, rfl, .inl ⟨rfl, _, SqL.of hf4⟩, ?_⟩
  refine ⟨_, rfl, (by show 1 ≤ sizeLine; decide), fun q5 m5 => ?_⟩
  have c1 : (upd (upd H6 q4 (.lst [V.str "na", .str "nb", .str "nc", .str "nd", .str "ne", .str "nf", .str "ng", .str "nh"])) q5 (.lst [V.str title])) q5 = some (.lst [V.str title]) := upd_same
  have c2 := upd_other (o := .lst [V.str title]) hs m5
  refine ⟨_, rfl, q5, q4, _, _, rfl, rfl, c1, c2, (by show 1 + 8 ≤ sizeLine; decide), fun q6 m6 => ?_⟩
  have s6 := (same_new m5 (.lst [V.str title])).trans (same_new m6 (.lst ([V.str title] ++ [V.str "na", .str "nb", .str "nc", .str "nd", .str "ne", .str "nf", .str "ng", .str "nh"])))
  have hx : (upd (upd (upd H6 q4 (.lst [V.str "na", .str "nb", .str "nc", .str "nd", .str "ne", .str "nf", .str "ng", .str "nh"])) q5 (.lst [V.str title])) q6 (.lst ([V.str title] ++ [V.str "na", .str "nb", .str "nc", .str "nd", .str "ne", .str "nf", .str "ng", .str "nh"]))) q6 = some (.lst ((title :: spareT).map V.str)) := upd_same
  have hb6 := s6 _ _ hb4
  have hf6 := s6 _ _ hf4
  have bD := bC.trans (But.of s6)
  have hdD := hdC.byt s6
  clear c1 c2 s6 hb4 hf4 bC hdC hs
  generalize (upd (upd (upd H6 q4 (.lst [V.str "na", .str "nb", .str "nc", .str "nd", .str "ne", .str "nf", .str "ng", .str "nh"])) q5 (.lst [V.str title])) q6 (.lst ([V.str title] ++ [V.str "na", .str "nb", .str "nc", .str "nd", .str "ne", .str "nf", .str "ng", .str "nh"]))) = H7 at *
  clear m1 m2 m3 m4 m5 m6
  refine ⟨q6, rfl, ⟨_, SqL.of hx⟩, fun D hD => ?_⟩
  have nD := hdD.off hD
  have fin : ∀ z : Str, z ∉ noNames ++ ns → T8 z → nameB z = true ∧ PyData.strOk z = true := by
    intro z hz t8z
    refine ⟨?_, t8z.2⟩
    unfold nameB
    rw [t8z.1, inV_str, decide_eq_false fun y => hz (List.mem_append_left _ y)]
    rfl
  have all8 : ∀ z ∈ title :: spareT, T8 z := fun z hz => by
    rcases List.mem_cons.mp hz with rfl | hz
    · exact t8
    · exact spare_t8 z hz
  refine lc_list (K := K) (a := q6) (xs := (title :: spareT).map V.str) (fun i H' => Same H7 H' ∧ H' D = some (.lst ((((title :: spareT).take i).filter fun x => !decide (x ∈ noNames ++ ns)).map V.str))) ⟨same_new hD _, upd_same⟩ (fun i H' _ z => SqL.of (z.1 _ _ hx)) ?_ ?_
  · rintro i x H' hxi ⟨s1, g1⟩
    rw [List.getElem?_map] at hxi
    obtain ⟨y, hy, rfl⟩ := Option.map_eq_some_iff.mp hxi
    have iy : i < (title :: spareT).length := (List.getElem?_eq_some_iff.mp hy).1
    have tk : ((title :: spareT).take (i + 1)).filter (fun x => !decide (x ∈ noNames ++ ns)) = ((title :: spareT).take i).filter (fun x => !decide (x ∈ noNames ++ ns)) ++ (if (!decide (y ∈ noNames ++ ns)) = true then [y] else []) := by
      rw [List.take_add_one, hy, List.filter_append]
      congr 1
      show List.filter _ [y] = _
      rw [List.filter_cons, List.filter_nil]
    refine ⟨rfl, _, rfl, _, rfl, q3, _, rfl, .inl (SqL.of (s1 _ _ hb6)), rfl, flat_strs _, _, rfl, ?_⟩
    have ei : (if true = true then !inV (V.str y) ((noNames ++ ns).map V.str) else inV (V.str y) ((noNames ++ ns).map V.str)) = !decide (y ∈ noNames ++ ns) := by
      rw [if_pos rfl, inV_str]
    rw [ei, tk]
    refine ite2 (fun c => ?_) (fun c => ?_)
    · rw [if_pos c]
      refine ⟨_, rfl, _, g1, ?_, fun b o hbo => ?_, ?_⟩
      · rw [List.length_map]
        refine Nat.lt_of_le_of_lt (List.length_filter_le _ _) ?_
        rw [List.length_take]
        exact Nat.lt_of_le_of_lt (Nat.min_le_right _ _) (by show 1 + 8 < sizeLine; decide)
      · rw [upd_ne (ne_of_none hbo hD)]
        exact s1 b o hbo
      · rw [upd_same, List.map_append]
        rfl
    · rw [if_neg c, List.append_nil]
      exact ⟨s1, g1⟩
  · rintro H' ⟨s1, g1⟩
    rw [List.length_map, List.take_of_length_le (Nat.le_refl _)] at g1
    obtain ⟨x0, hx0, nx0⟩ := spare_free n2
    have ne : (title :: spareT).filter (fun x => !decide (x ∈ noNames ++ ns)) ≠ [] := by
      intro z
      have hm : x0 ∈ (title :: spareT).filter (fun x => !decide (x ∈ noNames ++ ns)) := List.mem_filter.mpr ⟨List.mem_cons_of_mem _ hx0, by rw [decide_eq_false nx0]; rfl⟩
      rw [z] at hm
      cases hm
    cases hf : (title :: spareT).filter (fun x => !decide (x ∈ noNames ++ ns)) with
    | nil => exact absurd hf ne
    | cons z0 zs =>
      rw [hf] at g1
      have hz0 : z0 ∈ (title :: spareT).filter (fun x => !decide (x ∈ noNames ++ ns)) := by rw [hf]; exact List.mem_cons_self
      obtain ⟨hz1, hz2⟩ := List.mem_filter.mp hz0
      have hz3 : z0 ∉ noNames ++ ns := fun y => by rw [decide_eq_true y] at hz2; cases hz2
      refine ⟨D, _, 0, .str z0, rfl, rfl, SqL.of g1, atI_nat (xs := (z0 :: zs).map V.str) (j := 0) rfl, ?_⟩
      have hf7 := s1 _ _ hf6
      refine ⟨pf, _, _, rfl, rfl, hf7, (by rw [List.length_map]; exact Nat.lt_of_lt_of_le (by omega : _ < 1000) (small_line (Nat.le_refl _))), ?_⟩
      refine ⟨?_, ?_, ns ++ [z0], by rw [List.length_append]; rfl, fun n hn => ?_, ?_, _, _, _, _, _, _, rfl⟩
      · intro b o nb hbo
        have : b ≠ pf := ne_of_none hbo nf
        rw [upd_ne this]
        exact s1 b o (bD b o nb hbo)
      · obtain ⟨x, y, z, e1, e2, e3⟩ := hdD.byt s1
        exact ⟨x, y, z, e1, e2, by rw [upd_ne (Ne.symm npf)]; exact e3⟩
      · rcases List.mem_append.mp hn with y | y
        · exact hns n y
        · rw [List.mem_singleton.mp y]
          exact fin z0 hz3 (all8 z0 hz1)
      · rw [upd_same, List.map_append]
        rfl
end
end Wp

namespace Wp
open PySem PySem.Spec PyProof.Rows L2 Hx

mutual
def Tr.pre : Tr → List Tr
  | .sign s => [.sign s] | .name n => [.name n] | .weave l => .weave l :: Tr.preL l | .part j t => .part j t :: t.pre | .drop c t => .drop c t :: t.pre | .lead t u => .lead t u :: (t.pre ++ u.pre) | .turn w t => .turn w t :: t.pre
def Tr.preL : List Tr → List Tr
  | [] => [] | t :: r => t.pre ++ Tr.preL r
end
theorem pre_eq (t : Tr) : t.pre = t :: Tr.preL t.kids := by
  cases t <;> simp [Tr.pre, Tr.kids, Tr.preL]
mutual
theorem pre_len : ∀ t : Tr, t.pre.length = t.knots
  | .sign _ => rfl
  | .name _ => rfl
  | .weave l => by have := preL_len l; simp only [Tr.pre, Tr.knots, List.length_cons]; omega
  | .part _ t => by have := pre_len t; simp only [Tr.pre, Tr.knots, List.length_cons]; omega
  | .drop _ t => by have := pre_len t; simp only [Tr.pre, Tr.knots, List.length_cons]; omega
  | .lead t u => by have := pre_len t; have := pre_len u; simp only [Tr.pre, Tr.knots, List.length_cons, List.length_append]; omega
  | .turn _ t => by have := pre_len t; simp only [Tr.pre, Tr.knots, List.length_cons]; omega
theorem preL_len : ∀ l : List Tr, (Tr.preL l).length = Tr.knotsL l
  | [] => rfl
  | t :: r => by have := pre_len t; have := preL_len r; simp only [Tr.preL, Tr.knotsL, List.length_append]; omega
end
theorem kids_knots (t : Tr) : Tr.knotsL t.kids + 1 = t.knots := by
  have h := pre_len t
  rw [pre_eq, List.length_cons, preL_len] at h
  exact h
theorem knotsL_get : ∀ {l : List Tr} {i : Nat} {t : Tr}, l[i]? = some t → t.knots ≤ Tr.knotsL l
  | [], i, t, h => by simp at h
  | u :: r, 0, t, h => by
    cases (Option.some.inj h)
    simp only [Tr.knotsL]
    omega
  | u :: r, i + 1, t, h => by
    have := knotsL_get (l := r) (i := i) h
    simp only [Tr.knotsL]
    omega
theorem TrAll.app {H : Hp} : ∀ {vs us : List V} {l m : List Tr}, TrAll H vs l → TrAll H us m → TrAll H (vs ++ us) (l ++ m)
  | _, _, _, _, .nil, h => h
  | _, _, _, _, .cons a r, h => .cons a (TrAll.app r h)
end Wp

namespace Wp
open PySem PySem.Spec PyProof.Rows L2 Hx
theorem preL_take {l : List Tr} {i : Nat} {t : Tr} (h : l[i]? = some t) : Tr.preL (l.take (i + 1)) = Tr.preL (l.take i) ++ t.pre := by
  rw [List.take_add_one, h]
  show Tr.preL (l.take i ++ [t]) = _
  generalize l.take i = r
  induction r with
  | nil => simp [Tr.preL]
  | cons u r ih =>
    show u.pre ++ Tr.preL (r ++ [t]) = (u.pre ++ Tr.preL r) ++ t.pre
    rw [ih, List.append_assoc]
theorem knotsL_take : ∀ (l : List Tr) (i : Nat), Tr.knotsL (l.take i) ≤ Tr.knotsL l
  | [], i => by rw [List.take_nil]; exact Nat.le_refl _
  | t :: r, 0 => Nat.zero_le _
  | t :: r, i + 1 => by
    have := knotsL_take r i
    simp only [List.take_succ_cons, Tr.knotsL]
    omega
def spPlain : Sp := fun vs H Q _ => ∃ (d : Addr) (room : Int), vs = [.ref d, .int room] ∧ DeckAt H d ∧ 1 ≤ room ∧ room ≤ 12 ∧
  ∀ p b z pt v t ns H', 2 ≤ b → b ≤ 4 → But d H H' → DeckAt H' d → H' p = some (.tup [.int b, .str z, .ref pt, v]) → TrAt H' v t → t.Ok b → (t.knots : Int) ≤ room → Letters z → H' pt = some (.lst (ns.map V.str)) → Nms ns → 0 < ns.length → pt ≠ d → Q (.ref p) H'
section
variable {P : Program} {w : World} {K : PySem.W.Frag} {mg : Str → Option Value} {base : Heap} {f fI fC fS fT fE : Addr} {fd fdI fdC fdS fdT fdE : FuncData}
theorem scPlain : FnScope ["_law_deck_here", "_law_room", "_law_wide", "_law_letters", "_law_titles_here"] ["_law_deck_here", "_law_room"] (defScope s_law_plain) := ⟨rfl, rfl, rfl, by decide +kernel, rfl, by decide +kernel, by decide +kernel⟩
theorem ok_plain (F : Fun K "_law_plain" "_law_plain" s_law_plain f fd)
    (GC : FnOk P w K mg base CX0 1 fC fdC ["_law_deck_here", "_law_top"] spCard) (bC : Binds K fdC ["_law_deck_here", "_law_top"] []) (kC : PySem.W.keepIn K (.ref fC) = true) (mC : mg "_law_card" = some (.ref fC))
    (GS : FnOk P w K mg base CX0 2 fS fdS ["_law_deck_here", "_law_size"] spSigns) (bS : Binds K fdS ["_law_deck_here", "_law_size"] []) (kS : PySem.W.keepIn K (.ref fS) = true) (mS : mg "_law_signs" = some (.ref fS))
    (GT : FnOk P w K mg base CX0 3 fT fdT ["_law_deck_here", "_law_size", "_law_taken"] spTitles) (bT : Binds K fdT ["_law_deck_here", "_law_size", "_law_taken"] []) (kT : PySem.W.keepIn K (.ref fT) = true) (mT : mg "_law_titles" = some (.ref fT))
    (GE : FnOk P w K mg base CX0 (4 + 12) fE fdE ["_law_deck_here", "_law_frame", "_law_room", "_law_parts"] (spTree 12)) (bE : Binds K fdE ["_law_deck_here", "_law_frame", "_law_room", "_law_parts"] []) (kE : PySem.W.keepIn K (.ref fE) = true) (mE : mg "_law_tree" = some (.ref fE)) :
    FnOk P w K mg base CX0 17 f fd ["_law_deck_here", "_law_room"] spPlain := by
  refine F.ok scPlain (fun vs H Q E h => ?_) (fun cdv A outer s H vs Q E hr h => ?_)
  · obtain ⟨d, room, rfl, _⟩ := h
    rfl
  obtain ⟨d, room, rfl, hd, r1, r12, q⟩ := h
  have k1 := hr.mono (by decide : 1 ≤ 16)
  have k2 := hr.mono (by decide : 2 ≤ 16)
  have k3 := hr.mono (by decide : 3 ≤ 16)
  refine ⟨_, pss_cons (ps_par (i := 2) (j := 3) rfl scPlain.nd rfl rfl (by decide) rfl rfl (pa_cons (pe_op op_add pe_int (pe_call GC k1 rfl mC kC bC .nil pass0 (pa_cons (pv 0) (pa_cons pe_int pa_nil))))
      (pa_cons (pe_call GS k2 rfl mS kS bS .nil pass0 (pa_cons (pv 0) (pa_cons (pe_op op_add pe_int (pe_call GC k1 rfl mC kC bC .nil pass0 (pa_cons (pv 0) (pa_cons pe_int pa_nil)))) pa_nil))) pa_nil)) rfl)
    (pss_cons (ps_set (i := 4) scPlain.nd rfl (Or.inl rfl) (pe_call GT k3 rfl mT kT bT .nil pass0 (pa_cons (pv 0) (pa_cons (pe_op op_add pe_int (pe_call GC k1 rfl mC kC bC .nil pass0 (pa_cons (pv 0) (pa_cons pe_int pa_nil)))) (pa_cons (pe_lst pa_nil) pa_nil)))))
    (pss_one (ps_ret (pe_tup (pa_cons (pv 2) (pa_cons (pv 3) (pa_cons (pv 4) (pa_cons (pe_call GE hr rfl mE kE bE .nil pass0 (pa_cons (pv 0) (pa_cons
      (pe_lst (pa_cons (pv 2) (pa_cons (pv 3) (pa_cons (pv 4) (pa_cons (pv 4) (pa_cons (pv 4) (pa_cons pe_bl pa_nil))))))) (pa_cons (pv 1) (pa_cons pe_int pa_nil))))) pa_nil)))))))), ?_⟩
  refine ⟨_, rfl, d, 3, rfl, by decide, by decide, hd, fun x1 H1 a0 a1 b1 hd1 => ⟨_, _, rfl, rfl, ?_⟩⟩
  refine ⟨_, rfl, _, rfl, d, 4, rfl, by decide, by decide, hd1, fun x2 H2 c0 c1 b2 hd2 => ⟨_, _, rfl, rfl, ?_⟩⟩
  refine ⟨d, 1 + x2, rfl, by omega, by omega, hd2, fun z H3 lz b3 hd3 => ⟨_, _, rfl, ?_⟩⟩
  refine nx_go (seq_set ?_)
  refine ⟨_, rfl, _, rfl, d, 3, rfl, by decide, by decide, hd3, fun x4 H4 e0 e1 b4 hd4 => ⟨_, _, rfl, rfl, ?_⟩⟩
  refine ⟨(by show 0 ≤ sizeLine; decide), fun pe ne => ?_⟩
  refine ⟨d, pe, 1 + x4, rfl, by omega, by omega, hd4.new ne, upd_same, fun pt ns H5 hns hns0 b5 hd5 npt hpt => ?_⟩
  have bH := (((b1.trans b2).trans b3).trans b4).trans ((But.refl.new ne (.lst [])).trans b5)
  refine ⟨_, rfl, _, rfl, _, rfl, _, rfl, _, rfl, _, rfl, _, rfl, _, rfl, _, rfl, (by show 6 ≤ sizeLine; decide), fun pl nl => ?_⟩
  have hl : (upd H5 pl (.lst [V.int (2 + x1), .str z, .ref pt, .ref pt, .ref pt, .bl false])) pt = some (.lst (ns.map V.str)) := upd_other hpt nl
  refine ⟨_, rfl, d, pl, room, 3, 2 + x1, z, rfl, hd5.new nl, ⟨pt, pt, pt, ns, ns, ns, upd_same, hl, hl, hl, hns, hns, hns⟩, lz, by omega, by omega, r1, by omega, by omega, fun v H6 t b6 hd6 ht6 ok6 kn6 => ?_⟩
  refine ⟨(by show 4 ≤ sizeLine; decide), fun pr nr => ?_⟩
  have sn := same_new nr (.tup [V.int (2 + x1), .str z, .ref pt, v])
  have npd : pt ≠ d := deck_ne hd5 hpt names_ne
  have hpt6 := sn _ _ (b6 pt _ npd hl)
  refine q pr (2 + x1) z pt v t ns _ (by omega) (by omega) ((bH.trans (But.refl.new nl _)).trans (b6.trans (But.of sn))) (hd6.new nr) upd_same ?_ ok6 (by omega) lz hpt6 hns hns0 npd
  exact TrAt.same (fun c o h => sn _ _ (newPart_some h).2) _ _ ht6
end
end Wp

/-! operators of an own class without slots; a text times a number; a method called by keywords; dead rows -/
namespace Hx
open PySem PySem.Spec PyProof.Rows L2
/-- a row that is never reached -/
theorem ps_dead {X : Cx} {st : Stmt} : PS X st (fun _ _ _ => False) := ⟨fun _ _ _ _ _ _ h => h.elim⟩
section
variable {X : Cx}
theorem op_mul_str : OpR X (binaryOp .Mult) (fun x y H Q => ∃ z k, x = .str z ∧ y = .int k ∧ MulOk z k ∧ Q (.str (Txt.mul z k)) H) := by
  intro pins s σ H x y v u Q I rx ry h
  obtain ⟨z, k, rfl, rfl, hz, q⟩ := h
  obtain ⟨t, rfl⟩ := rx
  obtain ⟨t', rfl⟩ := ry
  exact SB.mul hz (fun t' tk => ⟨.str (Txt.mul z k), H, I.tok _, ⟨_, rfl⟩, q⟩)
end
/-- o.m(k = v, ..) -/
def tMethK (C : Addr) (m : Str) (sp : Sp) (gV : List V → List V → List V) (E : XK) (ta : TE) (tk : TA) : TE := fun σ H Q => ta σ H fun x H1 => ∃ a dx fs, x = .ref a ∧ H1 a = some (.ins C dx fs) ∧ fs.lookup m = none ∧
  tk σ H1 fun zs H2 => sp (gV [x] zs) H2 Q E
section
variable {X : Cx} {CX : CXT} {k : Nat} {f C : Addr} {fd : FuncData} {ps ks : List Str} {sp : Sp} {E : XK} {m : Str} {pos apos : Pos} {o : Expr} {kws : List Keyword} {ta : TE} {tk : TA}
  {g : List Value → List Value → List Value} {gV : List V → List V → List V}
theorem pe_methK {pl : Sem Bool} (he : PE X o ta) (c : Cls X.K C) (hm : Meth X.K C m f) (F : FnOk X.prog X.w X.K X.mg X.base CX k f fd ps sp) (hr : Room k X.A) (hb : KBinds X.K fd ps ks g gV) (hx : Passes CX X E) (hkw : PK X kws tk)
    (hall : (backToKw pos (keywordEach kws X.env)).all (·.1.isSome) = true := by rfl) (hks : (backToKw pos (keywordEach kws X.env)).filterMap (·.1) = ks := by rfl)
    (hpl : ((backTo pos (starEach [] X.env)).any (·.1) || (backToKw pos (keywordEach kws X.env)).any (·.1.isNone)) = false := by rfl)
    (ht : eval (.Call (.Attribute o m apos) [] kws pos) X.env = (do
      let ov ← eval o X.env
      standAt apos.atName
      let (f, first) ← holding [ov] (getMethod ov m pl)
      callWith pos f first (backTo pos (starEach [] X.env)) (backToKw pos (keywordEach kws X.env))) := by rfl) :
    PE X (.Call (.Attribute o m apos) [] kws pos) (tMethK C m sp gV E ta tk) := by
  refine ⟨fun pins s σ H Q I h => ?_⟩
  refine PySem.W.methodCall_KW (pl := pl) (thn (he.run pins s σ H _ I h) fun u s1 ⟨x, H1, I1, rx, a, dx, fs, ex, ea, l, q⟩ => ?_) ht
  subst ex
  obtain rfl : u = Value.ref a := rx
  refine getmeth_ok I1 ea c hm l ?_
  refine PySem.W.callWith_KW0 (first := [.ref a]) (h₀ := X.base) I.ok.mod.kin hm.kp hall ?_ hpl
  refine thn (hkw.run pos pins s1 σ H1 _ I1 q) fun ws s2 ⟨zs, H2, I2, rz, q2⟩ => ⟨I2.kIn, ?_⟩
  rw [hks]
  exact run_fnk (us := [.ref a]) (vs := [.ref a]) F hr hb hx I2 (.cons rfl .nil) rz q2
end
/-- o[i] where the class at C tells its items by a def of its own -/
structure ItemBy (P : Program) (w : World) (K : PySem.W.Frag) (mg : Str → Option Value) (base : Heap) (k : Nat) (C : Addr) (ps : List Str) (sp : Sp) : Prop where
  go : ∃ (g : Addr) (fd : FuncData), PySem.W.findIn K (.ref C) "__getitem__" = some (some (.ref g)) ∧ PySem.W.fnIn K g = true ∧ PySem.W.isFn K (.ref g) = true ∧
    FnOk P w K mg base CX0 k g fd ps sp ∧ Binds K fd ps []
def rItem (C : Addr) (sp : Sp) : R2 := fun x y H Q => ∃ (a dx : Addr) (fs : List (Str × V)), x = .ref a ∧ H a = some (.ins C dx fs) ∧ sp [x, y] H Q E0
section
variable {X : Cx} {k : Nat} {C : Addr} {ps : List Str} {sp : Sp}
theorem run_below {pins : List (Addr × Obj)} {σ : L2.St} {H : Hp} {s : Shared} {Q : VK} {us : List Value} {vs : List V} {A1 : Around} {f : Addr} {fd : FuncData}
    (F : FnOk X.prog X.w X.K X.mg X.base CX0 k f fd ps sp) (hr : Room k A1) (e0 : Env0 X.prog X.w X.K X.mg X.base A1 X.stack s H) (hb : Binds X.K fd ps []) (I : Inv X pins σ H s) (r : Vals vs us) (h : sp vs H Q E0) :
    wpAny (model X.prog X.w) A1 (call (.ref f) us) (EP X pins σ Q) X.xe s := by
  have l := F.len vs H Q E0 h
  have hl : us.length = ps.length := by rw [← r.length]; exact l
  have b := hb s us I.kIn (by rw [List.append_nil]; exact hl)
  rw [List.append_nil] at b
  refine wpAny_call (codeAny_mono (F.run A1 X.stack s H ⟨us, []⟩ us vs Q E0 hr e0 b r h) fun r s' hq => ?_)
  cases r with
  | error e => exact (show False from hq).elim
  | ok fl =>
    cases fl with
    | ret u => exact I.after hq
    | next => exact hq.elim
    | brk => exact hq.elim
    | cont => exact hq.elim
theorem pe_ixO {e i : Expr} {pos : Pos} {te ti : TE} (T : ItemBy X.prog X.w X.K X.mg X.base k C ps sp) (hr : Room (k + 1) X.A) (he : PE X e te) (hi : PE X i ti)
    (hsl : ∀ (a : Addr) (u : Value), subscripted i true (.ref a) u = runValue (.builtin "lifetime.subscript" ⟨[.ref a, u], []⟩)) : PE X (.Subscript e i pos) (tOp (rItem C sp) te ti) := by
  refine ⟨fun pins s σ H Q I h => ?_⟩
  refine Subscript_ (binT he hi I h fun v u s2 x y H2 I2 rx ry q => ?_)
  obtain ⟨a, dx, fs, rfl, ha, q⟩ := q
  cases (show v = Value.ref a from rx)
  obtain ⟨g, fd, h1, h2, h3, F, b⟩ := T.go
  obtain ⟨mA, O, _⟩ := ins_get I2.hok ha
  obtain ⟨od, J, _⟩ := O.look
  obtain ⟨m, hF⟩ := I2.fr
  exact PySem.W.sub_K hF I2.ok.mod.kin J h1 h2 h3 (run_below F hr.in1 I2.env0.in1 b I2 (.cons rx (.cons ry .nil)) q) (hsl _ _)
end
/-- x == y by the class's own def -/
structure EqBy (P : Program) (w : World) (K : PySem.W.Frag) (mg : Str → Option Value) (base : Heap) (k : Nat) (C : Addr) (ps : List Str) (sp : Sp) : Prop where
  go : ∃ (g : Addr) (fd : FuncData), PySem.W.findIn K (.ref C) "__eq__" = some (some (.ref g)) ∧ PySem.W.isFn K (.ref g) = true ∧
    FnOk P w K mg base CX0 k g fd ps sp ∧ Binds K fd ps []
  ne : PySem.W.findIn K (.ref C) "__ne__" = some (some (.builtin "object.__ne__"))
  obj : PySem.W.mroIn K C (.type "object") = some true
  str : PySem.W.notFirst K C (.type "str") = true
  tup : PySem.W.notFirst K C (.type "tuple") = true
/-- the right operand: a text, a tuple, an object of this class -/
def Right (C : Addr) (H : Hp) (y : V) : Prop := (∃ z : Str, y = .str z) ∨ (∃ (b : Addr) (xs : List V), y = .ref b ∧ H b = some (.tup xs)) ∨ ∃ (b dx : Addr) (fs : List (Str × V)), y = .ref b ∧ H b = some (.ins C dx fs)
def rEqO (C : Addr) (sp : Sp) : R2 := fun x y H Q => ∃ (a dx : Addr) (fs : List (Str × V)), x = .ref a ∧ H a = some (.ins C dx fs) ∧ Right C H y ∧ sp [x, y] H (fun v H' => ∃ k, v = .bl k ∧ Q (.bl k) H') E0
def rNeO (C : Addr) (sp : Sp) : R2 := fun x y H Q => ∃ (a dx : Addr) (fs : List (Str × V)), x = .ref a ∧ H a = some (.ins C dx fs) ∧ Right C H y ∧ sp [x, y] H (fun v H' => ∃ k, v = .bl k ∧ Q (.bl (!k)) H') E0
section
variable {X : Cx} {k : Nat} {C : Addr} {ps : List Str} {sp : Sp} {P : Program} {w : World} {K : PySem.W.Frag} {mg : Str → Option Value} {base : Heap}
theorem right_of {pins : List (Addr × Obj)} {σ : L2.St} {H : Hp} {s : Shared} {y : V} {u : Value} (T : EqBy P w K mg base k C ps sp) (I : Inv X pins σ H s) (ry : RelV y u) (r : Right C H y) :
    ∃ tb, PySem.W.Looks (model X.prog X.w) s.heap (typeOf u) tb ∧ PySem.W.notFirst K C tb = true := by
  rcases r with ⟨z, rfl⟩ | ⟨b, xs, rfl, hb⟩ | ⟨b, dx, fs, rfl, hb⟩
  · obtain ⟨t, rfl⟩ := ry
    exact ⟨.type "str", .of_pure rfl, T.str⟩
  · cases (show u = Value.ref b from ry)
    obtain ⟨its, _, ⟨o, ho, hc, _⟩, _⟩ := I.tuple (SqT.of hb)
    exact ⟨.type "tuple", hc ▸ (PySem.W.Looks.ld ho).andThen .now, T.tup⟩
  · cases (show u = Value.ref b from ry)
    obtain ⟨mA, O, _⟩ := ins_get I.hok hb
    obtain ⟨od, J, _⟩ := O.look
    exact ⟨.ref C, J.type, by unfold PySem.W.notFirst; simp⟩
theorem op_eqO (T : EqBy X.prog X.w X.K X.mg X.base k C ps sp) (hr : Room k X.A) : OpR X (compareOp .Eq) (rEqO C sp) := by
  intro pins s σ H x y v u Q I rx ry h
  obtain ⟨a, dx, fs, rfl, ha, r, q⟩ := h
  obtain ⟨tb, hb, hn⟩ := right_of T I ry r
  cases (show v = Value.ref a from rx)
  obtain ⟨g, fd, h1, h2, F, b⟩ := T.go
  obtain ⟨mA, O, _⟩ := ins_get I.hok ha
  obtain ⟨od, J, _⟩ := O.look
  obtain ⟨m, hF⟩ := I.fr
  refine PySem.W.cmp_ofEq (PySem.W.cmp_K (op := .Eq) hr.units0 hF I.ok.mod.kin J hb hn h1 h2 ?_)
  refine wpAny_mono (run_below F hr I.env0 b I (.cons rx (.cons ry .nil)) q) (fun w' s' z => ?_) fun _ _ e => e
  obtain ⟨z', H', I', rz, kk, rfl, qz⟩ := z
  cases (show w' = Value.bool kk from rz)
  exact ⟨.bl kk, H', I', rfl, qz⟩
end
end Hx
namespace Hx
open PySem PySem.Spec PyProof.Rows L2
section
variable {prog : Program} {w : World} {A : Around} {E : Value → Shared → Prop} {s : Shared} {K : PySem.W.Frag} {x C L f : Addr} {h₀ : Heap} {m : Str → Option Value} {ox : Obj} {od : Option Obj} {name : Str} {b tb : Value}
theorem ifBound_B {M : Model} {args : List Value} {id : String} {Q : Option Value → Shared → Prop} (X : K.In s.heap) (I : PySem.W.InstAt s.heap x ox C od) (hs : PySem.W.findIn K (.ref C) name = some (some (.builtin id)))
    (hb : ∀ self, bindSpecial (.builtin id) self = pure (.builtin id, [self])) (h : wpAny M A (call (.builtin id) (.ref x :: args)) (fun v => Q (some v)) E s) : wpAny M A (callSpecialIfBound? (.ref x) name args) Q E s := by
  simp only [callSpecialIfBound?, bindSpecialIfBound?]
  refine wpAny_holding (wpAny_bind (wpAny_bind (wpAny_bind (I.type.here ((PySem.W.looks_findIn X hs).here ?_)))))
  refine wpAny_bind (wpAny_askSetting (wpAny_ite ?_))
  have fin : wpAny M A (call (.builtin id) ([.ref x] ++ args) >>= fun v => pure (some v)) Q E s := wpAny_bind (wpAny_mono h (fun v s' h' => wpAny_pure h') fun _ _ h' => h')
  split
  · exact wpAny_bind ((PySem.W.Looks.of_pure (hb _)).here (wpAny_pure (by exact fin)))
  · exact wpAny_tryCatch (wpAny_bind ((PySem.W.Looks.of_pure (hb _)).here (wpAny_pure (by exact fin))))
theorem objNe_K (hu : A.units < cLine) (X : K.In s.heap) (I : PySem.W.InstAt s.heap x ox C od) (he : PySem.W.findIn K (.ref C) "__eq__" = some (some (.ref f))) (hf : PySem.W.isFn K (.ref f) = true) {Q : Fin → Shared → Prop}
    (hcall : wpAny (model prog w) A (call (.ref f) [.ref x, b]) (fun v s' => ∃ k, v = .bool k ∧ Q (.done (.ret (.bool (!k)))) s') E s) :
    wpAny (model prog w) A (Builtin.«object.__ne__» ⟨[.ref x, b], []⟩) Q E s := by
  unfold Builtin.«object.__ne__»
  repeat (first
    | with_reducible refine wpAny_cRoomFor hu ?_
    | (refine wpAny_bind (m := callSpecialIfBound? (.ref x) (Str.ofString "__eq__") [b])
        (PySem.W.ifBound_K X I he hf (wpAny_mono hcall (fun r s' hr => by
          obtain ⟨k, rfl, hq⟩ := hr
          repeat (first | exact hq | exact wpAny_pure hq | exact wpAny_truthy_bool hq | (refine wpAny_bind (m := truthy (.bool _)) (wpAny_truthy_bool ?_)) | wp_step)) fun _ _ e => e)))
    | wp_step)
theorem ne_K {Q : Value → Shared → Prop} (hu : A.units + 1 < cLine) (F : Fr h₀ L s.heap m) (X₀ : K.In h₀) (I : PySem.W.InstAt s.heap x ox C od) (hb : PySem.W.Looks (model prog w) s.heap (typeOf b) tb) (hn : PySem.W.notFirst K C tb = true)
    (hs : PySem.W.findIn K (.ref C) "__ne__" = some (some (.builtin "object.__ne__"))) (hm : PySem.W.mroIn K C (.type "object") = some true) (he : PySem.W.findIn K (.ref C) "__eq__" = some (some (.ref f))) (hf : PySem.W.isFn K (.ref f) = true)
    (h : wpAny (model prog w) A.in1 (call (.ref f) [.ref x, b]) (fun v s' => ∃ k, v = .bool k ∧ Q (.bool (!k)) s') E s) : wpAny (model prog w) A (richCompare .NotEq (.ref x) b) Q E s := by
  have X := X₀.keeps F.keep
  have FB := PySem.F.cmp_object
  have sub : PySem.W.Looks (model prog w) s.heap (isInstance (.ref x) (.type "object")) true := I.type.andThen (PySem.W.looks_mroIn X hm)
  have one : wpAny (model prog w) A (tryCompare (.ref x) "__ne__" b) (fun r s' => ∃ v, r = some v ∧ Q v s') E s := by
    unfold tryCompare
    refine wpAny_bind (ifBound_B X I hs FB.ne.bind (wpAny_call (codeAny_call_builtin FB.ne.plain PySem.F.cmpEntry_ne ?_)))
    refine @PySem.W.check_slot (model prog w) _ _ s "object.__ne__" "object" "__ne__" (.ref x) [b] [] _ PySem.F.cmpKind_ne PySem.F.cmpSplit_ne sub (PySem.F.cmpArgs_ne (.ref x) b) ?_
    refine objNe_K (A := A.in1) hu X I he hf (wpAny_mono h (fun v s' hv => ?_) fun _ _ e => e)
    obtain ⟨k, rfl, hq⟩ := hv
    exact ⟨k, rfl, wpAny_pure ⟨_, rfl, hq⟩⟩
  unfold richCompare
  simp only [oneThing_ref]
  refine wpAny_holding (wpAny_bind (wpAny_cRoomFor (Nat.lt_of_succ_lt hu) ?_))
  refine wpAny_bind (I.type.here (wpAny_bind (hb.here ?_)))
  split
  · rename_i q
    have e : PySem.W.subIn K tb (.ref C) = some false := by
      rcases Bool.or_eq_true_iff.mp hn with e | e
      · rw [beq_iff_eq.mp e] at q; simp at q
      · exact beq_iff_eq.mp e
    refine wpAny_bind ((PySem.W.looks_subIn X e).here ?_)
    simp only [Bool.false_eq_true, if_false]
    refine wpAny_bind (wpAny_mono one (fun r s' z => ?_) fun _ _ e => e)
    obtain ⟨v, rfl, hq⟩ := z
    exact wpAny_pure hq
  · refine wpAny_bind (wpAny_pure ?_)
    simp only [Bool.false_eq_true, if_false]
    refine wpAny_bind (wpAny_mono one (fun r s' z => ?_) fun _ _ e => e)
    obtain ⟨v, rfl, hq⟩ := z
    exact wpAny_pure hq
end
section
variable {X : Cx} {k : Nat} {C : Addr} {ps : List Str} {sp : Sp}
theorem op_neO (T : EqBy X.prog X.w X.K X.mg X.base k C ps sp) (hr : Room (k + 1) X.A) : OpR X (compareOp .NotEq) (rNeO C sp) := by
  intro pins s σ H x y v u Q I rx ry h
  obtain ⟨a, dx, fs, rfl, ha, r, q⟩ := h
  obtain ⟨tb, hb, hn⟩ := right_of T I ry r
  cases (show v = Value.ref a from rx)
  obtain ⟨g, fd, h1, h2, F, b⟩ := T.go
  obtain ⟨mA, O, _⟩ := ins_get I.hok ha
  obtain ⟨od, J, _⟩ := O.look
  obtain ⟨m, hF⟩ := I.fr
  refine PySem.W.cmp_ofNotEq (ne_K (by have := hr.un; omega) hF I.ok.mod.kin J hb hn T.ne T.obj h1 h2 ?_)
  refine wpAny_mono (run_below F hr.in1 I.env0.in1 b I (.cons rx (.cons ry .nil)) q) (fun w' s' z => ?_) fun _ _ e => e
  obtain ⟨z', H', I', rz, kk, rfl, qz⟩ := z
  cases (show w' = Value.bool kk from rz)
  exact ⟨kk, rfl, .bl (!kk), H', I', rfl, qz⟩
/-- repr(x) of an own object -/
structure ShowsBy (P : Program) (w : World) (K : PySem.W.Frag) (mg : Str → Option Value) (base : Heap) (k : Nat) (C : Addr) (sp : Sp) : Prop where
  go : ∃ (g : Addr) (fd : FuncData), PySem.W.findIn K (.ref C) "__repr__" = some (some (.ref g)) ∧ PySem.W.isFn K (.ref g) = true ∧
    FnOk P w K mg base CX0 k g fd ["self"] sp ∧ Binds K fd ["self"] []
def rShow (C : Addr) (sp : Sp) : List V → Hp → VK → Prop := fun xs H Q => ∃ (a dx : Addr) (fs : List (Str × V)), xs = [.ref a] ∧ H a = some (.ins C dx fs) ∧ sp [.ref a] H (fun v H' => ∃ y : Str, v = .str y ∧ Q (.str y) H') E0
theorem call_show (T : ShowsBy X.prog X.w X.K X.mg X.base k C sp) (hr : Room (k + 1) X.A) : CallR X (.builtin "repr") (rShow C sp) := by
  intro pins s σ H xs us Q I r h
  obtain ⟨a, dx, fs, rfl, ha, q⟩ := h
  rw [Vals.ref1 r]
  obtain ⟨g, fd, h1, h2, F, b⟩ := T.go
  obtain ⟨mA, O, _⟩ := ins_get I.hok ha
  obtain ⟨od, J, _⟩ := O.look
  obtain ⟨m, hF⟩ := I.fr
  refine PySem.W.repr_K hr.in1.units0 hF I.ok.mod.kin J h1 h2 ?_
  refine wpAny_mono (run_below F hr.in1 I.env0.in1 b I (us := [.ref a]) (vs := [.ref a]) (.cons rfl .nil) q) (fun w' s' z => ?_) fun _ _ e => e
  obtain ⟨z', H', I', rz, y, rfl, qz⟩ := z
  obtain ⟨t, rfl⟩ := rz
  exact ⟨.str y, H', I', ⟨t, rfl⟩, qz⟩
end
end Hx

namespace Hx
open PySem PySem.Spec PyProof.Rows L2
/-- repr of data, up to a line in length -/
def rReprL : List V → Hp → VK → Prop := fun xs H Q => ∃ v d, xs = [v] ∧ Dq H v d ∧ d.showable = true ∧ d.depth ≤ 20 ∧ d.shown.length ≤ sizeLine ∧ Q (.str d.shown) H
/-- repr(x) of an own object, its class in the reading -/
def rShowA (P : Program) (w : World) (K : PySem.W.Frag) (mg : Str → Option Value) (base : Heap) (k : Nat) : List V → Hp → VK → Prop := fun xs H Q => ∃ (a C dx : Addr) (fs : List (Str × V)) (sp : Sp), xs = [.ref a] ∧ H a = some (.ins C dx fs) ∧ Hx.ShowsBy P w K mg base k C sp ∧
  sp [.ref a] H (fun v H' => ∃ y : Str, v = .str y ∧ Q (.str y) H') E0
section
variable {X : Cx} {k : Nat}
theorem call_reprL (gd : X.A.guards = some []) (hu : X.A.units + 64 < cLine) (hm : Mods X.base) : CallR X (.builtin "repr") rReprL := by
  intro pins s σ H xs us Q I r h
  obtain ⟨v, d, rfl, hd, h1, h2, hz, q⟩ := h
  obtain ⟨u, rfl, ru⟩ := vals1 r
  obtain ⟨as, hr, ha⟩ := Dq.reads I d v u hd ru
  have hno : sysModules ∉ as := fun z => by
    obtain ⟨o, e⟩ := ha _ z
    obtain ⟨b, eb⟩ := hm
    have n := (I.bs _ _ eb).2
    rw [n] at e
    cases e
  have fin : ∀ (h' : Heap) (tu : Tok) (tk : Nat), (∀ b o, s.heap.get? b = some o → h'.get? b = some o) → EP X pins σ Q (.str d.shown tu) { s with heap := h', toks := tk } :=
    fun h' tu tk k => ⟨.str d.shown, H, I.kept (t' := tk) k, ⟨_, rfl⟩, q⟩
  cases hd with
  | non => cases ru; exact P.repr_of_none (fin _ _ _ fun _ _ z => z)
  | bl b => cases ru; exact P.repr_of_bool (fin _ _ _ fun _ _ z => z)
  | int i =>
    obtain ⟨t, rfl⟩ := ru
    exact P.repr_of_int (of_decide_eq_true h1) (fin _ _ _ fun _ _ z => z)
  | str x =>
    obtain ⟨t, rfl⟩ := ru
    exact P.repr_of_str (fin _ _ _ fun _ _ z => z) hz
  | lst _ _ => cases ru; exact repr_of_reads' hr h1 (fun _ => hno) gd (by omega) (fun _ _ z => z) fin hz
  | tup _ _ => cases ru; exact repr_of_reads' hr h1 (fun _ => hno) gd (by omega) (fun _ _ z => z) fin hz
  | dct _ _ => cases ru; exact repr_of_reads' hr h1 (fun _ => hno) gd (by omega) (fun _ _ z => z) fin hz
theorem call_showA (hr : Room (k + 1) X.A) : CallR X (.builtin "repr") (rShowA X.prog X.w X.K X.mg X.base k) := by
  intro pins s σ H xs us Q I r h
  obtain ⟨a, C, dx, fs, sp, rfl, ha, T, q⟩ := h
  exact call_show T hr pins s σ H _ us Q I r ⟨a, dx, fs, rfl, ha, q⟩
end
end Hx
namespace Wp
open PySem PySem.Spec PyProof.Rows L2 Hx
/-! the repr of an expression -/
def reprX (n : Int) : Str := ((Str.empty ++ "Expression of ") ++ toString n) ++ " knots"
def spReprX (C CF : Addr) : Sp := fun vs H Q _ => ∃ (a dx fa dfa : Addr) (fs gs : List (Str × V)) (n : Int), vs = [.ref a] ∧ H a = some (.ins C dx fs) ∧ fs.lookup ("facts" : Str) = some (.ref fa) ∧ H fa = some (.ins CF dfa gs) ∧ gs.lookup ("size" : Str) = some (.int n) ∧
  0 ≤ n ∧ n ≤ 100 ∧ Q (.str (reprX n)) H
theorem fig_ok : ∀ n : Nat, n ≤ 100 → PyData.strOk (toString (n : Int) : Str) = true ∧ (toString (n : Int) : Str).length ≤ 3 := by decide +kernel
theorem fig_okI {n : Int} (h0 : 0 ≤ n) (h1 : n ≤ 100) : PyData.strOk (toString n : Str) = true ∧ (toString n : Str).length ≤ 3 := by
  have := fig_ok n.toNat (by omega)
  rw [Int.toNat_of_nonneg h0] at this
  exact this
theorem strOk_iff {x : Str} : PyData.strOk x = true ↔ ∀ c ∈ x.cps.toList, c < 0x110000 := by
  unfold PyData.strOk
  rw [← Array.all_toList, List.all_eq_true]
  exact ⟨fun h c hc => of_decide_eq_true (h c hc), fun h c hc => decide_eq_true (h c hc)⟩
theorem cps_app (x y : Str) : (x ++ y).cps.toList = x.cps.toList ++ y.cps.toList := by
  show (x.cps ++ y.cps).toList = _
  rw [Array.toList_append]
theorem ok_app {x y : Str} (hx : PyData.strOk x = true) (hy : PyData.strOk y = true) : PyData.strOk (x ++ y) = true := by
  rw [strOk_iff] at hx hy ⊢
  intro c hc
  rw [cps_app] at hc
  rcases List.mem_append.mp hc with h | h
  · exact hx c h
  · exact hy c h
theorem ok_join {y : Str} (hy : PyData.strOk y = true) : ∀ ps : List Str, (∀ p ∈ ps, PyData.strOk p = true) → PyData.strOk (Str.join y ps) = true
  | [], _ => (by decide +kernel : PyData.strOk Str.empty = true)
  | [x], h => h x List.mem_cons_self
  | x :: z :: r, h => by
    show PyData.strOk (x ++ y ++ Str.join y (z :: r)) = true
    exact ok_app (ok_app (h x List.mem_cons_self) hy) (ok_join hy (z :: r) fun p hp => h p (List.mem_cons_of_mem _ hp))
theorem ok_spell {k : Str} {ys : List Str} (hk : PyData.strOk k = true) (h : ∀ p ∈ ys, PyData.strOk p = true) : PyData.strOk (spell k ys) = true := by
  unfold spell
  exact ok_app (ok_app (ok_app (ok_app (by decide +kernel) hk) (by decide +kernel)) (ok_join (by decide +kernel) ys h)) (by decide +kernel)
theorem okLet {m : Int} {x : Str} (h : lettered m x = true) : PyData.strOk x = true := by
  unfold lettered at h
  obtain ⟨_, h2⟩ := Bool.and_eq_true_iff.mp h
  exact letters_ok (List.all_eq_true.mp (Bool.and_eq_true_iff.mp h2).2)
theorem ok_nameB {x : Str} (h : nameB x = true) : PyData.strOk x = true := okLet (Bool.and_eq_true_iff.mp h).1
section
variable {b : Int}
mutual
theorem text_ok (b0 : 0 ≤ b) (b9 : b ≤ 9) : ∀ t : Tr, t.Ok b → PyData.strOk (t.text b) = true
  | .sign _, h => by
    cases h with
    | sign h => exact ok_app (ok_app (by decide +kernel) (okLet h)) (by decide +kernel)
  | .name _, h => by
    cases h with
    | name h => exact ok_nameB h
  | .weave l, h => by
    cases h with
    | weave _ h => exact ok_spell (by decide +kernel) (textL_ok b0 b9 l h)
  | .part j t, h => by
    cases h with
    | part h0 h1 h =>
      refine ok_spell (by decide +kernel) fun p hp => ?_
      simp only [List.mem_cons, List.not_mem_nil, or_false] at hp
      rcases hp with rfl | rfl | rfl
      · exact (fig_okI h0 (by omega)).1
      · exact (fig_okI b0 (by omega)).1
      · exact text_ok b0 b9 t h
  | .drop j t, h => by
    cases h with
    | drop h0 h1 h =>
      refine ok_spell (by decide +kernel) fun p hp => ?_
      simp only [List.mem_cons, List.not_mem_nil, or_false] at hp
      rcases hp with rfl | rfl
      · exact (fig_okI (by omega) (by omega)).1
      · exact text_ok b0 b9 t h
  | .lead t u, h => by
    cases h with
    | lead h h2 =>
      refine ok_spell (by decide +kernel) fun p hp => ?_
      simp only [List.mem_cons, List.not_mem_nil, or_false] at hp
      rcases hp with rfl | rfl
      · exact text_ok b0 b9 t h
      · exact text_ok b0 b9 u h2
  | .turn w t, h => by
    cases h with
    | turn h h2 =>
      refine ok_spell (by decide +kernel) fun p hp => ?_
      simp only [List.mem_cons, List.not_mem_nil, or_false] at hp
      rcases hp with rfl | rfl
      · exact okLet h
      · exact text_ok b0 b9 t h2
theorem textL_ok (b0 : 0 ≤ b) (b9 : b ≤ 9) : ∀ l : List Tr, Tr.OkL b l → ∀ p ∈ Tr.textL b l, PyData.strOk p = true
  | [], _, p, hp => by cases hp
  | t :: r, h, p, hp => by
    cases h with
    | cons h h2 =>
      rcases List.mem_cons.mp hp with rfl | hp
      · exact text_ok b0 b9 t h
      · exact textL_ok b0 b9 r h2 p hp
end
mutual
theorem names_okT : ∀ t : Tr, t.Ok b → ∀ n ∈ t.names, nameB n = true
  | .sign _, h, n, hn => by cases hn
  | .name _, h, n, hn => by
    cases h with
    | name h => rw [List.mem_singleton.mp hn]; exact h
  | .weave l, h, n, hn => by
    cases h with
    | weave _ h => exact namesL_okT l h n hn
  | .part j t, h, n, hn => by
    cases h with
    | part _ _ h => exact names_okT t h n hn
  | .drop j t, h, n, hn => by
    cases h with
    | drop _ _ h => exact names_okT t h n hn
  | .lead t u, h, n, hn => by
    cases h with
    | lead h h2 =>
      rcases List.mem_append.mp hn with hn | hn
      · exact names_okT t h n hn
      · exact names_okT u h2 n hn
  | .turn w t, h, n, hn => by
    cases h with
    | turn _ h => exact names_okT t h n hn
theorem namesL_okT : ∀ l : List Tr, Tr.OkL b l → ∀ n ∈ Tr.namesL l, nameB n = true
  | [], _, n, hn => by cases hn
  | t :: r, h, n, hn => by
    cases h with
    | cons h h2 =>
      rcases List.mem_append.mp hn with hn | hn
      · exact names_okT t h n hn
      · exact namesL_okT r h2 n hn
end
/-- the name that a knot itself is -/
def Tr.own : Tr → List Str
  | .name n => [n]
  | _ => []
mutual
theorem names_pre : ∀ t : Tr, t.pre.flatMap Tr.own = t.names
  | .sign _ => rfl
  | .name _ => rfl
  | .weave l => by
    show [] ++ (Tr.preL l).flatMap Tr.own = _
    rw [namesL_pre l]
    rfl
  | .part _ t => names_pre t
  | .drop _ t => names_pre t
  | .lead t u => by
    show [] ++ (t.pre ++ u.pre).flatMap Tr.own = _
    rw [List.flatMap_append, names_pre t, names_pre u]
    rfl
  | .turn _ t => names_pre t
theorem namesL_pre : ∀ l : List Tr, (Tr.preL l).flatMap Tr.own = Tr.namesL l
  | [] => rfl
  | t :: r => by
    show (t.pre ++ Tr.preL r).flatMap Tr.own = _
    rw [List.flatMap_append, names_pre t, namesL_pre r]
    rfl
end
end
/-! two lists of the same names in order are one -/
theorem rising_pair : ∀ (l : List Str) (p : Str), risingS p l = true → (p :: l).Pairwise fun a b => ¬ (b.cps.toList < a.cps.toList)
  | [], p, _ => by simp
  | x :: r, p, h => by
    have h' : (!ltCps x.cps.toList p.cps.toList && risingS x r) = true := h
    obtain ⟨h1, h2⟩ := Bool.and_eq_true_iff.mp h'
    have ih := rising_pair r x h2
    have hx : ¬ (x.cps.toList < p.cps.toList) := by
      rw [ltCps_eq] at h1
      intro z
      rw [decide_eq_true z] at h1
      cases h1
    refine List.pairwise_cons.mpr ⟨fun y hy => ?_, ih⟩
    rcases List.mem_cons.mp hy with rfl | hm
    · exact hx
    · have h3 := (List.pairwise_cons.mp ih).1 y hm
      have e1 : p.cps.toList ≤ x.cps.toList := List.not_lt.mp hx
      have e2 : x.cps.toList ≤ y.cps.toList := List.not_lt.mp h3
      exact List.not_lt.mpr (List.le_trans e1 e2)
theorem sorted_pair : ∀ l : List Str, sortedS l = true → l.Pairwise fun a b => ¬ (b.cps.toList < a.cps.toList)
  | [], _ => by simp
  | x :: r, h => rising_pair r x h
theorem str_ext {x y : Str} (h : x.cps.toList = y.cps.toList) : x = y := by
  cases x; cases y
  exact congrArg _ (Array.toList_inj.mp h)
theorem lab_unique {ns as bs : List Str} (h1 : Lab ns as) (h2 : Lab ns bs) : as = bs := by
  have hp : as.Perm bs := (List.perm_ext_iff_of_nodup h1.once h2.once).mpr fun x => (h1.mem x).trans (h2.mem x).symm
  have an : ∀ x y : Str, x ∈ as → y ∈ bs → ¬ (y.cps.toList < x.cps.toList) → ¬ (x.cps.toList < y.cps.toList) → x = y := fun x y _ _ a b =>
    str_ext (List.le_antisymm (List.not_lt.mp a) (List.not_lt.mp b))
  first
    | exact hp.eq_of_pairwise an (sorted_pair as h1.inOrder) (sorted_pair bs h2.inOrder)
    | exact List.Perm.eq_of_pairwise an (sorted_pair as h1.inOrder) (sorted_pair bs h2.inOrder) hp
    | exact hp.eq_of_sorted an (sorted_pair as h1.inOrder) (sorted_pair bs h2.inOrder)
/-! what is told of an expression, as data -/
def toldD (b : Int) : Tr → List PyData
  | .sign s => [.str s] | .name n => [.str n] | .weave _ => [] | .part j _ => [.int j, .int b] | .drop c _ => [.int c] | .lead .. => [] | .turn w _ => [.str w]
theorem told_dq {H : Hp} (b : Int) : ∀ t : Tr, DqAll H (t.told b) (toldD b t)
  | .sign s => .cons (.str s) .nil
  | .name n => .cons (.str n) .nil
  | .weave _ => .nil
  | .part j _ => .cons (.int j) (.cons (.int b) .nil)
  | .drop c _ => .cons (.int c) .nil
  | .lead .. => .nil
  | .turn w _ => .cons (.str w) .nil
def allD (b : Int) (t : Tr) (ls : List Str) : List PyData := [.str t.kind, .tuple (toldD b t), .tuple (ls.map PyData.str), .int (t.knots : Nat), .str (t.text b), .str (reprX (t.knots : Nat))]
/-- small data that a repr may be asked of -/
structure Fit (d : PyData) : Prop where
  show_ : d.showable = true
  dep : d.depth ≤ 20
  len : d.shown.length ≤ sizeLine
/-- leaves: texts and small ints -/
inductive Leaf : PyData → Nat → Prop
  | str (x : Str) : PyData.strOk x = true → Leaf (.str x) x.length
  | int (i : Int) : 0 ≤ i → i ≤ 100 → Leaf (.int i) 101
structure Flat (ds : List PyData) (n : Nat) : Prop where
  lay : PyData.canLayAll0 ds = true
  dep : PyData.depthAll ds = 0
  show_ : PyData.showableAll ds = true
  isI : PyData.intsShortAll 13 ds = true
  wt : PyData.weightAll ds ≤ n
theorem shown_small : ∀ n : Nat, n ≤ 100 → (PyData.shown (.int (n : Int))).length ≤ 13 := by decide +kernel
theorem flat_cons {d : PyData} {ds : List PyData} {m n : Nat} (h : Leaf d m) (r : Flat ds n) : Flat (d :: ds) (m + 1 + n) := by
  obtain ⟨r1, r2, r3, r4, r5⟩ := r
  cases h with
  | str x hx =>
    refine ⟨?_, ?_, ?_, ?_, ?_⟩
    · show (PyData.strOk x && PyData.canLayAll0 ds) = true
      rw [hx, r1]; rfl
    · show max 0 (PyData.depthAll ds) = 0
      rw [r2]; rfl
    · show (true && PyData.showableAll ds) = true
      rw [r3]; rfl
    · show (true && PyData.intsShortAll 13 ds) = true
      rw [r4]; rfl
    · show x.cps.size + 1 + PyData.weightAll ds ≤ x.cps.size + 1 + n
      omega
  | int i h0 h1 =>
    refine ⟨?_, ?_, ?_, ?_, ?_⟩
    · show (true && PyData.canLayAll0 ds) = true
      rw [r1]; rfl
    · show max 0 (PyData.depthAll ds) = 0
      rw [r2]; rfl
    · show (decide (i.natAbs.log2 < 1920) && PyData.showableAll ds) = true
      rw [r3, decide_eq_true (small_log ⟨h0, by omega⟩)]; rfl
    · have e := shown_small i.toNat (by omega)
      rw [Int.toNat_of_nonneg h0] at e
      show (decide ((PyData.shown (.int i)).length ≤ 13) && PyData.intsShortAll 13 ds) = true
      rw [r4, decide_eq_true e]; rfl
    · show (if i == 0 then 0 else i.natAbs.log2 + 1) + 1 + PyData.weightAll ds ≤ 101 + 1 + n
      have e := Nat.log2_le_self i.natAbs
      have e2 : i.natAbs ≤ 100 := by omega
      split <;> omega
theorem flat_nil : Flat [] 0 := ⟨rfl, rfl, rfl, rfl, Nat.zero_le _⟩
theorem flat_more {ds : List PyData} {m n : Nat} (h : Flat ds m) (e : m ≤ n) : Flat ds n := ⟨h.lay, h.dep, h.show_, h.isI, Nat.le_trans h.wt e⟩
theorem flat_strs9 : ∀ {ls : List Str}, (∀ x ∈ ls, PyData.strOk x = true ∧ x.length ≤ 8) → Flat (ls.map PyData.str) (ls.length * 9)
  | [], _ => flat_nil
  | x :: r, h => by
    obtain ⟨h1, h2⟩ := h x List.mem_cons_self
    refine flat_more (flat_cons (.str x h1) (flat_strs9 fun y hy => h y (List.mem_cons_of_mem _ hy))) ?_
    rw [List.length_cons, Nat.succ_mul]
    omega
theorem told_flat {b : Int} (b0 : 0 ≤ b) (b9 : b ≤ 9) : ∀ {t : Tr}, t.Ok b → Flat (toldD b t) 300
  | .sign s, h => by
    cases h with
    | sign h =>
      have := lettered_len h
      exact flat_more (flat_cons (.str s (okLet h)) flat_nil) (by omega)
  | .name n, h => by
    cases h with
    | name h =>
      have := nameB_len h
      exact flat_more (flat_cons (.str n (ok_nameB h)) flat_nil) (by omega)
  | .weave _, _ => flat_more flat_nil (by omega)
  | .part j _, h => by
    cases h with
    | part h0 h1 _ => exact flat_more (flat_cons (.int j h0 (by omega)) (flat_cons (.int b b0 (by omega)) flat_nil)) (by omega)
  | .drop c _, h => by
    cases h with
    | drop h0 h1 _ => exact flat_more (flat_cons (.int c (by omega) (by omega)) flat_nil) (by omega)
  | .lead .., _ => flat_more flat_nil (by omega)
  | .turn w _, h => by
    cases h with
    | turn h _ =>
      have := lettered_len h
      exact flat_more (flat_cons (.str w (okLet h)) flat_nil) (by omega)
theorem reprX_ok {n : Int} (h0 : 0 ≤ n) (h1 : n ≤ 100) : PyData.strOk (reprX n) = true ∧ (reprX n).length ≤ 30 := by
  obtain ⟨f1, f2⟩ := fig_okI h0 h1
  unfold reprX
  refine ⟨ok_app (ok_app (ok_app (by decide +kernel) (by decide +kernel)) f1) (by decide +kernel), ?_⟩
  simp only [PySem.Str.length_append, (by decide +kernel : ("Expression of " : Str).length = 14), (by decide +kernel : (" knots" : Str).length = 6), (by decide +kernel : Str.empty.length = 0)]
  omega
def kinds7 : List Str := ["drop", "lead", "name", "part", "sign", "turn", "weave"]
theorem kind_in : ∀ t : Tr, t.kind ∈ kinds7
  | .sign _ => (by decide +kernel : ("sign" : Str) ∈ kinds7)
  | .name _ => (by decide +kernel : ("name" : Str) ∈ kinds7)
  | .weave _ => (by decide +kernel : ("weave" : Str) ∈ kinds7)
  | .part .. => (by decide +kernel : ("part" : Str) ∈ kinds7)
  | .drop .. => (by decide +kernel : ("drop" : Str) ∈ kinds7)
  | .lead .. => (by decide +kernel : ("lead" : Str) ∈ kinds7)
  | .turn .. => (by decide +kernel : ("turn" : Str) ∈ kinds7)
theorem kinds_ok : ∀ k ∈ kinds7, PyData.strOk k = true ∧ k.length ≤ 5 := by decide +kernel
theorem kind_ok (t : Tr) : PyData.strOk t.kind = true ∧ t.kind.length ≤ 5 := kinds_ok _ (kind_in t)
theorem lab_few {t : Tr} {ls : List Str} (lab : Lab t.names ls) : ls.length ≤ t.knots :=
  Nat.le_trans (sub_len lab.once fun x hx => (lab.mem x).mp hx) (names_len t)
theorem allD_fit {b : Int} {t : Tr} {ls : List Str} (ok : t.Ok b) (b0 : 0 ≤ b) (b9 : b ≤ 9) (k : t.knots ≤ 12) (lab : Lab t.names ls) : Fit (.list (allD b t ls)) := by
  obtain ⟨k1, k2⟩ := kind_ok t
  have T := told_flat b0 b9 ok
  have few := lab_few lab
  have L := flat_strs9 (ls := ls) fun x hx => by
    have h := names_okT t ok x ((lab.mem x).mp hx)
    exact ⟨ok_nameB h, nameB_len h⟩
  have tl := text_len b0 b9 t ok
  have R := reprX_ok (n := (t.knots : Nat)) (by omega) (by omega)
  have F := flat_cons (.int (t.knots : Nat) (by omega) (by omega)) (flat_cons (.str _ (text_ok b0 b9 t ok)) (flat_cons (.str _ R.1) flat_nil))
  have R2 := R.2
  have lay : (PyData.list (allD b t ls)).canLay0 = true := by
    show (PyData.strOk t.kind && (PyData.canLayAll0 (toldD b t) && (PyData.canLayAll0 (ls.map PyData.str) && PyData.canLayAll0 [.int (t.knots : Nat), .str (t.text b), .str (reprX (t.knots : Nat))]))) = true
    rw [k1, T.lay, L.lay, F.lay]; rfl
  have hI : (PyData.list (allD b t ls)).intsShort 13 = true := by
    show (true && (PyData.intsShortAll 13 (toldD b t) && (PyData.intsShortAll 13 (ls.map PyData.str) && PyData.intsShortAll 13 [.int (t.knots : Nat), .str (t.text b), .str (reprX (t.knots : Nat))]))) = true
    rw [T.isI, L.isI, F.isI]; rfl
  have wt : (PyData.list (allD b t ls)).weight ≤ 2000 := by
    show t.kind.cps.size + 1 + (PyData.weightAll (toldD b t) + 1 + (PyData.weightAll (ls.map PyData.str) + 1 + PyData.weightAll [.int (t.knots : Nat), .str (t.text b), .str (reprX (t.knots : Nat))])) ≤ 2000
    have e1 : t.kind.cps.size ≤ 5 := k2
    have e2 := T.wt
    have e3 := L.wt
    have e4 := F.wt
    have e5 : ls.length * 9 ≤ 12 * 9 := Nat.mul_le_mul_right 9 (by omega)
    omega
  refine ⟨?_, ?_, ?_⟩
  · show (true && (PyData.showableAll (toldD b t) && (PyData.showableAll (ls.map PyData.str) && PyData.showableAll [.int (t.knots : Nat), .str (t.text b), .str (reprX (t.knots : Nat))]))) = true
    rw [T.show_, L.show_, F.show_]; rfl
  · show max 0 (max (PyData.depthAll (toldD b t) + 1) (max (PyData.depthAll (ls.map PyData.str) + 1) (PyData.depthAll [.int (t.knots : Nat), .str (t.text b), .str (reprX (t.knots : Nat))]))) + 1 ≤ 20
    rw [T.dep, L.dep, F.dep]
    decide
  · have h2 := PyData.shown_le 13 (by decide) _ (PyData.leavesShort_of_canLay0 13 _ lay hI)
    have e : 16000000 ≤ sizeLine := by decide
    omega
/-! the classes, as isinstance sees them -/
structure Kinds (K : PySem.W.Frag) (mg : Str → Option Value) (CE : Addr) (kc : KCls) (cls : Addr → Prop) : Prop where
  ty : ∀ (H : Hp) (C a dx : Addr) (fs : List (Str × V)), cls C → H a = some (.ins C dx fs) → TyX K H (.ref a) (.ref C)
  kit : ∀ k ∈ kinds7, ∀ j ∈ kinds7, PySem.W.kitOne K (.ref (kc k)) (.ref (kc j)) = some (decide (k = j))
  top : ∀ k ∈ kinds7, PySem.W.kitOne K (.ref (kc k)) (.ref CE) = some true
  gl : mg "Expression" = some (.ref CE)
section
variable {P : Program} {w : World} {K : PySem.W.Frag} {mg : Str → Option Value} {base : Heap} {f C CF : Addr} {fd : FuncData} {st : Stmt} {x qual : Str} {p1 p2 p3 p4 p5 p6 p7 p8 : Pos} {j1 j2 : Nat}
theorem ok_reprX (F : Fun K x qual st f fd) (S : FnScope ["self"] ["self"] (defScope st)) (hb : defBody st = [.Return (some (.JoinedStr [.Constant (.str "Expression of ") j1 p5, .FormattedValue (.Attribute (.Attribute (.Name "self" p1) "facts" p2) "size" p3) (-1) none p7, .Constant (.str " knots") j2 p8] p6)) p4]) (v1 : Vis (defScope st) "self")
    (cC : Cls K C) (nC : NoAttr K C "facts") (cF : Cls K CF) (nF : NoAttr K CF "size") : FnOk P w K mg base CX0 1 f fd ["self"] (spReprX C CF) := by
  refine F.ok S (fun vs H Q E h => ?_) (fun cdv A outer s H vs Q E hr h => ?_)
  · obtain ⟨a, dx, fa, dfa, fs, gs, n, rfl, _⟩ := h
    rfl
  obtain ⟨a, dx, fa, dfa, fs, gs, n, rfl, h1, h2, h3, h4, n0, n1, q⟩ := h
  rw [hb]
  refine ⟨_, pss_one (ps_ret (pe_joined (.cons pe_str (.cons (pe_fmt (pe_fld (pe_fld (pe_var (i := 0) rfl v1) rfl) rfl)) (.cons pe_str .nil))))), ?_⟩
  obtain ⟨f1, f2⟩ := fig_okI n0 n1
  refine ⟨"Expression of ", rfl, by decide +kernel, _, rfl, a, C, dx, fs, _, rfl, h1, cC, nC, h2, fa, CF, dfa, gs, .int n, rfl, h3, cF, nF, h4, .inr ⟨n, rfl, small_log ⟨n0, by omega⟩, toString n, rfl, ?_, " knots", rfl, ?_, q⟩⟩
  · simp only [PySem.Str.length_append, (by decide +kernel : ("Expression of " : Str).length = 14), (by decide +kernel : Str.empty.length = 0)]
    exact small_line (by omega)
  · simp only [PySem.Str.length_append, (by decide +kernel : ("Expression of " : Str).length = 14), (by decide +kernel : (" knots" : Str).length = 6), (by decide +kernel : Str.empty.length = 0)]
    exact small_line (by omega)
end
end Wp

namespace Wp
open PySem PySem.Spec PyProof.Rows L2 Hx
theorem eqv_self {d : PyData} (h : SeqAt.shaped d = true) : PyData.eqv d d = true := SeqAt.eqv_refl_plain d (PyData.plain_of_canLay0 d (SeqAt.canLay_of_shaped h))
theorem bools_lay : ∀ bs : List Bool, PyData.canLayAll0 (bs.map PyData.bool) = true ∧ PyData.depthAll (bs.map PyData.bool) = 0
  | [] => ⟨rfl, rfl⟩
  | b :: bs => by
    obtain ⟨h1, h2⟩ := bools_lay bs
    constructor
    · show (true && PyData.canLayAll0 (bs.map PyData.bool)) = true
      rw [h1]; rfl
    · show max 0 (PyData.depthAll (bs.map PyData.bool)) = 0
      rw [h2]; rfl
theorem shaped_bools (bs : List Bool) : SeqAt.shaped (.list (bs.map PyData.bool)) = true := by
  obtain ⟨h1, h2⟩ := bools_lay bs
  show (PyData.canLayAll0 (bs.map PyData.bool) && decide (PyData.depthAll (bs.map PyData.bool) + 1 ≤ 64)) = true
  rw [h1, h2]
  rfl
theorem dq_bools {H : Hp} : ∀ bs : List Bool, DqAll H (bs.map V.bl) (bs.map PyData.bool)
  | [] => .nil
  | b :: bs => .cons (.bl b) (dq_bools bs)
theorem TrAt.head {H : Hp} {v : V} {t : Tr} (h : TrAt H v t) : ∃ p xs, v = .ref p ∧ H p = some (.tup (.str t.kind :: xs)) := by
  cases h with
  | sign e => exact ⟨_, _, rfl, e⟩
  | name e => exact ⟨_, _, rfl, e⟩
  | weave e _ _ => exact ⟨_, _, rfl, e⟩
  | part e _ => exact ⟨_, _, rfl, e⟩
  | drop e _ => exact ⟨_, _, rfl, e⟩
  | lead e _ _ => exact ⟨_, _, rfl, e⟩
  | turn e _ => exact ⟨_, _, rfl, e⟩
theorem kind_name : ∀ {t : Tr}, t.kind = "name" → ∃ n, t = .name n
  | .sign _, h => absurd h (by decide +kernel : ¬ (("sign" : Str) = "name"))
  | .name n, _ => ⟨n, rfl⟩
  | .weave _, h => absurd h (by decide +kernel : ¬ (("weave" : Str) = "name"))
  | .part .., h => absurd h (by decide +kernel : ¬ (("part" : Str) = "name"))
  | .drop .., h => absurd h (by decide +kernel : ¬ (("drop" : Str) = "name"))
  | .lead .., h => absurd h (by decide +kernel : ¬ (("lead" : Str) = "name"))
  | .turn .., h => absurd h (by decide +kernel : ¬ (("turn" : Str) = "name"))
theorem own_else : ∀ {t : Tr}, t.kind ≠ "name" → t.own = []
  | .sign _, _ => rfl
  | .name n, h => absurd rfl h
  | .weave _, _ => rfl
  | .part .., _ => rfl
  | .drop .., _ => rfl
  | .lead .., _ => rfl
  | .turn .., _ => rfl
theorem ok_kids {b : Int} {t : Tr} (h : t.Ok b) : Tr.OkL b t.kids := by
  cases h with
  | sign _ => exact .nil
  | name _ => exact .nil
  | weave _ h => exact h
  | part _ _ h => exact .cons h .nil
  | drop _ _ h => exact .cons h .nil
  | lead h h2 => exact .cons h (.cons h2 .nil)
  | turn _ h => exact .cons h .nil
section
variable {CF : Addr} {kc : KCls} {cls : Addr → Prop} {b : Int} {H : Hp}
theorem ExAll.at : ∀ {vs : List V} {l : List Tr} {i : Nat} {u : Tr}, ExAll CF kc cls b H vs l → l[i]? = some u → ∃ x, vs[i]? = some x ∧ ExAt CF kc cls b H x u
  | _, _, 0, _, .cons a r, h => ⟨_, rfl, by cases h; exact a⟩
  | _, _, i + 1, _, .cons a r, h => ExAll.at (i := i) r h
theorem TrAll.at : ∀ {vs : List V} {l : List Tr} {i : Nat} {u : Tr}, TrAll H vs l → l[i]? = some u → ∃ x, vs[i]? = some x ∧ TrAt H x u
  | _, _, 0, _, .cons a r, h => ⟨_, rfl, by cases h; exact a⟩
  | _, _, i + 1, _, .cons a r, h => TrAll.at (i := i) r h
end
theorem kids_few (t : Tr) : t.kids.length ≤ t.knots := by
  have h : ∀ l : List Tr, l.length ≤ Tr.knotsL l := fun l => by
    induction l with
    | nil => exact Nat.zero_le _
    | cons u r ih =>
      have := knots_pos u
      simp only [List.length_cons, Tr.knotsL]
      omega
  have := h t.kids
  have := kids_knots t
  omega
theorem empty_app (x : Str) : Str.empty ++ x = x := by
  refine str_ext ?_
  rw [cps_app]
  rfl
theorem atI0 {v : V} {xs : List V} : atI (v :: xs) 0 = some v := atI_nat (xs := v :: xs) (j := 0) rfl
end Wp

/-! del xs[a:]; xs.extend(tuple); C(*ys) -/
namespace Hx
open PySem PySem.Spec PyProof.Rows L2
section
variable {prog : Program} {w : World} {A : Around} {E : Value → Shared → Prop} {s : Shared}
theorem filt_take {F : Nat → Bool} {a : Nat} : ∀ (l : List Value) (k : Nat), (∀ i, k ≤ i → i < k + l.length → F i = decide (a ≤ i)) → (l.zipIdx k).filterMap (fun (p : Value × Nat) => if F p.2 then none else some p.1) = l.take (a - k)
  | [], k, _ => by simp
  | x :: r, k, h => by
    rw [List.zipIdx_cons, List.filterMap_cons]
    have e := h k (Nat.le_refl _) (by rw [List.length_cons]; omega)
    have ih := filt_take (F := F) (a := a) r (k + 1) fun i h1 h2 => h i (by omega) (by rw [List.length_cons]; omega)
    dsimp only
    rw [e, ih]
    by_cases c : a ≤ k
    · rw [decide_eq_true c, show a - k = 0 by omega, show a - (k + 1) = 0 by omega]
      simp
    · rw [decide_eq_false c, show a - k = (a - (k + 1)) + 1 by omega]
      simp
theorem bounds_tail {a n : Nat} (hac : a ≤ n) : sliceBounds (some (a : Int)) none none n = ((a : Int), (n : Int), 1) := by
  simp only [sliceBounds, Option.getD_none]
  have h1 : ¬ ((a : Int) < 0) := by omega
  simp only [h1, if_false, show (1 : Int) > 0 by decide, if_true]
  first
    | (congr 1; omega)
    | (congr 1
       · omega)
set_option maxRecDepth 100000 in
theorem delItem_tail {l sl : Addr} {items : Array Value} {n : Nat} {vl : Value} {a : Nat} {Q : Unit → Shared → Prop}
    (e : s.heap.get? l = some { cls := .type "list", data := .seq items n }) (hs : s.heap.IsSliceOf sl vl .none .none) (pl : IsPart vl (some (a : Int))) (ha : a ≤ items.size)
    (hsz : items.size ≤ sizeLine) (h : ∀ F : Array Value → Array Value, F items = (items.toList.take a).toArray → Q () { s with heap := s.heap.update l (Obj.mapSeq F) }) :
    wpAny (model prog w) A (delItem (.ref l) (.ref sl)) Q E s := by
  have hl : s.heap.IsList l items := PySem.IsL.isList e
  obtain ⟨os, hos, hcs, hds⟩ := id hs
  have hTs : s.TypeIs (.ref sl) "slice" := ⟨os, hos, hcs⟩
  have hstep : ¬ ((rawPart none == rawInt 0) = true) := Bool.false_ne_true
  refine PySem.wpAny_delItem_slot hl.typeIs (by decide) F.slot_list_delitem (wpAny_call_entry F.slot_list_delitem hl.typeIs F.entry_list_delitem ?_ (F.args_list_delitem_2 _ _))
  show wpAny _ _ (Builtin.List.listSubscript? (.ref sl) >>= _) _ _ s
  refine wpAny_bind ?_
  unfold Builtin.List.listSubscript?
  refine wpAny_bind (wpAny_specialOf hTs slice_no_index ?_)
  simp only [Option.isNone_none, if_true]
  refine wpAny_pure ?_
  show wpAny _ _ (typeOf (.ref sl) >>= _) _ _ s
  refine wpAny_bind (wpAny_typeOf hTs ?_)
  first
    | rw [if_neg (by decide)]
    | refine PySem.W.KFB.if_not (by decide) ?_
  rw [listSliceParts_eq]
  refine wpAny_bind (wpAny_bind (wpAny_field hos hds (x := .none) rfl (wpAny_bind (wpAny_listPart .none ?_))))
  rw [if_neg hstep]
  refine wpAny_bind (wpAny_field hos hds (x := vl) rfl (wpAny_bind (wpAny_listPart pl ?_)))
  refine wpAny_bind (wpAny_field hos hds (x := .none) rfl (wpAny_bind (wpAny_listPart .none (wpAny_pure ?_))))
  dsimp only
  unfold Builtin.List.listItems
  refine wpAny_bind (wpAny_bind (wpAny_seqItems e rfl (wpAny_pure ?_)))
  refine wpAny_bind (wpAny_of_eq ((sliceIndices_raw (some (a : Int)) none none items.size (by simp)).trans (congrArg (pure : Int × Int × Int → Sem (Int × Int × Int)) (bounds_tail ha))) ?_)
  refine wpAny_bind (wpAny_rule ?_)
  dsimp only
  have key : ∀ F : Nat → Bool, (∀ i, i < items.size → F i = decide (a ≤ i)) → (List.filterMap (fun x : Value × Nat => if F x.snd = true then none else some x.fst) items.toList.zipIdx).toArray = (items.toList.take a).toArray := fun F hF => by
    rw [filt_take (F := F) (a := a) items.toList 0 fun i _ h2 => hF i (by rw [Array.length_toList] at h2; omega)]
    rfl
  refine wpAny_bind (wpAny_updateSeq (hz := hsz) (_hz' := ?_) e rfl ?_)
  · refine wpAny_bind (wpAny_letGo ?_)
    refine wpAny_pure ⟨.none, rfl, h _ ?_⟩
    refine key _ fun i hi => ?_
    show (if (1 : Int) > 0 then (decide ((a : Int) ≤ (i : Int)) && decide ((i : Int) < (items.size : Int)) && (((i : Int) - (a : Int)) % 1 == 0)) else _) = _
    rw [if_pos (by decide), Int.emod_one, decide_eq_true (show (i : Int) < (items.size : Int) by omega), Bool.and_true]
    simp
  · refine Nat.le_trans (Nat.le_of_eq (congrArg Array.size (key _ fun i hi => ?_))) ?_
    · show (if (1 : Int) > 0 then (decide ((a : Int) ≤ (i : Int)) && decide ((i : Int) < (items.size : Int)) && (((i : Int) - (a : Int)) % 1 == 0)) else _) = _
      rw [if_pos (by decide), Int.emod_one, decide_eq_true (show (i : Int) < (items.size : Int) by omega), Bool.and_true]
      simp
    · rw [List.size_toArray, List.length_take, Array.length_toList]
      omega
end
section
variable {X : Cx}
/-- del xs[a:] at the value level -/
theorem del_tail {pins : List (Addr × Obj)} {s : Shared} {σ : L2.St} {H : Hp} {l sl : Addr} {xs : List V} {a : Int} {vl : Value} {Q : Unit → Shared → Prop} (I : Inv X pins σ H s)
    (hH : H l = some (.lst xs)) (hs : s.heap.IsSliceOf sl vl .none .none) (ra : IsPart vl (some a)) (h0 : 0 ≤ a) (hac : a ≤ xs.length)
    (h : ∀ s', Inv X pins σ (upd H l (.lst (xs.take a.toNat))) s' → Q () s') : wpAny (model X.prog X.w) X.A (delItem (.ref l) (.ref sl)) Q X.xe s := by
  obtain ⟨z, its, n, r, hl, e⟩ := I.lstM hH
  obtain ⟨a', rfl⟩ := Int.eq_ofNat_of_zero_le h0
  simp only [Int.toNat_natCast] at h
  refine delItem_tail (a := a') e hs ra (by rw [List.size_toArray]; omega) (by rw [List.size_toArray]; omega) fun F hF => h _ ?_
  refine I.lset (its' := its.take a') (t' := s.toks) hH e hF (r.take _) ?_
  rw [List.length_take]
  omega
def tDelTail (to ti : TE) : TS := fun D σ H => to σ H fun x H1 => tPart ti σ H1 fun k H2 => ∃ (a : Int) (l : Addr) (xs : List V), k = some a ∧ x = .ref l ∧ H2 l = some (.lst xs) ∧ 0 ≤ a ∧ a ≤ (xs.length : Int) ∧ D.nx σ (upd H2 l (.lst (xs.take a.toNat)))
/-- del xs[a:] -/
theorem ps_delTail {o i : Expr} {to ti : TE} {pos tpos p2 : Pos} (ho : PE X o to) (hi : PE X i ti) : PS X (.Delete [.Subscript o (.Slice (some i) none none p2) tpos] pos) (tDelTail to ti) := by
  refine ⟨fun pins s σ H D I h => ?_⟩
  refine wpAny_Delete (wpAny_deleteEach_cons (wpAny_delete_Subscript (thn (ho.run pins s σ H _ I h) fun u s1 ⟨x, H1, I1, rx, q1⟩ => ?_)))
  refine wpAny_Slice (thn ((po_some hi).run pins s1 σ H1 _ I1 q1) fun vl s2 ⟨k, H2, I2, pl, q2⟩ => ?_)
  obtain ⟨a, l, xs, rfl, rfl, hH, h0, h1, q⟩ := q2
  cases (show u = Value.ref l from rx)
  rw [evalPart_none]
  refine wpAny_pure ?_
  refine wpAny_pure ?_
  have I4 : Inv X pins σ H2 { s2 with heap := s2.heap.push { cls := .type "slice", data := .fields #[vl, .none, .none] } } := I2.kept (t' := s2.toks) fun b ob q => Heap.get?_push_of_some _ q
  exact del_tail I4 hH (Heap.IsSliceOf.new ..) pl h0 h1 fun s' I' => wpAny_deleteEach_nil ⟨σ, _, I', q⟩
/-- xs.extend(tuple) -/
def rExtendT : V → List V → Hp → VK → Prop := fun x vs H Q => ∃ l b xs zs, x = .ref l ∧ vs = [.ref b] ∧ H l = some (.lst xs) ∧ H b = some (.tup zs) ∧ xs.length + zs.length ≤ sizeLine ∧ Q .non (upd H l (.lst (xs ++ zs)))
theorem mt_extendT : MtM X "list.extend" rExtendT := by
  intro pins s σ H x vs v us Q I rx rv h
  obtain ⟨l, b, xs, zs, rfl, rfl, hH, hB, hz, q⟩ := h
  cases rx
  obtain ⟨u, rfl, ru⟩ := rv.one
  cases ru
  obtain ⟨z, its, n, r, hl, e⟩ := I.lstM hH
  obtain ⟨its2, r2, ⟨o, ho, hc, n2, hd⟩, hl2⟩ := I.tuple (SqT.of hB)
  have e2l := r2.length
  have e1l := r.length
  have hll : s.heap.IsList l its.toArray := PySem.IsL.isList e
  have hsz : its.toArray.size + its2.toArray.size ≤ sizeLine := by rw [List.size_toArray, List.size_toArray]; omega
  have hTb : s.TypeIs (.ref b) "tuple" := ⟨o, ho, hc⟩
  refine wpAny_call_entry F.slot_list_extend hll.typeIs F.entry_list_extend ?_ (F.args_list_extend_2 _ _)
  show wpAny _ _ (Builtin.List.listExtendWith (.ref l) (.ref b) .none) _ _ s
  unfold Builtin.List.listExtendWith
  refine wpAny_bind (wpAny_typeOf hTb ?_)
  rw [if_pos (by simp)]
  unfold Builtin.List.listItems
  refine wpAny_bind (wpAny_bind (wpAny_seqItems ho hd (wpAny_pure ?_)))
  refine wpAny_bind (wpAny_bind (wpAny_seqItems e rfl (wpAny_pure ?_)))
  have hlong : ¬ ((!its.toArray.isEmpty && Builtin.List.listTooLong (its.toArray.size + its2.toArray.size)) = true) := by
    rw [notLongL hsz, Bool.and_false]
    exact Bool.false_ne_true
  rw [if_neg hlong]
  refine wpAny_bind (wpAny_updateSeq (hz := by rw [List.size_toArray]; omega) (_hz' := by rw [Array.size_append]; omega) e rfl ?_)
  refine wpAny_bind (wpAny_pure (wpAny_pure ?_))
  refine ⟨.none, rfl, .non, _, I.lset (its' := its ++ its2) hH e (by simp) (r.append r2) ?_, rfl, q⟩
  rw [List.length_append]
  omega
end
section
variable {X : Cx} {CX : CXT} {k : Nat} {f C : Addr} {sp : Sp} {E : XK} {x : Str} {e : Expr} {te : TE} {p sp_ pos : Pos}
/-- C(*ys) -/
theorem pe_makeS (M : Mk X.K C f) (F : FnR X.prog X.w X.K X.mg X.base CX k f sp) (hr : Room (k + 1) X.A) (hg : Gl X x) (hm : X.mg x = some (.ref C)) (hx : Passes CX X E) (he : PE X e te) (hd : (x == ("__debug__" : Str)) = false := by decide)
    (hst : starEach [.Starred e sp_] X.env = [(true, eval e X.env)] := by rfl) :
    PE X (.Call (.Name x p) [.Starred e sp_] [] pos) (fun σ H Q => te σ H fun y H1 => ∃ a xs, y = V.ref a ∧ (SqT X.K H1 a xs ∨ SqL X.K H1 a xs) ∧ ∀ x dx, H1 x = Option.none → H1 dx = Option.none → dx ≠ x →
      sp (V.ref x :: xs) (upd (upd H1 dx (.own x)) x (.ins C dx [])) (fun v H2 => v = .non ∧ Q (.ref x) H2) E) := by
  refine ⟨fun pins s σ H Q I h => ?_⟩
  refine wpAny_Call_Name_kw (ld_glob I hg hm ?_ hd)
  refine PySem.W.callWith_S (h₀ := X.base) I.ok.mod.kin M.kp (thn (he.run pins s σ H _ I h) fun v s1 ⟨y, H1, I1, ry, a, xs, ey, hxs, q⟩ => ?_) hst
  subst ey
  obtain rfl : v = Value.ref a := ry
  exact StX.star_any I1 hxs fun us s2 I2 rv => ⟨I2.kIn, StX.run_makeR M F hr hx I2 rv q⟩
end
end Hx

namespace Wp
open PySem PySem.Spec PyProof.Rows L2 Hx
/-! an expression with another one in the place of a name -/
mutual
/-- a tree with another one in the place of a name -/
def Tr.put (n : Str) (g : Tr) : Tr → Tr
  | .sign s => .sign s | .name m => if m = n then g else .name m | .weave l => .weave (Tr.putL n g l) | .part j t => .part j (Tr.put n g t) | .drop c t => .drop c (Tr.put n g t)
  | .lead t u => .lead (Tr.put n g t) (Tr.put n g u) | .turn w t => .turn w (Tr.put n g t)
def Tr.putL (n : Str) (g : Tr) : List Tr → List Tr
  | [] => [] | t :: r => Tr.put n g t :: Tr.putL n g r
end
mutual
/-- the knots in which a name stands and their inner ones, inner ones first -/
def Tr.post (n : Str) : Tr → List Tr
  | .sign s => [.sign s] | .name m => [.name m] | .weave l => (if n ∈ Tr.namesL l then Tr.postL n l else []) ++ [.weave l]
  | .part j t => (if n ∈ t.names then t.post n else []) ++ [.part j t] | .drop c t => (if n ∈ t.names then t.post n else []) ++ [.drop c t]
  | .lead t u => (if n ∈ t.names ++ u.names then t.post n ++ u.post n else []) ++ [.lead t u] | .turn w t => (if n ∈ t.names then t.post n else []) ++ [.turn w t]
def Tr.postL (n : Str) : List Tr → List Tr
  | [] => [] | t :: r => t.post n ++ Tr.postL n r
end
theorem post_eq (n : Str) (t : Tr) : t.post n = (if n ∈ t.names then Tr.postL n t.kids else []) ++ [t] := by
  cases t with
  | sign s => simp [Tr.post, Tr.names, Tr.kids]
  | name m =>
    simp only [Tr.post, Tr.kids, Tr.postL]
    split <;> rfl
  | weave l => by_cases c : n ∈ Tr.namesL l <;> simp [Tr.post, Tr.names, Tr.kids, c]
  | part j t => simp only [Tr.post, Tr.names, Tr.kids, Tr.postL, List.append_nil]
  | drop j t => simp only [Tr.post, Tr.names, Tr.kids, Tr.postL, List.append_nil]
  | lead t u => simp only [Tr.post, Tr.names, Tr.kids, Tr.postL, List.append_nil]
  | turn j t => simp only [Tr.post, Tr.names, Tr.kids, Tr.postL, List.append_nil]
theorem postL_app (n : Str) : ∀ l m : List Tr, Tr.postL n (l ++ m) = Tr.postL n l ++ Tr.postL n m
  | [], m => by simp [Tr.postL]
  | t :: r, m => by rw [List.cons_append]; simp only [Tr.postL]; rw [postL_app n r m, List.append_assoc]
theorem knots_kids (t : Tr) : t.knots = 1 + Tr.knotsL t.kids := by
  cases t <;> simp only [Tr.knots, Tr.kids, Tr.knotsL] <;> omega
theorem knotsL_app : ∀ l m : List Tr, Tr.knotsL (l ++ m) = Tr.knotsL l + Tr.knotsL m
  | [], m => by simp [Tr.knotsL]
  | t :: r, m => by rw [List.cons_append]; simp only [Tr.knotsL]; rw [knotsL_app r m]; omega
theorem kids_names (t : Tr) (h : t.kids ≠ []) : t.names = Tr.namesL t.kids := by
  cases t <;> simp_all [Tr.names, Tr.kids, Tr.namesL]
/-- the stack while the knots are gone through -/
inductive Run (n : Str) : List Tr → List Tr → List Tr → Prop
  | nil (S : List Tr) : Run n [] S S
  | leaf {x : Tr} {rest S F : List Tr} : (n ∉ x.names ∨ x.kids = []) → Run n rest (S ++ [x]) F → Run n (x :: rest) S F
  | node {x : Tr} {rest S F : List Tr} : n ∈ x.names → x.kids ≠ [] → Run n rest (S ++ [x]) F → Run n (x :: rest) (S ++ x.kids) F
theorem run_top (n : Str) (t : Tr) {rest S F : List Tr} (ih : ∀ {rest S F : List Tr}, Run n rest (S ++ t.kids) F → Run n (Tr.postL n t.kids ++ rest) S F) (h : Run n rest (S ++ [t]) F) : Run n (t.post n ++ rest) S F := by
  rw [post_eq, List.append_assoc]
  by_cases c : n ∈ t.names
  · rw [if_pos c]
    by_cases k : t.kids = []
    · rw [k]
      simp only [Tr.postL, List.nil_append]
      exact .leaf (.inr k) h
    · exact ih (.node c k h)
  · rw [if_neg c]
    exact .leaf (.inl c) h
mutual
theorem run_post (n : Str) : ∀ (t : Tr) {rest S F : List Tr}, Run n rest (S ++ [t]) F → Run n (t.post n ++ rest) S F
  | .sign s, _, _, _, h => run_top n _ (fun h => by simpa [Tr.kids, Tr.postL] using h) h
  | .name s, _, _, _, h => run_top n _ (fun h => by simpa [Tr.kids, Tr.postL] using h) h
  | .weave l, _, _, _, h => run_top n _ (fun h => run_postL n l h) h
  | .part j t, _, _, _, h => run_top n _ (fun h => by simp only [Tr.kids, Tr.postL, List.append_nil] at h ⊢; exact run_post n t h) h
  | .drop j t, _, _, _, h => run_top n _ (fun h => by simp only [Tr.kids, Tr.postL, List.append_nil] at h ⊢; exact run_post n t h) h
  | .turn j t, _, _, _, h => run_top n _ (fun h => by simp only [Tr.kids, Tr.postL, List.append_nil] at h ⊢; exact run_post n t h) h
  | .lead t u, _, _, _, h => run_top n _ (fun h => by
      simp only [Tr.kids, Tr.postL, List.append_nil, List.append_assoc] at h ⊢
      refine run_post n t (run_post n u ?_)
      rw [List.append_assoc]
      exact h) h
theorem run_postL (n : Str) : ∀ (l : List Tr) {rest S F : List Tr}, Run n rest (S ++ l) F → Run n (Tr.postL n l ++ rest) S F
  | [], _, _, _, h => by simpa [Tr.postL] using h
  | t :: r, _, _, _, h => by
    simp only [Tr.postL, List.append_assoc]
    refine run_post n t (run_postL n r ?_)
    rw [List.append_assoc]
    exact h
end
theorem run_all (n : Str) (t : Tr) : Run n (t.post n) [] [t] := by
  have := run_post n t (rest := []) (S := []) (F := [t]) (.nil _)
  simpa using this
mutual
theorem put_none (n : Str) (g : Tr) : ∀ t : Tr, n ∉ t.names → Tr.put n g t = t
  | .sign s, _ => rfl
  | .name m, h => by
    simp only [Tr.names, List.mem_singleton] at h
    simp only [Tr.put]
    rw [if_neg fun z => h z.symm]
  | .weave l, h => by simp only [Tr.put]; rw [putL_none n g l (by simpa [Tr.names] using h)]
  | .part j t, h => by simp only [Tr.put]; rw [put_none n g t (by simpa [Tr.names] using h)]
  | .drop j t, h => by simp only [Tr.put]; rw [put_none n g t (by simpa [Tr.names] using h)]
  | .turn j t, h => by simp only [Tr.put]; rw [put_none n g t (by simpa [Tr.names] using h)]
  | .lead t u, h => by
    simp only [Tr.names, List.mem_append, not_or] at h
    simp only [Tr.put]
    rw [put_none n g t h.1, put_none n g u h.2]
theorem putL_none (n : Str) (g : Tr) : ∀ l : List Tr, n ∉ Tr.namesL l → Tr.putL n g l = l
  | [], _ => rfl
  | t :: r, h => by
    simp only [Tr.namesL, List.mem_append, not_or] at h
    simp only [Tr.putL]
    rw [put_none n g t h.1, putL_none n g r h.2]
end
theorem putL_map (n : Str) (g : Tr) : ∀ l : List Tr, Tr.putL n g l = l.map (Tr.put n g)
  | [] => rfl
  | t :: r => by simp only [Tr.putL, List.map_cons]; rw [putL_map n g r]
theorem put_kids (n : Str) (g : Tr) (t : Tr) (h : t.kids ≠ []) : (Tr.put n g t).kids = t.kids.map (Tr.put n g) ∧ (Tr.put n g t).kind = t.kind ∧ ∀ b, (Tr.put n g t).told b = t.told b := by
  cases t with
  | sign s => exact absurd rfl h
  | name s => exact absurd rfl h
  | weave l => exact ⟨by simp only [Tr.put, Tr.kids]; exact putL_map n g l, rfl, fun _ => rfl⟩
  | part j t => exact ⟨rfl, rfl, fun _ => rfl⟩
  | drop j t => exact ⟨rfl, rfl, fun _ => rfl⟩
  | lead t u => exact ⟨rfl, rfl, fun _ => rfl⟩
  | turn j t => exact ⟨rfl, rfl, fun _ => rfl⟩
mutual
theorem put_ok {b : Int} (n : Str) {g : Tr} (og : g.Ok b) : ∀ t : Tr, t.Ok b → (Tr.put n g t).Ok b
  | .sign s, h => h
  | .name m, h => by
    simp only [Tr.put]
    split
    · exact og
    · exact h
  | .weave l, h => by
    cases h with
    | weave hl ok =>
      simp only [Tr.put]
      refine .weave ?_ (putL_ok n og l ok)
      rw [putL_map, List.length_map]
      exact hl
  | .part j t, h => by cases h with | part a c ok => exact .part a c (put_ok n og t ok)
  | .drop j t, h => by cases h with | drop a c ok => exact .drop a c (put_ok n og t ok)
  | .lead t u, h => by cases h with | lead ok ok2 => exact .lead (put_ok n og t ok) (put_ok n og u ok2)
  | .turn j t, h => by cases h with | turn a ok => exact .turn a (put_ok n og t ok)
theorem putL_ok {b : Int} (n : Str) {g : Tr} (og : g.Ok b) : ∀ l : List Tr, Tr.OkL b l → Tr.OkL b (Tr.putL n g l)
  | [], _ => .nil
  | t :: r, h => by cases h with | cons a c => exact .cons (put_ok n og t a) (putL_ok n og r c)
end
mutual
theorem put_knots (n : Str) (g : Tr) : ∀ t : Tr, (Tr.put n g t).knots ≤ t.knots * g.knots
  | .sign s => by have := knots_pos g; simp only [Tr.put, Tr.knots]; omega
  | .name m => by
    have := knots_pos g
    simp only [Tr.put]
    split
    · simp only [Tr.knots]; omega
    · simp only [Tr.knots]; omega
  | .weave l => by
    have := knots_pos g
    have := putL_knots n g l
    simp only [Tr.put, Tr.knots]
    rw [Nat.add_mul]
    omega
  | .part j t => by
    have := knots_pos g
    have := put_knots n g t
    simp only [Tr.put, Tr.knots]
    rw [Nat.add_mul]
    omega
  | .drop j t => by
    have := knots_pos g
    have := put_knots n g t
    simp only [Tr.put, Tr.knots]
    rw [Nat.add_mul]
    omega
  | .turn j t => by
    have := knots_pos g
    have := put_knots n g t
    simp only [Tr.put, Tr.knots]
    rw [Nat.add_mul]
    omega
  | .lead t u => by
    have := knots_pos g
    have := put_knots n g t
    have := put_knots n g u
    simp only [Tr.put, Tr.knots]
    rw [Nat.add_mul, Nat.add_mul]
    omega
theorem putL_knots (n : Str) (g : Tr) : ∀ l : List Tr, Tr.knotsL (Tr.putL n g l) ≤ Tr.knotsL l * g.knots
  | [] => by simp [Tr.putL, Tr.knotsL]
  | t :: r => by
    have := put_knots n g t
    have := putL_knots n g r
    simp only [Tr.putL, Tr.knotsL]
    rw [Nat.add_mul]
    omega
end
/-- what is known of the knots that are gone through -/
def Sub (b : Int) (k : Nat) (x : Tr) : Prop := x.Ok b ∧ x.knots ≤ k
theorem kids_ok {b : Int} {t : Tr} (h : t.Ok b) : Tr.OkL b t.kids := by
  cases h with
  | sign _ => exact .nil
  | name _ => exact .nil
  | weave _ ok => exact ok
  | part _ _ ok => exact .cons ok .nil
  | drop _ _ ok => exact .cons ok .nil
  | lead ok ok2 => exact .cons ok (.cons ok2 .nil)
  | turn _ ok => exact .cons ok .nil
theorem okl_mem {b : Int} : ∀ {l : List Tr}, Tr.OkL b l → ∀ t ∈ l, t.Ok b ∧ t.knots ≤ Tr.knotsL l
  | [], _, t, h => nomatch h
  | u :: r, .cons a c, t, h => by
    simp only [Tr.knotsL]
    rcases List.mem_cons.mp h with rfl | h
    · exact ⟨a, by omega⟩
    · obtain ⟨h1, h2⟩ := okl_mem c t h
      exact ⟨h1, by omega⟩
end Wp

/-! x[::-1]; bool of an own object; == and != of an own object beside any value -/
namespace Hx
open PySem PySem.Spec PyProof.Rows L2
def SlB (X : Cx) (r : V → Hp → VK → Prop) : Prop :=
  ∀ (pins : List (Addr × Obj)) (s : Shared) (σ : L2.St) (H : Hp) (x : V) (v : Value) (tk : Tok) (sl : Addr) (Q : VK), Inv X pins σ H s → RelV x v → s.heap.IsSliceOf sl .none .none (.int (-1) tk) → r x H Q →
    ∃ T id, typeLookup (.type T) "__getitem__" = pure (some (.builtin id)) ∧ s.TypeIs v T ∧ wpAny (model X.prog X.w) X.A (getItem v (.ref sl)) (EP X pins σ Q) X.xe s
def tBack (r : V → Hp → VK → Prop) (te tk : TE) : TE := fun σ H Q => te σ H fun x H1 => tk σ H1 fun y H2 => y = .int (-1) ∧ r x H2 Q
def revS (z : Str) : Str := ⟨z.cps.toList.reverse.toArray⟩
section
variable {X : Cx} {e k : Expr} {te tk : TE} {pos p2 : Pos}
theorem pe_back {r : V → Hp → VK → Prop} (hr : SlB X r) (he : PE X e te) (hk : PE X k tk) : PE X (.Subscript e (.Slice none none (some k) p2) pos) (tBack r te tk) := by
  refine ⟨fun pins s σ H Q I h => ?_⟩
  refine Subscript_ (thn (he.run pins s σ H _ I h) fun v s1 ⟨x, H1, I1, r1, q1⟩ => ?_)
  refine wpAny_Slice ?_
  rw [evalPart_none, evalPart_some]
  refine wpAny_pure (wpAny_pure ?_)
  refine thn (hk.run pins s1 σ H1 _ I1 q1) fun u s3 ⟨y, H3, I3, r3, q3⟩ => ?_
  obtain ⟨rfl, q⟩ := q3
  obtain ⟨t, rfl⟩ := r3
  have I4 : Inv X pins σ H3 { s3 with heap := s3.heap.push { cls := .type "slice", data := .fields #[.none, .none, .int (-1) t] } } := I3.kept (t' := s3.toks) fun b ob q => Heap.get?_push_of_some _ q
  obtain ⟨T, id, hT, ht, hg⟩ := hr pins { s3 with heap := s3.heap.push { cls := .type "slice", data := .fields #[.none, .none, .int (-1) t] } } σ H3 x v t s3.heap.objs.size Q I4 r1 (Heap.IsSliceOf.new ..) q
  show wpAny (model X.prog X.w) X.A (subscriptTail e (.Slice none none (some k) p2) v (.ref s3.heap.objs.size)) (EP X pins σ Q) X.xe { s3 with heap := s3.heap.push { cls := .type "slice", data := .fields #[.none, .none, .int (-1) t] } }
  exact tail_any (ops := [v, .ref s3.heap.objs.size]) ht hT hg (by with_unfolding_all rfl)
def rBackL (K : PySem.W.Frag) : V → Hp → VK → Prop := fun x H Q => ∃ a xs, x = .ref a ∧ SqL K H a xs ∧ ∀ p, H p = none → Q (.ref p) (upd H p (.lst xs.reverse))
theorem sl_backL : SlB X (rBackL X.K) := by
  intro pins s σ H x v tk sl Q I rx hs h
  obtain ⟨a, xs, rfl, hx, q⟩ := h
  cases rx
  obtain ⟨its, r, ht, hz⟩ := I.list hx
  have hlen := r.length
  refine ⟨"list", _, slot_list_getitem.lookup, ht.isList.typeIs, ?_⟩
  refine wpAny_getItem_list_slice ht.isList hs .none .none (.int (-1) tk) (by decide) ?_ (by rw [List.size_toArray] <;> omega)
  rw [PySem.W.krv_pick]
  refine ⟨.ref s.heap.objs.size, _, I.laid (t' := s.toks) (o := .lst xs.reverse) (fun b ob q => Heap.get?_push_of_some _ q) (Nat.le_refl _) ?_, rfl, q _ (I.hok.fresh (Nat.le_refl _))⟩
  exact ⟨by rw [List.length_reverse]; exact hz, _, 0, r.reverse, Heap.get?_push_size _ rfl⟩
def rBackS : V → Hp → VK → Prop := fun x H Q => ∃ z : Str, x = .str z ∧ z.length ≤ sizeLine ∧ Q (.str (revS z)) H
theorem back_is (x : Str) (u : Tok) : Txt.sliceBy x none none (-1, u) = revS x := by
  have h := step_rev_list x u
  have e : (Txt.sliceBy x none none (-1, u)).cps.toList = x.cps.toList.reverse := by
    rw [h]
    refine List.ext_getElem (by simp [Str.length]) fun i h1 h2 => ?_
    simp only [List.length_map, List.length_range] at h1
    rw [List.getElem_map, List.getElem_range, List.getElem_reverse]
    have hl : x.cps.toList.length = x.length := Array.length_toList
    have : x.length - 1 - i < x.cps.size := by show _ < x.length; omega
    simp [Array.getD, this, hl]
  unfold revS
  rw [← e]
theorem sl_backS : SlB X rBackS := by
  intro pins s σ H x v tk sl Q I rx hs h
  obtain ⟨z, rfl, hz, q⟩ := h
  obtain ⟨t, rfl⟩ := rx
  obtain ⟨os, hos, hcs, hds⟩ := hs
  refine ⟨"str", _, F.slot_str_getitem.lookup, typeIs_str _ _ _, ?_⟩
  refine wpAny_getItem_str_slice (l := none) (u := none) (st := some (-1, tk)) ⟨os, hos, hcs, hds⟩ rfl ?_
  refine post_val_or_str ⟨Nat.le_trans (Txt.sliceBy_le z none none (-1, tk) (show (-1 : Int) ≠ 0 by decide)) hz, fun t' c => ?_⟩
  refine ⟨.str (revS z), H, I.tok _, ⟨t', ?_⟩, q⟩
  show Value.str (Txt.sliceBy z none none (-1, tk)) t' = .str (revS z) t'
  rw [back_is]
end
/-! bool of an own object -/
section
variable {M : Model} {A : Around} {E : Value → Shared → Prop} {s : Shared} {K : PySem.W.Frag} {x C : Addr} {ox : Obj} {od : Option Obj}
theorem truthy_own0 {Q : Bool → Shared → Prop} (X : K.In s.heap) (I : PySem.W.InstAt s.heap x ox C od) (hs : PySem.W.findIn K (.ref C) "__bool__" = some none) (hl : PySem.W.findIn K (.ref C) "__len__" = some none)
    (h : Q true s) : wpAny M A (truthy (.ref x)) Q E s := by
  unfold truthy
  refine wpAny_bind (m := callSpecial? (.ref x) (Str.ofString "__bool__")) (wpAny_bind (wpAny_bind (I.type.here ((PySem.W.looks_findIn X hs).here (wpAny_pure ?_)))))
  refine wpAny_bind (wpAny_bind (I.type.here ((PySem.W.looks_findIn X hl).here ?_)))
  exact wpAny_pure h
theorem meets_bool_own (hs : PySem.W.findIn K (.ref C) "__bool__" = some none) (hl : PySem.W.findIn K (.ref C) "__len__" = some none) :
    Meets (Builtin.«bool.__new__» ⟨[.type "bool", .ref x], []⟩) (fun _ R s => (K.In s.heap ∧ PySem.W.InstAt s.heap x ox C od) ∧ R (.ok (.ret (.bool true))) s) :=
  Meets.of_wp fun prog w A R s hs' => by
    obtain ⟨⟨X, I⟩, hs'⟩ := hs'
    have f1 := F.conv_sub_bool
    repeat (any_goals (first | assumption | (with_reducible refine truthy_own0 X I hs hl ?_) | wp_step))
    all_goals first | exact ⟨_, rfl, hs'⟩ | exact hs' | skip
end
section
variable {X : Cx}
theorem call_boolO : CallR X (.type "bool") (fun xs H Q => ∃ (a C dx : Addr) (fs : List (Str × V)), xs = [.ref a] ∧ H a = some (.ins C dx fs) ∧ PySem.W.findIn X.K (.ref C) "__bool__" = some none ∧ PySem.W.findIn X.K (.ref C) "__len__" = some none ∧ Q (.bl true) H) := by
  intro pins s σ H xs us Q I r h
  obtain ⟨a, C, dx, fs, rfl, ha, h1, h2, q⟩ := h
  rw [Vals.ref1 r]
  obtain ⟨mA, O, _⟩ := ins_get I.hok ha
  obtain ⟨od, J, _⟩ := O.look
  exact call_bool_1 (meets_bool_own h1 h2) ⟨⟨I.kIn, J⟩, rfl, ⟨.bl true, H, I, rfl, q⟩⟩
/-! == and != beside any value -/
/-- the class of a right operand -/
inductive RightT (H : Hp) : V → Value → Prop
  | non : RightT H .non (.type "NoneType")
  | bl (b : Bool) : RightT H (.bl b) (.type "bool")
  | int (i : Int) : RightT H (.int i) (.type "int")
  | str (z : Str) : RightT H (.str z) (.type "str")
  | lst {a : Addr} {xs : List V} (e : H a = some (.lst xs)) : RightT H (.ref a) (.type "list")
  | tup {a : Addr} {xs : List V} (e : H a = some (.tup xs)) : RightT H (.ref a) (.type "tuple")
  | ins {a C dx : Addr} {fs : List (Str × V)} (e : H a = some (.ins C dx fs)) : RightT H (.ref a) (.ref C)
/-- a class with an __eq__ of its own, nothing asked of the right operand -/
structure EqAny (P : Program) (w : World) (K : PySem.W.Frag) (mg : Str → Option Value) (base : Heap) (k : Nat) (C : Addr) (sp : Sp) : Prop where
  go : ∃ (g : Addr) (fd : FuncData) (ps : List Str), PySem.W.findIn K (.ref C) "__eq__" = some (some (.ref g)) ∧ PySem.W.isFn K (.ref g) = true ∧ FnOk P w K mg base CX0 k g fd ps sp ∧ Binds K fd ps []
  ne : PySem.W.findIn K (.ref C) "__ne__" = some (some (.builtin "object.__ne__"))
  obj : PySem.W.mroIn K C (.type "object") = some true
def rEqA (P : Program) (w : World) (K : PySem.W.Frag) (mg : Str → Option Value) (base : Heap) (k : Nat) : R2 := fun x y H Q => ∃ (a C dx : Addr) (fs : List (Str × V)) (sp : Sp) (t : Value), x = .ref a ∧ H a = some (.ins C dx fs) ∧ EqAny P w K mg base k C sp ∧
  RightT H y t ∧ PySem.W.notFirst K C t = true ∧ sp [x, y] H (fun v H' => ∃ b, v = .bl b ∧ Q (.bl b) H') E0
def rNeA (P : Program) (w : World) (K : PySem.W.Frag) (mg : Str → Option Value) (base : Heap) (k : Nat) : R2 := fun x y H Q => ∃ (a C dx : Addr) (fs : List (Str × V)) (sp : Sp) (t : Value), x = .ref a ∧ H a = some (.ins C dx fs) ∧ EqAny P w K mg base k C sp ∧
  RightT H y t ∧ PySem.W.notFirst K C t = true ∧ sp [x, y] H (fun v H' => ∃ b, v = .bl b ∧ Q (.bl (!b)) H') E0
theorem right_any {pins : List (Addr × Obj)} {σ : L2.St} {H : Hp} {s : Shared} {y : V} {u t : Value} (I : Inv X pins σ H s) (ry : RelV y u) (r : RightT H y t) : PySem.W.Looks (model X.prog X.w) s.heap (typeOf u) t := by
  cases r with
  | non => cases ry; exact .of_pure rfl
  | bl b => cases ry; exact .of_pure rfl
  | int i => obtain ⟨t, rfl⟩ := ry; exact .of_pure rfl
  | str z => obtain ⟨t, rfl⟩ := ry; exact .of_pure rfl
  | @lst a xs e =>
    cases (show u = Value.ref a from ry)
    obtain ⟨_, its, n, rv, hg⟩ := (show ObjOk X.prog X.w H s.heap a (.lst xs) from I.hok a _ e)
    exact (PySem.W.Looks.ld hg).andThen .now
  | @tup a xs e =>
    cases (show u = Value.ref a from ry)
    obtain ⟨its, _, ⟨o, ho, hc, _⟩, _⟩ := I.tuple (SqT.of e)
    exact hc ▸ (PySem.W.Looks.ld ho).andThen .now
  | @ins a C dx fs e =>
    cases (show u = Value.ref a from ry)
    obtain ⟨mA, O, _⟩ := ins_get I.hok e
    obtain ⟨od, J, _⟩ := O.look
    exact J.type
variable {k : Nat}
theorem op_eqA (hr : Room k X.A) : OpR X (compareOp .Eq) (rEqA X.prog X.w X.K X.mg X.base k) := by
  intro pins s σ H x y v u Q I rx ry h
  obtain ⟨a, C, dx, fs, sp, t, rfl, ha, T, r, hn, q⟩ := h
  have hb := right_any I ry r
  cases (show v = Value.ref a from rx)
  obtain ⟨g, fd, ps, h1, h2, F, b⟩ := T.go
  obtain ⟨mA, O, _⟩ := ins_get I.hok ha
  obtain ⟨od, J, _⟩ := O.look
  obtain ⟨m, hF⟩ := I.fr
  refine PySem.W.cmp_ofEq (PySem.W.cmp_K (op := .Eq) hr.units0 hF I.ok.mod.kin J hb hn h1 h2 ?_)
  refine wpAny_mono (run_below F hr I.env0 b I (.cons rx (.cons ry .nil)) q) (fun w' s' z => ?_) fun _ _ e => e
  obtain ⟨z', H', I', rz, kk, rfl, qz⟩ := z
  cases (show w' = Value.bool kk from rz)
  exact ⟨.bl kk, H', I', rfl, qz⟩
theorem op_neA (hr : Room (k + 1) X.A) : OpR X (compareOp .NotEq) (rNeA X.prog X.w X.K X.mg X.base k) := by
  intro pins s σ H x y v u Q I rx ry h
  obtain ⟨a, C, dx, fs, sp, t, rfl, ha, T, r, hn, q⟩ := h
  have hb := right_any I ry r
  cases (show v = Value.ref a from rx)
  obtain ⟨g, fd, ps, h1, h2, F, b⟩ := T.go
  obtain ⟨mA, O, _⟩ := ins_get I.hok ha
  obtain ⟨od, J, _⟩ := O.look
  obtain ⟨m, hF⟩ := I.fr
  refine PySem.W.cmp_ofNotEq (ne_K (by have := hr.un; omega) hF I.ok.mod.kin J hb hn T.ne T.obj h1 h2 ?_)
  refine wpAny_mono (run_below F hr.in1 I.env0.in1 b I (.cons rx (.cons ry .nil)) q) (fun w' s' z => ?_) fun _ _ e => e
  obtain ⟨z', H', I', rz, kk, rfl, qz⟩ := z
  cases (show w' = Value.bool kk from rz)
  exact ⟨kk, rfl, .bl (!kk), H', I', rfl, qz⟩
end
end Hx

namespace Wp
open PySem PySem.Spec PyProof.Rows L2 Hx
section
variable {CF : Addr} {kc : KCls} {cls : Addr → Prop}
theorem ExAll.split {b : Int} {H : Hp} : ∀ {l m : List Tr} {vs : List V}, ExAll CF kc cls b H vs (l ++ m) → ∃ us ws, vs = us ++ ws ∧ ExAll CF kc cls b H us l ∧ ExAll CF kc cls b H ws m
  | [], m, vs, h => ⟨[], vs, rfl, .nil, h⟩
  | t :: r, m, _, h => by
    rw [List.cons_append] at h
    cases h with
    | cons a q =>
      obtain ⟨us, ws, rfl, h1, h2⟩ := ExAll.split q
      exact ⟨_ :: us, ws, rfl, .cons a h1, h2⟩
theorem ExAll.join {b : Int} {H : Hp} : ∀ {l m : List Tr} {us ws : List V}, ExAll CF kc cls b H us l → ExAll CF kc cls b H ws m → ExAll CF kc cls b H (us ++ ws) (l ++ m)
  | [], _, _, _, .nil, h => h
  | _ :: _, _, _, _, .cons a q, h => .cons a (ExAll.join q h)
theorem ExAll.one {b : Int} {H : Hp} {vs : List V} {x : Tr} (h : ExAll CF kc cls b H vs [x]) : ∃ v, vs = [v] ∧ ExAt CF kc cls b H v x := by
  cases h with
  | cons a q =>
    cases q
    exact ⟨_, rfl, a⟩
theorem ExAll.at_ {b : Int} {H : Hp} : ∀ {vs : List V} {l : List Tr} {i : Nat} {v : V}, ExAll CF kc cls b H vs l → vs[i]? = some v → ∃ t, l[i]? = some t ∧ ExAt CF kc cls b H v t
  | _, [], _, _, .nil, h => by simp at h
  | _, t :: _, 0, v, .cons a _, h => ⟨t, rfl, by cases h; exact a⟩
  | _, _ :: _, i + 1, v, .cons _ r, h => ExAll.at_ (i := i) r h
theorem ExAll.rev {b : Int} {H : Hp} : ∀ {l : List Tr} {us : List V}, ExAll CF kc cls b H us l → ExAll CF kc cls b H us.reverse l.reverse
  | [], _, .nil => .nil
  | _ :: _, _, .cons a q => by
    rw [List.reverse_cons, List.reverse_cons]
    exact ExAll.snoc (ExAll.rev q) a
end
theorem inV_strs (n : Str) : ∀ ls : List Str, inV (.str n) (ls.map V.str) = decide (n ∈ ls)
  | [] => rfl
  | x :: r => by
    have ih := inV_strs n r
    unfold inV at ih ⊢
    rw [List.map_cons, List.any_cons, ih]
    have e : eqV (.str x) (.str n) = (x == n) := rfl
    rw [e]
    by_cases c : x = n
    · rw [c, beq_self_eq_true, Bool.true_or, decide_eq_true List.mem_cons_self]
    · rw [beq_false_of_ne c, Bool.false_or]
      by_cases d : n ∈ r
      · rw [decide_eq_true d, decide_eq_true (List.mem_cons_of_mem _ d)]
      · rw [decide_eq_false d, decide_eq_false fun z => (List.mem_cons.mp z).elim (fun z => c z.symm) d]
mutual
theorem post_len (n : Str) : ∀ t : Tr, (t.post n).length ≤ t.knots
  | .sign s => by simp [Tr.post, Tr.knots]
  | .name s => by simp [Tr.post, Tr.knots]
  | .weave l => by have := postL_len n l; simp only [Tr.post, Tr.knots]; split <;> simp <;> omega
  | .part j t => by have := post_len n t; simp only [Tr.post, Tr.knots]; split <;> simp <;> omega
  | .drop j t => by have := post_len n t; simp only [Tr.post, Tr.knots]; split <;> simp <;> omega
  | .turn j t => by have := post_len n t; simp only [Tr.post, Tr.knots]; split <;> simp <;> omega
  | .lead t u => by have := post_len n t; have := post_len n u; simp only [Tr.post, Tr.knots]; split <;> simp <;> omega
theorem postL_len (n : Str) : ∀ l : List Tr, (Tr.postL n l).length ≤ Tr.knotsL l
  | [] => by simp [Tr.postL, Tr.knotsL]
  | t :: r => by have := post_len n t; have := postL_len n r; simp only [Tr.postL, Tr.knotsL, List.length_append]; omega
end
theorem knots_len : ∀ l : List Tr, l.length ≤ Tr.knotsL l
  | [] => by simp
  | t :: r => by have := knots_len r; have := knots_pos t; simp only [Tr.knotsL, List.length_cons]; omega
def spAbove (CF : Addr) (kc : KCls) (cls : Addr → Prop) : Sp := fun vs H Q _ => ∃ (v : V) (n : Str) (b : Int) (t : Tr), vs = [v, .str n] ∧ ExAt CF kc cls b H v t ∧ t.knots ≤ 40 ∧
  ∀ p H' us, Same H H' → H' p = some (.lst us) → H p = none → ExAll CF kc cls b H us (t.post n) → Q (.ref p) H'
section
variable {P : Program} {w : World} {K : PySem.W.Frag} {mg : Str → Option Value} {base : Heap} {f CF CE Cn Cs Cm Cw Ce : Addr} {fd : FuncData} {kc : KCls} {cls : Addr → Prop}
theorem scAbove : FnScope ["expression", "name", "found", "waiting", "knot"] ["expression", "name"] (defScope s_knots_above) := ⟨rfl, rfl, rfl, by decide +kernel, rfl, by decide +kernel, by decide +kernel⟩
theorem ok_above (F : Fun K "knots_above" "knots_above" s_knots_above f fd) (L : Kls P w K mg base CF cls) : FnOk P w K mg base CX0 3 f fd ["expression", "name"] (spAbove CF kc cls) := by
  refine F.ok scAbove (fun vs H Q E h => ?_) (fun cdv A outer s H vs Q E hr h => ?_)
  · obtain ⟨v, n, b, t, rfl, _⟩ := h
    rfl
  obtain ⟨v, n, b, t, rfl, ex, k40, q⟩ := h
  refine ⟨_, pss_cons (ps_set (i := 2) scAbove.nd rfl (Or.inl rfl) (pe_lst pa_nil))
    (pss_cons (ps_set (i := 3) scAbove.nd rfl (Or.inl rfl) (pe_lst (pa_cons (pv 0) pa_nil)))
    (pss_cons (ps_while PassesOwn.never (pt_truth (pv 3) (fun _ => rfl))
      (pss_cons (ps_set (i := 4) scAbove.nd rfl (Or.inl rfl) (pe_bm0 PySem.F.plainAttrs_list PySem.F.slot_list_pop PySem.F.type_list_pop mt_pop (pv 3)))
      (pss_cons (ps_expr (pe_bm PySem.F.plainAttrs_list PySem.F.slot_list_append PySem.F.type_list_append mt_append (pv 2) (pa_cons (pv 4) pa_nil)))
      (pss_one (ps_if (pt_cmpR op_in_seq (pv 1) (pe_propA (k := 1) (pv 4) hr rfl) (by rfl)) (pss_one (ps_expr (pe_bm PySem.F.plainAttrs_list PySem.F.slot_list_extend PySem.F.type_list_extend mt_extendT (pv 3) (pa_cons (pe_propA (k := 1) (pv 4) hr rfl) pa_nil)))) pss_nil)))))
    (pss_one (ps_ret (pe_back sl_backL (pv 2) (pe_un un_neg pe_int)))))), ?_⟩
  refine ⟨(by show 0 ≤ sizeLine; decide), fun fa nfa => ?_⟩
  refine ⟨_, rfl, (by show 1 ≤ sizeLine; decide), fun wa nwa => ?_⟩
  have nfw : fa ≠ wa := ne_of_none upd_same nwa
  have s0 : Same H (upd (upd H fa (.lst [])) wa (.lst [v])) := (same_new nfa _).trans (same_new nwa _)
  have nw0 : H wa = none := by
    rw [upd_ne (Ne.symm nfw)] at nwa
    exact nwa
  refine ⟨fun m σ H' => Same H H' ∧ ∃ (fv wv : List V) (ft wt : List Tr) (o : Option V), σ = [some v, some (.str n), some (.ref fa), some (.ref wa), o] ∧ H' fa = some (.lst fv) ∧ H' wa = some (.lst wv) ∧ ExAll CF kc cls b H fv ft ∧ ExAll CF kc cls b H wv wt ∧
    ft ++ (Tr.postL n wt).reverse = (t.post n).reverse ∧ m = Tr.knotsL wt ∧ m ≤ 40, ⟨t.knots, s0, [], [v], [], [t], none, rfl, upd_other upd_same nwa, upd_same, .nil, .cons ex .nil, ?_, ?_, k40⟩, ?_⟩
  · simp [Tr.postL]
  · simp [Tr.knotsL]
  rintro m σ H' ⟨s1, fv, wv, ft, wt, o, rfl, hf, hw, ef, ew, eq, rfl, m40⟩
  refine ⟨_, rfl, !wv.isEmpty, .inl ⟨wv, SqL.of hw, rfl⟩, ?_⟩
  rcases List.eq_nil_or_concat wt with rfl | ⟨wt', x, rfl⟩
  · cases ew
    refine iteF ?_
    refine ⟨_, rfl, _, rfl, rfl, fa, fv, rfl, SqL.of hf, fun p hp => ?_⟩
    simp only [Tr.postL, List.reverse_nil, List.append_nil] at eq
    have er : ft.reverse = t.post n := by rw [eq, List.reverse_reverse]
    refine q p _ fv.reverse (s1.trans (same_new hp _)) upd_same (s1.free hp) ?_
    rw [← er]
    exact ef.rev
  · rw [List.concat_eq_append] at *
    obtain ⟨wv', ws, rfl, ew', e1⟩ := ExAll.split ew
    obtain ⟨y, rfl, ey⟩ := e1.one
    rw [show (!(wv' ++ [y]).isEmpty) = true by simp]
    refine iteT ?_
    have lk : Tr.knotsL (wt' ++ [x]) = Tr.knotsL wt' + x.knots := by rw [knotsL_app]; simp [Tr.knotsL]
    have xk := knots_kids x
    have e2 : ft ++ (x.post n).reverse ++ (Tr.postL n wt').reverse = (t.post n).reverse := by
      rw [← eq, postL_app]
      simp [Tr.postL]
    have fl : ft.length ≤ 40 := by
      have h1 := congrArg List.length eq
      rw [List.length_append, List.length_reverse, List.length_reverse] at h1
      have h2 := post_len n t
      omega
    have fvl := ef.len
    have wvl := ew'.len
    have wl := knots_len wt'
    refine ⟨fun σ' H'' => ∃ m', m' < Tr.knotsL (wt' ++ [x]) ∧ Same H H'' ∧ ∃ (fv wv : List V) (ft wt : List Tr) (o : Option V), σ' = [some v, some (.str n), some (.ref fa), some (.ref wa), o] ∧ H'' fa = some (.lst fv) ∧ H'' wa = some (.lst wv) ∧ ExAll CF kc cls b H fv ft ∧ ExAll CF kc cls b H wv wt ∧
      ft ++ (Tr.postL n wt).reverse = (t.post n).reverse ∧ m' = Tr.knotsL wt ∧ m' ≤ 40, fun σ' H'' z => z, ?_⟩
    refine ⟨_, rfl, .inl ⟨rfl, _, SqL.of hw⟩, wa, _, y, rfl, rfl, hw, by simp, ?_⟩
    rw [List.dropLast_concat]
    have hf1 : upd H' wa (.lst wv') fa = some (.lst fv) := by rw [upd_ne nfw]; exact hf
    refine ⟨_, rfl, .inl ⟨rfl, _, SqL.of hf1⟩, _, rfl, fa, fv, y, rfl, rfl, hf1, Nat.lt_of_lt_of_le (by omega : fv.length < 1000) (small_line (Nat.le_refl _)), ?_⟩
    have kp : Same H (upd (upd H' wa (.lst wv')) fa (.lst (fv ++ [y]))) := fun c o hc => by
      rw [upd_ne (ne_of_none hc nfa), upd_ne (ne_of_none hc nw0)]
      exact s1 c o hc
    have hw1 : upd (upd H' wa (.lst wv')) fa (.lst (fv ++ [y])) wa = some (.lst wv') := by rw [upd_ne (Ne.symm nfw)]; exact upd_same
    have ey0 := ey
    cases ey with
    | @mk a inner ls _ xp lab all =>
      obtain ⟨dx, fa', dfa, pm, pi, pl, hC, g1, g2, g3, g4, g5⟩ := xp.same kp
      refine ⟨_, rfl, _, rfl, a, kc x.kind, dx, _, spGet (kc x.kind) CF "labels", rfl, g1, L.get _ hC "names" "labels" (by simp), a, dx, fa', dfa, _, _, .ref pl, rfl, g1, rfl, g2, rfl, ?_⟩
      refine ⟨pl, _, rfl, .inr (SqT.of g5), rfl, flat_strs _, _, rfl, ?_⟩
      show (if inV (.str n) (ls.map V.str) = true then _ else _)
      rw [inV_strs]
      by_cases c : n ∈ ls
      · rw [decide_eq_true c]
        have c' : n ∈ x.names := (lab.mem n).mp c
        have allH : ExAll CF kc cls b H inner x.kids := all
        have il := allH.len
        have kl := knots_len x.kids
        refine iteT ?_
        refine ⟨_, rfl, .inl ⟨rfl, _, SqL.of hw1⟩, _, rfl, a, kc x.kind, dx, _, spGet (kc x.kind) CF "parts", rfl, g1, L.get _ hC "inner" "parts" (by simp), a, dx, fa', dfa, _, _, .ref pi, rfl, g1, rfl, g2, rfl, ?_⟩
        refine ⟨wa, pi, _, _, rfl, rfl, hw1, g4, small_line (by omega), ?_⟩
        refine ⟨Tr.knotsL (wt' ++ x.kids), by rw [knotsL_app]; omega, fun c o hc => ?_, fv ++ [.ref a], wv' ++ inner, ft ++ [x], wt' ++ x.kids, _, rfl, ?_, upd_same, ExAll.snoc ef ey0, ExAll.join ew' allH, ?_, rfl, by rw [knotsL_app]; omega⟩
        · rw [upd_ne (ne_of_none hc nw0)]
          exact kp c o hc
        · rw [upd_ne nfw]
          exact upd_same
        · rw [← e2, postL_app, post_eq n x, if_pos c']
          simp
      · rw [decide_eq_false c]
        have c' : n ∉ x.names := fun z => c ((lab.mem n).mpr z)
        refine iteF ?_
        refine ⟨Tr.knotsL wt', by omega, kp, fv ++ [.ref a], wv', ft ++ [x], wt', _, rfl, upd_same, hw1, ExAll.snoc ef ey0, ew', ?_, rfl, by omega⟩
        rw [← e2, post_eq n x, if_neg c']
        simp
end
end Wp

namespace Wp
open PySem PySem.Spec PyProof.Rows L2 Hx
def spMk (CF : Addr) (kc : KCls) (cls : Addr → Prop) : Sp := fun vs H Q _ => ∃ (k : Str) (b : Int) (t : Tr) (pt pi : Addr) (ws : List V), vs = [.str k, .ref pt, .ref pi] ∧ t.kind = k ∧ H pt = some (.tup (t.told b)) ∧ H pi = some (.tup ws) ∧
  ExAll CF kc cls b H ws t.kids ∧ t.Ok b ∧ 2 ≤ b ∧ b ≤ 4 ∧ t.knots ≤ 40 ∧ ∀ v H', Same H H' → ExAt CF kc cls b H' v t → Q v H'
section
variable {P : Program} {w : World} {K : PySem.W.Frag} {mg : Str → Option Value} {base : Heap} {f CF CE Cn Cs Cm Cw Ce : Addr} {fd : FuncData} {kc : KCls} {cls : Addr → Prop}
theorem scMk : FnScope ["kind", "told", "inner"] ["kind", "told", "inner"] (defScope s_make) := ⟨rfl, rfl, rfl, by decide +kernel, rfl, by decide +kernel, by decide +kernel⟩
theorem ok_mk (F : Fun K "make" "make" s_make f fd) (T : Ctors P w K mg base CF CE Cn Cs Cm Cw Ce kc cls) : FnOk P w K mg base CX0 9 f fd ["kind", "told", "inner"] (spMk CF kc cls) := by
  refine F.ok scMk (fun vs H Q E h => ?_) (fun cdv A outer s H vs Q E hr h => ?_)
  · obtain ⟨k, b, t, pt, pi, ws, rfl, _⟩ := h
    rfl
  obtain ⟨k, b, t, pt, pi, ws, rfl, hk, ht, hi, ea, hok, b2, b4, k40, q⟩ := h
  obtain ⟨ms, fS, dS, MS, GS, BS⟩ := T.sign
  obtain ⟨mn, fN, dN, MN, GN, BN⟩ := T.name
  obtain ⟨mw, fW, MW, GW⟩ := T.weave
  obtain ⟨mp, fP, dP, MP, GP, BP⟩ := T.part
  obtain ⟨md, fD, dD, MD, GD, BD⟩ := T.drop
  obtain ⟨ml, fL, dL, ML, GL, BL⟩ := T.lead
  obtain ⟨mt, fT, dT, MT, GT, BT⟩ := T.turn
  refine ⟨_, pss_cons (ps_if (pt_cmpR op_eq (pv 0) pe_str (nomark _)) (pss_one (ps_ret (pe_make MS GS hr rfl ms BS .nil passL (pa_cons (pe_ix ix_tup (pv 1) pe_int (fun _ _ => rfl)) pa_nil)))) pss_nil)
    (pss_cons (ps_if (pt_cmpR op_eq (pv 0) pe_str (nomark _)) (pss_one (ps_ret (pe_make MN GN hr rfl mn BN .nil passL (pa_cons (pe_ix ix_tup (pv 1) pe_int (fun _ _ => rfl)) pa_nil)))) pss_nil)
    (pss_cons (ps_if (pt_cmpR op_eq (pv 0) pe_str (nomark _)) (pss_one (ps_ret (pe_makeS MW GW hr rfl mw passL (pv 2)))) pss_nil)
    (pss_cons (ps_if (pt_cmpR op_eq (pv 0) pe_str (nomark _)) (pss_one (ps_ret (pe_make MP GP hr rfl mp BP .nil passL (pa_cons (pe_ix ix_tup (pv 1) pe_int (fun _ _ => rfl)) (pa_cons (pe_ix ix_tup (pv 1) pe_int (fun _ _ => rfl)) (pa_cons (pe_ix ix_tup (pv 2) pe_int (fun _ _ => rfl)) pa_nil)))))) pss_nil)
    (pss_cons (ps_if (pt_cmpR op_eq (pv 0) pe_str (nomark _)) (pss_one (ps_ret (pe_make MD GD hr rfl md BD .nil passL (pa_cons (pe_ix ix_tup (pv 1) pe_int (fun _ _ => rfl)) (pa_cons (pe_ix ix_tup (pv 2) pe_int (fun _ _ => rfl)) pa_nil))))) pss_nil)
    (pss_cons (ps_if (pt_cmpR op_eq (pv 0) pe_str (nomark _)) (pss_one (ps_ret (pe_make ML GL hr rfl ml BL .nil passL (pa_cons (pe_ix ix_tup (pv 2) pe_int (fun _ _ => rfl)) (pa_cons (pe_ix ix_tup (pv 2) pe_int (fun _ _ => rfl)) pa_nil))))) pss_nil)
    (pss_one (ps_ret (pe_make MT GT hr rfl mt BT .nil passL (pa_cons (pe_ix ix_tup (pv 1) pe_int (fun _ _ => rfl)) (pa_cons (pe_ix ix_tup (pv 2) pe_int (fun _ _ => rfl)) pa_nil)))))))))), ?_⟩
  have b0 : 0 ≤ b := by omega
  have b9 : b ≤ 9 := by omega
  cases t with
  | sign s =>
    obtain rfl : k = "sign" := hk.symm
    cases hok with
    | sign es =>
      have sl := lettered_len es
      refine ⟨_, rfl, rfl, _, rfl, ?_⟩
      rw [decide_eq_true rfl]
      refine iteT ?_
      refine ⟨_, rfl, pt, _, _, _, rfl, rfl, SqT.of ht, rfl, fun x dx hx hdx ne => ⟨x, dx, kc "sign", .str s, rfl, T.own "sign" (by simp), upd_same, .inl ⟨s, rfl, by omega, es, fun H1 bt xp => ⟨rfl, ?_⟩⟩⟩⟩
      exact q _ _ (grown hx hdx ne bt) (.mk (.sign s) xp ⟨.nil, rfl, fun x => Iff.rfl⟩ .nil)
  | name s =>
    obtain rfl : k = "name" := hk.symm
    cases hok with
    | name es =>
      have sl := nameB_len es
      (refine ⟨_, rfl, rfl, _, rfl, ?_⟩; rw [str_ne (by decide +kernel)]; refine iteF ?_)
      refine ⟨_, rfl, rfl, _, rfl, ?_⟩
      rw [decide_eq_true rfl]
      refine iteT ?_
      refine ⟨_, rfl, pt, _, _, _, rfl, rfl, SqT.of ht, rfl, fun x dx hx hdx ne => ⟨x, dx, kc "name", .str s, rfl, T.own "name" (by simp), upd_same, .inl ⟨s, rfl, by omega, es, fun H1 bt xp => ⟨rfl, ?_⟩⟩⟩⟩
      exact q _ _ (grown hx hdx ne bt) (.mk (.name s) xp ⟨by simp, rfl, fun x => Iff.rfl⟩ .nil)
  | weave l =>
    obtain rfl : k = "weave" := hk.symm
    cases hok with
    | weave hl okl =>
      simp only [Tr.knots] at k40
      (refine ⟨_, rfl, rfl, _, rfl, ?_⟩; rw [str_ne (by decide +kernel)]; refine iteF ?_)
      (refine ⟨_, rfl, rfl, _, rfl, ?_⟩; rw [str_ne (by decide +kernel)]; refine iteF ?_)
      refine ⟨_, rfl, rfl, _, rfl, ?_⟩
      rw [decide_eq_true rfl]
      refine iteT ?_
      refine ⟨_, rfl, pi, ws, rfl, .inl (SqT.of hi), fun x dx hx hdx ne => weave_go (Q := Q) (l := l) hx hdx ne ea okl hl b2 b4 (by omega) (T.own "weave" (by simp)) q⟩
  | part j t =>
    obtain rfl : k = "part" := hk.symm
    obtain ⟨v1, rfl, ex⟩ := ea.one
    cases hok with
    | part j0 jb ok =>
      simp only [Tr.knots] at k40
      (refine ⟨_, rfl, rfl, _, rfl, ?_⟩; rw [str_ne (by decide +kernel)]; refine iteF ?_)
      (refine ⟨_, rfl, rfl, _, rfl, ?_⟩; rw [str_ne (by decide +kernel)]; refine iteF ?_)
      (refine ⟨_, rfl, rfl, _, rfl, ?_⟩; rw [str_ne (by decide +kernel)]; refine iteF ?_)
      refine ⟨_, rfl, rfl, _, rfl, ?_⟩
      rw [decide_eq_true rfl]
      refine iteT ?_
      refine ⟨_, rfl, pt, _, _, _, rfl, rfl, SqT.of ht, rfl, _, rfl, pt, _, _, _, rfl, rfl, SqT.of ht, rfl, _, rfl, pi, _, _, _, rfl, rfl, SqT.of hi, rfl, fun x dx hx hdx ne => ?_⟩
      obtain ⟨o, rfl, f⟩ := for_of ex ok b0 b9 (by omega)
      have lj : lo j ≤ b := by unfold lo; split <;> omega
      refine ⟨x, dx, kc "part", .int j, .int b, _, rfl, T.own "part" (by simp), upd_same, .inl ⟨j, b, o, rfl, j0, by omega, rfl, lj, b4, rfl, f.arg.same (born hx hdx ne), fun H2 ls bt xp pm srt => ⟨rfl, ?_⟩⟩⟩
      have g := grown hx hdx ne bt
      have ek : (1 + ([o].map (·.size)).sum : Int) = ((Tr.knots (.part j t) : Nat) : Int) := by
        simp only [Tr.knots, List.map_cons, List.map_nil, List.sum_cons, List.sum_nil, f.size]
        omega
      rw [ek, f.text] at xp
      exact q _ _ g (.mk (.part j t) xp (lab1 (by decide +kernel) pm srt f.lab) (.cons (ExAt.same g t _ ex) .nil))
  | drop j t =>
    obtain rfl : k = "drop" := hk.symm
    obtain ⟨v1, rfl, ex⟩ := ea.one
    cases hok with
    | drop c1 c9 ok =>
      simp only [Tr.knots] at k40
      (refine ⟨_, rfl, rfl, _, rfl, ?_⟩; rw [str_ne (by decide +kernel)]; refine iteF ?_)
      (refine ⟨_, rfl, rfl, _, rfl, ?_⟩; rw [str_ne (by decide +kernel)]; refine iteF ?_)
      (refine ⟨_, rfl, rfl, _, rfl, ?_⟩; rw [str_ne (by decide +kernel)]; refine iteF ?_)
      (refine ⟨_, rfl, rfl, _, rfl, ?_⟩; rw [str_ne (by decide +kernel)]; refine iteF ?_)
      refine ⟨_, rfl, rfl, _, rfl, ?_⟩
      rw [decide_eq_true rfl]
      refine iteT ?_
      refine ⟨_, rfl, pt, _, _, _, rfl, rfl, SqT.of ht, rfl, _, rfl, pi, _, _, _, rfl, rfl, SqT.of hi, rfl, fun x dx hx hdx ne => ?_⟩
      obtain ⟨o, rfl, f⟩ := for_of ex ok b0 b9 (by omega)
      refine ⟨x, dx, kc "drop", .int j, _, rfl, T.own "drop" (by simp), upd_same, .inl ⟨j, o, rfl, c1, c9, rfl, f.arg.same (born hx hdx ne), fun H2 ls bt xp pm srt => ⟨rfl, ?_⟩⟩⟩
      have g := grown hx hdx ne bt
      have ek : (1 + ([o].map (·.size)).sum : Int) = ((Tr.knots (.drop j t) : Nat) : Int) := by
        simp only [Tr.knots, List.map_cons, List.map_nil, List.sum_cons, List.sum_nil, f.size]
        omega
      rw [ek, f.text] at xp
      exact q _ _ g (.mk (.drop j t) xp (lab1 (by decide +kernel) pm srt f.lab) (.cons (ExAt.same g t _ ex) .nil))
  | lead t t2 =>
    obtain rfl : k = "lead" := hk.symm
    obtain ⟨us, ws2, rfl, e1, e2⟩ := ExAll.split (l := [t]) (m := [t2]) ea
    obtain ⟨v1, rfl, ex⟩ := e1.one
    obtain ⟨v2, rfl, ex2⟩ := e2.one
    cases hok with
    | lead ok ok2 =>
      simp only [Tr.knots] at k40
      (refine ⟨_, rfl, rfl, _, rfl, ?_⟩; rw [str_ne (by decide +kernel)]; refine iteF ?_)
      (refine ⟨_, rfl, rfl, _, rfl, ?_⟩; rw [str_ne (by decide +kernel)]; refine iteF ?_)
      (refine ⟨_, rfl, rfl, _, rfl, ?_⟩; rw [str_ne (by decide +kernel)]; refine iteF ?_)
      (refine ⟨_, rfl, rfl, _, rfl, ?_⟩; rw [str_ne (by decide +kernel)]; refine iteF ?_)
      (refine ⟨_, rfl, rfl, _, rfl, ?_⟩; rw [str_ne (by decide +kernel)]; refine iteF ?_)
      refine ⟨_, rfl, rfl, _, rfl, ?_⟩
      rw [decide_eq_true rfl]
      refine iteT ?_
      refine ⟨_, rfl, pi, _, _, _, rfl, rfl, SqT.of hi, rfl, _, rfl, pi, _, _, _, rfl, rfl, SqT.of hi, rfl, fun x dx hx hdx ne => ?_⟩
      obtain ⟨o, rfl, f⟩ := for_of ex ok b0 b9 (by omega)
      obtain ⟨o2, rfl, f2⟩ := for_of ex2 ok2 b0 b9 (by omega)
      refine ⟨x, dx, kc "lead", _, _, rfl, T.own "lead" (by simp), upd_same, .inl ⟨o, o2, rfl, rfl, f.arg.same (born hx hdx ne), f2.arg.same (born hx hdx ne), fun H3 ls bt xp pm srt => ⟨rfl, ?_⟩⟩⟩
      have g := grown hx hdx ne bt
      have ek : (1 + ([o, o2].map (·.size)).sum : Int) = ((Tr.knots (.lead t t2) : Nat) : Int) := by
        simp only [Tr.knots, List.map_cons, List.map_nil, List.sum_cons, List.sum_nil, f.size, f2.size]
        omega
      rw [ek, f.text, f2.text] at xp
      have lb : Lab (Tr.names (.lead t t2)) ls := lab_of pm srt fun y => by
        unfold namesOf
        rw [if_neg (by decide +kernel)]
        simp only [List.flatMap_cons, List.flatMap_nil, List.append_nil, List.mem_append, Tr.names, f.lab.mem, f2.lab.mem]
      exact q _ _ g (.mk (.lead t t2) xp lb (.cons (ExAt.same g t _ ex) (.cons (ExAt.same g t2 _ ex2) .nil)))
  | turn w t =>
    obtain rfl : k = "turn" := hk.symm
    obtain ⟨v1, rfl, ex⟩ := ea.one
    cases hok with
    | turn ew ok =>
      simp only [Tr.knots] at k40
      have wl := lettered_len ew
      (refine ⟨_, rfl, rfl, _, rfl, ?_⟩; rw [str_ne (by decide +kernel)]; refine iteF ?_)
      (refine ⟨_, rfl, rfl, _, rfl, ?_⟩; rw [str_ne (by decide +kernel)]; refine iteF ?_)
      (refine ⟨_, rfl, rfl, _, rfl, ?_⟩; rw [str_ne (by decide +kernel)]; refine iteF ?_)
      (refine ⟨_, rfl, rfl, _, rfl, ?_⟩; rw [str_ne (by decide +kernel)]; refine iteF ?_)
      (refine ⟨_, rfl, rfl, _, rfl, ?_⟩; rw [str_ne (by decide +kernel)]; refine iteF ?_)
      (refine ⟨_, rfl, rfl, _, rfl, ?_⟩; rw [str_ne (by decide +kernel)]; refine iteF ?_)
      refine ⟨_, rfl, pt, _, _, _, rfl, rfl, SqT.of ht, rfl, _, rfl, pi, _, _, _, rfl, rfl, SqT.of hi, rfl, fun x dx hx hdx ne => ?_⟩
      obtain ⟨o, rfl, f⟩ := for_of ex ok b0 b9 (by omega)
      refine ⟨x, dx, kc "turn", .str w, _, rfl, T.own "turn" (by simp), upd_same, .inl ⟨w, o, rfl, by omega, ew, rfl, f.arg.same (born hx hdx ne), fun H2 ls bt xp pm srt => ⟨rfl, ?_⟩⟩⟩
      have g := grown hx hdx ne bt
      have ek : (1 + ([o].map (·.size)).sum : Int) = ((Tr.knots (.turn w t) : Nat) : Int) := by
        simp only [Tr.knots, List.map_cons, List.map_nil, List.sum_cons, List.sum_nil, f.size]
        omega
      rw [ek, f.text] at xp
      exact q _ _ g (.mk (.turn w t) xp (lab1 (by decide +kernel) pm srt f.lab) (.cons (ExAt.same g t _ ex) .nil))
end
end Wp

namespace Wp
open PySem PySem.Spec PyProof.Rows L2 Hx
mutual
theorem post_sub {b : Int} (n : Str) : ∀ t : Tr, t.Ok b → ∀ x ∈ t.post n, x.Ok b ∧ x.knots ≤ t.knots
  | .sign s, h, x, hx => by
    simp only [Tr.post, List.mem_singleton] at hx
    rw [hx]; exact ⟨h, Nat.le_refl _⟩
  | .name s, h, x, hx => by
    simp only [Tr.post, List.mem_singleton] at hx
    rw [hx]; exact ⟨h, Nat.le_refl _⟩
  | .weave l, h, x, hx => by
    simp only [Tr.post] at hx
    rcases List.mem_append.mp hx with hx | hx
    · by_cases c : n ∈ Tr.namesL l
      · rw [if_pos c] at hx
        cases h with
        | weave _ ok =>
          obtain ⟨h1, h2⟩ := postL_sub n l ok x hx
          simp only [Tr.knots]
          exact ⟨h1, by omega⟩
      · rw [if_neg c] at hx
        cases hx
    · rw [List.mem_singleton.mp hx]; exact ⟨h, Nat.le_refl _⟩
  | .part j t, h, x, hx => by
    simp only [Tr.post] at hx
    rcases List.mem_append.mp hx with hx | hx
    · by_cases c : n ∈ t.names
      · rw [if_pos c] at hx
        cases h with
        | part _ _ ok =>
          obtain ⟨h1, h2⟩ := post_sub n t ok x hx
          simp only [Tr.knots]
          exact ⟨h1, by omega⟩
      · rw [if_neg c] at hx
        cases hx
    · rw [List.mem_singleton.mp hx]; exact ⟨h, Nat.le_refl _⟩
  | .drop j t, h, x, hx => by
    simp only [Tr.post] at hx
    rcases List.mem_append.mp hx with hx | hx
    · by_cases c : n ∈ t.names
      · rw [if_pos c] at hx
        cases h with
        | drop _ _ ok =>
          obtain ⟨h1, h2⟩ := post_sub n t ok x hx
          simp only [Tr.knots]
          exact ⟨h1, by omega⟩
      · rw [if_neg c] at hx
        cases hx
    · rw [List.mem_singleton.mp hx]; exact ⟨h, Nat.le_refl _⟩
  | .turn j t, h, x, hx => by
    simp only [Tr.post] at hx
    rcases List.mem_append.mp hx with hx | hx
    · by_cases c : n ∈ t.names
      · rw [if_pos c] at hx
        cases h with
        | turn _ ok =>
          obtain ⟨h1, h2⟩ := post_sub n t ok x hx
          simp only [Tr.knots]
          exact ⟨h1, by omega⟩
      · rw [if_neg c] at hx
        cases hx
    · rw [List.mem_singleton.mp hx]; exact ⟨h, Nat.le_refl _⟩
  | .lead t u, h, x, hx => by
    simp only [Tr.post] at hx
    rcases List.mem_append.mp hx with hx | hx
    · by_cases c : n ∈ t.names ++ u.names
      · rw [if_pos c] at hx
        cases h with
        | lead ok ok2 =>
          simp only [Tr.knots]
          rcases List.mem_append.mp hx with hx | hx
          · obtain ⟨h1, h2⟩ := post_sub n t ok x hx
            exact ⟨h1, by omega⟩
          · obtain ⟨h1, h2⟩ := post_sub n u ok2 x hx
            exact ⟨h1, by omega⟩
      · rw [if_neg c] at hx
        cases hx
    · rw [List.mem_singleton.mp hx]; exact ⟨h, Nat.le_refl _⟩
theorem postL_sub {b : Int} (n : Str) : ∀ l : List Tr, Tr.OkL b l → ∀ x ∈ Tr.postL n l, x.Ok b ∧ x.knots ≤ Tr.knotsL l
  | [], _, x, hx => by simp [Tr.postL] at hx
  | t :: r, h, x, hx => by
    simp only [Tr.postL] at hx
    cases h with
    | cons a c =>
      simp only [Tr.knotsL]
      rcases List.mem_append.mp hx with hx | hx
      · obtain ⟨h1, h2⟩ := post_sub n t a x hx
        exact ⟨h1, by omega⟩
      · obtain ⟨h1, h2⟩ := postL_sub n r c x hx
        exact ⟨h1, by omega⟩
end
theorem only_name {n : Str} : ∀ {x : Tr}, n ∈ x.names → x.kids = [] → x = .name n
  | .sign _, h, _ => by simp [Tr.names] at h
  | .name m, h, _ => by simp only [Tr.names, List.mem_singleton] at h; rw [h]
  | .weave l, h, k => by
    simp only [Tr.kids] at k
    rw [k] at h
    simp [Tr.names, Tr.namesL] at h
  | .part .., _, k => by simp [Tr.kids] at k
  | .drop .., _, k => by simp [Tr.kids] at k
  | .lead .., _, k => by simp [Tr.kids] at k
  | .turn .., _, k => by simp [Tr.kids] at k
theorem no_name {x : Tr} (k : x.kids ≠ []) : decide (V.str x.kind = V.str "name") = false := by
  cases x with
  | sign s => exact absurd rfl k
  | name s => exact absurd rfl k
  | weave l => exact str_ne (show ("weave" : Str) ≠ "name" by decide +kernel)
  | part j t => exact str_ne (show ("part" : Str) ≠ "name" by decide +kernel)
  | drop j t => exact str_ne (show ("drop" : Str) ≠ "name" by decide +kernel)
  | lead t u => exact str_ne (show ("lead" : Str) ≠ "name" by decide +kernel)
  | turn j t => exact str_ne (show ("turn" : Str) ≠ "name" by decide +kernel)
theorem cut_tail {xs : List V} {a : Nat} (h : a ≤ xs.length) : cutV xs (some (a : Int)) none = xs.drop a := by
  unfold cutV
  have e1 : HT.sIx xs.length 0 (some (a : Int)) = a := by
    unfold HT.sIx
    simp only
    split <;> omega
  have e2 : HT.sIx xs.length xs.length none = xs.length := rfl
  rw [e1, e2, List.take_of_length_le (by rw [List.length_drop]; exact Nat.le_refl _)]
/-- exchange(expression, name, other, make) -/
def spExch (CF : Addr) (kc : KCls) (cls : Addr → Prop) (fm : Addr) : Sp := fun vs H Q _ => ∃ (v w : V) (n : Str) (b : Int) (t g : Tr), vs = [v, .str n, w, .ref fm] ∧ ExAt CF kc cls b H v t ∧ ExAt CF kc cls b H w g ∧ t.Ok b ∧ g.Ok b ∧ 2 ≤ b ∧ b ≤ 4 ∧ t.knots * g.knots ≤ 40 ∧
  ∀ r H', Same H H' → ExAt CF kc cls b H' r (Tr.put n g t) → Q r H'
structure Bltn5 (mg : Str → Option Value) : Prop where
  tuple : mg "tuple" = none
  len : mg "len" = none
section
variable {P : Program} {w : World} {K : PySem.W.Frag} {mg : Str → Option Value} {base : Heap} {f fA fM CF CE Cn Cs Cm Cw Ce : Addr} {fd fdA fdM : FuncData} {kc : KCls} {cls : Addr → Prop}
theorem scExch : FnScope ["expression", "name", "other", "make", "done", "knot", "first", "inner"] ["expression", "name", "other", "make"] (defScope s_exchange) := ⟨rfl, rfl, rfl, by decide +kernel, rfl, by decide +kernel, by decide +kernel⟩
theorem ok_exch (F : Fun K "exchange" "exchange" s_exchange f fd) (Z : Bltn5 mg) (L : Kls P w K mg base CF cls)
    (GA : FnOk P w K mg base CX0 3 fA fdA ["expression", "name"] (spAbove CF kc cls)) (bA : Binds K fdA ["expression", "name"] []) (kA : PySem.W.keepIn K (.ref fA) = true) (mA : mg "knots_above" = some (.ref fA))
    (GM : FnOk P w K mg base CX0 9 fM fdM ["kind", "told", "inner"] (spMk CF kc cls)) (bM : Binds K fdM ["kind", "told", "inner"] []) (kM : PySem.W.keepIn K (.ref fM) = true) :
    FnOk P w K mg base CX0 10 f fd ["expression", "name", "other", "make"] (spExch CF kc cls fM) := by
  refine F.ok scExch (fun vs H Q E h => ?_) (fun cdv A outer s H vs Q E hr h => ?_)
  · obtain ⟨v, u, n, b, t, g, rfl, _⟩ := h
    rfl
  obtain ⟨v, u, n, b, t, g, rfl, ex, eg, okt, okg, b2, b4, tg, q⟩ := h
  have r2 := hr.mono (by decide : 2 ≤ 9)
  have r3 := hr.mono (by decide : 3 ≤ 9)
  refine ⟨_, pss_cons (ps_set (i := 4) scExch.nd rfl (Or.inl rfl) (pe_lst pa_nil))
    (pss_cons (ps_for PassesOwn.never rfl (pi_list (pe_call GA r3 rfl mA kA bA .nil pass0 (pa_cons (pv 0) (pa_cons (pv 1) pa_nil)))) (pg_name (i := 5) scExch.nd rfl (Or.inl rfl))
      (pss_one (ps_if (pt_cmpR op_notIn_seq (pv 1) (pe_propA (k := 1) (pv 5) r2 rfl) (by rfl))
        (pss_one (ps_expr (pe_bm PySem.F.plainAttrs_list PySem.F.slot_list_append PySem.F.type_list_append mt_append (pv 4) (pa_cons (pv 5) pa_nil))))
        (pss_one (ps_if (pt_cmpR op_eq (pe_propA (k := 1) (pv 5) r2 rfl) pe_str (nomark _))
          (pss_one (ps_expr (pe_bm PySem.F.plainAttrs_list PySem.F.slot_list_append PySem.F.type_list_append mt_append (pv 4) (pa_cons (pv 2) pa_nil))))
          (pss_cons (ps_set (i := 6) scExch.nd rfl (Or.inl rfl) (pe_op op_sub (pe_callB call_len_seq (by rfl) Z.len PySem.boot_len (pa_cons (pv 4) pa_nil)) (pe_callB call_len_seq (by rfl) Z.len PySem.boot_len (pa_cons (pe_propA (k := 1) (pv 5) r2 rfl) pa_nil))))
          (pss_cons (ps_set (i := 7) scExch.nd rfl (Or.inl rfl) (pe_callTy call_tuple_of (by rfl) Z.tuple (by decide +kernel) (pa_cons (pe_slice sl_list (pv 4) (po_some (pv 6)) po_none) pa_nil)))
          (pss_cons (ps_delTail (pv 4) (pv 6))
          (pss_one (ps_expr (pe_bm PySem.F.plainAttrs_list PySem.F.slot_list_append PySem.F.type_list_append mt_append (pv 4)
            (pa_cons (pe_callL (i := 3) GM hr rfl (.inl rfl) kM bM .nil pass0 (pa_cons (pe_propA (k := 1) (pv 5) r2 rfl) (pa_cons (pe_propA (k := 1) (pv 5) r2 rfl) (pa_cons (pv 7) pa_nil)))) pa_nil))))))))))))
    (pss_one (ps_ret (pe_ix ix_list (pv 4) pe_int (fun _ _ => rfl))))), ?_⟩
  have gp := knots_pos g
  have tk40 : t.knots ≤ 40 := by
    have := Nat.le_mul_of_pos_right t.knots gp
    omega
  refine ⟨(by show 0 ≤ sizeLine; decide), fun da nda => ?_⟩
  have s0 : Same H (upd H da (.lst [])) := same_new nda _
  have e0 := ExAt.same s0 _ _ ex
  have sm0 : ∀ H', (∀ c o, upd H da (.lst []) c = some o → (∀ xs, o ≠ .lst xs) → H' c = some o) → Sm (upd H da (.lst [])) H' := fun H' z => z
  have hda : upd H da (.lst []) da = some (.lst []) := upd_same
  generalize hHc : upd H da (.lst []) = Hc at s0 e0 hda ⊢
  refine ⟨_, rfl, _, rfl, v, n, b, t, rfl, e0, tk40, fun pl H1 us s1 hpl npl eu => ⟨pl, rfl, ⟨_, SqL.of hpl⟩, ?_⟩⟩
  have nld : da ≠ pl := ne_of_none hda npl
  have ul := eu.len
  refine for_list (K := K) (a := pl) (xs := us)
    (fun i σ H' => Same H H' ∧ Sm Hc H' ∧ H' pl = some (.lst us) ∧ ∃ (dv : List V) (S : List Tr) (o1 o2 o3 : Option V), σ = [some v, some (.str n), some u, some (.ref fM), some (.ref da), o1, o2, o3] ∧ H' da = some (.lst dv) ∧
      ExAll CF kc cls b H' dv (S.map (Tr.put n g)) ∧ Run n ((t.post n).drop i) S [t] ∧ S.length ≤ i)
    ⟨s0.trans s1, fun c o hc _ => s1 c o hc, hpl, [], [], none, none, none, rfl, s1 _ _ hda, .nil, by rw [List.drop_zero]; exact run_all n t, Nat.le_refl _⟩ (fun i σ H' _ z => SqL.of z.2.2.1) ?_ ?_
  · rintro i y σ H' hi ⟨s2, sm, hp, dv, S, o1, o2, o3, rfl, hd, ed, run, sl⟩
    obtain ⟨x, hx, exc⟩ := eu.at_ hi
    have il := (List.getElem?_eq_some_iff.mp hx).1
    have pl40 := post_len n t
    obtain ⟨okx, kx⟩ := post_sub n t okt x (List.mem_of_getElem? hx)
    have ed0 : (t.post n).drop i = x :: (t.post n).drop (i + 1) := by
      rw [List.drop_eq_getElem_cons il]
      rw [List.getElem?_eq_getElem il] at hx
      rw [Option.some.inj hx]
    rw [ed0] at run
    have dl := ed.len
    rw [List.length_map] at dl
    have dsmall : dv.length < sizeLine := Nat.lt_of_lt_of_le (by omega : dv.length < 1000) (small_line (Nat.le_refl _))
    have ey := ExAt.sm sm _ _ exc
    have ey0 := ey
    -- what an append to done leaves
    have app : ∀ (H2 : Hp) (dv' : List V) (z : V) (S' : List Tr), Same H H2 → Sm Hc H2 → H2 pl = some (.lst us) → H2 da = some (.lst dv') → ExAll CF kc cls b H2 dv' (S'.map (Tr.put n g)) → ExAt CF kc cls b H2 z (Tr.put n g x) → Run n ((t.post n).drop (i + 1)) (S' ++ [x]) [t] → S'.length ≤ i → ∀ o1 o2 o3,
        Same H (upd H2 da (.lst (dv' ++ [z]))) ∧ Sm Hc (upd H2 da (.lst (dv' ++ [z]))) ∧ upd H2 da (.lst (dv' ++ [z])) pl = some (.lst us) ∧ ∃ (dv : List V) (S : List Tr) (p1 p2 p3 : Option V), [some v, some (.str n), some u, some (.ref fM), some (.ref da), o1, o2, o3] = [some v, some (.str n), some u, some (.ref fM), some (.ref da), p1, p2, p3] ∧
          upd H2 da (.lst (dv' ++ [z])) da = some (.lst dv) ∧ ExAll CF kc cls b (upd H2 da (.lst (dv' ++ [z]))) dv (S.map (Tr.put n g)) ∧ Run n ((t.post n).drop (i + 1)) S [t] ∧ S.length ≤ i + 1 := by
      intro H2 dv' z S' a1 a2 a3 a4 a5 a6 a7 a8 o1 o2 o3
      have smd : Sm H2 (upd H2 da (.lst (dv' ++ [z]))) := fun c o hc nl => by
        rw [upd_ne fun w => ?_]
        · exact hc
        · rw [w, a4] at hc
          exact nl _ (Option.some.inj hc).symm
      refine ⟨fun c o hc => ?_, fun c o hc nl => smd c o (a2 c o hc nl) nl, ?_, dv' ++ [z], S' ++ [x], o1, o2, o3, rfl, upd_same, ?_, a7, ?_⟩
      · rw [upd_ne (ne_of_none hc nda)]
        exact a1 c o hc
      · rw [upd_ne (Ne.symm nld)]
        exact a3
      · rw [List.map_append]
        exact ExAll.snoc (ExAll.sm smd _ _ a5) (ExAt.sm smd _ _ a6)
      · rw [List.length_append, List.length_singleton]
        omega
    cases ey with
    | @mk a inner ls _ xp lab all =>
      obtain ⟨dx, fa', dfa, pm, pi, pn, hC, g1, g2, g3, g4, g5⟩ := xp
      refine ⟨_, rfl, _, rfl, a, kc x.kind, dx, _, spGet (kc x.kind) CF "labels", rfl, g1, L.get _ hC "names" "labels" (by simp), a, dx, fa', dfa, _, _, .ref pn, rfl, g1, rfl, g2, rfl, ?_⟩
      refine ⟨pn, _, rfl, .inr (SqT.of g5), rfl, flat_strs _, _, rfl, ?_⟩
      show (if (!inV (.str n) (ls.map V.str)) = true then _ else _)
      rw [inV_strs]
      by_cases c : n ∈ ls
      · have c' : n ∈ x.names := (lab.mem n).mp c
        rw [decide_eq_true c]
        refine iteF ?_
        refine ⟨_, rfl, a, kc x.kind, dx, _, spGet (kc x.kind) CF "word", rfl, g1, L.get _ hC "kind" "word" (by simp), a, dx, fa', dfa, _, _, .str x.kind, rfl, g1, rfl, g2, rfl, rfl, _, rfl, ?_⟩
        cases run with
        | leaf hleaf run' =>
          have hk : x.kids = [] := hleaf.resolve_left fun z => z c'
          obtain rfl := only_name c' hk
          rw [show decide (V.str (Tr.name n).kind = V.str "name") = true from decide_eq_true rfl]
          refine iteT ?_
          refine ⟨_, rfl, .inl ⟨rfl, _, SqL.of hd⟩, _, rfl, da, dv, u, rfl, rfl, hd, dsmall, ?_⟩
          have eg' : ExAt CF kc cls b H' u (Tr.put n g (.name n)) := by
            have : Tr.put n g (.name n) = g := by simp [Tr.put]
            rw [this]
            exact ExAt.same s2 _ _ eg
          exact app H' dv u S s2 sm hp hd ed eg' run' sl _ _ _
        | @node _ _ S0 _ hn hk run' =>
          rw [no_name hk]
          refine iteF ?_
          obtain ⟨pk1, pk2, pk3⟩ := put_kids n g x hk
          rw [List.map_append] at ed
          obtain ⟨d0, dk, rfl, ed0', edk⟩ := ExAll.split ed
          have il2 := all.len
          have l0 := ed0'.len
          have lk := edk.len
          rw [List.length_map] at l0 lk
          rw [List.length_append] at sl
          refine ⟨_, rfl, da, _, rfl, .inl (SqL.of hd), _, rfl, a, kc x.kind, dx, _, spGet (kc x.kind) CF "parts", rfl, g1, L.get _ hC "inner" "parts" (by simp), a, dx, fa', dfa, _, _, .ref pi, rfl, g1, rfl, g2, rfl, pi, _, rfl, .inr (SqT.of g4), _, _, rfl, rfl, ?_⟩
          have e6 : (((d0 ++ dk).length : Nat) : Int) - ((inner.length : Nat) : Int) = ((d0.length : Nat) : Int) := by
            rw [List.length_append]
            omega
          dsimp only
          rw [e6]
          refine ⟨_, rfl, _, rfl, _, rfl, da, _, rfl, SqL.of hd, fun p2 n2 => ⟨p2, _, rfl, .inl ⟨SqL.of upd_same, fun tp ntp => ?_⟩⟩⟩
          have hd2 : upd H' p2 (.lst (cutV (d0 ++ dk) (some (d0.length : Int)) none)) da = some (.lst (d0 ++ dk)) := upd_other hd n2
          have s3 : Same H' (upd (upd H' p2 (.lst (cutV (d0 ++ dk) (some (d0.length : Int)) none))) tp (.tup (cutV (d0 ++ dk) (some (d0.length : Int)) none))) := (same_new n2 _).trans (same_new ntp _)
          have hd3 := s3 _ _ hd
          have htp : upd (upd H' p2 (.lst (cutV (d0 ++ dk) (some (d0.length : Int)) none))) tp (.tup (cutV (d0 ++ dk) (some (d0.length : Int)) none)) tp = some (.tup dk) := by
            rw [upd_same, cut_tail (by rw [List.length_append]; omega), List.drop_left]
          have hp3 := s3 _ _ hp
          generalize upd (upd H' p2 (.lst (cutV (d0 ++ dk) (some (d0.length : Int)) none))) tp (.tup (cutV (d0 ++ dk) (some (d0.length : Int)) none)) = H3 at s3 hd3 htp hp3 ⊢
          refine ⟨_, rfl, _, rfl, _, rfl, _, da, _, rfl, rfl, hd3, by omega, by rw [List.length_append]; omega, ?_⟩
          rw [Int.toNat_natCast, List.take_left]
          have sm4 : Sm H' (upd H3 da (.lst d0)) := fun c o hc nl => by
            rw [upd_ne fun w => ?_]
            · exact s3 c o hc
            · rw [w, hd] at hc
              exact nl _ (Option.some.inj hc).symm
          have S4 : Same H (upd H3 da (.lst d0)) := fun c o hc => by
            rw [upd_ne (ne_of_none hc nda)]
            exact s3 c o (s2 c o hc)
          have hp4 : upd H3 da (.lst d0) pl = some (.lst us) := by rw [upd_ne (Ne.symm nld)]; exact hp3
          have hd4 : upd H3 da (.lst d0) da = some (.lst d0) := upd_same
          have htp4 : upd H3 da (.lst d0) tp = some (.tup dk) := by
            rw [upd_ne fun w => ?_]
            · exact htp
            · rw [w, hd3] at htp
              cases htp
          have edk4 := ExAll.sm sm4 _ _ edk
          have ed04 := ExAll.sm sm4 _ _ ed0'
          have G1 := sm4 _ _ g1 (by intro xs z; cases z)
          have G2 := sm4 _ _ g2 (by intro xs z; cases z)
          have G3 := sm4 _ _ g3 (by intro xs z; cases z)
          generalize upd H3 da (.lst d0) = H4 at sm4 S4 hp4 hd4 htp4 edk4 ed04 G1 G2 G3 ⊢
          have kpx := put_knots n g x
          have kmul : x.knots * g.knots ≤ t.knots * g.knots := Nat.mul_le_mul_right _ kx
          refine ⟨_, rfl, .inl ⟨rfl, _, SqL.of hd4⟩, rfl, _, rfl, a, kc x.kind, dx, _, spGet (kc x.kind) CF "word", rfl, G1, L.get _ hC "kind" "word" (by simp), a, dx, fa', dfa, _, _, .str x.kind, rfl, G1, rfl, G2, rfl, ?_⟩
          refine ⟨_, rfl, a, kc x.kind, dx, _, spGet (kc x.kind) CF "marks", rfl, G1, L.get _ hC "told" "marks" (by simp), a, dx, fa', dfa, _, _, .ref pm, rfl, G1, rfl, G2, rfl, ?_⟩
          refine ⟨_, rfl, x.kind, b, Tr.put n g x, pm, tp, dk, rfl, pk2, by rw [pk3]; exact G3, htp4, by rw [pk1]; exact edk4, put_ok n okg x okx, b2, b4, by omega, fun r H5 s5 er => ?_⟩
          have hd5 := s5 _ _ hd4
          refine ⟨da, d0, r, rfl, rfl, hd5, Nat.lt_of_lt_of_le (by omega : d0.length < 1000) (small_line (Nat.le_refl _)), ?_⟩
          exact app H5 d0 r S0 (S4.trans s5) (fun c o hc nl => s5 _ _ (sm4 _ _ (sm c o hc nl) nl)) (s5 _ _ hp4) hd5 (ExAll.same s5 _ _ ed04) er run' (by omega) _ _ _
      · have c' : n ∉ x.names := fun z => c ((lab.mem n).mpr z)
        rw [decide_eq_false c]
        refine iteT ?_
        refine ⟨_, rfl, .inl ⟨rfl, _, SqL.of hd⟩, _, rfl, da, dv, .ref a, rfl, rfl, hd, dsmall, ?_⟩
        cases run with
        | leaf hleaf run' => exact app H' dv (.ref a) S s2 sm hp hd ed (by rw [put_none n g x c']; exact ey0) run' sl _ _ _
        | node hn hk run' => exact (c' hn).elim
  · rintro σ H' ⟨s2, sm, hp, dv, S, o1, o2, o3, rfl, hd, ed, run, sl⟩
    rw [ul, List.drop_length] at run
    cases run
    obtain ⟨r, rfl, er⟩ := ExAll.one (x := Tr.put n g t) ed
    refine ⟨_, rfl, da, _, _, r, rfl, rfl, SqL.of hd, rfl, q r H' s2 er⟩
end
end Wp

/-! x op y by the left operand's own def, whatever stands at the right -/
namespace PySem.W
open Lean Elab Tactic Meta PySem PySem.Calls PyProof.Rows
section
variable {prog : Program} {w : World} {A : Around} {E : Value → Shared → Prop} {s : Shared} {K : Frag} {x C D L f g : Addr} {h₀ : Heap} {m : Str → Option Value} {ox : Obj} {od : Option Obj} {T : String}
theorem own_binT {op : Operator} {b : Value} {fo ro rc : Option Value} {Q : Value → Shared → Prop} (F : Fr h₀ L s.heap m) (X₀ : K.In h₀) (I : InstAt s.heap x ox C od) (hb : Looks (model prog w) s.heap (typeOf b) (.type T)) (hc : selfFirst K C = true)
    (hs : findIn K (.ref C) (PySem.dunder op.info.2) = some (some (.ref f))) (hf : isFn K (.ref f) = true) (hr : findIn K (.ref C) (dunderR op.info.2) = some rc) (hp : rc = none ∨ ∃ g : Addr, rc = some (.ref g))
    (h1 : findIn K (.type T) (PySem.dunder op.info.2) = some fo) (h2 : findIn K (.type T) (dunderR op.info.2) = some ro) (hsub : subIn K (.type T) (.ref C) = some false)
    (h : wpAny (model prog w) A (call (.ref f) [.ref x, b]) (CmpBack Q) E s) : wpAny (model prog w) A (binaryOp op (.ref x) b) Q E s := by
  have X := X₀.keeps F.keep
  obtain ⟨cd, rest, hcd, hm⟩ := ksp_first hc
  rcases hi : op.info with ⟨sym, nm'⟩
  rw [hi] at hs hr h1 h2
  dsimp only at hs hr h1 h2
  have one := ksp_try X I hs hf h
  obtain ⟨hh, g, d, tt, os⟩ := s
  have L1 : Looks (model prog w) hh (typeOf (.ref x)) (.ref C) := I.type
  have L2 : Looks (model prog w) hh (typeOf b) (.type T) := hb
  have L3 : Looks (model prog w) hh (fillsNumberSlot (.ref C) nm') true := fills_K X hcd hm hs
  have L4 : Looks (model prog w) hh (fillsNumberSlot (.type T) nm') ((fo.isSome && !isSeqSlot fo) || (ro.isSome && !isSeqSlot ro)) := ksp_fillsT X h1 h2
  have L5 : Looks (model prog w) hh (isSubtype (.type T) (.ref C)) false := looks_subIn X hsub
  have L6 : Looks (model prog w) hh (numberSlotInPython (.ref C) nm') true := ksp_inPy X hs hr hp
  have L7 : Looks (model prog w) hh (numberSlotInPython (.type T) nm') false := Looks.of_pure rfl
  have L8 : Looks (model prog w) hh (typeLookup (.type T) (dunderR nm')) ro := looks_findIn X h2
  generalize ((fo.isSome && !isSeqSlot fo) || (ro.isSome && !isSeqSlot ro)) = right at L4
  have hne : (Value.ref C == Value.type T) = false := Bool.eq_false_iff.mpr fun q => by cases beq_iff_eq.mp q
  simp only [binaryOp, hi]
  refine wpAny_holding (wpAny_bind ?_)
  unfold binaryOp1
  refine wpAny_bind (L1.at (wpAny_bind (L2.at (wpAny_bind (L3.at ?_)))))
  simp only [hne, Bool.false_eq_true, if_false]
  cases right with
  | false =>
    ksp_lk
    refine wpAny_mono one (fun r s' hr' => ?_) fun _ _ e => e
    obtain ⟨v, rfl, hq⟩ := hr'
    ksp_lk
    exact hq
  | true =>
    ksp_lk
    refine wpAny_mono one (fun r s' hr' => ?_) fun _ _ e => e
    obtain ⟨v, rfl, hq⟩ := hr'
    ksp_lk
    exact hq
/-- the right operand is of another own class that has the operator, too -/
theorem own_binR {op : Operator} {b : Value} {rc rd : Option Value} {Q : Value → Shared → Prop} (F : Fr h₀ L s.heap m) (X₀ : K.In h₀) (I : InstAt s.heap x ox C od) (hb : Looks (model prog w) s.heap (typeOf b) (.ref D)) (hc : selfFirst K C = true) (hcd : selfFirst K D = true)
    (hs : findIn K (.ref C) (PySem.dunder op.info.2) = some (some (.ref f))) (hf : isFn K (.ref f) = true) (hr : findIn K (.ref C) (dunderR op.info.2) = some rc) (hp : rc = none ∨ ∃ g : Addr, rc = some (.ref g))
    (h1 : findIn K (.ref D) (PySem.dunder op.info.2) = some (some (.ref g))) (h2 : findIn K (.ref D) (dunderR op.info.2) = some rd) (hp2 : rd = none ∨ ∃ g : Addr, rd = some (.ref g)) (hsub : subIn K (.ref D) (.ref C) = some false) (hne : C ≠ D)
    (h : wpAny (model prog w) A (call (.ref f) [.ref x, b]) (CmpBack Q) E s) : wpAny (model prog w) A (binaryOp op (.ref x) b) Q E s := by
  have X := X₀.keeps F.keep
  obtain ⟨cd, rest, hcc, hm⟩ := ksp_first hc
  obtain ⟨cd2, rest2, hcc2, hm2⟩ := ksp_first hcd
  rcases hi : op.info with ⟨sym, nm'⟩
  rw [hi] at hs hr h1 h2
  dsimp only at hs hr h1 h2
  have one := ksp_try X I hs hf h
  obtain ⟨hh, gg, d, tt, os⟩ := s
  have L1 : Looks (model prog w) hh (typeOf (.ref x)) (.ref C) := I.type
  have L2 : Looks (model prog w) hh (typeOf b) (.ref D) := hb
  have L3 : Looks (model prog w) hh (fillsNumberSlot (.ref C) nm') true := fills_K X hcc hm hs
  have L4 : Looks (model prog w) hh (fillsNumberSlot (.ref D) nm') true := fills_K X hcc2 hm2 h1
  have L5 : Looks (model prog w) hh (isSubtype (.ref D) (.ref C)) false := looks_subIn X hsub
  have L6 : Looks (model prog w) hh (numberSlotInPython (.ref C) nm') true := ksp_inPy X hs hr hp
  have L7 : Looks (model prog w) hh (numberSlotInPython (.ref D) nm') true := ksp_inPy X h1 h2 hp2
  have hne2 : (Value.ref C == Value.ref D) = false := Bool.eq_false_iff.mpr fun q => hne (Value.ref.inj (beq_iff_eq.mp q))
  simp only [binaryOp, hi]
  refine wpAny_holding (wpAny_bind ?_)
  unfold binaryOp1
  refine wpAny_bind (L1.at (wpAny_bind (L2.at (wpAny_bind (L3.at ?_)))))
  simp only [hne2, Bool.false_eq_true, if_false]
  ksp_lk
  refine wpAny_mono one (fun r s' hr' => ?_) fun _ _ e => e
  obtain ⟨v, rfl, hq⟩ := hr'
  ksp_lk
  exact hq
end
end PySem.W
namespace Hx
open PySem PySem.Spec PyProof.Rows L2
/-- the class at C has the operator by a def of its own, which may let an error out -/
structure BinOwn (P : Program) (w : World) (K : PySem.W.Frag) (mg : Str → Option Value) (base : Heap) (k : Nat) (C : Addr) (op : Operator) (sp : Sp) : Prop where
  go : ∃ (g : Addr) (fd : FuncData) (ps : List Str), PySem.W.findIn K (.ref C) (PySem.dunder op.info.2) = some (some (.ref g)) ∧ PySem.W.isFn K (.ref g) = true ∧ FnOk P w K mg base (L2.CX P w) k g fd ps sp ∧ Binds K fd ps []
  first : PySem.W.selfFirst K C = true
  refl : PySem.W.findIn K (.ref C) (dunderR op.info.2) = some none
/-- what the class of the right operand is asked for -/
inductive BinR (K : PySem.W.Frag) (C : Addr) (op : Operator) : Value → Prop
  | ty {T : String} {fo ro : Option Value} : PySem.W.findIn K (.type T) (PySem.dunder op.info.2) = some fo → PySem.W.findIn K (.type T) (dunderR op.info.2) = some ro → PySem.W.subIn K (.type T) (.ref C) = some false → BinR K C op (.type T)
  | same : BinR K C op (.ref C)
  | other {D g : Addr} : C ≠ D → PySem.W.selfFirst K D = true → PySem.W.findIn K (.ref D) (PySem.dunder op.info.2) = some (some (.ref g)) → PySem.W.findIn K (.ref D) (dunderR op.info.2) = some none → PySem.W.subIn K (.ref D) (.ref C) = some false → BinR K C op (.ref D)
/-- the class of the right operand, as it stands -/
inductive RightB (H : Hp) : V → Value → Prop
  | non : RightB H .non (.type "NoneType")
  | bl (b : Bool) : RightB H (.bl b) (.type "bool")
  | int (i : Int) : RightB H (.int i) (.type "int")
  | str (z : Str) : RightB H (.str z) (.type "str")
  | lst {a : Addr} {xs : List V} : H a = some (.lst xs) → RightB H (.ref a) (.type "list")
  | tup {a : Addr} {xs : List V} : H a = some (.tup xs) → RightB H (.ref a) (.type "tuple")
  | dK {a : Addr} {ks : List (Key × V)} : H a = some (.dK ks) → RightB H (.ref a) (.type "dict")
  | ins {a C dx : Addr} {fs : List (Str × V)} : H a = some (.ins C dx fs) → RightB H (.ref a) (.ref C)
def rBinA (P : Program) (w : World) (K : PySem.W.Frag) (mg : Str → Option Value) (base : Heap) (k : Nat) (op : Operator) (E : XK) : R2 := fun x y H Q => ∃ (a C dx : Addr) (fs : List (Str × V)) (sp : Sp) (t : Value), x = .ref a ∧ H a = some (.ins C dx fs) ∧
  BinOwn P w K mg base k C op sp ∧ RightB H y t ∧ BinR K C op t ∧ sp [x, y] H (fun v H' => ∃ r, v = .ref r ∧ Q (.ref r) H') E
section
variable {X : Cx} {k : Nat} {op : Operator} {E : XK}
theorem right_b {pins : List (Addr × Obj)} {σ : L2.St} {H : Hp} {s : Shared} {y : V} {u t : Value} (I : Inv X pins σ H s) (ry : RelV y u) (r : RightB H y t) : PySem.W.Looks (model X.prog X.w) s.heap (typeOf u) t := by
  cases r with
  | non => cases ry; exact .of_pure rfl
  | bl b => cases ry; exact .of_pure rfl
  | int i => obtain ⟨t, rfl⟩ := ry; exact .of_pure rfl
  | str z => obtain ⟨t, rfl⟩ := ry; exact .of_pure rfl
  | @lst a xs e =>
    cases (show u = Value.ref a from ry)
    obtain ⟨_, its, n, rv, hg⟩ := (show ObjOk X.prog X.w H s.heap a (.lst xs) from I.hok a _ e)
    exact (PySem.W.Looks.ld hg).andThen .now
  | @tup a xs e =>
    cases (show u = Value.ref a from ry)
    obtain ⟨its, _, ⟨o, ho, hc, _⟩, _⟩ := I.tuple (SqT.of e)
    exact hc ▸ (PySem.W.Looks.ld ho).andThen .now
  | @dK a ks e =>
    cases (show u = Value.ref a from ry)
    obtain ⟨_, _, vs, rk, o, des, ep, hg, hx, hd, _⟩ := (show ObjOk X.prog X.w H s.heap a (.dK ks) from I.hok a _ e)
    exact hx.1 ▸ (PySem.W.Looks.ld hg).andThen .now
  | @ins a C dx fs e =>
    cases (show u = Value.ref a from ry)
    obtain ⟨mA, O, _⟩ := ins_get I.hok e
    obtain ⟨od, J, _⟩ := O.look
    exact J.type
theorem run_belowE {pins : List (Addr × Obj)} {σ : L2.St} {H : Hp} {s : Shared} {Q : VK} {us : List Value} {vs : List V} {A1 : Around} {f : Addr} {fd : FuncData} {ps : List Str} {sp : Sp}
    (F : FnOk X.prog X.w X.K X.mg X.base (L2.CX X.prog X.w) k f fd ps sp) (hr : Room k A1) (e0 : Env0 X.prog X.w X.K X.mg X.base A1 X.stack s H) (hb : Binds X.K fd ps []) (hx : Passes (L2.CX X.prog X.w) X E) (I : Inv X pins σ H s) (r : Vals vs us) (h : sp vs H Q E) :
    wpAny (model X.prog X.w) A1 (call (.ref f) us) (EP X pins σ Q) X.xe s := by
  have l := F.len vs H Q E h
  have hl : us.length = ps.length := by rw [← r.length]; exact l
  have b := hb s us I.kIn (by rw [List.append_nil]; exact hl)
  rw [List.append_nil] at b
  refine wpAny_call (codeAny_mono (F.run A1 X.stack s H ⟨us, []⟩ us vs Q E hr e0 b r h) fun r s' hq => ?_)
  cases r with
  | error e => exact hx pins σ H s e s' I hq
  | ok fl =>
    cases fl with
    | ret u => exact I.after hq
    | next => exact hq.elim
    | brk => exact hq.elim
    | cont => exact hq.elim
/-- x op y, x an own object -/
theorem op_binA (hr : Room k X.A) (hx : Passes (L2.CX X.prog X.w) X E) : OpR X (binaryOp op) (rBinA X.prog X.w X.K X.mg X.base k op E) := by
  intro pins s σ H x y v u Q I rx ry h
  obtain ⟨a, C, dx, fs, sp, t, rfl, ha, T, r, br, q⟩ := h
  have hb := right_b I ry r
  cases (show v = Value.ref a from rx)
  obtain ⟨g, fd, ps, h1, h2, F, b⟩ := T.go
  obtain ⟨mA, O, _⟩ := ins_get I.hok ha
  obtain ⟨od, J, _⟩ := O.look
  obtain ⟨m, hF⟩ := I.fr
  have run : wpAny (model X.prog X.w) X.A (call (.ref g) [.ref a, u]) (PySem.W.CmpBack (EP X pins σ Q)) X.xe s := by
    refine wpAny_mono (run_belowE F hr I.env0 b hx I (.cons rx (.cons ry .nil)) q) (fun w' s' z => ?_) fun _ _ e => e
    obtain ⟨z', H', I', rz, r', rfl, qz⟩ := z
    cases (show w' = Value.ref r' from rz)
    exact ⟨.ref r', H', I', rfl, qz⟩
  cases br with
  | ty b1 b2 b3 => exact PySem.W.own_binT hF I.ok.mod.kin J hb T.first h1 h2 T.refl (.inl rfl) b1 b2 b3 run
  | same => exact PySem.W.binop_K hF I.ok.mod.kin J hb T.first h1 h2 run
  | other n b1 b2 b3 b4 => exact PySem.W.own_binR hF I.ok.mod.kin J hb T.first b1 h1 h2 T.refl (.inl rfl) b2 b3 (.inl rfl) b4 n run
end
end Hx

namespace Wp
open PySem PySem.Spec PyProof.Rows L2 Hx
/-! exchanged_in; the operators and exchanged of each class -/
theorem ExAt.isx {K : PySem.W.Frag} {CE CF : Addr} {kc : KCls} {cls : Addr → Prop} {b : Int} {H : Hp} {v : V} {t : Tr} (h : ExAt CF kc cls b H v t) (ix : IsX K CE cls) : IsExp K CE H v := by
  cases h with
  | mk _ xp _ _ =>
    obtain ⟨dx, fa, dfa, pm, pi, pl, hc, e1, _⟩ := xp
    exact ix H _ _ dx _ hc e1
theorem ExAt.ref {CF : Addr} {kc : KCls} {cls : Addr → Prop} {b : Int} {H : Hp} {v : V} {t : Tr} (h : ExAt CF kc cls b H v t) : ∃ a dx fa, v = .ref a ∧ H a = some (.ins (kc t.kind) dx [("facts", .ref fa)]) ∧ cls (kc t.kind) := by
  cases h with
  | mk _ xp _ _ =>
    obtain ⟨dx, fa, dfa, pm, pi, pl, hc, e1, _⟩ := xp
    exact ⟨_, dx, fa, rfl, e1, hc⟩
/-- exchanged_in(expression, name, other) -/
def spExIn (K : PySem.W.Frag) (CF CE Cm Ce : Addr) (kc : KCls) (cls : Addr → Prop) : Sp := fun vs H Q E => ∃ (v u w : V), vs = [v, u, w] ∧
  ((∃ (n : Str) (b : Int) (t g : Tr), u = .str n ∧ nameB n = true ∧ ExAt CF kc cls b H v t ∧ ExAt CF kc cls b H w g ∧ t.Ok b ∧ g.Ok b ∧ 2 ≤ b ∧ b ≤ 4 ∧ t.knots * g.knots ≤ 40 ∧ ∀ r H', Same H H' → ExAt CF kc cls b H' r (Tr.put n g t) → Q r H') ∨
   ((∃ x : Str, u = .str x ∧ x.length ≤ 1000 ∧ nameB x = false) ∧ Tells E Cm u H) ∨
   ((∃ x : Str, u = .str x ∧ nameB x = true) ∧ NotExp K CE H w ∧ Tells E Ce w H))
/-- E + F -/
def spAdd (K : PySem.W.Frag) (CF CE Ce : Addr) (kc : KCls) (cls : Addr → Prop) : Sp := fun vs H Q E => ∃ (v u : V) (b : Int) (t : Tr), vs = [v, u] ∧ ExAt CF kc cls b H v t ∧ t.Ok b ∧ 2 ≤ b ∧ b ≤ 4 ∧ t.knots ≤ 39 ∧
  ((∃ g : Tr, ExAt CF kc cls b H u g ∧ g.Ok b ∧ t.knots + g.knots ≤ 39 ∧ ∀ a H', Same H H' → ExAt CF kc cls b H' (.ref a) (.lead t g) → Q (.ref a) H') ∨ (NotExp K CE H u ∧ Tells E Ce u H))
/-- E >> c -/
def spRsh (K : PySem.W.Frag) (CF Cn : Addr) (kc : KCls) (cls : Addr → Prop) : Sp := fun vs H Q E => ∃ (v u : V) (b : Int) (t : Tr), vs = [v, u] ∧ ExAt CF kc cls b H v t ∧ t.Ok b ∧ 2 ≤ b ∧ b ≤ 4 ∧ t.knots ≤ 39 ∧
  ((∃ c : Int, u = .int c ∧ 1 ≤ c ∧ c ≤ 9 ∧ ∀ a H', Same H H' → ExAt CF kc cls b H' (.ref a) (.drop c t) → Q (.ref a) H') ∨ (((∃ i : Int, u = .int i ∧ ¬ (1 ≤ i ∧ i ≤ 9)) ∨ NotInt K H u) ∧ Tells E Cn u H))
section
variable {P : Program} {w : World} {K : PySem.W.Frag} {mg : Str → Option Value} {base : Heap} {f fN fX fC fM CF CE Cn Cs Cm Cw Ce : Addr} {fd fdN fdX fdC fdM : FuncData} {kc : KCls} {cls : Addr → Prop} {st : Stmt} {x qual : Str} {p1 p2 p3 p4 p5 p6 : Pos}
theorem scExIn : FnScope ["expression", "name", "other"] ["expression", "name", "other"] (defScope s_exchanged_in) := ⟨rfl, rfl, rfl, by decide +kernel, rfl, by decide +kernel, by decide +kernel⟩
theorem ok_exIn (F : Fun K "exchanged_in" "exchanged_in" s_exchanged_in f fd) (ix : IsX K CE cls)
    (GN : FnOk P w K mg base (L2.CX P w) 3 fN fdN ["given"] (spCheck K nameB Cm)) (bN : Binds K fdN ["given"] []) (kN : PySem.W.keepIn K (.ref fN) = true) (mN : mg "check_name" = some (.ref fN))
    (GX : FnOk P w K mg base (L2.CX P w) 3 fX fdX ["values"] (spCheckAll K CE Ce)) (bX : Binds K fdX ["values"] []) (kX : PySem.W.keepIn K (.ref fX) = true) (mX : mg "check_expressions" = some (.ref fX))
    (GC : FnOk P w K mg base CX0 10 fC fdC ["expression", "name", "other", "make"] (spExch CF kc cls fM)) (bC : Binds K fdC ["expression", "name", "other", "make"] []) (kC : PySem.W.keepIn K (.ref fC) = true) (mC : mg "exchange" = some (.ref fC))
    (mM : mg "make" = some (.ref fM)) : FnOk P w K mg base (L2.CX P w) 11 f fd ["expression", "name", "other"] (spExIn K CF CE Cm Ce kc cls) := by
  refine F.okX scExIn (fun vs H Q E h => ?_) (fun cdv A outer s H vs Q E hr h => ?_)
  · obtain ⟨v, u, z, rfl, _⟩ := h
    rfl
  obtain ⟨v, u, z, rfl, h⟩ := h
  have tk := takes_of (X := cxOf (L2.CX P w) P w K mg base ["expression", "name", "other"] "exchanged_in" (defScope s_exchanged_in) f cdv A outer s H E) rfl rfl rfl rfl
  refine ⟨_, pss_cons (ps_expr (pe_callS GN (hr.mono (by decide)) rfl mN kN bN (fun σ => passAt tk σ) (pa_cons (pv 1) pa_nil)))
    (pss_cons (ps_expr (pe_callS GX (hr.mono (by decide)) rfl mX kX bX (fun σ => passAt tk σ) (pa_cons (pe_tup (pa_cons (pv 2) pa_nil)) pa_nil)))
    (pss_one (ps_ret (pe_call GC hr rfl mC kC bC .nil pass0 (pa_cons (pv 0) (pa_cons (pv 1) (pa_cons (pv 2) (pa_cons (pe_gref rfl mM) pa_nil)))))))), ?_⟩
  rcases h with ⟨n, b, t, g, rfl, nb, et, eg, okt, okg, b2, b4, tg, q⟩ | ⟨⟨n, rfl, few, nb⟩, t⟩ | ⟨⟨n, rfl, nb⟩, ne, t⟩
  · have nl := nameB_len nb
    refine ⟨_, rfl, _, rfl, .inl ⟨n, rfl, by omega, nb, fun H1 s1 => ?_⟩⟩
    refine ⟨_, rfl, (by show 1 ≤ sizeLine; decide), fun pq hpq => ⟨pq, [z], rfl, upd_same, .inl ⟨fun y hy => ?_, ?_⟩⟩⟩
    · cases List.mem_singleton.mp hy
      exact (ExAt.same (s1.trans (same_new hpq _)) _ _ eg).isx ix
    have s2 := s1.trans (same_new hpq (.tup [z]))
    refine ⟨_, rfl, _, rfl, _, rfl, v, z, n, b, t, g, rfl, ExAt.same s2 _ _ et, ExAt.same s2 _ _ eg, okt, okg, b2, b4, tg, fun r H' s3 er => q r H' (s2.trans s3) er⟩
  · exact ⟨_, rfl, _, rfl, .inr ⟨.inl ⟨n, rfl, by omega, nb⟩, t⟩⟩
  · have nl := nameB_len nb
    refine ⟨_, rfl, _, rfl, .inl ⟨n, rfl, by omega, nb, fun H1 s1 => ?_⟩⟩
    refine ⟨_, rfl, (by show 1 ≤ sizeLine; decide), fun pq hpq => ⟨pq, [z], rfl, upd_same, .inr ⟨0, z, rfl, fun i y hi => absurd hi (Nat.not_lt_zero _), ?_, ?_⟩⟩⟩
    · exact NotExp.same ne (s1.trans (same_new hpq _))
    · exact t.same (s1.trans (same_new hpq _))
theorem ok_add (T : Ctors P w K mg base CF CE Cn Cs Cm Cw Ce kc cls) (ix : IsX K CE cls) (F : Fun K x qual st f fd) (S : FnScope ["self", "other"] ["self", "other"] (defScope st))
    (hb : defBody st = [.Return (some (.Call (.Name "Lead" p1) [.Name "self" p2, .Name "other" p3] [] p4)) p5]) (v1 : Vis (defScope st) "self") (v2 : Vis (defScope st) "other") (g1 : ∀ n cdv, (envOfC qual (defScope st) n f cdv).kindOf "Lead" = some .globalImplicit) :
    FnOk P w K mg base (L2.CX P w) 9 f fd ["self", "other"] (spAdd K CF CE Ce kc cls) := by
  refine F.okX S (fun vs H Q E h => ?_) (fun cdv A outer s H vs Q E hr h => ?_)
  · obtain ⟨v, u, b, t, rfl, _⟩ := h
    rfl
  obtain ⟨v, u, b, t, rfl, et, okt, b2, b4, tk39, h⟩ := h
  obtain ⟨ml, fL, dL, ML, GL, BL⟩ := T.lead
  have tk := takes_of (X := cxOf (L2.CX P w) P w K mg base ["self", "other"] qual (defScope st) f cdv A outer s H E) rfl rfl rfl rfl
  rw [hb]
  refine ⟨_, pss_one (ps_ret (pe_make ML GL hr (g1 _ _) ml BL .nil (passes_call tk (fun _ _ _ _ z => z)) (pa_cons (pe_var (i := 0) rfl v1) (pa_cons (pe_var (i := 1) rfl v2) pa_nil)))), ?_⟩
  have b0 : 0 ≤ b := by omega
  have b9 : b ≤ 9 := by omega
  obtain ⟨o, rfl, fo⟩ := for_of et okt b0 b9 (by omega)
  refine ⟨_, rfl, _, rfl, fun y dx hy hdy ne => ⟨y, dx, kc "lead", _, _, rfl, T.own "lead" (by simp), upd_same, ?_⟩⟩
  have g0 := born (C := kc "lead") hy hdy ne
  rcases h with ⟨g, eg, okg, kk, q⟩ | ⟨ne2, t2⟩
  · obtain ⟨o2, rfl, f2⟩ := for_of eg okg b0 b9 (by omega)
    refine .inl ⟨o, o2, rfl, rfl, fo.arg.same g0, f2.arg.same g0, fun H3 ls bt xp pm srt => ⟨rfl, ?_⟩⟩
    have gr := grown hy hdy ne bt
    have ek : (1 + ([o, o2].map (·.size)).sum : Int) = ((Tr.knots (.lead t g) : Nat) : Int) := by
      simp only [Tr.knots, List.map_cons, List.map_nil, List.sum_cons, List.sum_nil, fo.size, f2.size]
      omega
    rw [ek, fo.text, f2.text] at xp
    have lb : Lab (Tr.names (.lead t g)) ls := lab_of pm srt fun y => by
      unfold namesOf
      rw [if_neg (by decide +kernel)]
      simp only [List.flatMap_cons, List.flatMap_nil, List.append_nil, List.mem_append, Tr.names, fo.lab.mem, f2.lab.mem]
    exact q _ _ gr (.mk (.lead t g) xp lb (.cons (ExAt.same gr t _ et) (.cons (ExAt.same gr g _ eg) .nil)))
  · exact .inr (.inr ⟨(ExAt.same g0 _ _ et).isx ix, NotExp.same ne2 g0, t2.same g0⟩)
theorem ok_rsh (T : Ctors P w K mg base CF CE Cn Cs Cm Cw Ce kc cls) (F : Fun K x qual st f fd) (S : FnScope ["self", "other"] ["self", "other"] (defScope st))
    (hb : defBody st = [.Return (some (.Call (.Name "Drop" p1) [.Name "other" p2, .Name "self" p3] [] p4)) p5]) (v1 : Vis (defScope st) "self") (v2 : Vis (defScope st) "other") (g1 : ∀ n cdv, (envOfC qual (defScope st) n f cdv).kindOf "Drop" = some .globalImplicit) :
    FnOk P w K mg base (L2.CX P w) 9 f fd ["self", "other"] (spRsh K CF Cn kc cls) := by
  refine F.okX S (fun vs H Q E h => ?_) (fun cdv A outer s H vs Q E hr h => ?_)
  · obtain ⟨v, u, b, t, rfl, _⟩ := h
    rfl
  obtain ⟨v, u, b, t, rfl, et, okt, b2, b4, tk39, h⟩ := h
  obtain ⟨md, fD, dD, MD, GD, BD⟩ := T.drop
  have tk := takes_of (X := cxOf (L2.CX P w) P w K mg base ["self", "other"] qual (defScope st) f cdv A outer s H E) rfl rfl rfl rfl
  rw [hb]
  refine ⟨_, pss_one (ps_ret (pe_make MD GD hr (g1 _ _) md BD .nil (passes_call tk (fun _ _ _ _ z => z)) (pa_cons (pe_var (i := 1) rfl v2) (pa_cons (pe_var (i := 0) rfl v1) pa_nil)))), ?_⟩
  have b0 : 0 ≤ b := by omega
  have b9 : b ≤ 9 := by omega
  obtain ⟨o, rfl, fo⟩ := for_of et okt b0 b9 (by omega)
  refine ⟨_, rfl, _, rfl, fun y dx hy hdy ne => ⟨y, dx, kc "drop", u, _, rfl, T.own "drop" (by simp), upd_same, ?_⟩⟩
  have g0 := born (C := kc "drop") hy hdy ne
  rcases h with ⟨c, rfl, c1, c9, q⟩ | ⟨bad, t2⟩
  · refine .inl ⟨c, o, rfl, c1, c9, rfl, fo.arg.same g0, fun H2 ls bt xp pm srt => ⟨rfl, ?_⟩⟩
    have gr := grown hy hdy ne bt
    have ek : (1 + ([o].map (·.size)).sum : Int) = ((Tr.knots (.drop c t) : Nat) : Int) := by
      simp only [Tr.knots, List.map_cons, List.map_nil, List.sum_cons, List.sum_nil, fo.size]
      omega
    rw [ek, fo.text] at xp
    exact q _ _ gr (.mk (.drop c t) xp (lab1 (by decide +kernel) pm srt fo.lab) (.cons (ExAt.same gr t _ et) .nil))
  · refine .inr (.inl ⟨bad.imp_right fun n => ?_, t2.same g0⟩)
    obtain ⟨tt, bi, bb, ty, k1, k2, e⟩ := n
    exact ⟨tt, bi, bb, TyX.same ty g0, k1, k2, e⟩
theorem ok_exM (F : Fun K x qual st f fd) (S : FnScope ["self", "name", "other"] ["self", "name", "other"] (defScope st))
    (hb : defBody st = [.Return (some (.Call (.Name "exchanged_in" p1) [.Name "self" p2, .Name "name" p3, .Name "other" p4] [] p5)) p6]) (v1 : Vis (defScope st) "self") (v2 : Vis (defScope st) "name") (v3 : Vis (defScope st) "other")
    (g1 : ∀ n cdv, (envOfC qual (defScope st) n f cdv).kindOf "exchanged_in" = some .globalImplicit)
    (GC : FnOk P w K mg base (L2.CX P w) 11 fC fdC ["expression", "name", "other"] (spExIn K CF CE Cm Ce kc cls)) (bC : Binds K fdC ["expression", "name", "other"] []) (kC : PySem.W.keepIn K (.ref fC) = true) (mC : mg "exchanged_in" = some (.ref fC)) :
    FnOk P w K mg base (L2.CX P w) 12 f fd ["self", "name", "other"] (spExIn K CF CE Cm Ce kc cls) := by
  refine F.okX S (fun vs H Q E h => ?_) (fun cdv A outer s H vs Q E hr h => ?_)
  · obtain ⟨v, u, z, rfl, _⟩ := h
    rfl
  obtain ⟨v, u, z, rfl, h⟩ := h
  have tk := takes_of (X := cxOf (L2.CX P w) P w K mg base ["self", "name", "other"] qual (defScope st) f cdv A outer s H E) rfl rfl rfl rfl
  rw [hb]
  refine ⟨_, pss_one (ps_ret (pe_call GC hr (g1 _ _) mC kC bC .nil (passes_call tk (fun _ _ _ _ z => z)) (pa_cons (pe_var (i := 0) rfl v1) (pa_cons (pe_var (i := 1) rfl v2) (pa_cons (pe_var (i := 2) rfl v3) pa_nil))))), ?_⟩
  exact ⟨_, rfl, _, rfl, _, rfl, v, u, z, rfl, h⟩
end
end Wp

namespace Wp
open PySem PySem.Spec PyProof.Rows L2 Hx
/-! _law_put -/
/-- a part of a heap, told by what was there and what is new -/
def Frh (G H G' : Hp) : Prop := ∀ b o, G' b = some o → G b = some o ∨ H b = none
theorem upd_both {G H : Hp} {p : Addr} {o : HO} (s : Same G H) : Same (upd G p o) (upd H p o) := fun b u h => by
  by_cases c : b = p
  · rw [c, upd_same] at h ⊢
    exact h
  · rw [upd_ne c] at h ⊢
    exact s b u h
theorem sub_no {G H : Hp} {p : Addr} (s : Same G H) (n : H p = none) : G p = none := by
  cases g : G p with
  | none => rfl
  | some u =>
    have := s p u g
    rw [n] at this
    cases this
def spPut (n : Nat) : Sp := fun vs H Q _ => ∃ (tv gv : V) (m : Str) (t g : Tr) (G : Hp), vs = [tv, .str m, gv] ∧ Same G H ∧ TrAt G tv t ∧ TrAt G gv g ∧ t.knots ≤ n ∧ t.knots ≤ 100 ∧ (∀ x ∈ t.names, x.length ≤ 1000) ∧
  ∀ v H' G', Same H H' → Same G' H' → Same G G' → Frh G H G' → TrAt G' v (Tr.put m g t) → Q v H'
theorem TrAll.sn {H : Hp} {v : V} {t : Tr} (h : TrAt H v t) : ∀ {vs : List V} {l : List Tr}, TrAll H vs l → TrAll H (vs ++ [v]) (l ++ [t])
  | _, _, .nil => .cons h .nil
  | _, _, .cons a r => .cons a (TrAll.sn h r)
theorem namesL_mem : ∀ {l : List Tr} {t : Tr}, t ∈ l → ∀ x ∈ t.names, x ∈ Tr.namesL l
  | u :: r, t, h, x, hx => by
    simp only [Tr.namesL, List.mem_append]
    rcases List.mem_cons.mp h with rfl | h
    · exact .inl hx
    · exact .inr (namesL_mem h x hx)
theorem knotsL_mem : ∀ {l : List Tr} {t : Tr}, t ∈ l → t.knots ≤ Tr.knotsL l
  | u :: r, t, h => by
    simp only [Tr.knotsL]
    rcases List.mem_cons.mp h with rfl | h
    · omega
    · have := knotsL_mem h
      omega
section
variable {P : Program} {w : World} {K : PySem.W.Frag} {mg : Str → Option Value} {base : Heap} {f : Addr} {fd : FuncData}
def NPt : List Str := ["_law_tree_here", "_law_title", "_law_given", "_law_kind", "_law_each"]
theorem scPut : FnScope NPt ["_law_tree_here", "_law_title", "_law_given"] (defScope s_law_put) := ⟨rfl, rfl, rfl, by decide +kernel, rfl, by decide +kernel, by decide +kernel⟩
theorem ok_put (F : Fun K "_law_put" "_law_put" s_law_put f fd) (bF : Binds K fd ["_law_tree_here", "_law_title", "_law_given"] []) (mF : mg "_law_put" = some (.ref f)) :
    ∀ n, FnOk P w K mg base CX0 (1 + n) f fd ["_law_tree_here", "_law_title", "_law_given"] (spPut n) := by
  intro n
  induction n with
  | zero =>
    have no : ∀ vs H Q E, spPut 0 vs H Q E → False := fun vs H Q E ⟨tv, gv, m, t, g, G, _, _, _, _, k0, _⟩ => by
      have := knots_pos t
      omega
    exact ⟨fun vs H Q E h => (no vs H Q E h).elim, fun A outer s H args us vs Q E _ _ _ _ h => (no vs H Q E h).elim⟩
  | succ n ih =>
    refine F.ok scPut (fun vs H Q E h => ?_) (fun cdv A outer s H vs Q E hr h => ?_)
    · obtain ⟨tv, gv, m, t, g, G, rfl, _⟩ := h
      rfl
    obtain ⟨tv, gv, m, t, g, G, rfl, sG, ht, hg, kn, k100, nl, q⟩ := h
    refine ⟨_, pss_cons (ps_set (i := 3) scPut.nd rfl (Or.inl rfl) (pe_ix ix_tup (pv 0) pe_int (fun _ _ => rfl)))
      (pss_cons (ps_if (pt_cmpR op_eq (pv 3) pe_str (nomark _)) (pss_one (ps_ret (pe_ifExp (pt_cmpR op_eq (pe_ix ix_tup (pv 0) pe_int (fun _ _ => rfl)) (pv 1) (nomark _)) (pv 2) (pv 0)))) pss_nil)
      (pss_cons (ps_if (pt_cmpR op_eq (pv 3) pe_str (nomark _)) (pss_one (ps_ret (pe_tup (pa_cons pe_str (pa_cons
        (pe_lc (te := tCall (spPut n) [] E0 (tCons (tVar 4) (tCons (tVar 1) (tCons (tVar 2) tNil)))) (own := [("_law_each", 4)]) (g := gName 4) (tt := tYes) rfl scPut.nd (pi_list (pe_ix ix_tup (pv 0) pe_int (fun _ _ => rfl)))
          (blkOk_by (N := NPt) (sc := defScope s_law_put) (by decide +kernel)) (fun _ _ _ _ _ => pg_name (i := 4) scPut.nd rfl (Or.inl rfl)) (fun _ _ _ _ _ => pts_nil)
          (fun _ _ _ _ _ => pe_call ih hr rfl mF F.kp bF .nil pass0 (pa_cons (pv 4) (pa_cons (pv 1) (pa_cons (pv 2) pa_nil))))) pa_nil))))) pss_nil)
      (pss_cons (ps_if (pt_cmpR op_eq (pv 3) pe_str (nomark _)) (pss_one (ps_ret (pe_tup (pa_cons pe_str (pa_cons (pe_call ih hr rfl mF F.kp bF .nil pass0 (pa_cons (pe_ix ix_tup (pv 0) pe_int (fun _ _ => rfl)) (pa_cons (pv 1) (pa_cons (pv 2) pa_nil))))
        (pa_cons (pe_call ih hr rfl mF F.kp bF .nil pass0 (pa_cons (pe_ix ix_tup (pv 0) pe_int (fun _ _ => rfl)) (pa_cons (pv 1) (pa_cons (pv 2) pa_nil)))) pa_nil)))))) pss_nil)
      (pss_cons (ps_if (pt_cmpR op_eq (pv 3) pe_str (nomark _)) (pss_one (ps_ret (pv 0))) pss_nil)
      (pss_one (ps_ret (pe_tup (pa_cons (pv 3) (pa_cons (pe_ix ix_tup (pv 0) pe_int (fun _ _ => rfl)) (pa_cons (pe_call ih hr rfl mF F.kp bF .nil pass0 (pa_cons (pe_ix ix_tup (pv 0) pe_int (fun _ _ => rfl)) (pa_cons (pv 1) (pa_cons (pv 2) pa_nil)))) pa_nil)))))))))), ?_⟩
    have frh0 : Frh G H G := fun _ _ h => .inl h
    cases ht with
    | @sign p x e =>
      refine ⟨_, rfl, p, _, _, _, rfl, rfl, SqT.of (sG _ _ e), rfl, ?_⟩
      (refine ⟨_, rfl, rfl, _, rfl, ?_⟩; rw [str_ne (by decide +kernel)]; refine iteF ?_)
      (refine ⟨_, rfl, rfl, _, rfl, ?_⟩; rw [str_ne (by decide +kernel)]; refine iteF ?_)
      (refine ⟨_, rfl, rfl, _, rfl, ?_⟩; rw [str_ne (by decide +kernel)]; refine iteF ?_)
      refine ⟨_, rfl, rfl, _, rfl, ?_⟩
      rw [decide_eq_true rfl]
      exact iteT ⟨_, rfl, q _ H G (Same.refl H) sG (Same.refl G) frh0 (.sign e)⟩
    | @name p x e =>
      refine ⟨_, rfl, p, _, _, _, rfl, rfl, SqT.of (sG _ _ e), rfl, ?_⟩
      refine ⟨_, rfl, rfl, _, rfl, ?_⟩
      rw [decide_eq_true rfl]
      refine iteT ⟨_, rfl, p, _, _, _, rfl, rfl, SqT.of (sG _ _ e), rfl, _, rfl, rfl, _, rfl, ?_⟩
      by_cases c : x = m
      · subst c
        rw [decide_eq_true rfl]
        refine iteT ⟨_, rfl, q _ H G (Same.refl H) sG (Same.refl G) frh0 ?_⟩
        simp only [Tr.put, if_true]
        exact hg
      · rw [str_ne c]
        refine iteF ⟨_, rfl, q _ H G (Same.refl H) sG (Same.refl G) frh0 ?_⟩
        simp only [Tr.put]
        rw [if_neg c]
        exact .name e
    | @weave p pq vs l e e2 r =>
      simp only [Tr.knots] at kn k100
      refine ⟨_, rfl, p, _, _, _, rfl, rfl, SqT.of (sG _ _ e), rfl, ?_⟩
      (refine ⟨_, rfl, rfl, _, rfl, ?_⟩; rw [str_ne (by decide +kernel)]; refine iteF ?_)
      refine ⟨_, rfl, rfl, _, rfl, ?_⟩
      rw [decide_eq_true rfl]
      refine iteT ?_
      refine ⟨_, rfl, p, _, _, _, rfl, rfl, SqT.of (sG _ _ e), rfl, pq, rfl, ⟨_, SqL.of (sG _ _ e2)⟩, fun D hD => ?_⟩
      have vl := r.len
      have kl := knots_len l
      have gD : G D = none := sub_no sG hD
      refine lc_list (K := K) (a := pq) (xs := vs) (fun i H1 => Same H H1 ∧ ∃ (ws : List V) (Gi : Hp), H1 D = some (.lst ws) ∧ Same G Gi ∧ Same Gi H1 ∧ Gi D = none ∧ Frh G H Gi ∧ TrAll Gi ws ((l.take i).map (Tr.put m g)) ∧ ws.length = i)
        ⟨same_new hD _, [], G, upd_same, Same.refl G, sG.trans (same_new hD _), gD, frh0, .nil, rfl⟩ (fun i H1 _ z => SqL.of (z.1 _ _ (sG _ _ e2))) ?_ ?_
      · rintro i x H1 hx ⟨s1, ws, Gi, hw, s2, s3, nD, fr, all, wl⟩
        obtain ⟨t', ht', tr⟩ := r.get hx
        have il := (List.getElem?_eq_some_iff.mp ht').1
        have mem := List.mem_of_getElem? ht'
        have k' := knotsL_mem mem
        refine ⟨rfl, turn_yes ⟨_, rfl, _, rfl, _, rfl, x, gv, m, t', g, Gi, rfl, s3, TrAt.same s2 _ _ tr, TrAt.same s2 _ _ hg, by omega, by omega, fun z hz => nl z ?_, fun v' H2 G' s4 g1 g2 fr2 h' => ?_⟩⟩
        · simp only [Tr.names]
          exact namesL_mem mem z hz
        have gD' : G' D = none := by
          cases gg : G' D with
          | none => rfl
          | some u =>
            rcases fr2 D u gg with z | z
            · rw [nD] at z
              cases z
            · rw [hw] at z
              cases z
        have hw2 := s4 _ _ hw
        refine ⟨ws, hw2, Nat.lt_of_lt_of_le (by omega : ws.length < 1000) (small_line (Nat.le_refl _)), fun c o hc => ?_, ws ++ [v'], G', upd_same, s2.trans g2, fun c o hc => ?_, gD', fun c o hc => ?_, ?_, by rw [List.length_append, wl]; rfl⟩
        · rw [upd_ne (ne_of_none hc hD)]
          exact s4 _ _ (s1 _ _ hc)
        · rw [upd_ne (ne_of_none hc gD')]
          exact g1 c o hc
        · rcases fr2 c o hc with z | z
          · exact fr c o z
          · exact .inr (s1.free z)
        · have et : l.take (i + 1) = l.take i ++ [t'] := by
            rw [List.take_add_one, ht']
            rfl
          rw [et, List.map_append]
          exact TrAll.sn h' (TrAll.same g2 _ _ all)
      · rintro H1 ⟨s1, ws, Gi, hw, s2, s3, nD, fr, all, wl⟩
        rw [vl, List.take_of_length_le (Nat.le_refl _)] at all
        refine ⟨(by show 2 ≤ sizeLine; decide), fun p' np' => ?_⟩
        have gn := sub_no s3 np'
        have nDp : D ≠ p' := ne_of_none hw np'
        have s5 : Same Gi (upd (upd Gi D (.lst ws)) p' (.tup [.str "weave", .ref D])) := (same_new nD _).trans (same_new (by rw [upd_ne (Ne.symm nDp)]; exact gn) _)
        refine q _ _ (upd (upd Gi D (.lst ws)) p' (.tup [.str "weave", .ref D])) (s1.trans (same_new np' _)) (upd_both fun c o hc => ?_) (s2.trans s5) (fun b o hb => ?_) ?_
        · by_cases cb : c = D
          · rw [cb, upd_same] at hc
            rw [cb, ← Option.some.inj hc]
            exact hw
          · rw [upd_ne cb] at hc
            exact s3 c o hc
        · by_cases cb : b = p'
          · exact .inr (by rw [cb]; exact s1.free np')
          · rw [upd_ne cb] at hb
            by_cases cd : b = D
            · exact .inr (by rw [cd]; exact hD)
            · rw [upd_ne cd] at hb
              exact fr b o hb
        · simp only [Tr.put]
          refine .weave upd_same (by rw [upd_ne nDp]; exact upd_same) ?_
          rw [putL_map]
          exact TrAll.same s5 _ _ all
    | @lead p v u x x2 e r r2 =>
      simp only [Tr.knots] at kn k100
      simp only [Tr.names] at nl
      refine ⟨_, rfl, p, _, _, _, rfl, rfl, SqT.of (sG _ _ e), rfl, ?_⟩
      (refine ⟨_, rfl, rfl, _, rfl, ?_⟩; rw [str_ne (by decide +kernel)]; refine iteF ?_)
      (refine ⟨_, rfl, rfl, _, rfl, ?_⟩; rw [str_ne (by decide +kernel)]; refine iteF ?_)
      refine ⟨_, rfl, rfl, _, rfl, ?_⟩
      rw [decide_eq_true rfl]
      refine iteT ?_
      refine ⟨_, rfl, p, _, _, _, rfl, rfl, SqT.of (sG _ _ e), rfl, _, rfl, _, rfl, ?_⟩
      refine ⟨v, gv, m, x, g, G, rfl, sG, r, hg, by omega, by omega, fun z hz => nl z (List.mem_append_left _ hz), fun v' H' G' s1 g1 g2 fr h' => ?_⟩
      refine ⟨_, rfl, p, _, _, _, rfl, rfl, SqT.of (s1 _ _ (sG _ _ e)), rfl, _, rfl, _, rfl, ?_⟩
      refine ⟨u, gv, m, x2, g, G', rfl, g1, TrAt.same g2 _ _ r2, TrAt.same g2 _ _ hg, by omega, by omega, fun z hz => nl z (List.mem_append_right _ hz), fun u' H2 G2 s3 g3 g4 fr2 h2 => ?_⟩
      refine ⟨(by show 3 ≤ sizeLine; decide), fun p' np' => ?_⟩
      have gn := sub_no g3 np'
      have s4 := s1.trans s3
      refine q _ _ (upd G2 p' (.tup [.str "lead", v', u'])) (s4.trans (same_new np' _)) (upd_both g3) ((g2.trans g4).trans (same_new gn _)) (fun b o hb => ?_) (.lead upd_same (TrAt.same (g4.trans (same_new gn _)) _ _ h') (TrAt.same (same_new gn _) _ _ h2))
      by_cases cb : b = p'
      · exact .inr (by rw [cb]; exact s4.free np')
      · rw [upd_ne cb] at hb
        rcases fr2 b o hb with z | z
        · exact fr b o z
        · exact .inr (s1.free z)
    | @part p j v x e r =>
      simp only [Tr.knots] at kn k100
      refine ⟨_, rfl, p, _, _, _, rfl, rfl, SqT.of (sG _ _ e), rfl, ?_⟩
      (refine ⟨_, rfl, rfl, _, rfl, ?_⟩; rw [str_ne (by decide +kernel)]; refine iteF ?_)
      (refine ⟨_, rfl, rfl, _, rfl, ?_⟩; rw [str_ne (by decide +kernel)]; refine iteF ?_)
      (refine ⟨_, rfl, rfl, _, rfl, ?_⟩; rw [str_ne (by decide +kernel)]; refine iteF ?_)
      (refine ⟨_, rfl, rfl, _, rfl, ?_⟩; rw [str_ne (by decide +kernel)]; refine iteF ?_)
      refine ⟨_, rfl, _, rfl, p, _, _, _, rfl, rfl, SqT.of (sG _ _ e), rfl, _, rfl, p, _, _, _, rfl, rfl, SqT.of (sG _ _ e), rfl, _, rfl, _, rfl, ?_⟩
      refine ⟨v, gv, m, x, g, G, rfl, sG, r, hg, by omega, by omega, nl, fun v' H' G' s1 g1 g2 fr h' => ?_⟩
      refine ⟨(by show 3 ≤ sizeLine; decide), fun p' np' => ?_⟩
      have gn := sub_no g1 np'
      refine q _ _ (upd G' p' (.tup [.str "part", .int j, v'])) (s1.trans (same_new np' _)) (upd_both g1) (g2.trans (same_new gn _)) (fun b o hb => ?_) (.part upd_same (TrAt.same (same_new gn _) _ _ h'))
      by_cases cb : b = p'
      · exact .inr (by rw [cb]; exact s1.free np')
      · rw [upd_ne cb] at hb
        exact fr b o hb
    | @drop p j v x e r =>
      simp only [Tr.knots] at kn k100
      refine ⟨_, rfl, p, _, _, _, rfl, rfl, SqT.of (sG _ _ e), rfl, ?_⟩
      (refine ⟨_, rfl, rfl, _, rfl, ?_⟩; rw [str_ne (by decide +kernel)]; refine iteF ?_)
      (refine ⟨_, rfl, rfl, _, rfl, ?_⟩; rw [str_ne (by decide +kernel)]; refine iteF ?_)
      (refine ⟨_, rfl, rfl, _, rfl, ?_⟩; rw [str_ne (by decide +kernel)]; refine iteF ?_)
      (refine ⟨_, rfl, rfl, _, rfl, ?_⟩; rw [str_ne (by decide +kernel)]; refine iteF ?_)
      refine ⟨_, rfl, _, rfl, p, _, _, _, rfl, rfl, SqT.of (sG _ _ e), rfl, _, rfl, p, _, _, _, rfl, rfl, SqT.of (sG _ _ e), rfl, _, rfl, _, rfl, ?_⟩
      refine ⟨v, gv, m, x, g, G, rfl, sG, r, hg, by omega, by omega, nl, fun v' H' G' s1 g1 g2 fr h' => ?_⟩
      refine ⟨(by show 3 ≤ sizeLine; decide), fun p' np' => ?_⟩
      have gn := sub_no g1 np'
      refine q _ _ (upd G' p' (.tup [.str "drop", .int j, v'])) (s1.trans (same_new np' _)) (upd_both g1) (g2.trans (same_new gn _)) (fun b o hb => ?_) (.drop upd_same (TrAt.same (same_new gn _) _ _ h'))
      by_cases cb : b = p'
      · exact .inr (by rw [cb]; exact s1.free np')
      · rw [upd_ne cb] at hb
        exact fr b o hb
    | @turn p j v x e r =>
      simp only [Tr.knots] at kn k100
      refine ⟨_, rfl, p, _, _, _, rfl, rfl, SqT.of (sG _ _ e), rfl, ?_⟩
      (refine ⟨_, rfl, rfl, _, rfl, ?_⟩; rw [str_ne (by decide +kernel)]; refine iteF ?_)
      (refine ⟨_, rfl, rfl, _, rfl, ?_⟩; rw [str_ne (by decide +kernel)]; refine iteF ?_)
      (refine ⟨_, rfl, rfl, _, rfl, ?_⟩; rw [str_ne (by decide +kernel)]; refine iteF ?_)
      (refine ⟨_, rfl, rfl, _, rfl, ?_⟩; rw [str_ne (by decide +kernel)]; refine iteF ?_)
      refine ⟨_, rfl, _, rfl, p, _, _, _, rfl, rfl, SqT.of (sG _ _ e), rfl, _, rfl, p, _, _, _, rfl, rfl, SqT.of (sG _ _ e), rfl, _, rfl, _, rfl, ?_⟩
      refine ⟨v, gv, m, x, g, G, rfl, sG, r, hg, by omega, by omega, nl, fun v' H' G' s1 g1 g2 fr h' => ?_⟩
      refine ⟨(by show 3 ≤ sizeLine; decide), fun p' np' => ?_⟩
      have gn := sub_no g1 np'
      refine q _ _ (upd G' p' (.tup [.str "turn", .str j, v'])) (s1.trans (same_new np' _)) (upd_both g1) (g2.trans (same_new gn _)) (fun b o hb => ?_) (.turn upd_same (TrAt.same (same_new gn _) _ _ h'))
      by_cases cb : b = p'
      · exact .inr (by rw [cb]; exact s1.free np')
      · rw [upd_ne cb] at hb
        exact fr b o hb
end
end Wp

/-! try with several clauses 'except x as n' -/
namespace Hx
open PySem PySem.Spec PyProof.Rows L2
/-- what is wished behind a clause's suite: the name is gone -/
def Gone (i : Nat) (D : Ends) : Ends := { nx := fun σ' H' => D.nx (σ'.set i none) H', rt := D.rt, bk := fun σ' H' => D.bk (σ'.set i none) H', ct := fun σ' H' => D.ct (σ'.set i none) H' }
def wClauses (K : PySem.W.Frag) (i : Nat) (Wout : WX) (D : Ends) : List (Value × (Addr → Value → Option Addr → TS)) → WX
  | [] => Wout
  | (c, ts) :: r => fun cls d σ H => ∃ b, PySem.W.exmOne K cls c = some b ∧ (b = true → ∀ a, H a = none → i < σ.length → ts a cls d (Gone i D) (σ.set i (some (.ref a))) H) ∧ (b = false → wClauses K i Wout D r cls d σ H)
inductive Clauses (X : Cx) (n : Str) : List ExceptHandler → List (Value × (Addr → Value → Option Addr → TS)) → Prop
  | nil : Clauses X n [] []
  | cons {x : Str} {c : Value} {ts : Addr → Value → Option Addr → TS} {b₀ : Stmt} {suite : List Stmt} {np pos' : Pos} {hds : List ExceptHandler} {l : List (Value × (Addr → Value → Option Addr → TS))} (hc : Names X x c)
      (hsu : ∀ (a : Addr) (oe : Obj) (cls : Value) (d : Option Addr) (pn : List (Addr × Obj)), Zc cls d oe → (∃ vs, oe.data = .fields vs) → PSs (X.suite a ((a, oe) :: pn)) (b₀ :: suite) (ts a cls d)) (r : Clauses X n hds l) :
      Clauses X n (.ExceptHandler (some (.Name x np)) (some n) (b₀ :: suite) pos' :: hds) ((c, ts) :: l)
section
variable {X : Cx} {n : Str} {i : Nat} {body : List Stmt} {h₀ : ExceptHandler} {hds : List ExceptHandler} {l : List (Value × (Addr → Value → Option Addr → TS))} {pos : Pos} {tb : WX → TS} {Wout : WX}
theorem ps_try_clauses (hs : X.stack = X.env :: X.outer) (hf : X.env.frame = some X.env.locals) (hN : X.N.Nodup) (hi : X.N[i]? = some n) (hln : X.env.kindOf n = some .local) (tk : Takes X Wout)
    (hb : ∀ (W : WX) (pn : List (Addr × Obj)) (xe : Value → Shared → Prop), Takes (X.tr pn xe) W → PassesOwn (model X.prog X.w) X.A X.env xe → PSs (X.tr pn xe) body (tb W))
    (hh : Clauses X n (h₀ :: hds) l) : PS X (.Try body (h₀ :: hds) [] [] pos) (fun D σ H => tb (wClauses X.K i Wout D l) D σ H) := by
  constructor
  intro pins s σ H D I h
  have ok := I.ok
  have frames : X.A.frames = some (X.env :: X.outer) := by rw [ok.frames, hs]
  have loc : Loc X.env.scope n := .inl hln
  refine wpAny_Try_except ?_
  refine wpAny_mono ((hb (wClauses X.K i Wout D l) (X.pn ++ pins) (fun e s₁ => wpAny (model X.prog X.w) X.A (noteFrame e X.env) (fun _ s₂ => wpAny (model X.prog X.w) X.A (setFlight e none) (fun _ s₃ =>
    wpAny (model X.prog X.w) X.A (handleBy e X.env (h₀ :: hds)) (SP X pins D) X.xe s₃) X.xe s₂) X.xe s₁) (fun u s' xx => ?_) PassesOwn.looking).run [] s σ H D (I.toTry _) h) (fun f s1 hsp => ?_) (fun e s1 he => he)
  case refine_2 =>
    cases f with
    | next => obtain ⟨σ', H', J', q⟩ := hsp; exact wpAny_execs_nil ⟨σ', H', J'.ofTry ok, q⟩
    | brk => obtain ⟨σ', H', J', q⟩ := hsp; exact ⟨σ', H', J'.ofTry ok, q⟩
    | cont => obtain ⟨σ', H', J', q⟩ := hsp; exact ⟨σ', H', J'.ofTry ok, q⟩
    | ret u => obtain ⟨v, σ', H', J', r, q⟩ := hsp; exact ⟨v, σ', H', J'.ofTry ok, r, q⟩
  obtain ⟨a, B, sI, pins', σ', H', cls, d, rfl, J', nb, up, sky, na, os, ag, w⟩ := xx
  have J : Inv X pins σ' H' sI := J'.ofTry ok
  have sky' : Sky B (X.env :: X.outer) a (Zc cls d) X.env.locals s'.heap := by rw [← hs]; exact sky
  show wpAny (model X.prog X.w) X.A (noteFrame (.ref a) X.env) _ _ _
  refine Sky.land Zc.steady frames hf sky' fun h3 fl3 up3 => ?_
  have J3 : Inv X pins σ' H' { s' with heap := h3 } := J.landed nb fl3.1 (up.trans up3) os ag
  obtain ⟨oe3, vs3, he3, hz3, hd3⟩ := fl3.there
  have off : a ∉ frs (X.env :: X.outer) := fun hm => by
    obtain ⟨_, o', e', hnf⟩ := fl3.2.2.1.mem hm
    rw [he3] at e'
    cases e'
    exact hnf _ hd3
  have offL : a ≠ X.env.locals := fun z => off (List.mem_filterMap.mpr ⟨X.env, List.mem_cons_self, by rw [hf, z]⟩)
  have offF : a ∉ X.fs := fun hm => by
    obtain ⟨e, he, q⟩ := List.mem_filterMap.mp hm
    exact off (List.mem_filterMap.mpr ⟨e, List.mem_cons_of_mem _ he, q⟩)
  have S3 := J3.suite he3 hd3 na offL offF
  have go : ∀ {hds' : List ExceptHandler} {l' : List (Value × (Addr → Value → Option Addr → TS))}, Clauses X n hds' l' → wClauses X.K i Wout D l' cls d σ' H' →
      wpAny (model X.prog X.w) X.A (handleBy (.ref a) X.env hds') (SP X pins D) X.xe { s' with heap := h3 } := by
    intro hds' l' hk
    induction hk with
    | nil =>
      intro w
      refine wpAny_handleBy_nil ?_
      obtain ⟨k1, k2, k3, oe, vs, T, oT, ts', he, hz, hd, h1, hr⟩ := id fl3
      unfold PySem.passOn
      refine wpAny_bind (wpAny_field he hd h1 ?_)
      rw [if_neg (show ¬ ((Value.ref T == Value.none) = true) from by simp)]
      have away : wpAny (model X.prog X.w) X.A (setFlight (.ref a) X.env.frame) (fun _ s4 => wpAny (model X.prog X.w) X.A (throw (.ref a) : Sem Flow) (SP X pins D) X.xe s4) X.xe { s' with heap := h3 } := by
        rw [hf]
        refine HandSPX.setFlight_upZ fl3 fun h4 hh4 up4 => wpAny_throw (tk _ _ ?_)
        exact ⟨a, B, sI, pins, σ', H', cls, d, rfl, J, nb, (up.trans up3).trans up4, .inr (.inr (by rw [hs]; exact hh4)), na, os, ag, w⟩
      first
        | exact wpAny_bind (wpAny_pure (wpAny_bind away))
        | exact wpAny_bind away
    | @cons x c ts b₀ suite np pos' hds2 l2 hc hsu r ih =>
      intro w
      obtain ⟨b, hb1, yes, no⟩ := w
      refine wpAny_handleBy_cons (codeAny_handlers_test ?_) (by intro q; cases q)
      have LT : PySem.W.Looks (model X.prog X.w) h3 (typeOf (.ref a)) cls := fun A Q E s k q => wpAny_typeOf_ref (k _ _ he3) (by rw [hz3.1]; exact q)
      have LM := PySem.W.exm_one (M := model X.prog X.w) (J3.kIn) LT hb1
      have test : ∀ {Q : Value → Shared → Prop} {E : Value → Shared → Prop}, Q c { s' with heap := h3 } → wpAny (model X.prog X.w) (X.A.mark (some (.ref a))) (eval (.Name x np) X.env) Q E { s' with heap := h3 } := fun {Q E} q => by
        obtain ⟨hg, hdbg, hm | ⟨hm, hv, hnn⟩⟩ := hc
        · exact ld_glob (X := X.suite a ((a, oe3) :: (X.pn ++ pins))) S3 hg hm q hdbg
        · exact ld_blt (X := X.suite a ((a, oe3) :: (X.pn ++ pins))) S3 hg hm hv q hnn hdbg
      refine test (LM.here ?_)
      cases b with
      | false =>
        show wpAny _ X.A (handleBy (.ref a) X.env hds2) _ _ _
        exact ih (no rfl)
      | true =>
        refine codeAny_handlers_suite_as ?_
        refine HandSPX.lands_againZ fl3 fun h4 fl4 up4 => ?_
        have J4 : Inv X pins σ' H' { s' with heap := h4 } := J.landed nb fl4.1 ((up.trans up3).trans up4) os ag
        obtain ⟨oe4, vs4, he4, hz4, hd4⟩ := fl4.there
        have S4 := J4.suite he4 hd4 na offL offF
        refine store_ok (X := X.suite a ((a, oe4) :: (X.pn ++ pins))) (v := .ref a) S4 hN hi loc rfl (fun s5 S5 => ?_) (.inr hln)
        refine wpAny_mono ((hsu a oe4 cls d (X.pn ++ pins) hz4 ⟨_, hd4⟩).run [] s5 _ H' _ S5 (yes rfl a na (by rw [J.len]; exact (List.getElem?_eq_some_iff.mp hi).1))) (fun f s6 hsp => ?_) (fun _ _ z => False.elim z)
        have last : ∀ {σ6 : L2.St} {H6 : Hp} {Q : Shared → Prop}, Inv (X.suite a ((a, oe4) :: (X.pn ++ pins))) [] σ6 H6 s6 → (∀ s7, Inv X pins (σ6.set i none) H6 s7 → Q s7) →
            wpAny (model X.prog X.w) X.A (do bindName X.env n .none; unbindBehindTheSuite X.env n pos') (fun _ s7 => Q s7) X.xe s6 := fun {σ6 H6 Q} S6 hq => gone_ok (S6.unsuite ok) hN hi hln hq
        cases f with
        | next => obtain ⟨σ6, H6, S6, q6⟩ := hsp; exact last S6 fun s7 J7 => ⟨_, _, J7, q6⟩
        | brk => obtain ⟨σ6, H6, S6, q6⟩ := hsp; exact last S6 fun s7 J7 => ⟨_, _, J7, q6⟩
        | cont => obtain ⟨σ6, H6, S6, q6⟩ := hsp; exact last S6 fun s7 J7 => ⟨_, _, J7, q6⟩
        | ret u => obtain ⟨v6, σ6, H6, S6, r6, q6⟩ := hsp; exact last S6 fun s7 J7 => ⟨_, _, _, J7, r6, q6⟩
  exact go hh w
end
end Hx

/-! a def that calls what it gets, and tells an error by its name and the repr of what it was given -/
namespace Hx
open PySem PySem.Spec PyProof.Rows L2 LamX
/-- the classes of errors of its clauses -/
structure ExcX (K : PySem.W.Frag) (mg : Str → Option Value) (L : List (Str × Addr)) : Prop where
  xf : ∀ p ∈ L, XfC K p.2
  no : ∀ p ∈ L, PySem.W.findIn K (.ref p.2) "given" = some none
  m : ∀ p ∈ L, mg p.1 = some (.ref p.2)
  exm : ∀ p ∈ L, ∀ r ∈ L, PySem.W.exmOne K (.ref p.2) (.ref r.2) = some (decide (p.1 = r.1))
  db : ∀ p ∈ L, (p.1 == ("__debug__" : Str)) = false
inductive HdsL : List Str → List ExceptHandler → Prop
  | nil : HdsL [] []
  | cons {nm : Str} {ns : List Str} {hds : List ExceptHandler} {p1 p2 p3 p4 p5 p6 p7 p8 p9 : Pos} {j k : Nat} : HdsL ns hds →
    HdsL (nm :: ns) (.ExceptHandler (some (.Name nm p1)) (some "e") [.Return (some (.Tuple [.Constant (.str nm) j p2, .Call (.Name "repr" p3) [.Attribute (.Name "e" p4) "given" p5] [] p6] k p7)) p8] p9 :: hds)
def tsOf (i : Nat) (p : Str × Addr) (a : Addr) (cls : Value) (d : Option Addr) : TS := tRet (tTup (tCons (tC (.str p.1)) (tCons (tCB rReprL (tCons (tXf a cls d p.2 "given" (tVar i)) tNil)) tNil)))
theorem clauses_of {X : Cx} {i : Nat} {L : List (Str × Addr)} (EX : ExcX X.K X.mg L) (gl : ∀ p ∈ L, Gl X p.1) (gr : Gl X "repr") (mr : X.mg "repr" = none) (hi : X.N[i]? = some ("e" : Str)) (hv : Vis X.env.scope "e")
    (gd : X.A.guards = some []) (hu : X.A.units + 64 < cLine) (hm : Mods X.base) :
    ∀ {M : List (Str × Addr)} {hds : List ExceptHandler}, (∀ p ∈ M, p ∈ L) → HdsL (M.map (·.1)) hds → Clauses X "e" hds (M.map fun p => (Value.ref p.2, tsOf i p)) := by
  intro M
  induction M with
  | nil =>
    intro hds _ h
    cases h
    exact .nil
  | cons p M ih =>
    intro hds sub h
    have hp := sub p List.mem_cons_self
    cases h with
    | cons r =>
      refine .cons ⟨gl p hp, EX.db p hp, .inl (EX.m p hp)⟩ (fun a oe cls d pn hz hd => ?_) (ih (fun q hq => sub q (List.mem_cons_of_mem _ hq)) r)
      exact pss_one (ps_ret (pe_tup (pa_cons pe_str (pa_cons (pe_callB (call_reprL gd hu hm) gr mr PyProof.Rows.boot_repr (pa_cons (pe_xf (EX.xf p hp) (EX.no p hp) hz hd (pe_var (i := i) hi hv)) pa_nil)) pa_nil))))
/-- an error that is told: what it was given is small data -/
def CaughtE (L : List (Str × Addr)) (Q : VK) : XK := fun cls d H' => ∃ (p : Str × Addr) (dd : Addr) (v : V) (dt : PyData), p ∈ L ∧ cls = .ref p.2 ∧ d = some dd ∧ H' dd = some (.xd [("given", v)]) ∧ Dq H' v dt ∧ dt.showable = true ∧ dt.depth ≤ 20 ∧ dt.shown.length ≤ sizeLine ∧
  ∀ q, H' q = none → Q (.ref q) (upd H' q (.tup [.str p.1, .str dt.shown]))
def TCaught (L : List (Str × Addr)) : (XK → Hp → VK → Prop) → Hp → VK → Prop := fun tl H Q => tl (CaughtE L Q) H fun v H' => ∃ x, some (some v) = some (some x) ∧ ([V.str "told", x].length ≤ sizeLine ∧ ∀ q, H' q = none → Q (.ref q) (upd H' q (.tup [.str "told", x])))
theorem caught_w {K : PySem.W.Frag} {mg : Str → Option Value} {L : List (Str × Addr)} (EX : ExcX K mg L) {i : Nat} {D : Ends} {Wout : WX} {cls : Value} {d : Option Addr} {σ : L2.St} {H : Hp} (h : CaughtE L D.rt cls d H) :
    ∀ {M : List (Str × Addr)}, (∀ p ∈ M, p ∈ L) → (∃ p ∈ M, cls = .ref p.2) → wClauses K i Wout D (M.map fun p => (Value.ref p.2, tsOf i p)) cls d σ H := by
  obtain ⟨p, dd, v, dt, hp, rfl, rfl, hd, hv, s1, s2, s3, q⟩ := h
  intro M
  induction M with
  | nil =>
    rintro _ ⟨r, hr, _⟩
    cases hr
  | cons r M ih =>
    rintro sub ⟨x, hx, ex⟩
    have hr := sub r List.mem_cons_self
    refine ⟨_, EX.exm p hp r hr, fun c a na hi => ?_, fun c => ?_⟩
    · have e1 : p.1 = r.1 := of_decide_eq_true c
      have e2 : p.2 = r.2 := by
        exact Value.ref.inj (Option.some.inj ((EX.m p hp).symm.trans (by rw [e1]; exact EX.m r hr)))
      refine ⟨.ref a, ?_, rfl, by rw [e2], dd, _, v, rfl, hd, rfl, v, dt, rfl, hv, s1, s2, s3, (by show 2 ≤ sizeLine; decide), fun q' hq' => ?_⟩
      · rw [List.getElem?_set_self hi]
      · rw [← e1]
        exact q q' hq'
    · refine ih (fun y hy => sub y (List.mem_cons_of_mem _ hy)) ?_
      rcases List.mem_cons.mp hx with rfl | hx
      · have e1 : p.1 = x.1 := by
          have hx' := sub x List.mem_cons_self
          have e3 := EX.exm p hp x hx'
          have e4 : p.2 = x.2 := Value.ref.inj ex
          have e5 := EX.exm x hx' x hx'
          rw [← e4] at e5 e3
          rw [e3] at e5
          have e6 := Option.some.inj e5
          rw [c] at e6
          simp at e6
        rw [decide_eq_true e1] at c
        cases c
      · exact ⟨x, hx, ex⟩
/-- try: told = act() / except C as e: return (name, repr(e.given)) .. / return ('told', told) -/
theorem caught_gives {X : Cx} {L : List (Str × Addr)} {Ng : List Str} {x a q : Str} {sg : Scope} {g : Addr} {cdg : Value} {h₀ : ExceptHandler} {hds : List ExceptHandler} {p1 p2 p3 p4 p5 p6 p7 p8 p9 : Pos} {j k : Nat}
    (EX : ExcX X.K X.mg L) (hNd : Ng.Nodup) (hN : Ng = [a, "_law_told", "e"]) (hL : HdsL (L.map (·.1)) (h₀ :: hds)) (gl : ∀ p ∈ L, sg.names.lookup p.1 = some .globalImplicit) (gr : sg.names.lookup ("repr" : Str) = some .globalImplicit) (mr : X.mg "repr" = none)
    (lt : sg.names.lookup ("_law_told" : Str) = some .local) (le : sg.names.lookup ("e" : Str) = some .local) (gd : X.A.guards = some []) (hm : Mods X.base)
    (hu : ∀ (s : Shared), (X.A.deeper (envOfC x sg s.heap.objs.size g cdg)).units + 64 < cLine) :
    GivesTo X Ng x sg g cdg [.Try [.Assign [.Name "_law_told" p1] (.Call (.Name a p2) [] [] p3) p4] (h₀ :: hds) [] [] p5, .Return (some (.Tuple [.Constant (.str "told") j p6, .Name "_law_told" p7] k p8)) p9] a q (TCaught L) := by
  subst hN
  intro f c' s H Q tl act hc h
  let X' := (cxOf C8.CX0 X.prog X.w X.K X.mg X.base [a, "_law_told", "e"] x sg g cdg X.A X.stack s H C8.E0).nox
  have cl : Clauses X' "e" (h₀ :: hds) (L.map fun p => (Value.ref p.2, tsOf 2 p)) :=
    clauses_of (X := X') EX gl gr mr rfl (.inl le) gd (hu s) hm (fun _ h => h) hL
  refine ⟨_, pss_cons (ps_try_clauses (X := X') (i := 2) (n := "e")
      (tb := fun W D σ H => ∃ Ech : XK, (∀ cls d σ' H', Ech cls d H' → W cls d σ' H') ∧ σ[0]? = some (some (.ref f)) ∧ H c' = some (CodeO c' q) ∧ tl Ech H fun v H1 => D.nx (σ.set 1 (some v)) H1)
      rfl rfl hNd rfl le LamX.takes0 (fun W pn xe tk _ => ?_) cl) (pss_one (ps_ret (pe_tup (pa_cons pe_str (pa_cons (pe_var (i := 1) rfl (.inl lt)) pa_nil))))), ?_⟩
  · refine ⟨fun pins s' σ H' D I h' => ?_⟩
    obtain ⟨Ech, hW, h1, h2, h3⟩ := h'
    have hp := act W pn xe Ech p2 p3 tk hW
    have hq := pss_one (ps_set (i := 1) (pos := p4) (pos' := p1) hNd rfl (Or.inl lt) hp)
    exact hq.run pins s' σ H' D I ⟨h1, h2, h3⟩
  · exact ⟨CaughtE L Q, fun cls d σ' H' hE => caught_w EX hE (fun _ h => h) (by obtain ⟨p, dd, v, dt, hp, e, _⟩ := hE; exact ⟨p, hp, e⟩), rfl, hc, h⟩
end Hx

/-! what stays; lambdas of the law -/
namespace Wp
open PySem PySem.Spec PyProof.Rows L2 Hx LamX
def isTbl : HO → Bool
  | .tbl _ => true
  | _ => false
/-- all but the deck and the tables -/
def bare (d : Addr) (H : Hp) : Hp := fun b => if b = d then none else (H b).bind fun o => if isTbl o = true then none else some o
theorem bare_some {d b : Addr} {H : Hp} {o : HO} (h : bare d H b = some o) : b ≠ d ∧ isTbl o = false ∧ H b = some o := by
  unfold bare at h
  by_cases c : b = d
  · rw [if_pos c] at h
    cases h
  · rw [if_neg c] at h
    cases e : H b with
    | none => rw [e] at h; cases h
    | some u =>
      rw [e] at h
      simp only [Option.bind_some] at h
      by_cases g : isTbl u = true
      · rw [if_pos g] at h
        cases h
      · rw [if_neg g] at h
        cases h
        exact ⟨c, by simpa using g, rfl⟩
theorem bare_at {d b : Addr} {H : Hp} {o : HO} (n : b ≠ d) (t : isTbl o = false) (h : H b = some o) : bare d H b = some o := by
  unfold bare
  rw [if_neg n, h]
  simp only [Option.bind_some]
  rw [t]
  rfl
theorem bare_same {d : Addr} {H : Hp} : Same (bare d H) H := fun b o h => (bare_some h).2.2
/-- what stays of H -/
def Kp (d : Addr) (H H' : Hp) : Prop := ∀ b o, b ≠ d → isTbl o = false → H b = some o → H' b = some o
theorem Kp.refl {d : Addr} {H : Hp} : Kp d H H := fun _ _ _ _ h => h
theorem Kp.trans {d : Addr} {H H1 H2 : Hp} (a : Kp d H H1) (b : Kp d H1 H2) : Kp d H H2 := fun c o n t h => b c o n t (a c o n t h)
theorem Kp.but {d : Addr} {H H' : Hp} (b : But d H H') : Kp d H H' := fun c o n _ h => b c o n h
theorem Kp.same {d : Addr} {H H' : Hp} (s : Same H H') : Kp d H H' := fun c o _ _ h => s c o h
theorem Kp.ext {d : Addr} {H H' : Hp} (e : ExtN H H') : Kp d H H' := fun c o _ t h => e c o h fun ps z => by
  rw [z] at t
  cases t
theorem Kp.bare {d : Addr} {H H' : Hp} (k : Kp d H H') : Same (bare d H) (bare d H') := fun b o h => by
  obtain ⟨n, t, e⟩ := bare_some h
  exact bare_at n t (k b o n t e)
/-- a datum whose repr may be compared -/
structure Fits (d : PyData) : Prop where
  s : d.showable = true
  dep : d.depth ≤ 20
  len : d.shown.length ≤ 100000
  ok : PyData.strOk d.shown = true
theorem Fits.line {d : PyData} (h : Fits d) : d.shown.length ≤ sizeLine := Nat.le_trans h.len (by decide)
theorem tabs_but {T : List (Addr × Str)} {H H' : Hp} {d : Addr} {xs : List V} (t : Tabs T H) (hd : H d = some (.lst xs)) (b : But d H H') : Tabs T H' := fun p hp => by
  obtain ⟨ps, h1, h2, h3⟩ := t p hp
  refine ⟨ps, b _ _ (fun z => ?_) h1, h2, fun pos cv hc => ?_⟩
  · rw [z, hd] at h1
    cases h1
  · obtain ⟨c, e1, e2⟩ := h3 pos cv hc
    refine ⟨c, e1, b _ _ (fun z => ?_) e2⟩
    rw [z, hd] at e2
    cases e2
theorem Kp.late {d l : Addr} {H Ha Hb : Hp} {o1 o2 : HO} (k : Kp d H Ha) (na : Ha l = none) (k2 : Kp d (upd Ha l o1) Hb) : Kp d H (upd Hb l o2) := fun b o n t h => by
  have e := k b o n t h
  have nl := ne_of_none e na
  rw [upd_ne nl]
  exact k2 b o n t (by rw [upd_ne nl]; exact e)
theorem name_seq {i : Nat} {x : V} {t u : TS} {D : Ends} {r : VK} {b e : L2.St → Hp → Prop} {σ : L2.St} {H : Hp} (h : tSeq t u D (σ.set i (some x)) H) : gName i x σ H (Ends.nx { nx := tSeq t u D, rt := r, bk := b, ct := e }) := h
theorem shaped2 {x y : Str} (hx : PyData.strOk x = true) (hy : PyData.strOk y = true) : SeqAt.shaped (.tuple [.str x, .str y]) = true := by
  show ((PyData.strOk x && (PyData.strOk y && true)) && decide (max 0 (max 0 0) + 1 ≤ 64)) = true
  rw [hx, hy]
  rfl
/-- a new object, and all that was there -/
theorem born_same {H H' : Hp} {a dx : Addr} {o1 o2 : HO} (na : H a = none) (nd : H dx = none) (b : But a (upd (upd H dx o1) a o2) H') : Same H H' := fun c o h => by
  have n1 := ne_of_none h na
  have n2 := ne_of_none h nd
  refine b c o n1 ?_
  rw [upd_ne n1, upd_ne n2]
  exact h
theorem born_same0 {H : Hp} {a dx : Addr} {o1 o2 : HO} (na : H a = none) (nd : H dx = none) : Same H (upd (upd H dx o1) a o2) := fun c o h => by
  rw [upd_ne (ne_of_none h na), upd_ne (ne_of_none h nd)]
  exact h
theorem seq_of {t : TS} {u : TS} {D : Ends} {σ : L2.St} {H : Hp} (J : L2.St → Hp → Prop) (hu : ∀ σ' H', J σ' H' → u D σ' H') (ht : ∀ N, (∀ σ' H', J σ' H' → N σ' H') → t { D with nx := N } σ H) : tSeq t u D σ H := ht _ hu
/-- a def whose code object is the one at c -/
structure FunC (K : PySem.W.Frag) (x qual : Str) (st : Stmt) (f : Addr) (fd : FuncData) (c : Addr) : Prop where
  ex : ∃ (oc : Value) (od : Option Addr) (kV doc pm : Value) (an : Option Addr) (ct : Value) (osl : Array (Option Value)),
    fd = PySem.W.fnOf x qual (defArgs st) (defBody st) (defScope st) .none kV doc pm an (.ref c) ct ∧ K.lookup f = some ⟨oc, od, .func fd, osl⟩ ∧ PySem.W.codeIn K (.ref c) qual = true
  kp : PySem.W.keepIn K (.ref f) = true
section
variable {P : Program} {w : World} {K : PySem.W.Frag} {mg : Str → Option Value} {base : Heap} {k : Nat} {f c : Addr} {fd : FuncData} {ps : List Str} {sp : Sp}
theorem FunC.fn {x qual : Str} {st : Stmt} (F : FunC K x qual st f fd c) : Fun K x qual st f fd := by
  obtain ⟨oc, od, kV, doc, pm, an, ct, osl, h⟩ := F.ex
  exact ⟨⟨oc, od, kV, doc, pm, an, _, ct, osl, h⟩, F.kp⟩
/-- no exception leaves the def; it makes lambdas -/
theorem gokC {x qual : Str} {st : Stmt} {N : List Str} (F : FunC K x qual st f fd c) (S : FnScope N ps (defScope st))
    (long : ∀ vs H Q E, sp vs H Q E → vs.length = ps.length)
    (body : ∀ (A : Around) (outer : List Env) (s : Shared) (H : Hp) (vs : List V) (Q : VK) (E : XK),
      Room k (A.deeper (envOfC qual (defScope st) s.heap.objs.size f (.ref c))) → A.guards = some [] → sp vs H Q E →
      ∃ t, PSs (cxOf CX0 P w K mg base N qual (defScope st) f (.ref c) A outer s H E).nox (defBody st) t ∧
        t { nx := fun _ H' => Q .non H', rt := Q } (L2.start N vs) H) :
    GOk P w K mg base CX0 (k + 1) f fd ps sp := by
  obtain ⟨oc, od, kV, doc, pm, an, ct, osl, efd, hlook, hcode⟩ := F.ex
  subst efd
  constructor
  · exact long
  · intro A outer s H args us vs Q E room gd e0 hbind rel hsp
    have inK : K.In s.heap := e0.mod.kin.keeps fun b o h => (e0.bs b o h).1
    have noLim : s.heap.NoLimit := e0.mod.nolimit.keeps fun b o h => (e0.bs b o h).1
    refine codeAny_call_function room.depth (inK _ _ hlook) rfl S.co S.gen rfl (PySem.W.codeRec_of inK hcode) (hbind _ _ _ _ ?_)
    refine wpAny_newFunctionEnv_cells S.kind ?kinds fun env henv s1 inside => ?_
    case kinds =>
      rintro ⟨nm, val⟩ hm
      have hp := (List.of_mem_zip hm).1
      cases S.par nm hp with
      | inl hl => exact .inl hl
      | inr hc => exact .inr ⟨hc, PySem.W.cellsFrom_some _ _ _ (.inl hc)⟩
    subst henv
    refine ⟨noLim.keeps inside.toInCall.keep, codeAny_func ?_⟩
    obtain ⟨t, ht, hq⟩ := body A outer s H vs Q E (room.deeper _) gd hsp
    have I0 := inv_start (CX := CX0) (E := E) S room.hd e0 (long _ _ _ _ hsp) rel inside
    refine wpAny_mono (ht.nox.run [] s1 (L2.start N vs) H _ I0 hq) ?_ (fun _ _ z => z)
    intro fl s' hfl
    cases fl with
    | ret u =>
      obtain ⟨v, _, H', J, rv, q⟩ := hfl
      exact ⟨v, H', J.os, J.bare, J.base, J.hok, rv, q⟩
    | next =>
      obtain ⟨_, H', J, q⟩ := hfl
      exact ⟨V.non, H', J.os, J.bare, J.base, J.hok, rfl, q⟩
    | brk => exact hfl.elim fun _ z => z.elim fun _ z => z.2.elim
    | cont => exact hfl.elim fun _ z => z.elim fun _ z => z.2.elim
end

/-- a method of the class that is met there -/
structure MethBy (P : Program) (w : World) (K : PySem.W.Frag) (mg : Str → Option Value) (base : Heap) (k : Nat) (C : Addr) (m : Str) (ps : List Str) (sp : Sp) (ks : List Str) (g : List Value → List Value → List Value) (gV : List V → List V → List V) : Prop where
  cls : Cls K C
  go : ∃ (f : Addr) (fd : FuncData), Meth K C m f ∧ FnOk P w K mg base (L2.CX P w) k f fd ps sp ∧ Binds K fd ps [] ∧ KBinds K fd ps ks g gV
section
variable {X : Cx} {k : Nat} {m : Str} {ps : List Str} {sp : Sp} {E : XK} {ks : List Str} {g : List Value → List Value → List Value} {gV : List V → List V → List V} {o e : Expr} {es : List Expr} {kws : List Keyword} {ta : TE} {t tk : TA} {pos apos : Pos}
def tMethA (P : Program) (w : World) (K : PySem.W.Frag) (mg : Str → Option Value) (base : Heap) (k : Nat) (m : Str) (ps : List Str) (sp : Sp) (ks : List Str) (g : List Value → List Value → List Value) (gV : List V → List V → List V) (E : XK) (ta : TE) (t : TA) : TE :=
  fun σ H Q => ta σ H fun x H1 => ∃ (a C dx : Addr) (fs : List (Str × V)), x = .ref a ∧ H1 a = some (.ins C dx fs) ∧ MethBy P w K mg base k C m ps sp ks g gV ∧ fs.lookup m = none ∧ t σ H1 fun vs H2 => sp (x :: vs) H2 Q E
def tMethAK (P : Program) (w : World) (K : PySem.W.Frag) (mg : Str → Option Value) (base : Heap) (k : Nat) (m : Str) (ps : List Str) (sp : Sp) (ks : List Str) (g : List Value → List Value → List Value) (gV : List V → List V → List V) (E : XK) (ta : TE) (t : TA) : TE :=
  fun σ H Q => ta σ H fun x H1 => ∃ (a C dx : Addr) (fs : List (Str × V)), x = .ref a ∧ H1 a = some (.ins C dx fs) ∧ MethBy P w K mg base k C m ps sp ks g gV ∧ fs.lookup m = none ∧ t σ H1 fun zs H2 => sp (gV [x] zs) H2 Q E
theorem pe_methA {pl : Sem Bool} (he : PE X o ta) (hr : Room k X.A) (hx : Passes (L2.CX X.prog X.w) X E) (ha : PA X (e :: es) t)
    (hst : starEach (e :: es) X.env = (false, eval e X.env) :: starEach es X.env := by rfl) (hpl : (backTo pos (starEach es X.env)).any (·.1) = false := by rfl)
    (ht : eval (.Call (.Attribute o m apos) (e :: es) [] pos) X.env = (do
      let ov ← eval o X.env
      standAt apos.atName
      let (f, first) ← holding [ov] (getMethod ov m pl)
      callWith pos f first (backTo pos (starEach (e :: es) X.env)) (backToKw pos (keywordEach [] X.env))) := by rfl) :
    PE X (.Call (.Attribute o m apos) (e :: es) [] pos) (tMethA X.prog X.w X.K X.mg X.base k m ps sp ks g gV E ta t) := by
  refine ⟨fun pins s σ H Q I h => ?_⟩
  refine PySem.W.methodCall_KW (pl := pl) (thn (he.run pins s σ H _ I h) fun u s1 ⟨x, H1, I1, rx, a, C, dx, fs, ex, ea, T, l, q⟩ => ?_) ht
  subst ex
  obtain rfl : u = Value.ref a := rx
  obtain ⟨f, fd, hm, F, hb, _⟩ := T.go
  refine getmeth_ok I1 ea T.cls hm l ?_
  refine PySem.W.callWith_K (first := [.ref a]) (h₀ := X.base) I.ok.mod.kin hm.kp (thn (ha.run pos pins s1 σ H1 _ I1 q) fun us s2 ⟨vs, H2, I2, r, q2⟩ => ⟨I2.kIn, ?_⟩) hst hpl
  exact run_fn (us := .ref a :: us) (vs := .ref a :: vs) (dvs := []) F hr hb .nil hx I2 (.cons rfl r) (by rw [List.append_nil]; exact q2)
theorem pe_methAK {pl : Sem Bool} (he : PE X o ta) (hr : Room k X.A) (hx : Passes (L2.CX X.prog X.w) X E) (hkw : PK X kws tk)
    (hall : (backToKw pos (keywordEach kws X.env)).all (·.1.isSome) = true := by rfl) (hks : (backToKw pos (keywordEach kws X.env)).filterMap (·.1) = ks := by rfl)
    (hpl : ((backTo pos (starEach [] X.env)).any (·.1) || (backToKw pos (keywordEach kws X.env)).any (·.1.isNone)) = false := by rfl)
    (ht : eval (.Call (.Attribute o m apos) [] kws pos) X.env = (do
      let ov ← eval o X.env
      standAt apos.atName
      let (f, first) ← holding [ov] (getMethod ov m pl)
      callWith pos f first (backTo pos (starEach [] X.env)) (backToKw pos (keywordEach kws X.env))) := by rfl) :
    PE X (.Call (.Attribute o m apos) [] kws pos) (tMethAK X.prog X.w X.K X.mg X.base k m ps sp ks g gV E ta tk) := by
  refine ⟨fun pins s σ H Q I h => ?_⟩
  refine PySem.W.methodCall_KW (pl := pl) (thn (he.run pins s σ H _ I h) fun u s1 ⟨x, H1, I1, rx, a, C, dx, fs, ex, ea, T, l, q⟩ => ?_) ht
  subst ex
  obtain rfl : u = Value.ref a := rx
  obtain ⟨f, fd, hm, F, _, hb⟩ := T.go
  refine getmeth_ok I1 ea T.cls hm l ?_
  refine PySem.W.callWith_KW0 (first := [.ref a]) (h₀ := X.base) I.ok.mod.kin hm.kp hall ?_ hpl
  refine thn (hkw.run pos pins s1 σ H1 _ I1 q) fun ws s2 ⟨zs, H2, I2, rz, q2⟩ => ⟨I2.kIn, ?_⟩
  rw [hks]
  exact run_fnk (us := [.ref a]) (vs := [.ref a]) F hr hb hx I2 (.cons rfl .nil) rz q2
end
end Wp

namespace Wp
open PySem PySem.Spec PyProof.Rows L2 Hx
/-! == of expressions -/
def spEqX (K : PySem.W.Frag) (CE CF : Addr) (cls : Addr → Prop) (C : Addr) : Sp := fun vs H Q _ => ∃ (a dx fa dfa : Addr) (fs gs : List (Str × V)) (z : Str) (y : V), vs = [.ref a, y] ∧ H a = some (.ins C dx fs) ∧ fs.lookup ("facts" : Str) = some (.ref fa) ∧ H fa = some (.ins CF dfa gs) ∧ gs.lookup ("text" : Str) = some (.str z) ∧
  ((NotExp K CE H y ∧ Q (.bl false) H) ∨ ∃ (a2 C2 dx2 fa2 dfa2 : Addr) (fs2 gs2 : List (Str × V)) (z2 : Str), y = .ref a2 ∧ cls C2 ∧ H a2 = some (.ins C2 dx2 fs2) ∧ fs2.lookup ("facts" : Str) = some (.ref fa2) ∧ H fa2 = some (.ins CF dfa2 gs2) ∧ gs2.lookup ("text" : Str) = some (.str z2) ∧
    Q (.bl (decide (z = z2))) H)
section
variable {P : Program} {w : World} {K : PySem.W.Frag} {mg : Str → Option Value} {base : Heap} {f C CF CE : Addr} {fd : FuncData} {st : Stmt} {x qual : Str} {p1 p2 p3 p4 p5 p6 p7 p8 p9 p10 p11 p12 p13 : Pos} {cls : Addr → Prop}
theorem ok_eqX (F : Fun K x qual st f fd) (S : FnScope ["self", "other"] ["self", "other"] (defScope st))
    (hb : defBody st = [.Return (some (.BoolOp .And [.Call (.Name "isinstance" p1) [.Name "other" p2, .Name "Expression" p3] [] p4, .Compare (.Attribute (.Attribute (.Name "self" p5) "facts" p6) "text" p7) [.Eq] [.Attribute (.Attribute (.Name "other" p8) "facts" p9) "text" p10] p11] p12)) p13])
    (v1 : Vis (defScope st) "self") (v2 : Vis (defScope st) "other") (g1 : ∀ n cdv, (envOfC qual (defScope st) n f cdv).kindOf "isinstance" = some .globalImplicit) (g2 : ∀ n cdv, (envOfC qual (defScope st) n f cdv).kindOf "Expression" = some .globalImplicit)
    (mi : mg "isinstance" = none) (mE : mg "Expression" = some (.ref CE)) (OW : ∀ C, cls C → Own K C) (ix : IsX K CE cls) (hC : cls C) (cF : Cls K CF) (nF : NoAttr K CF "text") : FnOk P w K mg base CX0 1 f fd ["self", "other"] (spEqX K CE CF cls C) := by
  refine F.ok S (fun vs H Q E h => ?_) (fun cdv A outer s H vs Q E hr h => ?_)
  · obtain ⟨a, dx, fa, dfa, fs, gs, z, y, rfl, _⟩ := h
    rfl
  obtain ⟨a, dx, fa, dfa, fs, gs, z, y, rfl, h1, h2, h3, h4, h⟩ := h
  rw [hb]
  refine ⟨_, pss_one (ps_ret (pe_and (pe_callB call_isi (g1 _ _) mi PyProof.Rows.boot_isinstance (pa_cons (pe_var (i := 1) rfl v2) (pa_cons (pe_gref (g2 _ _) mE) pa_nil)))
    (pe_one (pe_cmpR op_eq (pe_fld (pe_fld (pe_var (i := 0) rfl v1) rfl) rfl) (pe_fld (pe_fld (pe_var (i := 1) rfl v2) rfl) rfl) (nomark _))))), ?_⟩
  have O := OW C hC
  rcases h with ⟨⟨t, ty, k⟩, q⟩ | ⟨a2, C2, dx2, fa2, dfa2, fs2, gs2, z2, rfl, hC2, e1, e2, e3, e4, q⟩
  · exact ⟨_, rfl, _, _, t, _, false, rfl, .own CE, ty, k, _, rfl, iteF q⟩
  · obtain ⟨t, ty, k⟩ := ix H C2 a2 dx2 fs2 hC2 e1
    have O2 := OW C2 hC2
    refine ⟨_, rfl, _, _, t, _, true, rfl, .own CE, ty, k, _, rfl, iteT ?_⟩
    refine ⟨_, rfl, a, C, dx, fs, _, rfl, h1, O.cls, O.no, h2, fa, CF, dfa, gs, .str z, rfl, h3, cF, nF, h4, ?_⟩
    refine ⟨_, rfl, a2, C2, dx2, fs2, _, rfl, e1, O2.cls, O2.no, e2, fa2, CF, dfa2, gs2, .str z2, rfl, e3, cF, nF, e4, rfl, ?_⟩
    have e : decide (V.str z = V.str z2) = decide (z = z2) := by
      by_cases c : z = z2
      · rw [decide_eq_true c, decide_eq_true (congrArg V.str c)]
      · rw [str_ne c, decide_eq_false c]
    rw [e]
    exact q
end
def types6 : List String := ["NoneType", "bool", "int", "str", "list", "tuple"]
structure EqFacts (P : Program) (w : World) (K : PySem.W.Frag) (mg : Str → Option Value) (base : Heap) (CE CF : Addr) (cls : Addr → Prop) : Prop where
  nt : ∀ T ∈ types6, PySem.W.kitOne K (.type T) (.ref CE) = some false
  nf : ∀ C, cls C → ∀ T ∈ types6, PySem.W.notFirst K C (.type T) = true
  nc : ∀ C C2, cls C → cls C2 → PySem.W.notFirst K C (.ref C2) = true
  nb : ∀ C, cls C → PySem.W.findIn K (.ref C) "__bool__" = some none ∧ PySem.W.findIn K (.ref C) "__len__" = some none
  eq : ∀ C, cls C → EqAny P w K mg base 1 C (spEqX K CE CF cls C)
theorem right_ty {K : PySem.W.Frag} {H : Hp} {y : V} {T : String} (h : RightT H y (.type T)) : TyX K H y (.type T) := by
  cases h with
  | non => exact .base .non
  | bl b => exact .base (.bl b)
  | int i => exact .base (.int i)
  | str z => exact .base (.str z)
  | lst e => exact .base (.lst e)
  | tup e => exact .base (.tup e)
theorem RightT.same {H H' : Hp} {y : V} {t : Value} (h : RightT H y t) (s : Same H H') : RightT H' y t := by
  cases h with
  | non => exact .non
  | bl b => exact .bl b
  | int i => exact .int i
  | str z => exact .str z
  | lst e => exact .lst (s _ _ e)
  | tup e => exact .tup (s _ _ e)
  | ins e => exact .ins (s _ _ e)
/-- a value that is no expression -/
def Thing (H : Hp) (y : V) : Prop := ∃ T ∈ types6, RightT H y (.type T)
section
variable {P : Program} {w : World} {K : PySem.W.Frag} {mg : Str → Option Value} {base : Heap} {CE CF : Addr} {kc : KCls} {cls : Addr → Prop} {b : Int} {H : Hp} {v u : V} {t t2 : Tr}
/-- == of two expressions -/
theorem eq_two (T : EqFacts P w K mg base CE CF cls) (hv : ExAt CF kc cls b H v t) (hu : ExAt CF kc cls b H u t2) {Q : VK} (q : Q (.bl (decide (t.text b = t2.text b))) H) : rEqA P w K mg base 1 v u H Q := by
  cases hv with
  | @mk a1 in1 ls1 _ hx1 l1 k1 =>
  cases hu with
  | @mk a2 in2 ls2 _ hx2 l2 k2 =>
  obtain ⟨dx1, fa1, dfa1, pm1, pi1, pl1, hC1, h1, h2, h3, h4, h5⟩ := hx1
  obtain ⟨dx2, fa2, dfa2, pm2, pi2, pl2, hC2, g1, g2, g3, g4, g5⟩ := hx2
  exact ⟨a1, _, dx1, _, _, _, rfl, h1, T.eq _ hC1, .ins g1, T.nc _ _ hC1 hC2, a1, dx1, fa1, dfa1, _, _, t.text b, _, rfl, h1, rfl, h2, rfl, .inr ⟨a2, _, dx2, fa2, dfa2, _, _, t2.text b, rfl, hC2, g1, rfl, g2, rfl, _, rfl, q⟩⟩
theorem ne_two (T : EqFacts P w K mg base CE CF cls) (hv : ExAt CF kc cls b H v t) (hu : ExAt CF kc cls b H u t2) {Q : VK} (q : Q (.bl (!decide (t.text b = t2.text b))) H) : rNeA P w K mg base 1 v u H Q := by
  cases hv with
  | @mk a1 in1 ls1 _ hx1 l1 k1 =>
  cases hu with
  | @mk a2 in2 ls2 _ hx2 l2 k2 =>
  obtain ⟨dx1, fa1, dfa1, pm1, pi1, pl1, hC1, h1, h2, h3, h4, h5⟩ := hx1
  obtain ⟨dx2, fa2, dfa2, pm2, pi2, pl2, hC2, g1, g2, g3, g4, g5⟩ := hx2
  exact ⟨a1, _, dx1, _, _, _, rfl, h1, T.eq _ hC1, .ins g1, T.nc _ _ hC1 hC2, a1, dx1, fa1, dfa1, _, _, t.text b, _, rfl, h1, rfl, h2, rfl, .inr ⟨a2, _, dx2, fa2, dfa2, _, _, t2.text b, rfl, hC2, g1, rfl, g2, rfl, _, rfl, q⟩⟩
theorem eq_thing (T : EqFacts P w K mg base CE CF cls) (hv : ExAt CF kc cls b H v t) (hu : Thing H u) {Q : VK} (q : Q (.bl false) H) : rEqA P w K mg base 1 v u H Q := by
  cases hv with
  | @mk a1 in1 ls1 _ hx1 l1 k1 =>
  obtain ⟨dx1, fa1, dfa1, pm1, pi1, pl1, hC1, h1, h2, h3, h4, h5⟩ := hx1
  obtain ⟨ty, hty, r⟩ := hu
  exact ⟨a1, _, dx1, _, _, _, rfl, h1, T.eq _ hC1, r, T.nf _ hC1 _ hty, a1, dx1, fa1, dfa1, _, _, t.text b, _, rfl, h1, rfl, h2, rfl, .inl ⟨⟨_, right_ty r, T.nt _ hty⟩, _, rfl, q⟩⟩
theorem ne_thing (T : EqFacts P w K mg base CE CF cls) (hv : ExAt CF kc cls b H v t) (hu : Thing H u) {Q : VK} (q : Q (.bl true) H) : rNeA P w K mg base 1 v u H Q := by
  cases hv with
  | @mk a1 in1 ls1 _ hx1 l1 k1 =>
  obtain ⟨dx1, fa1, dfa1, pm1, pi1, pl1, hC1, h1, h2, h3, h4, h5⟩ := hx1
  obtain ⟨ty, hty, r⟩ := hu
  exact ⟨a1, _, dx1, _, _, _, rfl, h1, T.eq _ hC1, r, T.nf _ hC1 _ hty, a1, dx1, fa1, dfa1, _, _, t.text b, _, rfl, h1, rfl, h2, rfl, .inl ⟨⟨_, right_ty r, T.nt _ hty⟩, _, rfl, q⟩⟩
end
end Wp

namespace Wp
open PySem PySem.Spec PyProof.Rows L2 Hx LamX
def errs (Ce Cm Cn : Addr) : List (Str × Addr) := [("InvalidExpression", Ce), ("InvalidName", Cm), ("InvalidNumber", Cn)]
def NR : List Str := ["_law_deck_here", "_law_wide", "_law_letters", "_law_titles_here", "_law_tree_here", "_law_given", "_law_mine", "_law_mate", "_law_line", "_law_title", "_law_due", "_law_found", "_law_size", "_law_lines", "_law_odd", "_law_told"]
theorem scRight : FnScope NR ["_law_deck_here"] (defScope s_law_right) := ⟨rfl, rfl, rfl, by decide +kernel, rfl, by decide +kernel, by decide +kernel⟩
def NC : List Str := ["_law_act", "_law_told", "e"]
theorem scCaught : FnScope NC ["_law_act"] (defScope s_law_caught) := ⟨rfl, rfl, rfl, by decide +kernel, rfl, by decide +kernel, by decide +kernel⟩
def lamQ : Str := "_law_right" ++ ".<locals>." ++ "<lambda>"
def tabsOf (TP : Addr) : List (Addr × Str) := [(TP, lamQ)]
def gEx (us ws : List Value) : List Value := match us, ws with
  | [a], [o, n] => [a, n, o]
  | _, _ => []
def gExV (us ws : List V) : List V := match us, ws with
  | [a], [o, n] => [a, n, o]
  | _, _ => []
def types7 : List String := ["NoneType", "bool", "int", "str", "list", "tuple", "dict"]
/-- what the law's main def rests on, of the program -/
structure Defs (P : Program) (w : World) (K : PySem.W.Frag) (mg : Str → Option Value) (base : Heap) (CF CE Ce Cm Cn : Addr) (kc : KCls) (cls : Addr → Prop) (c TP : Addr) : Prop where
  add : ∀ C, cls C → BinOwn P w K mg base 9 C .Add (spAdd K CF CE Ce kc cls)
  rsh : ∀ C, cls C → BinOwn P w K mg base 9 C .RShift (spRsh K CF Cn kc cls)
  addR : ∀ C D, cls C → cls D → BinR K C .Add (.ref D)
  rshT : ∀ C, cls C → ∀ T ∈ types7, BinR K C .RShift (.type T)
  addT : ∀ C, cls C → ∀ T ∈ types7, BinR K C .Add (.type T)
  ex : ∀ C, cls C → MethBy P w K mg base 12 C "exchanged" ["self", "name", "other"] (spExIn K CF CE Cm Ce kc cls) ["other", "name"] gEx gExV
  nt : ∀ T ∈ types7, PySem.W.kitOne K (.type T) (.ref CE) = some false
  eq : EqFacts P w K mg base CE CF cls
  kl : Kls P w K mg base CF cls
  kd : Kinds K mg CE kc cls
  ix : IsX K CE cls
  caught : ∃ (g : Addr) (fd : FuncData), Fun K "_law_caught" "_law_caught" s_law_caught g fd ∧ Binds K fd ["_law_act"] [] ∧ mg "_law_caught" = some (.ref g)
  exc : ExcX K mg (errs Ce Cm Cn)
  tab : TabB base mg c TP
  mods : Mods base
  repr : mg "repr" = none
theorem deck_ne' {H : Hp} {d c : Addr} {o : HO} (hd : DeckAt H d) (h : H c = some o) (n : ∀ xs, o ≠ .lst xs) : c ≠ d := deck_ne hd h fun _ _ _ => n _
section
variable {X : Cx} {CF CE Ce Cm Cn c TP : Addr} {kc : KCls} {cls : Addr → Prop}
/-- _law_caught(lambda: e) in the law's main def -/
theorem pe_caught {params : Arguments} {body : Expr} {scope : Scope} {t : XK → TE} {p lpos pos : Pos} (D : Defs X.prog X.w X.K X.mg X.base CF CE Ce Cm Cn kc cls c TP) (hg : Gl X "_law_caught") (hq : X.env.qual ++ "<lambda>" = lamQ) (hcode : X.env.code = .ref c) (gd : X.A.guards = some [])
    (hr : Room 15 X.A) (L : LamS X.env.scope scope) (hdef : defaultsOf params X.env = ([], []))
    (hbind : ∀ (q : Str) (cl : List (Str × Addr)) (pm cv ctv : Value), bindArgs (PySem.W.kla_fn "<lambda>" q params body scope cl pm cv ctv) ⟨[], []⟩ = pure [])
    (hbody : ∀ (A : Around) (outer : List Env) (s : Shared) (H : Hp) (E : XK) (f c' : Addr), Room 13 (A.deeper (lamEnv X scope s.heap.objs.size f c')) → PE (lamCx X A outer s H E scope f c') body (t E)) :
    PE X (.Call (.Name "_law_caught" p) [.Lambda params body scope lpos] [] pos) (tLam (tabsOf TP) (TCaught (errs Ce Cm Cn)) t) := by
  obtain ⟨g, fd, F, bb, hm⟩ := D.caught
  obtain ⟨oc, od, kV, doc, pm, an, cdv, ct, osl, rfl, lk, hcd⟩ := F.ex
  refine pe_lamcall (a := "_law_act") (k := 13) hg hm F.kp lk hcd bb scCaught rfl (.inl rfl) ?_ D.tab hcode (by rw [hq]; exact List.mem_singleton.mpr rfl) (fun p hp _ => by rw [hq, List.mem_singleton.mp hp]) hr L hdef hbind hbody
  refine caught_gives D.exc scCaught.nd rfl (.cons (.cons (.cons .nil))) (fun p hp => ?_) rfl D.repr rfl rfl gd D.mods (fun s => ?_)
  · rcases List.mem_cons.mp hp with rfl | hp
    · rfl
    · rcases List.mem_cons.mp hp with rfl | hp
      · rfl
      · rw [List.mem_singleton.mp hp]
        rfl
  · have := (hr.deeper (envOfC "_law_caught" (defScope s_law_caught) s.heap.objs.size g cdv)).units
    exact this
end
section
variable {X : Cx} {P : Program} {w : World} {K : PySem.W.Frag} {mg : Str → Option Value} {base : Heap} {k : Nat} {op : Operator} {E : XK} {m : Str} {ps : List Str} {sp : Sp} {ks : List Str} {g : List Value → List Value → List Value} {gV : List V → List V → List V} {o e : Expr} {es : List Expr} {ta : TE} {t : TA} {pos apos : Pos}
theorem op_binL (h1 : X.prog = P) (h2 : X.w = w) (h3 : X.K = K) (h4 : X.mg = mg) (h5 : X.base = base) (hr : Room k X.A) (hx : Passes (L2.CX X.prog X.w) X E) : OpR X (binaryOp op) (rBinA P w K mg base k op E) := by
  subst h1 h2 h3 h4 h5
  exact op_binA hr hx
theorem pe_methL {pl : Sem Bool} (h1 : X.prog = P) (h2 : X.w = w) (h3 : X.K = K) (h4 : X.mg = mg) (h5 : X.base = base) (he : PE X o ta) (hr : Room k X.A) (hx : Passes (L2.CX X.prog X.w) X E) (ha : PA X (e :: es) t)
    (hst : starEach (e :: es) X.env = (false, eval e X.env) :: starEach es X.env := by rfl) (hpl : (backTo pos (starEach es X.env)).any (·.1) = false := by rfl)
    (ht : eval (.Call (.Attribute o m apos) (e :: es) [] pos) X.env = (do
      let ov ← eval o X.env
      standAt apos.atName
      let (f, first) ← holding [ov] (getMethod ov m pl)
      callWith pos f first (backTo pos (starEach (e :: es) X.env)) (backToKw pos (keywordEach [] X.env))) := by rfl) :
    PE X (.Call (.Attribute o m apos) (e :: es) [] pos) (tMethA P w K mg base k m ps sp ks g gV E ta t) := by
  subst h1 h2 h3 h4 h5
  exact pe_methA he hr hx ha hst hpl ht
end
def spRight (TP : Addr) : Sp := fun vs H Q _ => ∃ d, vs = [.ref d] ∧ DeckAt H d ∧ Tabs (tabsOf TP) H ∧ ∀ H', Kp d H H' → Tabs (tabsOf TP) H' → Q (.bl true) H'
theorem ExAt.parts {CF : Addr} {kc : KCls} {cls : Addr → Prop} {b : Int} {H : Hp} {v : V} {t : Tr} (hv : ExAt CF kc cls b H v t) : ∃ (a dx fa dfa pm pi pl : Addr), v = .ref a ∧ cls (kc t.kind) ∧ H a = some (.ins (kc t.kind) dx [("facts", .ref fa)]) ∧
    H fa = some (.ins CF dfa (factL t.kind pm pi (t.text b) pl (t.knots : Nat))) := by
  cases hv with
  | @mk a inner ls _ xp lab all =>
    obtain ⟨dx, fa, dfa, pm, pi, pl, hC, g1, g2, g3, g4, g5⟩ := xp
    exact ⟨a, dx, fa, dfa, pm, pi, pl, rfl, hC, g1, g2⟩
end Wp

namespace Wp
open PySem PySem.Spec PyProof.Rows L2 Hx LamX
/-! the second half of the law's main def -/
section
variable {CF : Addr} {kc : KCls} {cls : Addr → Prop} {H H' : Hp} {d : Addr}
theorem XpAt.kp {a C : Addr} {kind text : Str} {told inner : List V} {labels : List Str} {size : Int} (hd : DeckAt H d) (k : Kp d H H') (h : XpAt CF cls H a C kind text told inner labels size) : XpAt CF cls H' a C kind text told inner labels size := by
  obtain ⟨dx, fa, dfa, pm, pi, pl, h0, h1, h2, h3, h4, h5⟩ := h
  have g : ∀ {c : Addr} {o : HO}, (∀ xs, o ≠ .lst xs) → isTbl o = false → H c = some o → H' c = some o := fun n t e => k _ _ (deck_ne' hd e n) t e
  exact ⟨dx, fa, dfa, pm, pi, pl, h0, g (by intro xs z; cases z) rfl h1, g (by intro xs z; cases z) rfl h2, g (by intro xs z; cases z) rfl h3, g (by intro xs z; cases z) rfl h4, g (by intro xs z; cases z) rfl h5⟩
mutual
theorem ExAt.kp {b : Int} (hd : DeckAt H d) (k : Kp d H H') : ∀ (t : Tr) (v : V), ExAt CF kc cls b H v t → ExAt CF kc cls b H' v t
  | .sign x, _, h => by cases h with | mk _ e l r => exact .mk _ (XpAt.kp hd k e) l (by cases r; exact .nil)
  | .name x, _, h => by cases h with | mk _ e l r => exact .mk _ (XpAt.kp hd k e) l (by cases r; exact .nil)
  | .weave l, _, h => by cases h with | mk _ e lb r => exact .mk _ (XpAt.kp hd k e) lb (ExAll.kp hd k l _ r)
  | .part j t, _, h => by cases h with | mk _ e l r => cases r with | cons a n => exact .mk _ (XpAt.kp hd k e) l (.cons (ExAt.kp hd k t _ a) (by cases n; exact .nil))
  | .drop j t, _, h => by cases h with | mk _ e l r => cases r with | cons a n => exact .mk _ (XpAt.kp hd k e) l (.cons (ExAt.kp hd k t _ a) (by cases n; exact .nil))
  | .lead t u, _, h => by cases h with | mk _ e l r => cases r with | cons a n => cases n with | cons a2 n2 => exact .mk _ (XpAt.kp hd k e) l (.cons (ExAt.kp hd k t _ a) (.cons (ExAt.kp hd k u _ a2) (by cases n2; exact .nil)))
  | .turn j t, _, h => by cases h with | mk _ e l r => cases r with | cons a n => exact .mk _ (XpAt.kp hd k e) l (.cons (ExAt.kp hd k t _ a) (by cases n; exact .nil))
theorem ExAll.kp {b : Int} (hd : DeckAt H d) (k : Kp d H H') : ∀ (l : List Tr) (vs : List V), ExAll CF kc cls b H vs l → ExAll CF kc cls b H' vs l
  | [], _, h => by cases h; exact .nil
  | t :: r, _, h => by cases h with | cons a q => exact .cons (ExAt.kp hd k t _ a) (ExAll.kp hd k r _ q)
end
mutual
theorem TrAt.kp (hd : DeckAt H d) (k : Kp d H H') : ∀ (t : Tr) (v : V), TrAt H v t → TrAt H' v t
  | .sign _, _, h => by cases h with | sign e => exact .sign (k _ _ (deck_ne' hd e (by intro xs z; cases z)) rfl e)
  | .name _, _, h => by cases h with | name e => exact .name (k _ _ (deck_ne' hd e (by intro xs z; cases z)) rfl e)
  | .weave l, _, h => by
    cases h with
    | @weave p q vs _ e e2 r =>
      have nq : q ≠ d := fun z => by
        obtain ⟨x, y, w, _, _, hx⟩ := hd
        rw [z, hx] at e2
        cases e2
        cases r with
        | cons a _ => cases a
      exact .weave (k _ _ (deck_ne' hd e (by intro xs z; cases z)) rfl e) (k _ _ nq rfl e2) (TrAll.kp hd k l _ r)
  | .part _ t, _, h => by cases h with | part e r => exact .part (k _ _ (deck_ne' hd e (by intro xs z; cases z)) rfl e) (TrAt.kp hd k t _ r)
  | .drop _ t, _, h => by cases h with | drop e r => exact .drop (k _ _ (deck_ne' hd e (by intro xs z; cases z)) rfl e) (TrAt.kp hd k t _ r)
  | .lead t u, _, h => by cases h with | lead e r r2 => exact .lead (k _ _ (deck_ne' hd e (by intro xs z; cases z)) rfl e) (TrAt.kp hd k t _ r) (TrAt.kp hd k u _ r2)
  | .turn _ t, _, h => by cases h with | turn e r => exact .turn (k _ _ (deck_ne' hd e (by intro xs z; cases z)) rfl e) (TrAt.kp hd k t _ r)
theorem TrAll.kp (hd : DeckAt H d) (k : Kp d H H') : ∀ (l : List Tr) (vs : List V), TrAll H vs l → TrAll H' vs l
  | [], _, h => by cases h; exact .nil
  | t :: r, _, h => by cases h with | cons a b => exact .cons (TrAt.kp hd k t _ a) (TrAll.kp hd k r _ b)
end
end
theorem RightB.same {H H' : Hp} {y : V} {t : Value} (h : RightB H y t) (s : Same H H') : RightB H' y t := by
  cases h with
  | non => exact .non
  | bl b => exact .bl b
  | int i => exact .int i
  | str z => exact .str z
  | lst e => exact .lst (s _ _ e)
  | tup e => exact .tup (s _ _ e)
  | dK e => exact .dK (s _ _ e)
  | ins e => exact .ins (s _ _ e)
def oddD : List PyData := [.none, .bool true, .int 0, .int 10, .int (-1), .str "x", .str "", .tuple [.str "x"], .list [.str "x"], .dict [], .str "weave", .int 1000000000000000000000000000000]
theorem fits_odds : ∀ d ∈ oddD, Fits d := by
  have h : (oddD.all fun d => d.showable && decide (d.depth ≤ 20) && decide (d.shown.length ≤ 100000) && PyData.strOk d.shown) = true := by decide +kernel
  intro d hd
  have := List.all_eq_true.mp h d hd
  simp only [Bool.and_eq_true, decide_eq_true_eq] at this
  exact ⟨this.1.1.1, this.1.1.2, this.1.2, this.2⟩
/-- an odd value: no expression, no number from 1 to 9 -/
structure OddAt (K : PySem.W.Frag) (H : Hp) (v : V) (dt : PyData) : Prop where
  dq : Dq H v dt
  ty : ∃ T ∈ types7, RightB H v (.type T) ∧ TyX K H v (.type T)
  no : (∃ i : Int, v = .int i ∧ ¬ (1 ≤ i ∧ i ≤ 9)) ∨ NotInt K H v
theorem OddAt.same {K : PySem.W.Frag} {H H' : Hp} {v : V} {dt : PyData} (h : OddAt K H v dt) (s : Same H H') : OddAt K H' v dt := by
  obtain ⟨a, ⟨T, hT, r, t⟩, n⟩ := h
  refine ⟨Dq.same s _ _ a, ⟨T, hT, RightB.same r s, TyX.same t s⟩, n.imp_right fun ⟨t, bi, bb, ty, k1, k2, e⟩ => ⟨t, bi, bb, TyX.same ty s, k1, k2, e⟩⟩
/-- an error is told by its name and the repr of what it was given -/
theorem tells_caught {Ce Cm Cn Cx : Addr} {nm : Str} {Q : VK} {H : Hp} {v : V} {dt : PyData} (hm : (nm, Cx) ∈ errs Ce Cm Cn) (hd : Dq H v dt) (ft : Fits dt)
    (q : ∀ p H', Same H H' → H' p = some (.tup [.str nm, .str dt.shown]) → Q (.ref p) H') : Tells (CaughtE (errs Ce Cm Cn) Q) Cx v H := by
  intro H' dd s hdd
  have s2 : Same H (upd H' dd (.xd [("given", v)])) := s.trans (same_new hdd _)
  refine ⟨(nm, Cx), dd, v, dt, hm, rfl, rfl, upd_same, Dq.same s2 _ _ hd, ft.s, ft.dep, ft.line, fun p hp => ?_⟩
  exact q p _ (s2.trans (same_new hp _)) upd_same
section
variable {P : Program} {w : World} {K : PySem.W.Frag} {mg : Str → Option Value} {base : Heap} {f fM fO CF CE Ce Cm Cn c TP : Addr} {fd fdM fdO : FuncData} {kc : KCls} {cls : Addr → Prop}
theorem right_rest (D : Defs P w K mg base CF CE Ce Cm Cn kc cls c TP) (Z : Bltn mg)
    (GO : FnOk P w K mg base CX0 2 fO fdO ["_law_deck_here", "_law_menu"] (spOf K)) (bO : Binds K fdO ["_law_deck_here", "_law_menu"] []) (kO : PySem.W.keepIn K (.ref fO) = true) (mO : mg "_law_of" = some (.ref fO))
    (GM : FnOk P w K mg base CX0 (9 + 12) fM fdM ["_law_tree_here", "_law_wide"] (spMade CF kc cls 12)) (bM : Binds K fdM ["_law_tree_here", "_law_wide"] []) (kM : PySem.W.keepIn K (.ref fM) = true) (mM : mg "_law_made" = some (.ref fM))
    {A : Around} {outer : List Env} {s : Shared} {H0 : Hp} {E : XK} (hr : Room 41 (A.deeper (envOfC "_law_right" (defScope s_law_right) s.heap.objs.size f (.ref c)))) (gd : A.guards = some []) :
    ∃ t2, PSs (cxOf CX0 P w K mg base NR "_law_right" (defScope s_law_right) f (.ref c) A outer s H0 E).nox ((defBody s_law_right).drop 12) t2 ∧
      ∀ (Dn : Ends) (d : Addr) (b : Int) (z m due : Str) (pt ma p13 : Addr) (v gv av fo : V) (sz : Int) (t g : Tr) (H : Hp), DeckAt H d → Tabs (tabsOf TP) H → 2 ≤ b → b ≤ 4 → t.Ok b → g.Ok b → t.knots ≤ 8 → g.knots ≤ 4 → nameB m = true →
        ExAt CF kc cls b H (.ref ma) t → ExAt CF kc cls b H av g → TrAt H v t → (∀ H', Kp d H H' → Tabs (tabsOf TP) H' → Dn.rt (.bl true) H') →
        t2 Dn [some (.ref d), some (.int b), some (.str z), some (.ref pt), some v, some gv, some (.ref ma), some av, some (.str (t.text b)), some (.str m), some (.str due), some fo, some (.int sz), some (.ref p13), none, none] H := by
  have r1 := hr.mono (by decide : 1 ≤ 41)
  have r2 := hr.mono (by decide : 2 ≤ 41)
  have r3 := hr.mono (by decide : 3 ≤ 41)
  have r15 := hr.mono (by decide : 15 ≤ 41)
  have r21 := hr.mono (by decide : 9 + 12 ≤ 41)
  refine ⟨_, (pss_cons (ps_set (i := 14) scRight.nd rfl (Or.inr rfl) (pe_call GO r2 rfl mO kO bO .nil pass0 (pa_cons (pv 0) (pa_cons (pe_lst (pa_cons pe_non (pa_cons pe_bl (pa_cons pe_int (pa_cons pe_int (pa_cons (pe_un un_neg pe_int) (pa_cons pe_str (pa_cons pe_str
        (pa_cons (pe_tup (pa_cons pe_str pa_nil)) (pa_cons (pe_lst (pa_cons pe_str pa_nil)) (pa_cons pe_dnewK (pa_cons pe_str (pa_cons (pe_op op_pow pe_int pe_int) pa_nil))))))))))))) pa_nil))))
    (pss_cons (ps_set (i := 15) scRight.nd rfl (Or.inl rfl) (pe_lst (pa_cons (pe_caught D rfl rfl rfl gd r15 (lamS_by (sc := defScope s_law_right) (by decide +kernel)) rfl (fun _ _ _ _ _ => rfl) (fun A outer s H E f c' hr2 =>
        pe_op (op_binL (P := P) (w := w) (K := K) (mg := mg) (base := base) (k := 9) rfl rfl rfl rfl rfl (hr2.mono (show 9 ≤ 13 by decide)) (passes_call (takes_of rfl rfl rfl rfl) (fun _ _ _ _ h => h))) (pv 6) (pv 14))) pa_nil)))
    (pss_cons (ps_expr (pe_bm PySem.F.plainAttrs_list PySem.F.slot_list_append PySem.F.type_list_append mt_append (pv 15) (pa_cons (pe_caught D rfl rfl rfl gd r15 (lamS_by (sc := defScope s_law_right) (by decide +kernel)) rfl (fun _ _ _ _ _ => rfl) (fun A outer s H E f c' hr2 =>
        pe_op (op_binL (P := P) (w := w) (K := K) (mg := mg) (base := base) (k := 9) rfl rfl rfl rfl rfl (hr2.mono (show 9 ≤ 13 by decide)) (passes_call (takes_of rfl rfl rfl rfl) (fun _ _ _ _ h => h))) (pv 6) (pv 14))) pa_nil)))
    (pss_cons (ps_expr (pe_bm PySem.F.plainAttrs_list PySem.F.slot_list_append PySem.F.type_list_append mt_append (pv 15) (pa_cons (pe_caught D rfl rfl rfl gd r15 (lamS_by (sc := defScope s_law_right) (by decide +kernel)) rfl (fun _ _ _ _ _ => rfl) (fun A outer s H E f c' hr2 =>
        pe_methL (P := P) (w := w) (K := K) (mg := mg) (base := base) (k := 12) (ps := ["self", "name", "other"]) (sp := spExIn K CF CE Cm Ce kc cls) (ks := ["other", "name"]) (g := gEx) (gV := gExV) rfl rfl rfl rfl rfl (pv 6) (hr2.mono (show 12 ≤ 13 by decide)) (passes_call (takes_of rfl rfl rfl rfl) (fun _ _ _ _ h => h)) (pa_cons pe_str (pa_cons (pv 14) pa_nil)))) pa_nil)))
    (pss_cons (ps_expr (pe_bm PySem.F.plainAttrs_list PySem.F.slot_list_append PySem.F.type_list_append mt_append (pv 15) (pa_cons (pe_caught D rfl rfl rfl gd r15 (lamS_by (sc := defScope s_law_right) (by decide +kernel)) rfl (fun _ _ _ _ _ => rfl) (fun A outer s H E f c' hr2 =>
        pe_methL (P := P) (w := w) (K := K) (mg := mg) (base := base) (k := 12) (ps := ["self", "name", "other"]) (sp := spExIn K CF CE Cm Ce kc cls) (ks := ["other", "name"]) (g := gEx) (gV := gExV) rfl rfl rfl rfl rfl (pv 6) (hr2.mono (show 12 ≤ 13 by decide)) (passes_call (takes_of rfl rfl rfl rfl) (fun _ _ _ _ h => h)) (pa_cons (pv 9) (pa_cons (pv 14) pa_nil)))) pa_nil)))
    (pss_cons (ps_expr (pe_bm PySem.F.plainAttrs_list PySem.F.slot_list_append PySem.F.type_list_append mt_append (pv 15) (pa_cons (pe_caught D rfl rfl rfl gd r15 (lamS_by (sc := defScope s_law_right) (by decide +kernel)) rfl (fun _ _ _ _ _ => rfl) (fun A outer s H E f c' hr2 =>
        pe_methL (P := P) (w := w) (K := K) (mg := mg) (base := base) (k := 12) (ps := ["self", "name", "other"]) (sp := spExIn K CF CE Cm Ce kc cls) (ks := ["other", "name"]) (g := gEx) (gV := gExV) rfl rfl rfl rfl rfl (pv 6) (hr2.mono (show 12 ≤ 13 by decide)) (passes_call (takes_of rfl rfl rfl rfl) (fun _ _ _ _ h => h)) (pa_cons pe_str (pa_cons (pv 7) pa_nil)))) pa_nil)))
    (pss_cons (ps_set (i := 10) scRight.nd rfl (Or.inl rfl) (pe_lst (pa_cons (pe_tup (pa_cons pe_str (pa_cons (pe_callB (call_reprD gd hr.units D.mods) (by rfl) D.repr PyProof.Rows.boot_repr (pa_cons (pv 14) pa_nil)) pa_nil)))
        (pa_cons (pe_tup (pa_cons pe_str (pa_cons (pe_callB (call_reprD gd hr.units D.mods) (by rfl) D.repr PyProof.Rows.boot_repr (pa_cons (pv 14) pa_nil)) pa_nil))) pa_nil))))
    (pss_cons (ps_set (i := 10) scRight.nd rfl (Or.inl rfl) (pe_op op_cat (pv 10) (pe_lst (pa_cons (pe_tup (pa_cons pe_str (pa_cons pe_str pa_nil))) (pa_cons (pe_tup (pa_cons pe_str (pa_cons (pe_callB (call_reprD gd hr.units D.mods) (by rfl) D.repr PyProof.Rows.boot_repr (pa_cons (pv 14) pa_nil)) pa_nil))) pa_nil)))))
    (pss_cons (ps_if (pt_cmpR (op_neQ hr.units) (pv 15) (pe_op op_cat (pv 10) (pe_lst (pa_cons (pe_tup (pa_cons pe_str (pa_cons pe_str pa_nil))) pa_nil))) (nomark _)) (pss_one ps_dead) pss_nil)
    (pss_one (ps_ret (pe_and (pe_cmpR op_eq (pe_callTy (call_tell (k := 1) r3) (by rfl) Z.str (by decide +kernel) (pa_cons (pv 6) pa_nil)) (pv 8) (nomark _))
      (pe_one (pe_cmpR (op_eqA r1) (pv 6) (pe_call GM r21 rfl mM kM bM .nil pass0 (pa_cons (pv 4) (pa_cons (pv 1) pa_nil))) (nomark _))))))))))))))), ?_⟩
  intro Dn d b z m due pt ma p13 v gv av fo sz t g H hd tb b2 b4 ok okg k8 k4 nm em ea ht q
  have odk : ∃ o, H d = some o := let ⟨_, _, _, _, _, e⟩ := hd; ⟨_, e⟩
  obtain ⟨od, hdo⟩ := odk
  refine ⟨_, rfl, ?_⟩
  refine ⟨_, rfl, ?_⟩
  refine ⟨(by show 1 ≤ sizeLine; decide), fun a1 n1 => ?_⟩
  refine ⟨(by show 1 ≤ sizeLine; decide), fun a2 n2 => ?_⟩
  refine fun a3 n3 => ?_
  refine ⟨_, _, rfl, rfl, ⟨by decide, by decide, by decide⟩, ?_⟩
  refine ⟨(by show 12 ≤ sizeLine; decide), fun a5 n5 => ?_⟩
  have g1 := same_new n1 (.tup [V.str "x"])
  have g2 := same_new n2 (.lst [V.str "x"])
  have g3 := same_new n3 (.dK [])
  have g5 := same_new n5 (.lst [V.non, .bl true, .int 0, .int 10, .int (-1), .str "x", .str "", .ref a1, .ref a2, .ref a3, .str "weave", .int ((10 : Int) ^ (30 : Int).toNat)])
  have d1 := g1 _ _ hdo
  have d2 := g2 _ _ d1
  have d3 := g3 _ _ d2
  have x1 := ne_of_none hdo n1
  have x2 := ne_of_none d1 n2
  have x3 := ne_of_none d2 n3
  have x5 := ne_of_none d3 n5
  have f3 := g5
  have f2 := g3.trans f3
  have f1 := g2.trans f2
  have f0 := g1.trans f1
  have pw : (10 : Int) ^ (30 : Int).toNat = 1000000000000000000000000000000 := by decide +kernel
  have menu : ∀ H9, But d _ H9 → ∀ v ∈ [V.non, .bl true, .int 0, .int 10, .int (-1), .str "x", .str "", .ref a1, .ref a2, .ref a3, .str "weave", .int ((10 : Int) ^ (30 : Int).toNat)], ∃ dt ∈ oddD, OddAt K (bare d H9) v dt := fun H9 b9 => by
    have k9 := fun {b : Addr} {o : HO} (n : d ≠ b) (t : isTbl o = false) e => bare_at (Ne.symm n) t (b9 b o (Ne.symm n) e)
    have ni : ∀ {v : V} {T : String} (bb : Bool), TyX K (bare d H9) v (.type T) → PySem.W.kitOne K (.type T) (.type "int") = some false → PySem.W.kitOne K (.type T) (.type "bool") = some bb → NotInt K (bare d H9) v :=
      fun bb ty k1 k2 => ⟨_, _, _, ty, k1, k2, rfl⟩
    intro v hv
    simp only [List.mem_cons, List.not_mem_nil, or_false] at hv
    rcases hv with rfl | rfl | rfl | rfl | rfl | rfl | rfl | rfl | rfl | rfl | rfl | rfl
    · exact ⟨.none, by simp [oddD], .non, ⟨"NoneType", by simp [types7], .non, .base .non⟩, .inr (ni false (.base .non) (kit_ty (by decide +kernel)) (kit_ty (by decide +kernel)))⟩
    · exact ⟨.bool true, by simp [oddD], .bl true, ⟨"bool", by simp [types7], .bl _, .base (.bl true)⟩, .inr ⟨_, true, true, .base (.bl true), kit_ty (by decide +kernel), kit_ty (by decide +kernel), rfl⟩⟩
    · exact ⟨.int 0, by simp [oddD], .int 0, ⟨"int", by simp [types7], .int _, .base (.int _)⟩, .inl ⟨_, rfl, by decide⟩⟩
    · exact ⟨.int 10, by simp [oddD], .int 10, ⟨"int", by simp [types7], .int _, .base (.int _)⟩, .inl ⟨_, rfl, by decide⟩⟩
    · exact ⟨.int (-1), by simp [oddD], .int (-1), ⟨"int", by simp [types7], .int _, .base (.int _)⟩, .inl ⟨_, rfl, by decide⟩⟩
    · exact ⟨.str "x", by simp [oddD], .str _, ⟨"str", by simp [types7], .str _, .base (.str _)⟩, .inr (ni false (.base (.str _)) (kit_ty (by decide +kernel)) (kit_ty (by decide +kernel)))⟩
    · exact ⟨.str "", by simp [oddD], .str _, ⟨"str", by simp [types7], .str _, .base (.str _)⟩, .inr (ni false (.base (.str _)) (kit_ty (by decide +kernel)) (kit_ty (by decide +kernel)))⟩
    · exact ⟨.tuple [.str "x"], by simp [oddD], .tup (k9 x1 rfl (f1 _ _ upd_same)) (.cons (.str _) .nil), ⟨"tuple", by simp [types7], .tup (k9 x1 rfl (f1 _ _ upd_same)), .base (.tup (k9 x1 rfl (f1 _ _ upd_same)))⟩, .inr (ni false (.base (.tup (k9 x1 rfl (f1 _ _ upd_same)))) (kit_ty (by decide +kernel)) (kit_ty (by decide +kernel)))⟩
    · exact ⟨.list [.str "x"], by simp [oddD], .lst (k9 x2 rfl (f2 _ _ upd_same)) (.cons (.str _) .nil), ⟨"list", by simp [types7], .lst (k9 x2 rfl (f2 _ _ upd_same)), .base (.lst (k9 x2 rfl (f2 _ _ upd_same)))⟩, .inr (ni false (.base (.lst (k9 x2 rfl (f2 _ _ upd_same)))) (kit_ty (by decide +kernel)) (kit_ty (by decide +kernel)))⟩
    · exact ⟨.dict [], by simp [oddD], .dct (k9 x3 rfl (f3 _ _ upd_same)) .nil, ⟨"dict", by simp [types7], .dK (k9 x3 rfl (f3 _ _ upd_same)), .base (.dK (k9 x3 rfl (f3 _ _ upd_same)))⟩, .inr (ni false (.base (.dK (k9 x3 rfl (f3 _ _ upd_same)))) (kit_ty (by decide +kernel)) (kit_ty (by decide +kernel)))⟩
    · exact ⟨.str "weave", by simp [oddD], .str _, ⟨"str", by simp [types7], .str _, .base (.str _)⟩, .inr (ni false (.base (.str _)) (kit_ty (by decide +kernel)) (kit_ty (by decide +kernel)))⟩
    · exact ⟨.int 1000000000000000000000000000000, by simp [oddD], by rw [pw]; exact .int _, ⟨"int", by simp [types7], .int _, .base (.int _)⟩, .inl ⟨_, rfl, by rw [pw]; decide⟩⟩
  refine ⟨d, a5, _, rfl, x5, SqL.of upd_same, (by show 0 < 12; decide), (by show 12 ≤ 1000; decide), hd.byt f0, fun ov H2 hv b2' hd2 => ?_⟩
  obtain ⟨dt, hdt, odd⟩ := menu H2 b2' ov hv
  have ft := fits_odds dt hdt
  clear menu
  have kp2 : Kp d H H2 := (Kp.same f0).trans (Kp.but b2')
  have tb2 : Tabs (tabsOf TP) H2 := by
    obtain ⟨_, _, _, _, _, e⟩ := hd.byt f0
    exact tabs_but (tb.ext f0) e b2'
  have em2 := ExAt.kp hd kp2 _ _ em
  have ea2 := ExAt.kp hd kp2 _ _ ea
  have ht2 := TrAt.kp hd kp2 _ _ ht
  clear f0 f1 f2 f3 g1 g2 g3 g5 d1 d2 d3 x1 x2 x3 x5 n1 n2 n3 n5 b2' em ea ht hdo
  obtain ⟨ma', mdx, mfa, e', hm2, hC⟩ := em2.ref
  cases e'
  obtain ⟨T, hT, _, _⟩ := odd.ty
  have at_ : ∀ Hk, Kp d H2 Hk → Hk ma = some (.ins (kc t.kind) mdx [("facts", .ref mfa)]) ∧ ExAt CF kc cls b Hk (.ref ma) t ∧ ExAt CF kc cls b Hk av g ∧ OddAt K Hk ov dt := fun Hk kp =>
    ⟨kp _ _ (deck_ne' hd2 hm2 (by intro xs z; cases z)) rfl hm2, ExAt.kp hd2 kp _ _ em2, ExAt.kp hd2 kp _ _ ea2, odd.same (kp.bare.trans bare_same)⟩
  have ne_ : ∀ {Hk : Hp}, OddAt K Hk ov dt → NotExp K CE Hk ov := fun o => by
    obtain ⟨T, hT, _, ty⟩ := o.ty
    exact ⟨_, ty, D.nt T hT⟩
  have iE : (("InvalidExpression" : Str), Ce) ∈ errs Ce Cm Cn := List.mem_cons_self
  have iM : (("InvalidName" : Str), Cm) ∈ errs Ce Cm Cn := List.mem_cons_of_mem _ List.mem_cons_self
  have iN : (("InvalidNumber" : Str), Cn) ∈ errs Ce Cm Cn := List.mem_cons_of_mem _ (List.mem_cons_of_mem _ (List.mem_singleton.mpr rfl))
  -- the first lambda
  refine ⟨tb2, fun H3 e3 t3 => ?_⟩
  have k3 : Kp d H2 H3 := Kp.ext e3
  obtain ⟨m3, em3, ea3, od3⟩ := at_ H3 k3
  obtain ⟨T3, hT3, rb3, _⟩ := od3.ty
  refine ⟨_, rfl, _, rfl, ma, _, _, _, _, _, rfl, m3, D.add _ hC, rb3, D.addT _ hC T3 hT3, .ref ma, ov, b, t, rfl, em3, ok, b2, b4, by omega, .inr ⟨ne_ od3, tells_caught iE od3.dq ft fun p4 H4 s4 hp4 => ?_⟩⟩
  have t4 := t3.ext s4
  refine ⟨(by show 1 ≤ sizeLine; decide), fun l5 nl5 => ?_⟩
  have s5 := same_new nl5 (.lst [V.ref p4])
  have t5 := t4.ext s5
  have k4 : Kp d H2 H4 := k3.trans (Kp.same s4)
  have hl5 : upd H4 l5 (.lst [V.ref p4]) l5 = some (.lst [V.ref p4]) := upd_same
  have hp4' := s5 _ _ hp4
  have k5 : Kp d H2 (upd H4 l5 (.lst [V.ref p4])) := k4.trans (Kp.same s5)
  have fr5 : ∀ c o, H2 c = some o → c ≠ d → isTbl o = false → c ≠ l5 := fun c o hc n tt => ne_of_none (k4 c o n tt hc) nl5
  generalize upd H4 l5 (.lst [V.ref p4]) = H5 at t5 hl5 hp4' k5 ⊢
  clear hp4 s4 s5 t4 nl5
  -- an append: what stays
  have app : ∀ (Hk : Hp) (xs : List V) (z : V), Kp d H2 Hk → Tabs (tabsOf TP) Hk → Hk l5 = some (.lst xs) → Kp d H2 (upd Hk l5 (.lst (xs ++ [z]))) ∧ Tabs (tabsOf TP) (upd Hk l5 (.lst (xs ++ [z]))) ∧ upd Hk l5 (.lst (xs ++ [z])) l5 = some (.lst (xs ++ [z])) ∧
      (∀ q o, (∀ ys, o ≠ .lst ys) → Hk q = some o → upd Hk l5 (.lst (xs ++ [z])) q = some o) := fun Hk xs z kk tt hl => by
    refine ⟨fun c o n i h => ?_, tabs_but tt hl (But.refl.upd _), upd_same, fun q o n h => ?_⟩
    · rw [upd_ne (fr5 c o h n i)]
      exact kk c o n i h
    · rw [upd_ne fun w => ?_]
      · exact h
      · rw [w, hl] at h
        exact n _ (Option.some.inj h).symm
  have tp : ∀ {o : HO} {x y : V}, o = .tup [x, y] → ∀ ys, o ≠ .lst ys := fun e ys z => by rw [e] at z; cases z
  -- the second
  refine ⟨_, rfl, .inl ⟨rfl, _, SqL.of hl5⟩, t5, fun H6 e6 t6 => ?_⟩
  have k6 : Kp d H2 H6 := k5.trans (Kp.ext e6)
  obtain ⟨m6, em6, ea6, od6⟩ := at_ H6 k6
  obtain ⟨T6, hT6, rb6, _⟩ := od6.ty
  refine ⟨_, rfl, _, rfl, ma, _, _, _, _, _, rfl, m6, D.rsh _ hC, rb6, D.rshT _ hC T6 hT6, .ref ma, ov, b, t, rfl, em6, ok, b2, b4, by omega, .inr ⟨od6.no, tells_caught iN od6.dq ft fun p7 H7 s7 hp7 => ?_⟩⟩
  have hl7 := s7 _ _ (e6 _ _ hl5 (by intro ps z; cases z))
  have hp4_7 := s7 _ _ (e6 _ _ hp4' (by intro ps z; cases z))
  refine ⟨l5, _, .ref p7, rfl, rfl, hl7, (by show 1 < sizeLine; decide), ?_⟩
  obtain ⟨k8', t8, hl8, st8⟩ := app H7 _ (.ref p7) (k6.trans (Kp.same s7)) (t6.ext s7) hl7
  have hp4_8 := st8 _ _ (tp rfl) hp4_7
  have hp7_8 := st8 _ _ (tp rfl) hp7
  generalize upd H7 l5 (.lst ([V.ref p4] ++ [V.ref p7])) = H8 at k8' t8 hl8 hp4_8 hp7_8 ⊢
  clear st8 hl7 hp4_7 hp7 s7 e6 t6 k6 m6 em6 ea6 od6 rb6
  -- the third
  refine ⟨_, rfl, .inl ⟨rfl, _, SqL.of hl8⟩, t8, fun H9 e9 t9 => ?_⟩
  have k9 : Kp d H2 H9 := k8'.trans (Kp.ext e9)
  obtain ⟨m9, em9, ea9, od9⟩ := at_ H9 k9
  have fpart : Fits (.str "part") := ⟨rfl, Nat.zero_le _, by decide +kernel, by decide +kernel⟩
  have fX : Fits (.str "X") := ⟨rfl, Nat.zero_le _, by decide +kernel, by decide +kernel⟩
  refine ⟨_, rfl, ma, _, mdx, _, rfl, m9, D.ex _ hC, rfl, _, rfl, .ref ma, .str "part", ov, rfl, .inr (.inl ⟨⟨"part", rfl, by decide +kernel, by decide +kernel⟩, tells_caught iM (.str _) fpart fun p10 H10 s10 hp10 => ?_⟩)⟩
  have hl10 := s10 _ _ (e9 _ _ hl8 (by intro ps z; cases z))
  have hp4_10 := s10 _ _ (e9 _ _ hp4_8 (by intro ps z; cases z))
  have hp7_10 := s10 _ _ (e9 _ _ hp7_8 (by intro ps z; cases z))
  refine ⟨l5, _, .ref p10, rfl, rfl, hl10, (by show 2 < sizeLine; decide), ?_⟩
  obtain ⟨k11, t11, hl11, st11⟩ := app H10 _ (.ref p10) (k9.trans (Kp.same s10)) (t9.ext s10) hl10
  have hp4_11 := st11 _ _ (tp rfl) hp4_10
  have hp7_11 := st11 _ _ (tp rfl) hp7_10
  have hp10_11 := st11 _ _ (tp rfl) hp10
  generalize upd H10 l5 (.lst (([V.ref p4] ++ [V.ref p7]) ++ [V.ref p10])) = H11 at k11 t11 hl11 hp4_11 hp7_11 hp10_11 ⊢
  clear st11 hl10 hp4_10 hp7_10 hp10 s10 e9 t9 k9 m9 em9 ea9 od9
  -- the fourth
  refine ⟨_, rfl, .inl ⟨rfl, _, SqL.of hl11⟩, t11, fun H12 e12 t12 => ?_⟩
  have k12 : Kp d H2 H12 := k11.trans (Kp.ext e12)
  obtain ⟨m12, em12, ea12, od12⟩ := at_ H12 k12
  refine ⟨_, rfl, ma, _, mdx, _, rfl, m12, D.ex _ hC, rfl, _, rfl, _, rfl, .ref ma, .str m, ov, rfl, .inr (.inr ⟨⟨m, rfl, nm⟩, ne_ od12, tells_caught iE od12.dq ft fun q13 H13 s13 hp13 => ?_⟩)⟩
  have hl13 := s13 _ _ (e12 _ _ hl11 (by intro ps z; cases z))
  have hp4_13 := s13 _ _ (e12 _ _ hp4_11 (by intro ps z; cases z))
  have hp7_13 := s13 _ _ (e12 _ _ hp7_11 (by intro ps z; cases z))
  have hp10_13 := s13 _ _ (e12 _ _ hp10_11 (by intro ps z; cases z))
  refine ⟨l5, _, .ref q13, rfl, rfl, hl13, (by show 3 < sizeLine; decide), ?_⟩
  obtain ⟨k14, t14, hl14, st14⟩ := app H13 _ (.ref q13) (k12.trans (Kp.same s13)) (t12.ext s13) hl13
  have hp4_14 := st14 _ _ (tp rfl) hp4_13
  have hp7_14 := st14 _ _ (tp rfl) hp7_13
  have hp10_14 := st14 _ _ (tp rfl) hp10_13
  have hp13_14 := st14 _ _ (tp rfl) hp13
  generalize upd H13 l5 (.lst ((([V.ref p4] ++ [V.ref p7]) ++ [V.ref p10]) ++ [V.ref q13])) = H14 at k14 t14 hl14 hp4_14 hp7_14 hp10_14 hp13_14 ⊢
  clear st14 hl13 hp4_13 hp7_13 hp10_13 hp13 s13 e12 t12 k12 m12 em12 ea12 od12
  -- the fifth
  refine ⟨_, rfl, .inl ⟨rfl, _, SqL.of hl14⟩, t14, fun H15 e15 t15 => ?_⟩
  have k15 : Kp d H2 H15 := k14.trans (Kp.ext e15)
  obtain ⟨m15, em15, ea15, od15⟩ := at_ H15 k15
  refine ⟨_, rfl, ma, _, mdx, _, rfl, m15, D.ex _ hC, rfl, _, rfl, .ref ma, .str "X", av, rfl, .inr (.inl ⟨⟨"X", rfl, by decide +kernel, by decide +kernel⟩, tells_caught iM (.str _) fX fun p16 H16 s16 hp16 => ?_⟩)⟩
  have hl16 := s16 _ _ (e15 _ _ hl14 (by intro ps z; cases z))
  have hp4_16 := s16 _ _ (e15 _ _ hp4_14 (by intro ps z; cases z))
  have hp7_16 := s16 _ _ (e15 _ _ hp7_14 (by intro ps z; cases z))
  have hp10_16 := s16 _ _ (e15 _ _ hp10_14 (by intro ps z; cases z))
  have hp13_16 := s16 _ _ (e15 _ _ hp13_14 (by intro ps z; cases z))
  refine ⟨l5, _, .ref p16, rfl, rfl, hl16, (by show 4 < sizeLine; decide), ?_⟩
  obtain ⟨k17, t17, hl17, st17⟩ := app H16 _ (.ref p16) (k15.trans (Kp.same s16)) (t15.ext s16) hl16
  have hp4_17 := st17 _ _ (tp rfl) hp4_16
  have hp7_17 := st17 _ _ (tp rfl) hp7_16
  have hp10_17 := st17 _ _ (tp rfl) hp10_16
  have hp13_17 := st17 _ _ (tp rfl) hp13_16
  have hp16_17 := st17 _ _ (tp rfl) hp16
  generalize upd H16 l5 (.lst (((([V.ref p4] ++ [V.ref p7]) ++ [V.ref p10]) ++ [V.ref q13]) ++ [V.ref p16])) = H17 at k17 t17 hl17 hp4_17 hp7_17 hp10_17 hp13_17 hp16_17 ⊢
  clear st17 hl16 hp4_16 hp7_16 hp10_16 hp13_16 hp16 s16 e15 t15 k15 m15 em15 ea15 od15
  obtain ⟨m17, em17, ea17, od17⟩ := at_ H17 k17
  have ht17 := TrAt.kp hd2 k17 _ _ ht2
  have sm3 : Small dt := ⟨ft.s, ft.dep, ft.len⟩
  -- what is due
  refine ⟨_, rfl, ov, dt, rfl, od17.dq, sm3, ?_⟩
  refine ⟨(by show 2 ≤ sizeLine; decide), fun q1 n1 => ?_⟩
  have g1 := same_new n1 (.tup [V.str "InvalidExpression", .str dt.shown])
  refine ⟨_, rfl, ov, dt, rfl, Dq.same g1 _ _ od17.dq, sm3, ?_⟩
  refine ⟨(by show 2 ≤ sizeLine; decide), fun q2 n2 => ?_⟩
  have g2 := same_new n2 (.tup [V.str "InvalidNumber", .str dt.shown])
  refine ⟨(by show 2 ≤ sizeLine; decide), fun q3 n3 => ?_⟩
  have g3 := same_new n3 (.lst [V.ref q1, V.ref q2])
  refine ⟨_, rfl, (by show 2 ≤ sizeLine; decide), fun q4 n4 => ?_⟩
  have g4 := same_new n4 (.tup [V.str "InvalidName", .str "'part'"])
  refine ⟨_, rfl, ov, dt, rfl, Dq.same (((g1.trans g2).trans g3).trans g4) _ _ od17.dq, sm3, ?_⟩
  refine ⟨(by show 2 ≤ sizeLine; decide), fun q5 n5 => ?_⟩
  have g5 := same_new n5 (.tup [V.str "InvalidExpression", .str dt.shown])
  refine ⟨(by show 2 ≤ sizeLine; decide), fun q6 n6 => ?_⟩
  have g6 := same_new n6 (.lst [V.ref q4, V.ref q5])
  have u6 := ((((g1.trans g2).trans g3).trans g4).trans g5).trans g6
  have q3_6 := ((g4.trans g5).trans g6) _ _ (upd_same (H := _) (a := q3) (o := .lst [V.ref q1, V.ref q2]))
  refine ⟨q3, q6, _, _, rfl, rfl, q3_6, upd_same, (by show 2 + 2 ≤ sizeLine; decide), fun q7 n7 => ?_⟩
  have g7 := same_new n7 (.lst ([V.ref q1, V.ref q2] ++ [V.ref q4, V.ref q5]))
  have at1 := ((((g2.trans g3).trans g4).trans g5).trans g6).trans g7 _ _ (upd_same (H := _) (a := q1) (o := .tup [V.str "InvalidExpression", .str dt.shown]))
  have at2 := ((((g3).trans g4).trans g5).trans g6).trans g7 _ _ (upd_same (H := _) (a := q2) (o := .tup [V.str "InvalidNumber", .str dt.shown]))
  have at4 := (g5.trans g6).trans g7 _ _ (upd_same (H := _) (a := q4) (o := .tup [V.str "InvalidName", .str "'part'"]))
  have at5 := g6.trans g7 _ _ (upd_same (H := _) (a := q5) (o := .tup [V.str "InvalidExpression", .str dt.shown]))
  have u7 := u6.trans g7
  have at7 := upd_same (H := (upd (upd (upd (upd (upd (upd H17 q1 (HO.tup [V.str "InvalidExpression", V.str dt.shown])) q2 (HO.tup [V.str "InvalidNumber", V.str dt.shown])) q3 (HO.lst [V.ref q1, V.ref q2])) q4 (HO.tup [V.str "InvalidName", V.str "'part'"])) q5 (HO.tup [V.str "InvalidExpression", V.str dt.shown])) q6 (HO.lst [V.ref q4, V.ref q5]))) (a := q7) (o := .lst ([V.ref q1, V.ref q2] ++ [V.ref q4, V.ref q5]))
  generalize upd (upd (upd (upd (upd (upd (upd H17 q1 (HO.tup [V.str "InvalidExpression", V.str dt.shown])) q2 (HO.tup [V.str "InvalidNumber", V.str dt.shown])) q3 (HO.lst [V.ref q1, V.ref q2])) q4 (HO.tup [V.str "InvalidName", V.str "'part'"])) q5 (HO.tup [V.str "InvalidExpression", V.str dt.shown])) q6 (HO.lst [V.ref q4, V.ref q5])) q7 (.lst ([V.ref q1, V.ref q2] ++ [V.ref q4, V.ref q5])) = H18 at at1 at2 at4 at5 at7 u7 ⊢
  clear g1 g2 g3 g4 g5 g6 g7 q3_6 n1 n2 n3 n4 n5 n6 n7 u6
  refine ⟨_, rfl, _, rfl, (by show 2 ≤ sizeLine; decide), fun q8 n8 => ⟨(by show 1 ≤ sizeLine; decide), fun q9 n9 => ?_⟩⟩
  have g8 := same_new n8 (.tup [V.str "InvalidName", .str "'X'"])
  have g9 := same_new n9 (.lst [V.ref q8])
  have at7' := (g8.trans g9) _ _ at7
  refine ⟨q7, q9, _, _, rfl, rfl, at7', upd_same, (by show 4 + 1 ≤ sizeLine; decide), fun q10 n10 => ?_⟩
  have g10 := same_new n10 (.lst (([V.ref q1, V.ref q2] ++ [V.ref q4, V.ref q5]) ++ [V.ref q8]))
  have u10 := (u7.trans (g8.trans g9)).trans g10
  have w10 := (g8.trans g9).trans g10
  have at8 := (g9.trans g10) _ _ (upd_same (H := _) (a := q8) (o := .tup [V.str "InvalidName", .str "'X'"]))
  have sp : (PyData.str "part").shown = "'part'" := by decide +kernel
  have sX : (PyData.str "X").shown = "'X'" := by decide +kernel
  rw [sp] at hp10_17
  rw [sX] at hp16_17
  let due : PyData := .list [.tuple [.str "InvalidExpression", .str dt.shown], .tuple [.str "InvalidNumber", .str dt.shown], .tuple [.str "InvalidName", .str "'part'"], .tuple [.str "InvalidExpression", .str dt.shown], .tuple [.str "InvalidName", .str "'X'"]]
  have sh : SeqAt.shaped due = true := by
    have o1 : PyData.strOk "InvalidExpression" = true := by decide +kernel
    have o2 : PyData.strOk "InvalidNumber" = true := by decide +kernel
    have o3 : PyData.strOk "InvalidName" = true := by decide +kernel
    have o4 : PyData.strOk "'part'" = true := by decide +kernel
    have o5 : PyData.strOk "'X'" = true := by decide +kernel
    show (((PyData.strOk _ && (PyData.strOk _ && true)) && ((PyData.strOk _ && (PyData.strOk _ && true)) && ((PyData.strOk _ && (PyData.strOk _ && true)) && ((PyData.strOk _ && (PyData.strOk _ && true)) && ((PyData.strOk _ && (PyData.strOk _ && true)) && true))))) && decide (_ ≤ 64)) = true
    rw [o1, o2, o3, o4, o5, ft.ok]
    rfl
  have pr : ∀ {H : Hp} {p : Addr} {x y : Str}, H p = some (.tup [.str x, .str y]) → Dq H (.ref p) (.tuple [.str x, .str y]) := fun e => .tup e (.cons (.str _) (.cons (.str _) .nil))
  refine ⟨due, due, .lst (u10 _ _ hl17) (.cons (pr (u10 _ _ hp4_17)) (.cons (pr (u10 _ _ hp7_17)) (.cons (pr (u10 _ _ hp10_17)) (.cons (pr (u10 _ _ hp13_17)) (.cons (pr (u10 _ _ hp16_17)) .nil))))),
    .lst upd_same (.cons (pr (w10 _ _ at1)) (.cons (pr (w10 _ _ at2)) (.cons (pr (w10 _ _ at4)) (.cons (pr (w10 _ _ at5)) (.cons (pr at8) .nil))))), sh, sh, _, rfl, ?_⟩
  rw [eqv_self sh]
  refine iteF ?_
  obtain ⟨ra, rdx, rfa, rdfa, rpm, rpi, rpl, er, rC, rg1, rg2⟩ := (ExAt.same u10 _ _ em17).parts
  cases er
  refine ⟨_, rfl, _, rfl, .inr (.inr ⟨ma, _, rdx, _, spStr _ CF, rfl, rg1, D.kl.str _ rC, ma, rdx, rfa, rdfa, _, _, _, rfl, rg1, rfl, rg2, rfl, _, rfl, ?_⟩)⟩
  refine ⟨_, rfl, rfl, _, rfl, ?_⟩
  rw [decide_eq_true rfl]
  refine iteT ?_
  refine ⟨_, rfl, _, rfl, _, rfl, v, b, t, rfl, TrAt.same u10 _ _ ht17, ok, b2, b4, by omega, by omega, fun x2 H19 s19 ex2 => eq_two D.eq (ExAt.same (u10.trans s19) _ _ em17) ex2 ?_⟩
  rw [decide_eq_true rfl]
  exact q H19 (kp2.trans (k17.trans (Kp.same (u10.trans s19)))) ((t17.ext u10).ext s19)
end
end Wp

namespace Wp
open PySem PySem.Spec PyProof.Rows L2 Hx LamX
section
variable {P : Program} {w : World} {K : PySem.W.Frag} {mg : Str → Option Value} {base : Heap} {f fC fP fM fB fE fX fO CF CE Ce Cm Cn c TP : Addr} {fd fdC fdP fdM fdB fdE fdX fdO : FuncData} {kc : KCls} {cls : Addr → Prop}
theorem ok_right (D : Defs P w K mg base CF CE Ce Cm Cn kc cls c TP) (F : FunC K "_law_right" "_law_right" s_law_right f fd c) (Z : Bltn mg)
    (GC : FnOk P w K mg base CX0 1 fC fdC ["_law_deck_here", "_law_top"] spCard) (bC : Binds K fdC ["_law_deck_here", "_law_top"] []) (kC : PySem.W.keepIn K (.ref fC) = true) (mC : mg "_law_card" = some (.ref fC))
    (GO : FnOk P w K mg base CX0 2 fO fdO ["_law_deck_here", "_law_menu"] (spOf K)) (bO : Binds K fdO ["_law_deck_here", "_law_menu"] []) (kO : PySem.W.keepIn K (.ref fO) = true) (mO : mg "_law_of" = some (.ref fO))
    (GP : FnOk P w K mg base CX0 17 fP fdP ["_law_deck_here", "_law_room"] spPlain) (bP : Binds K fdP ["_law_deck_here", "_law_room"] []) (kP : PySem.W.keepIn K (.ref fP) = true) (mP : mg "_law_plain" = some (.ref fP))
    (GM : FnOk P w K mg base CX0 (9 + 12) fM fdM ["_law_tree_here", "_law_wide"] (spMade CF kc cls 12)) (bM : Binds K fdM ["_law_tree_here", "_law_wide"] []) (kM : PySem.W.keepIn K (.ref fM) = true) (mM : mg "_law_made" = some (.ref fM))
    (GB : FnOk P w K mg base CX0 (1 + 12) fB fdB ["_law_tree_here", "_law_title", "_law_given"] (spPut 12)) (bB : Binds K fdB ["_law_tree_here", "_law_title", "_law_given"] []) (kB : PySem.W.keepIn K (.ref fB) = true) (mB : mg "_law_put" = some (.ref fB))
    (GE : FnOk P w K mg base CX0 (4 + 12) fE fdE ["_law_deck_here", "_law_frame", "_law_room", "_law_parts"] (spTree 12)) (bE : Binds K fdE ["_law_deck_here", "_law_frame", "_law_room", "_law_parts"] []) (kE : PySem.W.keepIn K (.ref fE) = true) (mE : mg "_law_tree" = some (.ref fE))
    (GX : FnOk P w K mg base CX0 (9 + 32) fX fdX ["_law_tree_here", "_law_wide"] (spText 32)) (bX : Binds K fdX ["_law_tree_here", "_law_wide"] []) (kX : PySem.W.keepIn K (.ref fX) = true) (mX : mg "_law_text" = some (.ref fX)) :
    GOk P w K mg base CX0 42 f fd ["_law_deck_here"] (spRight TP) := by
  refine gokC F scRight (fun vs H Q E h => ?_) (fun A outer s H vs Q E hr gd h => ?_)
  · obtain ⟨d, rfl, _⟩ := h
    rfl
  obtain ⟨d, rfl, hd, tb, q⟩ := h
  have r1 := hr.mono (by decide : 1 ≤ 41)
  have r2 := hr.mono (by decide : 2 ≤ 41)
  have r3 := hr.mono (by decide : 3 ≤ 41)
  have r9 := hr.mono (by decide : 9 ≤ 41)
  have r12 := hr.mono (by decide : 12 ≤ 41)
  have r13 := hr.mono (by decide : 1 + 12 ≤ 41)
  have r15 := hr.mono (by decide : 15 ≤ 41)
  have r16 := hr.mono (by decide : 4 + 12 ≤ 41)
  have r17 := hr.mono (by decide : 17 ≤ 41)
  have r21 := hr.mono (by decide : 9 + 12 ≤ 41)
  have KD := D.kd
  obtain ⟨t2, hp2, hread⟩ := right_rest D Z GO bO kO mO GM bM kM mM (f := f) (A := A) (outer := outer) (s := s) (H0 := H) (E := E) hr gd
  refine ⟨_, pss_cons (ps_asg (pe_call GP r17 rfl mP kP bP .nil pass0 (pa_cons (pv 0) (pa_cons (pe_op op_add pe_int (pe_call GC r1 rfl mC kC bC .nil pass0 (pa_cons (pv 0) (pa_cons pe_int pa_nil)))) pa_nil)))
      (pg_tup (by rfl) (pgs_cons (pg_name (i := 1) scRight.nd rfl (Or.inl rfl)) (pgs_cons (pg_name (i := 2) scRight.nd rfl (Or.inl rfl)) (pgs_cons (pg_name (i := 3) scRight.nd rfl (Or.inl rfl)) (pgs_cons (pg_name (i := 4) scRight.nd rfl (Or.inl rfl)) pgs_nil))))))
    (pss_cons (ps_set (i := 5) scRight.nd rfl (Or.inl rfl) (pe_call GE r16 rfl mE kE bE .nil pass0 (pa_cons (pv 0) (pa_cons
        (pe_lst (pa_cons (pv 1) (pa_cons (pv 2) (pa_cons (pv 3) (pa_cons (pv 3) (pa_cons (pv 3) (pa_cons pe_bl pa_nil))))))) (pa_cons (pe_op op_add pe_int (pe_call GC r1 rfl mC kC bC .nil pass0 (pa_cons (pv 0) (pa_cons pe_int pa_nil)))) (pa_cons pe_int pa_nil))))))
    (pss_cons (ps_asg (pe_tup (pa_cons (pe_call GM r21 rfl mM kM bM .nil pass0 (pa_cons (pv 4) (pa_cons (pv 1) pa_nil))) (pa_cons (pe_call GM r21 rfl mM kM bM .nil pass0 (pa_cons (pv 5) (pa_cons (pv 1) pa_nil))) (pa_cons (pe_call GX hr rfl mX kX bX .nil pass0 (pa_cons (pv 4) (pa_cons (pv 1) pa_nil))) pa_nil))))
      (pg_tup (by rfl) (pgs_cons (pg_name (i := 6) scRight.nd rfl (Or.inr rfl)) (pgs_cons (pg_name (i := 7) scRight.nd rfl (Or.inr rfl)) (pgs_cons (pg_name (i := 8) scRight.nd rfl (Or.inl rfl)) pgs_nil)))))
    (pss_cons (ps_set (i := 9) scRight.nd rfl (Or.inr rfl) (pe_call GO r2 rfl mO kO bO .nil pass0 (pa_cons (pv 0) (pa_cons (pe_op op_cat (pv 3) (pe_lst (pa_cons pe_str pa_nil))) pa_nil))))
    (pss_cons (ps_set (i := 10) scRight.nd rfl (Or.inl rfl) (pe_call GX hr rfl mX kX bX .nil pass0 (pa_cons (pe_call GB r13 rfl mB kB bB .nil pass0 (pa_cons (pv 4) (pa_cons (pv 9) (pa_cons (pv 5) pa_nil)))) (pa_cons (pv 1) pa_nil))))
    (pss_cons (ps_set (i := 11) scRight.nd rfl (Or.inl rfl) (pe_methA (k := 12) (ps := ["self", "name", "other"]) (sp := spExIn K CF CE Cm Ce kc cls) (ks := ["other", "name"]) (g := gEx) (gV := gExV) (pv 6) r12 passL (pa_cons (pv 9) (pa_cons (pv 7) pa_nil))))
    (pss_cons (ps_if (PW.pt (pw_or (pt_not (pt_val (pe_callB call_isi (by rfl) Z.isinstance PyProof.Rows.boot_isinstance (pa_cons (pv 11) (pa_cons (pe_gref rfl KD.gl) pa_nil)))))
        (pw_or1 (pt_cmpR op_ne (pe_callTy (call_tell (k := 1) r3) (by rfl) Z.str (by decide +kernel) (pa_cons (pv 11) pa_nil)) (pv 10) (nomark _))))) (pss_one ps_dead) pss_nil)
    (pss_cons (ps_set (i := 11) scRight.nd rfl (Or.inl rfl) (pe_methAK (k := 12) (ps := ["self", "name", "other"]) (sp := spExIn K CF CE Cm Ce kc cls) (ks := ["other", "name"]) (g := gEx) (gV := gExV) (pv 6) r12 passL (pk_cons (pv 7) (pk_cons (pv 9) pk_nil))))
    (pss_cons (ps_if (pt_cmpR op_ne (pe_callTy (call_tell (k := 1) r3) (by rfl) Z.str (by decide +kernel) (pa_cons (pv 11) pa_nil)) (pv 10) (nomark _)) (pss_one ps_dead) pss_nil)
    (pss_cons (ps_set (i := 12) scRight.nd rfl (Or.inl rfl) (pe_op op_add pe_int (pe_call GC r1 rfl mC kC bC .nil pass0 (pa_cons (pv 0) (pa_cons pe_int pa_nil)))))
    (pss_cons (ps_set (i := 13) scRight.nd rfl (Or.inl rfl) (pe_lst (pa_cons (pe_op op_add_str (pe_op op_add_str (pe_op op_add_str (pe_op op_add_str pe_str (pv 8)) pe_str) (pe_callTy (call_tell (k := 1) r3) (by rfl) Z.str (by decide +kernel) (pa_cons (pv 7) pa_nil))) pe_str)
        (pa_cons (pe_op op_add_str (pe_op op_add_str (pe_op op_add_str (pe_op op_add_str pe_str (pe_callTy (call_tell (k := 1) r3) (by rfl) Z.str (by decide +kernel) (pa_cons (pv 12) pa_nil))) pe_str) (pv 8)) pe_str) pa_nil))))
    (pss_cons (ps_if (pt_cmpR (op_neQ hr.units) (pe_lst (pa_cons (pe_callTy (call_tell (k := 1) r3) (by rfl) Z.str (by decide +kernel) (pa_cons (pe_op (op_binA (k := 9) r9 passL) (pv 6) (pv 7)) pa_nil))
        (pa_cons (pe_callTy (call_tell (k := 1) r3) (by rfl) Z.str (by decide +kernel) (pa_cons (pe_op (op_binA (k := 9) r9 passL) (pv 6) (pv 12)) pa_nil)) pa_nil))) (pv 13) (nomark _)) (pss_one ps_dead) pss_nil)
    hp2))))))))))), ?_⟩
  refine ⟨_, rfl, _, rfl, d, 8, rfl, by decide, by decide, hd, fun r H1 x0 x1 b1 hd1 => ⟨_, _, rfl, rfl, ?_⟩⟩
  refine ⟨d, 1 + r, rfl, hd1, by omega, by omega, fun p b z pt v t ns H2 b2 b4 b3 hd2 hp ht ok kr lz hpt hns ns0 npt => ?_⟩
  refine ⟨p, _, rfl, SqT.of hp, rfl, _, _, rfl, _, _, rfl, _, _, rfl, _, _, rfl, rfl, ?_⟩
  have k8 : t.knots ≤ 8 := by omega
  have kpH2 : Kp d H H2 := Kp.but (b1.trans b3)
  have tb2 : Tabs (tabsOf TP) H2 := by
    obtain ⟨_, _, _, _, _, e⟩ := hd
    exact tabs_but tb e (b1.trans b3)
  clear hp b1 b3 hd1
  -- the other tree
  refine ⟨_, rfl, _, rfl, _, rfl, _, rfl, _, rfl, _, rfl, (by show 6 ≤ sizeLine; decide), fun pl nl => ?_⟩
  refine ⟨_, rfl, d, 4, rfl, by decide, by decide, hd2.new nl, fun x5 H5 e0 e1 b6 hd5 => ⟨_, _, rfl, rfl, ?_⟩⟩
  have npl : pl ≠ d := Ne.symm (hd2.off nl)
  have b7 : But d H2 H5 := (But.refl.new nl _).trans b6
  have hl5 := b6 pl _ npl upd_same
  have hp5 := b7 pt _ npt hpt
  refine ⟨d, pl, 1 + x5, 0, b, z, rfl, hd5, ⟨pt, pt, pt, ns, ns, ns, hl5, hp5, hp5, hp5, hns, hns, hns⟩, lz, b2, b4, by omega, by omega, by omega, fun gv H6 g b8 hd6 hg okg kg => ?_⟩
  have hg6 : TrAt H6 gv g := TrAt.same newPart_same _ _ hg
  have k4 : g.knots ≤ 4 := by omega
  have b26 := b7.trans b8
  have ht6 := TrAt.but hd2 b26 _ _ ht
  have hpt6 := b26 pt _ npt hpt
  have kp6 : Kp d H H6 := kpH2.trans (Kp.but b26)
  have tb6 : Tabs (tabsOf TP) H6 := by
    obtain ⟨_, _, _, _, _, e⟩ := hd2
    exact tabs_but tb2 e b26
  clear hl5 hp5 b7 b8 b26 hd5 hg ht hpt kpH2 tb2 hd2
  -- mine, mate, line
  refine ⟨_, rfl, _, rfl, v, b, t, rfl, ht6, ok, b2, b4, by omega, by omega, fun mv H7 s7 em => ?_⟩
  refine ⟨_, rfl, _, rfl, gv, b, g, rfl, TrAt.same s7 _ _ hg6, okg, b2, b4, by omega, by omega, fun av H8 s8 ea => ?_⟩
  refine ⟨_, rfl, _, rfl, v, b, t, rfl, TrAt.same (s7.trans s8) _ _ ht6, ok, by omega, by omega, by omega, by omega, fun H9 s9 => ?_⟩
  refine ⟨(by show 3 ≤ sizeLine; decide), fun q9 nq9 => ⟨q9, _, rfl, SqT.of upd_same, rfl, _, _, rfl, _, _, rfl, _, _, rfl, rfl, ?_⟩⟩
  have s10 := (s9.trans (same_new nq9 (.tup [mv, av, .str (t.text b)])))
  have s610 := (s7.trans s8).trans s10
  have em10 := ExAt.same (s8.trans s10) _ _ em
  have ea10 := ExAt.same s10 _ _ ea
  have ht10 := TrAt.same s610 _ _ ht6
  have hg10 := TrAt.same s610 _ _ hg6
  have hpt10 := s610 _ _ hpt6
  have kp10 := kp6.trans (Kp.same s610)
  have tb10 := tb6.ext s610
  have hd10 : DeckAt (upd H9 q9 (.tup [mv, av, .str (t.text b)])) d := hd6.byt s610
  generalize upd H9 q9 (.tup [mv, av, .str (t.text b)]) = H10 at em10 ea10 ht10 hg10 hpt10 kp10 tb10 hd10 ⊢
  clear em ea ht6 hg6 hpt6 kp6 tb6 s7 s8 s9 s10 s610 nq9
  -- the name
  refine ⟨_, rfl, _, rfl, (by show 1 ≤ sizeLine; decide), fun p1 n1 => ⟨pt, p1, _, _, rfl, rfl, upd_other hpt10 n1, upd_same, ?_, fun p2 n2 => ?_⟩⟩
  · have := hns.2
    rw [List.length_map]
    exact small_line (by show ns.length + 1 ≤ 1000; omega)
  have s12 := (same_new n1 (.lst [V.str "nobody"])).trans (same_new n2 (.lst (ns.map V.str ++ [V.str "nobody"])))
  have np2 : d ≠ p2 := (hd10.byt (same_new n1 _)).off n2
  refine ⟨d, p2, _, rfl, np2, SqL.of upd_same, by simp, ?_, ?_, fun x H12 hx b12 hd12 => ?_⟩
  · have := hns.2
    rw [List.length_append, List.length_map]
    show ns.length + 1 ≤ 1000
    omega
  · exact hd10.byt s12
  have hd12' := hd10.byt s12
  obtain ⟨m, rfl, nm⟩ : ∃ m : Str, x = .str m ∧ nameB m = true := by
    rcases List.mem_append.mp hx with hx | hx
    · obtain ⟨m, hm, rfl⟩ := List.mem_map.mp hx
      exact ⟨m, rfl, (hns.1 m hm).1⟩
    · rw [List.mem_singleton.mp hx]
      exact ⟨"nobody", rfl, by decide +kernel⟩
  have nml := nameB_len nm
  obtain ⟨ma, mdx, mfa, rfl, hma, mC⟩ := em10.ref
  have bb12 : But d H10 H12 := (But.of s12).trans b12
  have em12 := ExAt.sm (fun c o hc nl => bb12 c o (deck_ne' hd10 hc nl) hc) _ _ em10
  have ea12 := ExAt.sm (fun c o hc nl => bb12 c o (deck_ne' hd10 hc nl) hc) _ _ ea10
  have ht12 := TrAt.but hd12' b12 _ _ (TrAt.same s12 _ _ ht10)
  have hg12 := TrAt.but hd12' b12 _ _ (TrAt.same s12 _ _ hg10)
  have kp12 := kp10.trans (Kp.but bb12)
  have tb12 : Tabs (tabsOf TP) H12 := by
    obtain ⟨_, _, _, _, _, e⟩ := hd10
    exact tabs_but tb10 e bb12
  clear hpt10 n1 n2 s12 np2 b12 hd12' em10 ea10 ht10 hg10 kp10 tb10 bb12 hma
  -- what is due
  have tnl : ∀ x ∈ t.names, x.length ≤ 1000 := fun x hx => by
    have := nameB_len (names_okT t ok x hx)
    omega
  refine ⟨_, rfl, _, rfl, _, rfl, v, gv, m, t, g, H12, rfl, Same.refl _, ht12, hg12, by omega, by omega, tnl, fun pv' H13 G13 s13 g1 g2 fr hput => ?_⟩
  have hput' := TrAt.same g1 _ _ hput
  have kput : (Tr.put m g t).knots ≤ 32 := by
    have h1 := put_knots m g t
    have h2 : t.knots * g.knots ≤ 8 * 4 := Nat.mul_le_mul k8 k4
    omega
  have tg40 : t.knots * g.knots ≤ 40 := by
    have h2 : t.knots * g.knots ≤ 8 * 4 := Nat.mul_le_mul k8 k4
    omega
  have okp := put_ok m okg t ok
  refine ⟨_, rfl, pv', b, Tr.put m g t, rfl, hput', okp, by omega, by omega, kput, by omega, fun H14 s14 => ?_⟩
  have s1214 := s13.trans s14
  have em14 := ExAt.same s1214 _ _ em12
  have ea14 := ExAt.same s1214 _ _ ea12
  have ht14 := TrAt.same s1214 _ _ ht12
  have kp14 := kp12.trans (Kp.same s1214)
  have tb14 := tb12.ext s1214
  have hd14 := hd12.byt s1214
  clear em12 ea12 ht12 hg12 kp12 tb12 s13 g1 g2 fr hput hput' s14 s1214 hd12 hd10 hd6
  -- exchanged
  obtain ⟨a1, dx1, fa1, e1', h1, hC1⟩ := em14.ref
  cases e1'
  refine ⟨_, rfl, ma, _, dx1, _, rfl, h1, D.ex _ hC1, rfl, _, rfl, _, rfl, .ref ma, .str m, av, rfl, .inl ⟨m, b, t, g, rfl, nm, em14, ea14, ok, okg, b2, b4, tg40, fun r15 H15 s15 er => ?_⟩⟩
  obtain ⟨ty15, tx15, kx15⟩ := er.isx D.ix
  obtain ⟨ra, rdx, rfa, rdfa, rpm, rpi, rpl, rfl, rC, rg1, rg2⟩ := er.parts
  refine ⟨_, rfl, _, _, ty15, _, true, rfl, .own CE, tx15, kx15, _, rfl, iteF ?_⟩
  refine ⟨_, rfl, _, rfl, .inr (.inr ⟨ra, _, rdx, _, spStr _ CF, rfl, rg1, D.kl.str _ rC, ra, rdx, rfa, rdfa, _, _, _, rfl, rg1, rfl, rg2, rfl, _, rfl, ?_⟩)⟩
  refine ⟨_, rfl, rfl, _, rfl, ?_⟩
  rw [decide_eq_true rfl]
  refine iteF ?_
  have em15 := ExAt.same s15 _ _ em14
  have ea15 := ExAt.same s15 _ _ ea14
  have ht15 := TrAt.same s15 _ _ ht14
  have kp15 := kp14.trans (Kp.same s15)
  have tb15 := tb14.ext s15
  have hd15 := hd14.byt s15
  have h15 := s15 _ _ h1
  refine ⟨_, rfl, ma, _, dx1, _, rfl, h15, D.ex _ hC1, rfl, _, rfl, _, rfl, .ref ma, .str m, av, rfl, .inl ⟨m, b, t, g, rfl, nm, em15, ea15, ok, okg, b2, b4, tg40, fun r16 H16 s16 er2 => ?_⟩⟩
  obtain ⟨ra2, rdx2, rfa2, rdfa2, rpm2, rpi2, rpl2, rfl, rC2, qg1, qg2⟩ := er2.parts
  refine ⟨_, rfl, _, rfl, .inr (.inr ⟨ra2, _, rdx2, _, spStr _ CF, rfl, qg1, D.kl.str _ rC2, ra2, rdx2, rfa2, rdfa2, _, _, _, rfl, qg1, rfl, qg2, rfl, _, rfl, ?_⟩)⟩
  refine ⟨_, rfl, rfl, _, rfl, ?_⟩
  rw [decide_eq_true rfl]
  refine iteF ?_
  have em16 := ExAt.same s16 _ _ em15
  have ea16 := ExAt.same s16 _ _ ea15
  have ht16 := TrAt.same s16 _ _ ht15
  have kp16 := kp15.trans (Kp.same s16)
  have tb16 := tb15.ext s16
  have hd16 := hd15.byt s16
  have h16 := s16 _ _ h15
  clear em14 ea14 ht14 kp14 tb14 hd14 h1 em15 ea15 ht15 kp15 tb15 hd15 h15 er er2 s15 s16
  -- the size
  refine ⟨_, rfl, d, 9, rfl, by decide, by decide, hd16, fun sz H17 z0 z1 b17 hd17 => ⟨_, _, rfl, rfl, ?_⟩⟩
  have sm17 : Sm H16 H17 := fun c o hc nl => b17 c o (deck_ne' hd16 hc nl) hc
  have em17 := ExAt.sm sm17 _ _ em16
  have ea17 := ExAt.sm sm17 _ _ ea16
  have ht17 := TrAt.but hd16 b17 _ _ ht16
  have kp17 := kp16.trans (Kp.but b17)
  have tb17 : Tabs (tabsOf TP) H17 := by
    obtain ⟨_, _, _, _, _, e⟩ := hd16
    exact tabs_but tb16 e b17
  have h17 := sm17 _ _ h16 (by intro xs z; cases z)
  clear em16 ea16 ht16 kp16 tb16 hd16 h16 sm17 b17
  obtain ⟨ga, gdx, gfa, gdfa, gpm, gpi, gpl, rfl, gC, gg1, gg2⟩ := ea17.parts
  have b0 : 0 ≤ b := by omega
  have b9 : b ≤ 9 := by omega
  have tl := text_len b0 b9 t ok
  have gl := text_len b0 b9 g okg
  obtain ⟨zs1, zs2⟩ := fig_okI (n := 1 + sz) (by omega) (by omega)
  have c1 : ("lead(" : Str).length = 5 := by decide +kernel
  have c2 : (", " : Str).length = 2 := by decide +kernel
  have c3 : (")" : Str).length = 1 := by decide +kernel
  have c4 : ("drop(" : Str).length = 5 := by decide +kernel
  have ln : (1000 : Nat) ≤ sizeLine := by decide
  have eL : ((("lead(" : Str) ++ t.text b ++ ", ") ++ g.text b) ++ ")" = Tr.text b (.lead t g) := by
    simp only [Tr.text, spell_eq, join2, PySem.Str.append_assoc]
    rw [show ("lead(" : Str) = "lead" ++ "(" by decide +kernel, PySem.Str.append_assoc]
  have eD : ((("drop(" : Str) ++ toString (1 + sz) ++ ", ") ++ t.text b) ++ ")" = Tr.text b (.drop (1 + sz) t) := by
    simp only [Tr.text, spell_eq, join2, PySem.Str.append_assoc]
    rw [show ("drop(" : Str) = "drop" ++ "(" by decide +kernel, PySem.Str.append_assoc]
  refine ⟨_, rfl, _, _, rfl, rfl, (by simp only [PySem.Str.length_append, c1, c2, c3]; omega), _, _, rfl, rfl, (by simp only [PySem.Str.length_append, c1, c2, c3]; omega), ?_⟩
  refine ⟨_, rfl, _, rfl, .inr (.inr ⟨ga, _, gdx, _, spStr _ CF, rfl, gg1, D.kl.str _ gC, ga, gdx, gfa, gdfa, _, _, _, rfl, gg1, rfl, gg2, rfl, _, rfl, ?_⟩)⟩
  refine ⟨_, _, rfl, rfl, (by simp only [PySem.Str.length_append, c1, c2, c3]; omega), _, _, rfl, rfl, (by simp only [PySem.Str.length_append, c1, c2, c3]; omega), ?_⟩
  rw [eL]
  refine ⟨_, rfl, _, rfl, .inl ⟨1 + sz, rfl, small_log ⟨by omega, by omega⟩, ?_⟩⟩
  refine ⟨_, _, rfl, rfl, (by simp only [PySem.Str.length_append, c4, c2, c3]; omega), _, _, rfl, rfl, (by simp only [PySem.Str.length_append, c4, c2, c3]; omega), ?_⟩
  refine ⟨_, rfl, _, _, rfl, rfl, (by simp only [PySem.Str.length_append, c4, c2, c3]; omega), _, _, rfl, rfl, (by simp only [PySem.Str.length_append, c4, c2, c3]; omega), ?_⟩
  rw [eD]
  refine ⟨(by show 2 ≤ sizeLine; decide), fun p18 n18 => ?_⟩
  have s18 := same_new n18 (.lst [V.str (Tr.text b (.lead t g)), .str (Tr.text b (.drop (1 + sz) t))])
  have hl18 : upd H17 p18 (.lst [V.str (Tr.text b (.lead t g)), .str (Tr.text b (.drop (1 + sz) t))]) p18 = some (.lst [V.str (Tr.text b (.lead t g)), .str (Tr.text b (.drop (1 + sz) t))]) := upd_same
  have em18 := ExAt.same s18 _ _ em17
  have ea18 := ExAt.same s18 _ _ ea17
  have ht18 := TrAt.same s18 _ _ ht17
  have kp18 := kp17.trans (Kp.same s18)
  have tb18 := tb17.ext s18
  have hd18 := hd17.byt s18
  have h18 := s18 _ _ h17
  have gg18 := s18 _ _ gg1
  generalize upd H17 p18 (.lst [V.str (Tr.text b (.lead t g)), .str (Tr.text b (.drop (1 + sz) t))]) = H18 at s18 hl18 em18 ea18 ht18 kp18 tb18 hd18 h18 gg18 ⊢
  clear em17 ea17 ht17 kp17 tb17 hd17 h17 gg1 gg2 n18 s18
  -- the operators
  refine ⟨_, rfl, _, rfl, ma, _, _, _, _, _, rfl, h18, D.add _ hC1, .ins gg18, D.addR _ _ hC1 gC, .ref ma, .ref ga, b, t, rfl, em18, ok, b2, b4, by omega, .inl ⟨g, ea18, okg, by omega, fun a19 H19 s19 e19 => ⟨a19, rfl, ?_⟩⟩⟩
  obtain ⟨xa, xdx, xfa, xdfa, xpm, xpi, xpl, exr, xC, xg1, xg2⟩ := e19.parts
  cases exr
  refine ⟨_, rfl, .inr (.inr ⟨a19, _, xdx, _, spStr _ CF, rfl, xg1, D.kl.str _ xC, a19, xdx, xfa, xdfa, _, _, _, rfl, xg1, rfl, xg2, rfl, _, rfl, ?_⟩)⟩
  have h19 := s19 _ _ h18
  refine ⟨_, rfl, _, rfl, ma, _, _, _, _, _, rfl, h19, D.rsh _ hC1, .int _, D.rshT _ hC1 "int" (by simp [types7]), .ref ma, .int (1 + sz), b, t, rfl, ExAt.same s19 _ _ em18, ok, b2, b4, by omega, .inl ⟨1 + sz, rfl, by omega, by omega, fun a20 H20 s20 e20 => ⟨a20, rfl, ?_⟩⟩⟩
  obtain ⟨ya, ydx, yfa, ydfa, ypm, ypi, ypl, eyr, yC, yg1, yg2⟩ := e20.parts
  cases eyr
  refine ⟨_, rfl, .inr (.inr ⟨a20, _, ydx, _, spStr _ CF, rfl, yg1, D.kl.str _ yC, a20, ydx, yfa, ydfa, _, _, _, rfl, yg1, rfl, yg2, rfl, _, rfl, ?_⟩)⟩
  refine ⟨(by show 2 ≤ sizeLine; decide), fun p21 n21 => ?_⟩
  have s21 := (s19.trans s20).trans (same_new n21 (.lst [V.str (Tr.text b (.lead t g)), .str (Tr.text b (.drop (1 + sz) t))]))
  have sh2 : SeqAt.shaped (.list [.str (Tr.text b (.lead t g)), .str (Tr.text b (.drop (1 + sz) t))]) = true := by
    have o1 := text_ok b0 b9 (.lead t g) (.lead ok okg)
    have o2 := text_ok b0 b9 (.drop (1 + sz) t) (.drop (by omega) (by omega) ok)
    show ((PyData.strOk _ && (PyData.strOk _ && true)) && decide (max 0 (max 0 0) + 1 ≤ 64)) = true
    rw [o1, o2]
    rfl
  refine ⟨_, rfl, .list [.str (Tr.text b (.lead t g)), .str (Tr.text b (.drop (1 + sz) t))], .list [.str (Tr.text b (.lead t g)), .str (Tr.text b (.drop (1 + sz) t))], .lst upd_same (.cons (.str _) (.cons (.str _) .nil)), .lst (s21 _ _ hl18) (.cons (.str _) (.cons (.str _) .nil)), sh2, sh2, _, rfl, ?_⟩
  rw [eqv_self sh2]
  refine iteF ?_
  have em21 := ExAt.same s21 _ _ em18
  have ea21 := ExAt.same s21 _ _ ea18
  have ht21 := TrAt.same s21 _ _ ht18
  have kp21 := kp18.trans (Kp.same s21)
  have tb21 := tb18.ext s21
  have hd21 := hd18.byt s21
  have h21 := s21 _ _ h18
  generalize upd H20 p21 (.lst [V.str (Tr.text b (.lead t g)), .str (Tr.text b (.drop (1 + sz) t))]) = H21 at em21 ea21 ht21 kp21 tb21 hd21 h21 ⊢
  clear em18 ea18 ht18 kp18 tb18 hd18 h18 gg18 hl18 s19 s20 s21 n21 e19 e20 xg1 xg2 yg1 yg2 xC yC h19 sh2 eL eD zs1 zs2
  exact hread _ d b z m _ pt ma p18 v gv (.ref ga) _ (1 + sz) t g H21 hd21 tb21 b2 b4 ok okg k8 k4 nm em21 ea21 ht21 (fun H' k t => q H' (kp21.trans k) t)
end
end Wp

/-! a law's end: no guard stands below, and some defs make lambdas (their code tables grow) -/
namespace Hx
open PySem PySem.Spec PyProof.Rows L2 LamX
/-- the tables, as they stand at first -/
def tabO : HO := .tbl #[]
/-- the script at a (if it is no part of K) and the tables -/
def startH (ts : List Addr) (keep : Bool) (a : Addr) (vs : List Value) (ns : List Int) : Hp := fun b => if b ∈ ts then some tabO else if keep = true ∧ b = a then some (scriptO vs ns) else none
section
variable {P : Program} {w : World} {K : PySem.W.Frag} {mg mb : Str → Option Value} {k : Nat} {fa a : Addr} {fd : FuncData} {x : Str} {sp : Sp}
  {s1 : Shared} {vs : List Value} {ns : List Int} {ts : List (Addr × Addr)} {keep : Bool}
theorem start_cases {l : List Addr} {b : Addr} {u : HO} (h : startH l keep a vs ns b = some u) : (b ∈ l ∧ u = tabO) ∨ (b ∉ l ∧ keep = true ∧ b = a ∧ u = scriptO vs ns) := by
  unfold startH at h
  by_cases c : b ∈ l
  · rw [if_pos c] at h
    exact .inl ⟨c, (Option.some.inj h).symm⟩
  · rw [if_neg c] at h
    by_cases c2 : keep = true ∧ b = a
    · rw [if_pos c2] at h
      exact .inr ⟨c, c2.1, c2.2, (Option.some.inj h).symm⟩
    · rw [if_neg c2] at h
      cases h
theorem enter_tabs (KX : K.In s1.heap) (hglob : s1.heap.Ns mainGlobals mg) (hblt : s1.heap.Ns builtinsNs mb)
    (hboot : ∀ x : Str, x ≠ "__name__" → mb x = bootBuiltins x) (hlim : s1.heap.NoLimit) (hmods : ∃ mm, s1.heap.Ns sysModules mm) (hgen : s1.gens = #[])
    (tab : ∀ p ∈ ts, s1.heap.get? p.2 = some { cls := .none, data := .fields #[] }) (tabK : ∀ p ∈ ts, K.lookup p.2 = none) (code : ∀ p ∈ ts, PySem.W.CodeHd s1.heap p.1 p.2)
    (hbm : ∃ (bm : Addr) (ob : Obj), mg "__builtins__" = some (.ref bm) ∧ bm ≠ builtinsNs ∧ s1.heap.get? bm = some ob ∧ ob.cls = .type "module" ∧ ob.dict = some builtinsNs ∧ ob.data = .plain)
    (ha : s1.heap.get? a = some { cls := .type "list", data := .seq vs.toArray }) (room : Room k callerA)
    (F : ∀ base : Heap, K.In base → base.Ns mainGlobals mg → Mods base → (∀ p ∈ ts, TabB base mg p.1 p.2) → GOk P w K mg base CX0 k fa fd [x] sp)
    (hbind : ∀ (s : Shared) (u : Value), BindsTo s fd ⟨[u], []⟩ [(x, u)])
    (hK : keep = true → K.lookup a = none) (hok : HOk P w (startH (ts.map (·.2)) keep a vs ns) s1.heap)
    (hsp : sp [.ref a] (startH (ts.map (·.2)) keep a vs ns) (fun v _ => v = .bl true) E0) :
    codeAny (model P w) callerA (.call (.ref fa) ⟨[.ref a], []⟩) (fun r s' => r = .ok (.ret (.bool true)) ∧ OldK s1.heap s'.heap ∧ s'.os = s1.os ∧ AllBare s'.gens) s1 := by
  have tabA : ∀ {b : Addr}, b ∈ ts.map (·.2) → ∃ p ∈ ts, p.2 = b ∧ s1.heap.get? b = some { cls := .none, data := .fields #[] } := fun hb => by
    obtain ⟨p, hp, e⟩ := List.mem_map.mp hb
    exact ⟨p, hp, e, e ▸ tab p hp⟩
  -- what is told of an address that is looked at here: it is the script, or a table, or nothing
  have free : ∀ {b : Addr} {o : Obj}, s1.heap.get? b = some o → (∀ zs n, o.data ≠ .seq zs n) → o.data ≠ .fields #[] → startH (ts.map (·.2)) keep a vs ns b = none := by
    intro b o e h1 h2
    cases hb : startH (ts.map (·.2)) keep a vs ns b with
    | none => rfl
    | some u =>
      rcases start_cases hb with ⟨c, _⟩ | ⟨_, _, rfl, _⟩
      · obtain ⟨p, _, _, z⟩ := tabA c
        rw [e] at z
        cases z
        exact (h2 rfl).elim
      · rw [ha] at e
        cases e
        exact (h1 _ _ rfl).elim
  have freeD : ∀ {b : Addr} {o : Obj} {es : Array DictEntry} {ep : Nat}, s1.heap.get? b = some o → o.data = .dict es ep → startH (ts.map (·.2)) keep a vs ns b = none := fun e d =>
    free e (fun zs n z => by rw [d] at z; cases z) (fun z => by rw [d] at z; cases z)
  have nsBase : ∀ {b : Addr} {m : Str → Option Value}, s1.heap.Ns b m → (hidT s1.heap (startH (ts.map (·.2)) keep a vs ns)).Ns b m := fun {b m} ⟨o, es, ep, e, d, r⟩ =>
    ⟨o, es, ep, hidT_get e (freeD e d), d, r⟩
  have inBase : K.In (hidT s1.heap (startH (ts.map (·.2)) keep a vs ns)) := by
    intro b o e
    refine hidT_get (KX b o e) ?_
    cases hb : startH (ts.map (·.2)) keep a vs ns b with
    | none => rfl
    | some u =>
      rcases start_cases hb with ⟨c, _⟩ | ⟨_, c, rfl, _⟩
      · obtain ⟨p, hp, e2, _⟩ := tabA c
        rw [← e2, tabK p hp] at e
        cases e
      · rw [hK c] at e
        cases e
  have modOk : Mod K mg (hidT s1.heap (startH (ts.map (·.2)) keep a vs ns)) := by
    refine ⟨inBase, nsBase hglob, ⟨mb, nsBase hblt, hboot⟩, ?_⟩
    obtain ⟨mc, l1, l2⟩ := hlim
    exact ⟨mc, nsBase l1, l2⟩
  have modsOk : Mods (hidT s1.heap (startH (ts.map (·.2)) keep a vs ns)) := by
    obtain ⟨mm, hm⟩ := hmods
    obtain ⟨o, es, ep, e, _⟩ := nsBase hm
    exact ⟨o, e⟩
  have tabs : ∀ p ∈ ts, TabB (hidT s1.heap (startH (ts.map (·.2)) keep a vs ns)) mg p.1 p.2 := by
    intro p hp
    have isTab := tab p hp
    constructor
    · obtain ⟨o, us, file, tf, flags, tg, inF, text, tt, e1, r1, r2, r3, rest⟩ := code p hp
      refine ⟨o, us, file, tf, flags, tg, inF, text, tt, hidT_get e1 (free e1 (fun zs n z => ?_) fun z => ?_), r1, r2, r3, rest⟩
      · rw [r2] at z
        cases z
      · rw [r2] at z
        cases z
        simp at r3
    · obtain ⟨bm, ob, b1, b2, b3, b4, b5, b6⟩ := hbm
      refine ⟨bm, ob, b1, b2, fun z => ?_, fun z => ?_, hidT_get b3 (free b3 (fun zs n z => ?_) fun z => ?_), b4, b5, b6⟩
      · obtain ⟨o, es, ep, e, hd, _⟩ := hglob
        rw [z, e] at b3
        cases b3
        rw [hd] at b6
        cases b6
      · rw [z, isTab] at b3
        cases b3
        cases b6
      · rw [b6] at z
        cases z
      · rw [b6] at z
        cases z
    · intro z
      obtain ⟨o, es, ep, e, hd, _⟩ := hglob
      rw [z, isTab] at e
      cases e
      cases hd
  have start0 : Env0 P w K mg (hidT s1.heap (startH (ts.map (·.2)) keep a vs ns)) callerA [] s1 (startH (ts.map (·.2)) keep a vs ns) :=
    { frames := rfl, mod := modOk, bs := fun b o e => of_hidT e, bsz := Nat.le_of_eq (hidT_size _ _), funs := trivial,
      frf := fun b hb => absurd (show b ∈ ([] : List Addr) from hb) (by simp), hok := hok, bare := .of_eq hgen }
  have run := (F _ inBase (nsBase hglob) modsOk tabs).goes callerA [] s1 _ ⟨[.ref a], []⟩ [.ref a] [.ref a] _ _ room rfl start0 (hbind s1 (.ref a)) (.cons rfl .nil) hsp
  refine codeAny_mono run ?_
  intro r s' hr
  cases r with
  | error e => exact (show False from hr).elim
  | ok fl =>
    cases fl with
    | next => exact hr.elim
    | brk => exact hr.elim
    | cont => exact hr.elim
    | ret u =>
      obtain ⟨v, H', osEq, bare, un, hok', rel, rfl⟩ := hr
      cases (show u = Value.bool true from rel)
      have more : ∀ p ∈ ts, ∃ zs : Array Value, s'.heap.get? p.2 = some { cls := .none, data := .fields zs } := fun p hp => by
        obtain ⟨zs, z⟩ := un.tbls p.2 #[] (if_pos (List.mem_map.mpr ⟨p, hp, rfl⟩))
        exact ⟨_, hok' p.2 _ z⟩
      have rest : ∀ b o, b ∉ ts.map (·.2) → s1.heap.get? b = some o → s'.heap.get? b = some o := by
        intro b o nb e
        cases hb : startH (ts.map (·.2)) keep a vs ns b with
        | none => exact un.keep b o e hb (fun z => absurd (show b ∈ ([] : List Addr) from z) (by simp)) (by simp)
        | some u =>
          rcases start_cases hb with ⟨c, _⟩ | ⟨_, _, rfl, rfl⟩
          · exact (nb c).elim
          · have stay := un.frzs b _ _ hb
            obtain ⟨e1, _⟩ := hok b _ hb
            obtain ⟨e2, _⟩ := hok' b _ stay
            rw [e] at e1
            rw [e2, ← Option.some.inj e1]
      refine ⟨rfl, ⟨fun b o e => ?_, fun b o e => ?_⟩, osEq, bare⟩
      · by_cases c : b ∈ ts.map (·.2)
        · obtain ⟨p, hp, rfl, z⟩ := tabA c
          obtain ⟨zs, m⟩ := more p hp
          rw [e] at z
          cases z
          exact .inr (.inl ⟨((code p hp).tab (tab p hp)).isCodeTable, rfl, #[], zs, rfl, by rw [Array.empty_append]; exact m⟩)
        · exact .inl (rest b o c e)
      · by_cases c : b ∈ ts.map (·.2)
        · obtain ⟨p, hp, rfl, z⟩ := tabA c
          obtain ⟨zs, m⟩ := more p hp
          exact ⟨_, m⟩
        · exact ⟨o, rest b o c e⟩
theorem law_tabs (KX : K.In s1.heap) (hglob : s1.heap.Ns mainGlobals mg) (hblt : s1.heap.Ns builtinsNs mb)
    (hboot : ∀ x : Str, x ≠ "__name__" → mb x = bootBuiltins x) (hlim : s1.heap.NoLimit) (hmods : ∃ mm, s1.heap.Ns sysModules mm) (hgen : s1.gens = #[])
    (tab : ∀ p ∈ ts, s1.heap.get? p.2 = some { cls := .none, data := .fields #[] }) (tabK : ∀ p ∈ ts, K.lookup p.2 = none) (code : ∀ p ∈ ts, PySem.W.CodeHd s1.heap p.1 p.2)
    (hbm : ∃ (bm : Addr) (ob : Obj), mg "__builtins__" = some (.ref bm) ∧ bm ≠ builtinsNs ∧ s1.heap.get? bm = some ob ∧ ob.cls = .type "module" ∧ ob.dict = some builtinsNs ∧ ob.data = .plain)
    (ha : s1.heap.get? a = some { cls := .type "list", data := .seq vs.toArray }) (hi : IntsAre vs ns) (hl : ns.length ≤ sizeLine) (room : Room k callerA)
    (F : ∀ base : Heap, K.In base → base.Ns mainGlobals mg → Mods base → (∀ p ∈ ts, TabB base mg p.1 p.2) → GOk P w K mg base CX0 k fa fd [x] sp)
    (hbind : ∀ (s : Shared) (u : Value), BindsTo s fd ⟨[u], []⟩ [(x, u)])
    (hsp : ∀ H : Hp, (∀ p ∈ ts, H p.2 = some (.tbl #[])) → SqL K H a (ns.map V.int) → sp [.ref a] H (fun v _ => v = .bl true) E0) :
    codeAny (model P w) callerA (.call (.ref fa) ⟨[.ref a], []⟩) (fun r s' => r = .ok (.ret (.bool true)) ∧ OldK s1.heap s'.heap ∧ s'.os = s1.os ∧ AllBare s'.gens) s1 := by
  have rel := vals_ints hi
  have aT : a ∉ ts.map (·.2) := fun z => by
    obtain ⟨p, hp, e⟩ := List.mem_map.mp z
    have q := tab p hp
    rw [e, ha] at q
    cases congrArg Obj.data (Option.some.inj q)
  have okAll : ∀ keep : Bool, HOk P w (startH (ts.map (·.2)) keep a vs ns) s1.heap := fun keep b u h => by
    rcases start_cases h with ⟨c, rfl⟩ | ⟨_, _, rfl, rfl⟩
    · obtain ⟨p, hp, rfl⟩ := List.mem_map.mp c
      exact tab p hp
    · exact ⟨ha, by rw [List.length_map]; exact hl, vs, _, rel, ha⟩
  have tabAt : ∀ keep : Bool, ∀ p ∈ ts, startH (ts.map (·.2)) keep a vs ns p.2 = some (.tbl #[]) := fun keep p hp => if_pos (List.mem_map.mpr ⟨p, hp, rfl⟩)
  cases hk : K.lookup a with
  | some o =>
    have e := KX a o hk
    rw [ha] at e
    cases e
    refine enter_tabs (keep := false) KX hglob hblt hboot hlim hmods hgen tab tabK code hbm ha room F hbind (fun z => by cases z) (okAll false) (hsp _ (tabAt false) (.inr ⟨_, vs.toArray, _, hk, rfl, rfl, rfl, ?_, by simpa using rel⟩))
    rw [List.size_toArray, hi.length]
    exact hl
  | none =>
    have at_a : startH (ts.map (·.2)) true a vs ns a = some (scriptO vs ns) := by
      unfold startH
      rw [if_neg aT, if_pos ⟨rfl, rfl⟩]
    exact enter_tabs (keep := true) KX hglob hblt hboot hlim hmods hgen tab tabK code hbm ha room F hbind (fun _ => hk) (okAll true) (hsp _ (tabAt true) (.inl (.inr ⟨_, at_a⟩)))
end
/-- the goal that head_any leaves, for a law whose defs make lambdas and ask that no guard stands below -/
theorem walk_GT {l : PySem.W.OpenLaw} {n k : Nat} {q : Program} {loose : List Str} {XP : (Str → Option Value) → Heap → Prop} {YP : World → Heap → Prop} {d : DefRec} {x : Str}
    (hn : l.most = some n) (hn2 : n ≤ sizeLine) (hdf : d.params.defaults = []) (room : Room k callerA) (himp : importsNone q = true)
    (F : ∀ (w : World) (mg : Str → Option Value) (fa : Addr) (h : Heap), YP w h → h.Ns mainGlobals mg → mg d.name = some (.ref fa) →
      ∃ (K : PySem.W.Frag) (ts : List (Addr × Addr)) (fd : FuncData) (sp : Sp), K.In h ∧ (∀ p ∈ ts, h.get? p.2 = some { cls := .none, data := .fields #[] }) ∧ (∀ p ∈ ts, K.lookup p.2 = none) ∧ (∀ p ∈ ts, PySem.W.CodeHd h p.1 p.2) ∧
        (∀ (s : Shared) (u : Value), BindsTo s fd ⟨[u], []⟩ [(x, u)]) ∧
        (∀ (H : Hp) (a : Addr) (ns : List Int), ns.length ≤ n → (∀ p ∈ ts, H p.2 = some (.tbl #[])) → SqL K H a (ns.map V.int) → sp [.ref a] H (fun v _ => v = .bl true) E0) ∧
        ∀ base : Heap, K.In base → base.Ns mainGlobals mg → Mods base → (∀ p ∈ ts, TabB base mg p.1 p.2) → GOk l.prog w K mg base CX0 k fa fd [x] sp) :
    PySem.W.WalkO q loose XP YP l.row.toRowW d [] (fun f vs => PySem.call f vs) := by
  refine Att.attach_call hn hdf ?_
  intro w s0 s1 mg mb fa o pm cd doc a vs ns G Y ho hd hcd hmg hobj hints hlen hgen
  obtain ⟨K, ts, fd, sp, KX, t1, t2, t3, hb, hsp, hF⟩ := F w mg fa _ Y G.T.g hmg
  obtain ⟨mm, hmm, _⟩ := (G.T.seer himp).mods
  exact law_tabs KX G.T.g G.T.b G.T.builtins G.T.nolimit ⟨mm, hmm⟩ hgen t1 t2 t3 G.T.bmain hobj hints (Nat.le_trans hlen hn2) room hF hb fun H hT hS => hsp H a ns hlen hT hS
end Hx

namespace Wp
open PySem PySem.Spec PyProof.Rows L2 Hx LamX
def spLaw (K : PySem.W.Frag) (TP : Addr) : Sp := fun vs H Q _ => ∃ (a : Addr) (ns : List Int), vs = [.ref a] ∧ SqL K H a (ns.map V.int) ∧ ns.length ≤ 63 ∧ Tabs (tabsOf TP) H ∧ ∀ H', Q (.bl true) H'
structure Bltn4 (mg : Str → Option Value) : Prop where
  range : mg "range" = none
  max : mg "max" = none
  min : mg "min" = none
  len : mg "len" = none
  all : mg "all" = none
theorem scLaw : FnScope ["_law_cells", "_law_turn"] ["_law_cells"] (defScope s_law) := ⟨rfl, rfl, rfl, by decide +kernel, rfl, by decide +kernel, by decide +kernel⟩
theorem ExtN.seq {K : PySem.W.Frag} {a : Addr} {H H' : Hp} {xs : List V} (e : ExtN H H') (h : SqL K H a xs) : SqL K H' a xs := by
  rcases h with (h | ⟨o, h⟩) | h
  · exact .inl (.inl (e _ _ h fun ps z => by cases z))
  · exact .inl (.inr ⟨o, e _ _ h fun ps z => by cases z⟩)
  · exact .inr h
section
variable {P : Program} {w : World} {K : PySem.W.Frag} {mg : Str → Option Value} {base : Heap} {TP : Addr}
theorem ok_law {f fD fR : Addr} {fd fdD fdR : FuncData} (F : Fun K "law" "law" s_law f fd) (Z : Bltn4 mg)
    (GD : FnOk P w K mg base CX0 1 fD fdD ["_law_cells", "_law_turn"] (spDeck K)) (bD : Binds K fdD ["_law_cells", "_law_turn"] []) (kD : PySem.W.keepIn K (.ref fD) = true) (mD : mg "_law_deck" = some (.ref fD))
    (GR : GOk P w K mg base CX0 42 fR fdR ["_law_deck_here"] (spRight TP)) (bR : Binds K fdR ["_law_deck_here"] []) (kR : PySem.W.keepIn K (.ref fR) = true) (mR : mg "_law_right" = some (.ref fR)) :
    GOk P w K mg base CX0 43 f fd ["_law_cells"] (spLaw K TP) := by
  refine gok0 F scLaw (fun vs H Q E h => ?_) (fun cdv A outer s H vs Q E hr gd h => ?_)
  · obtain ⟨a, ns, rfl, _⟩ := h
    rfl
  obtain ⟨a, ns, rfl, hS, h63, tb, q⟩ := h
  have r1 := hr.mono (by decide : 1 ≤ 42)
  refine ⟨_, pss_one (ps_ret (pe_callB (cr_all rfl) (by rfl) Z.all PyProof.Rows.boot_all (pa_cons
      (pe_lc (te := tCall (spRight TP) [] E0 (tCons (tCall (spDeck K) [] E0 (tCons (tVar 0) (tCons (tVar 1) tNil))) tNil)) (own := [("_law_turn", 1)]) (g := gName 1) (tt := tYes) rfl scLaw.nd
        (pi_range1 rfl Z.range (pa_cons (pe_callB (call_max2 rfl) (by rfl) Z.max PyProof.Rows.boot_max (pa_cons pe_int (pa_cons
          (pe_callB (call_min2 rfl) (by rfl) Z.min PyProof.Rows.boot_min (pa_cons (pe_callB call_len_seq (by rfl) Z.len PySem.boot_len (pa_cons (pv 0) pa_nil)) (pa_cons pe_int pa_nil))) pa_nil))) pa_nil))
        (blkOk_by (N := ["_law_cells", "_law_turn"]) (sc := defScope s_law) (by decide +kernel))
        (fun _ _ _ _ _ => pg_name (i := 1) scLaw.nd rfl (Or.inl rfl)) (fun _ _ _ _ _ => pts_nil)
        (fun _ _ _ _ _ => pe_callG GR hr gd rfl mR kR bR .nil pass0 (pa_cons (pe_call GD r1 rfl mD kD bD .nil pass0 (pa_cons (pv 0) (pa_cons (pv 1) pa_nil))) pa_nil))) pa_nil))), ?_⟩
  have hl : (ns.map V.int).length = ns.length := List.length_map _
  refine ⟨_, rfl, a, _, rfl, .inl hS, _, _, rfl, _, _, rfl, ?_⟩
  generalize hnum : (if (if (8 : Int) < (((ns.map V.int).length : Nat) : Int) then (8 : Int) else (((ns.map V.int).length : Nat) : Int)) > 2 then (if (8 : Int) < (((ns.map V.int).length : Nat) : Int) then (8 : Int) else (((ns.map V.int).length : Nat) : Int)) else 2) = z
  have hz : 2 ≤ z ∧ z ≤ 8 := by
    rw [← hnum]
    split <;> split <;> omega
  refine ⟨z, rfl, by omega, by omega, fun D hD => ?_⟩
  refine lc_range (lo := 0) (n := z.toNat) (fun i H' => ExtN H H' ∧ Tabs (tabsOf TP) H' ∧ H' D = some (.lst ((List.replicate i true).map V.bl))) ⟨ExtN.of (same_new hD _), tb.ext (same_new hD _), upd_same⟩ ?_ ?_
  · rintro i H' hi ⟨s5, t5, h5⟩
    refine ⟨rfl, turn_yes ?_⟩
    refine ⟨_, rfl, _, rfl, a, ns, i, ?_, ExtN.seq s5 hS, h63, fun p H2 s6 np dk => ?_⟩
    · show [V.ref a, V.int (0 + (i : Int))] = _
      rw [Int.zero_add]
    refine ⟨p, rfl, dk, t5.ext s6, fun H3 b t3 => ?_⟩
    have npD : D ≠ p := ne_of_none h5 np
    have hD3 : H3 D = _ := b _ _ npD rfl (s6 _ _ h5)
    refine ⟨_, hD3, ?_, ?_, ?_, ?_⟩
    · rw [List.length_map, List.length_replicate]
      exact Nat.lt_of_lt_of_le (by omega : i < 1000) (small_line (Nat.le_refl _))
    · intro c o hc nt
      have nD : c ≠ D := ne_of_none hc hD
      rw [upd_ne nD]
      refine b c o (ne_of_none (s5 c o hc nt) np) ?_ (s6 c o (s5 c o hc nt))
      cases o with
      | tbl ps => exact (nt ps rfl).elim
      | _ => rfl
    · exact tabs_but t3 hD3 (But.refl.upd _)
    · rw [upd_same, List.replicate_succ', List.map_append]
      rfl
  · rintro H' ⟨s5, t5, h5⟩
    refine ⟨D, List.replicate z.toNat true, rfl, SqL.of h5, ?_⟩
    have e : (List.replicate z.toNat true).all id = true := by
      rw [List.all_eq_true]
      intro x hx
      exact (List.eq_of_mem_replicate hx)
    rw [e]
    exact q H'
end
end Wp

namespace Wp
open PySem PySem.Spec PyProof.Rows L2 Hx
/-! the head of the program by one run: facts by names -/
/-- a def of the text and where it stands -/
structure DA where
  adr : PySem.W.Frag → Addr
  name : Str
  qual : Str
  st : Stmt
abbrev FnV : Type := He.FnV
def faA (K : PySem.W.Frag) (a : Addr) : FnV := match K.lookup a with
  | some ⟨_, _, .func u, _⟩ => some (u.name, u.qualname, u.params, u.body, u.scope, u.globals, u.closure, u.defaults, u.builtins)
  | _ => none
def DA.val (d : DA) : FnV := some (d.name, d.qual, defArgs d.st, .stmts (defBody d.st), defScope d.st, mainGlobals, [], .none, builtinsNs)
def DA.ok (K : PySem.W.Frag) (d : DA) : Bool := PySem.W.keepIn K (.ref (d.adr K)) && (match K.lookup (d.adr K) with
  | some ⟨_, _, .func u, _⟩ => PySem.W.codeIn K u.code d.qual
  | _ => false)
theorem DA.fun {K : PySem.W.Frag} {d : DA} (e : faA K (d.adr K) = d.val) (c : d.ok K = true) : ∃ fd, Fun K d.name d.qual d.st (d.adr K) fd := by
  obtain ⟨kp, c2⟩ := Bool.and_eq_true_iff.mp c
  unfold faA at e
  cases q : K.lookup (d.adr K) with
  | none =>
    rw [q] at c2
    cases c2
  | some o =>
    obtain ⟨oc, od, dt, osl⟩ := o
    rw [q] at c2 e
    cases dt with
    | func fd =>
      obtain ⟨v1, v2, v3, v4, v5, v6, v7, v8, v9, v10, v11, v12, v13, v14, v15⟩ := fd
      have e2 : (some (v1, v2, v3, v4, v5, v6, v7, v8, v15) : FnV) = some (d.name, d.qual, defArgs d.st, .stmts (defBody d.st), defScope d.st, mainGlobals, [], .none, builtinsNs) := e
      simp only [Option.some.injEq, Prod.mk.injEq] at e2
      obtain ⟨w1, w2, w3, w4, w5, w6, w7, w8, w9⟩ := e2
      subst w1 w2 w3 w4 w5 w6 w7 w8 w9
      exact ⟨_, ⟨oc, od, v9, v10, v11, v12, v13, v14, osl, rfl, q, c2⟩, kp⟩
    | _ => cases c2
abbrev AlZ : Type := Bool × List FnV
def obsZ (ex : PySem.W.Frag → Bool) (ds : List DA) (K : PySem.W.Frag) : AlZ := (ex K && ds.all fun d => d.ok K, ds.map fun d => faA K (d.adr K))
def valZ (ds : List DA) : AlZ := (true, ds.map DA.val)
def SaysZ (ex : PySem.W.Frag → Bool) (ds : List DA) (K : PySem.W.Frag) : Prop := obsZ ex ds K = valZ ds
/-! the addresses that are looked at: the module's names, the classes' own names, getters, code -/
def codesG (g : Addr → Option Obj) (a : Addr) : List Addr := match g a with
  | some ⟨_, _, .func fd, _⟩ => He.refV fd.code
  | _ => []
def nssG (g : Addr → Option Obj) (a : Addr) : List Addr := match g a with
  | some ⟨_, _, .cls cd, _⟩ => [cd.ns]
  | _ => []
def valsG (g : Addr → Option Obj) (a : Addr) : List Addr := match g a with
  | some ⟨_, _, .dict es _, _⟩ => es.toList.flatMap fun e => He.refV e.val
  | _ => []
def fldsG (g : Addr → Option Obj) (a : Addr) : List Addr := match g a with
  | some ⟨_, _, .fields vs, _⟩ => vs.toList.flatMap He.refV
  | _ => []
def asZ3 (g : Addr → Option Obj) (A N M G : List Addr) : List Addr := mainGlobals :: (N ++ (A ++ (M ++ (G ++ (A.flatMap (codesG g) ++ (M.flatMap (codesG g) ++ G.flatMap (codesG g)))))))
def asZ2 (g : Addr → Option Obj) (A N M : List Addr) : List Addr := asZ3 g A N M (M.flatMap (fldsG g))
def asZ1 (g : Addr → Option Obj) (A N : List Addr) : List Addr := asZ2 g A N (N.flatMap (valsG g))
def asZ0 (g : Addr → Option Obj) (A : List Addr) : List Addr := asZ1 g A (A.flatMap (nssG g))
def asZ (g : Addr → Option Obj) : List Addr := asZ0 g (valsG g mainGlobals)
/-! the law's main def: its code object and the table of what it makes -/
def codeR (K : PySem.W.Frag) (a : Addr) : Addr := match K.lookup a with
  | some ⟨_, _, .func fd, _⟩ => (match fd.code with
    | .ref c => c
    | _ => 0)
  | _ => 0
theorem codeR_eq {K : PySem.W.Frag} {a : Addr} {oc : Value} {od : Option Addr} {osl : Array (Option Value)} {fd : FuncData} {c : Addr} (lk : K.lookup a = some ⟨oc, od, .func fd, osl⟩) (e : fd.code = .ref c) : codeR K a = c := by
  unfold codeR
  rw [lk]
  show (match fd.code with | .ref c => c | _ => 0) = c
  rw [e]
def cAt (x : Str) (K : PySem.W.Frag) : Addr := codeR K (He.ga K x)
def tAt (x : Str) (K : PySem.W.Frag) : Addr := He.tabOf K (cAt x K)
def tabZ (x : Str) (K : PySem.W.Frag) (g : Addr → Option Obj) : Bool := PySem.W.codeHdIn K (cAt x K) (tAt x K) && ((match g (tAt x K) with
  | some o => He.emptyTab o
  | none => false) && (K.lookup (tAt x K)).isNone)
structure TabF (x : Str) (K : PySem.W.Frag) (h : Heap) : Prop where
  code : PySem.W.codeHdIn K (cAt x K) (tAt x K) = true
  tab : h.get? (tAt x K) = some { cls := .none, data := .fields #[] }
  out : K.lookup (tAt x K) = none
theorem tabZ_ok {x : Str} {K : PySem.W.Frag} {h : Heap} (e : tabZ x K h.get? = true) : TabF x K h := by
  obtain ⟨e1, e2⟩ := Bool.and_eq_true_iff.mp e
  obtain ⟨e2, e3⟩ := Bool.and_eq_true_iff.mp e2
  refine ⟨e1, ?_, Option.isNone_iff_eq_none.mp e3⟩
  cases q : h.get? (tAt x K) with
  | none =>
    rw [q] at e2
    cases e2
  | some o =>
    rw [q] at e2
    rw [He.emptyTab_eq e2]
def obsTG (x : Str) (ex : PySem.W.Frag → Bool) (ds : List DA) (g : Addr → Option Obj) : AlZ × Bool := (obsZ ex ds (He.frG g (asZ g)), tabZ x (He.frG g (asZ g)) g)
def hookT (x : Str) (ex : PySem.W.Frag → Bool) (ds : List DA) : PySem.W.Hook where
  α := AlZ × Bool
  obs := fun s => obsTG x ex ds s.heap.get?
  val := fun _ => (valZ ds, true)
  says := fun _ h => ∃ K : PySem.W.Frag, K.In h ∧ SaysZ ex ds K ∧ TabF x K h
  of := fun _ _ e => ⟨_, He.frG_in, congrArg Prod.fst e, tabZ_ok (congrArg Prod.snd e)⟩
  keeps := fun _ _ _ ⟨K, isIn, says, t⟩ more => ⟨K, PySem.W.Frag.In.keeps isIn more, says, t.code, more _ _ t.tab, t.out⟩
theorem obsTG_eq {x : Str} {ex : PySem.W.Frag → Bool} {ds : List DA} {g : Addr → Option Obj} {s : Shared} (h : ∀ a, g a = s.heap.get? a) : obsTG x ex ds g = (hookT x ex ds).obs s := by
  have e : g = s.heap.get? := funext h
  rw [e] <;> rfl
theorem FunC.of {K : PySem.W.Frag} {x qual : Str} {st : Stmt} {f : Addr} {fd : FuncData} (F : Fun K x qual st f fd) : FunC K x qual st f fd (codeR K f) := by
  obtain ⟨oc, od, kV, doc, pm, an, cdv, ct, osl, rfl, lk, hcd⟩ := F.ex
  obtain ⟨c, rfl⟩ := He.codeIn_ref hcd
  rw [codeR_eq lk rfl]
  exact ⟨⟨oc, od, kV, doc, pm, an, ct, osl, rfl, lk, hcd⟩, F.kp⟩
theorem SaysZ.ex {ex : PySem.W.Frag → Bool} {ds : List DA} {K : PySem.W.Frag} (c : SaysZ ex ds K) : ex K = true := by
  have c1 : (ex K && ds.all fun d => d.ok K) = true := congrArg (fun z : AlZ => z.1) c
  exact (Bool.and_eq_true_iff.mp c1).1
theorem SaysZ.def_ {ex : PySem.W.Frag → Bool} {ds : List DA} {K : PySem.W.Frag} (c : SaysZ ex ds K) (i : Nat) {d : DA} (h : ds[i]? = some d := by rfl) : ∃ fd, Fun K d.name d.qual d.st (d.adr K) fd := by
  have c1 : (ex K && ds.all fun d => d.ok K) = true := congrArg (fun z : AlZ => z.1) c
  have c2 := (Bool.and_eq_true_iff.mp c1).2
  have e : ds.map (fun d => faA K (d.adr K)) = ds.map DA.val := congrArg (fun z : AlZ => z.2) c
  have e2 : (ds.map fun d => faA K (d.adr K))[i]? = (ds.map DA.val)[i]? := by rw [e]
  rw [List.getElem?_map, List.getElem?_map, h] at e2
  exact DA.fun (Option.some.inj e2) (List.all_eq_true.mp c2 d (List.mem_of_getElem? h))
/-! where things stand -/
def gA (x : Str) (K : PySem.W.Frag) : Addr := He.ga K x
def mA (x m : Str) (K : PySem.W.Frag) : Addr := He.ma K (He.ga K x) m
/-- the getter of a property -/
def pG (x m : Str) (K : PySem.W.Frag) : Addr := match PySem.W.recIn K (He.ma K (He.ga K x) m) "property" with
  | some (.ref g :: _) => g
  | _ => 0
def pB (x m : Str) (K : PySem.W.Frag) : Bool := He.eqO (PySem.W.findIn K (.ref (He.ga K x)) m) (some (some (.ref (He.ma K (He.ga K x) m)))) &&
  (He.eqO (PySem.W.specialIn K (.ref (He.ma K (He.ga K x) m)) "__get__") (some (some (.builtin "property.__get__"))) &&
  (decide (PySem.W.takesIn K (.ref (He.ma K (He.ga K x) m)) = some true) && (match PySem.W.recIn K (He.ma K (He.ga K x) m) "property" with
  | some (.ref _ :: _) => true
  | _ => false)))
theorem pB_ok {K : PySem.W.Frag} {x m : Str} (h : pB x m K = true) : PropOf K (He.ga K x) m (He.ma K (He.ga K x) m) (pG x m K) := by
  obtain ⟨h1, h⟩ := Bool.and_eq_true_iff.mp h
  obtain ⟨h2, h⟩ := Bool.and_eq_true_iff.mp h
  obtain ⟨h3, h4⟩ := Bool.and_eq_true_iff.mp h
  refine ⟨He.eqO_ok h1, He.eqO_ok h2, of_decide_eq_true h3, ?_⟩
  unfold pG
  revert h4
  split
  · rename_i g r e
    intro _
    exact ⟨r, e⟩
  · intro h
    cases h
end Wp

namespace Wp
open PySem PySem.Spec PyProof.Rows L2 Hx
/-! what the head shows, and the run that shows it -/
def errsX : List Str := ["InvalidNumber", "InvalidName", "InvalidSign", "InvalidWord", "InvalidExpression"]
def exErr (K : PySem.W.Frag) (x : Str) : Bool :=
  He.eqO (PySem.W.nsIn K mainGlobals x) (some (some (.ref (He.ga K x)))) && (PySem.W.excInitIn K (He.ga K x) He.veBase "ValueError.__new__" && (PySem.W.excOver K (He.ga K x) He.veBase && (PySem.W.hasDictIn K (He.ga K x) &&
  (He.eqO (PySem.W.findIn K (.ref (He.ga K x)) "__setattr__") (some (some (.builtin "object.__setattr__"))) && (He.eqO (PySem.W.findIn K (.ref (He.ga K x)) "__getattribute__") (some (some (.builtin "BaseException.__getattribute__"))) &&
  (He.eqO (PySem.W.findIn K (.ref (He.ga K x)) "__getattr__") (some none) && (decide (PySem.W.subIn K (.ref (He.ga K x)) (.type "BaseException") = some true) && (PySem.W.keepIn K (.ref (He.ga K x)) &&
  (He.eqO (PySem.W.findIn K (.ref (He.ga K x)) "__class__") (some (some (.builtin "object.__class__"))) && (decide (PySem.W.mroIn K (He.ga K x) (.type "object") = some true) &&
  (He.eqO (PySem.W.findIn K (.ref (He.ga K x)) "__init__") (some (some (.ref (He.ma K (He.ga K x) "__init__")))) && (decide (PySem.W.typeIn K (.ref (He.ma K (He.ga K x) "__init__")) = some (.type "function")) &&
  (decide (PySem.W.takerIn K (He.ga K x) "given" = some none) && (He.eqO (PySem.W.findIn K (.ref (He.ga K x)) "given") (some none) && decide (PySem.W.typeIn K (.ref (He.ga K x)) = some (.type "type"))))))))))))))))
def cnX : List Str := ["Drop", "Lead", "Name", "Part", "Sign", "Turn", "Weave"]
def propsX : List Str := ["kind", "inner", "told", "names", "knots"]
def exCls (K : PySem.W.Frag) (x : Str) : Bool :=
  (He.Fa.glo x).ok K && ((He.Fa.cls x).ok K && ((He.Fa.mkr x).ok K && ((He.Fa.noat x "facts").ok K && ((He.Fa.meth x "__str__").ok K && ((He.Fa.meth x "__repr__").ok K && (propsX.all (fun p => pB x p K) &&
  (He.eqO (PySem.W.findIn K (.ref (He.ga K x)) "__class__") (some (some (.builtin "object.__class__"))) && (decide (PySem.W.mroIn K (He.ga K x) (.type "object") = some true) &&
  (cnX.all (fun y => decide (PySem.W.kitOne K (.ref (He.ga K x)) (.ref (He.ga K y)) = some (decide (x = y)))) && decide (PySem.W.kitOne K (.ref (He.ga K x)) (.ref (He.ga K "Expression")) = some true))))))))))
def exFacts (K : PySem.W.Frag) : Bool := (He.Fa.glo "Facts").ok K && ((He.Fa.cls "Facts").ok K && ((He.Fa.mkr "Facts").ok K && (["word", "marks", "parts", "text", "labels", "size"] : List Str).all fun f => (He.Fa.noat "Facts" f).ok K))
def exOld (K : PySem.W.Frag) : Bool := He.eqO (PySem.W.specialIn K (.builtin "object.__class__") "__get__") (some (some (.builtin "getset_descriptor.__get__"))) && decide (PySem.W.takesIn K (.builtin "object.__class__") = some true)
def glosX : List Str := ["is_integer", "is_within", "is_lettered", "is_name", "check_within", "check_sign", "check_name", "check_word", "spelled", "check_expressions", "knots_above", "exchange", "make", "exchanged_in", "_law_deck", "_law_card", "_law_of", "_law_leaf", "_law_tree", "_law_titles", "_law_signs", "_law_plain", "_law_made", "_law_text", "_law_caught", "_law_put", "_law_right", "law", "Expression", "NO_NAMES"]
def freeX : List Str := ["isinstance", "int", "bool", "str", "len", "all", "list", "set", "sorted", "tuple", "sum", "abs", "divmod", "range", "max", "min", "repr"]
def exConsts (K : PySem.W.Frag) : Bool := (He.Fa.str "LETTERS" "abcdefghijklmnopqrstuvwxyz").ok K && ((He.Fa.int "MOST_LETTERS" 8).ok K && ((He.Fa.int "MOST_SIGNS" 4).ok K && ((He.Fa.int "MOST_BASE" 4).ok K && ((He.Fa.int "LEAST_BASE" 2).ok K && ((He.Fa.int "MOST_DROP" 9).ok K &&
  He.tupB K "NO_NAMES" [.str "weave", .str "part", .str "drop", .str "lead", .str "turn"])))))
def tyX : List String := ["NoneType", "bool", "int", "str", "list", "tuple"]
def exEq1 (K : PySem.W.Frag) (x : Str) : Bool := tyX.all (fun T => PySem.W.notFirst K (He.ga K x) (.type T)) && (cnX.all (fun y => PySem.W.notFirst K (He.ga K x) (.ref (He.ga K y))) && (He.eqO (PySem.W.findIn K (.ref (He.ga K x)) "__bool__") (some none) &&
  (He.eqO (PySem.W.findIn K (.ref (He.ga K x)) "__len__") (some none) && ((He.Fa.meth x "__eq__").ok K && He.eqO (PySem.W.findIn K (.ref (He.ga K x)) "__ne__") (some (some (.builtin "object.__ne__")))))))
def exEq (K : PySem.W.Frag) : Bool := tyX.all (fun T => decide (PySem.W.kitOne K (.type T) (.ref (He.ga K "Expression")) = some false)) && cnX.all (exEq1 K)
def errcX : List Str := ["InvalidExpression", "InvalidName", "InvalidNumber"]
def exCau (K : PySem.W.Frag) : Bool := errcX.all fun x => xfB K (He.ga K x) && errcX.all fun y => decide (PySem.W.exmOne K (.ref (He.ga K x)) (.ref (He.ga K y)) = some (decide (x = y)))
def opsN : List Str := ["__add__", "__radd__", "__rshift__", "__rrshift__"]
def exTy (K : PySem.W.Frag) : Bool := types7.all fun T => decide (PySem.W.kitOne K (.type T) (.ref (He.ga K "Expression")) = some false) && opsN.all fun n => (PySem.W.findIn K (.type T) n).isSome
def exBin (K : PySem.W.Frag) (x : Str) : Bool := (He.Fa.meth x "__add__").ok K && ((He.Fa.meth x "__rshift__").ok K && ((He.Fa.meth x "exchanged").ok K && (PySem.W.selfFirst K (He.ga K x) && (He.eqO (PySem.W.findIn K (.ref (He.ga K x)) "__radd__") (some none) &&
  (He.eqO (PySem.W.findIn K (.ref (He.ga K x)) "__rrshift__") (some none) && (types7.all (fun T => decide (PySem.W.subIn K (.type T) (.ref (He.ga K x)) = some false)) &&
  cnX.all (fun y => decide (x = y) || (decide (He.ga K x ≠ He.ga K y) && decide (PySem.W.subIn K (.ref (He.ga K y)) (.ref (He.ga K x)) = some false)))))))))
def exOp (K : PySem.W.Frag) : Bool := exCau K && (exTy K && cnX.all (exBin K))
def exX (K : PySem.W.Frag) : Bool := errsX.all (exErr K) && (cnX.all (exCls K) && (exFacts K && (exOld K && (glosX.all (fun x => (He.Fa.glo x).ok K) && (freeX.all (fun x => (He.Fa.free x).ok K) && (exConsts K && (exEq K && exOp K)))))))

def dsX0 : List DA := [
  ⟨gA "is_integer", "is_integer", "is_integer", s_is_integer⟩,
  ⟨gA "is_within", "is_within", "is_within", s_is_within⟩,
  ⟨gA "is_lettered", "is_lettered", "is_lettered", s_is_lettered⟩,
  ⟨gA "is_name", "is_name", "is_name", s_is_name⟩,
  ⟨gA "check_within", "check_within", "check_within", s_check_within⟩,
  ⟨gA "check_sign", "check_sign", "check_sign", s_check_sign⟩,
  ⟨gA "check_name", "check_name", "check_name", s_check_name⟩,
  ⟨gA "check_word", "check_word", "check_word", s_check_word⟩,
  ⟨gA "spelled", "spelled", "spelled", s_spelled⟩,
  ⟨gA "check_expressions", "check_expressions", "check_expressions", s_check_expressions⟩,
  ⟨gA "knots_above", "knots_above", "knots_above", s_knots_above⟩,
  ⟨gA "exchange", "exchange", "exchange", s_exchange⟩,
  ⟨gA "make", "make", "make", s_make⟩,
  ⟨gA "exchanged_in", "exchanged_in", "exchanged_in", s_exchanged_in⟩,
  ⟨gA "_law_deck", "_law_deck", "_law_deck", s_law_deck⟩,
  ⟨gA "_law_card", "_law_card", "_law_card", s_law_card⟩,
  ⟨gA "_law_of", "_law_of", "_law_of", s_law_of⟩,
  ⟨gA "_law_leaf", "_law_leaf", "_law_leaf", s_law_leaf⟩,
  ⟨gA "_law_tree", "_law_tree", "_law_tree", s_law_tree⟩,
  ⟨gA "_law_titles", "_law_titles", "_law_titles", s_law_titles⟩,
  ⟨gA "_law_signs", "_law_signs", "_law_signs", s_law_signs⟩,
  ⟨gA "_law_plain", "_law_plain", "_law_plain", s_law_plain⟩,
  ⟨gA "_law_made", "_law_made", "_law_made", s_law_made⟩,
  ⟨gA "_law_text", "_law_text", "_law_text", s_law_text⟩,
  ⟨gA "_law_caught", "_law_caught", "_law_caught", s_law_caught⟩,
  ⟨gA "_law_put", "_law_put", "_law_put", s_law_put⟩,
  ⟨gA "_law_right", "_law_right", "_law_right", s_law_right⟩,
  ⟨gA "law", "law", "law", s_law⟩,
  ⟨mA "InvalidNumber" "__init__", "__init__", "InvalidNumber.__init__", s_InvalidNumber_init⟩,
  ⟨mA "InvalidName" "__init__", "__init__", "InvalidName.__init__", s_InvalidName_init⟩]
def dsX1 : List DA := [
  ⟨mA "InvalidSign" "__init__", "__init__", "InvalidSign.__init__", s_InvalidSign_init⟩,
  ⟨mA "InvalidWord" "__init__", "__init__", "InvalidWord.__init__", s_InvalidWord_init⟩,
  ⟨mA "InvalidExpression" "__init__", "__init__", "InvalidExpression.__init__", s_InvalidExpression_init⟩,
  ⟨mA "Facts" "__init__", "__init__", "Facts.__init__", s_Facts_init⟩,
  ⟨mA "Drop" "__init__", "__init__", "Drop.__init__", s_Drop_init⟩,
  ⟨mA "Lead" "__init__", "__init__", "Lead.__init__", s_Lead_init⟩,
  ⟨mA "Name" "__init__", "__init__", "Name.__init__", s_Name_init⟩,
  ⟨mA "Part" "__init__", "__init__", "Part.__init__", s_Part_init⟩,
  ⟨mA "Sign" "__init__", "__init__", "Sign.__init__", s_Sign_init⟩,
  ⟨mA "Turn" "__init__", "__init__", "Turn.__init__", s_Turn_init⟩,
  ⟨mA "Weave" "__init__", "__init__", "Weave.__init__", s_Weave_init⟩,
  ⟨mA "Drop" "__str__", "__str__", "Drop.__str__", s_Drop_str⟩,
  ⟨mA "Drop" "__repr__", "__repr__", "Drop.__repr__", s_Drop_repr⟩,
  ⟨mA "Drop" "__eq__", "__eq__", "Drop.__eq__", s_Drop_eq⟩,
  ⟨mA "Drop" "__add__", "__add__", "Drop.__add__", s_Drop_add⟩,
  ⟨mA "Drop" "__rshift__", "__rshift__", "Drop.__rshift__", s_Drop_rshift⟩,
  ⟨mA "Drop" "exchanged", "exchanged", "Drop.exchanged", s_Drop_exchanged⟩,
  ⟨mA "Lead" "__str__", "__str__", "Lead.__str__", s_Lead_str⟩,
  ⟨mA "Lead" "__repr__", "__repr__", "Lead.__repr__", s_Lead_repr⟩,
  ⟨mA "Lead" "__eq__", "__eq__", "Lead.__eq__", s_Lead_eq⟩,
  ⟨mA "Lead" "__add__", "__add__", "Lead.__add__", s_Lead_add⟩,
  ⟨mA "Lead" "__rshift__", "__rshift__", "Lead.__rshift__", s_Lead_rshift⟩,
  ⟨mA "Lead" "exchanged", "exchanged", "Lead.exchanged", s_Lead_exchanged⟩,
  ⟨mA "Name" "__str__", "__str__", "Name.__str__", s_Name_str⟩,
  ⟨mA "Name" "__repr__", "__repr__", "Name.__repr__", s_Name_repr⟩,
  ⟨mA "Name" "__eq__", "__eq__", "Name.__eq__", s_Name_eq⟩,
  ⟨mA "Name" "__add__", "__add__", "Name.__add__", s_Name_add⟩,
  ⟨mA "Name" "__rshift__", "__rshift__", "Name.__rshift__", s_Name_rshift⟩,
  ⟨mA "Name" "exchanged", "exchanged", "Name.exchanged", s_Name_exchanged⟩,
  ⟨mA "Part" "__str__", "__str__", "Part.__str__", s_Part_str⟩]
def dsX2 : List DA := [
  ⟨mA "Part" "__repr__", "__repr__", "Part.__repr__", s_Part_repr⟩,
  ⟨mA "Part" "__eq__", "__eq__", "Part.__eq__", s_Part_eq⟩,
  ⟨mA "Part" "__add__", "__add__", "Part.__add__", s_Part_add⟩,
  ⟨mA "Part" "__rshift__", "__rshift__", "Part.__rshift__", s_Part_rshift⟩,
  ⟨mA "Part" "exchanged", "exchanged", "Part.exchanged", s_Part_exchanged⟩,
  ⟨mA "Sign" "__str__", "__str__", "Sign.__str__", s_Sign_str⟩,
  ⟨mA "Sign" "__repr__", "__repr__", "Sign.__repr__", s_Sign_repr⟩,
  ⟨mA "Sign" "__eq__", "__eq__", "Sign.__eq__", s_Sign_eq⟩,
  ⟨mA "Sign" "__add__", "__add__", "Sign.__add__", s_Sign_add⟩,
  ⟨mA "Sign" "__rshift__", "__rshift__", "Sign.__rshift__", s_Sign_rshift⟩,
  ⟨mA "Sign" "exchanged", "exchanged", "Sign.exchanged", s_Sign_exchanged⟩,
  ⟨mA "Turn" "__str__", "__str__", "Turn.__str__", s_Turn_str⟩,
  ⟨mA "Turn" "__repr__", "__repr__", "Turn.__repr__", s_Turn_repr⟩,
  ⟨mA "Turn" "__eq__", "__eq__", "Turn.__eq__", s_Turn_eq⟩,
  ⟨mA "Turn" "__add__", "__add__", "Turn.__add__", s_Turn_add⟩,
  ⟨mA "Turn" "__rshift__", "__rshift__", "Turn.__rshift__", s_Turn_rshift⟩,
  ⟨mA "Turn" "exchanged", "exchanged", "Turn.exchanged", s_Turn_exchanged⟩,
  ⟨mA "Weave" "__str__", "__str__", "Weave.__str__", s_Weave_str⟩,
  ⟨mA "Weave" "__repr__", "__repr__", "Weave.__repr__", s_Weave_repr⟩,
  ⟨mA "Weave" "__eq__", "__eq__", "Weave.__eq__", s_Weave_eq⟩,
  ⟨mA "Weave" "__add__", "__add__", "Weave.__add__", s_Weave_add⟩,
  ⟨mA "Weave" "__rshift__", "__rshift__", "Weave.__rshift__", s_Weave_rshift⟩,
  ⟨mA "Weave" "exchanged", "exchanged", "Weave.exchanged", s_Weave_exchanged⟩,
  ⟨pG "Drop" "kind", "kind", "Drop.kind", s_Drop_kind⟩,
  ⟨pG "Drop" "inner", "inner", "Drop.inner", s_Drop_inner⟩,
  ⟨pG "Drop" "told", "told", "Drop.told", s_Drop_told⟩,
  ⟨pG "Drop" "names", "names", "Drop.names", s_Drop_names⟩,
  ⟨pG "Drop" "knots", "knots", "Drop.knots", s_Drop_knots⟩,
  ⟨pG "Lead" "kind", "kind", "Lead.kind", s_Lead_kind⟩,
  ⟨pG "Lead" "inner", "inner", "Lead.inner", s_Lead_inner⟩]
def dsX3 : List DA := [
  ⟨pG "Lead" "told", "told", "Lead.told", s_Lead_told⟩,
  ⟨pG "Lead" "names", "names", "Lead.names", s_Lead_names⟩,
  ⟨pG "Lead" "knots", "knots", "Lead.knots", s_Lead_knots⟩,
  ⟨pG "Name" "kind", "kind", "Name.kind", s_Name_kind⟩,
  ⟨pG "Name" "inner", "inner", "Name.inner", s_Name_inner⟩,
  ⟨pG "Name" "told", "told", "Name.told", s_Name_told⟩,
  ⟨pG "Name" "names", "names", "Name.names", s_Name_names⟩,
  ⟨pG "Name" "knots", "knots", "Name.knots", s_Name_knots⟩,
  ⟨pG "Part" "kind", "kind", "Part.kind", s_Part_kind⟩,
  ⟨pG "Part" "inner", "inner", "Part.inner", s_Part_inner⟩,
  ⟨pG "Part" "told", "told", "Part.told", s_Part_told⟩,
  ⟨pG "Part" "names", "names", "Part.names", s_Part_names⟩,
  ⟨pG "Part" "knots", "knots", "Part.knots", s_Part_knots⟩,
  ⟨pG "Sign" "kind", "kind", "Sign.kind", s_Sign_kind⟩,
  ⟨pG "Sign" "inner", "inner", "Sign.inner", s_Sign_inner⟩,
  ⟨pG "Sign" "told", "told", "Sign.told", s_Sign_told⟩,
  ⟨pG "Sign" "names", "names", "Sign.names", s_Sign_names⟩,
  ⟨pG "Sign" "knots", "knots", "Sign.knots", s_Sign_knots⟩,
  ⟨pG "Turn" "kind", "kind", "Turn.kind", s_Turn_kind⟩,
  ⟨pG "Turn" "inner", "inner", "Turn.inner", s_Turn_inner⟩,
  ⟨pG "Turn" "told", "told", "Turn.told", s_Turn_told⟩,
  ⟨pG "Turn" "names", "names", "Turn.names", s_Turn_names⟩,
  ⟨pG "Turn" "knots", "knots", "Turn.knots", s_Turn_knots⟩,
  ⟨pG "Weave" "kind", "kind", "Weave.kind", s_Weave_kind⟩,
  ⟨pG "Weave" "inner", "inner", "Weave.inner", s_Weave_inner⟩,
  ⟨pG "Weave" "told", "told", "Weave.told", s_Weave_told⟩,
  ⟨pG "Weave" "names", "names", "Weave.names", s_Weave_names⟩,
  ⟨pG "Weave" "knots", "knots", "Weave.knots", s_Weave_knots⟩]
def dsX : List DA := dsX0 ++ (dsX1 ++ (dsX2 ++ (dsX3)))
abbrev RX : PySem.W.OpenRow := PySem.W.OpenLaw.row PySem.Challenge.rw_wovenplaces_k04_operators_and_exchanges
abbrev hkX : PySem.W.Hook := hookT "_law_right" exX dsX
def obX (s : PySem.W.SharedT) : AlZ × Bool := obsTG "_law_right" exX dsX (HandSHeadRun.getT s)
theorem obX_eq (s : PySem.W.SharedT) : obX s = hkX.obs s.abs := obsTG_eq (HandSHeadRun.getT_eq s)
def namesX1 : List PySem.Str := ["InvalidNumber", "InvalidName", "InvalidSign", "InvalidWord", "InvalidExpression", "is_integer", "is_within", "is_lettered", "is_name", "check_within", "check_sign", "check_name", "check_word", "spelled", "check_expressions", "knots_above", "exchange", "make", "exchanged_in", "_law_deck", "_law_card", "_law_of", "_law_leaf", "_law_tree"]
def namesX2 : List PySem.Str := ["_law_titles", "_law_signs", "_law_plain", "_law_made", "_law_text", "_law_caught", "_law_put", "_law_right", "WrongValue", "MOST_BASE", "MOST_SIGNS", "MOST_DROP", "LETTERS", "LEAST_BASE", "MOST_LETTERS", "NO_NAMES", "Facts", "Expression", "Drop", "Lead", "Name", "Part", "Sign", "Turn", "Weave"]
def namesX : List PySem.Str := namesX1 ++ namesX2
theorem runX (w : World) : HandSHeadRun.RunEq RX (PySem.W.view RX.prog [55]) hkX obX 20000 namesX w := by
  intro os
  kernel_rfl
end Wp

namespace Wp
open PySem PySem.Spec PyProof.Rows L2 Hx
/-! the promises out of what the head shows -/
section
variable {P : Program} {w : World} {K : PySem.W.Frag} {h : Heap} {mg : Str → Option Value} {base : Heap}
theorem exX_err (e : exX K = true) {x : Str} (hx : x ∈ errsX) : exErr K x = true := List.all_eq_true.mp (Bool.and_eq_true_iff.mp e).1 x hx
theorem exX_cls (e : exX K = true) {x : Str} (hx : x ∈ cnX) : exCls K x = true := List.all_eq_true.mp (Bool.and_eq_true_iff.mp (Bool.and_eq_true_iff.mp e).2).1 x hx
theorem exX_facts (e : exX K = true) : exFacts K = true := (Bool.and_eq_true_iff.mp (Bool.and_eq_true_iff.mp (Bool.and_eq_true_iff.mp e).2).2).1
theorem exX_old (e : exX K = true) : exOld K = true := (Bool.and_eq_true_iff.mp (Bool.and_eq_true_iff.mp (Bool.and_eq_true_iff.mp (Bool.and_eq_true_iff.mp e).2).2).2).1
theorem exX_rest (e : exX K = true) : (glosX.all (fun x => (He.Fa.glo x).ok K) && (freeX.all (fun x => (He.Fa.free x).ok K) && (exConsts K && (exEq K && exOp K)))) = true := (Bool.and_eq_true_iff.mp (Bool.and_eq_true_iff.mp (Bool.and_eq_true_iff.mp (Bool.and_eq_true_iff.mp e).2).2).2).2
theorem exX_glo (e : exX K = true) {x : Str} (hx : x ∈ glosX) : (He.Fa.glo x).ok K = true := List.all_eq_true.mp (Bool.and_eq_true_iff.mp (exX_rest e)).1 x hx
theorem exX_free (e : exX K = true) {x : Str} (hx : x ∈ freeX) : (He.Fa.free x).ok K = true := List.all_eq_true.mp (Bool.and_eq_true_iff.mp (Bool.and_eq_true_iff.mp (exX_rest e)).2).1 x hx
theorem exX_consts (e : exX K = true) : exConsts K = true := (Bool.and_eq_true_iff.mp (Bool.and_eq_true_iff.mp (Bool.and_eq_true_iff.mp (exX_rest e)).2).2).1
theorem exX_eq (e : exX K = true) : exEq K = true := (Bool.and_eq_true_iff.mp (Bool.and_eq_true_iff.mp (Bool.and_eq_true_iff.mp (Bool.and_eq_true_iff.mp (exX_rest e)).2).2).2).1
theorem exX_op (e : exX K = true) : exOp K = true := (Bool.and_eq_true_iff.mp (Bool.and_eq_true_iff.mp (Bool.and_eq_true_iff.mp (Bool.and_eq_true_iff.mp (exX_rest e)).2).2).2).2
theorem m_glo (X : K.In h) (G : h.Ns mainGlobals mg) (e : exX K = true) (x : Str) (hx : x ∈ glosX := by decide +kernel) : mg x = some (.ref (He.ga K x)) := He.glo_ok X G (exX_glo e hx)
theorem m_free (X : K.In h) (G : h.Ns mainGlobals mg) (e : exX K = true) (x : Str) (hx : x ∈ freeX := by decide +kernel) : mg x = none := He.free_ok X G (exX_free e hx)
/-- a class of errors -/
structure ErrF (K : PySem.W.Frag) (x : Str) : Prop where
  g : (He.Fa.glo x).ok K = true
  ex : ExK K (He.ga K x) "ValueError" "ValueError.__new__" "ValueError.__init__" He.veBase
  hi : PySem.W.findIn K (.ref (He.ga K x)) "__init__" = some (some (.ref (He.ma K (He.ga K x) "__init__")))
  tI : PySem.W.typeIn K (.ref (He.ma K (He.ga K x) "__init__")) = some (.type "function")
  free : PySem.W.takerIn K (He.ga K x) "given" = some none
  no : PySem.W.findIn K (.ref (He.ga K x)) "given" = some none
  ty : PySem.W.typeIn K (.ref (He.ga K x)) = some (.type "type")
theorem errF (e : exX K = true) {x : Str} (hx : x ∈ errsX) : ErrF K x := by
  have h1 := exX_err e hx
  have h2 := exX_old e
  simp only [exErr, exOld, He.eqO, Bool.and_eq_true, decide_eq_true_eq] at h1 h2
  obtain ⟨a1, a2, a3, a4, a5, a6, a7, a8, a9, a10, a11, a12, a13, a14, a15, a16⟩ := h1
  exact ⟨decide_eq_true a1, ⟨PySem.F.excBase_ValueError, PySem.F.store_ValueError, a2, a3, a4, a5, a6, a7, a8, a9, a10, h2.1, h2.2, a11⟩, a12, a13, a14, a15, a16⟩
theorem mkc (X : K.In h) (G : h.Ns mainGlobals mg) {x qual : Str} {st : Stmt} {fd : FuncData} {q1 q2 q3 q4 : Pos} (E : ErrF K x) (F : Fun K "__init__" qual st (He.ma K (He.ga K x) "__init__") fd) (S : FnScope ["self", "given"] ["self", "given"] (defScope st))
    (hb : defBody st = [.Assign [.Attribute (.Name "self" q1) "given" q2] (.Name "given" q3) q4]) (v1 : Vis (defScope st) "self") (v2 : Vis (defScope st) "given") (b : Binds K fd ["self", "given"] [])
    (bk : ∀ (s : Shared) (self w1 : Value), BindsTo s fd ⟨[self], [("given", w1)]⟩ [("self", self), ("given", w1)]) : MkC P w K mg base x (He.ga K x) "given" :=
  ⟨⟨_, fd, _, _, _, _, E.ex, E.hi, E.tI, ok_in1 F S hb v1 v2 (by decide) (by decide) E.ex E.free, b, bk⟩, He.glo_ok X G E.g, E.no⟩
/-- one of the seven classes -/
structure ClsF (K : PySem.W.Frag) (x : Str) : Prop where
  g : (He.Fa.glo x).ok K = true
  cls : Cls K (He.ga K x)
  mkr : Mk K (He.ga K x) (He.ma K (He.ga K x) "__init__")
  no : NoAttr K (He.ga K x) "facts"
  str : Meth K (He.ga K x) "__str__" (He.ma K (He.ga K x) "__str__")
  rep : Meth K (He.ga K x) "__repr__" (He.ma K (He.ga K x) "__repr__")
  prop : ∀ p ∈ propsX, PropOf K (He.ga K x) p (He.ma K (He.ga K x) p) (pG x p K)
  cl : PySem.W.findIn K (.ref (He.ga K x)) "__class__" = some (some (.builtin "object.__class__"))
  mo : PySem.W.mroIn K (He.ga K x) (.type "object") = some true
  kit : ∀ y ∈ cnX, PySem.W.kitOne K (.ref (He.ga K x)) (.ref (He.ga K y)) = some (decide (x = y))
  top : PySem.W.kitOne K (.ref (He.ga K x)) (.ref (He.ga K "Expression")) = some true
theorem clsF (e : exX K = true) {x : Str} (hx : x ∈ cnX) : ClsF K x := by
  have h1 := exX_cls e hx
  unfold exCls at h1
  obtain ⟨a1, h1⟩ := Bool.and_eq_true_iff.mp h1
  obtain ⟨a2, h1⟩ := Bool.and_eq_true_iff.mp h1
  obtain ⟨a3, h1⟩ := Bool.and_eq_true_iff.mp h1
  obtain ⟨a4, h1⟩ := Bool.and_eq_true_iff.mp h1
  obtain ⟨a5, h1⟩ := Bool.and_eq_true_iff.mp h1
  obtain ⟨a6, h1⟩ := Bool.and_eq_true_iff.mp h1
  obtain ⟨a7, h1⟩ := Bool.and_eq_true_iff.mp h1
  obtain ⟨a8, h1⟩ := Bool.and_eq_true_iff.mp h1
  obtain ⟨a9, h1⟩ := Bool.and_eq_true_iff.mp h1
  obtain ⟨a10, a11⟩ := Bool.and_eq_true_iff.mp h1
  exact ⟨a1, He.cls_ok a2, He.mkr_ok a3, He.noat_ok a4, He.meth_ok a5, He.meth_ok a6, fun p hp => pB_ok (List.all_eq_true.mp a7 p hp), He.eqO_ok a8, of_decide_eq_true a9, fun y hy => of_decide_eq_true (List.all_eq_true.mp a10 y hy), of_decide_eq_true a11⟩
theorem clsF_facts (e : exX K = true) : (He.Fa.glo "Facts").ok K = true ∧ FactsC K (He.ga K "Facts") ∧ Mk K (He.ga K "Facts") (He.ma K (He.ga K "Facts") "__init__") := by
  have h1 := exX_facts e
  unfold exFacts at h1
  obtain ⟨a1, h1⟩ := Bool.and_eq_true_iff.mp h1
  obtain ⟨a2, h1⟩ := Bool.and_eq_true_iff.mp h1
  obtain ⟨a3, a4⟩ := Bool.and_eq_true_iff.mp h1
  exact ⟨a1, ⟨He.cls_ok a2, fun f hf => He.noat_ok (List.all_eq_true.mp a4 f hf)⟩, He.mkr_ok a3⟩
theorem constsX (X : K.In h) (G : h.Ns mainGlobals mg) (e : exX K = true) : Consts mg K := by
  have h1 := exX_consts e
  unfold exConsts at h1
  obtain ⟨a1, h1⟩ := Bool.and_eq_true_iff.mp h1
  obtain ⟨a2, h1⟩ := Bool.and_eq_true_iff.mp h1
  obtain ⟨a3, h1⟩ := Bool.and_eq_true_iff.mp h1
  obtain ⟨a4, h1⟩ := Bool.and_eq_true_iff.mp h1
  obtain ⟨a5, h1⟩ := Bool.and_eq_true_iff.mp h1
  obtain ⟨a6, a7⟩ := Bool.and_eq_true_iff.mp h1
  exact ⟨He.str_ok X G a1, He.int_ok X G a2, He.int_ok X G a3, He.int_ok X G a4, He.int_ok X G a5, He.int_ok X G a6, _, m_glo X G e "NO_NAMES", fun H => He.tupB_ok a7 H⟩
/-- the class of a kind -/
def cnOf (k : Str) : Str := if k = "drop" then "Drop" else if k = "lead" then "Lead" else if k = "name" then "Name" else if k = "part" then "Part" else if k = "sign" then "Sign" else if k = "turn" then "Turn" else "Weave"
theorem cn_in : ∀ k ∈ kinds7, cnOf k ∈ cnX := by decide +kernel
theorem cn_inj : ∀ k ∈ kinds7, ∀ j ∈ kinds7, decide (cnOf k = cnOf j) = decide (k = j) := by decide +kernel
def kcX (K : PySem.W.Frag) : KCls := fun k => He.ga K (cnOf k)
def clsX (K : PySem.W.Frag) (C : Addr) : Prop := ∃ x ∈ cnX, C = He.ga K x
theorem tyX_own (e : exX K = true) (H : Hp) (C a dx : Addr) (fs : List (Str × V)) (hC : clsX K C) (ha : H a = some (.ins C dx fs)) : TyX K H (.ref a) (.ref C) := by
  obtain ⟨x, hx, rfl⟩ := hC
  have c := clsF e hx
  have h2 := exX_old e
  simp only [exOld, He.eqO, Bool.and_eq_true, decide_eq_true_eq] at h2
  exact .base (.ins ha c.cls c.cl h2.1 h2.2 c.mo)
theorem ixX (e : exX K = true) : IsX K (He.ga K "Expression") (clsX K) := fun H C a dx fs hC ha => ⟨.ref C, tyX_own e H C a dx fs hC ha, by
  obtain ⟨x, hx, rfl⟩ := hC
  exact (clsF e hx).top⟩
theorem kindsX (X : K.In h) (G : h.Ns mainGlobals mg) (e : exX K = true) : Kinds K mg (He.ga K "Expression") (kcX K) (clsX K) :=
  ⟨fun H C a dx fs hC ha => tyX_own e H C a dx fs hC ha, fun k hk j hj => by
    rw [← cn_inj k hk j hj]
    exact (clsF e (cn_in k hk)).kit _ (cn_in j hj), fun k hk => (clsF e (cn_in k hk)).top, m_glo X G e "Expression"⟩
theorem ownX (e : exX K = true) (C : Addr) (hC : clsX K C) : Own K C := by
  obtain ⟨x, hx, rfl⟩ := hC
  exact ⟨(clsF e hx).cls, (clsF e hx).no⟩
theorem cls_of (k : Str) (hk : k ∈ kinds7) : clsX K (kcX K k) := ⟨cnOf k, cn_in k hk, rfl⟩
end
end Wp

namespace Wp
open PySem PySem.Spec PyProof.Rows L2 Hx
/-- what a class of expressions tells of itself -/
structure TellF (P : Program) (w : World) (K : PySem.W.Frag) (mg : Str → Option Value) (base : Heap) (C : Addr) : Prop where
  str : TellsBy P w K mg base 1 C (spStr C (He.ga K "Facts"))
  rep : Hx.ShowsBy P w K mg base 1 C (spReprX C (He.ga K "Facts"))
  kind : PropBy P w K mg base 1 C "kind" (spGet C (He.ga K "Facts") "word")
  inner : PropBy P w K mg base 1 C "inner" (spGet C (He.ga K "Facts") "parts")
  told : PropBy P w K mg base 1 C "told" (spGet C (He.ga K "Facts") "marks")
  names : PropBy P w K mg base 1 C "names" (spGet C (He.ga K "Facts") "labels")
  knots : PropBy P w K mg base 1 C "knots" (spGet C (He.ga K "Facts") "size")
section
variable {P : Program} {w : World} {K : PySem.W.Frag} {h : Heap} {mg : Str → Option Value} {base : Heap}

theorem sc_Drop_str : FnScope ["self"] ["self"] (defScope s_Drop_str) := ⟨rfl, rfl, rfl, by decide +kernel, rfl, by decide +kernel, by decide +kernel⟩
theorem sc_Drop_repr : FnScope ["self"] ["self"] (defScope s_Drop_repr) := ⟨rfl, rfl, rfl, by decide +kernel, rfl, by decide +kernel, by decide +kernel⟩
theorem sc_Drop_kind : FnScope ["self"] ["self"] (defScope s_Drop_kind) := ⟨rfl, rfl, rfl, by decide +kernel, rfl, by decide +kernel, by decide +kernel⟩
theorem sc_Drop_inner : FnScope ["self"] ["self"] (defScope s_Drop_inner) := ⟨rfl, rfl, rfl, by decide +kernel, rfl, by decide +kernel, by decide +kernel⟩
theorem sc_Drop_told : FnScope ["self"] ["self"] (defScope s_Drop_told) := ⟨rfl, rfl, rfl, by decide +kernel, rfl, by decide +kernel, by decide +kernel⟩
theorem sc_Drop_names : FnScope ["self"] ["self"] (defScope s_Drop_names) := ⟨rfl, rfl, rfl, by decide +kernel, rfl, by decide +kernel, by decide +kernel⟩
theorem sc_Drop_knots : FnScope ["self"] ["self"] (defScope s_Drop_knots) := ⟨rfl, rfl, rfl, by decide +kernel, rfl, by decide +kernel, by decide +kernel⟩
theorem tell_Drop (c : SaysZ exX dsX K) (z : mg "str" = none) : TellF P w K mg base (He.ga K "Drop") := by
  have e := c.ex
  have C := clsF e (x := "Drop") (by decide +kernel)
  have FC := (clsF_facts e).2.1
  obtain ⟨f1, F1⟩ := c.def_ 41 (d := ⟨mA "Drop" "__str__", "__str__", "Drop.__str__", s_Drop_str⟩) rfl
  obtain ⟨f2, F2⟩ := c.def_ 42 (d := ⟨mA "Drop" "__repr__", "__repr__", "Drop.__repr__", s_Drop_repr⟩) rfl
  obtain ⟨g0, G0⟩ := c.def_ 83 (d := ⟨pG "Drop" "kind", "kind", "Drop.kind", s_Drop_kind⟩) rfl
  obtain ⟨g1, G1⟩ := c.def_ 84 (d := ⟨pG "Drop" "inner", "inner", "Drop.inner", s_Drop_inner⟩) rfl
  obtain ⟨g2, G2⟩ := c.def_ 85 (d := ⟨pG "Drop" "told", "told", "Drop.told", s_Drop_told⟩) rfl
  obtain ⟨g3, G3⟩ := c.def_ 86 (d := ⟨pG "Drop" "names", "names", "Drop.names", s_Drop_names⟩) rfl
  obtain ⟨g4, G4⟩ := c.def_ 87 (d := ⟨pG "Drop" "knots", "knots", "Drop.knots", s_Drop_knots⟩) rfl
  exact ⟨⟨C.cls, _, f1, C.str.at_, C.str.fn, ok_str F1 sc_Drop_str rfl (Or.inl rfl) (fun _ _ => rfl) z C.cls C.no FC.cls (FC.no "text" (by simp)), F1.binds (ps := ["self"]) (fun _ _ _ _ _ _ us hl => match us, hl with | [_], _ => rfl)⟩,
    ⟨_, f2, C.rep.at_, C.rep.fn, ok_reprX F2 sc_Drop_repr rfl (Or.inl rfl) C.cls C.no FC.cls (FC.no "size" (by simp)), F2.binds (ps := ["self"]) (fun _ _ _ _ _ _ us hl => match us, hl with | [_], _ => rfl)⟩,
    ⟨C.cls, _, _, g0, C.prop "kind" (by decide +kernel), ok_get G0 sc_Drop_kind rfl (Or.inl rfl) C.cls C.no FC.cls (FC.no "word" (by simp)), G0.binds (ps := ["self"]) (fun _ _ _ _ _ _ us hl => match us, hl with | [_], _ => rfl)⟩,
    ⟨C.cls, _, _, g1, C.prop "inner" (by decide +kernel), ok_get G1 sc_Drop_inner rfl (Or.inl rfl) C.cls C.no FC.cls (FC.no "parts" (by simp)), G1.binds (ps := ["self"]) (fun _ _ _ _ _ _ us hl => match us, hl with | [_], _ => rfl)⟩,
    ⟨C.cls, _, _, g2, C.prop "told" (by decide +kernel), ok_get G2 sc_Drop_told rfl (Or.inl rfl) C.cls C.no FC.cls (FC.no "marks" (by simp)), G2.binds (ps := ["self"]) (fun _ _ _ _ _ _ us hl => match us, hl with | [_], _ => rfl)⟩,
    ⟨C.cls, _, _, g3, C.prop "names" (by decide +kernel), ok_get G3 sc_Drop_names rfl (Or.inl rfl) C.cls C.no FC.cls (FC.no "labels" (by simp)), G3.binds (ps := ["self"]) (fun _ _ _ _ _ _ us hl => match us, hl with | [_], _ => rfl)⟩,
    ⟨C.cls, _, _, g4, C.prop "knots" (by decide +kernel), ok_get G4 sc_Drop_knots rfl (Or.inl rfl) C.cls C.no FC.cls (FC.no "size" (by simp)), G4.binds (ps := ["self"]) (fun _ _ _ _ _ _ us hl => match us, hl with | [_], _ => rfl)⟩⟩
theorem sc_Lead_str : FnScope ["self"] ["self"] (defScope s_Lead_str) := ⟨rfl, rfl, rfl, by decide +kernel, rfl, by decide +kernel, by decide +kernel⟩
theorem sc_Lead_repr : FnScope ["self"] ["self"] (defScope s_Lead_repr) := ⟨rfl, rfl, rfl, by decide +kernel, rfl, by decide +kernel, by decide +kernel⟩
theorem sc_Lead_kind : FnScope ["self"] ["self"] (defScope s_Lead_kind) := ⟨rfl, rfl, rfl, by decide +kernel, rfl, by decide +kernel, by decide +kernel⟩
theorem sc_Lead_inner : FnScope ["self"] ["self"] (defScope s_Lead_inner) := ⟨rfl, rfl, rfl, by decide +kernel, rfl, by decide +kernel, by decide +kernel⟩
theorem sc_Lead_told : FnScope ["self"] ["self"] (defScope s_Lead_told) := ⟨rfl, rfl, rfl, by decide +kernel, rfl, by decide +kernel, by decide +kernel⟩
theorem sc_Lead_names : FnScope ["self"] ["self"] (defScope s_Lead_names) := ⟨rfl, rfl, rfl, by decide +kernel, rfl, by decide +kernel, by decide +kernel⟩
theorem sc_Lead_knots : FnScope ["self"] ["self"] (defScope s_Lead_knots) := ⟨rfl, rfl, rfl, by decide +kernel, rfl, by decide +kernel, by decide +kernel⟩
theorem tell_Lead (c : SaysZ exX dsX K) (z : mg "str" = none) : TellF P w K mg base (He.ga K "Lead") := by
  have e := c.ex
  have C := clsF e (x := "Lead") (by decide +kernel)
  have FC := (clsF_facts e).2.1
  obtain ⟨f1, F1⟩ := c.def_ 47 (d := ⟨mA "Lead" "__str__", "__str__", "Lead.__str__", s_Lead_str⟩) rfl
  obtain ⟨f2, F2⟩ := c.def_ 48 (d := ⟨mA "Lead" "__repr__", "__repr__", "Lead.__repr__", s_Lead_repr⟩) rfl
  obtain ⟨g0, G0⟩ := c.def_ 88 (d := ⟨pG "Lead" "kind", "kind", "Lead.kind", s_Lead_kind⟩) rfl
  obtain ⟨g1, G1⟩ := c.def_ 89 (d := ⟨pG "Lead" "inner", "inner", "Lead.inner", s_Lead_inner⟩) rfl
  obtain ⟨g2, G2⟩ := c.def_ 90 (d := ⟨pG "Lead" "told", "told", "Lead.told", s_Lead_told⟩) rfl
  obtain ⟨g3, G3⟩ := c.def_ 91 (d := ⟨pG "Lead" "names", "names", "Lead.names", s_Lead_names⟩) rfl
  obtain ⟨g4, G4⟩ := c.def_ 92 (d := ⟨pG "Lead" "knots", "knots", "Lead.knots", s_Lead_knots⟩) rfl
  exact ⟨⟨C.cls, _, f1, C.str.at_, C.str.fn, ok_str F1 sc_Lead_str rfl (Or.inl rfl) (fun _ _ => rfl) z C.cls C.no FC.cls (FC.no "text" (by simp)), F1.binds (ps := ["self"]) (fun _ _ _ _ _ _ us hl => match us, hl with | [_], _ => rfl)⟩,
    ⟨_, f2, C.rep.at_, C.rep.fn, ok_reprX F2 sc_Lead_repr rfl (Or.inl rfl) C.cls C.no FC.cls (FC.no "size" (by simp)), F2.binds (ps := ["self"]) (fun _ _ _ _ _ _ us hl => match us, hl with | [_], _ => rfl)⟩,
    ⟨C.cls, _, _, g0, C.prop "kind" (by decide +kernel), ok_get G0 sc_Lead_kind rfl (Or.inl rfl) C.cls C.no FC.cls (FC.no "word" (by simp)), G0.binds (ps := ["self"]) (fun _ _ _ _ _ _ us hl => match us, hl with | [_], _ => rfl)⟩,
    ⟨C.cls, _, _, g1, C.prop "inner" (by decide +kernel), ok_get G1 sc_Lead_inner rfl (Or.inl rfl) C.cls C.no FC.cls (FC.no "parts" (by simp)), G1.binds (ps := ["self"]) (fun _ _ _ _ _ _ us hl => match us, hl with | [_], _ => rfl)⟩,
    ⟨C.cls, _, _, g2, C.prop "told" (by decide +kernel), ok_get G2 sc_Lead_told rfl (Or.inl rfl) C.cls C.no FC.cls (FC.no "marks" (by simp)), G2.binds (ps := ["self"]) (fun _ _ _ _ _ _ us hl => match us, hl with | [_], _ => rfl)⟩,
    ⟨C.cls, _, _, g3, C.prop "names" (by decide +kernel), ok_get G3 sc_Lead_names rfl (Or.inl rfl) C.cls C.no FC.cls (FC.no "labels" (by simp)), G3.binds (ps := ["self"]) (fun _ _ _ _ _ _ us hl => match us, hl with | [_], _ => rfl)⟩,
    ⟨C.cls, _, _, g4, C.prop "knots" (by decide +kernel), ok_get G4 sc_Lead_knots rfl (Or.inl rfl) C.cls C.no FC.cls (FC.no "size" (by simp)), G4.binds (ps := ["self"]) (fun _ _ _ _ _ _ us hl => match us, hl with | [_], _ => rfl)⟩⟩
theorem sc_Name_str : FnScope ["self"] ["self"] (defScope s_Name_str) := ⟨rfl, rfl, rfl, by decide +kernel, rfl, by decide +kernel, by decide +kernel⟩
theorem sc_Name_repr : FnScope ["self"] ["self"] (defScope s_Name_repr) := ⟨rfl, rfl, rfl, by decide +kernel, rfl, by decide +kernel, by decide +kernel⟩
theorem sc_Name_kind : FnScope ["self"] ["self"] (defScope s_Name_kind) := ⟨rfl, rfl, rfl, by decide +kernel, rfl, by decide +kernel, by decide +kernel⟩
theorem sc_Name_inner : FnScope ["self"] ["self"] (defScope s_Name_inner) := ⟨rfl, rfl, rfl, by decide +kernel, rfl, by decide +kernel, by decide +kernel⟩
theorem sc_Name_told : FnScope ["self"] ["self"] (defScope s_Name_told) := ⟨rfl, rfl, rfl, by decide +kernel, rfl, by decide +kernel, by decide +kernel⟩
theorem sc_Name_names : FnScope ["self"] ["self"] (defScope s_Name_names) := ⟨rfl, rfl, rfl, by decide +kernel, rfl, by decide +kernel, by decide +kernel⟩
theorem sc_Name_knots : FnScope ["self"] ["self"] (defScope s_Name_knots) := ⟨rfl, rfl, rfl, by decide +kernel, rfl, by decide +kernel, by decide +kernel⟩
theorem tell_Name (c : SaysZ exX dsX K) (z : mg "str" = none) : TellF P w K mg base (He.ga K "Name") := by
  have e := c.ex
  have C := clsF e (x := "Name") (by decide +kernel)
  have FC := (clsF_facts e).2.1
  obtain ⟨f1, F1⟩ := c.def_ 53 (d := ⟨mA "Name" "__str__", "__str__", "Name.__str__", s_Name_str⟩) rfl
  obtain ⟨f2, F2⟩ := c.def_ 54 (d := ⟨mA "Name" "__repr__", "__repr__", "Name.__repr__", s_Name_repr⟩) rfl
  obtain ⟨g0, G0⟩ := c.def_ 93 (d := ⟨pG "Name" "kind", "kind", "Name.kind", s_Name_kind⟩) rfl
  obtain ⟨g1, G1⟩ := c.def_ 94 (d := ⟨pG "Name" "inner", "inner", "Name.inner", s_Name_inner⟩) rfl
  obtain ⟨g2, G2⟩ := c.def_ 95 (d := ⟨pG "Name" "told", "told", "Name.told", s_Name_told⟩) rfl
  obtain ⟨g3, G3⟩ := c.def_ 96 (d := ⟨pG "Name" "names", "names", "Name.names", s_Name_names⟩) rfl
  obtain ⟨g4, G4⟩ := c.def_ 97 (d := ⟨pG "Name" "knots", "knots", "Name.knots", s_Name_knots⟩) rfl
  exact ⟨⟨C.cls, _, f1, C.str.at_, C.str.fn, ok_str F1 sc_Name_str rfl (Or.inl rfl) (fun _ _ => rfl) z C.cls C.no FC.cls (FC.no "text" (by simp)), F1.binds (ps := ["self"]) (fun _ _ _ _ _ _ us hl => match us, hl with | [_], _ => rfl)⟩,
    ⟨_, f2, C.rep.at_, C.rep.fn, ok_reprX F2 sc_Name_repr rfl (Or.inl rfl) C.cls C.no FC.cls (FC.no "size" (by simp)), F2.binds (ps := ["self"]) (fun _ _ _ _ _ _ us hl => match us, hl with | [_], _ => rfl)⟩,
    ⟨C.cls, _, _, g0, C.prop "kind" (by decide +kernel), ok_get G0 sc_Name_kind rfl (Or.inl rfl) C.cls C.no FC.cls (FC.no "word" (by simp)), G0.binds (ps := ["self"]) (fun _ _ _ _ _ _ us hl => match us, hl with | [_], _ => rfl)⟩,
    ⟨C.cls, _, _, g1, C.prop "inner" (by decide +kernel), ok_get G1 sc_Name_inner rfl (Or.inl rfl) C.cls C.no FC.cls (FC.no "parts" (by simp)), G1.binds (ps := ["self"]) (fun _ _ _ _ _ _ us hl => match us, hl with | [_], _ => rfl)⟩,
    ⟨C.cls, _, _, g2, C.prop "told" (by decide +kernel), ok_get G2 sc_Name_told rfl (Or.inl rfl) C.cls C.no FC.cls (FC.no "marks" (by simp)), G2.binds (ps := ["self"]) (fun _ _ _ _ _ _ us hl => match us, hl with | [_], _ => rfl)⟩,
    ⟨C.cls, _, _, g3, C.prop "names" (by decide +kernel), ok_get G3 sc_Name_names rfl (Or.inl rfl) C.cls C.no FC.cls (FC.no "labels" (by simp)), G3.binds (ps := ["self"]) (fun _ _ _ _ _ _ us hl => match us, hl with | [_], _ => rfl)⟩,
    ⟨C.cls, _, _, g4, C.prop "knots" (by decide +kernel), ok_get G4 sc_Name_knots rfl (Or.inl rfl) C.cls C.no FC.cls (FC.no "size" (by simp)), G4.binds (ps := ["self"]) (fun _ _ _ _ _ _ us hl => match us, hl with | [_], _ => rfl)⟩⟩
theorem sc_Part_str : FnScope ["self"] ["self"] (defScope s_Part_str) := ⟨rfl, rfl, rfl, by decide +kernel, rfl, by decide +kernel, by decide +kernel⟩
theorem sc_Part_repr : FnScope ["self"] ["self"] (defScope s_Part_repr) := ⟨rfl, rfl, rfl, by decide +kernel, rfl, by decide +kernel, by decide +kernel⟩
theorem sc_Part_kind : FnScope ["self"] ["self"] (defScope s_Part_kind) := ⟨rfl, rfl, rfl, by decide +kernel, rfl, by decide +kernel, by decide +kernel⟩
theorem sc_Part_inner : FnScope ["self"] ["self"] (defScope s_Part_inner) := ⟨rfl, rfl, rfl, by decide +kernel, rfl, by decide +kernel, by decide +kernel⟩
theorem sc_Part_told : FnScope ["self"] ["self"] (defScope s_Part_told) := ⟨rfl, rfl, rfl, by decide +kernel, rfl, by decide +kernel, by decide +kernel⟩
theorem sc_Part_names : FnScope ["self"] ["self"] (defScope s_Part_names) := ⟨rfl, rfl, rfl, by decide +kernel, rfl, by decide +kernel, by decide +kernel⟩
theorem sc_Part_knots : FnScope ["self"] ["self"] (defScope s_Part_knots) := ⟨rfl, rfl, rfl, by decide +kernel, rfl, by decide +kernel, by decide +kernel⟩
theorem tell_Part (c : SaysZ exX dsX K) (z : mg "str" = none) : TellF P w K mg base (He.ga K "Part") := by
  have e := c.ex
  have C := clsF e (x := "Part") (by decide +kernel)
  have FC := (clsF_facts e).2.1
  obtain ⟨f1, F1⟩ := c.def_ 59 (d := ⟨mA "Part" "__str__", "__str__", "Part.__str__", s_Part_str⟩) rfl
  obtain ⟨f2, F2⟩ := c.def_ 60 (d := ⟨mA "Part" "__repr__", "__repr__", "Part.__repr__", s_Part_repr⟩) rfl
  obtain ⟨g0, G0⟩ := c.def_ 98 (d := ⟨pG "Part" "kind", "kind", "Part.kind", s_Part_kind⟩) rfl
  obtain ⟨g1, G1⟩ := c.def_ 99 (d := ⟨pG "Part" "inner", "inner", "Part.inner", s_Part_inner⟩) rfl
  obtain ⟨g2, G2⟩ := c.def_ 100 (d := ⟨pG "Part" "told", "told", "Part.told", s_Part_told⟩) rfl
  obtain ⟨g3, G3⟩ := c.def_ 101 (d := ⟨pG "Part" "names", "names", "Part.names", s_Part_names⟩) rfl
  obtain ⟨g4, G4⟩ := c.def_ 102 (d := ⟨pG "Part" "knots", "knots", "Part.knots", s_Part_knots⟩) rfl
  exact ⟨⟨C.cls, _, f1, C.str.at_, C.str.fn, ok_str F1 sc_Part_str rfl (Or.inl rfl) (fun _ _ => rfl) z C.cls C.no FC.cls (FC.no "text" (by simp)), F1.binds (ps := ["self"]) (fun _ _ _ _ _ _ us hl => match us, hl with | [_], _ => rfl)⟩,
    ⟨_, f2, C.rep.at_, C.rep.fn, ok_reprX F2 sc_Part_repr rfl (Or.inl rfl) C.cls C.no FC.cls (FC.no "size" (by simp)), F2.binds (ps := ["self"]) (fun _ _ _ _ _ _ us hl => match us, hl with | [_], _ => rfl)⟩,
    ⟨C.cls, _, _, g0, C.prop "kind" (by decide +kernel), ok_get G0 sc_Part_kind rfl (Or.inl rfl) C.cls C.no FC.cls (FC.no "word" (by simp)), G0.binds (ps := ["self"]) (fun _ _ _ _ _ _ us hl => match us, hl with | [_], _ => rfl)⟩,
    ⟨C.cls, _, _, g1, C.prop "inner" (by decide +kernel), ok_get G1 sc_Part_inner rfl (Or.inl rfl) C.cls C.no FC.cls (FC.no "parts" (by simp)), G1.binds (ps := ["self"]) (fun _ _ _ _ _ _ us hl => match us, hl with | [_], _ => rfl)⟩,
    ⟨C.cls, _, _, g2, C.prop "told" (by decide +kernel), ok_get G2 sc_Part_told rfl (Or.inl rfl) C.cls C.no FC.cls (FC.no "marks" (by simp)), G2.binds (ps := ["self"]) (fun _ _ _ _ _ _ us hl => match us, hl with | [_], _ => rfl)⟩,
    ⟨C.cls, _, _, g3, C.prop "names" (by decide +kernel), ok_get G3 sc_Part_names rfl (Or.inl rfl) C.cls C.no FC.cls (FC.no "labels" (by simp)), G3.binds (ps := ["self"]) (fun _ _ _ _ _ _ us hl => match us, hl with | [_], _ => rfl)⟩,
    ⟨C.cls, _, _, g4, C.prop "knots" (by decide +kernel), ok_get G4 sc_Part_knots rfl (Or.inl rfl) C.cls C.no FC.cls (FC.no "size" (by simp)), G4.binds (ps := ["self"]) (fun _ _ _ _ _ _ us hl => match us, hl with | [_], _ => rfl)⟩⟩
theorem sc_Sign_str : FnScope ["self"] ["self"] (defScope s_Sign_str) := ⟨rfl, rfl, rfl, by decide +kernel, rfl, by decide +kernel, by decide +kernel⟩
theorem sc_Sign_repr : FnScope ["self"] ["self"] (defScope s_Sign_repr) := ⟨rfl, rfl, rfl, by decide +kernel, rfl, by decide +kernel, by decide +kernel⟩
theorem sc_Sign_kind : FnScope ["self"] ["self"] (defScope s_Sign_kind) := ⟨rfl, rfl, rfl, by decide +kernel, rfl, by decide +kernel, by decide +kernel⟩
theorem sc_Sign_inner : FnScope ["self"] ["self"] (defScope s_Sign_inner) := ⟨rfl, rfl, rfl, by decide +kernel, rfl, by decide +kernel, by decide +kernel⟩
theorem sc_Sign_told : FnScope ["self"] ["self"] (defScope s_Sign_told) := ⟨rfl, rfl, rfl, by decide +kernel, rfl, by decide +kernel, by decide +kernel⟩
theorem sc_Sign_names : FnScope ["self"] ["self"] (defScope s_Sign_names) := ⟨rfl, rfl, rfl, by decide +kernel, rfl, by decide +kernel, by decide +kernel⟩
theorem sc_Sign_knots : FnScope ["self"] ["self"] (defScope s_Sign_knots) := ⟨rfl, rfl, rfl, by decide +kernel, rfl, by decide +kernel, by decide +kernel⟩
theorem tell_Sign (c : SaysZ exX dsX K) (z : mg "str" = none) : TellF P w K mg base (He.ga K "Sign") := by
  have e := c.ex
  have C := clsF e (x := "Sign") (by decide +kernel)
  have FC := (clsF_facts e).2.1
  obtain ⟨f1, F1⟩ := c.def_ 65 (d := ⟨mA "Sign" "__str__", "__str__", "Sign.__str__", s_Sign_str⟩) rfl
  obtain ⟨f2, F2⟩ := c.def_ 66 (d := ⟨mA "Sign" "__repr__", "__repr__", "Sign.__repr__", s_Sign_repr⟩) rfl
  obtain ⟨g0, G0⟩ := c.def_ 103 (d := ⟨pG "Sign" "kind", "kind", "Sign.kind", s_Sign_kind⟩) rfl
  obtain ⟨g1, G1⟩ := c.def_ 104 (d := ⟨pG "Sign" "inner", "inner", "Sign.inner", s_Sign_inner⟩) rfl
  obtain ⟨g2, G2⟩ := c.def_ 105 (d := ⟨pG "Sign" "told", "told", "Sign.told", s_Sign_told⟩) rfl
  obtain ⟨g3, G3⟩ := c.def_ 106 (d := ⟨pG "Sign" "names", "names", "Sign.names", s_Sign_names⟩) rfl
  obtain ⟨g4, G4⟩ := c.def_ 107 (d := ⟨pG "Sign" "knots", "knots", "Sign.knots", s_Sign_knots⟩) rfl
  exact ⟨⟨C.cls, _, f1, C.str.at_, C.str.fn, ok_str F1 sc_Sign_str rfl (Or.inl rfl) (fun _ _ => rfl) z C.cls C.no FC.cls (FC.no "text" (by simp)), F1.binds (ps := ["self"]) (fun _ _ _ _ _ _ us hl => match us, hl with | [_], _ => rfl)⟩,
    ⟨_, f2, C.rep.at_, C.rep.fn, ok_reprX F2 sc_Sign_repr rfl (Or.inl rfl) C.cls C.no FC.cls (FC.no "size" (by simp)), F2.binds (ps := ["self"]) (fun _ _ _ _ _ _ us hl => match us, hl with | [_], _ => rfl)⟩,
    ⟨C.cls, _, _, g0, C.prop "kind" (by decide +kernel), ok_get G0 sc_Sign_kind rfl (Or.inl rfl) C.cls C.no FC.cls (FC.no "word" (by simp)), G0.binds (ps := ["self"]) (fun _ _ _ _ _ _ us hl => match us, hl with | [_], _ => rfl)⟩,
    ⟨C.cls, _, _, g1, C.prop "inner" (by decide +kernel), ok_get G1 sc_Sign_inner rfl (Or.inl rfl) C.cls C.no FC.cls (FC.no "parts" (by simp)), G1.binds (ps := ["self"]) (fun _ _ _ _ _ _ us hl => match us, hl with | [_], _ => rfl)⟩,
    ⟨C.cls, _, _, g2, C.prop "told" (by decide +kernel), ok_get G2 sc_Sign_told rfl (Or.inl rfl) C.cls C.no FC.cls (FC.no "marks" (by simp)), G2.binds (ps := ["self"]) (fun _ _ _ _ _ _ us hl => match us, hl with | [_], _ => rfl)⟩,
    ⟨C.cls, _, _, g3, C.prop "names" (by decide +kernel), ok_get G3 sc_Sign_names rfl (Or.inl rfl) C.cls C.no FC.cls (FC.no "labels" (by simp)), G3.binds (ps := ["self"]) (fun _ _ _ _ _ _ us hl => match us, hl with | [_], _ => rfl)⟩,
    ⟨C.cls, _, _, g4, C.prop "knots" (by decide +kernel), ok_get G4 sc_Sign_knots rfl (Or.inl rfl) C.cls C.no FC.cls (FC.no "size" (by simp)), G4.binds (ps := ["self"]) (fun _ _ _ _ _ _ us hl => match us, hl with | [_], _ => rfl)⟩⟩
theorem sc_Turn_str : FnScope ["self"] ["self"] (defScope s_Turn_str) := ⟨rfl, rfl, rfl, by decide +kernel, rfl, by decide +kernel, by decide +kernel⟩
theorem sc_Turn_repr : FnScope ["self"] ["self"] (defScope s_Turn_repr) := ⟨rfl, rfl, rfl, by decide +kernel, rfl, by decide +kernel, by decide +kernel⟩
theorem sc_Turn_kind : FnScope ["self"] ["self"] (defScope s_Turn_kind) := ⟨rfl, rfl, rfl, by decide +kernel, rfl, by decide +kernel, by decide +kernel⟩
theorem sc_Turn_inner : FnScope ["self"] ["self"] (defScope s_Turn_inner) := ⟨rfl, rfl, rfl, by decide +kernel, rfl, by decide +kernel, by decide +kernel⟩
theorem sc_Turn_told : FnScope ["self"] ["self"] (defScope s_Turn_told) := ⟨rfl, rfl, rfl, by decide +kernel, rfl, by decide +kernel, by decide +kernel⟩
theorem sc_Turn_names : FnScope ["self"] ["self"] (defScope s_Turn_names) := ⟨rfl, rfl, rfl, by decide +kernel, rfl, by decide +kernel, by decide +kernel⟩
theorem sc_Turn_knots : FnScope ["self"] ["self"] (defScope s_Turn_knots) := ⟨rfl, rfl, rfl, by decide +kernel, rfl, by decide +kernel, by decide +kernel⟩
theorem tell_Turn (c : SaysZ exX dsX K) (z : mg "str" = none) : TellF P w K mg base (He.ga K "Turn") := by
  have e := c.ex
  have C := clsF e (x := "Turn") (by decide +kernel)
  have FC := (clsF_facts e).2.1
  obtain ⟨f1, F1⟩ := c.def_ 71 (d := ⟨mA "Turn" "__str__", "__str__", "Turn.__str__", s_Turn_str⟩) rfl
  obtain ⟨f2, F2⟩ := c.def_ 72 (d := ⟨mA "Turn" "__repr__", "__repr__", "Turn.__repr__", s_Turn_repr⟩) rfl
  obtain ⟨g0, G0⟩ := c.def_ 108 (d := ⟨pG "Turn" "kind", "kind", "Turn.kind", s_Turn_kind⟩) rfl
  obtain ⟨g1, G1⟩ := c.def_ 109 (d := ⟨pG "Turn" "inner", "inner", "Turn.inner", s_Turn_inner⟩) rfl
  obtain ⟨g2, G2⟩ := c.def_ 110 (d := ⟨pG "Turn" "told", "told", "Turn.told", s_Turn_told⟩) rfl
  obtain ⟨g3, G3⟩ := c.def_ 111 (d := ⟨pG "Turn" "names", "names", "Turn.names", s_Turn_names⟩) rfl
  obtain ⟨g4, G4⟩ := c.def_ 112 (d := ⟨pG "Turn" "knots", "knots", "Turn.knots", s_Turn_knots⟩) rfl
  exact ⟨⟨C.cls, _, f1, C.str.at_, C.str.fn, ok_str F1 sc_Turn_str rfl (Or.inl rfl) (fun _ _ => rfl) z C.cls C.no FC.cls (FC.no "text" (by simp)), F1.binds (ps := ["self"]) (fun _ _ _ _ _ _ us hl => match us, hl with | [_], _ => rfl)⟩,
    ⟨_, f2, C.rep.at_, C.rep.fn, ok_reprX F2 sc_Turn_repr rfl (Or.inl rfl) C.cls C.no FC.cls (FC.no "size" (by simp)), F2.binds (ps := ["self"]) (fun _ _ _ _ _ _ us hl => match us, hl with | [_], _ => rfl)⟩,
    ⟨C.cls, _, _, g0, C.prop "kind" (by decide +kernel), ok_get G0 sc_Turn_kind rfl (Or.inl rfl) C.cls C.no FC.cls (FC.no "word" (by simp)), G0.binds (ps := ["self"]) (fun _ _ _ _ _ _ us hl => match us, hl with | [_], _ => rfl)⟩,
    ⟨C.cls, _, _, g1, C.prop "inner" (by decide +kernel), ok_get G1 sc_Turn_inner rfl (Or.inl rfl) C.cls C.no FC.cls (FC.no "parts" (by simp)), G1.binds (ps := ["self"]) (fun _ _ _ _ _ _ us hl => match us, hl with | [_], _ => rfl)⟩,
    ⟨C.cls, _, _, g2, C.prop "told" (by decide +kernel), ok_get G2 sc_Turn_told rfl (Or.inl rfl) C.cls C.no FC.cls (FC.no "marks" (by simp)), G2.binds (ps := ["self"]) (fun _ _ _ _ _ _ us hl => match us, hl with | [_], _ => rfl)⟩,
    ⟨C.cls, _, _, g3, C.prop "names" (by decide +kernel), ok_get G3 sc_Turn_names rfl (Or.inl rfl) C.cls C.no FC.cls (FC.no "labels" (by simp)), G3.binds (ps := ["self"]) (fun _ _ _ _ _ _ us hl => match us, hl with | [_], _ => rfl)⟩,
    ⟨C.cls, _, _, g4, C.prop "knots" (by decide +kernel), ok_get G4 sc_Turn_knots rfl (Or.inl rfl) C.cls C.no FC.cls (FC.no "size" (by simp)), G4.binds (ps := ["self"]) (fun _ _ _ _ _ _ us hl => match us, hl with | [_], _ => rfl)⟩⟩
theorem sc_Weave_str : FnScope ["self"] ["self"] (defScope s_Weave_str) := ⟨rfl, rfl, rfl, by decide +kernel, rfl, by decide +kernel, by decide +kernel⟩
theorem sc_Weave_repr : FnScope ["self"] ["self"] (defScope s_Weave_repr) := ⟨rfl, rfl, rfl, by decide +kernel, rfl, by decide +kernel, by decide +kernel⟩
theorem sc_Weave_kind : FnScope ["self"] ["self"] (defScope s_Weave_kind) := ⟨rfl, rfl, rfl, by decide +kernel, rfl, by decide +kernel, by decide +kernel⟩
theorem sc_Weave_inner : FnScope ["self"] ["self"] (defScope s_Weave_inner) := ⟨rfl, rfl, rfl, by decide +kernel, rfl, by decide +kernel, by decide +kernel⟩
theorem sc_Weave_told : FnScope ["self"] ["self"] (defScope s_Weave_told) := ⟨rfl, rfl, rfl, by decide +kernel, rfl, by decide +kernel, by decide +kernel⟩
theorem sc_Weave_names : FnScope ["self"] ["self"] (defScope s_Weave_names) := ⟨rfl, rfl, rfl, by decide +kernel, rfl, by decide +kernel, by decide +kernel⟩
theorem sc_Weave_knots : FnScope ["self"] ["self"] (defScope s_Weave_knots) := ⟨rfl, rfl, rfl, by decide +kernel, rfl, by decide +kernel, by decide +kernel⟩
theorem tell_Weave (c : SaysZ exX dsX K) (z : mg "str" = none) : TellF P w K mg base (He.ga K "Weave") := by
  have e := c.ex
  have C := clsF e (x := "Weave") (by decide +kernel)
  have FC := (clsF_facts e).2.1
  obtain ⟨f1, F1⟩ := c.def_ 77 (d := ⟨mA "Weave" "__str__", "__str__", "Weave.__str__", s_Weave_str⟩) rfl
  obtain ⟨f2, F2⟩ := c.def_ 78 (d := ⟨mA "Weave" "__repr__", "__repr__", "Weave.__repr__", s_Weave_repr⟩) rfl
  obtain ⟨g0, G0⟩ := c.def_ 113 (d := ⟨pG "Weave" "kind", "kind", "Weave.kind", s_Weave_kind⟩) rfl
  obtain ⟨g1, G1⟩ := c.def_ 114 (d := ⟨pG "Weave" "inner", "inner", "Weave.inner", s_Weave_inner⟩) rfl
  obtain ⟨g2, G2⟩ := c.def_ 115 (d := ⟨pG "Weave" "told", "told", "Weave.told", s_Weave_told⟩) rfl
  obtain ⟨g3, G3⟩ := c.def_ 116 (d := ⟨pG "Weave" "names", "names", "Weave.names", s_Weave_names⟩) rfl
  obtain ⟨g4, G4⟩ := c.def_ 117 (d := ⟨pG "Weave" "knots", "knots", "Weave.knots", s_Weave_knots⟩) rfl
  exact ⟨⟨C.cls, _, f1, C.str.at_, C.str.fn, ok_str F1 sc_Weave_str rfl (Or.inl rfl) (fun _ _ => rfl) z C.cls C.no FC.cls (FC.no "text" (by simp)), F1.binds (ps := ["self"]) (fun _ _ _ _ _ _ us hl => match us, hl with | [_], _ => rfl)⟩,
    ⟨_, f2, C.rep.at_, C.rep.fn, ok_reprX F2 sc_Weave_repr rfl (Or.inl rfl) C.cls C.no FC.cls (FC.no "size" (by simp)), F2.binds (ps := ["self"]) (fun _ _ _ _ _ _ us hl => match us, hl with | [_], _ => rfl)⟩,
    ⟨C.cls, _, _, g0, C.prop "kind" (by decide +kernel), ok_get G0 sc_Weave_kind rfl (Or.inl rfl) C.cls C.no FC.cls (FC.no "word" (by simp)), G0.binds (ps := ["self"]) (fun _ _ _ _ _ _ us hl => match us, hl with | [_], _ => rfl)⟩,
    ⟨C.cls, _, _, g1, C.prop "inner" (by decide +kernel), ok_get G1 sc_Weave_inner rfl (Or.inl rfl) C.cls C.no FC.cls (FC.no "parts" (by simp)), G1.binds (ps := ["self"]) (fun _ _ _ _ _ _ us hl => match us, hl with | [_], _ => rfl)⟩,
    ⟨C.cls, _, _, g2, C.prop "told" (by decide +kernel), ok_get G2 sc_Weave_told rfl (Or.inl rfl) C.cls C.no FC.cls (FC.no "marks" (by simp)), G2.binds (ps := ["self"]) (fun _ _ _ _ _ _ us hl => match us, hl with | [_], _ => rfl)⟩,
    ⟨C.cls, _, _, g3, C.prop "names" (by decide +kernel), ok_get G3 sc_Weave_names rfl (Or.inl rfl) C.cls C.no FC.cls (FC.no "labels" (by simp)), G3.binds (ps := ["self"]) (fun _ _ _ _ _ _ us hl => match us, hl with | [_], _ => rfl)⟩,
    ⟨C.cls, _, _, g4, C.prop "knots" (by decide +kernel), ok_get G4 sc_Weave_knots rfl (Or.inl rfl) C.cls C.no FC.cls (FC.no "size" (by simp)), G4.binds (ps := ["self"]) (fun _ _ _ _ _ _ us hl => match us, hl with | [_], _ => rfl)⟩⟩
theorem tellX (c : SaysZ exX dsX K) (z : mg "str" = none) (C : Addr) (hC : clsX K C) : TellF P w K mg base C := by
  obtain ⟨x, hx, rfl⟩ := hC
  simp only [cnX, List.mem_cons, List.not_mem_nil, or_false] at hx
  rcases hx with rfl | rfl | rfl | rfl | rfl | rfl | rfl
  · exact tell_Drop c z
  · exact tell_Lead c z
  · exact tell_Name c z
  · exact tell_Part c z
  · exact tell_Sign c z
  · exact tell_Turn c z
  · exact tell_Weave c z
theorem klsX (c : SaysZ exX dsX K) (z : mg "str" = none) : Kls P w K mg base (He.ga K "Facts") (clsX K) := by
  refine ⟨fun C hC => (tellX c z C hC).str, fun C hC f fld hf => ?_⟩
  have T := tellX (P := P) (w := w) (base := base) c z C hC
  simp only [List.mem_cons, Prod.mk.injEq, List.not_mem_nil, or_false] at hf
  rcases hf with ⟨rfl, rfl⟩ | ⟨rfl, rfl⟩ | ⟨rfl, rfl⟩ | ⟨rfl, rfl⟩ | ⟨rfl, rfl⟩
  · exact T.kind
  · exact T.inner
  · exact T.told
  · exact T.names
  · exact T.knots
theorem sc_Drop_eq : FnScope ["self", "other"] ["self", "other"] (defScope s_Drop_eq) := ⟨rfl, rfl, rfl, by decide +kernel, rfl, by decide +kernel, by decide +kernel⟩
theorem eq_Drop (X : K.In h) (G : h.Ns mainGlobals mg) (c : SaysZ exX dsX K) : EqAny P w K mg base 1 (He.ga K "Drop") (spEqX K (He.ga K "Expression") (He.ga K "Facts") (clsX K) (He.ga K "Drop")) := by
  have e := c.ex
  have C := clsF e (x := "Drop") (by decide +kernel)
  have FC := (clsF_facts e).2.1
  have h1 := List.all_eq_true.mp (Bool.and_eq_true_iff.mp (exX_eq e)).2 "Drop" (by decide +kernel)
  unfold exEq1 at h1
  obtain ⟨_, h1⟩ := Bool.and_eq_true_iff.mp h1
  obtain ⟨_, h1⟩ := Bool.and_eq_true_iff.mp h1
  obtain ⟨_, h1⟩ := Bool.and_eq_true_iff.mp h1
  obtain ⟨_, h1⟩ := Bool.and_eq_true_iff.mp h1
  obtain ⟨h1, h2⟩ := Bool.and_eq_true_iff.mp h1
  have M := He.meth_ok h1
  obtain ⟨f1, F1⟩ := c.def_ 43 (d := ⟨mA "Drop" "__eq__", "__eq__", "Drop.__eq__", s_Drop_eq⟩) rfl
  exact ⟨⟨_, f1, ["self", "other"], M.at_, M.fn, ok_eqX F1 sc_Drop_eq rfl (Or.inl rfl) (Or.inl rfl) (fun _ _ => rfl) (fun _ _ => rfl) (m_free X G e "isinstance") (m_glo X G e "Expression") (ownX e) (ixX e) ⟨"Drop", by decide +kernel, rfl⟩ FC.cls (FC.no "text" (by simp)),
    F1.binds (ps := ["self", "other"]) (fun _ _ _ _ _ _ us hl => match us, hl with | [_, _], _ => rfl)⟩, He.eqO_ok h2, C.mo⟩
theorem sc_Lead_eq : FnScope ["self", "other"] ["self", "other"] (defScope s_Lead_eq) := ⟨rfl, rfl, rfl, by decide +kernel, rfl, by decide +kernel, by decide +kernel⟩
theorem eq_Lead (X : K.In h) (G : h.Ns mainGlobals mg) (c : SaysZ exX dsX K) : EqAny P w K mg base 1 (He.ga K "Lead") (spEqX K (He.ga K "Expression") (He.ga K "Facts") (clsX K) (He.ga K "Lead")) := by
  have e := c.ex
  have C := clsF e (x := "Lead") (by decide +kernel)
  have FC := (clsF_facts e).2.1
  have h1 := List.all_eq_true.mp (Bool.and_eq_true_iff.mp (exX_eq e)).2 "Lead" (by decide +kernel)
  unfold exEq1 at h1
  obtain ⟨_, h1⟩ := Bool.and_eq_true_iff.mp h1
  obtain ⟨_, h1⟩ := Bool.and_eq_true_iff.mp h1
  obtain ⟨_, h1⟩ := Bool.and_eq_true_iff.mp h1
  obtain ⟨_, h1⟩ := Bool.and_eq_true_iff.mp h1
  obtain ⟨h1, h2⟩ := Bool.and_eq_true_iff.mp h1
  have M := He.meth_ok h1
  obtain ⟨f1, F1⟩ := c.def_ 49 (d := ⟨mA "Lead" "__eq__", "__eq__", "Lead.__eq__", s_Lead_eq⟩) rfl
  exact ⟨⟨_, f1, ["self", "other"], M.at_, M.fn, ok_eqX F1 sc_Lead_eq rfl (Or.inl rfl) (Or.inl rfl) (fun _ _ => rfl) (fun _ _ => rfl) (m_free X G e "isinstance") (m_glo X G e "Expression") (ownX e) (ixX e) ⟨"Lead", by decide +kernel, rfl⟩ FC.cls (FC.no "text" (by simp)),
    F1.binds (ps := ["self", "other"]) (fun _ _ _ _ _ _ us hl => match us, hl with | [_, _], _ => rfl)⟩, He.eqO_ok h2, C.mo⟩
theorem sc_Name_eq : FnScope ["self", "other"] ["self", "other"] (defScope s_Name_eq) := ⟨rfl, rfl, rfl, by decide +kernel, rfl, by decide +kernel, by decide +kernel⟩
theorem eq_Name (X : K.In h) (G : h.Ns mainGlobals mg) (c : SaysZ exX dsX K) : EqAny P w K mg base 1 (He.ga K "Name") (spEqX K (He.ga K "Expression") (He.ga K "Facts") (clsX K) (He.ga K "Name")) := by
  have e := c.ex
  have C := clsF e (x := "Name") (by decide +kernel)
  have FC := (clsF_facts e).2.1
  have h1 := List.all_eq_true.mp (Bool.and_eq_true_iff.mp (exX_eq e)).2 "Name" (by decide +kernel)
  unfold exEq1 at h1
  obtain ⟨_, h1⟩ := Bool.and_eq_true_iff.mp h1
  obtain ⟨_, h1⟩ := Bool.and_eq_true_iff.mp h1
  obtain ⟨_, h1⟩ := Bool.and_eq_true_iff.mp h1
  obtain ⟨_, h1⟩ := Bool.and_eq_true_iff.mp h1
  obtain ⟨h1, h2⟩ := Bool.and_eq_true_iff.mp h1
  have M := He.meth_ok h1
  obtain ⟨f1, F1⟩ := c.def_ 55 (d := ⟨mA "Name" "__eq__", "__eq__", "Name.__eq__", s_Name_eq⟩) rfl
  exact ⟨⟨_, f1, ["self", "other"], M.at_, M.fn, ok_eqX F1 sc_Name_eq rfl (Or.inl rfl) (Or.inl rfl) (fun _ _ => rfl) (fun _ _ => rfl) (m_free X G e "isinstance") (m_glo X G e "Expression") (ownX e) (ixX e) ⟨"Name", by decide +kernel, rfl⟩ FC.cls (FC.no "text" (by simp)),
    F1.binds (ps := ["self", "other"]) (fun _ _ _ _ _ _ us hl => match us, hl with | [_, _], _ => rfl)⟩, He.eqO_ok h2, C.mo⟩
theorem sc_Part_eq : FnScope ["self", "other"] ["self", "other"] (defScope s_Part_eq) := ⟨rfl, rfl, rfl, by decide +kernel, rfl, by decide +kernel, by decide +kernel⟩
theorem eq_Part (X : K.In h) (G : h.Ns mainGlobals mg) (c : SaysZ exX dsX K) : EqAny P w K mg base 1 (He.ga K "Part") (spEqX K (He.ga K "Expression") (He.ga K "Facts") (clsX K) (He.ga K "Part")) := by
  have e := c.ex
  have C := clsF e (x := "Part") (by decide +kernel)
  have FC := (clsF_facts e).2.1
  have h1 := List.all_eq_true.mp (Bool.and_eq_true_iff.mp (exX_eq e)).2 "Part" (by decide +kernel)
  unfold exEq1 at h1
  obtain ⟨_, h1⟩ := Bool.and_eq_true_iff.mp h1
  obtain ⟨_, h1⟩ := Bool.and_eq_true_iff.mp h1
  obtain ⟨_, h1⟩ := Bool.and_eq_true_iff.mp h1
  obtain ⟨_, h1⟩ := Bool.and_eq_true_iff.mp h1
  obtain ⟨h1, h2⟩ := Bool.and_eq_true_iff.mp h1
  have M := He.meth_ok h1
  obtain ⟨f1, F1⟩ := c.def_ 61 (d := ⟨mA "Part" "__eq__", "__eq__", "Part.__eq__", s_Part_eq⟩) rfl
  exact ⟨⟨_, f1, ["self", "other"], M.at_, M.fn, ok_eqX F1 sc_Part_eq rfl (Or.inl rfl) (Or.inl rfl) (fun _ _ => rfl) (fun _ _ => rfl) (m_free X G e "isinstance") (m_glo X G e "Expression") (ownX e) (ixX e) ⟨"Part", by decide +kernel, rfl⟩ FC.cls (FC.no "text" (by simp)),
    F1.binds (ps := ["self", "other"]) (fun _ _ _ _ _ _ us hl => match us, hl with | [_, _], _ => rfl)⟩, He.eqO_ok h2, C.mo⟩
theorem sc_Sign_eq : FnScope ["self", "other"] ["self", "other"] (defScope s_Sign_eq) := ⟨rfl, rfl, rfl, by decide +kernel, rfl, by decide +kernel, by decide +kernel⟩
theorem eq_Sign (X : K.In h) (G : h.Ns mainGlobals mg) (c : SaysZ exX dsX K) : EqAny P w K mg base 1 (He.ga K "Sign") (spEqX K (He.ga K "Expression") (He.ga K "Facts") (clsX K) (He.ga K "Sign")) := by
  have e := c.ex
  have C := clsF e (x := "Sign") (by decide +kernel)
  have FC := (clsF_facts e).2.1
  have h1 := List.all_eq_true.mp (Bool.and_eq_true_iff.mp (exX_eq e)).2 "Sign" (by decide +kernel)
  unfold exEq1 at h1
  obtain ⟨_, h1⟩ := Bool.and_eq_true_iff.mp h1
  obtain ⟨_, h1⟩ := Bool.and_eq_true_iff.mp h1
  obtain ⟨_, h1⟩ := Bool.and_eq_true_iff.mp h1
  obtain ⟨_, h1⟩ := Bool.and_eq_true_iff.mp h1
  obtain ⟨h1, h2⟩ := Bool.and_eq_true_iff.mp h1
  have M := He.meth_ok h1
  obtain ⟨f1, F1⟩ := c.def_ 67 (d := ⟨mA "Sign" "__eq__", "__eq__", "Sign.__eq__", s_Sign_eq⟩) rfl
  exact ⟨⟨_, f1, ["self", "other"], M.at_, M.fn, ok_eqX F1 sc_Sign_eq rfl (Or.inl rfl) (Or.inl rfl) (fun _ _ => rfl) (fun _ _ => rfl) (m_free X G e "isinstance") (m_glo X G e "Expression") (ownX e) (ixX e) ⟨"Sign", by decide +kernel, rfl⟩ FC.cls (FC.no "text" (by simp)),
    F1.binds (ps := ["self", "other"]) (fun _ _ _ _ _ _ us hl => match us, hl with | [_, _], _ => rfl)⟩, He.eqO_ok h2, C.mo⟩
theorem sc_Turn_eq : FnScope ["self", "other"] ["self", "other"] (defScope s_Turn_eq) := ⟨rfl, rfl, rfl, by decide +kernel, rfl, by decide +kernel, by decide +kernel⟩
theorem eq_Turn (X : K.In h) (G : h.Ns mainGlobals mg) (c : SaysZ exX dsX K) : EqAny P w K mg base 1 (He.ga K "Turn") (spEqX K (He.ga K "Expression") (He.ga K "Facts") (clsX K) (He.ga K "Turn")) := by
  have e := c.ex
  have C := clsF e (x := "Turn") (by decide +kernel)
  have FC := (clsF_facts e).2.1
  have h1 := List.all_eq_true.mp (Bool.and_eq_true_iff.mp (exX_eq e)).2 "Turn" (by decide +kernel)
  unfold exEq1 at h1
  obtain ⟨_, h1⟩ := Bool.and_eq_true_iff.mp h1
  obtain ⟨_, h1⟩ := Bool.and_eq_true_iff.mp h1
  obtain ⟨_, h1⟩ := Bool.and_eq_true_iff.mp h1
  obtain ⟨_, h1⟩ := Bool.and_eq_true_iff.mp h1
  obtain ⟨h1, h2⟩ := Bool.and_eq_true_iff.mp h1
  have M := He.meth_ok h1
  obtain ⟨f1, F1⟩ := c.def_ 73 (d := ⟨mA "Turn" "__eq__", "__eq__", "Turn.__eq__", s_Turn_eq⟩) rfl
  exact ⟨⟨_, f1, ["self", "other"], M.at_, M.fn, ok_eqX F1 sc_Turn_eq rfl (Or.inl rfl) (Or.inl rfl) (fun _ _ => rfl) (fun _ _ => rfl) (m_free X G e "isinstance") (m_glo X G e "Expression") (ownX e) (ixX e) ⟨"Turn", by decide +kernel, rfl⟩ FC.cls (FC.no "text" (by simp)),
    F1.binds (ps := ["self", "other"]) (fun _ _ _ _ _ _ us hl => match us, hl with | [_, _], _ => rfl)⟩, He.eqO_ok h2, C.mo⟩
theorem sc_Weave_eq : FnScope ["self", "other"] ["self", "other"] (defScope s_Weave_eq) := ⟨rfl, rfl, rfl, by decide +kernel, rfl, by decide +kernel, by decide +kernel⟩
theorem eq_Weave (X : K.In h) (G : h.Ns mainGlobals mg) (c : SaysZ exX dsX K) : EqAny P w K mg base 1 (He.ga K "Weave") (spEqX K (He.ga K "Expression") (He.ga K "Facts") (clsX K) (He.ga K "Weave")) := by
  have e := c.ex
  have C := clsF e (x := "Weave") (by decide +kernel)
  have FC := (clsF_facts e).2.1
  have h1 := List.all_eq_true.mp (Bool.and_eq_true_iff.mp (exX_eq e)).2 "Weave" (by decide +kernel)
  unfold exEq1 at h1
  obtain ⟨_, h1⟩ := Bool.and_eq_true_iff.mp h1
  obtain ⟨_, h1⟩ := Bool.and_eq_true_iff.mp h1
  obtain ⟨_, h1⟩ := Bool.and_eq_true_iff.mp h1
  obtain ⟨_, h1⟩ := Bool.and_eq_true_iff.mp h1
  obtain ⟨h1, h2⟩ := Bool.and_eq_true_iff.mp h1
  have M := He.meth_ok h1
  obtain ⟨f1, F1⟩ := c.def_ 79 (d := ⟨mA "Weave" "__eq__", "__eq__", "Weave.__eq__", s_Weave_eq⟩) rfl
  exact ⟨⟨_, f1, ["self", "other"], M.at_, M.fn, ok_eqX F1 sc_Weave_eq rfl (Or.inl rfl) (Or.inl rfl) (fun _ _ => rfl) (fun _ _ => rfl) (m_free X G e "isinstance") (m_glo X G e "Expression") (ownX e) (ixX e) ⟨"Weave", by decide +kernel, rfl⟩ FC.cls (FC.no "text" (by simp)),
    F1.binds (ps := ["self", "other"]) (fun _ _ _ _ _ _ us hl => match us, hl with | [_, _], _ => rfl)⟩, He.eqO_ok h2, C.mo⟩
theorem eqX (X : K.In h) (G : h.Ns mainGlobals mg) (c : SaysZ exX dsX K) (C : Addr) (hC : clsX K C) : EqAny P w K mg base 1 C (spEqX K (He.ga K "Expression") (He.ga K "Facts") (clsX K) C) := by
  obtain ⟨x, hx, rfl⟩ := hC
  simp only [cnX, List.mem_cons, List.not_mem_nil, or_false] at hx
  rcases hx with rfl | rfl | rfl | rfl | rfl | rfl | rfl
  · exact eq_Drop X G c
  · exact eq_Lead X G c
  · exact eq_Name X G c
  · exact eq_Part X G c
  · exact eq_Sign X G c
  · exact eq_Turn X G c
  · exact eq_Weave X G c
theorem eqFactsX (X : K.In h) (G : h.Ns mainGlobals mg) (c : SaysZ exX dsX K) : EqFacts P w K mg base (He.ga K "Expression") (He.ga K "Facts") (clsX K) := by
  have e := exX_eq c.ex
  obtain ⟨e1, e2⟩ := Bool.and_eq_true_iff.mp e
  have one : ∀ x ∈ cnX, exEq1 K x = true := fun x hx => List.all_eq_true.mp e2 x hx
  refine ⟨fun T hT => of_decide_eq_true (List.all_eq_true.mp e1 T hT), fun C hC T hT => ?_, fun C C2 hC hC2 => ?_, fun C hC => ?_, eqX X G c⟩
  · obtain ⟨x, hx, rfl⟩ := hC
    exact List.all_eq_true.mp (Bool.and_eq_true_iff.mp (one x hx)).1 T hT
  · obtain ⟨x, hx, rfl⟩ := hC
    obtain ⟨y, hy, rfl⟩ := hC2
    exact List.all_eq_true.mp (Bool.and_eq_true_iff.mp (Bool.and_eq_true_iff.mp (one x hx)).2).1 y hy
  · obtain ⟨x, hx, rfl⟩ := hC
    have h := (Bool.and_eq_true_iff.mp (Bool.and_eq_true_iff.mp (one x hx)).2).2
    exact ⟨He.eqO_ok (Bool.and_eq_true_iff.mp h).1, He.eqO_ok (Bool.and_eq_true_iff.mp (Bool.and_eq_true_iff.mp h).2).1⟩
end
end Wp

namespace Wp
open PySem PySem.Spec PyProof.Rows L2 Hx
section
variable {P : Program} {w : World} {K : PySem.W.Frag} {h : Heap} {mg : Str → Option Value} {base : Heap} {fa : Addr}

theorem sc_InvalidNumber : FnScope ["self", "given"] ["self", "given"] (defScope s_InvalidNumber_init) := ⟨rfl, rfl, rfl, by decide +kernel, rfl, by decide +kernel, by decide +kernel⟩
theorem mk_InvalidNumber (X : K.In h) (G : h.Ns mainGlobals mg) (c : SaysZ exX dsX K) : MkC P w K mg base "InvalidNumber" (He.ga K "InvalidNumber") "given" := by
  obtain ⟨fd, F⟩ := c.def_ 28 (d := ⟨mA "InvalidNumber" "__init__", "__init__", "InvalidNumber.__init__", s_InvalidNumber_init⟩) rfl
  have E := errF c.ex (x := "InvalidNumber") (by decide +kernel)
  have b := F.binds (ps := ["self", "given"]) fun _ _ _ _ _ _ us hl => match us, hl with | [_, _], _ => rfl
  have ok := ok_in1 (P := P) (w := w) (mg := mg) (base := base) F sc_InvalidNumber rfl (Or.inl rfl) (Or.inl rfl) (by decide) (by decide) E.ex E.free
  obtain ⟨oc, od, kV, doc, pm, an, cdv, ct, osl, rfl, lk, hcd⟩ := F.ex
  exact ⟨⟨_, _, _, _, _, _, E.ex, E.hi, E.tI, ok, b, fun s self w1 => .of_eq rfl⟩, He.glo_ok X G E.g, E.no⟩
theorem sc_InvalidName : FnScope ["self", "given"] ["self", "given"] (defScope s_InvalidName_init) := ⟨rfl, rfl, rfl, by decide +kernel, rfl, by decide +kernel, by decide +kernel⟩
theorem mk_InvalidName (X : K.In h) (G : h.Ns mainGlobals mg) (c : SaysZ exX dsX K) : MkC P w K mg base "InvalidName" (He.ga K "InvalidName") "given" := by
  obtain ⟨fd, F⟩ := c.def_ 29 (d := ⟨mA "InvalidName" "__init__", "__init__", "InvalidName.__init__", s_InvalidName_init⟩) rfl
  have E := errF c.ex (x := "InvalidName") (by decide +kernel)
  have b := F.binds (ps := ["self", "given"]) fun _ _ _ _ _ _ us hl => match us, hl with | [_, _], _ => rfl
  have ok := ok_in1 (P := P) (w := w) (mg := mg) (base := base) F sc_InvalidName rfl (Or.inl rfl) (Or.inl rfl) (by decide) (by decide) E.ex E.free
  obtain ⟨oc, od, kV, doc, pm, an, cdv, ct, osl, rfl, lk, hcd⟩ := F.ex
  exact ⟨⟨_, _, _, _, _, _, E.ex, E.hi, E.tI, ok, b, fun s self w1 => .of_eq rfl⟩, He.glo_ok X G E.g, E.no⟩
theorem sc_InvalidSign : FnScope ["self", "given"] ["self", "given"] (defScope s_InvalidSign_init) := ⟨rfl, rfl, rfl, by decide +kernel, rfl, by decide +kernel, by decide +kernel⟩
theorem mk_InvalidSign (X : K.In h) (G : h.Ns mainGlobals mg) (c : SaysZ exX dsX K) : MkC P w K mg base "InvalidSign" (He.ga K "InvalidSign") "given" := by
  obtain ⟨fd, F⟩ := c.def_ 30 (d := ⟨mA "InvalidSign" "__init__", "__init__", "InvalidSign.__init__", s_InvalidSign_init⟩) rfl
  have E := errF c.ex (x := "InvalidSign") (by decide +kernel)
  have b := F.binds (ps := ["self", "given"]) fun _ _ _ _ _ _ us hl => match us, hl with | [_, _], _ => rfl
  have ok := ok_in1 (P := P) (w := w) (mg := mg) (base := base) F sc_InvalidSign rfl (Or.inl rfl) (Or.inl rfl) (by decide) (by decide) E.ex E.free
  obtain ⟨oc, od, kV, doc, pm, an, cdv, ct, osl, rfl, lk, hcd⟩ := F.ex
  exact ⟨⟨_, _, _, _, _, _, E.ex, E.hi, E.tI, ok, b, fun s self w1 => .of_eq rfl⟩, He.glo_ok X G E.g, E.no⟩
theorem sc_InvalidWord : FnScope ["self", "given"] ["self", "given"] (defScope s_InvalidWord_init) := ⟨rfl, rfl, rfl, by decide +kernel, rfl, by decide +kernel, by decide +kernel⟩
theorem mk_InvalidWord (X : K.In h) (G : h.Ns mainGlobals mg) (c : SaysZ exX dsX K) : MkC P w K mg base "InvalidWord" (He.ga K "InvalidWord") "given" := by
  obtain ⟨fd, F⟩ := c.def_ 31 (d := ⟨mA "InvalidWord" "__init__", "__init__", "InvalidWord.__init__", s_InvalidWord_init⟩) rfl
  have E := errF c.ex (x := "InvalidWord") (by decide +kernel)
  have b := F.binds (ps := ["self", "given"]) fun _ _ _ _ _ _ us hl => match us, hl with | [_, _], _ => rfl
  have ok := ok_in1 (P := P) (w := w) (mg := mg) (base := base) F sc_InvalidWord rfl (Or.inl rfl) (Or.inl rfl) (by decide) (by decide) E.ex E.free
  obtain ⟨oc, od, kV, doc, pm, an, cdv, ct, osl, rfl, lk, hcd⟩ := F.ex
  exact ⟨⟨_, _, _, _, _, _, E.ex, E.hi, E.tI, ok, b, fun s self w1 => .of_eq rfl⟩, He.glo_ok X G E.g, E.no⟩
theorem sc_InvalidExpression : FnScope ["self", "given"] ["self", "given"] (defScope s_InvalidExpression_init) := ⟨rfl, rfl, rfl, by decide +kernel, rfl, by decide +kernel, by decide +kernel⟩
theorem mk_InvalidExpression (X : K.In h) (G : h.Ns mainGlobals mg) (c : SaysZ exX dsX K) : MkC P w K mg base "InvalidExpression" (He.ga K "InvalidExpression") "given" := by
  obtain ⟨fd, F⟩ := c.def_ 32 (d := ⟨mA "InvalidExpression" "__init__", "__init__", "InvalidExpression.__init__", s_InvalidExpression_init⟩) rfl
  have E := errF c.ex (x := "InvalidExpression") (by decide +kernel)
  have b := F.binds (ps := ["self", "given"]) fun _ _ _ _ _ _ us hl => match us, hl with | [_, _], _ => rfl
  have ok := ok_in1 (P := P) (w := w) (mg := mg) (base := base) F sc_InvalidExpression rfl (Or.inl rfl) (Or.inl rfl) (by decide) (by decide) E.ex E.free
  obtain ⟨oc, od, kV, doc, pm, an, cdv, ct, osl, rfl, lk, hcd⟩ := F.ex
  exact ⟨⟨_, _, _, _, _, _, E.ex, E.hi, E.tI, ok, b, fun s self w1 => .of_eq rfl⟩, He.glo_ok X G E.g, E.no⟩
theorem ctorsX (X : K.In h) (G : h.Ns mainGlobals mg) (c : SaysZ exX dsX K) : Ctors P w K mg base (He.ga K "Facts") (He.ga K "Expression") (He.ga K "InvalidNumber") (He.ga K "InvalidSign") (He.ga K "InvalidName") (He.ga K "InvalidWord") (He.ga K "InvalidExpression") (kcX K) (clsX K) := by
  have e := c.ex
  have Z : Bltn mg := ⟨m_free X G e "isinstance", m_free X G e "int", m_free X G e "bool", m_free X G e "str", m_free X G e "len", m_free X G e "all"⟩
  have Z2 : Bltn2 mg := ⟨m_free X G e "list", m_free X G e "set", m_free X G e "sorted", m_free X G e "tuple", m_free X G e "sum"⟩
  have CO := constsX X G e
  have KL := klsX (P := P) (w := w) (base := base) c Z.str
  have OW := ownX e
  have ix := ixX e
  obtain ⟨gF, FC, MF⟩ := clsF_facts e
  obtain ⟨d_is_integer, F_is_integer⟩ := c.def_ 0 (d := ⟨gA "is_integer", "is_integer", "is_integer", s_is_integer⟩) rfl
  have b_is_integer := F_is_integer.binds (ps := ["value"]) fun _ _ _ _ _ _ us hl => match us, hl with | [_], _ => rfl
  obtain ⟨d_is_within, F_is_within⟩ := c.def_ 1 (d := ⟨gA "is_within", "is_within", "is_within", s_is_within⟩) rfl
  have b_is_within := F_is_within.binds (ps := ["value", "least", "most"]) fun _ _ _ _ _ _ us hl => match us, hl with | [_, _, _], _ => rfl
  obtain ⟨d_is_lettered, F_is_lettered⟩ := c.def_ 2 (d := ⟨gA "is_lettered", "is_lettered", "is_lettered", s_is_lettered⟩) rfl
  have b_is_lettered := F_is_lettered.binds (ps := ["value", "most"]) fun _ _ _ _ _ _ us hl => match us, hl with | [_, _], _ => rfl
  obtain ⟨d_is_name, F_is_name⟩ := c.def_ 3 (d := ⟨gA "is_name", "is_name", "is_name", s_is_name⟩) rfl
  have b_is_name := F_is_name.binds (ps := ["value"]) fun _ _ _ _ _ _ us hl => match us, hl with | [_], _ => rfl
  obtain ⟨d_check_within, F_check_within⟩ := c.def_ 4 (d := ⟨gA "check_within", "check_within", "check_within", s_check_within⟩) rfl
  have b_check_within := F_check_within.binds (ps := ["given", "least", "most"]) fun _ _ _ _ _ _ us hl => match us, hl with | [_, _, _], _ => rfl
  obtain ⟨d_check_sign, F_check_sign⟩ := c.def_ 5 (d := ⟨gA "check_sign", "check_sign", "check_sign", s_check_sign⟩) rfl
  have b_check_sign := F_check_sign.binds (ps := ["given"]) fun _ _ _ _ _ _ us hl => match us, hl with | [_], _ => rfl
  obtain ⟨d_check_name, F_check_name⟩ := c.def_ 6 (d := ⟨gA "check_name", "check_name", "check_name", s_check_name⟩) rfl
  have b_check_name := F_check_name.binds (ps := ["given"]) fun _ _ _ _ _ _ us hl => match us, hl with | [_], _ => rfl
  obtain ⟨d_check_word, F_check_word⟩ := c.def_ 7 (d := ⟨gA "check_word", "check_word", "check_word", s_check_word⟩) rfl
  have b_check_word := F_check_word.binds (ps := ["given"]) fun _ _ _ _ _ _ us hl => match us, hl with | [_], _ => rfl
  obtain ⟨d_spelled, F_spelled⟩ := c.def_ 8 (d := ⟨gA "spelled", "spelled", "spelled", s_spelled⟩) rfl
  have b_spelled := F_spelled.binds (ps := ["kind", "told", "inner"]) fun _ _ _ _ _ _ us hl => match us, hl with | [_, _, _], _ => rfl
  obtain ⟨d_check_expressions, F_check_expressions⟩ := c.def_ 9 (d := ⟨gA "check_expressions", "check_expressions", "check_expressions", s_check_expressions⟩) rfl
  have b_check_expressions := F_check_expressions.binds (ps := ["values"]) fun _ _ _ _ _ _ us hl => match us, hl with | [_], _ => rfl
  obtain ⟨d_Facts, F_Facts⟩ := c.def_ 33 (d := ⟨mA "Facts" "__init__", "__init__", "Facts.__init__", s_Facts_init⟩) rfl
  have b_Facts := F_Facts.binds (ps := ["self", "kind", "told", "inner"]) fun _ _ _ _ _ _ us hl => match us, hl with | [_, _, _, _], _ => rfl
  obtain ⟨d_Drop, F_Drop⟩ := c.def_ 34 (d := ⟨mA "Drop" "__init__", "__init__", "Drop.__init__", s_Drop_init⟩) rfl
  have b_Drop := F_Drop.binds (ps := ["self", "many", "inner"]) fun _ _ _ _ _ _ us hl => match us, hl with | [_, _, _], _ => rfl
  obtain ⟨d_Lead, F_Lead⟩ := c.def_ 35 (d := ⟨mA "Lead" "__init__", "__init__", "Lead.__init__", s_Lead_init⟩) rfl
  have b_Lead := F_Lead.binds (ps := ["self", "first", "rest"]) fun _ _ _ _ _ _ us hl => match us, hl with | [_, _, _], _ => rfl
  obtain ⟨d_Name, F_Name⟩ := c.def_ 36 (d := ⟨mA "Name" "__init__", "__init__", "Name.__init__", s_Name_init⟩) rfl
  have b_Name := F_Name.binds (ps := ["self", "name"]) fun _ _ _ _ _ _ us hl => match us, hl with | [_, _], _ => rfl
  obtain ⟨d_Part, F_Part⟩ := c.def_ 37 (d := ⟨mA "Part" "__init__", "__init__", "Part.__init__", s_Part_init⟩) rfl
  have b_Part := F_Part.binds (ps := ["self", "at", "base", "inner"]) fun _ _ _ _ _ _ us hl => match us, hl with | [_, _, _, _], _ => rfl
  obtain ⟨d_Sign, F_Sign⟩ := c.def_ 38 (d := ⟨mA "Sign" "__init__", "__init__", "Sign.__init__", s_Sign_init⟩) rfl
  have b_Sign := F_Sign.binds (ps := ["self", "sign"]) fun _ _ _ _ _ _ us hl => match us, hl with | [_, _], _ => rfl
  obtain ⟨d_Turn, F_Turn⟩ := c.def_ 39 (d := ⟨mA "Turn" "__init__", "__init__", "Turn.__init__", s_Turn_init⟩) rfl
  have b_Turn := F_Turn.binds (ps := ["self", "word", "inner"]) fun _ _ _ _ _ _ us hl => match us, hl with | [_, _, _], _ => rfl
  obtain ⟨d_Weave, F_Weave⟩ := c.def_ 40 (d := ⟨mA "Weave" "__init__", "__init__", "Weave.__init__", s_Weave_init⟩) rfl
  have G_is_integer := ok_isint (P := P) (w := w) (mg := mg) (base := base) F_is_integer Z
  have G_is_within := ok_within (P := P) (w := w) (mg := mg) (base := base) F_is_within G_is_integer b_is_integer F_is_integer.kp (m_glo X G e "is_integer")
  have G_is_lettered := ok_lettered (P := P) (w := w) (mg := mg) (base := base) F_is_lettered Z CO
  have G_is_name := ok_name (P := P) (w := w) (mg := mg) (base := base) F_is_name CO G_is_lettered b_is_lettered F_is_lettered.kp (m_glo X G e "is_lettered")
  have G_check_within := ok_ckW (P := P) (w := w) (mg := mg) (base := base) F_check_within (mk_InvalidNumber (base := base) X G c) (errF e (x := "InvalidNumber") (by decide +kernel)).ty G_is_within b_is_within F_is_within.kp (m_glo X G e "is_within")
  have G_check_sign := ok_check_sign (P := P) (w := w) (mg := mg) (base := base) F_check_sign (mk_InvalidSign (base := base) X G c) (errF e (x := "InvalidSign") (by decide +kernel)).ty G_is_lettered b_is_lettered F_is_lettered.kp (m_glo X G e "is_lettered")
  have G_check_name := ok_check_name (P := P) (w := w) (mg := mg) (base := base) F_check_name (mk_InvalidName (base := base) X G c) (errF e (x := "InvalidName") (by decide +kernel)).ty G_is_name b_is_name F_is_name.kp (m_glo X G e "is_name")
  have G_check_word := ok_check_word (P := P) (w := w) (mg := mg) (base := base) F_check_word (mk_InvalidWord (base := base) X G c) (errF e (x := "InvalidWord") (by decide +kernel)).ty CO G_is_lettered b_is_lettered F_is_lettered.kp (m_glo X G e "is_lettered")
  have G_check_expressions := ok_ckE (P := P) (w := w) (mg := mg) (base := base) F_check_expressions Z (mk_InvalidExpression (base := base) X G c) (errF e (x := "InvalidExpression") (by decide +kernel)).ty (m_glo X G e "Expression")
  have G_spelled := ok_spelled (P := P) (w := w) (mg := mg) (base := base) F_spelled Z KL
  have G_Facts := ok_facts (P := P) (w := w) (mg := mg) (base := base) F_Facts Z2 KL FC G_spelled b_spelled F_spelled.kp (m_glo X G e "spelled")
  have FO : FactsOk P w K mg base (He.ga K "Facts") (clsX K) := ⟨He.glo_ok X G gF, _, _, MF, G_Facts, b_Facts⟩
  have zm := m_free X G e "max"

  have n_drop : kcX K "drop" = He.ga K "Drop" := congrArg (He.ga K) (by decide +kernel)
  have n_lead : kcX K "lead" = He.ga K "Lead" := congrArg (He.ga K) (by decide +kernel)
  have n_name : kcX K "name" = He.ga K "Name" := congrArg (He.ga K) (by decide +kernel)
  have n_part : kcX K "part" = He.ga K "Part" := congrArg (He.ga K) (by decide +kernel)
  have n_sign : kcX K "sign" = He.ga K "Sign" := congrArg (He.ga K) (by decide +kernel)
  have n_turn : kcX K "turn" = He.ga K "Turn" := congrArg (He.ga K) (by decide +kernel)
  have n_weave : kcX K "weave" = He.ga K "Weave" := congrArg (He.ga K) (by decide +kernel)
  exact
    { own := fun k hk => cls_of k ((by decide +kernel : ∀ k ∈ (["sign", "name", "weave", "part", "drop", "lead", "turn"] : List Str), k ∈ kinds7) k hk)
      sign := by rw [n_sign]; exact ⟨He.glo_ok X G (clsF e (x := "Sign") (by decide +kernel)).g, _, _, (clsF e (x := "Sign") (by decide +kernel)).mkr, ok_sign F_Sign FO OW G_check_sign b_check_sign F_check_sign.kp (m_glo X G e "check_sign"), b_Sign⟩
      name := by rw [n_name]; exact ⟨He.glo_ok X G (clsF e (x := "Name") (by decide +kernel)).g, _, _, (clsF e (x := "Name") (by decide +kernel)).mkr, ok_nameE F_Name FO OW G_check_name b_check_name F_check_name.kp (m_glo X G e "check_name"), b_Name⟩
      weave := by rw [n_weave]; exact ⟨He.glo_ok X G (clsF e (x := "Weave") (by decide +kernel)).g, _, (clsF e (x := "Weave") (by decide +kernel)).mkr, ok_weave F_Weave FO OW ix CO Z G_check_within b_check_within F_check_within.kp (m_glo X G e "check_within") G_check_expressions b_check_expressions F_check_expressions.kp (m_glo X G e "check_expressions")⟩
      part := by rw [n_part]; exact ⟨He.glo_ok X G (clsF e (x := "Part") (by decide +kernel)).g, _, _, (clsF e (x := "Part") (by decide +kernel)).mkr, ok_part F_Part FO OW ix CO zm G_check_within b_check_within F_check_within.kp (m_glo X G e "check_within") G_check_expressions b_check_expressions F_check_expressions.kp (m_glo X G e "check_expressions"), b_Part⟩
      drop := by rw [n_drop]; exact ⟨He.glo_ok X G (clsF e (x := "Drop") (by decide +kernel)).g, _, _, (clsF e (x := "Drop") (by decide +kernel)).mkr, ok_drop F_Drop FO OW ix CO G_check_within b_check_within F_check_within.kp (m_glo X G e "check_within") G_check_expressions b_check_expressions F_check_expressions.kp (m_glo X G e "check_expressions"), b_Drop⟩
      lead := by rw [n_lead]; exact ⟨He.glo_ok X G (clsF e (x := "Lead") (by decide +kernel)).g, _, _, (clsF e (x := "Lead") (by decide +kernel)).mkr, ok_lead F_Lead FO OW ix G_check_expressions b_check_expressions F_check_expressions.kp (m_glo X G e "check_expressions"), b_Lead⟩
      turn := by rw [n_turn]; exact ⟨He.glo_ok X G (clsF e (x := "Turn") (by decide +kernel)).g, _, _, (clsF e (x := "Turn") (by decide +kernel)).mkr, ok_turn F_Turn FO OW ix G_check_word b_check_word F_check_word.kp (m_glo X G e "check_word") G_check_expressions b_check_expressions F_check_expressions.kp (m_glo X G e "check_expressions"), b_Turn⟩ }
end
end Wp

namespace Wp
open PySem PySem.Spec PyProof.Rows L2 Hx LamX
/-! the operators, and what the law's main def rests on -/
section
variable {P : Program} {w : World} {K : PySem.W.Frag} {h : Heap} {mg : Str → Option Value} {base : Heap} {fa : Addr}
theorem dAdd : PySem.dunder (Operator.info .Add).2 = "__add__" := by decide +kernel
theorem dAddR : dunderR (Operator.info .Add).2 = "__radd__" := by decide +kernel
theorem dRsh : PySem.dunder (Operator.info .RShift).2 = "__rshift__" := by decide +kernel
theorem dRshR : dunderR (Operator.info .RShift).2 = "__rrshift__" := by decide +kernel
/-- a class with its operators -/
structure BinF (K : PySem.W.Frag) (x : Str) : Prop where
  add : Meth K (He.ga K x) "__add__" (He.ma K (He.ga K x) "__add__")
  rsh : Meth K (He.ga K x) "__rshift__" (He.ma K (He.ga K x) "__rshift__")
  ex : Meth K (He.ga K x) "exchanged" (He.ma K (He.ga K x) "exchanged")
  first : PySem.W.selfFirst K (He.ga K x) = true
  ra : PySem.W.findIn K (.ref (He.ga K x)) "__radd__" = some none
  rr : PySem.W.findIn K (.ref (He.ga K x)) "__rrshift__" = some none
  ty : ∀ T ∈ types7, PySem.W.subIn K (.type T) (.ref (He.ga K x)) = some false
  oth : ∀ y ∈ cnX, x = y ∨ (He.ga K x ≠ He.ga K y ∧ PySem.W.subIn K (.ref (He.ga K y)) (.ref (He.ga K x)) = some false)
theorem binF (e : exX K = true) {x : Str} (hx : x ∈ cnX) : BinF K x := by
  have h1 := List.all_eq_true.mp (Bool.and_eq_true_iff.mp (Bool.and_eq_true_iff.mp (exX_op e)).2).2 x hx
  unfold exBin at h1
  obtain ⟨a1, h1⟩ := Bool.and_eq_true_iff.mp h1
  obtain ⟨a2, h1⟩ := Bool.and_eq_true_iff.mp h1
  obtain ⟨a3, h1⟩ := Bool.and_eq_true_iff.mp h1
  obtain ⟨a4, h1⟩ := Bool.and_eq_true_iff.mp h1
  obtain ⟨a5, h1⟩ := Bool.and_eq_true_iff.mp h1
  obtain ⟨a6, h1⟩ := Bool.and_eq_true_iff.mp h1
  obtain ⟨a7, a8⟩ := Bool.and_eq_true_iff.mp h1
  refine ⟨He.meth_ok a1, He.meth_ok a2, He.meth_ok a3, a4, He.eqO_ok a5, He.eqO_ok a6, fun T hT => of_decide_eq_true (List.all_eq_true.mp a7 T hT), fun y hy => ?_⟩
  rcases Bool.or_eq_true_iff.mp (List.all_eq_true.mp a8 y hy) with q | q
  · exact .inl (of_decide_eq_true q)
  · exact .inr ⟨of_decide_eq_true (Bool.and_eq_true_iff.mp q).1, of_decide_eq_true (Bool.and_eq_true_iff.mp q).2⟩
theorem tyF (e : exX K = true) {T : String} (hT : T ∈ types7) : PySem.W.kitOne K (.type T) (.ref (He.ga K "Expression")) = some false ∧ ∀ n ∈ opsN, ∃ v, PySem.W.findIn K (.type T) n = some v := by
  have h1 := List.all_eq_true.mp (Bool.and_eq_true_iff.mp (Bool.and_eq_true_iff.mp (exX_op e)).2).1 T hT
  obtain ⟨a1, a2⟩ := Bool.and_eq_true_iff.mp h1
  exact ⟨of_decide_eq_true a1, fun n hn => Option.isSome_iff_exists.mp (List.all_eq_true.mp a2 n hn)⟩
theorem addTX (e : exX K = true) (C : Addr) (hC : clsX K C) (T : String) (hT : T ∈ types7) : BinR K C .Add (.type T) := by
  obtain ⟨x, hx, rfl⟩ := hC
  have t := (tyF e hT).2
  obtain ⟨v, h1⟩ := t "__add__" (by decide +kernel)
  obtain ⟨u, h2⟩ := t "__radd__" (by decide +kernel)
  exact .ty (fo := v) (ro := u) (by rw [dAdd]; exact h1) (by rw [dAddR]; exact h2) ((binF e hx).ty T hT)
theorem rshTX (e : exX K = true) (C : Addr) (hC : clsX K C) (T : String) (hT : T ∈ types7) : BinR K C .RShift (.type T) := by
  obtain ⟨x, hx, rfl⟩ := hC
  have t := (tyF e hT).2
  obtain ⟨v, h1⟩ := t "__rshift__" (by decide +kernel)
  obtain ⟨u, h2⟩ := t "__rrshift__" (by decide +kernel)
  exact .ty (fo := v) (ro := u) (by rw [dRsh]; exact h1) (by rw [dRshR]; exact h2) ((binF e hx).ty T hT)
theorem addRX (e : exX K = true) (C D : Addr) (hC : clsX K C) (hD : clsX K D) : BinR K C .Add (.ref D) := by
  obtain ⟨x, hx, rfl⟩ := hC
  obtain ⟨y, hy, rfl⟩ := hD
  rcases (binF e hx).oth y hy with rfl | ⟨n, s⟩
  · exact .same
  · have B := binF e hy
    exact .other n B.first (by rw [dAdd]; exact B.add.at_) (by rw [dAddR]; exact B.ra) s
theorem ex_rel {vs : List V} {us : List Value} {zs : List V} {ws : List Value} (r : Vals vs us) (rz : Vals zs ws) : Vals (gExV vs zs) (gEx us ws) := by
  cases r with
  | nil => exact .nil
  | cons a r2 =>
    cases r2 with
    | cons _ _ => exact .nil
    | nil =>
      cases rz with
      | nil => exact .nil
      | cons b rz2 =>
        cases rz2 with
        | nil => exact .nil
        | cons c rz3 =>
          cases rz3 with
          | nil => exact .cons a (.cons c (.cons b .nil))
          | cons _ _ => exact .nil

theorem sc_Drop_add : FnScope ["self", "other"] ["self", "other"] (defScope s_Drop_add) := ⟨rfl, rfl, rfl, by decide +kernel, rfl, by decide +kernel, by decide +kernel⟩
theorem sc_Drop_rsh : FnScope ["self", "other"] ["self", "other"] (defScope s_Drop_rshift) := ⟨rfl, rfl, rfl, by decide +kernel, rfl, by decide +kernel, by decide +kernel⟩
theorem sc_Drop_ex : FnScope ["self", "name", "other"] ["self", "name", "other"] (defScope s_Drop_exchanged) := ⟨rfl, rfl, rfl, by decide +kernel, rfl, by decide +kernel, by decide +kernel⟩
theorem add_Drop (c : SaysZ exX dsX K) (T : Ctors P w K mg base (He.ga K "Facts") (He.ga K "Expression") (He.ga K "InvalidNumber") (He.ga K "InvalidSign") (He.ga K "InvalidName") (He.ga K "InvalidWord") (He.ga K "InvalidExpression") (kcX K) (clsX K)) : BinOwn P w K mg base 9 (He.ga K "Drop") .Add (spAdd K (He.ga K "Facts") (He.ga K "Expression") (He.ga K "InvalidExpression") (kcX K) (clsX K)) := by
  have B := binF c.ex (x := "Drop") (by decide +kernel)
  obtain ⟨f1, F1⟩ := c.def_ 44 (d := ⟨mA "Drop" "__add__", "__add__", "Drop.__add__", s_Drop_add⟩) rfl
  exact ⟨⟨_, f1, ["self", "other"], by rw [dAdd]; exact B.add.at_, B.add.fn, ok_add T (ixX c.ex) F1 sc_Drop_add rfl (Or.inl rfl) (Or.inl rfl) (fun _ _ => rfl), F1.binds (ps := ["self", "other"]) (fun _ _ _ _ _ _ us hl => match us, hl with | [_, _], _ => rfl)⟩, B.first, by rw [dAddR]; exact B.ra⟩
theorem rsh_Drop (c : SaysZ exX dsX K) (T : Ctors P w K mg base (He.ga K "Facts") (He.ga K "Expression") (He.ga K "InvalidNumber") (He.ga K "InvalidSign") (He.ga K "InvalidName") (He.ga K "InvalidWord") (He.ga K "InvalidExpression") (kcX K) (clsX K)) : BinOwn P w K mg base 9 (He.ga K "Drop") .RShift (spRsh K (He.ga K "Facts") (He.ga K "InvalidNumber") (kcX K) (clsX K)) := by
  have B := binF c.ex (x := "Drop") (by decide +kernel)
  obtain ⟨f1, F1⟩ := c.def_ 45 (d := ⟨mA "Drop" "__rshift__", "__rshift__", "Drop.__rshift__", s_Drop_rshift⟩) rfl
  exact ⟨⟨_, f1, ["self", "other"], by rw [dRsh]; exact B.rsh.at_, B.rsh.fn, ok_rsh T F1 sc_Drop_rsh rfl (Or.inl rfl) (Or.inl rfl) (fun _ _ => rfl), F1.binds (ps := ["self", "other"]) (fun _ _ _ _ _ _ us hl => match us, hl with | [_, _], _ => rfl)⟩, B.first, by rw [dRshR]; exact B.rr⟩
theorem ex_Drop (c : SaysZ exX dsX K) {fC : Addr} {fdC : FuncData} (GC : FnOk P w K mg base (L2.CX P w) 11 fC fdC ["expression", "name", "other"] (spExIn K (He.ga K "Facts") (He.ga K "Expression") (He.ga K "InvalidName") (He.ga K "InvalidExpression") (kcX K) (clsX K))) (bC : Binds K fdC ["expression", "name", "other"] []) (kC : PySem.W.keepIn K (.ref fC) = true) (mC : mg "exchanged_in" = some (.ref fC)) :
    MethBy P w K mg base 12 (He.ga K "Drop") "exchanged" ["self", "name", "other"] (spExIn K (He.ga K "Facts") (He.ga K "Expression") (He.ga K "InvalidName") (He.ga K "InvalidExpression") (kcX K) (clsX K)) ["other", "name"] gEx gExV := by
  have B := binF c.ex (x := "Drop") (by decide +kernel)
  obtain ⟨f1, F1⟩ := c.def_ 46 (d := ⟨mA "Drop" "exchanged", "exchanged", "Drop.exchanged", s_Drop_exchanged⟩) rfl
  refine ⟨(clsF c.ex (x := "Drop") (by decide +kernel)).cls, _, f1, B.ex, ok_exM F1 sc_Drop_ex rfl (Or.inl rfl) (Or.inl rfl) (Or.inl rfl) (fun _ _ => rfl) GC bC kC mC, F1.binds (ps := ["self", "name", "other"]) (fun _ _ _ _ _ _ us hl => match us, hl with | [_, _, _], _ => rfl), ?_, ex_rel⟩
  obtain ⟨oc, od, kV, doc, pm, an, cdv, ct, osl, rfl, lk, hcd⟩ := F1.ex
  intro s us ws _ h1
  match us, ws, h1 with
  | [u], [x, y], _ => exact .of_eq rfl
  | [], _, h => cases h
  | [_], [], h => cases h
  | [_], [_], h => cases h
  | [_], _ :: _ :: _ :: _, h => cases h
  | _ :: _ :: _, _, h => cases h
theorem sc_Lead_add : FnScope ["self", "other"] ["self", "other"] (defScope s_Lead_add) := ⟨rfl, rfl, rfl, by decide +kernel, rfl, by decide +kernel, by decide +kernel⟩
theorem sc_Lead_rsh : FnScope ["self", "other"] ["self", "other"] (defScope s_Lead_rshift) := ⟨rfl, rfl, rfl, by decide +kernel, rfl, by decide +kernel, by decide +kernel⟩
theorem sc_Lead_ex : FnScope ["self", "name", "other"] ["self", "name", "other"] (defScope s_Lead_exchanged) := ⟨rfl, rfl, rfl, by decide +kernel, rfl, by decide +kernel, by decide +kernel⟩
theorem add_Lead (c : SaysZ exX dsX K) (T : Ctors P w K mg base (He.ga K "Facts") (He.ga K "Expression") (He.ga K "InvalidNumber") (He.ga K "InvalidSign") (He.ga K "InvalidName") (He.ga K "InvalidWord") (He.ga K "InvalidExpression") (kcX K) (clsX K)) : BinOwn P w K mg base 9 (He.ga K "Lead") .Add (spAdd K (He.ga K "Facts") (He.ga K "Expression") (He.ga K "InvalidExpression") (kcX K) (clsX K)) := by
  have B := binF c.ex (x := "Lead") (by decide +kernel)
  obtain ⟨f1, F1⟩ := c.def_ 50 (d := ⟨mA "Lead" "__add__", "__add__", "Lead.__add__", s_Lead_add⟩) rfl
  exact ⟨⟨_, f1, ["self", "other"], by rw [dAdd]; exact B.add.at_, B.add.fn, ok_add T (ixX c.ex) F1 sc_Lead_add rfl (Or.inl rfl) (Or.inl rfl) (fun _ _ => rfl), F1.binds (ps := ["self", "other"]) (fun _ _ _ _ _ _ us hl => match us, hl with | [_, _], _ => rfl)⟩, B.first, by rw [dAddR]; exact B.ra⟩
theorem rsh_Lead (c : SaysZ exX dsX K) (T : Ctors P w K mg base (He.ga K "Facts") (He.ga K "Expression") (He.ga K "InvalidNumber") (He.ga K "InvalidSign") (He.ga K "InvalidName") (He.ga K "InvalidWord") (He.ga K "InvalidExpression") (kcX K) (clsX K)) : BinOwn P w K mg base 9 (He.ga K "Lead") .RShift (spRsh K (He.ga K "Facts") (He.ga K "InvalidNumber") (kcX K) (clsX K)) := by
  have B := binF c.ex (x := "Lead") (by decide +kernel)
  obtain ⟨f1, F1⟩ := c.def_ 51 (d := ⟨mA "Lead" "__rshift__", "__rshift__", "Lead.__rshift__", s_Lead_rshift⟩) rfl
  exact ⟨⟨_, f1, ["self", "other"], by rw [dRsh]; exact B.rsh.at_, B.rsh.fn, ok_rsh T F1 sc_Lead_rsh rfl (Or.inl rfl) (Or.inl rfl) (fun _ _ => rfl), F1.binds (ps := ["self", "other"]) (fun _ _ _ _ _ _ us hl => match us, hl with | [_, _], _ => rfl)⟩, B.first, by rw [dRshR]; exact B.rr⟩
theorem ex_Lead (c : SaysZ exX dsX K) {fC : Addr} {fdC : FuncData} (GC : FnOk P w K mg base (L2.CX P w) 11 fC fdC ["expression", "name", "other"] (spExIn K (He.ga K "Facts") (He.ga K "Expression") (He.ga K "InvalidName") (He.ga K "InvalidExpression") (kcX K) (clsX K))) (bC : Binds K fdC ["expression", "name", "other"] []) (kC : PySem.W.keepIn K (.ref fC) = true) (mC : mg "exchanged_in" = some (.ref fC)) :
    MethBy P w K mg base 12 (He.ga K "Lead") "exchanged" ["self", "name", "other"] (spExIn K (He.ga K "Facts") (He.ga K "Expression") (He.ga K "InvalidName") (He.ga K "InvalidExpression") (kcX K) (clsX K)) ["other", "name"] gEx gExV := by
  have B := binF c.ex (x := "Lead") (by decide +kernel)
  obtain ⟨f1, F1⟩ := c.def_ 52 (d := ⟨mA "Lead" "exchanged", "exchanged", "Lead.exchanged", s_Lead_exchanged⟩) rfl
  refine ⟨(clsF c.ex (x := "Lead") (by decide +kernel)).cls, _, f1, B.ex, ok_exM F1 sc_Lead_ex rfl (Or.inl rfl) (Or.inl rfl) (Or.inl rfl) (fun _ _ => rfl) GC bC kC mC, F1.binds (ps := ["self", "name", "other"]) (fun _ _ _ _ _ _ us hl => match us, hl with | [_, _, _], _ => rfl), ?_, ex_rel⟩
  obtain ⟨oc, od, kV, doc, pm, an, cdv, ct, osl, rfl, lk, hcd⟩ := F1.ex
  intro s us ws _ h1
  match us, ws, h1 with
  | [u], [x, y], _ => exact .of_eq rfl
  | [], _, h => cases h
  | [_], [], h => cases h
  | [_], [_], h => cases h
  | [_], _ :: _ :: _ :: _, h => cases h
  | _ :: _ :: _, _, h => cases h
theorem sc_Name_add : FnScope ["self", "other"] ["self", "other"] (defScope s_Name_add) := ⟨rfl, rfl, rfl, by decide +kernel, rfl, by decide +kernel, by decide +kernel⟩
theorem sc_Name_rsh : FnScope ["self", "other"] ["self", "other"] (defScope s_Name_rshift) := ⟨rfl, rfl, rfl, by decide +kernel, rfl, by decide +kernel, by decide +kernel⟩
theorem sc_Name_ex : FnScope ["self", "name", "other"] ["self", "name", "other"] (defScope s_Name_exchanged) := ⟨rfl, rfl, rfl, by decide +kernel, rfl, by decide +kernel, by decide +kernel⟩
theorem add_Name (c : SaysZ exX dsX K) (T : Ctors P w K mg base (He.ga K "Facts") (He.ga K "Expression") (He.ga K "InvalidNumber") (He.ga K "InvalidSign") (He.ga K "InvalidName") (He.ga K "InvalidWord") (He.ga K "InvalidExpression") (kcX K) (clsX K)) : BinOwn P w K mg base 9 (He.ga K "Name") .Add (spAdd K (He.ga K "Facts") (He.ga K "Expression") (He.ga K "InvalidExpression") (kcX K) (clsX K)) := by
  have B := binF c.ex (x := "Name") (by decide +kernel)
  obtain ⟨f1, F1⟩ := c.def_ 56 (d := ⟨mA "Name" "__add__", "__add__", "Name.__add__", s_Name_add⟩) rfl
  exact ⟨⟨_, f1, ["self", "other"], by rw [dAdd]; exact B.add.at_, B.add.fn, ok_add T (ixX c.ex) F1 sc_Name_add rfl (Or.inl rfl) (Or.inl rfl) (fun _ _ => rfl), F1.binds (ps := ["self", "other"]) (fun _ _ _ _ _ _ us hl => match us, hl with | [_, _], _ => rfl)⟩, B.first, by rw [dAddR]; exact B.ra⟩
theorem rsh_Name (c : SaysZ exX dsX K) (T : Ctors P w K mg base (He.ga K "Facts") (He.ga K "Expression") (He.ga K "InvalidNumber") (He.ga K "InvalidSign") (He.ga K "InvalidName") (He.ga K "InvalidWord") (He.ga K "InvalidExpression") (kcX K) (clsX K)) : BinOwn P w K mg base 9 (He.ga K "Name") .RShift (spRsh K (He.ga K "Facts") (He.ga K "InvalidNumber") (kcX K) (clsX K)) := by
  have B := binF c.ex (x := "Name") (by decide +kernel)
  obtain ⟨f1, F1⟩ := c.def_ 57 (d := ⟨mA "Name" "__rshift__", "__rshift__", "Name.__rshift__", s_Name_rshift⟩) rfl
  exact ⟨⟨_, f1, ["self", "other"], by rw [dRsh]; exact B.rsh.at_, B.rsh.fn, ok_rsh T F1 sc_Name_rsh rfl (Or.inl rfl) (Or.inl rfl) (fun _ _ => rfl), F1.binds (ps := ["self", "other"]) (fun _ _ _ _ _ _ us hl => match us, hl with | [_, _], _ => rfl)⟩, B.first, by rw [dRshR]; exact B.rr⟩
theorem ex_Name (c : SaysZ exX dsX K) {fC : Addr} {fdC : FuncData} (GC : FnOk P w K mg base (L2.CX P w) 11 fC fdC ["expression", "name", "other"] (spExIn K (He.ga K "Facts") (He.ga K "Expression") (He.ga K "InvalidName") (He.ga K "InvalidExpression") (kcX K) (clsX K))) (bC : Binds K fdC ["expression", "name", "other"] []) (kC : PySem.W.keepIn K (.ref fC) = true) (mC : mg "exchanged_in" = some (.ref fC)) :
    MethBy P w K mg base 12 (He.ga K "Name") "exchanged" ["self", "name", "other"] (spExIn K (He.ga K "Facts") (He.ga K "Expression") (He.ga K "InvalidName") (He.ga K "InvalidExpression") (kcX K) (clsX K)) ["other", "name"] gEx gExV := by
  have B := binF c.ex (x := "Name") (by decide +kernel)
  obtain ⟨f1, F1⟩ := c.def_ 58 (d := ⟨mA "Name" "exchanged", "exchanged", "Name.exchanged", s_Name_exchanged⟩) rfl
  refine ⟨(clsF c.ex (x := "Name") (by decide +kernel)).cls, _, f1, B.ex, ok_exM F1 sc_Name_ex rfl (Or.inl rfl) (Or.inl rfl) (Or.inl rfl) (fun _ _ => rfl) GC bC kC mC, F1.binds (ps := ["self", "name", "other"]) (fun _ _ _ _ _ _ us hl => match us, hl with | [_, _, _], _ => rfl), ?_, ex_rel⟩
  obtain ⟨oc, od, kV, doc, pm, an, cdv, ct, osl, rfl, lk, hcd⟩ := F1.ex
  intro s us ws _ h1
  match us, ws, h1 with
  | [u], [x, y], _ => exact .of_eq rfl
  | [], _, h => cases h
  | [_], [], h => cases h
  | [_], [_], h => cases h
  | [_], _ :: _ :: _ :: _, h => cases h
  | _ :: _ :: _, _, h => cases h
theorem sc_Part_add : FnScope ["self", "other"] ["self", "other"] (defScope s_Part_add) := ⟨rfl, rfl, rfl, by decide +kernel, rfl, by decide +kernel, by decide +kernel⟩
theorem sc_Part_rsh : FnScope ["self", "other"] ["self", "other"] (defScope s_Part_rshift) := ⟨rfl, rfl, rfl, by decide +kernel, rfl, by decide +kernel, by decide +kernel⟩
theorem sc_Part_ex : FnScope ["self", "name", "other"] ["self", "name", "other"] (defScope s_Part_exchanged) := ⟨rfl, rfl, rfl, by decide +kernel, rfl, by decide +kernel, by decide +kernel⟩
theorem add_Part (c : SaysZ exX dsX K) (T : Ctors P w K mg base (He.ga K "Facts") (He.ga K "Expression") (He.ga K "InvalidNumber") (He.ga K "InvalidSign") (He.ga K "InvalidName") (He.ga K "InvalidWord") (He.ga K "InvalidExpression") (kcX K) (clsX K)) : BinOwn P w K mg base 9 (He.ga K "Part") .Add (spAdd K (He.ga K "Facts") (He.ga K "Expression") (He.ga K "InvalidExpression") (kcX K) (clsX K)) := by
  have B := binF c.ex (x := "Part") (by decide +kernel)
  obtain ⟨f1, F1⟩ := c.def_ 62 (d := ⟨mA "Part" "__add__", "__add__", "Part.__add__", s_Part_add⟩) rfl
  exact ⟨⟨_, f1, ["self", "other"], by rw [dAdd]; exact B.add.at_, B.add.fn, ok_add T (ixX c.ex) F1 sc_Part_add rfl (Or.inl rfl) (Or.inl rfl) (fun _ _ => rfl), F1.binds (ps := ["self", "other"]) (fun _ _ _ _ _ _ us hl => match us, hl with | [_, _], _ => rfl)⟩, B.first, by rw [dAddR]; exact B.ra⟩
theorem rsh_Part (c : SaysZ exX dsX K) (T : Ctors P w K mg base (He.ga K "Facts") (He.ga K "Expression") (He.ga K "InvalidNumber") (He.ga K "InvalidSign") (He.ga K "InvalidName") (He.ga K "InvalidWord") (He.ga K "InvalidExpression") (kcX K) (clsX K)) : BinOwn P w K mg base 9 (He.ga K "Part") .RShift (spRsh K (He.ga K "Facts") (He.ga K "InvalidNumber") (kcX K) (clsX K)) := by
  have B := binF c.ex (x := "Part") (by decide +kernel)
  obtain ⟨f1, F1⟩ := c.def_ 63 (d := ⟨mA "Part" "__rshift__", "__rshift__", "Part.__rshift__", s_Part_rshift⟩) rfl
  exact ⟨⟨_, f1, ["self", "other"], by rw [dRsh]; exact B.rsh.at_, B.rsh.fn, ok_rsh T F1 sc_Part_rsh rfl (Or.inl rfl) (Or.inl rfl) (fun _ _ => rfl), F1.binds (ps := ["self", "other"]) (fun _ _ _ _ _ _ us hl => match us, hl with | [_, _], _ => rfl)⟩, B.first, by rw [dRshR]; exact B.rr⟩
theorem ex_Part (c : SaysZ exX dsX K) {fC : Addr} {fdC : FuncData} (GC : FnOk P w K mg base (L2.CX P w) 11 fC fdC ["expression", "name", "other"] (spExIn K (He.ga K "Facts") (He.ga K "Expression") (He.ga K "InvalidName") (He.ga K "InvalidExpression") (kcX K) (clsX K))) (bC : Binds K fdC ["expression", "name", "other"] []) (kC : PySem.W.keepIn K (.ref fC) = true) (mC : mg "exchanged_in" = some (.ref fC)) :
    MethBy P w K mg base 12 (He.ga K "Part") "exchanged" ["self", "name", "other"] (spExIn K (He.ga K "Facts") (He.ga K "Expression") (He.ga K "InvalidName") (He.ga K "InvalidExpression") (kcX K) (clsX K)) ["other", "name"] gEx gExV := by
  have B := binF c.ex (x := "Part") (by decide +kernel)
  obtain ⟨f1, F1⟩ := c.def_ 64 (d := ⟨mA "Part" "exchanged", "exchanged", "Part.exchanged", s_Part_exchanged⟩) rfl
  refine ⟨(clsF c.ex (x := "Part") (by decide +kernel)).cls, _, f1, B.ex, ok_exM F1 sc_Part_ex rfl (Or.inl rfl) (Or.inl rfl) (Or.inl rfl) (fun _ _ => rfl) GC bC kC mC, F1.binds (ps := ["self", "name", "other"]) (fun _ _ _ _ _ _ us hl => match us, hl with | [_, _, _], _ => rfl), ?_, ex_rel⟩
  obtain ⟨oc, od, kV, doc, pm, an, cdv, ct, osl, rfl, lk, hcd⟩ := F1.ex
  intro s us ws _ h1
  match us, ws, h1 with
  | [u], [x, y], _ => exact .of_eq rfl
  | [], _, h => cases h
  | [_], [], h => cases h
  | [_], [_], h => cases h
  | [_], _ :: _ :: _ :: _, h => cases h
  | _ :: _ :: _, _, h => cases h
theorem sc_Sign_add : FnScope ["self", "other"] ["self", "other"] (defScope s_Sign_add) := ⟨rfl, rfl, rfl, by decide +kernel, rfl, by decide +kernel, by decide +kernel⟩
theorem sc_Sign_rsh : FnScope ["self", "other"] ["self", "other"] (defScope s_Sign_rshift) := ⟨rfl, rfl, rfl, by decide +kernel, rfl, by decide +kernel, by decide +kernel⟩
theorem sc_Sign_ex : FnScope ["self", "name", "other"] ["self", "name", "other"] (defScope s_Sign_exchanged) := ⟨rfl, rfl, rfl, by decide +kernel, rfl, by decide +kernel, by decide +kernel⟩
theorem add_Sign (c : SaysZ exX dsX K) (T : Ctors P w K mg base (He.ga K "Facts") (He.ga K "Expression") (He.ga K "InvalidNumber") (He.ga K "InvalidSign") (He.ga K "InvalidName") (He.ga K "InvalidWord") (He.ga K "InvalidExpression") (kcX K) (clsX K)) : BinOwn P w K mg base 9 (He.ga K "Sign") .Add (spAdd K (He.ga K "Facts") (He.ga K "Expression") (He.ga K "InvalidExpression") (kcX K) (clsX K)) := by
  have B := binF c.ex (x := "Sign") (by decide +kernel)
  obtain ⟨f1, F1⟩ := c.def_ 68 (d := ⟨mA "Sign" "__add__", "__add__", "Sign.__add__", s_Sign_add⟩) rfl
  exact ⟨⟨_, f1, ["self", "other"], by rw [dAdd]; exact B.add.at_, B.add.fn, ok_add T (ixX c.ex) F1 sc_Sign_add rfl (Or.inl rfl) (Or.inl rfl) (fun _ _ => rfl), F1.binds (ps := ["self", "other"]) (fun _ _ _ _ _ _ us hl => match us, hl with | [_, _], _ => rfl)⟩, B.first, by rw [dAddR]; exact B.ra⟩
theorem rsh_Sign (c : SaysZ exX dsX K) (T : Ctors P w K mg base (He.ga K "Facts") (He.ga K "Expression") (He.ga K "InvalidNumber") (He.ga K "InvalidSign") (He.ga K "InvalidName") (He.ga K "InvalidWord") (He.ga K "InvalidExpression") (kcX K) (clsX K)) : BinOwn P w K mg base 9 (He.ga K "Sign") .RShift (spRsh K (He.ga K "Facts") (He.ga K "InvalidNumber") (kcX K) (clsX K)) := by
  have B := binF c.ex (x := "Sign") (by decide +kernel)
  obtain ⟨f1, F1⟩ := c.def_ 69 (d := ⟨mA "Sign" "__rshift__", "__rshift__", "Sign.__rshift__", s_Sign_rshift⟩) rfl
  exact ⟨⟨_, f1, ["self", "other"], by rw [dRsh]; exact B.rsh.at_, B.rsh.fn, ok_rsh T F1 sc_Sign_rsh rfl (Or.inl rfl) (Or.inl rfl) (fun _ _ => rfl), F1.binds (ps := ["self", "other"]) (fun _ _ _ _ _ _ us hl => match us, hl with | [_, _], _ => rfl)⟩, B.first, by rw [dRshR]; exact B.rr⟩
theorem ex_Sign (c : SaysZ exX dsX K) {fC : Addr} {fdC : FuncData} (GC : FnOk P w K mg base (L2.CX P w) 11 fC fdC ["expression", "name", "other"] (spExIn K (He.ga K "Facts") (He.ga K "Expression") (He.ga K "InvalidName") (He.ga K "InvalidExpression") (kcX K) (clsX K))) (bC : Binds K fdC ["expression", "name", "other"] []) (kC : PySem.W.keepIn K (.ref fC) = true) (mC : mg "exchanged_in" = some (.ref fC)) :
    MethBy P w K mg base 12 (He.ga K "Sign") "exchanged" ["self", "name", "other"] (spExIn K (He.ga K "Facts") (He.ga K "Expression") (He.ga K "InvalidName") (He.ga K "InvalidExpression") (kcX K) (clsX K)) ["other", "name"] gEx gExV := by
  have B := binF c.ex (x := "Sign") (by decide +kernel)
  obtain ⟨f1, F1⟩ := c.def_ 70 (d := ⟨mA "Sign" "exchanged", "exchanged", "Sign.exchanged", s_Sign_exchanged⟩) rfl
  refine ⟨(clsF c.ex (x := "Sign") (by decide +kernel)).cls, _, f1, B.ex, ok_exM F1 sc_Sign_ex rfl (Or.inl rfl) (Or.inl rfl) (Or.inl rfl) (fun _ _ => rfl) GC bC kC mC, F1.binds (ps := ["self", "name", "other"]) (fun _ _ _ _ _ _ us hl => match us, hl with | [_, _, _], _ => rfl), ?_, ex_rel⟩
  obtain ⟨oc, od, kV, doc, pm, an, cdv, ct, osl, rfl, lk, hcd⟩ := F1.ex
  intro s us ws _ h1
  match us, ws, h1 with
  | [u], [x, y], _ => exact .of_eq rfl
  | [], _, h => cases h
  | [_], [], h => cases h
  | [_], [_], h => cases h
  | [_], _ :: _ :: _ :: _, h => cases h
  | _ :: _ :: _, _, h => cases h
theorem sc_Turn_add : FnScope ["self", "other"] ["self", "other"] (defScope s_Turn_add) := ⟨rfl, rfl, rfl, by decide +kernel, rfl, by decide +kernel, by decide +kernel⟩
theorem sc_Turn_rsh : FnScope ["self", "other"] ["self", "other"] (defScope s_Turn_rshift) := ⟨rfl, rfl, rfl, by decide +kernel, rfl, by decide +kernel, by decide +kernel⟩
theorem sc_Turn_ex : FnScope ["self", "name", "other"] ["self", "name", "other"] (defScope s_Turn_exchanged) := ⟨rfl, rfl, rfl, by decide +kernel, rfl, by decide +kernel, by decide +kernel⟩
theorem add_Turn (c : SaysZ exX dsX K) (T : Ctors P w K mg base (He.ga K "Facts") (He.ga K "Expression") (He.ga K "InvalidNumber") (He.ga K "InvalidSign") (He.ga K "InvalidName") (He.ga K "InvalidWord") (He.ga K "InvalidExpression") (kcX K) (clsX K)) : BinOwn P w K mg base 9 (He.ga K "Turn") .Add (spAdd K (He.ga K "Facts") (He.ga K "Expression") (He.ga K "InvalidExpression") (kcX K) (clsX K)) := by
  have B := binF c.ex (x := "Turn") (by decide +kernel)
  obtain ⟨f1, F1⟩ := c.def_ 74 (d := ⟨mA "Turn" "__add__", "__add__", "Turn.__add__", s_Turn_add⟩) rfl
  exact ⟨⟨_, f1, ["self", "other"], by rw [dAdd]; exact B.add.at_, B.add.fn, ok_add T (ixX c.ex) F1 sc_Turn_add rfl (Or.inl rfl) (Or.inl rfl) (fun _ _ => rfl), F1.binds (ps := ["self", "other"]) (fun _ _ _ _ _ _ us hl => match us, hl with | [_, _], _ => rfl)⟩, B.first, by rw [dAddR]; exact B.ra⟩
theorem rsh_Turn (c : SaysZ exX dsX K) (T : Ctors P w K mg base (He.ga K "Facts") (He.ga K "Expression") (He.ga K "InvalidNumber") (He.ga K "InvalidSign") (He.ga K "InvalidName") (He.ga K "InvalidWord") (He.ga K "InvalidExpression") (kcX K) (clsX K)) : BinOwn P w K mg base 9 (He.ga K "Turn") .RShift (spRsh K (He.ga K "Facts") (He.ga K "InvalidNumber") (kcX K) (clsX K)) := by
  have B := binF c.ex (x := "Turn") (by decide +kernel)
  obtain ⟨f1, F1⟩ := c.def_ 75 (d := ⟨mA "Turn" "__rshift__", "__rshift__", "Turn.__rshift__", s_Turn_rshift⟩) rfl
  exact ⟨⟨_, f1, ["self", "other"], by rw [dRsh]; exact B.rsh.at_, B.rsh.fn, ok_rsh T F1 sc_Turn_rsh rfl (Or.inl rfl) (Or.inl rfl) (fun _ _ => rfl), F1.binds (ps := ["self", "other"]) (fun _ _ _ _ _ _ us hl => match us, hl with | [_, _], _ => rfl)⟩, B.first, by rw [dRshR]; exact B.rr⟩
theorem ex_Turn (c : SaysZ exX dsX K) {fC : Addr} {fdC : FuncData} (GC : FnOk P w K mg base (L2.CX P w) 11 fC fdC ["expression", "name", "other"] (spExIn K (He.ga K "Facts") (He.ga K "Expression") (He.ga K "InvalidName") (He.ga K "InvalidExpression") (kcX K) (clsX K))) (bC : Binds K fdC ["expression", "name", "other"] []) (kC : PySem.W.keepIn K (.ref fC) = true) (mC : mg "exchanged_in" = some (.ref fC)) :
    MethBy P w K mg base 12 (He.ga K "Turn") "exchanged" ["self", "name", "other"] (spExIn K (He.ga K "Facts") (He.ga K "Expression") (He.ga K "InvalidName") (He.ga K "InvalidExpression") (kcX K) (clsX K)) ["other", "name"] gEx gExV := by
  have B := binF c.ex (x := "Turn") (by decide +kernel)
  obtain ⟨f1, F1⟩ := c.def_ 76 (d := ⟨mA "Turn" "exchanged", "exchanged", "Turn.exchanged", s_Turn_exchanged⟩) rfl
  refine ⟨(clsF c.ex (x := "Turn") (by decide +kernel)).cls, _, f1, B.ex, ok_exM F1 sc_Turn_ex rfl (Or.inl rfl) (Or.inl rfl) (Or.inl rfl) (fun _ _ => rfl) GC bC kC mC, F1.binds (ps := ["self", "name", "other"]) (fun _ _ _ _ _ _ us hl => match us, hl with | [_, _, _], _ => rfl), ?_, ex_rel⟩
  obtain ⟨oc, od, kV, doc, pm, an, cdv, ct, osl, rfl, lk, hcd⟩ := F1.ex
  intro s us ws _ h1
  match us, ws, h1 with
  | [u], [x, y], _ => exact .of_eq rfl
  | [], _, h => cases h
  | [_], [], h => cases h
  | [_], [_], h => cases h
  | [_], _ :: _ :: _ :: _, h => cases h
  | _ :: _ :: _, _, h => cases h
theorem sc_Weave_add : FnScope ["self", "other"] ["self", "other"] (defScope s_Weave_add) := ⟨rfl, rfl, rfl, by decide +kernel, rfl, by decide +kernel, by decide +kernel⟩
theorem sc_Weave_rsh : FnScope ["self", "other"] ["self", "other"] (defScope s_Weave_rshift) := ⟨rfl, rfl, rfl, by decide +kernel, rfl, by decide +kernel, by decide +kernel⟩
theorem sc_Weave_ex : FnScope ["self", "name", "other"] ["self", "name", "other"] (defScope s_Weave_exchanged) := ⟨rfl, rfl, rfl, by decide +kernel, rfl, by decide +kernel, by decide +kernel⟩
theorem add_Weave (c : SaysZ exX dsX K) (T : Ctors P w K mg base (He.ga K "Facts") (He.ga K "Expression") (He.ga K "InvalidNumber") (He.ga K "InvalidSign") (He.ga K "InvalidName") (He.ga K "InvalidWord") (He.ga K "InvalidExpression") (kcX K) (clsX K)) : BinOwn P w K mg base 9 (He.ga K "Weave") .Add (spAdd K (He.ga K "Facts") (He.ga K "Expression") (He.ga K "InvalidExpression") (kcX K) (clsX K)) := by
  have B := binF c.ex (x := "Weave") (by decide +kernel)
  obtain ⟨f1, F1⟩ := c.def_ 80 (d := ⟨mA "Weave" "__add__", "__add__", "Weave.__add__", s_Weave_add⟩) rfl
  exact ⟨⟨_, f1, ["self", "other"], by rw [dAdd]; exact B.add.at_, B.add.fn, ok_add T (ixX c.ex) F1 sc_Weave_add rfl (Or.inl rfl) (Or.inl rfl) (fun _ _ => rfl), F1.binds (ps := ["self", "other"]) (fun _ _ _ _ _ _ us hl => match us, hl with | [_, _], _ => rfl)⟩, B.first, by rw [dAddR]; exact B.ra⟩
theorem rsh_Weave (c : SaysZ exX dsX K) (T : Ctors P w K mg base (He.ga K "Facts") (He.ga K "Expression") (He.ga K "InvalidNumber") (He.ga K "InvalidSign") (He.ga K "InvalidName") (He.ga K "InvalidWord") (He.ga K "InvalidExpression") (kcX K) (clsX K)) : BinOwn P w K mg base 9 (He.ga K "Weave") .RShift (spRsh K (He.ga K "Facts") (He.ga K "InvalidNumber") (kcX K) (clsX K)) := by
  have B := binF c.ex (x := "Weave") (by decide +kernel)
  obtain ⟨f1, F1⟩ := c.def_ 81 (d := ⟨mA "Weave" "__rshift__", "__rshift__", "Weave.__rshift__", s_Weave_rshift⟩) rfl
  exact ⟨⟨_, f1, ["self", "other"], by rw [dRsh]; exact B.rsh.at_, B.rsh.fn, ok_rsh T F1 sc_Weave_rsh rfl (Or.inl rfl) (Or.inl rfl) (fun _ _ => rfl), F1.binds (ps := ["self", "other"]) (fun _ _ _ _ _ _ us hl => match us, hl with | [_, _], _ => rfl)⟩, B.first, by rw [dRshR]; exact B.rr⟩
theorem ex_Weave (c : SaysZ exX dsX K) {fC : Addr} {fdC : FuncData} (GC : FnOk P w K mg base (L2.CX P w) 11 fC fdC ["expression", "name", "other"] (spExIn K (He.ga K "Facts") (He.ga K "Expression") (He.ga K "InvalidName") (He.ga K "InvalidExpression") (kcX K) (clsX K))) (bC : Binds K fdC ["expression", "name", "other"] []) (kC : PySem.W.keepIn K (.ref fC) = true) (mC : mg "exchanged_in" = some (.ref fC)) :
    MethBy P w K mg base 12 (He.ga K "Weave") "exchanged" ["self", "name", "other"] (spExIn K (He.ga K "Facts") (He.ga K "Expression") (He.ga K "InvalidName") (He.ga K "InvalidExpression") (kcX K) (clsX K)) ["other", "name"] gEx gExV := by
  have B := binF c.ex (x := "Weave") (by decide +kernel)
  obtain ⟨f1, F1⟩ := c.def_ 82 (d := ⟨mA "Weave" "exchanged", "exchanged", "Weave.exchanged", s_Weave_exchanged⟩) rfl
  refine ⟨(clsF c.ex (x := "Weave") (by decide +kernel)).cls, _, f1, B.ex, ok_exM F1 sc_Weave_ex rfl (Or.inl rfl) (Or.inl rfl) (Or.inl rfl) (fun _ _ => rfl) GC bC kC mC, F1.binds (ps := ["self", "name", "other"]) (fun _ _ _ _ _ _ us hl => match us, hl with | [_, _, _], _ => rfl), ?_, ex_rel⟩
  obtain ⟨oc, od, kV, doc, pm, an, cdv, ct, osl, rfl, lk, hcd⟩ := F1.ex
  intro s us ws _ h1
  match us, ws, h1 with
  | [u], [x, y], _ => exact .of_eq rfl
  | [], _, h => cases h
  | [_], [], h => cases h
  | [_], [_], h => cases h
  | [_], _ :: _ :: _ :: _, h => cases h
  | _ :: _ :: _, _, h => cases h
theorem addX (c : SaysZ exX dsX K) (T : Ctors P w K mg base (He.ga K "Facts") (He.ga K "Expression") (He.ga K "InvalidNumber") (He.ga K "InvalidSign") (He.ga K "InvalidName") (He.ga K "InvalidWord") (He.ga K "InvalidExpression") (kcX K) (clsX K)) (C : Addr) (hC : clsX K C) : BinOwn P w K mg base 9 C .Add (spAdd K (He.ga K "Facts") (He.ga K "Expression") (He.ga K "InvalidExpression") (kcX K) (clsX K)) := by
  obtain ⟨x, hx, rfl⟩ := hC
  simp only [cnX, List.mem_cons, List.not_mem_nil, or_false] at hx
  rcases hx with rfl | rfl | rfl | rfl | rfl | rfl | rfl
  · exact add_Drop c T
  · exact add_Lead c T
  · exact add_Name c T
  · exact add_Part c T
  · exact add_Sign c T
  · exact add_Turn c T
  · exact add_Weave c T
theorem rshX (c : SaysZ exX dsX K) (T : Ctors P w K mg base (He.ga K "Facts") (He.ga K "Expression") (He.ga K "InvalidNumber") (He.ga K "InvalidSign") (He.ga K "InvalidName") (He.ga K "InvalidWord") (He.ga K "InvalidExpression") (kcX K) (clsX K)) (C : Addr) (hC : clsX K C) : BinOwn P w K mg base 9 C .RShift (spRsh K (He.ga K "Facts") (He.ga K "InvalidNumber") (kcX K) (clsX K)) := by
  obtain ⟨x, hx, rfl⟩ := hC
  simp only [cnX, List.mem_cons, List.not_mem_nil, or_false] at hx
  rcases hx with rfl | rfl | rfl | rfl | rfl | rfl | rfl
  · exact rsh_Drop c T
  · exact rsh_Lead c T
  · exact rsh_Name c T
  · exact rsh_Part c T
  · exact rsh_Sign c T
  · exact rsh_Turn c T
  · exact rsh_Weave c T
theorem exAllX (c : SaysZ exX dsX K) {fC : Addr} {fdC : FuncData} (GC : FnOk P w K mg base (L2.CX P w) 11 fC fdC ["expression", "name", "other"] (spExIn K (He.ga K "Facts") (He.ga K "Expression") (He.ga K "InvalidName") (He.ga K "InvalidExpression") (kcX K) (clsX K))) (bC : Binds K fdC ["expression", "name", "other"] []) (kC : PySem.W.keepIn K (.ref fC) = true) (mC : mg "exchanged_in" = some (.ref fC)) (C : Addr) (hC : clsX K C) :
    MethBy P w K mg base 12 C "exchanged" ["self", "name", "other"] (spExIn K (He.ga K "Facts") (He.ga K "Expression") (He.ga K "InvalidName") (He.ga K "InvalidExpression") (kcX K) (clsX K)) ["other", "name"] gEx gExV := by
  obtain ⟨x, hx, rfl⟩ := hC
  simp only [cnX, List.mem_cons, List.not_mem_nil, or_false] at hx
  rcases hx with rfl | rfl | rfl | rfl | rfl | rfl | rfl
  · exact ex_Drop c GC bC kC mC
  · exact ex_Lead c GC bC kC mC
  · exact ex_Name c GC bC kC mC
  · exact ex_Part c GC bC kC mC
  · exact ex_Sign c GC bC kC mC
  · exact ex_Turn c GC bC kC mC
  · exact ex_Weave c GC bC kC mC
theorem cauF (e : exX K = true) {x : Str} (hx : x ∈ errcX) : XfC K (He.ga K x) ∧ ∀ y ∈ errcX, PySem.W.exmOne K (.ref (He.ga K x)) (.ref (He.ga K y)) = some (decide (x = y)) := by
  have h1 := List.all_eq_true.mp (Bool.and_eq_true_iff.mp (exX_op e)).1 x hx
  obtain ⟨a1, a2⟩ := Bool.and_eq_true_iff.mp h1
  exact ⟨xfB_ok a1, fun y hy => of_decide_eq_true (List.all_eq_true.mp a2 y hy)⟩
theorem excX (X : K.In h) (G : h.Ns mainGlobals mg) (e : exX K = true) : ExcX K mg (errs (He.ga K "InvalidExpression") (He.ga K "InvalidName") (He.ga K "InvalidNumber")) := by
  have all : ∀ (Pr : Str × Addr → Prop), (∀ x ∈ errcX, Pr (x, He.ga K x)) → ∀ p ∈ errs (He.ga K "InvalidExpression") (He.ga K "InvalidName") (He.ga K "InvalidNumber"), Pr p := fun Pr a p hp => by
    rcases List.mem_cons.mp hp with rfl | hp
    · exact a "InvalidExpression" (by decide +kernel)
    · rcases List.mem_cons.mp hp with rfl | hp
      · exact a "InvalidName" (by decide +kernel)
      · rw [List.mem_singleton.mp hp]
        exact a "InvalidNumber" (by decide +kernel)
  have inn : ∀ x ∈ errcX, x ∈ errsX := by decide +kernel
  exact ⟨all _ fun x hx => (cauF e hx).1, all _ fun x hx => (errF e (inn x hx)).no, all _ fun x hx => He.glo_ok X G (errF e (inn x hx)).g,
    all _ fun x hx => all _ fun y hy => (cauF e hx).2 y hy, all _ fun x hx => (by decide +kernel : ∀ x ∈ errcX, (x == ("__debug__" : Str)) = false) x hx⟩
theorem lawX (X : K.In h) (G : h.Ns mainGlobals mg) (c : SaysZ exX dsX K) (hfa : mg ("law" : Str) = some (.ref fa)) :
    ∃ fd : FuncData, (∀ (s : Shared) (u : Value), BindsTo s fd ⟨[u], []⟩ [("_law_cells", u)]) ∧ ∀ base : Heap, K.In base → base.Ns mainGlobals mg → Mods base → TabB base mg (cAt "_law_right" K) (tAt "_law_right" K) →
      GOk P w K mg base CX0 43 fa fd ["_law_cells"] (spLaw K (tAt "_law_right" K)) := by
  have e := c.ex
  cases (hfa.symm.trans (m_glo X G e "law"))
  have Z : Bltn mg := ⟨m_free X G e "isinstance", m_free X G e "int", m_free X G e "bool", m_free X G e "str", m_free X G e "len", m_free X G e "all"⟩
  have Z2 : Bltn2 mg := ⟨m_free X G e "list", m_free X G e "set", m_free X G e "sorted", m_free X G e "tuple", m_free X G e "sum"⟩
  have Z3 : Bltn3 mg := ⟨m_free X G e "range"⟩
  have Z4 : Bltn4 mg := ⟨m_free X G e "range", m_free X G e "max", m_free X G e "min", m_free X G e "len", m_free X G e "all"⟩
  have Z5 : Bltn5 mg := ⟨m_free X G e "tuple", m_free X G e "len"⟩
  have CO := constsX X G e
  obtain ⟨d_is_lettered, F_is_lettered⟩ := c.def_ 2 (d := ⟨gA "is_lettered", "is_lettered", "is_lettered", s_is_lettered⟩) rfl
  have b_is_lettered := F_is_lettered.binds (ps := ["value", "most"]) fun _ _ _ _ _ _ us hl => match us, hl with | [_, _], _ => rfl
  obtain ⟨d_is_name, F_is_name⟩ := c.def_ 3 (d := ⟨gA "is_name", "is_name", "is_name", s_is_name⟩) rfl
  have b_is_name := F_is_name.binds (ps := ["value"]) fun _ _ _ _ _ _ us hl => match us, hl with | [_], _ => rfl
  obtain ⟨d_check_name, F_check_name⟩ := c.def_ 6 (d := ⟨gA "check_name", "check_name", "check_name", s_check_name⟩) rfl
  have b_check_name := F_check_name.binds (ps := ["given"]) fun _ _ _ _ _ _ us hl => match us, hl with | [_], _ => rfl
  obtain ⟨d_check_expressions, F_check_expressions⟩ := c.def_ 9 (d := ⟨gA "check_expressions", "check_expressions", "check_expressions", s_check_expressions⟩) rfl
  have b_check_expressions := F_check_expressions.binds (ps := ["values"]) fun _ _ _ _ _ _ us hl => match us, hl with | [_], _ => rfl
  obtain ⟨d_knots_above, F_knots_above⟩ := c.def_ 10 (d := ⟨gA "knots_above", "knots_above", "knots_above", s_knots_above⟩) rfl
  have b_knots_above := F_knots_above.binds (ps := ["expression", "name"]) fun _ _ _ _ _ _ us hl => match us, hl with | [_, _], _ => rfl
  obtain ⟨d_exchange, F_exchange⟩ := c.def_ 11 (d := ⟨gA "exchange", "exchange", "exchange", s_exchange⟩) rfl
  have b_exchange := F_exchange.binds (ps := ["expression", "name", "other", "make"]) fun _ _ _ _ _ _ us hl => match us, hl with | [_, _, _, _], _ => rfl
  obtain ⟨d_make, F_make⟩ := c.def_ 12 (d := ⟨gA "make", "make", "make", s_make⟩) rfl
  have b_make := F_make.binds (ps := ["kind", "told", "inner"]) fun _ _ _ _ _ _ us hl => match us, hl with | [_, _, _], _ => rfl
  obtain ⟨d_exchanged_in, F_exchanged_in⟩ := c.def_ 13 (d := ⟨gA "exchanged_in", "exchanged_in", "exchanged_in", s_exchanged_in⟩) rfl
  have b_exchanged_in := F_exchanged_in.binds (ps := ["expression", "name", "other"]) fun _ _ _ _ _ _ us hl => match us, hl with | [_, _, _], _ => rfl
  obtain ⟨d__law_deck, F__law_deck⟩ := c.def_ 14 (d := ⟨gA "_law_deck", "_law_deck", "_law_deck", s_law_deck⟩) rfl
  have b__law_deck := F__law_deck.binds (ps := ["_law_cells", "_law_turn"]) fun _ _ _ _ _ _ us hl => match us, hl with | [_, _], _ => rfl
  obtain ⟨d__law_card, F__law_card⟩ := c.def_ 15 (d := ⟨gA "_law_card", "_law_card", "_law_card", s_law_card⟩) rfl
  have b__law_card := F__law_card.binds (ps := ["_law_deck_here", "_law_top"]) fun _ _ _ _ _ _ us hl => match us, hl with | [_, _], _ => rfl
  obtain ⟨d__law_of, F__law_of⟩ := c.def_ 16 (d := ⟨gA "_law_of", "_law_of", "_law_of", s_law_of⟩) rfl
  have b__law_of := F__law_of.binds (ps := ["_law_deck_here", "_law_menu"]) fun _ _ _ _ _ _ us hl => match us, hl with | [_, _], _ => rfl
  obtain ⟨d__law_leaf, F__law_leaf⟩ := c.def_ 17 (d := ⟨gA "_law_leaf", "_law_leaf", "_law_leaf", s_law_leaf⟩) rfl
  have b__law_leaf := F__law_leaf.binds (ps := ["_law_deck_here", "_law_letters", "_law_menu"]) fun _ _ _ _ _ _ us hl => match us, hl with | [_, _, _], _ => rfl
  obtain ⟨d__law_tree, F__law_tree⟩ := c.def_ 18 (d := ⟨gA "_law_tree", "_law_tree", "_law_tree", s_law_tree⟩) rfl
  have b__law_tree := F__law_tree.binds (ps := ["_law_deck_here", "_law_frame", "_law_room", "_law_parts"]) fun _ _ _ _ _ _ us hl => match us, hl with | [_, _, _, _], _ => rfl
  obtain ⟨d__law_titles, F__law_titles⟩ := c.def_ 19 (d := ⟨gA "_law_titles", "_law_titles", "_law_titles", s_law_titles⟩) rfl
  have b__law_titles := F__law_titles.binds (ps := ["_law_deck_here", "_law_size", "_law_taken"]) fun _ _ _ _ _ _ us hl => match us, hl with | [_, _, _], _ => rfl
  obtain ⟨d__law_signs, F__law_signs⟩ := c.def_ 20 (d := ⟨gA "_law_signs", "_law_signs", "_law_signs", s_law_signs⟩) rfl
  have b__law_signs := F__law_signs.binds (ps := ["_law_deck_here", "_law_size"]) fun _ _ _ _ _ _ us hl => match us, hl with | [_, _], _ => rfl
  obtain ⟨d__law_plain, F__law_plain⟩ := c.def_ 21 (d := ⟨gA "_law_plain", "_law_plain", "_law_plain", s_law_plain⟩) rfl
  have b__law_plain := F__law_plain.binds (ps := ["_law_deck_here", "_law_room"]) fun _ _ _ _ _ _ us hl => match us, hl with | [_, _], _ => rfl
  obtain ⟨d__law_made, F__law_made⟩ := c.def_ 22 (d := ⟨gA "_law_made", "_law_made", "_law_made", s_law_made⟩) rfl
  have b__law_made := F__law_made.binds (ps := ["_law_tree_here", "_law_wide"]) fun _ _ _ _ _ _ us hl => match us, hl with | [_, _], _ => rfl
  obtain ⟨d__law_text, F__law_text⟩ := c.def_ 23 (d := ⟨gA "_law_text", "_law_text", "_law_text", s_law_text⟩) rfl
  have b__law_text := F__law_text.binds (ps := ["_law_tree_here", "_law_wide"]) fun _ _ _ _ _ _ us hl => match us, hl with | [_, _], _ => rfl
  obtain ⟨d__law_caught, F__law_caught⟩ := c.def_ 24 (d := ⟨gA "_law_caught", "_law_caught", "_law_caught", s_law_caught⟩) rfl
  have b__law_caught := F__law_caught.binds (ps := ["_law_act"]) fun _ _ _ _ _ _ us hl => match us, hl with | [_], _ => rfl
  obtain ⟨d__law_put, F__law_put⟩ := c.def_ 25 (d := ⟨gA "_law_put", "_law_put", "_law_put", s_law_put⟩) rfl
  have b__law_put := F__law_put.binds (ps := ["_law_tree_here", "_law_title", "_law_given"]) fun _ _ _ _ _ _ us hl => match us, hl with | [_, _, _], _ => rfl
  obtain ⟨d__law_right, F__law_right⟩ := c.def_ 26 (d := ⟨gA "_law_right", "_law_right", "_law_right", s_law_right⟩) rfl
  have b__law_right := F__law_right.binds (ps := ["_law_deck_here"]) fun _ _ _ _ _ _ us hl => match us, hl with | [_], _ => rfl
  obtain ⟨d_law, F_law⟩ := c.def_ 27 (d := ⟨gA "law", "law", "law", s_law⟩) rfl
  refine ⟨d_law, ?_, fun base KB GB hm TB => ?_⟩
  · obtain ⟨oc, od, kV, doc, pm, an, cdv, ct, osl, rfl, lk, hcd⟩ := F_law.ex
    exact fun s u => .of_eq rfl
  have T := ctorsX (P := P) (w := w) (base := base) X G c
  have KL := klsX (P := P) (w := w) (base := base) c Z.str
  have KD := kindsX X G e
  have EF := eqFactsX (P := P) (w := w) (base := base) X G c
  have G_is_lettered := ok_lettered (P := P) (w := w) (mg := mg) (base := base) F_is_lettered Z CO
  have G_is_name := ok_name (P := P) (w := w) (mg := mg) (base := base) F_is_name CO G_is_lettered b_is_lettered F_is_lettered.kp (m_glo X G e "is_lettered")
  have G_check_name := ok_check_name (P := P) (w := w) (mg := mg) (base := base) F_check_name (mk_InvalidName (base := base) X G c) (errF e (x := "InvalidName") (by decide +kernel)).ty G_is_name b_is_name F_is_name.kp (m_glo X G e "is_name")
  have G_check_expressions := ok_ckE (P := P) (w := w) (mg := mg) (base := base) F_check_expressions Z (mk_InvalidExpression (base := base) X G c) (errF e (x := "InvalidExpression") (by decide +kernel)).ty (m_glo X G e "Expression")
  have G_knots_above := ok_above (P := P) (w := w) (mg := mg) (base := base) (kc := kcX K) F_knots_above KL
  have G_make := ok_mk (P := P) (w := w) (mg := mg) (base := base) F_make T
  have G_exchange := ok_exch (P := P) (w := w) (mg := mg) (base := base) F_exchange Z5 KL G_knots_above b_knots_above F_knots_above.kp (m_glo X G e "knots_above") G_make b_make F_make.kp
  have G_exchanged_in := ok_exIn (P := P) (w := w) (mg := mg) (base := base) F_exchanged_in (ixX e) G_check_name b_check_name F_check_name.kp (m_glo X G e "check_name") G_check_expressions b_check_expressions F_check_expressions.kp (m_glo X G e "check_expressions") G_exchange b_exchange F_exchange.kp (m_glo X G e "exchange") (m_glo X G e "make")
  have G__law_deck := ok_deck (P := P) (w := w) (mg := mg) (base := base) F__law_deck Z.len Z.int (m_free X G e "abs")
  have G__law_card := ok_card (P := P) (w := w) (mg := mg) (base := base) F__law_card Z.int (m_free X G e "divmod")
  have G__law_of := ok_of (P := P) (w := w) (mg := mg) (base := base) F__law_of G__law_card b__law_card F__law_card.kp (m_glo X G e "_law_card") Z.len
  have GS := ok_ofS (P := P) (w := w) (mg := mg) (base := base) F__law_of G__law_card b__law_card F__law_card.kp (m_glo X G e "_law_card") Z.len
  have G__law_leaf := ok_leaf (P := P) (w := w) (mg := mg) (base := base) F__law_leaf G__law_card b__law_card F__law_card.kp (m_glo X G e "_law_card") G__law_of GS b__law_of F__law_of.kp (m_glo X G e "_law_of")
  have G__law_tree := ok_tree (P := P) (w := w) (mg := mg) (base := base) F__law_tree Z3 b__law_tree (m_glo X G e "_law_tree") G__law_card b__law_card F__law_card.kp (m_glo X G e "_law_card") GS b__law_of F__law_of.kp (m_glo X G e "_law_of") G__law_leaf b__law_leaf F__law_leaf.kp (m_glo X G e "_law_leaf") 12
  have G__law_titles := ok_titles (P := P) (w := w) (mg := mg) (base := base) F__law_titles Z3 G__law_card b__law_card F__law_card.kp (m_glo X G e "_law_card") G__law_of GS b__law_of F__law_of.kp (m_glo X G e "_law_of")
  have G__law_signs := ok_signs (P := P) (w := w) (mg := mg) (base := base) F__law_signs Z Z3 G__law_card b__law_card F__law_card.kp (m_glo X G e "_law_card")
  have G__law_plain := ok_plain (P := P) (w := w) (mg := mg) (base := base) F__law_plain G__law_card b__law_card F__law_card.kp (m_glo X G e "_law_card") G__law_signs b__law_signs F__law_signs.kp (m_glo X G e "_law_signs") G__law_titles b__law_titles F__law_titles.kp (m_glo X G e "_law_titles") G__law_tree b__law_tree F__law_tree.kp (m_glo X G e "_law_tree")
  have G__law_made := ok_made (P := P) (w := w) (mg := mg) (base := base) F__law_made T b__law_made (m_glo X G e "_law_made") 12
  have G__law_text := ok_text (P := P) (w := w) (mg := mg) (base := base) F__law_text Z b__law_text (m_glo X G e "_law_text") 32
  have G__law_put := ok_put (P := P) (w := w) (mg := mg) (base := base) F__law_put b__law_put (m_glo X G e "_law_put") 12
  have D : Defs P w K mg base (He.ga K "Facts") (He.ga K "Expression") (He.ga K "InvalidExpression") (He.ga K "InvalidName") (He.ga K "InvalidNumber") (kcX K) (clsX K) (cAt "_law_right" K) (tAt "_law_right" K) :=
    { add := addX c T
      rsh := rshX c T
      addR := addRX e
      rshT := rshTX e
      addT := addTX e
      ex := exAllX c G_exchanged_in b_exchanged_in F_exchanged_in.kp (m_glo X G e "exchanged_in")
      nt := fun T hT => (tyF e hT).1
      eq := EF
      kl := KL
      kd := KD
      ix := ixX e
      caught := ⟨_, _, F__law_caught, b__law_caught, m_glo X G e "_law_caught"⟩
      exc := excX X G e
      tab := TB
      mods := hm
      repr := m_free X G e "repr" }
  have G__law_right := ok_right D (FunC.of F__law_right) Z G__law_card b__law_card F__law_card.kp (m_glo X G e "_law_card") G__law_of b__law_of F__law_of.kp (m_glo X G e "_law_of") G__law_plain b__law_plain F__law_plain.kp (m_glo X G e "_law_plain") G__law_made b__law_made F__law_made.kp (m_glo X G e "_law_made") G__law_put b__law_put F__law_put.kp (m_glo X G e "_law_put") G__law_tree b__law_tree F__law_tree.kp (m_glo X G e "_law_tree") G__law_text b__law_text F__law_text.kp (m_glo X G e "_law_text")
  exact ok_law (P := P) (w := w) (mg := mg) (base := base) F_law Z4 G__law_deck b__law_deck F__law_deck.kp (m_glo X G e "_law_deck") G__law_right b__law_right F__law_right.kp (m_glo X G e "_law_right")
end
end Wp

open PySem PySem.W PySem.Calls PyProof.Rows in
set_option maxHeartbeats 0 in
theorem PySem.Challenge.cw_wovenplaces_k04_operators_and_exchanges_holds : PySem.Challenge.rw_wovenplaces_k04_operators_and_exchanges.Holds := by
  w_on; o_law
  refine HandSHeadRun.head_any (r := OpenLaw.row PySem.Challenge.rw_wovenplaces_k04_operators_and_exchanges) (q := view (OpenLaw.row PySem.Challenge.rw_wovenplaces_k04_operators_and_exchanges).prog [55]) (H := Wp.hkX) (ob := Wp.obX) (M := 20000) (loose := Wp.namesX)
    (d := HandSHeadRun.topDef (OpenLaw.row PySem.Challenge.rw_wovenplaces_k04_operators_and_exchanges).prog 55) (kwd := []) Wp.obX_eq
    (by kernel_rfl) (fun s => by kernel_rfl) Wp.runX (by kernel_rfl) (by kernel_rfl) (by kernel_rfl) (by rfl) (by first | assumption | decide +kernel) (by decide +kernel) ⟨rfl, rfl, rfl, rfl, rfl, by decide +kernel⟩ ?hw ?hc
  case hw => w_witness2
  case hc =>
    refine Hx.walk_GT (l := PySem.Challenge.rw_wovenplaces_k04_operators_and_exchanges) (n := 63) (k := 43) (x := "_law_cells") rfl (by decide) (by kernel_rfl) ⟨rfl, by decide, by decide⟩ (by kernel_rfl) ?F
    intro w mg fa h Y G hmg0
    obtain ⟨K, KX, c, t⟩ := Y
    have hmg : mg ("law" : PySem.Str) = some (.ref fa) := by
      have e : (HandSHeadRun.topDef (OpenLaw.row PySem.Challenge.rw_wovenplaces_k04_operators_and_exchanges).prog 55).name = ("law" : PySem.Str) := by kernel_rfl
      rw [← e]
      exact hmg0
    obtain ⟨fd, hb, hF⟩ := Wp.lawX (P := (PySem.Challenge.rw_wovenplaces_k04_operators_and_exchanges).prog) (w := w) KX G c hmg
    have one : ∀ (Pr : Addr × Addr → Prop), Pr (Wp.cAt "_law_right" K, Wp.tAt "_law_right" K) → ∀ p ∈ [(Wp.cAt "_law_right" K, Wp.tAt "_law_right" K)], Pr p := fun Pr q p hp => by
      rw [List.mem_singleton.mp hp]
      exact q
    refine ⟨K, [(Wp.cAt "_law_right" K, Wp.tAt "_law_right" K)], fd, Wp.spLaw K (Wp.tAt "_law_right" K), KX, one _ t.tab, one _ t.out, one _ (codeHd_of_K KX t.code), hb, fun H a ns hl hT hS => ⟨a, ns, rfl, hS, hl, ?_, fun _ => rfl⟩,
      fun base KB GB hm hT => hF base KB GB hm (hT _ (List.mem_singleton.mpr rfl))⟩
    intro p hp
    rw [List.mem_singleton.mp hp]
    exact LamX.TabS.nil (hT _ (List.mem_singleton.mpr rfl))

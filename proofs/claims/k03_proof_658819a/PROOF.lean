import PyProof.Rows.All
import Wide.All
import OpenK.AllK
import Wide.FinOn
import PyProof.EqAt
import PyProof.EqKinds
import PyProof.TupleCall
import PyProof.ReprRoads
import HandS.Base
import HandS.Call
import HandS.List
import HandS.Comp
import HandS.Ends
import HandS.Dict
import HandS.Iter
import HandS.Words
import HandS.WordsList
import KE.KExcInit
import HandS.Exc
import HandS.ExcInit
import HandS.IsInst
import KE.KExcIs
import HandS.ExcValue
import HandS.ListEq
import HandS.Text
import HandS.WordsExc
import HandS.Walk
import HandS.Property
import HandS.RaiseMore
import KE.KCallOwn
import HandS.FStr
import HandS.Star
import HandS.Set
import HandS.SetFor
import HandS.Strs
import PyProof.Rows.SortShellAny
import HandS.Lambda
import OpenK.KOps
import OpenK.KMeth
import HandS.MakeKwOnly
import HandS.SlotsOwn
import PyProof.StrBlock2
import HandS.TryOnly
import HandS.TryMany
import HandS.ExcField
import HandS.EndTab
import HandS.MakeKw
import PyProof.FactsAll.dict
import PyProof.FactsAll.subtypes
import KE.DataEq
import HandS.NoneIn
import HandS.HeadHook4
import KE.KStateDown
import HandS.HeadEnd
import HandS.Head0
import HandS.Head1
import HandS.Head2
import HandS.HeadHook1
import HandS.HeadHook2
import PySem.Challenge.RW_wovenplaces_k03_parts_are_refused
set_option Elab.async false
set_option linter.all false
set_option maxRecDepth 100000
set_option maxHeartbeats 0
namespace Hx
open PySem PySem.Spec PyProof.Rows L2

/-! a def's promise where no guard (a repr that runs) stands below -/
structure GOk (P : Program) (w : World) (K : PySem.W.Frag) (mg : Str → Option Value) (base : Heap) (CX : CXT) (k : Nat)
    (f : Addr) (fd : FuncData) (ps : List Str) (sp : Sp) : Prop where
  long : ∀ vs H Q E, sp vs H Q E → vs.length = ps.length
  goes : ∀ (A : Around) (outer : List Env) (s : Shared) (H : Hp) (args : Args) (us : List Value) (vs : List V) (Q : VK) (E : XK),
    Room k A → A.guards = some [] → Env0 P w K mg base A outer s H → BindsTo s fd args (ps.zip us) → Vals vs us → sp vs H Q E →
    codeAny (model P w) A (.call (.ref f) args) (CR CX outer P w H s Q E) s

section
variable {P : Program} {w : World} {K : PySem.W.Frag} {mg : Str → Option Value} {base : Heap} {CX : CXT} {k j : Nat}
  {f : Addr} {fd : FuncData} {ps : List Str} {sp : Sp}
theorem GOk.of (F : FnOk P w K mg base CX k f fd ps sp) : GOk P w K mg base CX k f fd ps sp :=
  ⟨F.len, fun A outer s H args us vs Q E room _ => F.run A outer s H args us vs Q E room⟩
theorem GOk.more (F : GOk P w K mg base CX j f fd ps sp) (h : j ≤ k) : GOk P w K mg base CX k f fd ps sp :=
  ⟨F.long, fun A outer s H args us vs Q E room => F.goes A outer s H args us vs Q E (room.mono h)⟩

/-- a def of the text keeps its promise, by its body, no guard below -/
theorem gok {x qual : Str} {st : Stmt} {N : List Str} (F : Fun K x qual st f fd) (S : FnScope N ps (defScope st))
    (long : ∀ vs H Q E, sp vs H Q E → vs.length = ps.length)
    (body : ∀ (cdv : Value) (A : Around) (outer : List Env) (s : Shared) (H : Hp) (vs : List V) (Q : VK) (E : XK),
      Room k (A.deeper (envOfC qual (defScope st) s.heap.objs.size f cdv)) → A.guards = some [] → sp vs H Q E →
      ∃ t, PSs (cxOf CX P w K mg base N qual (defScope st) f cdv A outer s H E) (defBody st) t ∧
        t { nx := fun _ H' => Q .non H', rt := Q } (start N vs) H) :
    GOk P w K mg base CX (k + 1) f fd ps sp := by
  obtain ⟨oc, od, kV, doc, pm, an, cdv, ct, osl, efd, hlook, hcode⟩ := F.ex
  subst efd
  constructor
  · exact long
  · intro A outer s H args us vs Q E room gd e0 hbind rel hsp
    have inK : K.In s.heap := e0.mod.kin.keeps fun b o h => (e0.bs b o h).1
    have noLim : s.heap.NoLimit := e0.mod.nolimit.keeps fun b o h => (e0.bs b o h).1
    refine codeAny_call_function room.depth (inK _ _ hlook) rfl S.co S.gen rfl (PySem.W.codeRec_of inK hcode) (hbind _ _ _ _ ?_)
    refine wpAny_newFunctionEnv_cells S.kind ?kinds fun env henv s1 inside => ?_
    case kinds =>
      rintro ⟨nm, val⟩ hm
      have hp := (List.of_mem_zip hm).1
      cases S.par nm hp with
      | inl hl => exact .inl hl
      | inr hc => exact .inr ⟨hc, PySem.W.cellsFrom_some _ _ _ (.inl hc)⟩
    subst henv
    refine ⟨noLim.keeps inside.toInCall.keep, codeAny_func ?_⟩
    obtain ⟨t, ht, hq⟩ := body cdv A outer s H vs Q E (room.deeper _) gd hsp
    have I0 := inv_start (CX := CX) (E := E) S room.hd e0 (long _ _ _ _ hsp) rel inside
    refine wpAny_mono (ht.run [] s1 (start N vs) H _ I0 hq) ?_ (fun _ _ z => z)
    intro fl s' hfl
    cases fl with
    | ret u =>
      obtain ⟨v, _, H', J, rv, q⟩ := hfl
      exact ⟨v, H', J.os, J.bare, J.base, J.hok, rv, q⟩
    | next =>
      obtain ⟨_, H', J, q⟩ := hfl
      exact ⟨V.non, H', J.os, J.bare, J.base, J.hok, rfl, q⟩
    | brk => exact hfl.elim fun _ z => z.elim fun _ z => z.2.elim
    | cont => exact hfl.elim fun _ z => z.elim fun _ z => z.2.elim
end

section
variable {X : Cx} {CX : CXT} {k : Nat} {f : Addr} {fd : FuncData} {ps : List Str} {sp : Sp} {dvs : List V} {ds : List Value} {E : XK}
theorem run_g {pins : List (Addr × Obj)} {σ : L2.St} {H : Hp} {s : Shared} {Q : VK} {us : List Value} {vs : List V}
    (F : GOk X.prog X.w X.K X.mg X.base CX k f fd ps sp) (room : Room k X.A) (gd : X.A.guards = some []) (hb : Binds X.K fd ps ds)
    (hd : Vals dvs ds) (pass : Passes CX X E) (I : Inv X pins σ H s) (r : Vals vs us) (h : sp (vs ++ dvs) H Q E) :
    wpAny (model X.prog X.w) X.A (call (.ref f) us) (EP X pins σ Q) X.xe s := by
  have rr := r.append hd
  have hlen : (us ++ ds).length = ps.length := rr.length.symm.trans (F.long _ _ _ _ h)
  have go := F.goes X.A X.stack s H ⟨us, []⟩ (us ++ ds) (vs ++ dvs) Q E room gd I.env0 (hb s us I.kIn hlen) rr h
  refine wpAny_call (codeAny_mono go ?_)
  intro r s' hr
  cases r with
  | error e => exact pass pins σ H s e s' I hr
  | ok fl =>
    cases fl with
    | ret u => exact I.after hr
    | next => exact hr.elim
    | brk => exact hr.elim
    | cont => exact hr.elim

theorem pe_callG {x : Str} {p pos : Pos} {e : Expr} {es : List Expr} {t : TA} (F : GOk X.prog X.w X.K X.mg X.base CX k f fd ps sp)
    (room : Room k X.A) (gd : X.A.guards = some []) (hg : Gl X x) (hm : X.mg x = some (.ref f)) (hk : PySem.W.keepIn X.K (.ref f) = true)
    (hb : Binds X.K fd ps ds) (hd : Vals dvs ds) (pass : Passes CX X E) (ha : PA X (e :: es) t)
    (hdb : (x == ("__debug__" : Str)) = false := by decide)
    (he : starEach (e :: es) X.env = (false, eval e X.env) :: starEach es X.env := by rfl)
    (hpl : (backTo pos (starEach es X.env)).any (·.1) = false := by rfl) :
    PE X (.Call (.Name x p) (e :: es) [] pos) (tCall sp dvs E t) := by
  constructor
  intro pins s σ H Q I h
  refine wpAny_Call_Name_kw (ld_glob I hg hm ?_ hdb)
  refine PySem.W.callWith_K (h₀ := X.base) I.ok.mod.kin hk ?_ he hpl
  refine thn (ha.run pos pins s σ H _ I h) ?_
  rintro us s1 ⟨vs, H1, J, r, q⟩
  exact ⟨J.kIn, run_g F room gd hb hd pass J r q⟩
end
end Hx
namespace Hx
open PySem PySem.Spec PyProof.Rows L2
section
variable {P : Program} {w : World} {K : PySem.W.Frag} {mg : Str → Option Value} {base : Heap} {k : Nat}
  {f : Addr} {fd : FuncData} {ps : List Str} {sp : Sp}
/-- the same where no exception leaves the def -/
theorem gok0 {x qual : Str} {st : Stmt} {N : List Str} (F : Fun K x qual st f fd) (S : FnScope N ps (defScope st))
    (long : ∀ vs H Q E, sp vs H Q E → vs.length = ps.length)
    (body : ∀ (cdv : Value) (A : Around) (outer : List Env) (s : Shared) (H : Hp) (vs : List V) (Q : VK) (E : XK),
      Room k (A.deeper (envOfC qual (defScope st) s.heap.objs.size f cdv)) → A.guards = some [] → sp vs H Q E →
      ∃ t, PSs (cxOf CX0 P w K mg base N qual (defScope st) f cdv A outer s H E).nox (defBody st) t ∧
        t { nx := fun _ H' => Q .non H', rt := Q } (start N vs) H) :
    GOk P w K mg base CX0 (k + 1) f fd ps sp :=
  gok F S long fun cdv A outer s H vs Q E room gd hsp => by
    obtain ⟨t, h, q⟩ := body cdv A outer s H vs Q E room gd hsp
    exact ⟨t, h.nox, q⟩
end
/-! joining ways: what is known of a value, for any wish -/
theorem asg_join {te : TE} {g : TG} {D : Ends} {σ : L2.St} {H : Hp} (R : V → Hp → Prop)
    (h : ∀ Q : VK, (∀ v H', R v H' → Q v H') → te σ H Q) (hq : ∀ v H', R v H' → g v σ H' D.nx) : tAsg te g D σ H := h _ hq
theorem te_join {te : TE} {Q : VK} {σ : L2.St} {H : Hp} (R : V → Hp → Prop)
    (h : ∀ Q : VK, (∀ v H', R v H' → Q v H') → te σ H Q) (hq : ∀ v H', R v H' → Q v H') : te σ H Q := h _ hq
theorem seq_set {te : TE} {i : Nat} {u : TS} {D : Ends} {σ : L2.St} {H : Hp} (h : te σ H fun x H1 => u D (σ.set i (some x)) H1) : tSeq (tAsg te (gName i)) u D σ H := h
theorem seq_if_op {r : R2} {ta tb : TE} {t u w : TS} {D : Ends} {σ : L2.St} {H : Hp}
    (h : ta σ H fun x H1 => tb σ H1 fun y H2 => r x y H2 fun z H3 => ∃ k, z = .bl k ∧ if k = true then t { D with nx := w D } σ H3 else u { D with nx := w D } σ H3) :
    tSeq (tIfS (tTest (tOp r ta tb)) t u) w D σ H := h
theorem ret_op {r : R2} {ta tb : TE} {D : Ends} {σ : L2.St} {H : Hp} (h : ta σ H fun x H1 => tb σ H1 fun y H2 => r x y H2 D.rt) : tRet (tOp r ta tb) D σ H := h
theorem next_go {w : Ends → L2.St → Hp → Prop} {D : Ends} {σ : L2.St} {H : Hp} (h : w D σ H) : tNext { D with nx := w D } σ H := h
theorem ret_go {te : TE} {D : Ends} {σ : L2.St} {H : Hp} (h : te σ H D.rt) : tRet te D σ H := h
theorem ret_join {te : TE} {D : Ends} {σ : L2.St} {H : Hp} (R : V → Hp → Prop)
    (h : ∀ Q : VK, (∀ v H', R v H' → Q v H') → te σ H Q) (hq : ∀ v H', R v H' → D.rt v H') : tRet te D σ H := h _ hq
theorem cons_join {te : TE} {tr : TA} {Q : List V → Hp → Prop} {σ : L2.St} {H : Hp} (R : V → Hp → Prop)
    (h : ∀ Q : VK, (∀ v H', R v H' → Q v H') → te σ H Q) (hq : ∀ v H', R v H' → tr σ H' fun xs H2 => Q (v :: xs) H2) : tCons te tr σ H Q := h _ hq
theorem ret_lst_join {te : TE} {tr : TA} {D : Ends} {σ : L2.St} {H : Hp} (R : V → Hp → Prop)
    (h : ∀ Q : VK, (∀ v H', R v H' → Q v H') → te σ H Q)
    (hq : ∀ v H', R v H' → tr σ H' fun xs H2 => (v :: xs).length ≤ sizeLine ∧ ∀ p, H2 p = none → D.rt (.ref p) (upd H2 p (.lst (v :: xs)))) :
    tRet (tLst (tCons te tr)) D σ H := h _ hq
theorem same_new {H : Hp} {p : Addr} (h : H p = none) (o : HO) : Same H (upd H p o) := fun b u q => by
  rw [upd_ne (ne_of_none q h)]
  exact q
theorem upd_other {H : Hp} {p q : Addr} {o u : HO} (h : H q = some u) (n : H p = none) : upd H p o q = some u := by
  rw [upd_ne (ne_of_none h n)]
  exact h
/-- all stands but what is at d -/
def But (d : Addr) (H H' : Hp) : Prop := ∀ b o, b ≠ d → H b = some o → H' b = some o
theorem But.of {d : Addr} {H H' : Hp} (s : Same H H') : But d H H' := fun b o _ h => s b o h
theorem But.refl {d : Addr} {H : Hp} : But d H H := fun _ _ _ h => h
theorem But.trans {d : Addr} {H H1 H2 : Hp} (a : But d H H1) (b : But d H1 H2) : But d H H2 := fun c o n h => b c o n (a c o n h)
theorem But.upd {d : Addr} {H H' : Hp} (a : But d H H') (o : HO) : But d H (L2.upd H' d o) := fun c u n h => by
  rw [upd_ne n]
  exact a c u n h
theorem But.new {d p : Addr} {H H' : Hp} (a : But d H H') (hp : H' p = none) (o : HO) : But d H (L2.upd H' p o) := fun c u n h => by
  have z := a c u n h
  rw [upd_ne (ne_of_none z hp)]
  exact z
theorem But.seq {K : PySem.W.Frag} {d a : Addr} {H H' : Hp} {xs : List V} (e : But d H H') (n : a ≠ d) (h : SqL K H a xs) : SqL K H' a xs := by
  rcases h with (h | ⟨o, h⟩) | h
  · exact .inl (.inl (e _ _ n h))
  · exact .inl (.inr ⟨o, e _ _ n h⟩)
  · exact .inr h
theorem atI_in {α : Type} {xs : List α} {r : Int} (r0 : 0 ≤ r) (r1 : r < (xs.length : Int)) : ∃ v, v ∈ xs ∧ atI xs r = some v := by
  have hr : r.toNat < xs.length := by omega
  have er : ((r.toNat : Nat) : Int) = r := by omega
  have z := atI_nat (List.getElem?_eq_getElem hr)
  rw [er] at z
  exact ⟨_, List.getElem_mem hr, z⟩
theorem small_line {n : Nat} (h : n ≤ 1000) : n ≤ sizeLine := Nat.le_trans h (by decide)
end Hx

namespace Wp
open PySem PySem.Spec PyProof.Rows L2
def top (i : Nat) : Stmt := PySem.Challenge.pw_wovenplaces_k03_parts_are_refused.main.body.getD i (.Pass ⟨0, 0, 0, 0⟩)
abbrev c_WrongValue : Stmt := top 1
abbrev c_InvalidNumber : Stmt := top 2
abbrev s_InvalidNumber_init : Stmt := inClass (top 2) 0
abbrev c_InvalidName : Stmt := top 3
abbrev s_InvalidName_init : Stmt := inClass (top 3) 0
abbrev c_InvalidSign : Stmt := top 4
abbrev s_InvalidSign_init : Stmt := inClass (top 4) 0
abbrev c_InvalidWord : Stmt := top 5
abbrev s_InvalidWord_init : Stmt := inClass (top 5) 0
abbrev c_InvalidExpression : Stmt := top 6
abbrev s_InvalidExpression_init : Stmt := inClass (top 6) 0
abbrev s_is_integer : Stmt := top 15
abbrev s_is_within : Stmt := top 16
abbrev s_is_lettered : Stmt := top 17
abbrev s_is_name : Stmt := top 18
abbrev s_check_within : Stmt := top 19
abbrev s_check_sign : Stmt := top 20
abbrev s_check_name : Stmt := top 21
abbrev s_check_word : Stmt := top 22
abbrev s_knots_above : Stmt := top 24
abbrev s_exchange : Stmt := top 25
abbrev s_spelled : Stmt := top 27
abbrev c_Facts : Stmt := top 28
abbrev s_Facts_init : Stmt := inClass (top 28) 0
abbrev c_Expression : Stmt := top 30
abbrev s_Expression_kind : Stmt := inClass (top 30) 0
abbrev s_Expression_inner : Stmt := inClass (top 30) 1
abbrev s_Expression_told : Stmt := inClass (top 30) 2
abbrev s_Expression_names : Stmt := inClass (top 30) 3
abbrev s_Expression_knots : Stmt := inClass (top 30) 4
abbrev s_Expression_str : Stmt := inClass (top 30) 5
abbrev s_Expression_repr : Stmt := inClass (top 30) 6
abbrev s_Expression_eq : Stmt := inClass (top 30) 7
abbrev s_Expression_add : Stmt := inClass (top 30) 8
abbrev s_Expression_rshift : Stmt := inClass (top 30) 9
abbrev s_Expression_exchanged : Stmt := inClass (top 30) 10
abbrev c_Sign : Stmt := top 31
abbrev s_Sign_init : Stmt := inClass (top 31) 0
abbrev s_Sign_kind : Stmt := inClass (top 31) 1
abbrev s_Sign_inner : Stmt := inClass (top 31) 2
abbrev s_Sign_told : Stmt := inClass (top 31) 3
abbrev s_Sign_names : Stmt := inClass (top 31) 4
abbrev s_Sign_knots : Stmt := inClass (top 31) 5
abbrev s_Sign_str : Stmt := inClass (top 31) 6
abbrev s_Sign_repr : Stmt := inClass (top 31) 7
abbrev s_Sign_eq : Stmt := inClass (top 31) 8
abbrev s_Sign_add : Stmt := inClass (top 31) 9
abbrev s_Sign_rshift : Stmt := inClass (top 31) 10
abbrev s_Sign_exchanged : Stmt := inClass (top 31) 11
abbrev c_Name : Stmt := top 32
abbrev s_Name_init : Stmt := inClass (top 32) 0
abbrev s_Name_kind : Stmt := inClass (top 32) 1
abbrev s_Name_inner : Stmt := inClass (top 32) 2
abbrev s_Name_told : Stmt := inClass (top 32) 3
abbrev s_Name_names : Stmt := inClass (top 32) 4
abbrev s_Name_knots : Stmt := inClass (top 32) 5
abbrev s_Name_str : Stmt := inClass (top 32) 6
abbrev s_Name_repr : Stmt := inClass (top 32) 7
abbrev s_Name_eq : Stmt := inClass (top 32) 8
abbrev s_Name_add : Stmt := inClass (top 32) 9
abbrev s_Name_rshift : Stmt := inClass (top 32) 10
abbrev s_Name_exchanged : Stmt := inClass (top 32) 11
abbrev c_Weave : Stmt := top 33
abbrev s_Weave_init : Stmt := inClass (top 33) 0
abbrev s_Weave_kind : Stmt := inClass (top 33) 1
abbrev s_Weave_inner : Stmt := inClass (top 33) 2
abbrev s_Weave_told : Stmt := inClass (top 33) 3
abbrev s_Weave_names : Stmt := inClass (top 33) 4
abbrev s_Weave_knots : Stmt := inClass (top 33) 5
abbrev s_Weave_str : Stmt := inClass (top 33) 6
abbrev s_Weave_repr : Stmt := inClass (top 33) 7
abbrev s_Weave_eq : Stmt := inClass (top 33) 8
abbrev s_Weave_add : Stmt := inClass (top 33) 9
abbrev s_Weave_rshift : Stmt := inClass (top 33) 10
abbrev s_Weave_exchanged : Stmt := inClass (top 33) 11
abbrev c_Part : Stmt := top 34
abbrev s_Part_init : Stmt := inClass (top 34) 0
abbrev s_Part_kind : Stmt := inClass (top 34) 1
abbrev s_Part_inner : Stmt := inClass (top 34) 2
abbrev s_Part_told : Stmt := inClass (top 34) 3
abbrev s_Part_names : Stmt := inClass (top 34) 4
abbrev s_Part_knots : Stmt := inClass (top 34) 5
abbrev s_Part_str : Stmt := inClass (top 34) 6
abbrev s_Part_repr : Stmt := inClass (top 34) 7
abbrev s_Part_eq : Stmt := inClass (top 34) 8
abbrev s_Part_add : Stmt := inClass (top 34) 9
abbrev s_Part_rshift : Stmt := inClass (top 34) 10
abbrev s_Part_exchanged : Stmt := inClass (top 34) 11
abbrev c_Drop : Stmt := top 35
abbrev s_Drop_init : Stmt := inClass (top 35) 0
abbrev s_Drop_kind : Stmt := inClass (top 35) 1
abbrev s_Drop_inner : Stmt := inClass (top 35) 2
abbrev s_Drop_told : Stmt := inClass (top 35) 3
abbrev s_Drop_names : Stmt := inClass (top 35) 4
abbrev s_Drop_knots : Stmt := inClass (top 35) 5
abbrev s_Drop_str : Stmt := inClass (top 35) 6
abbrev s_Drop_repr : Stmt := inClass (top 35) 7
abbrev s_Drop_eq : Stmt := inClass (top 35) 8
abbrev s_Drop_add : Stmt := inClass (top 35) 9
abbrev s_Drop_rshift : Stmt := inClass (top 35) 10
abbrev s_Drop_exchanged : Stmt := inClass (top 35) 11
abbrev c_Lead : Stmt := top 36
abbrev s_Lead_init : Stmt := inClass (top 36) 0
abbrev s_Lead_kind : Stmt := inClass (top 36) 1
abbrev s_Lead_inner : Stmt := inClass (top 36) 2
abbrev s_Lead_told : Stmt := inClass (top 36) 3
abbrev s_Lead_names : Stmt := inClass (top 36) 4
abbrev s_Lead_knots : Stmt := inClass (top 36) 5
abbrev s_Lead_str : Stmt := inClass (top 36) 6
abbrev s_Lead_repr : Stmt := inClass (top 36) 7
abbrev s_Lead_eq : Stmt := inClass (top 36) 8
abbrev s_Lead_add : Stmt := inClass (top 36) 9
abbrev s_Lead_rshift : Stmt := inClass (top 36) 10
abbrev s_Lead_exchanged : Stmt := inClass (top 36) 11
abbrev c_Turn : Stmt := top 37
abbrev s_Turn_init : Stmt := inClass (top 37) 0
abbrev s_Turn_kind : Stmt := inClass (top 37) 1
abbrev s_Turn_inner : Stmt := inClass (top 37) 2
abbrev s_Turn_told : Stmt := inClass (top 37) 3
abbrev s_Turn_names : Stmt := inClass (top 37) 4
abbrev s_Turn_knots : Stmt := inClass (top 37) 5
abbrev s_Turn_str : Stmt := inClass (top 37) 6
abbrev s_Turn_repr : Stmt := inClass (top 37) 7
abbrev s_Turn_eq : Stmt := inClass (top 37) 8
abbrev s_Turn_add : Stmt := inClass (top 37) 9
abbrev s_Turn_rshift : Stmt := inClass (top 37) 10
abbrev s_Turn_exchanged : Stmt := inClass (top 37) 11
abbrev s_check_expressions : Stmt := top 38
abbrev s_make : Stmt := top 39
abbrev s_exchanged_in : Stmt := top 40
abbrev s_law_deck : Stmt := top 42
abbrev s_law_card : Stmt := top 43
abbrev s_law_of : Stmt := top 44
abbrev s_law_caught : Stmt := top 45
abbrev s_law_thing : Stmt := top 46
abbrev s_law_first : Stmt := top 47
abbrev s_law_kid : Stmt := top 48
abbrev s_law_small : Stmt := top 49
abbrev s_law_part : Stmt := top 50
abbrev s_law_weave : Stmt := top 51
abbrev s_law_right : Stmt := top 52
abbrev s_law : Stmt := top 53
end Wp

namespace Hx
open PySem PySem.Spec PyProof.Rows L2
/-- the data of a key -/
def keyD : Key → PyData
  | .inl i => .int i
  | .inr x => .str x
mutual
/-- at v stands the data d, in objects that are tracked -/
inductive Dq (H : Hp) : V → PyData → Prop
  | non : Dq H .non .none
  | bl (b : Bool) : Dq H (.bl b) (.bool b)
  | int (i : Int) : Dq H (.int i) (.int i)
  | str (x : Str) : Dq H (.str x) (.str x)
  | lst {a : Addr} {xs : List V} {ds : List PyData} : H a = some (.lst xs) → DqAll H xs ds → Dq H (.ref a) (.list ds)
  | tup {a : Addr} {xs : List V} {ds : List PyData} : H a = some (.tup xs) → DqAll H xs ds → Dq H (.ref a) (.tuple ds)
  | dct {a : Addr} {ks : List (Key × V)} {es : List (PyData × PyData)} : H a = some (.dK ks) → DqKv H ks es → Dq H (.ref a) (.dict es)
inductive DqAll (H : Hp) : List V → List PyData → Prop
  | nil : DqAll H [] []
  | cons {v : V} {vs : List V} {d : PyData} {ds : List PyData} : Dq H v d → DqAll H vs ds → DqAll H (v :: vs) (d :: ds)
inductive DqKv (H : Hp) : List (Key × V) → List (PyData × PyData) → Prop
  | nil : DqKv H [] []
  | cons {k : Key} {v : V} {d : PyData} {r : List (Key × V)} {es : List (PyData × PyData)} : Dq H v d → DqKv H r es → DqKv H ((k, v) :: r) ((keyD k, d) :: es)
end
mutual
theorem Dq.same {H H' : Hp} (s : Same H H') : ∀ (d : PyData) (v : V), Dq H v d → Dq H' v d
  | .none, _, h => by cases h; exact .non
  | .bool b, _, h => by cases h; exact .bl b
  | .int i, _, h => by cases h; exact .int i
  | .str x, _, h => by cases h; exact .str x
  | .list ds, _, h => by cases h with | lst e r => exact .lst (s _ _ e) (DqAll.same s ds _ r)
  | .tuple ds, _, h => by cases h with | tup e r => exact .tup (s _ _ e) (DqAll.same s ds _ r)
  | .dict es, _, h => by cases h with | dct e r => exact .dct (s _ _ e) (DqKv.same s es _ r)
theorem DqAll.same {H H' : Hp} (s : Same H H') : ∀ (ds : List PyData) (vs : List V), DqAll H vs ds → DqAll H' vs ds
  | [], _, h => by cases h; exact .nil
  | d :: ds, _, h => by cases h with | cons e r => exact .cons (Dq.same s d _ e) (DqAll.same s ds _ r)
theorem DqKv.same {H H' : Hp} (s : Same H H') : ∀ (es : List (PyData × PyData)) (ks : List (Key × V)), DqKv H ks es → DqKv H' ks es
  | [], _, h => by cases h; exact .nil
  | (_, d) :: es, _, h => by cases h with | cons e r => exact .cons (Dq.same s d _ e) (DqKv.same s es _ r)
end
section
variable {X : Cx} {pins : List (Addr × Obj)} {σ : L2.St} {H : Hp} {s : Shared}
theorem reads_key {w : World} {P : Program} {h : Heap} {k : Key} {u : Value} (e : (mixKind P w).is k u = true) : Reads h u (keyD k) [] := by
  rw [mixKind_is] at e
  rcases keyIs_shape e with ⟨i, t, rfl, rfl⟩ | ⟨x, t, rfl, rfl⟩
  · exact .int i t
  · exact .str x t
mutual
theorem Dq.reads (I : Inv X pins σ H s) : ∀ (d : PyData) (v : V) (u : Value), Dq H v d → RelV v u → ∃ as, Reads s.heap u d as ∧ ∀ b ∈ as, ∃ o, H b = some o
  | .none, _, _, h, r => by
    cases h; cases r
    exact ⟨_, Reads.none, by simp⟩
  | .bool b, _, _, h, r => by
    cases h; cases r
    exact ⟨_, Reads.bool b, by simp⟩
  | .int i, _, _, h, r => by
    cases h; obtain ⟨t, rfl⟩ := r
    exact ⟨_, Reads.int i t, by simp⟩
  | .str x, _, _, h, r => by
    cases h; obtain ⟨t, rfl⟩ := r
    exact ⟨_, Reads.str x t, by simp⟩
  | .list ds, _, _, h, r => by
    cases h with
    | @lst a xs _ e ra =>
      cases r
      obtain ⟨_, its, n, rv, hg⟩ := (show ObjOk X.prog X.w H s.heap a (.lst xs) from I.hok a _ e)
      obtain ⟨as, hr, ha⟩ := DqAll.reads I ds _ its ra rv
      refine ⟨_, Reads.list hg rfl rfl hr, fun b hb => ?_⟩
      rcases List.mem_cons.mp hb with rfl | hb
      · exact ⟨_, e⟩
      · exact ha b hb
  | .tuple ds, _, _, h, r => by
    cases h with
    | @tup a xs _ e ra =>
      cases r
      obtain ⟨_, its, rv, o, hg, hc, n, hd⟩ := (show ObjOk X.prog X.w H s.heap a (.tup xs) from I.hok a _ e)
      obtain ⟨as, hr, ha⟩ := DqAll.reads I ds _ its ra rv
      exact ⟨_, Reads.tuple hg hc hd hr, ha⟩
  | .dict es, _, _, h, r => by
    cases h with
    | @dct a ks _ e ra =>
      cases r
      obtain ⟨_, _, vs, rk, o, des, ep, hg, hx, hd, _, hp, _⟩ := (show ObjOk X.prog X.w H s.heap a (.dK ks) from I.hok a _ e)
      obtain ⟨as, bs, h1, h2, h3⟩ := DqKv.reads I es ks vs _ ra rk hp
      refine ⟨_, Reads.dict hg hx.1 hd h1 h2, fun b hb => ?_⟩
      rcases List.mem_append.mp hb with hb | hb
      · rcases List.mem_cons.mp hb with rfl | hb
        · exact ⟨_, e⟩
        · exact h3 b (List.mem_append_left _ hb)
      · exact h3 b (List.mem_append_right _ hb)
theorem DqAll.reads (I : Inv X pins σ H s) : ∀ (ds : List PyData) (vs : List V) (us : List Value), DqAll H vs ds → Vals vs us → ∃ as, ReadsAll s.heap us ds as ∧ ∀ b ∈ as, ∃ o, H b = some o
  | [], _, _, h, r => by
    cases h; cases r
    exact ⟨_, ReadsAll.nil, by simp⟩
  | d :: ds, _, _, h, r => by
    cases h with
    | cons h1 h2 =>
      cases r with
      | cons r1 r2 =>
        obtain ⟨as, q1, m1⟩ := Dq.reads I d _ _ h1 r1
        obtain ⟨bs, q2, m2⟩ := DqAll.reads I ds _ _ h2 r2
        exact ⟨_, ReadsAll.cons q1 q2, fun b hb => (List.mem_append.mp hb).elim (m1 b) (m2 b)⟩
theorem DqKv.reads (I : Inv X pins σ H s) : ∀ (es : List (PyData × PyData)) (ks : List (Key × V)) (vs : List (Key × Value)) (des : List DictEntry), DqKv H ks es → KV ks vs → Pairs (mixKind X.prog X.w) des vs →
    ∃ as bs, ReadsAll s.heap (des.map (·.key)) (es.map (·.1)) as ∧ ReadsAll s.heap (des.map (·.val)) (es.map (·.2)) bs ∧ ∀ b ∈ as ++ bs, ∃ o, H b = some o
  | [], _, _, _, h, r, p => by
    cases h; cases r; cases p
    exact ⟨_, _, ReadsAll.nil, ReadsAll.nil, by simp⟩
  | (_, d) :: es, _, _, _, h, r, p => by
    cases h with
    | cons h1 h2 =>
      cases r with
      | cons r1 r2 =>
        cases p with
        | cons p1 p2 p3 =>
          obtain ⟨as, bs, q1, q2, m⟩ := DqKv.reads I es _ _ _ h2 r2 p3
          obtain ⟨cs, q3, m3⟩ := Dq.reads I d _ _ h1 r1.2
          rw [← r1.1] at p1
          refine ⟨_, _, ReadsAll.cons (reads_key p1) q1, ReadsAll.cons (by dsimp only; rw [p2]; exact q3) q2, fun b hb => ?_⟩
          rcases List.mem_append.mp hb with hb | hb
          · exact m b (List.mem_append_left _ hb)
          · rcases List.mem_append.mp hb with hb | hb
            · exact m3 b hb
            · exact m b (List.mem_append_right _ hb)
end
end
/-- the base has sys.modules -/
def Mods (base : Heap) : Prop := ∃ o, base.get? sysModules = some o
/-- a datum that a repr may be asked of -/
def Small (d : PyData) : Prop := d.showable = true ∧ d.depth ≤ 20 ∧ d.shown.length ≤ 100000
def rRepr : List V → Hp → VK → Prop := fun xs H Q => ∃ v d, xs = [v] ∧ Dq H v d ∧ Small d ∧ Q (.str d.shown) H
section
variable {X : Cx}
theorem call_reprD (gd : X.A.guards = some []) (hu : X.A.units + 64 < cLine) (hm : Mods X.base) : CallR X (.builtin "repr") rRepr := by
  intro pins s σ H xs us Q I r h
  obtain ⟨v, d, rfl, hd, ⟨h1, h2, h3⟩, q⟩ := h
  obtain ⟨u, rfl, ru⟩ := vals1 r
  have hz : d.shown.length ≤ sizeLine := Nat.le_trans h3 (by decide)
  obtain ⟨as, hr, ha⟩ := Dq.reads I d v u hd ru
  have hno : sysModules ∉ as := fun z => by
    obtain ⟨o, e⟩ := ha _ z
    obtain ⟨b, eb⟩ := hm
    have n := (I.bs _ _ eb).2
    rw [n] at e
    cases e
  have fin : ∀ (h' : Heap) (tu : Tok) (tk : Nat), (∀ b o, s.heap.get? b = some o → h'.get? b = some o) → EP X pins σ Q (.str d.shown tu) { s with heap := h', toks := tk } :=
    fun h' tu tk k => ⟨.str d.shown, H, I.kept (t' := tk) k, ⟨_, rfl⟩, q⟩
  cases hd with
  | non => cases ru; exact P.repr_of_none (fin _ _ _ fun _ _ z => z)
  | bl b => cases ru; exact P.repr_of_bool (fin _ _ _ fun _ _ z => z)
  | int i =>
    obtain ⟨t, rfl⟩ := ru
    exact P.repr_of_int (of_decide_eq_true h1) (fin _ _ _ fun _ _ z => z)
  | str x =>
    obtain ⟨t, rfl⟩ := ru
    exact P.repr_of_str (fin _ _ _ fun _ _ z => z) hz
  | lst _ _ => cases ru; exact repr_of_reads' hr h1 (fun _ => hno) gd (by omega) (fun _ _ z => z) fin hz
  | tup _ _ => cases ru; exact repr_of_reads' hr h1 (fun _ => hno) gd (by omega) (fun _ _ z => z) fin hz
  | dct _ _ => cases ru; exact repr_of_reads' hr h1 (fun _ => hno) gd (by omega) (fun _ _ z => z) fin hz
end
end Hx

namespace Hx
open PySem PySem.Spec PyProof.Rows L2
/-- a number of the module -/
theorem pe_gint {X : Cx} {x : Str} {i : Int} {t : Tok} {pos : Pos} (hg : Gl X x) (hm : X.mg x = some (.int i t))
    (hd : (x == ("__debug__" : Str)) = false := by decide) : PE X (.Name x pos) (tC (.int i)) := pe_glob hg hm ⟨_, rfl⟩ hd
/-- a class or def of the module; a built-in class, as a value -/
theorem pe_gref {X : Cx} {x : Str} {a : Addr} {pos : Pos} (hg : Gl X x) (hm : X.mg x = some (.ref a))
    (hd : (x == ("__debug__" : Str)) = false := by decide) : PE X (.Name x pos) (tC (.ref a)) := pe_glob hg hm (show RelV (.ref a) (.ref a) from rfl) hd
theorem pe_bty {X : Cx} {x : Str} {T : String} {pos : Pos} (hg : Gl X x) (hm : X.mg x = none) (hv : bootBuiltins x = some (.type T))
    (hn : x ≠ "__name__" := by decide) (hd : (x == ("__debug__" : Str)) = false := by decide) : PE X (.Name x pos) (tC (.ty T)) :=
  pe_bltn hg hm hv (show RelV (.ty T) (.type T) from rfl) hn hd
/-- a comprehension without an if: the turn is taken -/
theorem turn_yes {σ : L2.St} {H : Hp} {R S : Hp → Prop} (h : R H) : tYes σ H fun b H3 => if b = true then R H3 else S H3 := by
  show (if true = true then R H else S H)
  rw [if_pos rfl]
  exact h
/-- the script as an object that is only read -/
def scriptO (vs : List Value) (ns : List Int) : HO := .frz { cls := .type "list", data := .seq vs.toArray } (.lst (ns.map V.int))
section
variable {P : Program} {w : World} {K : PySem.W.Frag} {mg mb : Str → Option Value} {k : Nat} {fa a : Addr} {fd : FuncData} {x : Str} {sp : Sp}
  {s1 : Shared} {vs : List Value} {ns : List Int}
theorem enter_with (H : Hp) (KX : K.In s1.heap) (hglob : s1.heap.Ns mainGlobals mg) (hblt : s1.heap.Ns builtinsNs mb)
    (hboot : ∀ x : Str, x ≠ "__name__" → mb x = bootBuiltins x) (hlim : s1.heap.NoLimit) (hmods : ∃ mm, s1.heap.Ns sysModules mm) (hgen : s1.gens = #[])
    (ha : s1.heap.get? a = some { cls := .type "list", data := .seq vs.toArray }) (room : Room k callerA)
    (F : ∀ base : Heap, K.In base → base.Ns mainGlobals mg → Mods base → GOk P w K mg base CX0 k fa fd [x] sp)
    (hbind : ∀ (s : Shared) (u : Value), BindsTo s fd ⟨[u], []⟩ [(x, u)])
    (hH : ∀ b u, H b = some u → b = a ∧ u = scriptO vs ns) (hK : ∀ u, H a = some u → K.lookup a = none) (hok : HOk P w H s1.heap)
    (hsp : sp [.ref a] H (fun v _ => v = .bl true) E0) :
    codeAny (model P w) callerA (.call (.ref fa) ⟨[.ref a], []⟩) (fun r s' => r = .ok (.ret (.bool true)) ∧ OldK s1.heap s'.heap ∧ s'.os = s1.os ∧ AllBare s'.gens) s1 := by
  have untracked : ∀ {b : Addr} {o : Obj} {es : Array DictEntry} {ep : Nat}, s1.heap.get? b = some o → o.data = .dict es ep → H b = none := by
    intro b o es ep e d
    cases hb : H b with
    | none => rfl
    | some u =>
      obtain ⟨rfl, _⟩ := hH b u hb
      rw [ha] at e
      cases e
      cases (show Data.seq vs.toArray _ = Data.dict es ep from d)
  have nsBase : ∀ {b : Addr} {m : Str → Option Value}, s1.heap.Ns b m → (hidT s1.heap H).Ns b m := fun {b m} ⟨o, es, ep, e, d, r⟩ =>
    ⟨o, es, ep, hidT_get e (untracked e d), d, r⟩
  have inBase : K.In (hidT s1.heap H) := by
    intro b o e
    refine hidT_get (KX b o e) ?_
    cases hb : H b with
    | none => rfl
    | some u =>
      obtain ⟨rfl, _⟩ := hH b u hb
      rw [hK u hb] at e
      cases e
  have modOk : Mod K mg (hidT s1.heap H) := by
    refine ⟨inBase, nsBase hglob, ⟨mb, nsBase hblt, hboot⟩, ?_⟩
    obtain ⟨mc, l1, l2⟩ := hlim
    exact ⟨mc, nsBase l1, l2⟩
  have modsOk : Mods (hidT s1.heap H) := by
    obtain ⟨mm, hm⟩ := hmods
    obtain ⟨o, es, ep, e, _⟩ := nsBase hm
    exact ⟨o, e⟩
  have start0 : Env0 P w K mg (hidT s1.heap H) callerA [] s1 H :=
    { frames := rfl, mod := modOk, bs := fun b o e => of_hidT e, bsz := Nat.le_of_eq (hidT_size _ _), funs := trivial,
      frf := fun b hb => absurd (show b ∈ ([] : List Addr) from hb) (by simp), hok := hok, bare := .of_eq hgen }
  have run := (F _ inBase (nsBase hglob) modsOk).goes callerA [] s1 H ⟨[.ref a], []⟩ [.ref a] [.ref a] _ _ room rfl start0 (hbind s1 (.ref a)) (.cons rfl .nil) hsp
  refine codeAny_mono run ?_
  intro r s' hr
  cases r with
  | error e => exact (show False from hr).elim
  | ok fl =>
    cases fl with
    | next => exact hr.elim
    | brk => exact hr.elim
    | cont => exact hr.elim
    | ret u =>
      obtain ⟨v, H', osEq, bare, un, hok', rel, rfl⟩ := hr
      cases (show u = Value.bool true from rel)
      refine ⟨rfl, OldK.of_keep ?_, osEq, bare⟩
      intro b o e
      cases hb : H b with
      | none => exact un.keep b o e hb (fun z => absurd (show b ∈ ([] : List Addr) from z) (by simp)) (by simp)
      | some u =>
        obtain ⟨rfl, rfl⟩ := hH b u hb
        have stay := un.frzs b _ _ hb
        obtain ⟨e1, _⟩ := hok b _ hb
        obtain ⟨e2, _⟩ := hok' b _ stay
        rw [e] at e1
        rw [e2, ← Option.some.inj e1]

theorem law_enter (KX : K.In s1.heap) (hglob : s1.heap.Ns mainGlobals mg) (hblt : s1.heap.Ns builtinsNs mb)
    (hboot : ∀ x : Str, x ≠ "__name__" → mb x = bootBuiltins x) (hlim : s1.heap.NoLimit) (hmods : ∃ mm, s1.heap.Ns sysModules mm) (hgen : s1.gens = #[])
    (ha : s1.heap.get? a = some { cls := .type "list", data := .seq vs.toArray }) (hi : IntsAre vs ns) (hl : ns.length ≤ sizeLine) (room : Room k callerA)
    (F : ∀ base : Heap, K.In base → base.Ns mainGlobals mg → Mods base → GOk P w K mg base CX0 k fa fd [x] sp)
    (hbind : ∀ (s : Shared) (u : Value), BindsTo s fd ⟨[u], []⟩ [(x, u)])
    (hsp : ∀ H : Hp, SqL K H a (ns.map V.int) → sp [.ref a] H (fun v _ => v = .bl true) E0) :
    codeAny (model P w) callerA (.call (.ref fa) ⟨[.ref a], []⟩) (fun r s' => r = .ok (.ret (.bool true)) ∧ OldK s1.heap s'.heap ∧ s'.os = s1.os ∧ AllBare s'.gens) s1 := by
  have rel := vals_ints hi
  cases hk : K.lookup a with
  | some o =>
    have e := KX a o hk
    rw [ha] at e
    cases e
    refine enter_with (ns := ns) (fun _ => none) KX hglob hblt hboot hlim hmods hgen ha room F hbind (fun _ _ z => by cases z) (fun _ z => by cases z) (fun _ _ z => by cases z) ?_
    refine hsp _ (.inr ⟨_, vs.toArray, _, hk, rfl, rfl, rfl, ?_, by simpa using rel⟩)
    rw [List.size_toArray, hi.length]
    exact hl
  | none =>
    have at_a : (fun b => if b = a then some (scriptO vs ns) else none : Hp) a = some (scriptO vs ns) := if_pos rfl
    refine enter_with (ns := ns) (fun b => if b = a then some (scriptO vs ns) else none) KX hglob hblt hboot hlim hmods hgen ha room F hbind ?_ (fun _ _ => hk) ?_ (hsp _ (.inl (.inr ⟨_, at_a⟩)))
    · intro b u z
      by_cases hb : b = a
      · exact ⟨hb, (Option.some.inj ((if_pos hb).symm.trans z)).symm⟩
      · cases (if_neg hb).symm.trans z
    · intro b u z
      by_cases hb : b = a
      · have e := Option.some.inj ((if_pos hb).symm.trans z)
        subst hb
        subst e
        exact ⟨ha, by rw [List.length_map]; exact hl, vs, _, rel, ha⟩
      · cases (if_neg hb).symm.trans z
end
/-- the goal that k_head leaves, for a law whose defs ask that no guard stands below -/
theorem walk_G {l : PySem.W.OpenLaw} {n k : Nat} {q : Program} {loose : List Str} {XP : (Str → Option Value) → Heap → Prop} {YP : World → Heap → Prop} {d : DefRec}
    {K : Params → PySem.W.Frag} {sp : PySem.W.Frag → Sp} {x : Str} (hn : l.most = some n) (hn2 : n ≤ sizeLine) (hdf : d.params.defaults = []) (room : Room k callerA)
    (himp : importsNone q = true) (hY : ∀ (w : World) (h : Heap), YP w h → (K w.params).In h)
    (F : ∀ (w : World) (mg : Str → Option Value) (fa : Addr) (h : Heap), (K w.params).In h → h.Ns mainGlobals mg → mg d.name = some (.ref fa) →
      ∃ fd : FuncData, (∀ (s : Shared) (u : Value), BindsTo s fd ⟨[u], []⟩ [(x, u)]) ∧
        ∀ base : Heap, (K w.params).In base → base.Ns mainGlobals mg → Mods base → GOk l.prog w (K w.params) mg base CX0 k fa fd [x] (sp (K w.params)))
    (hsp : ∀ (K : PySem.W.Frag) (H : Hp) (a : Addr) (ns : List Int), ns.length ≤ n → SqL K H a (ns.map V.int) → sp K [.ref a] H (fun v _ => v = .bl true) E0) :
    PySem.W.WalkO q loose XP YP l.row.toRowW d [] (fun f vs => PySem.call f vs) := by
  refine Att.attach_call hn hdf ?_
  intro w s0 s1 mg mb fa o pm cd doc a vs ns G Y ho hd hcd hmg hobj hints hlen hgen
  have KX := hY w _ Y
  obtain ⟨fd, hb, hF⟩ := F w mg fa _ KX G.T.g hmg
  obtain ⟨mm, hmm, _⟩ := (G.T.seer himp).mods
  exact law_enter KX G.T.g G.T.b G.T.builtins G.T.nolimit ⟨mm, hmm⟩ hgen hobj hints (Nat.le_trans hlen hn2) room hF hb fun H hS => hsp _ H a ns hlen hS
end Hx

/-! own exception classes made with keywords -/
namespace PySem
namespace EK
open PySem.W PySem.Calls PyProof.Rows PySem.PX
section
variable {M : Model} {A : Around} {E : Value → Shared → Prop} {h : Heap} {g : Array GenState} {d : Drawn} {t : Nat} {os : OsState}
variable {nm q : Str} {C N : Addr} {bs bm bmB : List Value} {hdct : Bool} {sn : List Str} {sub : List Value} {ab : Bool} {col : Option Bool}
  {dd : Option Addr} {k0 k1 k2 k3 k5 : Option Value} {B newId initId : String} {kw : List (Str × Value)} {us : List Value}
theorem look_new (F : ExcBaseFacts B newId initId bmB) (same : ∀ X : String, bm.contains (.type X) = bmB.contains (.type X)) {Q : Unit → Shared → Prop}
    (hC : h.get? C = some (excClassObj nm q C N bs bm hdct sn sub ab col dd k0 k1 k2 k3 k5 newId)) (hq : Q () ⟨h, g, d, t, os⟩) :
    wpAny M A (checkBuiltinCall newId ⟨.ref C :: us, kw⟩) Q E ⟨h, g, d, t, os⟩ := by
  have inB : (Value.ref C :: bm).contains (.type B) = true := by
    rw [List.contains_cons, same, F.hasB, Bool.or_true]
  have star := F.noStar
  simp only [checkBuiltinCall, F.newKind, F.newSplit, F.newRow]
  repeat (first
    | refine wpAny_loadPart_at hC ?_
    | (refine wpAny_isSubtype_exc hC ?_; rw [inB])
    | refine wpAny_staticBase_exc hC ?_
    | refine wpAny_madeBy_exc hC ?_
    | simp only [bne_self_eq_false, Bool.false_eq_true, if_false]
    | wp_step)
  exact hq
end
section
variable {prog : Program} {w : World} {A : Around} {E : Value → Shared → Prop} {R : Result → Shared → Prop} {h : Heap} {g : Array GenState} {d : Drawn} {t : Nat} {os : OsState}
variable {nm q : Str} {C N : Addr} {bs bm bmB : List Value} {hdct : Bool} {sn : List Str} {sub : List Value} {ab : Bool} {col : Option Bool}
  {dd : Option Addr} {k0 k1 k2 k3 k5 : Option Value} {B newId initId : String} {kw : List (Str × Value)} {us : List Value} {fI : Addr}
/-- the heap behind the making -/
abbrev madeHeap (h : Heap) (C : Addr) (us : List Value) : Heap := (h.push (kdv_tup us)).push (excO C h.objs.size)
theorem made_keep (b : Addr) (o : Obj) (e : h.get? b = some o) : (madeHeap h C us).get? b = some o :=
  Heap.get?_push_of_some _ (Heap.get?_push_of_some _ e)
theorem made_at : (madeHeap h C us).get? (h.objs.size + 1) = some (excO C h.objs.size) := by heap_get
theorem run_new (F : ExcBaseFacts B newId initId bmB) (same : ∀ X : String, bm.contains (.type X) = bmB.contains (.type X))
    (hC : h.get? C = some (excClassObj nm q C N bs bm hdct sn sub ab col dd k0 k1 k2 k3 k5 newId)) (small : us.length ≤ sizeLine)
    (hq : R (.ok (.ret (.ref (h.objs.size + 1)))) ⟨madeHeap h C us, g, d, t, os⟩) :
    codeAny (model prog w) A (.builtin newId ⟨.ref C :: us, kw⟩) R ⟨h, g, d, t, os⟩ := by
  have ends := F.ends
  have inB : (Value.ref C :: bm).contains (.type B) = true := by
    rw [List.contains_cons, same, F.hasB, Bool.or_true]
  have noA : (Value.ref C :: bm).contains (.type "AttributeError") = false := by
    rw [List.contains_cons, same, F.noAttr]
    rfl
  have noN : (Value.ref C :: bm).contains (.type "NameError") = false := by
    rw [List.contains_cons, same, F.noName]
    rfl
  refine codeAny_builtinAt F.entry ?_
  unfold Builtin.«BaseException.__new__»
  refine wpAt_bind ?_
  show wpAt _ _ _ (stack >>= _) _ _ _
  refine wpAt_bind (wpAt_stack fun p under => wpAt_of_wpAny ?_)
  wp_walk
  refine wpAt_of_wpAny ?_
  rw [F.owner]
  repeat (first
    | with_reducible refine wpAny_madeHere_exc F.canon hC ?_
    | with_reducible refine wpAny_loadPart_at hC ?_
    | (with_reducible refine wpAny_isSubtype_exc hC ?_
       first | rw [inB] | rw [noA] | rw [noN])
    | wp_step)
  show R _ _
  rw [Heap.size_push]
  exact hq
theorem run_type (F : ExcBaseFacts B newId initId bmB) (same : ∀ X : String, bm.contains (.type X) = bmB.contains (.type X))
    (hC : h.get? C = some (excClassObj nm q C N bs bm hdct sn sub ab col dd k0 k1 k2 k3 k5 newId)) {Q : Fin → Shared → Prop}
    (li : Looks (model prog w) h (typeLookup (.ref C) "__init__") (some (.ref fI)))
    (lb : ∀ self, Looks (model prog w) h (bindSpecial (.ref fI) self) (.ref fI, [self])) (small : us.length ≤ sizeLine)
    (hq : codeAny (model prog w) A (.call (.ref fI) ⟨.ref (h.objs.size + 1) :: us, kw⟩)
      (fun r s' => match r with
        | .ok (.ret v) => v = .none ∧ Q (.done (.ret (.ref (h.objs.size + 1)))) s'
        | .ok _ => False
        | .error e => E e s') ⟨madeHeap h C us, g, d, t, os⟩) :
    wpAny (model prog w) A (Builtin.«type.__call__» ⟨.ref C :: us, kw⟩) Q E ⟨h, g, d, t, os⟩ := by
  repeat (first
    | with_reducible refine wpAny_loadPart_at hC ?_
    | with_reducible refine wpAny_madeBy_exc hC ?_
    | wp_step)
  refine codeAny_call_builtin_code (Code.quiet_builtin _ F.quiet) (look_new F same hC ?_)
  refine run_new F same hC small ?_
  show wpAny _ _ _ _ _ _
  have hC1 := made_keep (C := C) (us := us) _ _ hC
  have own : (Value.ref C :: bm).contains (.ref C) = true := by simp
  have li1 := li.keeps (made_keep (C := C) (us := us))
  have lb1 := (lb (.ref (h.objs.size + 1))).keeps (made_keep (C := C) (us := us))
  unfold isInstance
  repeat (first
    | with_reducible refine wpAny_loadPart_at made_at ?_
    | (with_reducible refine wpAny_isSubtype_exc hC1 ?_
       rw [own])
    | wp_step)
  show wpAny _ _ (typeLookup (.ref C) _) _ _ _
  refine li1.at ?_
  refine wpAny_holding (wpAny_bind (lb1.at ?_))
  refine wpAny_bind (wpAny_call (codeAny_mono hq ?_))
  intro r s' z
  cases r with
  | error e => exact z
  | ok fl =>
    cases fl with
    | ret v =>
      obtain ⟨rfl, z⟩ := z
      first
        | exact wpAny_pure (wpAny_pure z)
        | (wp_walk; exact z)
    | next => exact z.elim
    | brk => exact z.elim
    | cont => exact z.elim
end
section
variable {prog : Program} {w : World} {A : Around} {E : Value → Shared → Prop} {R : Result → Shared → Prop} {h : Heap} {g : Array GenState} {d : Drawn} {t : Nat} {os : OsState}
variable {nm q : Str} {C N : Addr} {bs bm bmB : List Value} {hdct : Bool} {sn : List Str} {sub : List Value} {ab : Bool} {col : Option Bool}
  {dd : Option Addr} {k0 k1 k2 k3 k5 : Option Value} {B newId initId : String} {kw : List (Str × Value)} {us : List Value} {fI : Addr}
theorem look_type {M : Model} {Q : Unit → Shared → Prop} (hC : h.get? C = some (excClassObj nm q C N bs bm hdct sn sub ab col dd k0 k1 k2 k3 k5 newId))
    (hq : Q () ⟨h, g, d, t, os⟩) : wpAny M A (checkBuiltinCall "type.__call__" ⟨.ref C :: us, kw⟩) Q E ⟨h, g, d, t, os⟩ := by
  have f0 := tc_sub
  have ofType : (⟨h, g, d, t, os⟩ : Shared).TypeIs (.ref C) "type" := ⟨_, hC, rfl⟩
  simp only [checkBuiltinCall, tc_kind, tc_split]
  repeat (any_goals (first
    | assumption
    | with_reducible refine wpAny_loadPart_at hC ?_
    | with_reducible refine wpAny_onRaise ?_
    | with_reducible refine wpAny_map ?_
    | wp_step))
/-- C(us, kw): the object is laid, then __init__ -/
theorem run_call (F : ExcBaseFacts B newId initId bmB) (same : ∀ X : String, bm.contains (.type X) = bmB.contains (.type X))
    (hC : h.get? C = some (excClassObj nm q C N bs bm hdct sn sub ab col dd k0 k1 k2 k3 k5 newId))
    (li : Looks (model prog w) h (typeLookup (.ref C) "__init__") (some (.ref fI)))
    (lb : ∀ self, Looks (model prog w) h (bindSpecial (.ref fI) self) (.ref fI, [self])) (small : us.length ≤ sizeLine)
    (hq : codeAny (model prog w) (A.under (.builtin "type.__call__" ⟨.ref C :: us, kw⟩)) (.call (.ref fI) ⟨.ref (h.objs.size + 1) :: us, kw⟩)
      (InitBack (h.objs.size + 1) R) ⟨madeHeap h C us, g, d, t, os⟩) :
    codeAny (model prog w) A (.call (.ref C) ⟨us, kw⟩) R ⟨h, g, d, t, os⟩ := by
  have f1 := tc_lookup
  have f2 := tc_bind (.ref C)
  have ofType : (⟨h, g, d, t, os⟩ : Shared).TypeIs (.ref C) "type" := ⟨_, hC, rfl⟩
  refine codeAny_of_tree ?_
  show wpAny _ _ (callAny (.ref C) _) _ _ _
  repeat (any_goals (first
    | assumption
    | with_reducible refine wpAny_loadPart_at hC ?_
    | wp_step))
  refine ⟨rfl, ?_⟩
  refine codeAny_call_builtin_at (Code.quiet_builtin _ (by decide +kernel)) entry_typeCall (look_type hC ?_)
  refine run_type F same hC li lb small (codeAny_mono hq ?_)
  intro r s' z
  rcases r with e | (v | _ | _ | _) <;> exact z
end
/-! storing into an exception -/
section
open Builtin Builtin.ObjectAttr
variable {prog : Program} {w : World} {A : Around} {R : Result → Shared → Prop} {hp : Heap} {g : Array GenState} {d : Drawn} {t : Nat} {os : OsState}
  {K : Frag} {C x : Addr} {B : String} {bmB : List Value} {name : Str} {tk : Tok} {v : Value} {fv : Array Value}
theorem first_field (SF : StoreFacts B bmB "object.__setattr__" "object") (X : K.In hp) (hx : hp.get? x = some { cls := .ref C, data := .fields fv })
    (over : excOver K C bmB = true) (free : takerIn K C name = some none) (dct : hasDictIn K C = true)
    (hq : ∀ h' tk' dx, (∀ b o, b ≠ x → hp.get? b = some o → h'.get? b = some o) → hp.objs.size ≤ dx → dx ≠ x →
      h'.get? x = some { cls := .ref C, dict := some dx, data := .fields fv } → h'.Ns1 dx (fun y => if y = name then some v else none) →
      R (.ok (.ret .none)) ⟨h', g, d, tk', os⟩) :
    codeAny (model prog w) A (.call (.builtin "object.__setattr__") ⟨[.ref x, .str name tk, v], []⟩) R ⟨hp, g, d, t, os⟩ := by
  have I : InstAt hp x { cls := .ref C, data := .fields fv } C none := ⟨hx, rfl, rfl, trivial⟩
  refine osa_openX (s := ⟨hp, g, d, t, os⟩) SF X I over free fun b => ?_
  show wpAny _ _ (storeInOwnDict (.ref x) (.ref C) (.str name tk) name v b) _ _ _
  obtain ⟨cd, hcd, hd⟩ := any_some dct
  have lc : Looks (model prog w) hp (classData C) cd := looks_clsIn X hcd
  obtain ⟨nm, bs, mro, ns, qn, hdd, sn, sb, ab, col, del⟩ := cd
  dsimp only at hd
  subst hd
  have apart : x ≠ hp.objs.size := Nat.ne_of_lt (Heap.lt_size hx)
  unfold storeInOwnDict ownDictForStores
  repeat (first
    | with_reducible refine PX.store_in_new ?_ ?_
    | with_reducible refine wpAny_loadPart_at hx ?_
    | with_reducible refine lc.at ?_
    | wp_step)
  · exact ⟨_, #[], _, (Heap.get?_update_ne _ _ _ _ apart.symm).trans (Heap.get?_push_at rfl rfl), rfl, fun e he => absurd he (by simp), fun _ => rfl⟩
  · intro h' tk' hn' but
    have hx1 : (hp.push { cls := .type "dict", data := .dict #[] }).get? x = some { cls := .ref C, data := .fields fv } := Heap.get?_push_of_some _ hx
    refine hq h' tk' hp.objs.size ?_ (Nat.le_refl _) apart.symm ?_ hn'
    · intro b o hb ho
      have z := but.2 b (Nat.ne_of_lt (Heap.lt_size ho))
      rw [z, Heap.get?_update_ne _ _ _ _ hb]
      exact Heap.get?_push_of_some _ ho
    · rw [but.2 x apart]
      exact Heap.get?_update_self _ hx1 rfl
theorem next_field (SF : StoreFacts B bmB "object.__setattr__" "object") (X : K.In hp) {dx : Addr} {m0 : Str → Option Value} {nl : List Str}
    (hx : hp.get? x = some { cls := .ref C, dict := some dx, data := .fields fv }) (hn : hp.Ns1 dx m0) (within : Within m0 nl) (few : nl.length ≤ 1000)
    (over : excOver K C bmB = true) (free : takerIn K C name = some none) (dct : hasDictIn K C = true)
    (hq : ∀ h' tk', (∀ b o, b ≠ dx → hp.get? b = some o → h'.get? b = some o) → h'.Ns1 dx (fun y => if y = name then some v else m0 y) →
      R (.ok (.ret .none)) ⟨h', g, d, tk', os⟩) :
    codeAny (model prog w) A (.call (.builtin "object.__setattr__") ⟨[.ref x, .str name tk, v], []⟩) R ⟨hp, g, d, t, os⟩ := by
  obtain ⟨oD, _, _, hoD, _, _⟩ := hn.count within
  have I : InstAt hp x { cls := .ref C, dict := some dx, data := .fields fv } C (some oD) := ⟨hx, rfl, rfl, hoD⟩
  refine osa_openX (s := ⟨hp, g, d, t, os⟩) SF X I over free fun b => ?_
  show wpAny _ _ (storeInOwnDict (.ref x) (.ref C) (.str name tk) name v b) _ _ _
  obtain ⟨cd, hcd, hd⟩ := any_some dct
  have lc : Looks (model prog w) hp (classData C) cd := looks_clsIn X hcd
  obtain ⟨nm, bs, mro, ns, qn, hdd, sn, sb, ab, col, del⟩ := cd
  dsimp only at hd
  subst hd
  unfold storeInOwnDict ownDictForStores
  repeat (first
    | with_reducible refine PX.store_in_old hn within few ?_
    | with_reducible refine wpAny_loadPart_at hx ?_
    | with_reducible refine lc.at ?_
    | wp_step)
  intro h' tk' hn' but
  exact hq h' tk' (fun b o hb ho => (but.2 b hb).trans ho) hn'
end
end EK
end PySem

namespace Hx
open PySem PySem.Spec PyProof.Rows L2
/-- what the written part says of an own exception class at C, over the built-in B -/
structure ExK (K : PySem.W.Frag) (C : Addr) (B newId initId : String) (bmB : List Value) : Prop where
  facts : ExcBaseFacts B newId initId bmB
  store : StoreFacts B bmB "object.__setattr__" "object"
  made : PySem.W.excInitIn K C bmB newId = true
  over : PySem.W.excOver K C bmB = true
  dct : PySem.W.hasDictIn K C = true
  sa : PySem.W.findIn K (.ref C) "__setattr__" = some (some (.builtin "object.__setattr__"))
  ga : PySem.W.findIn K (.ref C) "__getattribute__" = some (some (.builtin "BaseException.__getattribute__"))
  gt : PySem.W.findIn K (.ref C) "__getattr__" = some none
  sub : PySem.W.subIn K (.ref C) (.type "BaseException") = some true
  keep : PySem.W.keepIn K (.ref C) = true
  cl : PySem.W.findIn K (.ref C) "__class__" = some (some (.builtin "object.__class__"))
  gg : PySem.W.specialIn K (.builtin "object.__class__") "__get__" = some (some (.builtin "getset_descriptor.__get__"))
  tk : PySem.W.takesIn K (.builtin "object.__class__") = some true
  mo : PySem.W.mroIn K C (.type "object") = some true
section
variable {X : Cx} {pins : List (Addr × Obj)} {σ : L2.St} {H : Hp} {s : Shared} {a C dx : Addr} {f : Str} {y : V} {u : Value} {fs : List (Str × V)}
  {B newId initId : String} {bmB : List Value} {A : Around} {E : Value → Shared → Prop}
/-- self.f = y, the first field: the exception gets its dict -/
theorem put_first {Q : Unit → Shared → Prop} (T : ExK X.K C B newId initId bmB) (I : Inv X pins σ H s) (e : H a = some (exo a C none))
    (free : PySem.W.takerIn X.K C f = some none) (ry : RelV y u)
    (h : ∀ dx s', H dx = none → dx ≠ a → Inv X pins σ (upd (upd H dx (exd dx [(f, y)])) a (exo a C (some dx))) s' → Q () s') :
    wpAny (model X.prog X.w) A (setAttr (.ref a) f u) Q E s := by
  obtain ⟨t1, ho⟩ := exo_at I.hok e
  obtain ⟨hp, g, d, t, os⟩ := s
  refine PySem.W.set_plain I.kIn (ox := { cls := .ref C, dict := none, data := .fields #[.ref t1, .none, .none, .none, .bool false, .none] }) (od := none) ⟨ho, rfl, rfl, trivial⟩ T.sa ?_
  refine PySem.EK.first_field T.store I.kIn ho T.over free T.dct ?_
  intro h' tk' dx keeps new apart at_a ns
  have n0 : H dx = none := I.hok.fresh new
  have old : ∀ {b : Addr} {o : Obj}, hp.get? b = some o → b ≠ dx := fun {b o} z => Nat.ne_of_lt (Nat.lt_of_lt_of_le (Heap.lt_size z) new)
  have other : ∀ {b : Addr}, H b = none → b ≠ a := fun {b} n z => by
    rw [z, e] at n
    cases n
  have un : Un X.fs [] H (upd (upd H dx (exd dx [(f, y)])) a (exo a C (some dx))) hp h' :=
    { keep := fun b o z n _ _ => keeps b o (other n) z
      slot := fun b o z n _ _ => ⟨o.slots, keeps b o (other n) z⟩
      free := fun b o z n _ => by
        rw [upd_ne (other n), upd_ne (old z)]
        exact n
      there := fun b o z _ => by
        by_cases hb : b = a
        · exact ⟨_, by rw [hb]; exact at_a⟩
        · exact ⟨o, keeps b o hb z⟩
      tups := fun b xs z => by
        rw [upd_ne (at_ne e z exo_tup), upd_ne (ne_of_none z n0)]
        exact z
      frzs := fun b o v z => by
        rw [upd_ne (at_ne e z exo_frz), upd_ne (ne_of_none z n0)]
        exact z
      tbls := fun b ps z => ⟨#[], by
        rw [upd_ne (at_ne e z exo_tbl), upd_ne (ne_of_none z n0), z]
        simp⟩ }
  refine h dx _ n0 apart (I.un (t' := tk') un ?_)
  intro b o z
  by_cases hb : b = a
  · subst hb
    rw [upd_same] at z
    cases z
    exact exo_ok at_a
  rw [upd_ne hb] at z
  by_cases hd : b = dx
  · subst hd
    rw [upd_same] at z
    cases z
    exact exd_ok ns (relO_put (fs := []) ry fun _ => True.intro)
  rw [upd_ne hd] at z
  refine (I.hok b o z).stay ?_ ?_ ?_
  · intro c v hc r
    refine keeps c v ?_ r
    rcases hc with hc | hc
    · rw [hc]
      exact hb
    · exact at_ne e hc exo_own
  · intro c hc
    rw [upd_ne (at_ne e hc exo_own), upd_ne (ne_of_none hc n0)]
    exact hc
  · intro c xs hc
    rw [upd_ne (at_ne e hc exo_tup), upd_ne (ne_of_none hc n0)]
    exact hc
/-- self.f = y, a further field -/
theorem put_next {Q : Unit → Shared → Prop} (T : ExK X.K C B newId initId bmB) (I : Inv X pins σ H s) (e : H a = some (exo a C (some dx))) (ed : H dx = some (exd dx fs))
    (few : fs.length ≤ 900) (free : PySem.W.takerIn X.K C f = some none) (ry : RelV y u)
    (h : ∀ s', Inv X pins σ (upd H dx (exd dx ((f, y) :: fs))) s' → Q () s') : wpAny (model X.prog X.w) A (setAttr (.ref a) f u) Q E s := by
  obtain ⟨t1, ho⟩ := exo_at I.hok e
  obtain ⟨mA, ns, rel⟩ := exd_at I.hok ed
  have within := within_of rel
  obtain ⟨hp, g, d, t, os⟩ := s
  obtain ⟨oD, _, _, hoD, _, _⟩ := ns.count within
  refine PySem.W.set_plain I.kIn (ox := { cls := .ref C, dict := some dx, data := .fields #[.ref t1, .none, .none, .none, .bool false, .none] }) (od := some oD) ⟨ho, rfl, rfl, hoD⟩ T.sa ?_
  refine PySem.EK.next_field T.store I.kIn ho ns within (by rw [List.length_map]; omega) T.over free T.dct ?_
  intro h' tk' keeps ns'
  obtain ⟨o', _, _, there, _⟩ := id ns'
  exact h _ (I.write (t' := tk') (x := dx) (e := dx) (o := exd dx ((f, y) :: fs)) (by rw [ed]; exact True.intro) (.inl rfl) keeps ⟨o', there⟩ (exd_ok ns' (relO_put ry rel)))
end
/-- self.f = e, self an exception of the class at C -/
def tPut (f : Str) (C : Addr) (to te : TE) : TS := fun D σ H => te σ H fun y H1 => to σ H1 fun x H2 => ∃ a : Addr, x = .ref a ∧
  ((H2 a = some (exo a C none) ∧ ∀ dx, H2 dx = none → dx ≠ a → D.nx σ (upd (upd H2 dx (exd dx [(f, y)])) a (exo a C (some dx)))) ∨
    ∃ (dx : Addr) (fs : List (Str × V)), H2 a = some (exo a C (some dx)) ∧ H2 dx = some (exd dx fs) ∧ fs.length ≤ 900 ∧ D.nx σ (upd H2 dx (exd dx ((f, y) :: fs))))
section
variable {X : Cx} {o e : Expr} {es : List Expr} {to te : TE} {ta : TA} {f : Str} {p p' p1 p2 pos : Pos} {C : Addr} {B newId initId : String} {bmB : List Value}
theorem ps_put (T : ExK X.K C B newId initId bmB) (free : PySem.W.takerIn X.K C f = some none) (ho : PE X o to) (he : PE X e te)
    (hs : swapsWith e (some (.Attribute o f p')) pos.line X.env = pure false := by rfl) : PS X (.Assign [.Attribute o f p'] e pos) (tPut f C to te) := by
  constructor
  intro pins s σ H D I h
  refine plainObj_wpAny_Assign_Attribute (thn (he.run pins s σ H _ I h) ?_) hs
  rintro v s1 ⟨y, H1, I1, r1, q1⟩
  refine thn (ho.run pins s1 σ H1 _ I1 q1) ?_
  rintro u s2 ⟨x, H2, I2, r2, a, ex, q⟩
  subst ex
  cases (show u = Value.ref a from r2)
  rcases q with ⟨ea, q⟩ | ⟨dx, fs, ea, ed, few, q⟩
  · exact put_first T I2 ea free r1 fun dx s' n ne J => ⟨σ, _, J, q dx n ne⟩
  · exact put_next T I2 ea ed few free r1 fun s' J => ⟨σ, _, J, q⟩
end
/-- a fresh exception -/
def spIn1 (C : Addr) (f : Str) : Sp := fun vs H Q _ => ∃ (a : Addr) (v : V), vs = [.ref a, v] ∧ H a = some (exo a C none) ∧
  ∀ d, H d = none → d ≠ a → Q .non (upd (upd H d (exd d [(f, v)])) a (exo a C (some d)))
def spIn2 (C : Addr) (f g : Str) : Sp := fun vs H Q _ => ∃ (a : Addr) (v u : V), vs = [.ref a, v, u] ∧ H a = some (exo a C none) ∧
  ∀ d, H d = none → d ≠ a → Q .non (upd (upd (upd H d (exd d [(f, v)])) a (exo a C (some d))) d (exd d [(g, u), (f, v)]))
section
variable {P : Program} {w : World} {K : PySem.W.Frag} {mg : Str → Option Value} {base : Heap} {fI C : Addr} {fd : FuncData} {st : Stmt} {qual f g : Str}
  {B newId initId : String} {bmB : List Value} {q1 q2 q3 q4 q5 q6 q7 q8 : Pos}
theorem ok_in1 (F : Fun K "__init__" qual st fI fd) (S : FnScope ["self", f] ["self", f] (defScope st))
    (hb : defBody st = [.Assign [.Attribute (.Name "self" q1) f q2] (.Name f q3) q4]) (v1 : Vis (defScope st) "self") (v2 : Vis (defScope st) f)
    (hd : (f == ("__debug__" : Str)) = false) (hc : (f == ("__classdict__" : Str)) = false) (T : ExK K C B newId initId bmB) (free : PySem.W.takerIn K C f = some none) :
    FnOk P w K mg base CX0 1 fI fd ["self", f] (spIn1 C f) := by
  refine F.ok S (fun vs H Q E h => ?_) (fun cdv A outer s H vs Q E hr h => ?_)
  · obtain ⟨a, v, rfl, _⟩ := h
    rfl
  obtain ⟨a, v, rfl, ha, q⟩ := h
  rw [hb]
  refine ⟨_, pss_one (ps_put T free (pe_var (i := 0) rfl v1) (pe_var (i := 1) rfl v2 hd hc)), ?_⟩
  exact ⟨_, rfl, _, rfl, a, rfl, .inl ⟨ha, fun d n ne => q d n ne⟩⟩
theorem ok_in2 (F : Fun K "__init__" qual st fI fd) (S : FnScope ["self", f, g] ["self", f, g] (defScope st))
    (hb : defBody st = [.Assign [.Attribute (.Name "self" q1) f q2] (.Name f q3) q4, .Assign [.Attribute (.Name "self" q5) g q6] (.Name g q7) q8])
    (v1 : Vis (defScope st) "self") (v2 : Vis (defScope st) f) (v3 : Vis (defScope st) g)
    (hd : (f == ("__debug__" : Str)) = false) (hc : (f == ("__classdict__" : Str)) = false) (hd2 : (g == ("__debug__" : Str)) = false) (hc2 : (g == ("__classdict__" : Str)) = false)
    (T : ExK K C B newId initId bmB) (free : PySem.W.takerIn K C f = some none) (free2 : PySem.W.takerIn K C g = some none) :
    FnOk P w K mg base CX0 1 fI fd ["self", f, g] (spIn2 C f g) := by
  refine F.ok S (fun vs H Q E h => ?_) (fun cdv A outer s H vs Q E hr h => ?_)
  · obtain ⟨a, v, u, rfl, _⟩ := h
    rfl
  obtain ⟨a, v, u, rfl, ha, q⟩ := h
  rw [hb]
  refine ⟨_, pss_cons (ps_put T free (pe_var (i := 0) rfl v1) (pe_var (i := 1) rfl v2 hd hc)) (pss_one (ps_put T free2 (pe_var (i := 0) rfl v1) (pe_var (i := 2) rfl v3 hd2 hc2))), ?_⟩
  refine ⟨_, rfl, _, rfl, a, rfl, .inl ⟨ha, fun d n ne => ?_⟩⟩
  refine ⟨_, rfl, _, rfl, a, rfl, .inr ⟨d, [(f, v)], upd_same, ?_, (by show 1 ≤ 900; decide), q d n ne⟩⟩
  rw [upd_ne ne]
  exact upd_same
end

/-! C(..) as a value -/
section
variable {X : Cx} {pins : List (Addr × Obj)} {σ : L2.St} {H : Hp} {s : Shared} {C fI : Addr} {fd : FuncData} {ps : List Str} {sp : Sp} {k : Nat}
  {B newId initId : String} {bmB : List Value}
theorem run_mk {Q : VK} {us bs : List Value} {kw : List (Str × Value)} {vs : List V} (T : ExK X.K C B newId initId bmB)
    (hi : PySem.W.findIn X.K (.ref C) "__init__" = some (some (.ref fI))) (tI : PySem.W.typeIn X.K (.ref fI) = some (.type "function"))
    (F : FnOk X.prog X.w X.K X.mg X.base CX0 k fI fd ps sp) (room : Room (k + 1) X.A) (I : Inv X pins σ H s) (rel : Vals vs bs)
    (binds : ∀ (s : Shared) (self : Value), X.K.In s.heap → BindsTo s fd ⟨self :: us, kw⟩ (ps.zip (self :: bs))) (small : us.length ≤ sizeLine)
    (q : ∀ a, H a = none → sp (.ref a :: vs) (upd H a (exo a C none)) (fun v H2 => v = .non ∧ Q (.ref a) H2) E0) :
    wpAny (model X.prog X.w) X.A (call (.ref C) us kw) (EP X pins σ Q) X.xe s := by
  obtain ⟨nm, N, qn, bs0, bm, hdct, sn, sub, ab, col, dd, k0, k1, k2, k3, k5, hC, same⟩ := PySem.W.excInit_of I.kIn T.made
  obtain ⟨hp, g, dr, tk, os⟩ := s
  have above : hp.objs.size ≤ hp.objs.size + 1 := Nat.le_succ _
  have n0 : H (hp.objs.size + 1) = none := I.hok.fresh above
  have q0 := q _ n0
  have J : Inv X pins σ (upd H (hp.objs.size + 1) (exo (hp.objs.size + 1) C none)) ⟨PySem.EK.madeHeap hp C us, g, dr, tk, os⟩ :=
    I.laid (t' := tk) (h' := PySem.EK.madeHeap hp C us) (fun b o e => PySem.EK.made_keep b o e) above (exo_ok PySem.EK.made_at)
  have rel2 : Vals (V.ref (hp.objs.size + 1) :: vs) (Value.ref (hp.objs.size + 1) :: bs) := .cons rfl rel
  refine wpAny_call (PySem.EK.run_call T.facts same hC (PySem.W.looks_findIn I.kIn hi) (fun self => PySem.W.bind_fn I.kIn self tI) small ?_)
  refine codeAny_mono (F.run _ X.stack _ _ ⟨Value.ref (hp.objs.size + 1) :: us, kw⟩ _ _ _ E0 (room.make C us kw) (J.env0.make C us kw) (binds _ _ J.kIn) rel2 q0) ?_
  intro r s' hr
  cases r with
  | error e => exact (show False from hr).elim
  | ok fl =>
    cases fl with
    | ret u =>
      obtain ⟨v, H2, J2, rv, ev, q2⟩ := J.after hr
      subst ev
      exact ⟨rv, ⟨V.ref (hp.objs.size + 1), H2, J2, rfl, q2⟩⟩
    | next => exact hr.elim
    | brk => exact hr.elim
    | cont => exact hr.elim
end
/-- C(e, ..) -/
def tMk (C : Addr) (sp : Sp) (ta : TA) : TE := fun σ H Q => ta σ H fun vs H1 => vs.length ≤ 100 ∧ ∀ a, H1 a = none →
  sp (.ref a :: vs) (upd H1 a (exo a C none)) (fun v H2 => v = .non ∧ Q (.ref a) H2) E0
def tMkK (C : Addr) (sp : Sp) (gV : List V → List V) (tk : TA) : TE := fun σ H Q => tk σ H fun vs H1 => ∀ a, H1 a = none →
  sp (.ref a :: gV vs) (upd H1 a (exo a C none)) (fun v H2 => v = .non ∧ Q (.ref a) H2) E0
section
variable {X : Cx} {C fI : Addr} {fd : FuncData} {ps ks : List Str} {sp : Sp} {k : Nat} {B newId initId : String} {bmB : List Value}
  {x : Str} {p pos : Pos} {e : Expr} {es : List Expr} {t tk : TA} {kws : List Keyword}
theorem pe_mk (T : ExK X.K C B newId initId bmB)
    (hi : PySem.W.findIn X.K (.ref C) "__init__" = some (some (.ref fI))) (tI : PySem.W.typeIn X.K (.ref fI) = some (.type "function"))
    (F : FnOk X.prog X.w X.K X.mg X.base CX0 k fI fd ps sp) (hb : Binds X.K fd ps []) (room : Room (k + 1) X.A) (hg : Gl X x) (hm : X.mg x = some (.ref C)) (ha : PA X (e :: es) t)
    (hdb : (x == ("__debug__" : Str)) = false := by decide) (he : starEach (e :: es) X.env = (false, eval e X.env) :: starEach es X.env := by rfl)
    (hpl : (backTo pos (starEach es X.env)).any (·.1) = false := by rfl) : PE X (.Call (.Name x p) (e :: es) [] pos) (tMk C sp t) := by
  constructor
  intro pins s σ H Q I h
  refine wpAny_Call_Name_kw (ld_glob I hg hm ?_ hdb)
  refine PySem.W.callWith_K (h₀ := X.base) I.ok.mod.kin T.keep ?_ he hpl
  refine thn (ha.run pos pins s σ H _ I h) ?_
  rintro us s1 ⟨vs, H1, J, r, hl, q⟩
  refine ⟨J.kIn, ?_⟩
  have hlen : (Value.none :: us).length = ps.length := by
    have z := F.len _ _ _ _ (q s1.heap.objs.size (J.hok.fresh (Nat.le_refl _)))
    rw [← z, List.length_cons, List.length_cons, r.length]
  refine run_mk (bs := us) (kw := []) T hi tI F room J r (fun s' self hK => ?_) (by show us.length ≤ sizeLine; rw [← r.length]; exact small_line (by omega)) q
  have z := hb s' (self :: us) hK (by rw [List.append_nil]; exact hlen)
  rw [List.append_nil] at z
  exact z
theorem pe_mkK (T : ExK X.K C B newId initId bmB) {g : List Value → List Value} {gV : List V → List V}
    (hi : PySem.W.findIn X.K (.ref C) "__init__" = some (some (.ref fI))) (tI : PySem.W.typeIn X.K (.ref fI) = some (.type "function"))
    (F : FnOk X.prog X.w X.K X.mg X.base CX0 k fI fd ps sp) (hgV : ∀ vs us, Vals vs us → Vals (gV vs) (g us))
    (hb : ∀ (s : Shared) (self : Value) (ws : List Value), ws.length = ks.length → BindsTo s fd ⟨[self], ks.zip ws⟩ (ps.zip (self :: g ws)))
    (room : Room (k + 1) X.A) (hg : Gl X x) (hm : X.mg x = some (.ref C)) (hkw : PK X kws tk) (hn : ∀ σ H Q, tk σ H Q → tk σ H fun vs H1 => vs.length = ks.length ∧ Q vs H1)
    (hall : (backToKw pos (keywordEach kws X.env)).all (·.1.isSome) = true := by rfl) (hks : (backToKw pos (keywordEach kws X.env)).filterMap (·.1) = ks := by rfl)
    (hdb : (x == ("__debug__" : Str)) = false := by decide)
    (hpl : ((backTo pos (starEach [] X.env)).any (·.1) || (backToKw pos (keywordEach kws X.env)).any (·.1.isNone)) = false := by rfl) :
    PE X (.Call (.Name x p) [] kws pos) (tMkK C sp gV tk) := by
  constructor
  intro pins s σ H Q I h
  refine wpAny_Call_Name_kw (ld_glob I hg hm ?_ hdb)
  refine PySem.W.callWith_KW0 (h₀ := X.base) I.ok.mod.kin T.keep hall ?_ hpl
  refine thn (hkw.run pos pins s σ H _ I (hn _ _ _ h)) ?_
  rintro ws s1 ⟨vs, H1, J, r, hl, q⟩
  refine ⟨J.kIn, ?_⟩
  rw [hks]
  exact run_mk (us := []) (bs := g ws) (kw := ks.zip ws) T hi tI F room J (hgV _ _ r) (fun s' self _ => hb s' self ws (by rw [← r.length]; exact hl)) (small_line (by decide)) q
end
/-- o.f of an exception that has its dict -/
def tGet (C : Addr) (f : Str) (to : TE) : TE := fun σ H Q => to σ H fun x H1 => ∃ (a d : Addr) (fs : List (Str × V)) (v : V), x = .ref a ∧ H1 a = some (exo a C (some d)) ∧ H1 d = some (exd d fs) ∧ fs.lookup f = some v ∧ Q v H1
theorem pe_get {X : Cx} {o : Expr} {to : TE} {f : Str} {pos : Pos} {C : Addr} {B newId initId : String} {bmB : List Value} (T : ExK X.K C B newId initId bmB) (hno : PySem.W.findIn X.K (.ref C) f = some none) (ho : PE X o to)
    (hb : attributeBase o f X.env (eval o X.env) = eval o X.env := by rfl) : PE X (.Attribute o f pos) (tGet C f to) := by
  constructor
  intro pins s σ H Q I h
  refine attr_of hb (thn (ho.run pins s σ H _ I h) ?_)
  rintro u s1 ⟨x, H1, J, r, a, d, fs, v, ex, ea, ed, hv, q⟩
  subst ex
  cases (show u = Value.ref a from r)
  obtain ⟨t1, hobj⟩ := exo_at J.hok ea
  obtain ⟨mA, ns, rel⟩ := exd_at J.hok ed
  have rv := rel f
  rw [hv] at rv
  obtain ⟨u', hu, ru⟩ := RelO.some_of rv
  obtain ⟨od, hod, look⟩ := lookIn_ns ns
  have inst : PySem.W.InstAt s1.heap a { cls := .ref C, dict := some d, data := .fields #[.ref t1, .none, .none, .none, .bool false, .none] } C (some od) := ⟨hobj, rfl, rfl, hod⟩
  exact PySem.PX.exc_get J.kIn inst T.ga T.gt T.sub (PySem.W.findObj_own T.dct hno rfl (by rw [look, hu])) (handed_of ru) ⟨v, H1, J.tok _, ru, q⟩
/-- isinstance(e, c), e an exception -/
def rIsX (K : PySem.W.Frag) : List V → Hp → VK → Prop := fun xs H Q => ∃ (a C : Addr) (d : Option Addr) (c : V) (cv : Value) (b : Bool), xs = [.ref a, c] ∧ H a = some (exo a C d) ∧ (∀ x, d = some x → ∃ fs, H x = some (exd x fs)) ∧
  ClsV c cv ∧ PySem.W.kitOne K (.ref C) cv = some b ∧ Q (.bl b) H
/-- the classes that a law's exceptions are of -/
def ExAll (K : PySem.W.Frag) (P : Addr → Prop) : Prop := ∀ C, P C → ∃ B newId initId bmB, ExK K C B newId initId bmB
theorem call_isX {X : Cx} {P : Addr → Prop} (T : ExAll X.K P) : CallR X (.builtin "isinstance") (fun xs H Q => rIsX X.K xs H Q ∧ ∀ a c, xs = [.ref a, c] → ∀ C d, H a = some (exo a C d) → P C) := by
  intro pins s σ H xs us Q I r h
  obtain ⟨⟨a, C, d, c, cv, b, rfl, ha, hd, hc, e, q⟩, hP⟩ := h
  obtain ⟨u1, u2, rfl, r1, r2⟩ := vals2 r
  cases (show u1 = Value.ref a from r1)
  have e2 := hc.eq r2
  subst e2
  obtain ⟨B, newId, initId, bmB, K0⟩ := T C (hP a c rfl C d ha)
  obtain ⟨t1, hobj⟩ := exo_at I.hok ha
  obtain ⟨cd, hcd, _⟩ := PySem.W.any_some K0.dct
  have hcl : (PySem.W.clsIn X.K C).isSome = true := by
    rw [hcd]
    rfl
  cases d with
  | none =>
    have inst : PySem.W.InstAt s.heap a { cls := .ref C, dict := none, data := .fields #[.ref t1, .none, .none, .none, .bool false, .none] } C none := ⟨hobj, rfl, rfl, trivial⟩
    exact PySem.W.kia_one (PySem.W.kitx_exc hcl K0.ga K0.gt K0.sub K0.cl K0.gg K0.tk K0.mo) I.kIn inst e (fun z => nomatch z) fun tk => ⟨.bl b, H, I.tok tk, rfl, q⟩
  | some x =>
    obtain ⟨fs, ex⟩ := hd x rfl
    obtain ⟨mA, ns, rel⟩ := exd_at I.hok ex
    obtain ⟨od, hod, look⟩ := lookIn_ns ns
    have inst : PySem.W.InstAt s.heap a { cls := .ref C, dict := some x, data := .fields #[.ref t1, .none, .none, .none, .bool false, .none] } C (some od) := ⟨hobj, rfl, rfl, hod⟩
    exact PySem.W.kia_one (PySem.W.kitx_exc hcl K0.ga K0.gt K0.sub K0.cl K0.gg K0.tk K0.mo) I.kIn inst e (fun z => nomatch z) fun tk => ⟨.bl b, H, I.tok tk, rfl, q⟩
end Hx

namespace Hx
open PySem PySem.Spec PyProof.Rows L2
section
variable {X : Cx} {C fI : Addr} {fd : FuncData} {ps : List Str} {sp : Sp} {k : Nat} {B newId initId : String} {bmB : List Value}
  {x : Str} {p pos : Pos} {e : Expr} {es : List Expr} {ta : TA}
/-- raise C(e, ..), C an own class over any built-in one whose __init__ is a def -/
theorem pmk_own2 (T : ExK X.K C B newId initId bmB) (ty : PySem.W.typeIn X.K (.ref C) = some (.type "type")) (hi : PySem.W.findIn X.K (.ref C) "__init__" = some (some (.ref fI))) (tI : PySem.W.typeIn X.K (.ref fI) = some (.type "function"))
    (F1 : FnOk X.prog X.w X.K X.mg X.base CX0 k fI fd ps sp) (room : Room (k + 1) X.A) (hb : Binds X.K fd ps []) (hg : Gl X x) (hm : X.mg x = some (.ref C)) (ha : PA X (e :: es) ta)
    (hdb : (x == ("__debug__" : Str)) = false := by decide) (he : starEach (e :: es) X.env = (false, eval e X.env) :: starEach es X.env := by rfl) (hpl : (backTo pos (starEach es X.env)).any (·.1) = false := by rfl) :
    PMk X (.Call (.Name x p) (e :: es) [] pos) (tMkO C sp [] ta) := by
  intro pins s σ H Q I h
  refine wpAny_Call_Name_kw (ld_glob I hg hm ?_ hdb)
  refine PySem.W.callWith_K (h₀ := X.base) I.ok.mod.kin T.keep (thn (ha.run pos pins s σ H _ I h) fun us s1 ⟨vs, H1, I1, r1, few, q1⟩ => ⟨I1.kIn, ?_⟩) he hpl
  obtain ⟨nm, N, qn, bs0, bm, hdct, sn, sub, ab, col, dd, k0, k1, k2, k3, k5, hC, same⟩ := PySem.W.excInit_of I1.kIn T.made
  obtain ⟨hp, g, dr, tk, os⟩ := s1
  have above : hp.objs.size ≤ hp.objs.size + 1 := Nat.le_succ _
  have n0 : H1 (hp.objs.size + 1) = none := I1.hok.fresh above
  have q0 := q1 _ n0
  rw [List.append_nil] at q0
  have J : Inv X pins σ (upd H1 (hp.objs.size + 1) (exo (hp.objs.size + 1) C none)) ⟨PySem.EK.madeHeap hp C us, g, dr, tk, os⟩ :=
    I1.laid (t' := tk) (h' := PySem.EK.madeHeap hp C us) (fun b o e => PySem.EK.made_keep b o e) above (exo_ok PySem.EK.made_at)
  have rel2 : Vals (V.ref (hp.objs.size + 1) :: vs) (Value.ref (hp.objs.size + 1) :: us) := .cons rfl r1
  have hl : ((Value.ref (hp.objs.size + 1) :: us) ++ []).length = ps.length := by
    rw [List.append_nil, ← rel2.length]
    exact F1.len _ _ _ _ q0
  have small : us.length ≤ sizeLine := by
    rw [← r1.length]
    exact small_line few
  have bind := hb _ (Value.ref (hp.objs.size + 1) :: us) J.kIn hl
  rw [List.append_nil] at bind
  refine wpAny_call (PySem.EK.run_call T.facts same hC (PySem.W.looks_findIn I1.kIn hi) (fun self => PySem.W.bind_fn I1.kIn self tI) small ?_)
  refine codeAny_mono (F1.run _ X.stack _ _ ⟨Value.ref (hp.objs.size + 1) :: us, []⟩ _ _ _ (fun _ _ _ => False) (room.make C us []) (J.env0.make C us []) bind rel2 q0) ?_
  intro r s' hr
  cases r with
  | error e => exact (show False from hr).elim
  | ok fl =>
    cases fl with
    | next => exact hr.elim
    | brk => exact hr.elim
    | cont => exact hr.elim
    | ret u =>
      obtain ⟨v, H2, os2, bare2, un2, hok2, rv, ev, d, fs, ea, ed, hd1, q2⟩ := hr
      subst ev
      obtain ⟨h2, g2, d2, t2, os'⟩ := s'
      exact ⟨rv, mk_end (raises_own T.sub ty) I1 above (fun b o e => PySem.EK.made_keep b o e) un2 hok2 os2 bare2 ea ed hd1 q2⟩
end
end Hx

namespace Hx
open PySem PySem.Spec PyProof.Rows L2
/-! comparing data -/
section
variable {X : Cx}
def rNeQ : R2 := fun x y H Q => ∃ d e, Dq H x d ∧ Dq H y e ∧ SeqAt.shaped d = true ∧ SeqAt.shaped e = true ∧ Q (.bl (!PyData.eqv d e)) H
def rEqQ : R2 := fun x y H Q => ∃ d e, Dq H x d ∧ Dq H y e ∧ SeqAt.shaped d = true ∧ SeqAt.shaped e = true ∧ Q (.bl (PyData.eqv d e)) H
theorem op_neQ (hu : X.A.units + 64 < cLine) : OpR X (compareOp .NotEq) rNeQ := by
  intro pins s σ H x y v u Q I rx ry h
  obtain ⟨d, e, hd, he, sd, se, q⟩ := h
  obtain ⟨as, r1, _⟩ := Dq.reads I d x v hd rx
  obtain ⟨bs, r2, _⟩ := Dq.reads I e y u he ry
  exact SeqAt.compareNe_shaped r1 r2 sd se hu ⟨.bl _, H, I, rfl, q⟩
theorem op_eqQ (hu : X.A.units + 64 < cLine) : OpR X (compareOp .Eq) rEqQ := by
  intro pins s σ H x y v u Q I rx ry h
  obtain ⟨d, e, hd, he, sd, se, q⟩ := h
  obtain ⟨as, r1, _⟩ := Dq.reads I d x v hd rx
  obtain ⟨bs, r2, _⟩ := Dq.reads I e y u he ry
  exact SeqAt.compareEq_shaped r1 r2 sd se hu ⟨.bl _, H, I, rfl, q⟩
end
/-! comprehensions that make data -/
def without (D : Addr) (H : Hp) : Hp := fun b => if b = D then none else H b
def newPart (H H' : Hp) : Hp := fun b => if H b = none then H' b else none
theorem without_some {D b : Addr} {H : Hp} {o : HO} (h : without D H b = some o) : b ≠ D ∧ H b = some o := by
  unfold without at h
  split at h
  · cases h
  · exact ⟨by assumption, h⟩
theorem without_at {D b : Addr} {H : Hp} {o : HO} (n : b ≠ D) (h : H b = some o) : without D H b = some o := by
  unfold without
  rw [if_neg n]
  exact h
theorem newPart_some {b : Addr} {H H' : Hp} {o : HO} (h : newPart H H' b = some o) : H b = none ∧ H' b = some o := by
  unfold newPart at h
  split at h
  · exact ⟨by assumption, h⟩
  · cases h
theorem newPart_at {b : Addr} {H H' : Hp} {o : HO} (n : H b = none) (h : H' b = some o) : newPart H H' b = some o := by
  unfold newPart
  rw [if_pos n]
  exact h
theorem without_same {D : Addr} {H : Hp} : Same (without D H) H := fun b o h => (without_some h).2
theorem newPart_same {H H' : Hp} : Same (newPart H H') H' := fun b o h => (newPart_some h).2
theorem without_upd {D : Addr} {H : Hp} {o : HO} : without D (upd H D o) = without D H := by
  funext b
  unfold without
  split
  · rfl
  · rw [upd_ne (by assumption)]
theorem DqAll.snoc {H : Hp} {v : V} {d : PyData} : ∀ {vs : List V} {ds : List PyData}, DqAll H vs ds → Dq H v d → DqAll H (vs ++ [v]) (ds ++ [d])
  | _, _, .nil, h => .cons h .nil
  | _, _, .cons a r, h => .cons a (DqAll.snoc r h)
theorem DqAll.len {H : Hp} : ∀ {vs : List V} {ds : List PyData}, DqAll H vs ds → vs.length = ds.length
  | _, _, .nil => rfl
  | _, _, .cons _ r => congrArg Nat.succ (DqAll.len r)
/-- what a turn's element must do: a new datum, all else as it was -/
def Gives (te : TE) (σ : L2.St) (H : Hp) (d : PyData) : Prop := ∀ Q : VK, (∀ y H', Same H H' → Dq (newPart H H') y d → Q y H') → te σ H Q
def LcAt (H1 : Hp) (D : Addr) (f : Nat → PyData) (i : Nat) (H' : Hp) : Prop :=
  Same H1 H' ∧ ∃ xs, H' D = some (.lst xs) ∧ DqAll (without D H') xs ((List.range i).map f)
theorem LcAt.start {H1 : Hp} {D : Addr} {f : Nat → PyData} (hD : H1 D = none) : LcAt H1 D f 0 (upd H1 D (.lst [])) := ⟨same_new hD _, [], upd_same, .nil⟩
theorem LcAt.turn {H1 H' H2 : Hp} {D : Addr} {f : Nat → PyData} {i : Nat} {y : V} (hD : H1 D = none) (h : LcAt H1 D f i H') (s : Same H' H2) (hy : Dq (newPart H' H2) y (f i)) (hi : i < 100000) :
    ∃ acc, H2 D = some (.lst acc) ∧ acc.length < sizeLine ∧ LcAt H1 D f (i + 1) (upd H2 D (.lst (acc ++ [y]))) := by
  obtain ⟨s1, xs, hx, ha⟩ := h
  have hlen := ha.len
  rw [List.length_map, List.length_range] at hlen
  refine ⟨xs, s _ _ hx, by rw [hlen]; exact Nat.lt_of_lt_of_le hi (by decide), ?_, xs ++ [y], upd_same, ?_⟩
  · intro b o hb
    rw [upd_ne (ne_of_none hb hD)]
    exact s _ _ (s1 _ _ hb)
  · rw [without_upd, List.range_succ, List.map_append]
    refine DqAll.snoc (DqAll.same (fun b o hb => ?_) _ _ ha) (Dq.same (fun b o hb => ?_) _ _ hy)
    · obtain ⟨n, e⟩ := without_some hb
      exact without_at n (s _ _ e)
    · obtain ⟨n, e⟩ := newPart_some hb
      exact without_at (fun z => by rw [z, hx] at n; cases n) e
theorem lc_data_range {n : Nat} {i0 : Nat} {te : TE} {vs : List Nat} {σ : L2.St} {H1 : Hp} {D : Addr} {Qd : Hp → Prop} (f : Nat → PyData) (hD : H1 D = none) (hn : n ≤ 100000)
    (hw : ∀ x : V, wipe ((wipe σ vs).set i0 (some x)) vs = wipe σ vs)
    (hs : ∀ i H', i < n → Same H1 H' → Gives te ((wipe σ vs).set i0 (some (.int (i : Nat)))) H' (f i))
    (hd : ∀ H' xs, Same H1 H' → H' D = some (.lst xs) → DqAll H' xs ((List.range n).map f) → Qd H') :
    ∃ W : Nat → Nat → Hp → Prop, (∃ m, W 0 m (upd H1 D (.lst []))) ∧ ∀ i m H, W i m H →
      ((Itr 0 n).stop i H ∧ Qd H) ∨ ((Itr 0 n).go i H ∧ ∃ Nx : Hp → Prop, (∀ H', Nx H' → ∃ m', m' < m ∧ W (i + 1) m' H') ∧
        ∀ x H', (Itr 0 n).yld i H x H' → gName i0 x (wipe σ vs) H' fun σ2 H2 => wipe σ2 vs = wipe σ vs ∧ tYes σ2 H2 fun b H3 =>
          if b = true then te σ2 H3 fun y H4 => ∃ acc, H4 D = some (.lst acc) ∧ acc.length < sizeLine ∧ Nx (upd H4 D (.lst (acc ++ [y]))) else Nx H3) := by
  refine lc_range (lo := 0) (n := n) (LcAt H1 D f) (LcAt.start hD) ?_ ?_
  · intro i H' hi h
    refine ⟨hw _, turn_yes ?_⟩
    have e : (V.int (0 + (i : Int))) = V.int ((i : Nat) : Int) := by rw [Int.zero_add]
    rw [e]
    exact hs i H' hi h.1 _ fun y H2 s hy => h.turn hD s hy (by omega)
  · rintro H' ⟨s1, xs, hx, ha⟩
    exact hd H' xs s1 hx (DqAll.same without_same _ _ ha)
theorem lc_data_list {K : PySem.W.Frag} {a : Addr} {ws : List V} {i0 : Nat} {te : TE} {vs : List Nat} {σ : L2.St} {H1 : Hp} {D : Addr} {Qd : Hp → Prop} (f : Nat → PyData) (hD : H1 D = none) (hn : ws.length ≤ 100000)
    (hl : SqL K H1 a ws) (hw : ∀ x : V, wipe ((wipe σ vs).set i0 (some x)) vs = wipe σ vs)
    (hs : ∀ i x H', ws[i]? = some x → Same H1 H' → Gives te ((wipe σ vs).set i0 (some x)) H' (f i))
    (hd : ∀ H' xs, Same H1 H' → H' D = some (.lst xs) → DqAll H' xs ((List.range ws.length).map f) → Qd H') :
    ∃ W : Nat → Nat → Hp → Prop, (∃ m, W 0 m (upd H1 D (.lst []))) ∧ ∀ i m H, W i m H →
      ((Itl K a).stop i H ∧ Qd H) ∨ ((Itl K a).go i H ∧ ∃ Nx : Hp → Prop, (∀ H', Nx H' → ∃ m', m' < m ∧ W (i + 1) m' H') ∧
        ∀ x H', (Itl K a).yld i H x H' → gName i0 x (wipe σ vs) H' fun σ2 H2 => wipe σ2 vs = wipe σ vs ∧ tYes σ2 H2 fun b H3 =>
          if b = true then te σ2 H3 fun y H4 => ∃ acc, H4 D = some (.lst acc) ∧ acc.length < sizeLine ∧ Nx (upd H4 D (.lst (acc ++ [y]))) else Nx H3) := by
  refine lc_list (K := K) (a := a) (xs := ws) (LcAt H1 D f) (LcAt.start hD) (fun i H' _ h => h.1.seq hl) ?_ ?_
  · intro i x H' hi h
    have lt : i < ws.length := (List.getElem?_eq_some_iff.mp hi).1
    refine ⟨hw _, turn_yes ?_⟩
    exact hs i x H' hi h.1 _ fun y H2 s hy => h.turn hD s hy (by omega)
  · rintro H' ⟨s1, xs, hx, ha⟩
    exact hd H' xs s1 hx (DqAll.same without_same _ _ ha)
/-! isinstance of an exception -/
/-- at a stands an exception of the class at C -/
def XAt (H : Hp) (a C : Addr) : Prop := ∃ d, H a = some (exo a C d) ∧ ∀ x, d = some x → ∃ fs, H x = some (exd x fs)
theorem XAt.same {H H' : Hp} {a C : Addr} (h : XAt H a C) (s : Same H H') : XAt H' a C := by
  obtain ⟨d, e, k⟩ := h
  refine ⟨d, s _ _ e, fun x hx => ?_⟩
  obtain ⟨fs, z⟩ := k x hx
  exact ⟨fs, s _ _ z⟩
def tIs (i : Nat) (a C : Addr) (b : Bool) : TE := fun σ H Q => σ[i]? = some (some (.ref a)) ∧ XAt H a C ∧ Q (.bl b) H
section
variable {X : Cx} {a C : Addr} {i : Nat} {x : Str} {p p1 pos : Pos} {ce : Expr} {c : V} {cv : Value} {b : Bool} {B newId initId : String} {bmB : List Value}
theorem call_isK (T : ExK X.K C B newId initId bmB) : CallR X (.builtin "isinstance") (fun xs H Q => ∃ (a : Addr) (c : V) (cv : Value) (b : Bool), xs = [.ref a, c] ∧ XAt H a C ∧ ClsV c cv ∧ PySem.W.kitOne X.K (.ref C) cv = some b ∧ Q (.bl b) H) := by
  intro pins s σ H xs us Q I r h
  obtain ⟨a, c, cv, b, rfl, ⟨d, ha, hd⟩, hc, e, q⟩ := h
  obtain ⟨u1, u2, rfl, r1, r2⟩ := vals2 r
  cases (show u1 = Value.ref a from r1)
  have e2 := hc.eq r2
  subst e2
  obtain ⟨t1, hobj⟩ := exo_at I.hok ha
  obtain ⟨cd, hcd, _⟩ := PySem.W.any_some T.dct
  have hcl : (PySem.W.clsIn X.K C).isSome = true := by
    rw [hcd]
    rfl
  cases d with
  | none =>
    have inst : PySem.W.InstAt s.heap a { cls := .ref C, dict := none, data := .fields #[.ref t1, .none, .none, .none, .bool false, .none] } C none := ⟨hobj, rfl, rfl, trivial⟩
    exact PySem.W.kia_one (PySem.W.kitx_exc hcl T.ga T.gt T.sub T.cl T.gg T.tk T.mo) I.kIn inst e (fun z => nomatch z) fun tk => ⟨.bl b, H, I.tok tk, rfl, q⟩
  | some x =>
    obtain ⟨fs, ex⟩ := hd x rfl
    obtain ⟨mA, ns, rel⟩ := exd_at I.hok ex
    obtain ⟨od, hod, look⟩ := lookIn_ns ns
    have inst : PySem.W.InstAt s.heap a { cls := .ref C, dict := some x, data := .fields #[.ref t1, .none, .none, .none, .bool false, .none] } C (some od) := ⟨hobj, rfl, rfl, hod⟩
    exact PySem.W.kia_one (PySem.W.kitx_exc hcl T.ga T.gt T.sub T.cl T.gg T.tk T.mo) I.kIn inst e (fun z => nomatch z) fun tk => ⟨.bl b, H, I.tok tk, rfl, q⟩
theorem pe_is (T : ExK X.K C B newId initId bmB) (hg : Gl X "isinstance") (hm : X.mg "isinstance" = none) (hx : PE X (.Name x p1) (tVar i)) (hc : PE X ce (tC c)) (cl : ClsV c cv)
    (hk : PySem.W.kitOne X.K (.ref C) cv = some b) (he1 : starEach [.Name x p1, ce] X.env = (false, eval (.Name x p1) X.env) :: starEach [ce] X.env := by rfl)
    (he2 : starEach [ce] X.env = (false, eval ce X.env) :: starEach [] X.env := by rfl)
    (hpl : (backTo pos (starEach [ce] X.env)).any (·.1) = false := by rfl) : PE X (.Call (.Name "isinstance" p) [.Name x p1, ce] [] pos) (tIs i a C b) := by
  constructor
  intro pins s σ H Q I h
  obtain ⟨h1, h2, h3⟩ := h
  exact (pe_callB (call_isK T) hg hm PyProof.Rows.boot_isinstance (pa_cons hx (pa_cons hc pa_nil he2) he1) (by decide) (by decide) he1 hpl).run pins s σ H Q I ⟨_, h1, a, c, cv, b, rfl, h2, cl, hk, h3⟩
end
/-- C(), C an own exception class without __init__ -/
theorem pe_mk0 {X : Cx} {C : Addr} {B newId initId : String} {bmB : List Value} {x : Str} {p pos : Pos} (F : ExcBaseFacts B newId initId bmB) (q : PySem.W.excIn X.K C bmB newId = true)
    (gC : X.mg x = some (.ref C)) (kC : PySem.W.keepIn X.K (.ref C) = true) (hg : Gl X x) (hdb : (x == ("__debug__" : Str)) = false := by decide) :
    PE X (.Call (.Name x p) [] [] pos) (fun σ H Q => ∀ a, H a = none → Q (.ref a) (upd H a (exo a C none))) := by
  constructor
  intro pins s σ H Q I h
  refine wpAny_Call_Name_kw (ld_glob I hg gC ?_ hdb)
  refine PySem.W.callWith_K0 I.kIn kC ?_
  show wpAny _ _ (call (.ref C) []) _ _ _
  obtain ⟨bm, N, nm, qn, bs, hdct, sn, sub, ab, col, dd, k0, k1, k2, k3, k5, mN, hC, hN, hni, T⟩ := exc_obj I.kIn q
  refine wpAny_call_exc_subT F T hC hN hni (fun h' a hm => ?_) (by show 0 ≤ sizeLine; exact Nat.zero_le _)
  have hn : H a = none := I.hok.gone hm.new
  obtain ⟨t, ht, _, _⟩ := hm.there
  exact ⟨.ref a, upd H a (exo a C none), I.laidN hm.keeps hm.new hn (exo_ok ht), rfl, h a hn⟩
end Hx

namespace Wp
open PySem PySem.Spec PyProof.Rows L2 Hx
/-! ### what values are -/
/-- no integer: of another class, or True, False -/
def NotInt (K : PySem.W.Frag) (H : Hp) (v : V) : Prop := ∃ t bi bb, TyX K H v t ∧ PySem.W.kitOne K t (.type "int") = some bi ∧ PySem.W.kitOne K t (.type "bool") = some bb ∧ (bi && !bb) = false
def NotStr (K : PySem.W.Frag) (H : Hp) (v : V) : Prop := ∃ t, TyX K H v t ∧ PySem.W.kitOne K t (.type "str") = some false
def letterB (c : Nat) : Bool := decide (97 ≤ c ∧ c ≤ 122)
/-- a text of one letter to m -/
def lettered (m : Int) (x : Str) : Bool := decide (1 ≤ (x.length : Int)) && (decide ((x.length : Int) ≤ m) && x.cps.toList.all letterB)
def abc : Str := "abcdefghijklmnopqrstuvwxyz"
theorem abc_list : abc.cps.toList = [97, 98, 99, 100, 101, 102, 103, 104, 105, 106, 107, 108, 109, 110, 111, 112, 113, 114, 115, 116, 117, 118, 119, 120, 121, 122] := by decide +kernel
theorem is_letter {c : Nat} : decide (c ∈ abc.cps.toList) = letterB c := by
  rw [abc_list]
  unfold letterB
  rw [Bool.eq_iff_iff, decide_eq_true_eq, decide_eq_true_eq]
  simp only [List.mem_cons, List.not_mem_nil, or_false]
  omega
def noNames : List Str := ["weave", "part", "drop", "lead", "turn"]
structure Consts (mg : Str → Option Value) (K : PySem.W.Frag) : Prop where
  letters : ∃ t, mg "LETTERS" = some (.str abc t)
  most : ∃ t, mg "MOST_LETTERS" = some (.int 8 t)
  signs : ∃ t, mg "MOST_SIGNS" = some (.int 4 t)
  base : ∃ t, mg "MOST_BASE" = some (.int 4 t)
  least : ∃ t, mg "LEAST_BASE" = some (.int 2 t)
  drop : ∃ t, mg "MOST_DROP" = some (.int 9 t)
  no : ∃ p, mg "NO_NAMES" = some (.ref p) ∧ ∀ H, SqT K H p (noNames.map V.str)
structure Bltn (mg : Str → Option Value) : Prop where
  isinstance : mg "isinstance" = none
  int : mg "int" = none
  bool : mg "bool" = none
  str : mg "str" = none
  len : mg "len" = none
  all : mg "all" = none
def spIsInt (K : PySem.W.Frag) : Sp := fun vs H Q _ => ∃ v, vs = [v] ∧ ((∃ i, v = .int i ∧ Q (.bl true) H) ∨ (NotInt K H v ∧ Q (.bl false) H))
def spWithin (K : PySem.W.Frag) : Sp := fun vs H Q _ => ∃ (v : V) (l m : Int), vs = [v, .int l, .int m] ∧ ((∃ i, v = .int i ∧ Q (.bl (decide (l ≤ i) && decide (i ≤ m))) H) ∨ (NotInt K H v ∧ Q (.bl false) H))
def spLettered (K : PySem.W.Frag) : Sp := fun vs H Q _ => ∃ (v : V) (m : Int), vs = [v, .int m] ∧ m ≤ 1000 ∧ ((∃ x : Str, v = .str x ∧ x.length ≤ 100000 ∧ ∀ H', Same H H' → Q (.bl (lettered m x)) H') ∨ (NotStr K H v ∧ Q (.bl false) H))
section
variable {P : Program} {w : World} {K : PySem.W.Frag} {mg : Str → Option Value} {base : Heap} {f fI fW fL fN : Addr} {fd fdI fdW fdL fdN : FuncData}
theorem scIsInt : FnScope ["value"] ["value"] (defScope s_is_integer) := ⟨rfl, rfl, rfl, by decide +kernel, rfl, by decide +kernel, by decide +kernel⟩
theorem ok_isint (F : Fun K "is_integer" "is_integer" s_is_integer f fd) (Z : Bltn mg) : FnOk P w K mg base CX0 1 f fd ["value"] (spIsInt K) := by
  refine F.ok scIsInt (fun vs H Q E h => ?_) (fun cdv A outer s H vs Q E hr h => ?_)
  · obtain ⟨v, rfl, _⟩ := h
    rfl
  obtain ⟨v, rfl, h⟩ := h
  refine ⟨_, pss_one (ps_ret (pe_and (pe_callB call_isi (by rfl) Z.isinstance PyProof.Rows.boot_isinstance (pa_cons (pv 0) (pa_cons (pe_bty (T := "int") rfl Z.int (by decide +kernel)) pa_nil)))
    (pe_one (pe_not (pe_callB call_isi (by rfl) Z.isinstance PyProof.Rows.boot_isinstance (pa_cons (pv 0) (pa_cons (pe_bty (T := "bool") rfl Z.bool (by decide +kernel)) pa_nil))))))), ?_⟩
  rcases h with ⟨i, rfl, q⟩ | ⟨⟨t, bi, bb, ty, k1, k2, e⟩, q⟩
  · refine ⟨_, rfl, _, _, .type "int", _, true, rfl, .ty "int", .base (.int i), kit_ty (by decide +kernel), _, rfl, iteT ?_⟩
    exact ⟨_, rfl, _, _, .type "int", _, false, rfl, .ty "bool", .base (.int i), kit_ty (by decide +kernel), _, rfl, q⟩
  · refine ⟨_, rfl, _, _, t, _, bi, rfl, .ty "int", ty, k1, _, rfl, ?_⟩
    cases bi with
    | false => exact iteF q
    | true =>
      refine iteT ⟨_, rfl, _, _, t, _, bb, rfl, .ty "bool", ty, k2, _, rfl, ?_⟩
      cases bb with
      | true => exact q
      | false => cases e
theorem scWithin : FnScope ["value", "least", "most"] ["value", "least", "most"] (defScope s_is_within) := ⟨rfl, rfl, rfl, by decide +kernel, rfl, by decide +kernel, by decide +kernel⟩
theorem ok_within (F : Fun K "is_within" "is_within" s_is_within f fd) (GI : FnOk P w K mg base CX0 1 fI fdI ["value"] (spIsInt K)) (bI : Binds K fdI ["value"] []) (kI : PySem.W.keepIn K (.ref fI) = true) (mI : mg "is_integer" = some (.ref fI)) :
    FnOk P w K mg base CX0 2 f fd ["value", "least", "most"] (spWithin K) := by
  refine F.ok scWithin (fun vs H Q E h => ?_) (fun cdv A outer s H vs Q E hr h => ?_)
  · obtain ⟨v, l, m, rfl, _⟩ := h
    rfl
  obtain ⟨v, l, m, rfl, h⟩ := h
  refine ⟨_, pss_one (ps_ret (pe_and (pe_call GI hr rfl mI kI bI .nil pass0 (pa_cons (pv 0) pa_nil)) (pe_one (pe_chain op_le op_le (pv 1) (pv 0) (pv 2))))), ?_⟩
  rcases h with ⟨i, rfl, q⟩ | ⟨n, q⟩
  · refine ⟨_, rfl, _, rfl, .inl ⟨i, rfl, _, rfl, iteT ?_⟩⟩
    refine ⟨_, rfl, _, rfl, _, _, rfl, rfl, _, rfl, ?_⟩
    by_cases c : l ≤ i
    · rw [decide_eq_true c] at q ⊢
      exact iteT ⟨_, rfl, _, _, rfl, rfl, q⟩
    · rw [decide_eq_false c] at q ⊢
      exact iteF q
  · exact ⟨_, rfl, _, rfl, .inr ⟨n, _, rfl, iteF q⟩⟩
theorem scLettered : FnScope ["value", "most", "letter"] ["value", "most"] (defScope s_is_lettered) := ⟨rfl, rfl, rfl, by decide +kernel, rfl, by decide +kernel, by decide +kernel⟩
theorem ok_lettered (F : Fun K "is_lettered" "is_lettered" s_is_lettered f fd) (Z : Bltn mg) (C : Consts mg K) : FnOk P w K mg base CX0 1 f fd ["value", "most"] (spLettered K) := by
  refine F.ok scLettered (fun vs H Q E h => ?_) (fun cdv A outer s H vs Q E hr h => ?_)
  · obtain ⟨v, m, rfl, _⟩ := h
    rfl
  obtain ⟨v, m, rfl, m1, h⟩ := h
  obtain ⟨tl, ml⟩ := C.letters
  refine ⟨_, pss_cons (ps_if (PW.pt (pw_or (pt_not (pt_val (pe_callB call_isi (by rfl) Z.isinstance PyProof.Rows.boot_isinstance (pa_cons (pv 0) (pa_cons (pe_bty (T := "str") rfl Z.str (by decide +kernel)) pa_nil)))))
      (pw_or1 (pt_not (pt_chain op_le op_le pe_int (pe_callB call_len_str (by rfl) Z.len PySem.boot_len (pa_cons (pv 0) pa_nil)) (pv 1)))))) (pss_one (ps_ret pe_bl)) pss_nil)
    (pss_one (ps_ret (pe_callB (cr_all rfl) (by rfl) Z.all PyProof.Rows.boot_all (pa_cons (pe_lc (own := [("letter", 2)]) (g := gName 2) (tt := tYes) rfl scLettered.nd (pi_str (pv 0))
      (blkOk_by (N := ["value", "most", "letter"]) (sc := defScope s_is_lettered) (by decide +kernel)) (fun _ _ _ _ _ => pg_name (i := 2) scLettered.nd rfl (Or.inl rfl)) (fun _ _ _ _ _ => pts_nil)
      (fun _ _ _ _ _ => pe_cmpR op_in_sign (pv 2) (pe_glob (v := .str abc) rfl ml ⟨_, rfl⟩) (by rfl))) pa_nil)))), ?_⟩
  rcases h with ⟨x, rfl, few, q⟩ | ⟨⟨t, ty, k1⟩, q⟩
  · have small : x.length ≤ sizeLine := Nat.le_trans few (by decide)
    refine ⟨_, rfl, _, _, .type "str", _, true, rfl, .ty "str", .base (.str x), kit_ty (by decide +kernel), _, rfl, iteF ?_⟩
    refine ⟨_, rfl, x, rfl, small, _, _, rfl, rfl, _, rfl, ?_⟩
    by_cases c1 : (1 : Int) ≤ (x.length : Int)
    · rw [decide_eq_true c1]
      refine iteT ⟨_, rfl, _, _, rfl, rfl, _, rfl, ?_⟩
      by_cases c2 : (x.length : Int) ≤ m
      · have el : lettered m x = x.cps.toList.all letterB := by
          unfold lettered
          rw [decide_eq_true c1, decide_eq_true c2, Bool.true_and, Bool.true_and]
        rw [el] at q
        rw [decide_eq_true c2]
        refine iteF ?_
        refine ⟨_, rfl, x, rfl, fun D hD => ?_⟩
        refine L2.lc_it L2.walk_str (fun i H' => Same H H' ∧ H' D = some (.lst (((x.cps.toList.take i).map letterB).map V.bl))) ⟨same_new hD _, upd_same⟩ (fun _ _ _ _ => trivial) ?_ ?_
        · rintro i _ H1 _ hi ⟨s1, h1⟩ ⟨rfl, c, hc, rfl⟩
          refine ⟨rfl, turn_yes ⟨_, rfl, c, abc, rfl, rfl, ?_⟩⟩
          have hc2 : x.cps.toList[i]? = some c := by rw [Array.getElem?_toList]; exact hc
          refine ⟨_, h1, ?_, fun b o hb => ?_, ?_⟩
          · rw [List.length_map, List.length_map, List.length_take]
            exact Nat.lt_of_le_of_lt (Nat.le_trans (Nat.min_le_right _ _) few) (by decide)
          · rw [upd_ne (ne_of_none hb hD)]
            exact s1 b o hb
          · rw [upd_same, is_letter, List.take_add_one, hc2, List.map_append, List.map_append]
            rfl
        · rintro H1 ⟨s1, h1⟩
          rw [List.take_of_length_le (by rw [Array.length_toList]; exact Nat.le_refl _)] at h1
          refine ⟨D, _, rfl, SqL.of h1, ?_⟩
          rw [List.all_map]
          exact q H1 s1
      · have el : lettered m x = false := by
          unfold lettered
          rw [decide_eq_false c2, Bool.false_and, Bool.and_false]
        rw [el] at q
        rw [decide_eq_false c2]
        exact iteT (q H (Same.refl H))
    · have el : lettered m x = false := by
        unfold lettered
        rw [decide_eq_false c1, Bool.false_and]
      rw [el] at q
      rw [decide_eq_false c1]
      exact iteF ⟨_, rfl, iteT (q H (Same.refl H))⟩
  · exact ⟨_, rfl, _, _, t, _, false, rfl, .ty "str", ty, k1, _, rfl, iteT (iteT q)⟩
end
end Wp

namespace Hx
open PySem PySem.Spec PyProof.Rows L2
/-- at a stands an exception of the class at C with these fields -/
def EAt (H : Hp) (a C : Addr) (fs : List (Str × V)) : Prop := ∃ d, H a = some (exo a C (some d)) ∧ H d = some (exd d fs)
theorem EAt.same {H H' : Hp} {a C : Addr} {fs : List (Str × V)} (h : EAt H a C fs) (s : Same H H') : EAt H' a C fs := by
  obtain ⟨d, h1, h2⟩ := h
  exact ⟨d, s _ _ h1, s _ _ h2⟩
theorem EAt.x {H : Hp} {a C : Addr} {fs : List (Str × V)} (h : EAt H a C fs) : XAt H a C := by
  obtain ⟨d, h1, h2⟩ := h
  refine ⟨some d, h1, fun x hx => ?_⟩
  cases hx
  exact ⟨fs, h2⟩
/-- an own exception class x at C whose __init__ keeps its one parameter f -/
structure MkC (P : Program) (w : World) (K : PySem.W.Frag) (mg : Str → Option Value) (base : Heap) (x : Str) (C : Addr) (f : Str) : Prop where
  go : ∃ (fI : Addr) (fd : FuncData) (B newId initId : String) (bmB : List Value), ExK K C B newId initId bmB ∧ PySem.W.findIn K (.ref C) "__init__" = some (some (.ref fI)) ∧
    PySem.W.typeIn K (.ref fI) = some (.type "function") ∧ FnOk P w K mg base CX0 1 fI fd ["self", f] (spIn1 C f) ∧ Binds K fd ["self", f] [] ∧
    ∀ (s : Shared) (self w1 : Value), BindsTo s fd ⟨[self], [(f, w1)]⟩ [("self", self), (f, w1)]
  m : mg x = some (.ref C)
  no : PySem.W.findIn K (.ref C) f = some none
structure MkC2 (P : Program) (w : World) (K : PySem.W.Frag) (mg : Str → Option Value) (base : Heap) (x : Str) (C : Addr) (f g : Str) : Prop where
  go : ∃ (fI : Addr) (fd : FuncData) (B newId initId : String) (bmB : List Value), ExK K C B newId initId bmB ∧ PySem.W.findIn K (.ref C) "__init__" = some (some (.ref fI)) ∧
    PySem.W.typeIn K (.ref fI) = some (.type "function") ∧ FnOk P w K mg base CX0 1 fI fd ["self", f, g] (spIn2 C f g) ∧ Binds K fd ["self", f, g] [] ∧
    ∀ (s : Shared) (self w1 w2 : Value), BindsTo s fd ⟨[self], [(g, w2), (f, w1)]⟩ [("self", self), (f, w1), (g, w2)]
  m : mg x = some (.ref C)
  no : PySem.W.findIn K (.ref C) f = some none
  no2 : PySem.W.findIn K (.ref C) g = some none
/-- X(y), y in slot i -/
def tNew (i : Nat) (C : Addr) (f : Str) : TE := fun σ H Q => ∃ v, σ[i]? = some (some v) ∧ ∀ a H', H a = none → Same H H' → EAt H' a C [(f, v)] → Q (.ref a) H'
def tNew2 (i j : Nat) (C : Addr) (f g : Str) : TE := fun σ H Q => ∃ v u, σ[i]? = some (some v) ∧ σ[j]? = some (some u) ∧ ∀ a H', H a = none → Same H H' → EAt H' a C [(g, u), (f, v)] → Q (.ref a) H'
theorem made_same {H : Hp} {a d C : Addr} {o o1 o2 : HO} (na : H a = none) (nd : upd H a o d = none) : Same H (upd (upd (upd H a o) d o1) a o2) := fun b u hb => by
  rw [upd_ne (ne_of_none hb na)]
  exact ((same_new na o).trans (same_new nd o1)) b u hb
section
variable {X : Cx} {x y z f g : Str} {C : Addr} {i j : Nat} {p py pz pos kp kq : Pos}
theorem pe_new (M : MkC X.prog X.w X.K X.mg X.base x C f) (room : Room 2 X.A) (hg : Gl X x) (hy : PE X (.Name y py) (tVar i))
    (hdb : (x == ("__debug__" : Str)) = false := by decide) (he : starEach [.Name y py] X.env = (false, eval (.Name y py) X.env) :: starEach [] X.env := by rfl)
    (hpl : (backTo pos (starEach [] X.env)).any (·.1) = false := by rfl) : PE X (.Call (.Name x p) [.Name y py] [] pos) (tNew i C f) := by
  obtain ⟨fI, fd, B, newId, initId, bmB, T, hi, tI, F, hb, _⟩ := M.go
  constructor
  intro pins s σ H Q I h
  obtain ⟨v, hv, q⟩ := h
  refine (pe_mk T hi tI F hb room hg M.m (pa_cons hy pa_nil he) hdb he hpl).run pins s σ H Q I ⟨v, hv, (by show 1 ≤ 100; decide), fun a na => ?_⟩
  refine ⟨a, v, rfl, upd_same, fun d nd ne => ⟨rfl, q a _ na (made_same (C := C) na nd) ⟨d, upd_same, ?_⟩⟩⟩
  rw [upd_ne ne]
  exact upd_same
theorem pe_newK (M : MkC X.prog X.w X.K X.mg X.base x C f) (room : Room 2 X.A) (hg : Gl X x) (hy : PE X (.Name y py) (tVar i))
    (hdb : (x == ("__debug__" : Str)) = false := by decide)
    (hall : (backToKw pos (keywordEach [⟨some f, .Name y py, kp⟩] X.env)).all (·.1.isSome) = true := by rfl)
    (hks : (backToKw pos (keywordEach [⟨some f, .Name y py, kp⟩] X.env)).filterMap (·.1) = [f] := by rfl)
    (hpl : ((backTo pos (starEach [] X.env)).any (·.1) || (backToKw pos (keywordEach [⟨some f, .Name y py, kp⟩] X.env)).any (·.1.isNone)) = false := by rfl) :
    PE X (.Call (.Name x p) [] [⟨some f, .Name y py, kp⟩] pos) (tNew i C f) := by
  obtain ⟨fI, fd, B, newId, initId, bmB, T, hi, tI, F, _, hb⟩ := M.go
  constructor
  intro pins s σ H Q I h
  obtain ⟨v, hv, q⟩ := h
  refine (pe_mkK (g := id) (gV := id) T hi tI F (fun _ _ r => r) (fun s self ws hl => ?_) room hg M.m (pk_cons hy pk_nil) (fun σ H Q ⟨v, e, q⟩ => ⟨v, e, rfl, q⟩) hall hks hdb hpl).run pins s σ H Q I ⟨v, hv, fun a na => ?_⟩
  · match ws, hl with
    | [w1], _ => exact hb s self w1
  refine ⟨a, v, rfl, upd_same, fun d nd ne => ⟨rfl, q a _ na (made_same (C := C) na nd) ⟨d, upd_same, ?_⟩⟩⟩
  rw [upd_ne ne]
  exact upd_same
theorem made_same2 {H : Hp} {a d : Addr} {o o1 o2 o3 : HO} (na : H a = none) (nd : upd H a o d = none) : Same H (upd (upd (upd (upd H a o) d o1) a o2) d o3) := fun b u hb => by
  have n : b ≠ d := ne_of_none (same_new na o b u hb) nd
  rw [upd_ne n]
  exact made_same (C := a) na nd b u hb
theorem pe_new2 (M : MkC2 X.prog X.w X.K X.mg X.base x C f g) (room : Room 2 X.A) (hg : Gl X x) (hy : PE X (.Name y py) (tVar i)) (hz : PE X (.Name z pz) (tVar j))
    (hdb : (x == ("__debug__" : Str)) = false := by decide) (he : starEach [.Name y py, .Name z pz] X.env = (false, eval (.Name y py) X.env) :: starEach [.Name z pz] X.env := by rfl)
    (he2 : starEach [.Name z pz] X.env = (false, eval (.Name z pz) X.env) :: starEach [] X.env := by rfl)
    (hpl : (backTo pos (starEach [.Name z pz] X.env)).any (·.1) = false := by rfl) : PE X (.Call (.Name x p) [.Name y py, .Name z pz] [] pos) (tNew2 i j C f g) := by
  obtain ⟨fI, fd, B, newId, initId, bmB, T, hi, tI, F, hb, _⟩ := M.go
  constructor
  intro pins s σ H Q I h
  obtain ⟨v, u, hv, hu, q⟩ := h
  refine (pe_mk T hi tI F hb room hg M.m (pa_cons hy (pa_cons hz pa_nil he2) he) hdb he hpl).run pins s σ H Q I ⟨v, hv, u, hu, (by show 2 ≤ 100; decide), fun a na => ?_⟩
  refine ⟨a, v, u, rfl, upd_same, fun d nd ne => ⟨rfl, q a _ na (made_same2 na nd) ⟨d, ?_, upd_same⟩⟩⟩
  rw [upd_ne (Ne.symm ne)]
  exact upd_same
/-- X(g = z, f = y) -/
theorem pe_new2K (M : MkC2 X.prog X.w X.K X.mg X.base x C f g) (room : Room 2 X.A) (hg : Gl X x) (hy : PE X (.Name y py) (tVar i)) (hz : PE X (.Name z pz) (tVar j))
    (hdb : (x == ("__debug__" : Str)) = false := by decide)
    (hall : (backToKw pos (keywordEach [⟨some g, .Name z pz, kp⟩, ⟨some f, .Name y py, kq⟩] X.env)).all (·.1.isSome) = true := by rfl)
    (hks : (backToKw pos (keywordEach [⟨some g, .Name z pz, kp⟩, ⟨some f, .Name y py, kq⟩] X.env)).filterMap (·.1) = [g, f] := by rfl)
    (hpl : ((backTo pos (starEach [] X.env)).any (·.1) || (backToKw pos (keywordEach [⟨some g, .Name z pz, kp⟩, ⟨some f, .Name y py, kq⟩] X.env)).any (·.1.isNone)) = false := by rfl) :
    PE X (.Call (.Name x p) [] [⟨some g, .Name z pz, kp⟩, ⟨some f, .Name y py, kq⟩] pos) (tNew2 i j C f g) := by
  obtain ⟨fI, fd, B, newId, initId, bmB, T, hi, tI, F, _, hb⟩ := M.go
  constructor
  intro pins s σ H Q I h
  obtain ⟨v, u, hv, hu, q⟩ := h
  refine (pe_mkK (g := List.reverse) (gV := List.reverse) T hi tI F (fun _ _ r => r.reverse) (fun s self ws hl => ?_) room hg M.m (pk_cons hz (pk_cons hy pk_nil))
    (fun σ H Q ⟨v, e, u, e2, q⟩ => ⟨v, e, u, e2, rfl, q⟩) hall hks hdb hpl).run pins s σ H Q I ⟨u, hu, v, hv, fun a na => ?_⟩
  · match ws, hl with
    | [w2, w1], _ => exact hb s self w1 w2
  refine ⟨a, v, u, rfl, upd_same, fun d nd ne => ⟨rfl, q a _ na (made_same2 na nd) ⟨d, ?_, upd_same⟩⟩⟩
  rw [upd_ne (Ne.symm ne)]
  exact upd_same
/-- o.f, o an exception of some class that is told where it is read -/
def tGetA (K : PySem.W.Frag) (f : Str) (to : TE) : TE := fun σ H Q => to σ H fun x H1 => ∃ (a C : Addr) (fs : List (Str × V)) (v : V), x = .ref a ∧ EAt H1 a C fs ∧
  (∃ B newId initId bmB, ExK K C B newId initId bmB) ∧ PySem.W.findIn K (.ref C) f = some none ∧ fs.lookup f = some v ∧ Q v H1
theorem pe_getA {o : Expr} {to : TE} (ho : PE X o to) (hb : attributeBase o f X.env (eval o X.env) = eval o X.env := by rfl) : PE X (.Attribute o f pos) (tGetA X.K f to) := by
  constructor
  intro pins s σ H Q I h
  refine attr_of hb (thn (ho.run pins s σ H _ I h) ?_)
  rintro u s1 ⟨x, H1, J, r, a, C, fs, v, ex, ⟨d, ea, ed⟩, ⟨B, newId, initId, bmB, T⟩, hno, hv, q⟩
  subst ex
  cases (show u = Value.ref a from r)
  obtain ⟨t1, hobj⟩ := exo_at J.hok ea
  obtain ⟨mA, ns, rel⟩ := exd_at J.hok ed
  have rv := rel f
  rw [hv] at rv
  obtain ⟨u', hu, ru⟩ := RelO.some_of rv
  obtain ⟨od, hod, look⟩ := lookIn_ns ns
  have inst : PySem.W.InstAt s1.heap a { cls := .ref C, dict := some d, data := .fields #[.ref t1, .none, .none, .none, .bool false, .none] } C (some od) := ⟨hobj, rfl, rfl, hod⟩
  exact PySem.PX.exc_get J.kIn inst T.ga T.gt T.sub (PySem.W.findObj_own T.dct hno rfl (by rw [look, hu])) (handed_of ru) ⟨v, H1, J.tok _, ru, q⟩
end
end Hx

namespace Hx
open PySem PySem.Spec PyProof.Rows L2
theorem made_gone {H : Hp} {a d : Addr} {o1 o2 o3 o4 : HO} (na : H a = none) : upd (del (upd (upd (upd H a o1) d o2) a o3) a) d o4 = upd H d o4 := by
  funext b
  by_cases h : b = d
  · rw [h, upd_same, upd_same]
  · rw [upd_ne h, upd_ne h]
    by_cases k : b = a
    · rw [k, del_same, na]
    · rw [del_ne k, upd_ne k, upd_ne h, upd_ne k]
/-- raise C(y), C an own class that keeps its one parameter as f -/
def tRaise1 (i : Nat) (C : Addr) (f : Str) (W : WX) : TS := fun _ σ H => ∃ v, σ[i]? = some (some v) ∧ ∀ d, H d = none → W (.ref C) (some d) σ (upd H d (.xd [(f, v)]))
theorem ps_raise1 {X : Cx} {W : WX} {x y f : Str} {C : Addr} {i : Nat} {p py pos pos2 : Pos} (M : MkC X.prog X.w X.K X.mg X.base x C f) (ty : PySem.W.typeIn X.K (.ref C) = some (.type "type")) (hc : X.calm = true) (tk : Takes X W) (room : Room 2 X.A)
    (hg : Gl X x) (hy : PE X (.Name y py) (tVar i)) (hdb : (x == ("__debug__" : Str)) = false := by decide) (he : starEach [.Name y py] X.env = (false, eval (.Name y py) X.env) :: starEach [] X.env := by rfl)
    (hpl : (backTo pos (starEach [] X.env)).any (·.1) = false := by rfl) : PS X (.Raise (some (.Call (.Name x p) [.Name y py] [] pos)) none pos2) (tRaise1 i C f W) := by
  obtain ⟨fI, fd, B, newId, initId, bmB, T, hi, tI, F, hb, _⟩ := M.go
  constructor
  intro pins s σ H D I h
  obtain ⟨v, hv, q⟩ := h
  refine (ps_raise hc tk (pmk_own2 T ty hi tI F room hb hg M.m (pa_cons hy pa_nil he) hdb he hpl)).run pins s σ H D I ⟨v, hv, (by show 1 ≤ 1000; decide), fun a na => ⟨a, v, rfl, upd_same, fun d nd ne => ⟨rfl, d, [(f, v)], upd_same, ?_, ?_, ?_⟩⟩⟩
  · rw [upd_ne ne]
    exact upd_same
  · rw [upd_ne ne] at nd
    exact nd
  · rw [made_gone na]
    rw [upd_ne ne] at nd
    exact q d nd
end Hx

namespace Wp
open PySem PySem.Spec PyProof.Rows L2 Hx
def nameB (x : Str) : Bool := lettered 8 x && !inV (.str x) (noNames.map V.str)
def spName (K : PySem.W.Frag) : Sp := fun vs H Q _ => ∃ v, vs = [v] ∧ ((∃ x : Str, v = .str x ∧ x.length ≤ 100000 ∧ ∀ H', Same H H' → Q (.bl (nameB x)) H') ∨ (NotStr K H v ∧ Q (.bl false) H))
/-- an error that tells v -/
def Tells (E : XK) (C : Addr) (v : V) (H : Hp) : Prop := ∀ H' d, Same H H' → H' d = none → E (.ref C) (some d) (upd H' d (.xd [("given", v)]))
/-- a check: the value is as g says, or the error of the class at C -/
def spCheck (K : PySem.W.Frag) (g : Str → Bool) (C : Addr) : Sp := fun vs H Q E => ∃ v, vs = [v] ∧ ((∃ x : Str, v = .str x ∧ x.length ≤ 100000 ∧ g x = true ∧ ∀ H', Same H H' → Q .non H') ∨
  (((∃ x : Str, v = .str x ∧ x.length ≤ 100000 ∧ g x = false) ∨ NotStr K H v) ∧ Tells E C v H))
def spCheckWithin (K : PySem.W.Frag) (C : Addr) : Sp := fun vs H Q E => ∃ (v : V) (l m : Int), vs = [v, .int l, .int m] ∧ ((∃ i, v = .int i ∧ l ≤ i ∧ i ≤ m ∧ Q .non H) ∨
  (((∃ i, v = .int i ∧ ¬ (l ≤ i ∧ i ≤ m)) ∨ NotInt K H v) ∧ Tells E C v H))
section
variable {P : Program} {w : World} {K : PySem.W.Frag} {mg : Str → Option Value} {base : Heap} {f fI fW fL fN C : Addr} {fd fdI fdW fdL fdN : FuncData}
theorem scName : FnScope ["value"] ["value"] (defScope s_is_name) := ⟨rfl, rfl, rfl, by decide +kernel, rfl, by decide +kernel, by decide +kernel⟩
theorem ok_name (F : Fun K "is_name" "is_name" s_is_name f fd) (CO : Consts mg K) (GL : FnOk P w K mg base CX0 1 fL fdL ["value", "most"] (spLettered K)) (bL : Binds K fdL ["value", "most"] []) (kL : PySem.W.keepIn K (.ref fL) = true) (mL : mg "is_lettered" = some (.ref fL)) :
    FnOk P w K mg base CX0 2 f fd ["value"] (spName K) := by
  refine F.ok scName (fun vs H Q E h => ?_) (fun cdv A outer s H vs Q E hr h => ?_)
  · obtain ⟨v, rfl, _⟩ := h
    rfl
  obtain ⟨v, rfl, h⟩ := h
  obtain ⟨tm, mm⟩ := CO.most
  obtain ⟨p, mp, hp⟩ := CO.no
  refine ⟨_, pss_one (ps_ret (pe_and (pe_call GL hr rfl mL kL bL .nil pass0 (pa_cons (pv 0) (pa_cons (pe_gint rfl mm) pa_nil)))
    (pe_one (pe_cmpR op_notIn_seq (pv 0) (pe_gref rfl mp) (by rfl))))), ?_⟩
  rcases h with ⟨x, rfl, few, q⟩ | ⟨n, q⟩
  · refine ⟨_, rfl, _, 8, rfl, by decide, .inl ⟨x, rfl, few, fun H' s' => ⟨_, rfl, ?_⟩⟩⟩
    have q2 := q H' s'
    unfold nameB at q2
    cases e : lettered 8 x with
    | false =>
      rw [e] at q2
      exact iteF q2
    | true =>
      rw [e] at q2
      exact iteT ⟨_, rfl, p, _, rfl, .inr (hp H'), rfl, by decide +kernel, q2⟩
  · exact ⟨_, rfl, _, 8, rfl, by decide, .inr ⟨n, _, rfl, iteF q⟩⟩
theorem scCkW : FnScope ["given", "least", "most"] ["given", "least", "most"] (defScope s_check_within) := ⟨rfl, rfl, rfl, by decide +kernel, rfl, by decide +kernel, by decide +kernel⟩
theorem ok_ckW (F : Fun K "check_within" "check_within" s_check_within f fd) (M : MkC P w K mg base "InvalidNumber" C "given") (ty : PySem.W.typeIn K (.ref C) = some (.type "type"))
    (GW : FnOk P w K mg base CX0 2 fW fdW ["value", "least", "most"] (spWithin K)) (bW : Binds K fdW ["value", "least", "most"] []) (kW : PySem.W.keepIn K (.ref fW) = true) (mW : mg "is_within" = some (.ref fW)) :
    FnOk P w K mg base (L2.CX P w) 3 f fd ["given", "least", "most"] (spCheckWithin K C) := by
  refine F.okX scCkW (fun vs H Q E h => ?_) (fun cdv A outer s H vs Q E hr h => ?_)
  · obtain ⟨v, l, m, rfl, _⟩ := h
    rfl
  obtain ⟨v, l, m, rfl, h⟩ := h
  refine ⟨_, pss_one (ps_if (pt_not (pt_val (pe_call GW hr rfl mW kW bW .nil pass0 (pa_cons (pv 0) (pa_cons (pv 1) (pa_cons (pv 2) pa_nil)))))) (pss_one (ps_raise1 M ty rfl (takes_of rfl rfl rfl rfl) hr rfl (pv 0))) pss_nil), ?_⟩
  rcases h with ⟨i, rfl, h1, h2, q⟩ | ⟨⟨i, rfl, n⟩ | n, t⟩
  · refine ⟨_, rfl, _, rfl, _, rfl, _, l, m, rfl, .inl ⟨i, rfl, _, rfl, ?_⟩⟩
    rw [decide_eq_true h1, decide_eq_true h2]
    exact iteF q
  · refine ⟨_, rfl, _, rfl, _, rfl, _, l, m, rfl, .inl ⟨i, rfl, _, rfl, ?_⟩⟩
    have e : (decide (l ≤ i) && decide (i ≤ m)) = false := by
      rw [Bool.eq_false_iff]
      intro z
      obtain ⟨z1, z2⟩ := Bool.and_eq_true_iff.mp z
      exact n ⟨of_decide_eq_true z1, of_decide_eq_true z2⟩
    rw [e]
    exact iteT ⟨_, rfl, fun d hd => t H d (Same.refl H) hd⟩
  · exact ⟨_, rfl, _, rfl, _, rfl, _, l, m, rfl, .inr ⟨n, _, rfl, iteT ⟨_, rfl, fun d hd => t H d (Same.refl H) hd⟩⟩⟩
theorem scCkS : FnScope ["given"] ["given"] (defScope s_check_sign) := ⟨rfl, rfl, rfl, by decide +kernel, rfl, by decide +kernel, by decide +kernel⟩
theorem ok_check_sign (F : Fun K "check_sign" "check_sign" s_check_sign f fd) (M : MkC P w K mg base "InvalidSign" C "given") (ty : PySem.W.typeIn K (.ref C) = some (.type "type"))
    (GL : FnOk P w K mg base CX0 1 fL fdL ["value", "most"] (spLettered K)) (bL : Binds K fdL ["value", "most"] []) (kL : PySem.W.keepIn K (.ref fL) = true) (mL : mg "is_lettered" = some (.ref fL)) :
    FnOk P w K mg base (L2.CX P w) 3 f fd ["given"] (spCheck K (lettered 1) C) := by
  refine F.okX scCkS (fun vs H Q E h => ?_) (fun cdv A outer s H vs Q E hr h => ?_)
  · obtain ⟨v, rfl, _⟩ := h
    rfl
  obtain ⟨v, rfl, h⟩ := h
  refine ⟨_, pss_one (ps_if (pt_not (pt_val (pe_call GL (hr.mono (by decide)) rfl mL kL bL .nil pass0 (pa_cons (pv 0) (pa_cons pe_int pa_nil))))) (pss_one (ps_raise1 M ty rfl (takes_of rfl rfl rfl rfl) hr rfl (pv 0))) pss_nil), ?_⟩
  rcases h with ⟨x, rfl, few, e, q⟩ | ⟨⟨x, rfl, few, e⟩ | n, t⟩
  · refine ⟨_, rfl, _, 1, rfl, by decide, .inl ⟨x, rfl, few, fun H' s' => ⟨_, rfl, ?_⟩⟩⟩
    rw [e]
    exact iteF (q H' s')
  · refine ⟨_, rfl, _, 1, rfl, by decide, .inl ⟨x, rfl, few, fun H' s' => ⟨_, rfl, ?_⟩⟩⟩
    rw [e]
    exact iteT ⟨_, rfl, fun d hd => t H' d s' hd⟩
  · exact ⟨_, rfl, _, 1, rfl, by decide, .inr ⟨n, _, rfl, iteT ⟨_, rfl, fun d hd => t H d (Same.refl H) hd⟩⟩⟩
theorem scCkN : FnScope ["given"] ["given"] (defScope s_check_name) := ⟨rfl, rfl, rfl, by decide +kernel, rfl, by decide +kernel, by decide +kernel⟩
theorem ok_check_name (F : Fun K "check_name" "check_name" s_check_name f fd) (M : MkC P w K mg base "InvalidName" C "given") (ty : PySem.W.typeIn K (.ref C) = some (.type "type"))
    (GL : FnOk P w K mg base CX0 2 fL fdL ["value"] (spName K)) (bL : Binds K fdL ["value"] []) (kL : PySem.W.keepIn K (.ref fL) = true) (mL : mg "is_name" = some (.ref fL)) :
    FnOk P w K mg base (L2.CX P w) 3 f fd ["given"] (spCheck K nameB C) := by
  refine F.okX scCkN (fun vs H Q E h => ?_) (fun cdv A outer s H vs Q E hr h => ?_)
  · obtain ⟨v, rfl, _⟩ := h
    rfl
  obtain ⟨v, rfl, h⟩ := h
  refine ⟨_, pss_one (ps_if (pt_not (pt_val (pe_call GL hr rfl mL kL bL .nil pass0 (pa_cons (pv 0) pa_nil)))) (pss_one (ps_raise1 M ty rfl (takes_of rfl rfl rfl rfl) hr rfl (pv 0))) pss_nil), ?_⟩
  rcases h with ⟨x, rfl, few, e, q⟩ | ⟨⟨x, rfl, few, e⟩ | n, t⟩
  · refine ⟨_, rfl, _, rfl, .inl ⟨x, rfl, few, fun H' s' => ⟨_, rfl, ?_⟩⟩⟩
    rw [e]
    exact iteF (q H' s')
  · refine ⟨_, rfl, _, rfl, .inl ⟨x, rfl, few, fun H' s' => ⟨_, rfl, ?_⟩⟩⟩
    rw [e]
    exact iteT ⟨_, rfl, fun d hd => t H' d s' hd⟩
  · exact ⟨_, rfl, _, rfl, .inr ⟨n, _, rfl, iteT ⟨_, rfl, fun d hd => t H d (Same.refl H) hd⟩⟩⟩
theorem scCkWd : FnScope ["given"] ["given"] (defScope s_check_word) := ⟨rfl, rfl, rfl, by decide +kernel, rfl, by decide +kernel, by decide +kernel⟩
theorem ok_check_word (F : Fun K "check_word" "check_word" s_check_word f fd) (M : MkC P w K mg base "InvalidWord" C "given") (ty : PySem.W.typeIn K (.ref C) = some (.type "type")) (CO : Consts mg K)
    (GL : FnOk P w K mg base CX0 1 fL fdL ["value", "most"] (spLettered K)) (bL : Binds K fdL ["value", "most"] []) (kL : PySem.W.keepIn K (.ref fL) = true) (mL : mg "is_lettered" = some (.ref fL)) :
    FnOk P w K mg base (L2.CX P w) 3 f fd ["given"] (spCheck K (lettered 4) C) := by
  refine F.okX scCkWd (fun vs H Q E h => ?_) (fun cdv A outer s H vs Q E hr h => ?_)
  · obtain ⟨v, rfl, _⟩ := h
    rfl
  obtain ⟨v, rfl, h⟩ := h
  obtain ⟨tm, ms⟩ := CO.signs
  refine ⟨_, pss_one (ps_if (pt_not (pt_val (pe_call GL (hr.mono (by decide)) rfl mL kL bL .nil pass0 (pa_cons (pv 0) (pa_cons (pe_gint rfl ms) pa_nil))))) (pss_one (ps_raise1 M ty rfl (takes_of rfl rfl rfl rfl) hr rfl (pv 0))) pss_nil), ?_⟩
  rcases h with ⟨x, rfl, few, e, q⟩ | ⟨⟨x, rfl, few, e⟩ | n, t⟩
  · refine ⟨_, rfl, _, 4, rfl, by decide, .inl ⟨x, rfl, few, fun H' s' => ⟨_, rfl, ?_⟩⟩⟩
    rw [e]
    exact iteF (q H' s')
  · refine ⟨_, rfl, _, 4, rfl, by decide, .inl ⟨x, rfl, few, fun H' s' => ⟨_, rfl, ?_⟩⟩⟩
    rw [e]
    exact iteT ⟨_, rfl, fun d hd => t H' d s' hd⟩
  · exact ⟨_, rfl, _, 4, rfl, by decide, .inr ⟨n, _, rfl, iteT ⟨_, rfl, fun d hd => t H d (Same.refl H) hd⟩⟩⟩
end
end Wp

namespace Hx
open PySem PySem.Spec PyProof.Rows L2
/-- the class at C tells its text by a def of its own, whose promise is sp -/
structure TellsBy (P : Program) (w : World) (K : PySem.W.Frag) (mg : Str → Option Value) (base : Heap) (k : Nat) (C : Addr) (sp : Sp) : Prop where
  cls : Cls K C
  go : ∃ (g : Addr) (fd : FuncData), PySem.W.findIn K (.ref C) "__str__" = some (some (.ref g)) ∧ PySem.W.isFn K (.ref g) = true ∧
    FnOk P w K mg base CX0 k g fd ["self"] sp ∧ Binds K fd ["self"] []
/-- str(x): a number, a text, or an object that tells its text -/
def rTell (P : Program) (w : World) (K : PySem.W.Frag) (mg : Str → Option Value) (base : Heap) (k : Nat) : List V → Hp → VK → Prop := fun xs H Q => ∃ x, xs = [x] ∧
  ((∃ i : Int, x = .int i ∧ i.natAbs.log2 < 1920 ∧ Q (.str (toString i)) H) ∨ (∃ y : Str, x = .str y ∧ Q (.str y) H) ∨
    ∃ (a C dx : Addr) (fs : List (Str × V)) (sp : Sp), x = .ref a ∧ H a = some (.ins C dx fs) ∧ TellsBy P w K mg base k C sp ∧
      sp [.ref a] H (fun v H' => ∃ y : Str, v = .str y ∧ Q (.str y) H') E0)
theorem Room.less {k j : Nat} {A : Around} (r : Room k A) (h : j ≤ k) : Room j A := r.mono h
theorem call_tell {X : Cx} {k : Nat} (room : Room (k + 2) X.A) : CallR X (.type "str") (rTell X.prog X.w X.K X.mg X.base k) := by
  intro pins s σ H xs us Q I r h
  obtain ⟨x, rfl, ⟨i, rfl, small, q⟩ | ⟨y, rfl, q⟩ | ⟨a, C, dx, fs, sp, rfl, ha, T, q⟩⟩ := h
  · exact call_str_int pins s σ H _ us Q I r ⟨i, rfl, small, q⟩
  · exact SkE.call_str_str pins s σ H _ us Q I r ⟨y, rfl, q⟩
  · rw [Vals.ref1 r]
    obtain ⟨mA, O, _, _, _, _⟩ := ins_get I.hok ha
    obtain ⟨od, J, _⟩ := O.look
    obtain ⟨g, fd, hs, hf, F, b⟩ := T.go
    refine PySem.W.kso_call (by have := room.units; show _ < _; exact Nat.lt_of_le_of_lt (Nat.le_add_right _ 64) room.in1.in1.units) I.kIn J hs hf ?_
    have go := F.run X.A.in1.in1 X.stack s H ⟨[.ref a], []⟩ [.ref a] [.ref a] _ E0 room.in1.in1 I.env0.in1.in1 (b s [.ref a] I.kIn rfl) (.cons rfl .nil) q
    refine wpAny_call (codeAny_mono go ?_)
    intro r' s' hr
    cases r' with
    | error e => exact (show False from hr).elim
    | ok fl =>
      cases fl with
      | ret u =>
        obtain ⟨v, H', J', rv, y, ev, qy⟩ := I.after hr
        subst ev
        obtain ⟨t, rfl⟩ := rv
        exact ⟨.str y, H', J', ⟨t, rfl⟩, qy⟩
      | next => exact hr.elim
      | brk => exact hr.elim
      | cont => exact hr.elim
end Hx

namespace Wp
open PySem PySem.Spec PyProof.Rows L2 Hx
/-- the class at C has f as a property of its own, whose getter keeps sp -/
structure PropBy (P : Program) (w : World) (K : PySem.W.Frag) (mg : Str → Option Value) (base : Heap) (k : Nat) (C : Addr) (f : Str) (sp : Sp) : Prop where
  cls : Cls K C
  go : ∃ (p g : Addr) (fd : FuncData), PropOf K C f p g ∧ FnOk P w K mg base CX0 k g fd ["self"] sp ∧ Binds K fd ["self"] []
/-- e.f, a property of the class that is met there -/
def tPropA (P : Program) (w : World) (K : PySem.W.Frag) (mg : Str → Option Value) (base : Heap) (k : Nat) (f : Str) (ta : TE) : TE := fun σ H Q => ta σ H fun x H1 => ∃ (a C dx : Addr) (fs : List (Str × V)) (sp : Sp), x = .ref a ∧ H1 a = some (.ins C dx fs) ∧ PropBy P w K mg base k C f sp ∧ sp [.ref a] H1 Q E0
theorem pe_propA {X : Cx} {k : Nat} {f : Str} {e : Expr} {pos : Pos} {ta : TE} (he : PE X e ta) (room : Room (k + 1) X.A) (hab : attributeBase e f X.env (eval e X.env) = eval e X.env := by rfl) : PE X (.Attribute e f pos) (tPropA X.prog X.w X.K X.mg X.base k f ta) := by
  constructor
  intro pins s σ H Q I h
  refine attr_of hab (thn (he.run pins s σ H _ I h) ?_)
  rintro u s1 ⟨x, H1, I1, rx, a, C, dx, fs, sp, rfl, ea, T, q⟩
  cases (show u = Value.ref a from rx)
  obtain ⟨p, g, fd, hp, F, b⟩ := T.go
  exact getprop_ok I1 ea T.cls hp F room b .nil pass0 q
/-- the promise of a getter: a field of what stands at the object's facts -/
def spGet (C CF : Addr) (fld : Str) : Sp := fun vs H Q _ => ∃ (a dx fa dfa : Addr) (fs gs : List (Str × V)) (v : V), vs = [.ref a] ∧ H a = some (.ins C dx fs) ∧ fs.lookup ("facts" : Str) = some (.ref fa) ∧ H fa = some (.ins CF dfa gs) ∧ gs.lookup fld = some v ∧ Q v H
def spStr (C CF : Addr) : Sp := fun vs H Q _ => ∃ (a dx fa dfa : Addr) (fs gs : List (Str × V)) (y : Str), vs = [.ref a] ∧ H a = some (.ins C dx fs) ∧ fs.lookup ("facts" : Str) = some (.ref fa) ∧ H fa = some (.ins CF dfa gs) ∧ gs.lookup ("text" : Str) = some (.str y) ∧ Q (.str y) H
section
variable {P : Program} {w : World} {K : PySem.W.Frag} {mg : Str → Option Value} {base : Heap} {f C CF : Addr} {fd : FuncData} {st : Stmt} {x qual fld : Str} {p1 p2 p3 p4 p5 p6 : Pos}
theorem ok_get (F : Fun K x qual st f fd) (S : FnScope ["self"] ["self"] (defScope st)) (hb : defBody st = [.Return (some (.Attribute (.Attribute (.Name "self" p1) "facts" p2) fld p3)) p4]) (v1 : Vis (defScope st) "self")
    (cC : Cls K C) (nC : NoAttr K C "facts") (cF : Cls K CF) (nF : NoAttr K CF fld) : FnOk P w K mg base CX0 1 f fd ["self"] (spGet C CF fld) := by
  refine F.ok S (fun vs H Q E h => ?_) (fun cdv A outer s H vs Q E hr h => ?_)
  · obtain ⟨a, dx, fa, dfa, fs, gs, v, rfl, _⟩ := h
    rfl
  obtain ⟨a, dx, fa, dfa, fs, gs, v, rfl, h1, h2, h3, h4, q⟩ := h
  rw [hb]
  refine ⟨_, pss_one (ps_ret (pe_fld (pe_fld (pe_var (i := 0) rfl v1) rfl) rfl)), ?_⟩
  exact ⟨_, rfl, a, C, dx, fs, _, rfl, h1, cC, nC, h2, fa, CF, dfa, gs, v, rfl, h3, cF, nF, h4, q⟩
theorem ok_str (F : Fun K x qual st f fd) (S : FnScope ["self"] ["self"] (defScope st)) (hb : defBody st = [.Return (some (.Call (.Name "str" p5) [.Attribute (.Attribute (.Name "self" p1) "facts" p2) "text" p3] [] p6)) p4]) (v1 : Vis (defScope st) "self")
    (gl : ∀ n cdv, (envOfC qual (defScope st) n f cdv).kindOf "str" = some .globalImplicit) (ms : mg "str" = none)
    (cC : Cls K C) (nC : NoAttr K C "facts") (cF : Cls K CF) (nF : NoAttr K CF "text") : FnOk P w K mg base CX0 1 f fd ["self"] (spStr C CF) := by
  refine F.ok S (fun vs H Q E h => ?_) (fun cdv A outer s H vs Q E hr h => ?_)
  · obtain ⟨a, dx, fa, dfa, fs, gs, y, rfl, _⟩ := h
    rfl
  obtain ⟨a, dx, fa, dfa, fs, gs, y, rfl, h1, h2, h3, h4, q⟩ := h
  rw [hb]
  refine ⟨_, pss_one (ps_ret (pe_callTy SkE.call_str_str (gl _ _) ms (by decide +kernel) (pa_cons (pe_fld (pe_fld (pe_var (i := 0) rfl v1) rfl) rfl) pa_nil))), ?_⟩
  exact ⟨_, rfl, a, C, dx, fs, _, rfl, h1, cC, nC, h2, fa, CF, dfa, gs, .str y, rfl, h3, cF, nF, h4, y, rfl, q⟩
end
end Wp

namespace Wp
open PySem PySem.Spec PyProof.Rows L2 Hx
def factL (kind : Str) (pm pi : Addr) (text : Str) (pl : Addr) (size : Int) : List (Str × V) := [("word", .str kind), ("marks", .ref pm), ("parts", .ref pi), ("text", .str text), ("labels", .ref pl), ("size", .int size)]
/-- at a stands an expression of one of the classes, and this is told of it -/
def XpAt (CF : Addr) (cls : Addr → Prop) (H : Hp) (a C : Addr) (kind text : Str) (told inner : List V) (labels : List Str) (size : Int) : Prop :=
  ∃ (dx fa dfa pm pi pl : Addr), cls C ∧ H a = some (.ins C dx [("facts", .ref fa)]) ∧ H fa = some (.ins CF dfa (factL kind pm pi text pl size)) ∧ H pm = some (.tup told) ∧ H pi = some (.tup inner) ∧ H pl = some (.tup (labels.map V.str))
theorem XpAt.same {CF : Addr} {cls : Addr → Prop} {H H' : Hp} {a C : Addr} {kind text : Str} {told inner : List V} {labels : List Str} {size : Int} (h : XpAt CF cls H a C kind text told inner labels size) (s : Same H H') : XpAt CF cls H' a C kind text told inner labels size := by
  obtain ⟨dx, fa, dfa, pm, pi, pl, h0, h1, h2, h3, h4, h5⟩ := h
  exact ⟨dx, fa, dfa, pm, pi, pl, h0, s _ _ h1, s _ _ h2, s _ _ h3, s _ _ h4, s _ _ h5⟩
/-- what stands within the brackets of a text -/
inductive TxAt (CF : Addr) (cls : Addr → Prop) (H : Hp) : V → Str → Prop
  | int (i : Int) (h : 0 ≤ i ∧ i ≤ 1000) : TxAt CF cls H (.int i) (toString i)
  | str (y : Str) : TxAt CF cls H (.str y) y
  | exp {a C : Addr} {kind y : Str} {told inner : List V} {labels : List Str} {size : Int} (h : XpAt CF cls H a C kind y told inner labels size) : TxAt CF cls H (.ref a) y
theorem TxAt.same {CF : Addr} {cls : Addr → Prop} {H H' : Hp} {v : V} {y : Str} (h : TxAt CF cls H v y) (s : Same H H') : TxAt CF cls H' v y := by
  cases h with
  | int i h => exact .int i h
  | str => exact .str y
  | exp h => exact .exp (h.same s)
/-- what the program's part says of the classes of expressions -/
structure Kls (P : Program) (w : World) (K : PySem.W.Frag) (mg : Str → Option Value) (base : Heap) (CF : Addr) (cls : Addr → Prop) : Prop where
  str : ∀ C, cls C → TellsBy P w K mg base 1 C (spStr C CF)
  get : ∀ C, cls C → ∀ f fld, (f, fld) ∈ ([("kind", "word"), ("inner", "parts"), ("told", "marks"), ("names", "labels"), ("knots", "size")] : List (Str × Str)) → PropBy P w K mg base 1 C f (spGet C CF fld)
theorem join_len (y : Str) : ∀ ps : List Str, (Str.join y ps).length ≤ (ps.map (·.length)).sum + ps.length * y.length
  | [] => by
    show Str.empty.length ≤ _
    exact Nat.le_trans (by decide +kernel : Str.empty.length ≤ 0) (Nat.zero_le _)
  | [x] => by
    show x.length ≤ _
    simp
  | x :: z :: r => by
    have h := join_len y (z :: r)
    show (x ++ y ++ Str.join y (z :: r)).length ≤ _
    rw [PySem.Str.length_append, PySem.Str.length_append]
    simp only [List.map_cons, List.sum_cons, List.length_cons, Nat.succ_mul] at h ⊢
    omega
theorem paired_get {α β : Type} {R : α → β → Prop} : ∀ {xs : List α} {ys : List β} {i : Nat} {x : α}, Paired R xs ys → xs[i]? = some x → ∃ y, ys[i]? = some y ∧ R x y
  | _, _, 0, _, .cons r t, h => ⟨_, rfl, by cases h; exact r⟩
  | _, _, i + 1, _, .cons r t, h => paired_get (i := i) t h
theorem str_ne {a b : Str} (h : a ≠ b) : decide (V.str a = V.str b) = false := decide_eq_false fun z => h (V.str.inj z)
theorem small_log {j : Int} (h : 0 ≤ j ∧ j ≤ 1000) : j.natAbs.log2 < 1920 := by
  have z : j.natAbs ≤ 1000 := by omega
  exact Nat.lt_of_le_of_lt (Nat.le_trans (Nat.log2_le_self _) z) (by decide)
/-- the text that spelled makes -/
def Spells (CF : Addr) (cls : Addr → Prop) (H : Hp) (kind : Str) (told : List V) (inner : List V) (text : Str) : Prop :=
  (kind = "sign" ∧ ∃ s : Str, told = [.str s] ∧ s.length ≤ 1000 ∧ text = ((Str.empty ++ "'") ++ s) ++ "'") ∨ (kind = "name" ∧ ∃ s : Str, told = [.str s] ∧ text = s) ∨
    (kind ≠ "sign" ∧ kind ≠ "name" ∧ kind.length ≤ 10 ∧ ∃ ys : List Str, Paired (TxAt CF cls H) (told ++ inner) ys ∧ ys.length ≤ 100 ∧ (ys.map (·.length)).sum ≤ 100000 ∧ text = (((Str.empty ++ kind) ++ "(") ++ Str.join ", " ys) ++ ")")
def spSpelled (CF : Addr) (cls : Addr → Prop) : Sp := fun vs H Q _ => ∃ (kind : Str) (pt pi : Addr) (told inner : List V) (text : Str), vs = [.str kind, .ref pt, .ref pi] ∧ H pt = some (.tup told) ∧ H pi = some (.tup inner) ∧
  Spells CF cls H kind told inner text ∧ ∀ H', Same H H' → Q (.str text) H'
section
variable {P : Program} {w : World} {K : PySem.W.Frag} {mg : Str → Option Value} {base : Heap} {f CF : Addr} {fd : FuncData} {cls : Addr → Prop}
theorem scSpelled : FnScope ["kind", "told", "inner", "listed", "part"] ["kind", "told", "inner"] (defScope s_spelled) := ⟨rfl, rfl, rfl, by decide +kernel, rfl, by decide +kernel, by decide +kernel⟩
theorem ok_spelled (F : Fun K "spelled" "spelled" s_spelled f fd) (Z : Bltn mg) (T : Kls P w K mg base CF cls) : FnOk P w K mg base CX0 4 f fd ["kind", "told", "inner"] (spSpelled CF cls) := by
  refine F.ok scSpelled (fun vs H Q E h => ?_) (fun cdv A outer s H vs Q E hr h => ?_)
  · obtain ⟨kind, pt, pi, told, inner, text, rfl, _⟩ := h
    rfl
  obtain ⟨kind, pt, pi, told, inner, text, rfl, ht, hi, h, q⟩ := h
  refine ⟨_, pss_cons (ps_if (pt_cmpR op_eq (pv 0) pe_str (nomark _)) (pss_one (ps_ret (pe_joined (.cons pe_str (.cons (pe_fmt (pe_ix ix_tup (pv 1) pe_int (fun _ _ => rfl))) (.cons pe_str .nil)))))) pss_nil)
    (pss_cons (ps_if (pt_cmpR op_eq (pv 0) pe_str (nomark _)) (pss_one (ps_ret (pe_ix ix_tup (pv 1) pe_int (fun _ _ => rfl)))) pss_nil)
    (pss_cons (ps_set (i := 3) scSpelled.nd rfl (Or.inl rfl) (pe_join pe_str (pe_lc (te := tCB (rTell P w K mg base 1) (tCons (tVar 4) tNil)) (own := [("part", 4)]) (g := gName 4) (tt := tYes) rfl scSpelled.nd (pi_tup (pe_tup (StX.pa_star (pv 1) (StX.pa_star (pv 2) pa_nil))))
        (blkOk_by (N := ["kind", "told", "inner", "listed", "part"]) (sc := defScope s_spelled) (by decide +kernel)) (fun _ _ _ _ _ => pg_name (i := 4) scSpelled.nd rfl (Or.inl rfl)) (fun _ _ _ _ _ => pts_nil)
        (fun _ _ _ _ _ => pe_callTy (call_tell (k := 1) hr) (by rfl) Z.str (by decide +kernel) (pa_cons (pv 4) pa_nil)))))
    (pss_one (ps_ret (pe_joined (.cons (pe_fmt (pv 0)) (.cons pe_str (.cons (pe_fmt (pv 3)) (.cons pe_str .nil))))))))), ?_⟩
  have go : ∀ ys : List Str, ys.length ≤ 100 → (ys.map (·.length)).sum ≤ 100000 → (Str.join ", " ys).length ≤ 100200 := fun ys h1 h2 => by
    have z := join_len ", " ys
    have l2 : (", " : Str).length = 2 := by decide +kernel
    rw [l2] at z
    omega
  have one : ("'" : Str).length = 1 := by decide +kernel
  have e0 : Str.empty.length = 0 := by decide +kernel
  have big : 100300 ≤ sizeLine := by decide
  rcases h with ⟨rfl, s', rfl, few, ex⟩ | ⟨rfl, s', rfl, ex⟩ | ⟨n1, n2, kf, ys, ty, y1, y2, ex⟩ <;> rw [ex] at q
  · refine ⟨_, rfl, rfl, _, rfl, ?_⟩
    rw [decide_eq_true rfl]
    refine iteT ⟨"'", rfl, by decide +kernel, _, rfl, pt, _, _, .str s', rfl, rfl, SqT.of ht, rfl, .inl ⟨s', rfl, Nat.le_trans few (by decide), s', rfl, ?_, "'", rfl, ?_, q H (Same.refl H)⟩⟩
    · simp only [PySem.Str.length_append, one, e0]
      omega
    · simp only [PySem.Str.length_append, one, e0]
      omega
  · refine ⟨_, rfl, rfl, _, rfl, ?_⟩
    rw [str_ne (by decide +kernel)]
    refine iteF ⟨_, rfl, rfl, _, rfl, ?_⟩
    rw [decide_eq_true rfl]
    exact iteT ⟨_, rfl, pt, _, _, .str s', rfl, rfl, SqT.of ht, rfl, q H (Same.refl H)⟩
  · refine ⟨_, rfl, rfl, _, rfl, ?_⟩
    rw [str_ne n1]
    refine iteF ⟨_, rfl, rfl, _, rfl, ?_⟩
    rw [str_ne n2]
    refine iteF ?_
    have len : (told ++ (inner ++ [])).length = ys.length := by
      rw [List.append_nil]
      exact ty.length
    refine ⟨⟨_, rfl⟩, _, rfl, pt, told, rfl, .inl (SqT.of ht), _, rfl, pi, inner, rfl, .inl (SqT.of hi), ?_, fun tp htp => ⟨tp, rfl, ⟨_, SqT.of upd_same⟩, fun D hD => ?_⟩⟩
    · rw [len]
      exact small_line (by omega)
    have s0 := same_new htp (.tup (told ++ (inner ++ [])))
    refine lc_tup (K := K) (a := tp) (xs := told ++ (inner ++ [])) (fun i H' => Same (upd H tp (.tup (told ++ (inner ++ [])))) H' ∧ H' D = some (.lst ((ys.take i).map V.str))) ⟨same_new hD _, upd_same⟩ (fun i H' _ h => SqT.of (h.1 _ _ upd_same)) ?_ ?_
    · rintro i x H' hx ⟨s1, h1⟩
      rw [List.append_nil] at hx
      obtain ⟨y, hy, t⟩ := paired_get ty hx
      have iy : i < ys.length := (List.getElem?_eq_some_iff.mp hy).1
      have fin : ∃ acc, H' D = some (.lst acc) ∧ acc.length < sizeLine ∧ Same (upd H tp (.tup (told ++ (inner ++ [])))) (upd H' D (.lst (acc ++ [V.str y]))) ∧
          upd H' D (.lst (acc ++ [V.str y])) D = some (.lst ((ys.take (i + 1)).map V.str)) := by
        refine ⟨_, h1, ?_, fun b o hb => ?_, ?_⟩
        · rw [List.length_map, List.length_take]
          exact Nat.lt_of_lt_of_le (by omega : _ < 1000) (small_line (Nat.le_refl _))
        · rw [upd_ne (ne_of_none hb hD)]
          exact s1 b o hb
        · rw [upd_same, List.take_add_one, hy, List.map_append]
          rfl
      refine ⟨rfl, turn_yes ⟨_, rfl, x, rfl, ?_⟩⟩
      cases t.same (s0.trans s1) with
      | int j hj => exact .inl ⟨j, rfl, small_log hj, fin⟩
      | str => exact .inr (.inl ⟨y, rfl, fin⟩)
      | exp h =>
        obtain ⟨dx, fa, dfa, pm, pi', pl, hc, e1, e2, _⟩ := h
        exact .inr (.inr ⟨_, _, dx, _, spStr _ CF, rfl, e1, T.str _ hc, _, dx, fa, dfa, _, _, y, rfl, e1, rfl, e2, rfl, y, rfl, fin⟩)
    · rintro H' ⟨s1, h1⟩
      rw [len, List.take_of_length_le (Nat.le_refl _)] at h1
      refine ⟨", ", D, ys, rfl, rfl, .inl (SqL.of h1), ?_, ?_⟩
      · have l2 : (", " : Str).length = 2 := by decide +kernel
        rw [l2]
        omega
      rw [TL.join_eq]
      have g := go ys y1 y2
      refine ⟨_, rfl, .inl ⟨kind, rfl, Nat.le_trans kf (by decide), kind, rfl, ?_, "(", rfl, ?_, _, rfl, .inl ⟨_, rfl, ?_, _, rfl, ?_, ")", rfl, ?_, q H' (s0.trans s1)⟩⟩⟩
      all_goals try simp only [PySem.Str.length_append, e0, (by decide +kernel : ("(" : Str).length = 1), (by decide +kernel : (")" : Str).length = 1)]
      all_goals omega
end
end Wp

namespace Hs
open PySem PySem.Spec PyProof.Rows L2
/-! sets of texts: made of a list, sorted -/
def textOf (e : Int × Value) : Str := match e.2 with | .str x _ => x | _ => Str.empty
def TextE (P : Program) (w : World) (e : Int × Value) : Prop := ∃ x tk, e.2 = Value.str x tk ∧ e.1 = (strKind P w).hash x
/-- at a stands a set of just these texts -/
structure Table (P : Program) (w : World) (ms : List Str) (es : Array (Int × Value)) (t : SetTable) : Prop where
  texts : ∀ e ∈ es.toList, TextE P w e
  perm : (es.toList.map textOf).Perm ms
  once : ms.Nodup
  few : es.size < scanBound
  fits : t.fits es.size = true
  ris : Ris t.place.toList
  led : w.params.followText "set-order" = true ∨ t.led = true
def SetT (P : Program) (w : World) (h : Heap) (a : Addr) (ms : List Str) : Prop :=
  ∃ o es ep t, h.get? a = some o ∧ o.ExactSet ∧ o.data = .set es ep t ∧ Table P w ms es t
section
variable {P : Program} {w : World} {h h' : Heap} {a : Addr} {ms : List Str} {es : Array (Int × Value)} {t : SetTable}
theorem SetT.keep (R : SetT P w h a ms) (k : ∀ o, h.get? a = some o → h'.get? a = some o) : SetT P w h' a ms := by
  obtain ⟨o, es, ep, t, ho, r⟩ := R
  exact ⟨o, es, ep, t, k o ho, r⟩
theorem Table.elems (T : Table P w ms es t) : ElemsOf (strKind P w) es.toList := fun e he => by
  obtain ⟨x, tk, h1, h2⟩ := T.texts e he
  rw [h1]
  exact ⟨⟨x, strKind_is P w x tk, h2⟩, rfl⟩
theorem text_is {e : Int × Value} (g : TextE P w e) (x : Str) : (strKind P w).is x e.2 = true ↔ textOf e = x := by
  obtain ⟨y, tk, h1, _⟩ := g
  unfold textOf
  rw [h1]
  show ((y == x) = true) ↔ y = x
  exact beq_iff_eq
theorem Table.mem (T : Table P w ms es t) (x : Str) : x ∈ ms ↔ ∃ e ∈ es.toList, (strKind P w).is x e.2 = true := by
  rw [← T.perm.mem_iff, List.mem_map]
  exact ⟨fun ⟨e, he, q⟩ => ⟨e, he, (text_is (T.texts e he) x).2 q⟩, fun ⟨e, he, q⟩ => ⟨e, he, (text_is (T.texts e he) x).1 q⟩⟩
theorem Table.size (T : Table P w ms es t) : es.size = ms.length := by
  rw [← T.perm.length_eq, List.length_map, Array.length_toList]
theorem fresh {h : Heap} {a : Addr} (ho : h.get? a = some { cls := .type "set", dict := none, data := .set #[] 0 (.fresh 0 0 (!w.params.followText "set-order")) }) : SetT P w h a [] := by
  refine ⟨_, #[], 0, _, ho, ⟨rfl, rfl, rfl⟩, rfl, ⟨fun e he => ?_, .nil, .nil, by decide, rfl, .nil, ?_⟩⟩
  · cases he
  · show _ ∨ (!w.params.followText "set-order") = true
    cases w.params.followText "set-order" <;> simp
end
/-- the members when x comes to ms -/
def put (ms : List Str) (x : Str) : List Str := if x ∈ ms then ms else x :: ms
section
variable {P : Program} {w : World} {A : Around} {E : Value → Shared → Prop} {s : Shared} {a : Addr} {ms : List Str}
theorem settle {g : Bool → Sem Unit} (hg : ∀ (b : Bool) (s1 : Shared) (Q' : Unit → Shared → Prop), Q' () s1 → wpAny (model P w) A (g b) Q' E s1)
    {o : Obj} {es es1 : Array (Int × Value)} {ep : Nat} {t t2 : SetTable} {ns : List Str} (ho : s.heap.get? a = some o) (hex : o.ExactSet) (hd : o.data = .set es ep t) (T : Table P w ns es1 t2)
    {wasDummy : Bool} {R : Option Bool → Shared → Prop} (hR : ∀ h', Heap.SameBut a s.heap h' → SetT P w h' a ns → R (some true) { s with heap := h' }) :
    wpAny (model P w) A (do
      storeSet a es1 t2
      if (!wasDummy && t2.tooFull) = true then do
          g (relayAll t2 es1 (SetTable.grown es1.size)).2.2
          storeSet a (relayAll t2 es1 (SetTable.grown es1.size)).1 (relayAll t2 es1 (SetTable.grown es1.size)).2.1
          pure (some true)
        else pure (some true)) R E s := by
  have h1 := store_at (es' := es1) (t' := t2) ho hd
  have b1 := Heap.SameBut.update s.heap a (Obj.putSet es1 t2)
  refine wpAny_bind (wpAny_storeSet_of ho hd ?_ (fits_of_scanBound T.few))
  split
  case isFalse => exact wpAny_pure (hR _ b1 ⟨_, es1, _, t2, h1, hex, rfl, T⟩)
  case isTrue =>
    have q1 := relayAll_perm t2 es1 (SetTable.grown es1.size)
    have q2 := relayAll_fits t2 es1 (SetTable.grown es1.size)
    have q3 := relayAll_ris t2 es1 (SetTable.grown es1.size)
    have q4 := relayAll_led t2 es1 (SetTable.grown es1.size)
    generalize relayAll t2 es1 (SetTable.grown es1.size) = Z at q1 q2 q3 q4 ⊢
    obtain ⟨es2, t3, gave⟩ := Z
    dsimp only at q1 q2 q3 q4 ⊢
    have z : es2.size = es1.size := by
      rw [← Array.length_toList, q1.length_eq, Array.length_toList]
    have T2 : Table P w ns es2 t3 := ⟨fun e he => T.texts e (q1.mem_iff.mp he), (q1.map textOf).trans T.perm, T.once, by rw [z]; exact T.few, q2, q3, T.led.imp id fun y => by rw [q4]; exact y⟩
    refine wpAny_bind (hg _ _ _ (wpAny_bind (wpAny_storeSet_of h1 rfl ?_ (fits_of_scanBound T2.few))))
    exact wpAny_pure (hR _ (b1.trans (Heap.SameBut.update _ a _)) ⟨_, es2, _, t3, store_at (es' := es2) (t' := t3) h1 rfl, hex, rfl, T2⟩)
theorem add_text {x : Str} {tk : Tok} {Q : Bool → Shared → Prop} (R : SetT P w s.heap a ms) (room : ms.length + 1 < scanBound)
    (hQ : ∀ h' b, Heap.SameBut a s.heap h' → SetT P w h' a (put ms x) → Q b { s with heap := h' }) :
    wpAny (model P w) A (setAddHashed a (.str x tk) ((strKind P w).hash x)) Q E s := by
  obtain ⟨o, es, ep, t, ho, hex, hd, T⟩ := R
  have sc : (Value.str x tk).scannable = true := rfl
  unfold setAddHashed setAddHashedIn
  refine wpAny_holding (wpAny_bind (wpAny_setState_of ho hd T.fits ?_))
  dsimp only
  rw [byScan_of sc T.few T.elems, if_pos rfl]
  unfold setAddByScan
  refine wpAny_bind (wpAny_bind (wpAny_rule (wpAny_bind (wpAny_setScan_of (strKind_is P w x tk) ho hd T.fits T.elems ?_))))
  cases found : List.findIdx? (fun e => (strKind P w).is x e.2) es.toList with
  | some j =>
    obtain ⟨hj, pj, _⟩ := List.findIdx?_eq_some_iff_getElem.mp found
    have hx : x ∈ ms := (T.mem x).2 ⟨_, List.getElem_mem hj, pj⟩
    have e : put ms x = ms := if_pos hx
    dsimp only
    refine wpAny_pure (wpAny_pure (hQ s.heap _ (Heap.SameBut.refl a s.heap) ?_))
    rw [e]
    exact ⟨o, es, ep, t, ho, hex, hd, T⟩
  | none =>
    have hx : x ∉ ms := fun z => by
      obtain ⟨e, he, q⟩ := (T.mem x).1 z
      have c := List.findIdx?_eq_none_iff.mp found e he
      rw [q] at c
      cases c
    have ep' : put ms x = x :: ms := if_neg hx
    dsimp only
    have q1 := layNew_perm t es ((strKind P w).hash x) (.str x tk)
    have q2 := layNew_fits t es ((strKind P w).hash x) (.str x tk)
    have q3 := layNew_ris t es ((strKind P w).hash x) (.str x tk) T.ris
    have q4 := layNew_led t es ((strKind P w).hash x) (.str x tk)
    generalize layNew t es ((strKind P w).hash x) (.str x tk) = Z at q1 q2 q3 q4 ⊢
    obtain ⟨es1, t1, wasDummy, gave⟩ := Z
    dsimp only at q1 q2 q3 q4 ⊢
    rw [Array.toList_push] at q1
    have pc : es1.toList.Perm (((strKind P w).hash x, Value.str x tk) :: es.toList) := q1.trans (List.perm_append_singleton _ _)
    have pm : (es1.toList.map textOf).Perm (x :: ms) := (pc.map textOf).trans (T.perm.cons x)
    have tx : ∀ e ∈ es1.toList, TextE P w e := fun e he => by
      rcases List.mem_cons.mp (pc.mem_iff.mp he) with rfl | z
      · exact ⟨x, tk, rfl, rfl⟩
      · exact T.texts e z
    have few : es1.size < scanBound := by
      have z := pc.length_eq
      rw [Array.length_toList, List.length_cons, Array.length_toList, T.size] at z
      omega
    have mk : ∀ t2 : SetTable, t2.fits es1.size = true → Ris t2.place.toList → t2.led = t1.led → Table P w (x :: ms) es1 t2 := fun t2 f r l =>
      ⟨tx, pm, List.nodup_cons.mpr ⟨hx, T.once⟩, few, f, r, T.led.imp id fun y => by rw [l, q4]; exact y⟩
    have fin : ∀ h', Heap.SameBut a s.heap h' → SetT P w h' a (x :: ms) → Q true { s with heap := h' } := fun h' b r => hQ h' _ b (by rw [ep']; exact r)
    have say : ∀ (b : Bool) {s1 : Shared} {Q' : Unit → Shared → Prop}, Q' () s1 → wpAny (model P w) A (match b with | true => rule "set.scan.the-table-gave-way" | false => pure ()) Q' E s1 := fun b s1 Q' q => by
      cases b
      · exact wpAny_pure q
      · exact wpAny_rule q
    refine wpAny_bind (say _ ?_)
    split
    · rw [hashByValue_scannable 8 sc]
      refine wpAny_bind (wpAny_pure (settle (ns := x :: ms) (fun b s1 Q' q => by cases b <;> first | exact wpAny_pure q | exact wpAny_rule q) ho hex hd (mk _ ?_ ?_ ?_) fun h' b r => wpAny_pure (fin h' b r)))
      · first | (split <;> first | exact q2 | exact SetTable.fits_plain_off q2) | exact q2
      · first | (split <;> exact q3) | exact q3
      · first | (split <;> rfl) | rfl
    · refine wpAny_bind (wpAny_pure ?_)
      rw [if_pos rfl]
      exact settle (ns := x :: ms) (fun b s1 Q' q => by cases b <;> first | exact wpAny_pure q | exact wpAny_rule q) ho hex hd (mk _ q2 q3 rfl) fun h' b r => wpAny_pure (fin h' b r)
end
end Hs

namespace Hs
open PySem PySem.Spec PyProof.Rows L2
theorem put_len (ms : List Str) (x : Str) : (put ms x).length ≤ ms.length + 1 := by
  unfold put
  split
  · omega
  · rw [List.length_cons]
    omega
theorem puts_len : ∀ (xs ms : List Str), (xs.foldl put ms).length ≤ ms.length + xs.length
  | [], ms => Nat.le_refl _
  | x :: xs, ms => by
    have h := puts_len xs (put ms x)
    have h2 := put_len ms x
    rw [List.foldl_cons, List.length_cons]
    omega
theorem put_mem (ms : List Str) (x y : Str) : y ∈ put ms x ↔ y ∈ ms ∨ y = x := by
  unfold put
  split
  · rename_i h
    exact ⟨.inl, fun z => z.elim id fun e => e ▸ h⟩
  · rw [List.mem_cons]
    exact Or.comm
theorem puts_mem : ∀ (xs ms : List Str) (y : Str), y ∈ xs.foldl put ms ↔ y ∈ ms ∨ y ∈ xs
  | [], ms, y => by simp
  | x :: xs, ms, y => by
    rw [List.foldl_cons, puts_mem xs, put_mem, List.mem_cons, or_assoc]
section
variable {P : Program} {w : World} {A : Around} {E : Value → Shared → Prop} {s : Shared}
theorem gather {I : Addr} {fp wr : List Addr} {G : Array GenState → Array GenState → Prop} {n : Nat} {Pv : Nat → Value → Prop} {St : Nat → Shared → Prop} {R : Result → Shared → Prop}
    (W : WalksS P w A.in1 I fp wr G n Pv St) (S : Addr) (out : S ∉ fp) (xs : List Str) (hn : n = xs.length) (room : xs.length + 1 < scanBound) (val : ∀ i v, Pv i v → ∃ x t, xs[i]? = some x ∧ v = .str x t) :
    ∀ (k i : Nat) (s : Shared), n - i = k → i ≤ n → St i s → SetT P w s.heap S ((xs.take i).foldl put []) →
      (∀ s', Moved (S :: wr) G s s' → SetT P w s'.heap S (xs.foldl put []) → R (.ok (.ret .none)) s') → codeAny (model P w) A (.builtin "set.update.loop" ⟨[.ref S, .ref I], []⟩) R s := by
  have apart : S ∉ wr := fun h => out (W.sub _ h)
  have more : ∀ b ∈ wr, b ∈ S :: wr := fun b hb => List.mem_cons_of_mem _ hb
  intro k
  induction k with
  | zero =>
    intro i s hk hi st hS hR
    obtain rfl : i = n := by omega
    rw [List.take_of_length_le (by omega)] at hS
    refine codeAny_builtin F.entry_set_update_loop ?_
    rw [Around.under_plainId F.plain_set_update_loop _]
    exact wpAny_bind (W.done s _ _ st fun s' hm => wpAny_pure (hR s' (hm.mono more) (hS.keep fun o e => hm.heap S o apart e)))
  | succ k ih =>
    intro i s hk hi st hS hR
    have lt : i < n := by omega
    refine codeAny_builtin F.entry_set_update_loop ?_
    rw [Around.under_plainId F.plain_set_update_loop _]
    refine wpAny_bind (W.item i s _ _ lt st fun v s1 hP st1 hm => ?_)
    obtain ⟨x, t, hx, rfl⟩ := val i v hP
    show wpAny _ A.in1 (holding [Value.str x t] (setAdd S (.str x t)) >>= _) _ _ s1
    refine wpAny_bind (wpAny_holding ?_)
    unfold setAdd
    refine wpAny_holding (wpAny_bind ((strKind P w).pyHash (k := x) (strKind_is _ _ _ _) ?_))
    have hl : ((xs.take i).foldl put []).length + 1 < scanBound := by
      have z := puts_len (xs.take i) []
      rw [List.length_take, List.length_nil] at z
      omega
    refine add_text (s := { s1 with toks := s1.toks + 1 }) (hS.keep fun o e => hm.heap S o apart e) hl fun h' b sb hS2 => ?_
    have same : (xs.take (i + 1)).foldl put [] = put ((xs.take i).foldl put []) x := by
      rw [List.take_add_one, hx, List.foldl_append]
      rfl
    rw [← same] at hS2
    have far : ∀ b, b ≠ S → ∀ o, s1.heap.get? b = some o → h'.get? b = some o := fun b hb o e => by
      rw [sb.2 b hb]
      exact e
    refine wpAny_pure ⟨plainId_quiet F.plain_set_update_loop _, ih (i + 1) _ (by omega) lt (W.frame _ s1 _ _ st1 (Nat.le_succ _) fun b hb o e => far b (fun z => out (z ▸ hb)) o e) hS2 fun s2 hm2 hS3 => ?_⟩
    exact hR s2 (Moved.trans W.gtrans ((hm.mono more).then_heap (Nat.le_succ _) fun b o hb e => far b (fun z => hb (z ▸ List.mem_cons_self)) o e) hm2) hS3
/-- the empty set that set(..) begins with -/
abbrev bare (w : World) : Obj := { cls := .type "set", dict := none, data := .set #[] 0 (.fresh 0 0 (!w.params.followText "set-order")) }
/-- set(l), l a list of texts -/
theorem set_of {l : Addr} {items : Array Value} {xs : List Str} {Q : Value → Shared → Prop} (hh : A.handled = none) (hl : s.heap.IsList l items) (hi : StrsAre items.toList xs) (room : xs.length + 1 < scanBound)
    (h : ∀ (h' : Heap) (tk : Nat), SetT P w h' s.heap.objs.size (xs.foldl put []) → (∀ b o, s.heap.get? b = some o → h'.get? b = some o) → Q (.ref s.heap.objs.size) { s with heap := h', toks := tk }) :
    wpAny (model P w) A (call (.type "set") [.ref l]) Q E s := by
  have hz : items.size = xs.length := by
    rw [← StrsAre.len_eq hi, Array.length_toList]
  obtain ⟨c, tl, hmro⟩ := F.called_set.mro
  have hmade := F.called_set.made
  have hsub := F.called_set.sub
  refine wpAny_call (codeAny_of_tree ?_)
  show wpAny _ _ (callAny (.type "set") _) _ _ _
  refine wpAny_pure ⟨Code.quiet_builtin _ (by decide +kernel), codeAny_builtin F.entry_type_call ?_⟩
  rw [Around.under_plain (weight_type_call_type "set" [.ref l] []) rfl]
  have h1 := F.called_set.notType
  have h2 := F.called_set.canCreate
  have hct := F.typeCall_set_1 (.ref l)
  repeat (any_goals (first | assumption | wp_step))
  refine codeAny_mono (code_set_led1 (P := P) (w := w) (A := A.in1) (.ref l) (E := E) (Q₁ := fun obj s1 => obj = .ref s.heap.objs.size ∧ s1 = { s with heap := s.heap.push (bare w) }) ⟨rfl, rfl⟩) fun r s1 hr => ?_
  cases r with
  | error e => exact hr
  | ok fl =>
    cases fl with
    | next => exact hr.elim
    | brk => exact hr.elim
    | cont => exact hr.elim
    | ret obj =>
      obtain ⟨rfl, rfl⟩ := hr
      have at0 : (s.heap.push (bare w)).get? s.heap.objs.size = some (bare w) := Heap.get?_push_size _ rfl
      have hT : Shared.TypeIs { s with heap := s.heap.push (bare w) } (.ref s.heap.objs.size) "set" := ⟨_, at0, rfl⟩
      have hli := F.called_set.init.lookup
      have hbi := F.called_set.init.bind (.ref s.heap.objs.size)
      repeat (any_goals (first | assumption | wp_step))
      refine codeAny_mono (codeAny_call_builtin (R := wants (fun r s2 => r = .none ∧ ∃ h' tk, s2 = { s with heap := h', toks := tk } ∧
        SetT P w h' s.heap.objs.size (xs.foldl put []) ∧ ∀ b o, s.heap.get? b = some o → h'.get? b = some o) E) F.called_set.init.plain F.entry_set_init (check_set_init_1 hT ?_)) fun r2 s2 hr2 => ?_
      · obtain ⟨ol, hol, hcl, nl, hdl⟩ := hl
        obtain ⟨ocls, odict, odata, oslots⟩ := ol
        simp only at hcl hdl
        subst hcl; subst hdl
        have at1 : (s.heap.push (bare w)).get? l = some { cls := .type "list", dict := odict, data := .seq items nl, slots := oslots } := Heap.get?_push_of_some _ hol
        have n1 := F.sub_list_set
        have n2 := F.sub_list_frozenset
        have n3 : (Value.type "list" == Value.type "dict") = false := by decide
        have l1 : (s.heap.push (bare w)).IsList l items := ⟨_, at1, rfl, nl, rfl⟩
        unfold Builtin.«set.__init__» noKeywords Builtin.Frozenset.updateFrom
        generalize hPI : pyIter = PI
        wp_walk
        subst hPI
        refine wpAny_pyIter_list l1 (wpAny_bind (wpAny_runValue ?_))
        have small : l < s.heap.objs.size := Heap.lt_size hol
        have sz : (s.heap.push (bare w)).objs.size = s.heap.objs.size + 1 := Heap.size_push ..
        have hh3 : A.in1.in1.in1.handled = none := by simp [hh]
        have ne1 : l ≠ (s.heap.push (bare w)).objs.size := by
          rw [sz]
          exact Nat.ne_of_lt (Nat.lt_succ_of_lt small)
        have ne2 : s.heap.objs.size ∉ [(s.heap.push (bare w)).objs.size, l] := fun z => by
          rcases List.mem_cons.mp z with z | z
          · rw [sz] at z
            exact absurd z (Nat.ne_of_lt (Nat.lt_succ_self _))
          · exact absurd (List.mem_singleton.mp z) (Nat.ne_of_gt small)
        refine gather ((Walks.list hh3 _ l ne1 items).toS) s.heap.objs.size ne2 xs hz room (fun i v hv => ?val) (items.size - 0) 0 _ (by omega) (Nat.zero_le _)
          ⟨⟨_, Heap.get?_push_size _ rfl, rfl, rfl⟩, l1.push _⟩ ?start ?fin
        case val =>
          obtain ⟨t, e⟩ := SS.strs_at hi i v (by rw [Array.getElem?_toList]; exact hv)
          have lt : i < xs.length := by
            rw [← hz]
            exact (Array.getElem?_eq_some_iff.mp hv).1
          refine ⟨xs[i], t, List.getElem?_eq_getElem lt, ?_⟩
          rw [e, List.getD_eq_getElem?_getD, List.getElem?_eq_getElem lt]
          rfl
        case start => exact fresh (Heap.get?_push_of_some _ at0)
        case fin =>
          intro s' hm hS'
          obtain ⟨h', g2, d', tk', os'⟩ := s'
          obtain rfl : g2 = s.gens := hm.gens
          obtain rfl : d' = s.drawn := hm.drawn
          obtain rfl : os' = s.os := hm.os
          refine wpAny_pure (wpAny_pure ⟨rfl, h', tk', rfl, hS', fun b o e => ?_⟩)
          have lt : b < s.heap.objs.size := Heap.lt_size e
          refine hm.heap b o (fun z => ?_) (Heap.get?_push_of_some _ (Heap.get?_push_of_some _ e))
          rcases List.mem_cons.mp z with z | z
          · exact absurd z (Nat.ne_of_lt lt)
          · have z2 := List.mem_singleton.mp z
            rw [sz] at z2
            exact absurd z2 (Nat.ne_of_lt (Nat.lt_succ_of_lt lt))
      · cases r2 with
        | error e => exact hr2
        | ok fl2 =>
          cases fl2 with
          | next => exact hr2.elim
          | brk => exact hr2.elim
          | cont => exact hr2.elim
          | ret r =>
            obtain ⟨rfl, h', tk, rfl, hS', hk'⟩ := hr2
            repeat (any_goals (first | assumption | wp_step))
            exact h _ _ hS' hk'
end
end Hs

namespace Hs
open PySem PySem.Spec PyProof.Rows L2
theorem strs_are : ∀ {us : List Value}, (∀ v ∈ us, ∃ x t, v = Value.str x t) → StrsAre us (us.map fun v => textOf (0, v))
  | [], _ => .nil
  | v :: us, h => by
    obtain ⟨x, t, rfl⟩ := h _ List.mem_cons_self
    exact .cons x t (strs_are fun u hu => h u (List.mem_cons_of_mem _ hu))
section
variable {P : Program} {w : World} {A : Around} {E : Value → Shared → Prop} {s : Shared} {a : Addr} {ms : List Str}
/-- sorted(s), s a set of texts -/
theorem sorted_of {Q : Value → Shared → Prop} (R : SetT P w s.heap a ms) (hh : A.handled = none)
    (hQ : ∀ s' p (out : Array Value) (c : Nat) (ys : List Str), (∀ b o, s.heap.get? b = some o → s'.heap.get? b = some o) → s'.gens = s.gens → s'.os = s.os → s.heap.objs.size ≤ p →
      s'.heap.get? p = some (seqObj "list" out c) → StrsAre out.toList ys → ys.Perm ms → sortedS ys = true → Q (.ref p) s') : wpAny (model P w) A (call (.builtin "sorted") [.ref a]) Q E s := by
  obtain ⟨o, es, ep, t, ho, hex, hd, T⟩ := R
  refine Calls.call_function_entry kind_sorted plain_sorted entry_sorted (args_sorted1 _) ?_
  unfold Builtin.«sorted»
  refine wpAny_bind (m := checkCount "sorted" 1 1 _) (wpAny_pure ?_)
  refine wpAny_bind (collect_set (A := A.in1) hh ⟨o, ho, hex.1, hd⟩ T.fits T.few T.ris T.led fun s1 vs k1 hz g1 o1 pm => ?_)
  have len : vs.length = es.size := by rw [pm.length_eq, List.length_map, Array.length_toList]
  have few : vs.length ≤ sizeLine := by
    rw [len]
    exact fits_of_scanBound T.few
  have hS : StrsAre vs (vs.map fun v => textOf (0, v)) := strs_are fun v hv => by
    obtain ⟨e, he, q⟩ := List.mem_map.mp (pm.mem_iff.mp hv)
    obtain ⟨x, tk, h1, _⟩ := T.texts e he
    exact ⟨x, tk, q.symm.trans h1⟩
  have pk : (vs.map fun v => textOf (0, v)).Perm ms := by
    have z := pm.map fun v => textOf (0, v)
    rw [List.map_map] at z
    exact z.trans T.perm
  refine wpAny_bind (wpAny_newList ?_ few)
  have at1 : (s1.heap.push (seqObj "list" vs.toArray 0)).get? s1.heap.objs.size = some (seqObj "list" vs.toArray 0) := Heap.get?_push_size _ rfl
  refine wpAny_bind (wpAny_holding (wpAny_call_entry slot_list_sort ⟨_, at1, rfl⟩ entry_list_sort
    (list_sort_treeKAny strKind_oneLt at1 hS.keysOf (fun v1 v2 rest e => keyKind_strs (by rw [← e]; exact hS)) few fun st' hp hs => ⟨_, rfl, ?_⟩) (args_list_sort _)))
  obtain ⟨ys, y1, y2, y3⟩ := sorted_out_str hS hp hs
  obtain ⟨c, hc⟩ := sortedHeap_at (vs := vs) (out := (arrOf st').map (·.2)) at1
  refine wpAny_pure ⟨_, rfl, hQ _ s1.heap.objs.size ((arrOf st').map (·.2)) c ys (fun b u e => ?_) g1 o1 hz hc y1 (y2.trans pk) y3⟩
  have q := k1 b u e
  have lt := Heap.lt_size q
  show (sortedHeap (s1.heap.push (seqObj "list" vs.toArray 0)) s1.heap.objs.size vs ((arrOf st').map (·.2))).get? b = some u
  rw [sortedHeap_old (Nat.ne_of_lt lt) (by rw [size_push']; exact Nat.lt_succ_of_lt lt)]
  exact Heap.get?_push_of_some _ q
end
/-! over the layer -/
def SetS (P : Program) (w : World) (a : Addr) (ms : List Str) : HO := .ext fun h => SetT P w h a ms
section
variable {X : Cx}
theorem setS_ok {P : Program} {w : World} {H : Hp} {h : Heap} {a : Addr} {ms : List Str} (R : SetT P w h a ms) : ObjOk P w H h a (SetS P w a ms) := by
  have ⟨o, _, _, _, ho, _⟩ := R
  exact ⟨R, ⟨o, ho⟩, fun h1 h2 p k => SetT.keep p k⟩
/-- set(xs), a list of texts -/
def rSetOf (X : Cx) : List V → Hp → VK → Prop := fun vs H Q => ∃ (l : Addr) (xs : List Str), vs = [.ref l] ∧ SqL X.K H l (xs.map V.str) ∧ xs.length ≤ 1000 ∧ ∀ p, H p = none → Q (.ref p) (upd H p (SetS X.prog X.w p (xs.foldl put [])))
theorem call_setOf (hc : X.calm = true) : CallR X (.type "set") (rSetOf X) := by
  intro pins s σ H vs us Q I r h
  obtain ⟨l, xs, rfl, hs, few, q⟩ := h
  obtain ⟨its, rv, hl, _⟩ := I.list hs
  rw [Vals.ref1 r]
  refine set_of (I.ok.hd hc) hl.isList (by simpa using rv.strs) (by unfold scanBound; omega) fun h' tk R k => ?_
  exact ⟨.ref _, upd H s.heap.objs.size (SetS X.prog X.w s.heap.objs.size (xs.foldl put [])), I.laid (t' := tk) k (Nat.le_refl _) (setS_ok R), rfl, q _ (I.hok.fresh (Nat.le_refl _))⟩
/-- sorted(s), s such a set -/
def rSortedOf (X : Cx) : List V → Hp → VK → Prop := fun vs H Q => ∃ (a : Addr) (ms : List Str), vs = [.ref a] ∧ H a = some (SetS X.prog X.w a ms) ∧ ms.length ≤ 1000 ∧ ∀ ys p, ys.Perm ms → sortedS ys = true → H p = none → Q (.ref p) (upd H p (.lst (ys.map V.str)))
theorem call_sortedOf (hc : X.calm = true) : CallR X (.builtin "sorted") (rSortedOf X) := by
  intro pins s σ H vs us Q I r h
  obtain ⟨a, ms, rfl, ha, few, q⟩ := h
  rw [Vals.ref1 r]
  refine sorted_of (show SetT X.prog X.w s.heap a ms from (I.hok a _ ha).1) (I.ok.hd hc) fun s' p out c ys k g o hp hg hi hm hs => ?_
  have hlen : (ys.map V.str).length ≤ sizeLine := by
    rw [List.length_map, hm.length_eq]
    exact Nat.le_trans few (by decide)
  have hn : H p = none := I.hok.fresh hp
  have J : Inv X pins σ (upd H p (.lst (ys.map V.str))) { s with heap := s'.heap, gens := s'.gens, drawn := s'.drawn, toks := s'.toks } :=
    I.call (ch := []) (Un.laid k hp hn) (I.hok.laid k hp ⟨hlen, out.toList, c, vals_of_strs hi, hg⟩) (by rw [g]; exact I.bare) (fun _ z => nomatch z)
  have e : s' = { s with heap := s'.heap, gens := s'.gens, drawn := s'.drawn, toks := s'.toks } := by
    cases s'
    cases s
    cases o
    rfl
  rw [e]
  exact ⟨.ref p, _, J, rfl, q ys p hm hs hn⟩
end
end Hs

namespace Wp
open PySem PySem.Spec PyProof.Rows L2 Hx
/-! two loops in a comprehension -/
section
variable {J J1 : It} {n n1 : Nat} {G G1 : Hp → Prop} {Y Y1 : Nat → Hp → V → Hp → Prop} {g g1 : TG} {tt tt1 : TT} {te : TE} {vs vs1 : List Nat} {σ : L2.St} {H1 : Hp} {D : Addr}
theorem outer_it (w : Walk J n G Y) {wi1 : TI} {Qd : Hp → Prop} (Pv : Nat → Hp → Prop) (h0 : Pv 0 (upd H1 D (.lst []))) (hG : ∀ i H, i ≤ n → Pv i H → G H)
    (hs : ∀ i x H H', i < n → Pv i H → Y i H x H' → g x (wipe σ vs) H' fun σ2 H2 => wipe σ2 vs = wipe σ vs ∧ tt σ2 H2 fun b H3 =>
      if b = true then wi1 σ2 H3 fun J1 H4 => ∃ W1 : Nat → Nat → Hp → Prop, (∃ m, W1 0 m H4) ∧ ∀ j k H, W1 j k H →
        (J1.stop j H ∧ Pv (i + 1) H) ∨ (J1.go j H ∧ ∃ Nx1 : Hp → Prop, (∀ H', Nx1 H' → ∃ k', k' < k ∧ W1 (j + 1) k' H') ∧ ∀ x H', J1.yld j H x H' → g1 x (wipe σ2 vs1) H' fun σ3 H5 => wipe σ3 vs1 = wipe σ2 vs1 ∧ tt1 σ3 H5 fun b H6 =>
          if b = true then te σ3 H6 fun y H7 => ∃ acc, H7 D = some (.lst acc) ∧ acc.length < sizeLine ∧ Nx1 (upd H7 D (.lst (acc ++ [y]))) else Nx1 H6)
      else Pv (i + 1) H3) (hd : ∀ H, Pv n H → Qd H) :
    ∃ W : Nat → Nat → Hp → Prop, (∃ m, W 0 m (upd H1 D (.lst []))) ∧ ∀ i m H, W i m H →
      (J.stop i H ∧ Qd H) ∨ (J.go i H ∧ ∃ Nx : Hp → Prop, (∀ H', Nx H' → ∃ m', m' < m ∧ W (i + 1) m' H') ∧ ∀ x H', J.yld i H x H' → g x (wipe σ vs) H' fun σ2 H2 => wipe σ2 vs = wipe σ vs ∧ tt σ2 H2 fun b H3 =>
        if b = true then wi1 σ2 H3 fun J1 H4 => ∃ W1 : Nat → Nat → Hp → Prop, (∃ m, W1 0 m H4) ∧ ∀ j k H, W1 j k H →
          (J1.stop j H ∧ Nx H) ∨ (J1.go j H ∧ ∃ Nx1 : Hp → Prop, (∀ H', Nx1 H' → ∃ k', k' < k ∧ W1 (j + 1) k' H') ∧ ∀ x H', J1.yld j H x H' → g1 x (wipe σ2 vs1) H' fun σ3 H5 => wipe σ3 vs1 = wipe σ2 vs1 ∧ tt1 σ3 H5 fun b H6 =>
            if b = true then te σ3 H6 fun y H7 => ∃ acc, H7 D = some (.lst acc) ∧ acc.length < sizeLine ∧ Nx1 (upd H7 D (.lst (acc ++ [y]))) else Nx1 H6)
        else Nx H3) := by
  refine ⟨fun i m H => m = n - i ∧ i ≤ n ∧ Pv i H, ⟨n, rfl, Nat.zero_le _, h0⟩, ?_⟩
  rintro i m H ⟨rfl, hi, p⟩
  by_cases lt : i < n
  · exact .inr ⟨w.goes i H lt (hG i H hi p), Pv (i + 1), fun H' p' => ⟨n - (i + 1), by omega, rfl, lt, p'⟩, fun x H' y => hs i x H H' lt p (w.yields i H x H' lt (hG i H hi p) y)⟩
  · obtain rfl : i = n := by omega
    exact .inl ⟨w.stops H (hG i H hi p), hd H p⟩
theorem inner_it (w : Walk J1 n1 G1 Y1) {H4 : Hp} {Nx : Hp → Prop} (Pv : Nat → Hp → Prop) (h0 : Pv 0 H4) (hG : ∀ i H, i ≤ n1 → Pv i H → G1 H)
    (hs : ∀ j x H H', j < n1 → Pv j H → Y1 j H x H' → g1 x (wipe σ vs1) H' fun σ3 H5 => wipe σ3 vs1 = wipe σ vs1 ∧ tt1 σ3 H5 fun b H6 =>
      if b = true then te σ3 H6 fun y H7 => ∃ acc, H7 D = some (.lst acc) ∧ acc.length < sizeLine ∧ Pv (j + 1) (upd H7 D (.lst (acc ++ [y]))) else Pv (j + 1) H6) (hd : ∀ H, Pv n1 H → Nx H) :
    ∃ W1 : Nat → Nat → Hp → Prop, (∃ m, W1 0 m H4) ∧ ∀ j k H, W1 j k H →
      (J1.stop j H ∧ Nx H) ∨ (J1.go j H ∧ ∃ Nx1 : Hp → Prop, (∀ H', Nx1 H' → ∃ k', k' < k ∧ W1 (j + 1) k' H') ∧ ∀ x H', J1.yld j H x H' → g1 x (wipe σ vs1) H' fun σ3 H5 => wipe σ3 vs1 = wipe σ vs1 ∧ tt1 σ3 H5 fun b H6 =>
        if b = true then te σ3 H6 fun y H7 => ∃ acc, H7 D = some (.lst acc) ∧ acc.length < sizeLine ∧ Nx1 (upd H7 D (.lst (acc ++ [y]))) else Nx1 H6) := by
  refine ⟨fun i m H => m = n1 - i ∧ i ≤ n1 ∧ Pv i H, ⟨n1, rfl, Nat.zero_le _, h0⟩, ?_⟩
  rintro i m H ⟨rfl, hi, p⟩
  by_cases lt : i < n1
  · exact .inr ⟨w.goes i H lt (hG i H hi p), Pv (i + 1), fun H' p' => ⟨n1 - (i + 1), by omega, rfl, lt, p'⟩, fun x H' y => hs i x H H' lt p (w.yields i H x H' lt (hG i H hi p) y)⟩
  · obtain rfl : i = n1 := by omega
    exact .inl ⟨w.stops H (hG i H hi p), hd H p⟩
end
/-- what is told of an expression -/
structure Told where
  at_ : Addr
  own : Addr
  kind : Str
  text : Str
  told : List V
  inner : List V
  labels : List Str
  size : Int
def Told.stands (CF : Addr) (cls : Addr → Prop) (H : Hp) (e : Told) : Prop := XpAt CF cls H e.at_ e.own e.kind e.text e.told e.inner e.labels e.size
def namesOf (kind : Str) (told : List V) (es : List Told) : List Str := if kind = "name" then told.filterMap fun | .str s => some s | _ => none else es.flatMap (·.labels)
def spFacts (CF : Addr) (cls : Addr → Prop) : Sp := fun vs H Q _ => ∃ (a dx : Addr) (kind : Str) (pt pi : Addr) (told : List V) (es : List Told) (text : Str), vs = [.ref a, .str kind, .ref pt, .ref pi] ∧ H a = some (.ins CF dx []) ∧
  H pt = some (.tup told) ∧ H pi = some (.tup (es.map fun e => .ref e.at_)) ∧ (∀ e ∈ es, e.stands CF cls H ∧ e.labels.length ≤ 40) ∧ es.length ≤ 10 ∧ Spells CF cls H kind told (es.map fun e => .ref e.at_) text ∧
  ∀ H' pl ls, But a H H' → H' a = some (.ins CF dx (factL kind pt pi text pl (1 + (es.map (·.size)).sum))) → H' pl = some (.tup (ls.map V.str)) → ls.Perm ((namesOf kind told es).foldl Hs.put []) → sortedS ls = true → Q .non H'
section
variable {P : Program} {w : World} {K : PySem.W.Frag} {mg : Str → Option Value} {base : Heap} {f fS CF : Addr} {fd fdS : FuncData} {cls : Addr → Prop}
theorem scFacts : FnScope ["self", "kind", "told", "inner", "names", "name", "knot"] ["self", "kind", "told", "inner"] (defScope s_Facts_init) := ⟨rfl, rfl, rfl, by decide +kernel, rfl, by decide +kernel, by decide +kernel⟩
theorem seq_join {te : TE} {i : Nat} {u : TS} {D : Ends} {σ : L2.St} {H : Hp} (R : V → Hp → Prop) (h : ∀ Q : VK, (∀ v H', R v H' → Q v H') → te σ H Q) (hq : ∀ v H', R v H' → u D (σ.set i (some v)) H') : tSeq (tAsg te (gName i)) u D σ H := h _ hq
theorem but_ne {a dx CF : Addr} {H : Hp} {c : Addr} {o : HO} (ha : H a = some (.ins CF dx [])) (e : H c = some o) (n : o ≠ .ins CF dx []) : c ≠ a := fun z => by
  rw [z, ha] at e
  exact n (Option.some.inj e).symm
theorem xp_but {a dx CF : Addr} {H H' : Hp} {x C : Addr} {kind text : Str} {told inner : List V} {labels : List Str} {size : Int} (ha : H a = some (.ins CF dx [])) (b : But a H H') (h : XpAt CF cls H x C kind text told inner labels size) : XpAt CF cls H' x C kind text told inner labels size := by
  obtain ⟨dx', fa, dfa, pm, pi, pl, h0, h1, h2, h3, h4, h5⟩ := h
  refine ⟨dx', fa, dfa, pm, pi, pl, h0, b _ _ (but_ne ha h1 ?_) h1, b _ _ (but_ne ha h2 ?_) h2, b _ _ (but_ne ha h3 ?_) h3, b _ _ (but_ne ha h4 ?_) h4, b _ _ (but_ne ha h5 ?_) h5⟩
  · intro z
    cases z
  · intro z
    have y := (HO.ins.inj z).2.2
    unfold factL at y
    cases y
  · intro z
    cases z
  · intro z
    cases z
  · intro z
    cases z
theorem tx_but {a dx CF : Addr} {H H' : Hp} {v : V} {y : Str} (ha : H a = some (.ins CF dx [])) (b : But a H H') (h : TxAt CF cls H v y) : TxAt CF cls H' v y := by
  cases h with
  | int i h => exact .int i h
  | str => exact .str y
  | exp h => exact .exp (xp_but ha b h)
theorem paired_imp {α β : Type} {R S : α → β → Prop} (f : ∀ x y, R x y → S x y) : ∀ {xs : List α} {ys : List β}, Paired R xs ys → Paired S xs ys
  | _, _, .nil => .nil
  | _, _, .cons r t => .cons (f _ _ r) (paired_imp f t)
theorem flat_len : ∀ es : List Told, (∀ e ∈ es, e.labels.length ≤ 40) → (es.flatMap (·.labels)).length ≤ es.length * 40
  | [], _ => Nat.zero_le _
  | e :: es, h => by
    have h1 := h e List.mem_cons_self
    have h2 := flat_len es fun x hx => h x (List.mem_cons_of_mem _ hx)
    rw [List.flatMap_cons, List.length_append, List.length_cons, Nat.succ_mul]
    omega
theorem spells_but {a dx CF : Addr} {H H' : Hp} {kind text : Str} {told inner : List V} (ha : H a = some (.ins CF dx [])) (b : But a H H') (sp : Spells CF cls H kind told inner text) : Spells CF cls H' kind told inner text := by
  rcases sp with h | h | ⟨n1, n2, kf, ys, h1, h2, h3, e⟩
  · exact .inl h
  · exact .inr (.inl h)
  · exact .inr (.inr ⟨n1, n2, kf, ys, paired_imp (fun _ _ => tx_but ha b) h1, h2, h3, e⟩)
theorem put0 {v1 : V} : putF "word" v1 [] = ([("word", v1)] : List (Str × V)) := rfl
theorem put1 {v1 v2 : V} : putF "marks" v2 ([("word", v1)] : List (Str × V)) = ([("word", v1), ("marks", v2)] : List (Str × V)) := by kernel_rfl
theorem put2 {v1 v2 v3 : V} : putF "parts" v3 ([("word", v1), ("marks", v2)] : List (Str × V)) = ([("word", v1), ("marks", v2), ("parts", v3)] : List (Str × V)) := by kernel_rfl
theorem put3 {v1 v2 v3 v4 : V} : putF "text" v4 ([("word", v1), ("marks", v2), ("parts", v3)] : List (Str × V)) = ([("word", v1), ("marks", v2), ("parts", v3), ("text", v4)] : List (Str × V)) := by kernel_rfl
theorem put4 {v1 v2 v3 v4 v5 : V} : putF "labels" v5 ([("word", v1), ("marks", v2), ("parts", v3), ("text", v4)] : List (Str × V)) = ([("word", v1), ("marks", v2), ("parts", v3), ("text", v4), ("labels", v5)] : List (Str × V)) := by kernel_rfl
theorem put5 {v1 v2 v3 v4 v5 v6 : V} : putF "size" v6 ([("word", v1), ("marks", v2), ("parts", v3), ("text", v4), ("labels", v5)] : List (Str × V)) = ([("word", v1), ("marks", v2), ("parts", v3), ("text", v4), ("labels", v5), ("size", v6)] : List (Str × V)) := by kernel_rfl
structure FactsC (K : PySem.W.Frag) (CF : Addr) : Prop where
  cls : Cls K CF
  no : ∀ f ∈ (["word", "marks", "parts", "text", "labels", "size"] : List Str), NoAttr K CF f
structure Bltn2 (mg : Str → Option Value) : Prop where
  list : mg "list" = none
  set : mg "set" = none
  sorted : mg "sorted" = none
  tuple : mg "tuple" = none
  sum : mg "sum" = none
theorem ok_facts (F : Fun K "__init__" "Facts.__init__" s_Facts_init f fd) (Z : Bltn2 mg) (T : Kls P w K mg base CF cls) (FC : FactsC K CF)
    (GS : FnOk P w K mg base CX0 4 fS fdS ["kind", "told", "inner"] (spSpelled CF cls)) (bS : Binds K fdS ["kind", "told", "inner"] []) (kS : PySem.W.keepIn K (.ref fS) = true) (mS : mg "spelled" = some (.ref fS)) :
    FnOk P w K mg base CX0 5 f fd ["self", "kind", "told", "inner"] (spFacts CF cls) := by
  refine F.ok scFacts (fun vs H Q E h => ?_) (fun cdv A outer s H vs Q E hr h => ?_)
  · obtain ⟨a, dx, kind, pt, pi, told, es, text, rfl, _⟩ := h
    rfl
  obtain ⟨a, dx, kind, pt, pi, told, es, text, rfl, ha, ht, hi, hes, few, sp, q⟩ := h
  refine ⟨_, pss_cons (ps_fld (pv 0) (pv 1) rfl) (pss_cons (ps_fld (pv 0) (pv 2) rfl) (pss_cons (ps_fld (pv 0) (pv 3) rfl)
    (pss_cons (ps_fld (pv 0) (pe_call GS hr rfl mS kS bS .nil pass0 (pa_cons (pv 1) (pa_cons (pv 2) (pa_cons (pv 3) pa_nil)))) rfl)
    (pss_cons (ps_set (i := 4) scFacts.nd rfl (Or.inl rfl) (pe_ifExp (pt_cmpR op_eq (pv 1) pe_str (nomark _)) (pe_callTy call_list_of (by rfl) Z.list (by decide +kernel) (pa_cons (pv 2) pa_nil))
        (pe_lc2 (te := tVar 5) (own := [("knot", 6), ("name", 5)]) (vs1 := [5]) (g := gName 6) (tt := tYes) (g1 := gName 5) (tt1 := tYes) (wi1 := iTup K (tPropA P w K mg base 1 "names" (tVar 6))) rfl scFacts.nd (pi_tup (pv 3)) (blkOk_by (N := ["self", "kind", "told", "inner", "names", "name", "knot"]) (sc := defScope s_Facts_init) (by decide +kernel)) (by decide)
          (fun _ _ _ _ _ => pg_name (i := 6) scFacts.nd rfl (Or.inl rfl)) (fun _ _ _ _ _ => pts_nil) (fun _ _ _ _ _ => pi_tup (pe_propA (k := 1) (pv 6) (hr.mono (by decide)) rfl)) (fun _ _ _ _ _ => pg_name (i := 5) scFacts.nd rfl (Or.inl rfl)) (fun _ _ _ _ _ => pts_nil) (fun _ _ _ _ _ => pv 5))))
    (pss_cons (ps_fld (pv 0) (pe_callTy call_tuple_of (by rfl) Z.tuple (by decide +kernel) (pa_cons (pe_callB (Hs.call_sortedOf rfl) (by rfl) Z.sorted (by decide +kernel) (pa_cons (pe_callTy (Hs.call_setOf rfl) (by rfl) Z.set (by decide +kernel) (pa_cons (pv 4) pa_nil)) pa_nil)) pa_nil)) rfl)
    (pss_one (ps_fld (pv 0) (pe_op op_add pe_int (pe_callB (cr_sum rfl) (by rfl) Z.sum (by decide +kernel) (pa_cons (pe_lc (te := tPropA P w K mg base 1 "knots" (tVar 6)) (own := [("knot", 6)]) (g := gName 6) (tt := tYes) rfl scFacts.nd (pi_tup (pv 3)) (blkOk_by (N := ["self", "kind", "told", "inner", "names", "name", "knot"]) (sc := defScope s_Facts_init) (by decide +kernel))
          (fun _ _ _ _ _ => pg_name (i := 6) scFacts.nd rfl (Or.inl rfl)) (fun _ _ _ _ _ => pts_nil) (fun _ _ _ _ _ => pe_propA (k := 1) (pv 6) (hr.mono (by decide)) rfl)) pa_nil))) rfl))))))), ?_⟩
  have npt : pt ≠ a := but_ne ha ht (by intro z; cases z)
  have npi : pi ≠ a := but_ne ha hi (by intro z; cases z)
  have no := FC.no
  refine ⟨_, rfl, _, rfl, a, CF, dx, [], rfl, ha, FC.cls, no "word" (by simp), (by show 0 < 1000; decide), ?_⟩
  rw [put0]
  have b1 : But a H (upd H a (.ins CF dx ([("word", V.str kind)] : List (Str × V)))) := But.refl.upd _
  refine ⟨_, rfl, _, rfl, a, CF, dx, [("word", V.str kind)], rfl, upd_same, FC.cls, no "marks" (by simp), (by show 1 < 1000; decide), ?_⟩
  rw [put1]
  have b2 := b1.upd (.ins CF dx ([("word", V.str kind), ("marks", .ref pt)] : List (Str × V)))
  refine ⟨_, rfl, _, rfl, a, CF, dx, _, rfl, upd_same, FC.cls, no "parts" (by simp), (by show 2 < 1000; decide), ?_⟩
  rw [put2]
  have b3 := b2.upd (.ins CF dx ([("word", V.str kind), ("marks", .ref pt), ("parts", .ref pi)] : List (Str × V)))
  obtain ⟨H3, e3, b3, h3a⟩ : ∃ H3, upd (upd (upd H a (.ins CF dx ([("word", V.str kind)] : List (Str × V)))) a (.ins CF dx ([("word", V.str kind), ("marks", .ref pt)] : List (Str × V)))) a (.ins CF dx ([("word", V.str kind), ("marks", .ref pt), ("parts", .ref pi)] : List (Str × V))) = H3 ∧ But a H H3 ∧
      H3 a = some (.ins CF dx ([("word", V.str kind), ("marks", .ref pt), ("parts", .ref pi)] : List (Str × V))) := ⟨_, rfl, b3, upd_same⟩
  rw [e3]
  refine ⟨_, rfl, _, rfl, _, rfl, kind, pt, pi, told, _, text, rfl, b3 pt _ npt ht, b3 pi _ npi hi, spells_but ha b3 sp, fun H4 s4 => ?_⟩
  refine ⟨_, rfl, a, CF, dx, _, rfl, s4 _ _ h3a, FC.cls, no "text" (by simp), (by show 3 < 1000; decide), ?_⟩
  rw [put3]
  obtain ⟨H5, e5, b5, h5a⟩ : ∃ H5, upd H4 a (.ins CF dx ([("word", V.str kind), ("marks", .ref pt), ("parts", .ref pi), ("text", .str text)] : List (Str × V))) = H5 ∧ But a H H5 ∧
      H5 a = some (.ins CF dx ([("word", V.str kind), ("marks", .ref pt), ("parts", .ref pi), ("text", .str text)] : List (Str × V))) := ⟨_, rfl, (b3.trans (But.of s4)).upd _, upd_same⟩
  rw [e5]
  have hpi5 := b5 pi _ npi hi
  dsimp only
  refine seq_join (fun v H' => ∃ D, v = .ref D ∧ Same H5 H' ∧ H' D = some (.lst ((namesOf kind told es).map V.str)) ∧ (namesOf kind told es).length ≤ 400) (fun Q' hQ => ?_) ?_
  · refine ⟨_, rfl, rfl, _, rfl, ?_⟩
    by_cases hk : kind = "name"
    · subst hk
      rw [decide_eq_true rfl]
      obtain ⟨s', rfl⟩ : ∃ s', told = [V.str s'] := by
        rcases sp with ⟨z, _⟩ | ⟨_, s', e, _⟩ | ⟨_, z, _⟩
        · exact absurd z (by decide +kernel)
        · exact ⟨s', e⟩
        · exact absurd rfl z
      exact iteT ⟨_, rfl, pt, _, rfl, .inr (SqT.of (b5 pt _ npt ht)), fun l hl => hQ _ _ ⟨l, rfl, same_new hl _, upd_same, by show 1 ≤ 400; decide⟩⟩
    · have en : namesOf kind told es = es.flatMap (·.labels) := by
        unfold namesOf
        rw [if_neg hk]
      have fl := flat_len es fun e he => (hes e he).2
      rw [str_ne hk]
      refine iteF ⟨_, rfl, pi, rfl, ⟨_, SqT.of hpi5⟩, fun D hD => ?_⟩
      refine outer_it walk_tup (fun i H' => Same H5 H' ∧ H' D = some (.lst (((es.take i).flatMap (·.labels)).map V.str))) ⟨same_new hD _, upd_same⟩ (fun i H' _ h => SqT.of (h.1 _ _ hpi5)) ?_ ?_
      · rintro i x H6 _ hi' ⟨s6, h6⟩ ⟨rfl, hx⟩
        rw [List.getElem?_map] at hx
        cases he : es[i]? with
        | none =>
          rw [he] at hx
          cases hx
        | some e =>
          rw [he] at hx
          cases hx
          have he2 := hes e (List.mem_of_getElem? he)
          obtain ⟨dx', fa, dfa, pm, pi', pl, hc, g1, g2, g3, g4, g5⟩ := xp_but ha b5 he2.1
          have ft := flat_len (es.take i) fun e he => (hes e (List.mem_of_mem_take he)).2
          have lt : (es.take i).length ≤ 10 := Nat.le_trans (by rw [List.length_take]; exact Nat.min_le_right _ _) few
          refine ⟨rfl, turn_yes ?_⟩
          refine ⟨_, rfl, e.at_, e.own, dx', _, spGet e.own CF "labels", rfl, s6 _ _ g1, T.get e.own hc "names" "labels" (by simp), e.at_, dx', fa, dfa, _, _, .ref pl, rfl, s6 _ _ g1, rfl, s6 _ _ g2, rfl, pl, rfl, ⟨_, SqT.of (s6 _ _ g5)⟩, ?_⟩
          refine inner_it walk_tup (fun j H' => Same H5 H' ∧ H' D = some (.lst ((((es.take i).flatMap (·.labels)) ++ e.labels.take j).map V.str))) ⟨s6, by rw [List.take_zero, List.append_nil]; exact h6⟩ (fun j H' _ h => SqT.of (h.1 _ _ g5)) ?_ ?_
          · rintro j y H7 _ hj ⟨s7, h7⟩ ⟨rfl, hy⟩
            rw [List.getElem?_map] at hy
            cases hl : e.labels[j]? with
            | none =>
              rw [hl] at hy
              cases hy
            | some l =>
              rw [hl] at hy
              cases hy
              refine ⟨rfl, turn_yes ⟨_, rfl, _, h7, ?_, fun b o hb => ?_, ?_⟩⟩
              · rw [List.length_map, List.length_append, List.length_take]
                exact Nat.lt_of_lt_of_le (by have := he2.2; omega : _ < 1000) (small_line (Nat.le_refl _))
              · rw [upd_ne (ne_of_none hb hD)]
                exact s7 b o hb
              · rw [upd_same, List.take_add_one, hl]
                simp
          · rintro H7 ⟨s7, h7⟩
            rw [List.length_map, List.take_of_length_le (Nat.le_refl _)] at h7
            refine ⟨s7, ?_⟩
            rw [List.take_add_one, he, List.flatMap_append, h7]
            simp
      · rintro H6 ⟨s6, h6⟩
        rw [List.length_map, List.take_of_length_le (Nat.le_refl _)] at h6
        exact hQ _ _ ⟨D, rfl, s6, by rw [en]; exact h6, by rw [en]; omega⟩
  rintro _ H6 ⟨D, rfl, s6, h6, nf⟩
  have ml := Hs.puts_len (namesOf kind told es) []
  refine ⟨_, rfl, D, namesOf kind told es, rfl, SqL.of h6, by omega, fun ps hps => ?_⟩
  refine ⟨ps, _, rfl, upd_same, by rw [List.length_nil] at ml; omega, fun ls p1 perm srt np1 => ?_⟩
  refine ⟨p1, _, rfl, .inl ⟨SqL.of upd_same, fun pl hpl => ?_⟩⟩
  have s7 := ((s6.trans (same_new hps (Hs.SetS P w ps ((namesOf kind told es).foldl Hs.put [])))).trans (same_new np1 (.lst (ls.map V.str)))).trans (same_new hpl (.tup (ls.map V.str)))
  refine ⟨_, rfl, a, CF, dx, _, rfl, s7 _ _ h5a, FC.cls, no "labels" (by simp), (by show 4 < 1000; decide), ?_⟩
  rw [put4]
  have b7 := (b5.trans (But.of s7)).upd (.ins CF dx ([("word", V.str kind), ("marks", .ref pt), ("parts", .ref pi), ("text", .str text), ("labels", .ref pl)] : List (Str × V)))
  have s67 := (s6.trans (same_new hps (Hs.SetS P w ps ((namesOf kind told es).foldl Hs.put [])))).trans (same_new np1 (.lst (ls.map V.str)))
  have apl : a ≠ pl := ne_of_none (s67 _ _ h5a) hpl
  refine ⟨_, rfl, pi, rfl, ⟨_, SqT.of (b7 pi _ npi hi)⟩, fun D2 hD2 => ?_⟩
  have d1 : a ≠ D2 := ne_of_none upd_same hD2
  have d2 : pl ≠ D2 := ne_of_none (o := .tup (ls.map V.str)) (by rw [upd_ne (Ne.symm apl)]; exact upd_same) hD2
  have d3 : ∀ b o, b ≠ a → H b = some o → b ≠ D2 := fun b o n hb => ne_of_none (b7 b o n hb) hD2
  refine lc_tup (K := K) (a := pi) (xs := es.map fun e => V.ref e.at_) (fun i H' => But a H H' ∧ H' a = some (.ins CF dx ([("word", V.str kind), ("marks", .ref pt), ("parts", .ref pi), ("text", .str text), ("labels", .ref pl)] : List (Str × V))) ∧ H' pl = some (.tup (ls.map V.str)) ∧ H' D2 = some (.lst (((es.take i).map (·.size)).map V.int)))
    ⟨fun b o n hb => by rw [upd_ne (d3 b o n hb)]; exact b7 b o n hb, by rw [upd_ne d1]; exact upd_same, by rw [upd_ne d2, upd_ne (Ne.symm apl)]; exact upd_same, upd_same⟩ (fun i H' _ h => SqT.of (h.1 pi _ npi hi)) ?_ ?_
  · rintro i x H8 hx ⟨c1, c2, c3, c4⟩
    rw [List.getElem?_map] at hx
    cases he : es[i]? with
    | none =>
      rw [he] at hx
      cases hx
    | some e =>
      rw [he] at hx
      cases hx
      have he2 := hes e (List.mem_of_getElem? he)
      obtain ⟨dx', fa, dfa, pm, pi', pl', hc, g1, g2, g3, g4, g5⟩ := xp_but ha c1 he2.1
      refine ⟨rfl, turn_yes ?_⟩
      refine ⟨_, rfl, e.at_, e.own, dx', _, spGet e.own CF "size", rfl, g1, T.get e.own hc "knots" "size" (by simp), e.at_, dx', fa, dfa, _, _, .int e.size, rfl, g1, rfl, g2, rfl, _, c4, ?_, ?_⟩
      · rw [List.length_map, List.length_map, List.length_take]
        exact Nat.lt_of_lt_of_le (by omega : _ < 1000) (small_line (Nat.le_refl _))
      · refine ⟨fun b o n hb => by rw [upd_ne (d3 b o n hb)]; exact c1 b o n hb, by rw [upd_ne d1]; exact c2, by rw [upd_ne d2]; exact c3, ?_⟩
        rw [upd_same, List.take_add_one, he]
        simp
  · rintro H8 ⟨c1, c2, c3, c4⟩
    rw [List.length_map, List.take_of_length_le (Nat.le_refl _)] at c4
    refine ⟨D2, es.map (·.size), rfl, SqL.of c4, _, _, rfl, rfl, _, rfl, a, CF, dx, _, rfl, c2, FC.cls, no "size" (by simp), (by show 5 < 1000; decide), ?_⟩
    rw [put5]
    exact q _ pl ls (c1.upd _) upd_same (by rw [upd_ne (Ne.symm apl)]; exact c3) perm srt
end
end Wp

namespace Wp
open PySem PySem.Spec PyProof.Rows L2 Hx
/-! an object that has just been made -/
theorem born {H : Hp} {x dx C : Addr} (hx : H x = none) (hdx : H dx = none) (ne : dx ≠ x) : Same H (upd (upd H dx (.own x)) x (.ins C dx [])) := fun b o hb => by
  rw [upd_ne (ne_of_none hb hx), upd_ne (ne_of_none hb hdx)]
  exact hb
theorem grown {H H' : Hp} {x dx C : Addr} (hx : H x = none) (hdx : H dx = none) (ne : dx ≠ x) (b : But x (upd (upd H dx (.own x)) x (.ins C dx [])) H') : Same H H' := fun c o hc =>
  b c o (ne_of_none hc hx) (born hx hdx ne c o hc)
theorem Told.same {CF : Addr} {cls : Addr → Prop} {H H' : Hp} {e : Told} (h : e.stands CF cls H) (s : Same H H') : e.stands CF cls H' := XpAt.same h s
/-- the promise of the __init__ of an expression without inner ones -/
def spLeaf (K : PySem.W.Frag) (CF : Addr) (cls : Addr → Prop) (g : Str → Bool) (Ce : Addr) (kind : Str) (mk : Str → Str) (lab : Str → List Str) : Sp := fun vs H Q E => ∃ (a dx C : Addr) (v : V), vs = [.ref a, v] ∧ cls C ∧ H a = some (.ins C dx []) ∧
  ((∃ x : Str, v = .str x ∧ x.length ≤ 1000 ∧ g x = true ∧ ∀ H', But a H H' → XpAt CF cls H' a C kind (mk x) [v] [] (lab x) 1 → Q .non H') ∨
    (((∃ x : Str, v = .str x ∧ x.length ≤ 1000 ∧ g x = false) ∨ NotStr K H v) ∧ Tells E Ce v H))
/-- what is known of the class Facts -/
structure FactsOk (P : Program) (w : World) (K : PySem.W.Frag) (mg : Str → Option Value) (base : Heap) (CF : Addr) (cls : Addr → Prop) : Prop where
  m : mg "Facts" = some (.ref CF)
  go : ∃ (fI : Addr) (fd : FuncData), Mk K CF fI ∧ FnOk P w K mg base CX0 5 fI fd ["self", "kind", "told", "inner"] (spFacts CF cls) ∧ Binds K fd ["self", "kind", "told", "inner"] []
/-- of a class of expressions, for its own stores -/
structure Own (K : PySem.W.Frag) (C : Addr) : Prop where
  cls : Cls K C
  no : NoAttr K C "facts"
section
variable {P : Program} {w : World} {K : PySem.W.Frag} {mg : Str → Option Value} {base : Heap} {f fC CF Ce : Addr} {fd fdC : FuncData} {cls : Addr → Prop}
theorem finish {H3 : Hp} {a dx C y dy pt pi pl : Addr} {kind text : Str} {told inner : List V} {ls : List Str} {size : Int} (hC : cls C) (ha : H3 a = some (.ins C dx [])) (h1 : H3 y = some (.ins CF dy (factL kind pt pi text pl size)))
    (hpt : H3 pt = some (.tup told)) (hpi : H3 pi = some (.tup inner)) (h2 : H3 pl = some (.tup (ls.map V.str))) :
    XpAt CF cls (upd H3 a (.ins C dx (putF "facts" (.ref y) []))) a C kind text told inner ls size ∧ ∀ H, Same H H3 → But a H (upd H3 a (.ins C dx (putF "facts" (.ref y) []))) := by
  refine ⟨⟨dx, y, dy, pt, pi, pl, hC, upd_same, ?_, ?_, ?_, ?_⟩, fun H s => (But.of s).upd _⟩
  · rw [upd_ne (but_ne ha h1 ?_)]
    · exact h1
    · intro z
      have y := (HO.ins.inj z).2.2
      unfold factL at y
      cases y
  · rw [upd_ne (but_ne ha hpt (by intro z; cases z))]
    exact hpt
  · rw [upd_ne (but_ne ha hpi (by intro z; cases z))]
    exact hpi
  · rw [upd_ne (but_ne ha h2 (by intro z; cases z))]
    exact h2
theorem scSign : FnScope ["self", "sign"] ["self", "sign"] (defScope s_Sign_init) := ⟨rfl, rfl, rfl, by decide +kernel, rfl, by decide +kernel, by decide +kernel⟩
theorem ok_sign (F : Fun K "__init__" "Sign.__init__" s_Sign_init f fd) (FO : FactsOk P w K mg base CF cls) (OW : ∀ C, cls C → Own K C)
    (GC : FnOk P w K mg base (L2.CX P w) 3 fC fdC ["given"] (spCheck K (lettered 1) Ce)) (bC : Binds K fdC ["given"] []) (kC : PySem.W.keepIn K (.ref fC) = true) (mC : mg "check_sign" = some (.ref fC)) :
    FnOk P w K mg base (L2.CX P w) 7 f fd ["self", "sign"] (spLeaf K CF cls (lettered 1) Ce "sign" (fun x => ((Str.empty ++ "'") ++ x) ++ "'") fun _ => []) := by
  refine F.okX scSign (fun vs H Q E h => ?_) (fun cdv A outer s H vs Q E hr h => ?_)
  · obtain ⟨a, dx, C, v, rfl, _⟩ := h
    rfl
  obtain ⟨a, dx, C, v, rfl, hC, ha, h⟩ := h
  obtain ⟨fI, fdI, M, GI, bI⟩ := FO.go
  have tk := takes_of (X := cxOf (L2.CX P w) P w K mg base ["self", "sign"] "Sign.__init__" (defScope s_Sign_init) f cdv A outer s H E) rfl rfl rfl rfl
  refine ⟨_, pss_cons (ps_expr (pe_callS GC (hr.mono (by decide)) rfl mC kC bC (fun σ => passAt tk σ) (pa_cons (pv 1) pa_nil)))
    (pss_one (ps_fld (pv 0) (pe_make M GI hr rfl FO.m bI .nil pass0 (pa_cons pe_str (pa_cons (pe_tup (pa_cons (pv 1) pa_nil)) (pa_cons (pe_tup pa_nil) pa_nil)))) rfl)), ?_⟩
  rcases h with ⟨x, rfl, few, e, q⟩ | ⟨bad, t⟩
  · refine ⟨_, rfl, _, rfl, .inl ⟨x, rfl, Nat.le_trans few (by decide), e, fun H1 s1 => ?_⟩⟩
    refine ⟨_, rfl, (by show 1 ≤ sizeLine; decide), fun pt hpt => ⟨(by show 0 ≤ sizeLine; decide), fun pi hpi => fun y dy hy hdy ne => ?_⟩⟩
    have s2 := (s1.trans (same_new hpt (.tup [V.str x]))).trans (same_new hpi (.tup []))
    have g := born (C := CF) hy hdy ne
    refine ⟨y, dy, "sign", pt, pi, [V.str x], [], _, rfl, upd_same, g _ _ (upd_other upd_same hpi), g _ _ upd_same, (fun e he => nomatch he), by decide, .inl ⟨rfl, x, rfl, few, rfl⟩, fun H3 pl ls b h1 h2 h3 h4 => ⟨rfl, ?_⟩⟩
    have s3 := grown hy hdy ne b
    have s4 := s2.trans s3
    refine ⟨_, rfl, a, C, dx, [], rfl, s4 _ _ ha, (OW C hC).cls, (OW C hC).no, (by show 0 < 1000; decide), ?_⟩
    obtain ⟨r1, r2⟩ := finish (a := a) hC (s4 _ _ ha) h1 (s3 _ _ (upd_other upd_same hpi)) (s3 _ _ upd_same) h2
    have en : ls = [] := by
      rw [show namesOf "sign" [V.str x] [] = [] from by unfold namesOf; rw [if_neg (by decide +kernel)]; rfl] at h3
      exact List.perm_nil.mp h3
    subst en
    exact q _ (r2 H s4) r1
  · refine ⟨_, rfl, _, rfl, .inr ⟨?_, t⟩⟩
    rcases bad with ⟨x, rfl, few, e⟩ | n
    · exact .inl ⟨x, rfl, Nat.le_trans few (by decide), e⟩
    · exact .inr n
end
end Wp

namespace Wp
open PySem PySem.Spec PyProof.Rows L2 Hx
def IsExp (K : PySem.W.Frag) (CE : Addr) (H : Hp) (v : V) : Prop := ∃ t, TyX K H v t ∧ PySem.W.kitOne K t (.ref CE) = some true
def NotExp (K : PySem.W.Frag) (CE : Addr) (H : Hp) (v : V) : Prop := ∃ t, TyX K H v t ∧ PySem.W.kitOne K t (.ref CE) = some false
def spCheckAll (K : PySem.W.Frag) (CE Ce : Addr) : Sp := fun vs H Q E => ∃ (p : Addr) (xs : List V), vs = [.ref p] ∧ H p = some (.tup xs) ∧ (((∀ x ∈ xs, IsExp K CE H x) ∧ Q .non H) ∨
  ∃ (j : Nat) (x : V), xs[j]? = some x ∧ (∀ (i : Nat) (y : V), i < j → xs[i]? = some y → IsExp K CE H y) ∧ NotExp K CE H x ∧ Tells E Ce x H)
section
variable {P : Program} {w : World} {K : PySem.W.Frag} {mg : Str → Option Value} {base : Heap} {f fC CF CE Ce : Addr} {fd fdC : FuncData} {cls : Addr → Prop}
theorem scName2 : FnScope ["self", "name"] ["self", "name"] (defScope s_Name_init) := ⟨rfl, rfl, rfl, by decide +kernel, rfl, by decide +kernel, by decide +kernel⟩
theorem ok_nameE (F : Fun K "__init__" "Name.__init__" s_Name_init f fd) (FO : FactsOk P w K mg base CF cls) (OW : ∀ C, cls C → Own K C)
    (GC : FnOk P w K mg base (L2.CX P w) 3 fC fdC ["given"] (spCheck K nameB Ce)) (bC : Binds K fdC ["given"] []) (kC : PySem.W.keepIn K (.ref fC) = true) (mC : mg "check_name" = some (.ref fC)) :
    FnOk P w K mg base (L2.CX P w) 7 f fd ["self", "name"] (spLeaf K CF cls nameB Ce "name" (fun x => x) fun x => [x]) := by
  refine F.okX scName2 (fun vs H Q E h => ?_) (fun cdv A outer s H vs Q E hr h => ?_)
  · obtain ⟨a, dx, C, v, rfl, _⟩ := h
    rfl
  obtain ⟨a, dx, C, v, rfl, hC, ha, h⟩ := h
  obtain ⟨fI, fdI, M, GI, bI⟩ := FO.go
  have tk := takes_of (X := cxOf (L2.CX P w) P w K mg base ["self", "name"] "Name.__init__" (defScope s_Name_init) f cdv A outer s H E) rfl rfl rfl rfl
  refine ⟨_, pss_cons (ps_expr (pe_callS GC (hr.mono (by decide)) rfl mC kC bC (fun σ => passAt tk σ) (pa_cons (pv 1) pa_nil)))
    (pss_one (ps_fld (pv 0) (pe_make M GI hr rfl FO.m bI .nil pass0 (pa_cons pe_str (pa_cons (pe_tup (pa_cons (pv 1) pa_nil)) (pa_cons (pe_tup pa_nil) pa_nil)))) rfl)), ?_⟩
  rcases h with ⟨x, rfl, few, e, q⟩ | ⟨bad, t⟩
  · refine ⟨_, rfl, _, rfl, .inl ⟨x, rfl, Nat.le_trans few (by decide), e, fun H1 s1 => ?_⟩⟩
    refine ⟨_, rfl, (by show 1 ≤ sizeLine; decide), fun pt hpt => ⟨(by show 0 ≤ sizeLine; decide), fun pi hpi => fun y dy hy hdy ne => ?_⟩⟩
    have s2 := (s1.trans (same_new hpt (.tup [V.str x]))).trans (same_new hpi (.tup []))
    have g := born (C := CF) hy hdy ne
    refine ⟨y, dy, "name", pt, pi, [V.str x], [], _, rfl, upd_same, g _ _ (upd_other upd_same hpi), g _ _ upd_same, (fun e he => nomatch he), by decide, .inr (.inl ⟨rfl, x, rfl, rfl⟩), fun H3 pl ls b h1 h2 h3 h4 => ⟨rfl, ?_⟩⟩
    have s3 := grown hy hdy ne b
    have s4 := s2.trans s3
    refine ⟨_, rfl, a, C, dx, [], rfl, s4 _ _ ha, (OW C hC).cls, (OW C hC).no, (by show 0 < 1000; decide), ?_⟩
    obtain ⟨r1, r2⟩ := finish (a := a) hC (s4 _ _ ha) h1 (s3 _ _ (upd_other upd_same hpi)) (s3 _ _ upd_same) h2
    have en : ls = [x] := by
      rw [show namesOf "name" [V.str x] [] = [x] from by unfold namesOf; rw [if_pos rfl]; rfl] at h3
      exact List.perm_singleton.mp h3
    subst en
    exact q _ (r2 H s4) r1
  · refine ⟨_, rfl, _, rfl, .inr ⟨?_, t⟩⟩
    rcases bad with ⟨x, rfl, few, e⟩ | n
    · exact .inl ⟨x, rfl, Nat.le_trans few (by decide), e⟩
    · exact .inr n
theorem scCkE : FnScope ["values", "value"] ["values"] (defScope s_check_expressions) := ⟨rfl, rfl, rfl, by decide +kernel, rfl, by decide +kernel, by decide +kernel⟩
theorem ok_ckE (F : Fun K "check_expressions" "check_expressions" s_check_expressions f fd) (Z : Bltn mg) (M : MkC P w K mg base "InvalidExpression" Ce "given") (ty : PySem.W.typeIn K (.ref Ce) = some (.type "type")) (mE : mg "Expression" = some (.ref CE)) :
    FnOk P w K mg base (L2.CX P w) 3 f fd ["values"] (spCheckAll K CE Ce) := by
  refine F.okX scCkE (fun vs H Q E h => ?_) (fun cdv A outer s H vs Q E hr h => ?_)
  · obtain ⟨p, xs, rfl, _⟩ := h
    rfl
  obtain ⟨p, xs, rfl, hp, h⟩ := h
  refine ⟨_, pss_one (ps_for (passes_of rfl) rfl (pi_tup (pv 0)) (pg_name (i := 1) scCkE.nd rfl (Or.inl rfl))
    (pss_one (ps_if (pt_not (pt_val (pe_callB call_isi (by rfl) Z.isinstance PyProof.Rows.boot_isinstance (pa_cons (pv 1) (pa_cons (pe_gref rfl mE) pa_nil))))) (pss_one (ps_raise1 M ty rfl (takes_of rfl rfl rfl rfl) hr rfl (pv 1))) pss_nil))), ?_⟩
  have hS : SqT K H p xs := SqT.of hp
  rcases h with ⟨all, q⟩ | ⟨j, x, hj, bef, bad, t⟩
  · refine ⟨_, rfl, p, rfl, ⟨_, hS⟩, for_tup (xs := xs) (fun i σ H' => H = H' ∧ ∃ v, σ = [some (V.ref p), v]) ⟨rfl, none, rfl⟩ (fun i σ H' _ h => h.1 ▸ hS) ?_ ?_⟩
    · rintro i x σ H' hx ⟨rfl, v, rfl⟩
      obtain ⟨ty', t1, t2⟩ := all x (List.mem_of_getElem? hx)
      exact ⟨_, rfl, _, _, ty', _, true, rfl, .own CE, t1, t2, _, rfl, iteF ⟨rfl, _, rfl⟩⟩
    · rintro σ H' ⟨rfl, v, rfl⟩
      exact q
  · obtain ⟨tb, b1, b2⟩ := bad
    refine ⟨_, rfl, p, rfl, ⟨_, hS⟩, for_tup (xs := xs) (fun i σ H' => H = H' ∧ i ≤ j ∧ ∃ v, σ = [some (V.ref p), v]) ⟨rfl, Nat.zero_le _, none, rfl⟩ (fun i σ H' _ h => h.1 ▸ hS) ?_ ?_⟩
    · rintro i y σ H' hy ⟨rfl, hi, v, rfl⟩
      by_cases c : i = j
      · subst c
        rw [hj] at hy
        cases hy
        exact ⟨_, rfl, _, _, tb, _, false, rfl, .own CE, b1, b2, _, rfl, iteT ⟨_, rfl, fun d hd => t H d (Same.refl H) hd⟩⟩
      · obtain ⟨ty', t1, t2⟩ := bef i y (by omega) hy
        exact ⟨_, rfl, _, _, ty', _, true, rfl, .own CE, t1, t2, _, rfl, iteF ⟨rfl, by omega, _, rfl⟩⟩
    · rintro σ H' ⟨_, hi, _⟩
      have lt := (List.getElem?_eq_some_iff.mp hj).1
      exact absurd lt (by omega)
end
end Wp

namespace Wp
open PySem PySem.Spec PyProof.Rows L2 Hx
/-- the text of an expression of a word -/
def spell (kind : Str) (ys : List Str) : Str := (((Str.empty ++ kind) ++ "(") ++ Str.join ", " ys) ++ ")"
/-- an inner expression that may be passed -/
structure Arg (CF : Addr) (cls : Addr → Prop) (H : Hp) (e : Told) : Prop where
  stands : e.stands CF cls H
  few : e.labels.length ≤ 40
  short : e.text.length ≤ 20000
theorem Arg.same {CF : Addr} {cls : Addr → Prop} {H H' : Hp} {e : Told} (h : Arg CF cls H e) (s : Same H H') : Arg CF cls H' e := ⟨XpAt.same h.stands s, h.few, h.short⟩
/-- a new expression of inner ones stands at a -/
def Made (CF : Addr) (cls : Addr → Prop) (H : Hp) (a C : Addr) (kind text : Str) (told : List V) (es : List Told) (Q : VK) : Prop :=
  ∀ H' ls, But a H H' → XpAt CF cls H' a C kind text told (es.map fun e => .ref e.at_) ls (1 + (es.map (·.size)).sum) → ls.Perm ((namesOf kind told es).foldl Hs.put []) → sortedS ls = true → Q .non H'
def IsX (K : PySem.W.Frag) (CE : Addr) (cls : Addr → Prop) : Prop := ∀ (H : Hp) (C a dx : Addr) (fs : List (Str × V)), cls C → H a = some (.ins C dx fs) → IsExp K CE H (.ref a)
theorem Arg.isx {K : PySem.W.Frag} {CE CF : Addr} {cls : Addr → Prop} {H : Hp} {e : Told} (h : Arg CF cls H e) (ix : IsX K CE cls) : IsExp K CE H (.ref e.at_) := by
  obtain ⟨dx, fa, dfa, pm, pi, pl, hc, e1, _⟩ := h.stands
  exact ix H _ _ dx _ hc e1
theorem IsExp.same {K : PySem.W.Frag} {CE CF : Addr} {cls : Addr → Prop} {H H' : Hp} {e : Told} (h : Arg CF cls H e) (ix : IsX K CE cls) (s : Same H H') : IsExp K CE H' (.ref e.at_) := (h.same s).isx ix
theorem TyX.same {K : PySem.W.Frag} {H H' : Hp} {v : V} {t : Value} (h : TyX K H v t) (s : Same H H') : TyX K H' v t := by
  cases h with
  | base h =>
    refine .base ?_
    cases h with
    | non => exact .non
    | bl x => exact .bl x
    | int i => exact .int i
    | str x => exact .str x
    | flt x => exact .flt x
    | lst e => exact .lst (s _ _ e)
    | frz e => exact .frz (s _ _ e)
    | tup e => exact .tup (s _ _ e)
    | dK e => exact .dK (s _ _ e)
    | dT e => exact .dT (s _ _ e)
    | ins e c1 c2 c3 c4 c5 => exact .ins (s _ _ e) c1 c2 c3 c4 c5
  | byt b => exact .byt b
  | set e => exact .set (s _ _ e)
  | kList e c => exact .kList e c
  | kTuple e c => exact .kTuple e c
  | kDict e c => exact .kDict e c
  | fTuple e => exact .fTuple (s _ _ e)
  | fDict e => exact .fDict (s _ _ e)
theorem NotExp.same {K : PySem.W.Frag} {CE : Addr} {H H' : Hp} {v : V} (h : NotExp K CE H v) (s : Same H H') : NotExp K CE H' v := by
  obtain ⟨t, h1, h2⟩ := h
  exact ⟨t, TyX.same h1 s, h2⟩
theorem Tells.same {E : XK} {C : Addr} {v : V} {H H' : Hp} (t : Tells E C v H) (s : Same H H') : Tells E C v H' := fun H2 d s2 hd => t H2 d (s.trans s2) hd
theorem fig_len {i : Int} (h0 : 0 ≤ i) (h1 : i ≤ 9) : (toString i : Str).length ≤ 10 := by
  have : i = 0 ∨ i = 1 ∨ i = 2 ∨ i = 3 ∨ i = 4 ∨ i = 5 ∨ i = 6 ∨ i = 7 ∨ i = 8 ∨ i = 9 := by omega
  rcases this with rfl | rfl | rfl | rfl | rfl | rfl | rfl | rfl | rfl | rfl <;> decide +kernel
/-- Turn(word, inner) -/
def spTurn (K : PySem.W.Frag) (CF CE Cw Ce : Addr) (cls : Addr → Prop) : Sp := fun vs H Q E => ∃ (a dx C : Addr) (v u : V), vs = [.ref a, v, u] ∧ cls C ∧ H a = some (.ins C dx []) ∧
  ((∃ (x : Str) (e : Told), v = .str x ∧ x.length ≤ 1000 ∧ lettered 4 x = true ∧ u = .ref e.at_ ∧ Arg CF cls H e ∧ Made CF cls H a C "turn" (spell "turn" [x, e.text]) [v] [e] Q) ∨
    (((∃ x : Str, v = .str x ∧ x.length ≤ 1000 ∧ lettered 4 x = false) ∨ NotStr K H v) ∧ Tells E Cw v H) ∨
    ((∃ x : Str, v = .str x ∧ x.length ≤ 1000 ∧ lettered 4 x = true) ∧ NotExp K CE H u ∧ Tells E Ce u H))
section
variable {P : Program} {w : World} {K : PySem.W.Frag} {mg : Str → Option Value} {base : Heap} {f fC fX CF CE Ce Cw : Addr} {fd fdC fdX : FuncData} {cls : Addr → Prop}
theorem scTurn : FnScope ["self", "word", "inner"] ["self", "word", "inner"] (defScope s_Turn_init) := ⟨rfl, rfl, rfl, by decide +kernel, rfl, by decide +kernel, by decide +kernel⟩
theorem ok_turn (F : Fun K "__init__" "Turn.__init__" s_Turn_init f fd) (FO : FactsOk P w K mg base CF cls) (OW : ∀ C, cls C → Own K C) (ix : IsX K CE cls)
    (GC : FnOk P w K mg base (L2.CX P w) 3 fC fdC ["given"] (spCheck K (lettered 4) Cw)) (bC : Binds K fdC ["given"] []) (kC : PySem.W.keepIn K (.ref fC) = true) (mC : mg "check_word" = some (.ref fC))
    (GX : FnOk P w K mg base (L2.CX P w) 3 fX fdX ["values"] (spCheckAll K CE Ce)) (bX : Binds K fdX ["values"] []) (kX : PySem.W.keepIn K (.ref fX) = true) (mX : mg "check_expressions" = some (.ref fX)) :
    FnOk P w K mg base (L2.CX P w) 7 f fd ["self", "word", "inner"] (spTurn K CF CE Cw Ce cls) := by
  refine F.okX scTurn (fun vs H Q E h => ?_) (fun cdv A outer s H vs Q E hr h => ?_)
  · obtain ⟨a, dx, C, v, u, rfl, _⟩ := h
    rfl
  obtain ⟨a, dx, C, v, u, rfl, hC, ha, h⟩ := h
  obtain ⟨fI, fdI, M, GI, bI⟩ := FO.go
  have tk := takes_of (X := cxOf (L2.CX P w) P w K mg base ["self", "word", "inner"] "Turn.__init__" (defScope s_Turn_init) f cdv A outer s H E) rfl rfl rfl rfl
  refine ⟨_, pss_cons (ps_expr (pe_callS GC (hr.mono (by decide)) rfl mC kC bC (fun σ => passAt tk σ) (pa_cons (pv 1) pa_nil)))
    (pss_cons (ps_expr (pe_callS GX (hr.mono (by decide)) rfl mX kX bX (fun σ => passAt tk σ) (pa_cons (pe_tup (pa_cons (pv 2) pa_nil)) pa_nil)))
    (pss_one (ps_fld (pv 0) (pe_make M GI hr rfl FO.m bI .nil pass0 (pa_cons pe_str (pa_cons (pe_tup (pa_cons (pv 1) pa_nil)) (pa_cons (pe_tup (pa_cons (pv 2) pa_nil)) pa_nil)))) rfl))), ?_⟩
  rcases h with ⟨x, e, rfl, few, ex, rfl, ar, q⟩ | ⟨bad, t⟩ | ⟨⟨x, rfl, few, ex⟩, ne, t⟩
  · refine ⟨_, rfl, _, rfl, .inl ⟨x, rfl, Nat.le_trans few (by decide), ex, fun H1 s1 => ?_⟩⟩
    refine ⟨_, rfl, (by show 1 ≤ sizeLine; decide), fun pq hpq => ⟨pq, [.ref e.at_], rfl, upd_same, .inl ⟨fun y hy => ?_, ?_⟩⟩⟩
    · cases List.mem_singleton.mp hy
      exact IsExp.same ar ix (s1.trans (same_new hpq _))
    have s1' := s1.trans (same_new hpq (.tup [V.ref e.at_]))
    refine ⟨_, rfl, (by show 1 ≤ sizeLine; decide), fun pt hpt => ⟨_, rfl, (by show 1 ≤ sizeLine; decide), fun pi hpi => fun y dy hy hdy ne => ?_⟩⟩
    have s2 := (s1'.trans (same_new hpt (.tup [V.str x]))).trans (same_new hpi (.tup [V.ref e.at_]))
    have g := born (C := CF) hy hdy ne
    have ar2 := ar.same (s2.trans g)
    refine ⟨y, dy, "turn", pt, pi, [V.str x], [e], spell "turn" [x, e.text], rfl, upd_same, g _ _ (upd_other upd_same hpi), g _ _ upd_same, (fun e' he => ?_), (by show 1 ≤ 10; decide), .inr (.inr ⟨by decide +kernel, by decide +kernel, by decide +kernel, [x, e.text], ?_, (by show 2 ≤ 100; decide), ?_, rfl⟩), fun H3 pl ls b h1 h2 h3 h4 => ⟨rfl, ?_⟩⟩
    · cases List.mem_singleton.mp he
      exact ⟨ar2.stands, ar2.few⟩
    · exact .cons (.str x) (.cons (.exp ar2.stands) .nil)
    · have := ar.short
      simp only [List.map_cons, List.map_nil, List.sum_cons, List.sum_nil]
      omega
    have s3 := grown hy hdy ne b
    have s4 := s2.trans s3
    refine ⟨_, rfl, a, C, dx, [], rfl, s4 _ _ ha, (OW C hC).cls, (OW C hC).no, (by show 0 < 1000; decide), ?_⟩
    obtain ⟨r1, r2⟩ := finish (a := a) hC (s4 _ _ ha) h1 (s3 _ _ (upd_other upd_same hpi)) (s3 _ _ upd_same) h2
    exact q _ ls (r2 H s4) r1 h3 h4
  · refine ⟨_, rfl, _, rfl, .inr ⟨?_, t⟩⟩
    rcases bad with ⟨x, rfl, few, e⟩ | n
    · exact .inl ⟨x, rfl, Nat.le_trans few (by decide), e⟩
    · exact .inr n
  · refine ⟨_, rfl, _, rfl, .inl ⟨x, rfl, Nat.le_trans few (by decide), ex, fun H1 s1 => ?_⟩⟩
    refine ⟨_, rfl, (by show 1 ≤ sizeLine; decide), fun pq hpq => ⟨pq, [u], rfl, upd_same, .inr ⟨0, u, rfl, fun i y hi => by omega, ?_, ?_⟩⟩⟩
    · exact NotExp.same ne (s1.trans (same_new hpq _))
    · exact Tells.same t (s1.trans (same_new hpq _))
/-- Drop(many, inner) -/
theorem scDrop : FnScope ["self", "many", "inner"] ["self", "many", "inner"] (defScope s_Drop_init) := ⟨rfl, rfl, rfl, by decide +kernel, rfl, by decide +kernel, by decide +kernel⟩
def spDrop (K : PySem.W.Frag) (CF CE Cn Ce : Addr) (cls : Addr → Prop) : Sp := fun vs H Q E => ∃ (a dx C : Addr) (v u : V), vs = [.ref a, v, u] ∧ cls C ∧ H a = some (.ins C dx []) ∧
  ((∃ (i : Int) (e : Told), v = .int i ∧ 1 ≤ i ∧ i ≤ 9 ∧ u = .ref e.at_ ∧ Arg CF cls H e ∧ Made CF cls H a C "drop" (spell "drop" [toString i, e.text]) [v] [e] Q) ∨
    (((∃ i : Int, v = .int i ∧ ¬ (1 ≤ i ∧ i ≤ 9)) ∨ NotInt K H v) ∧ Tells E Cn v H) ∨
    ((∃ i : Int, v = .int i ∧ 1 ≤ i ∧ i ≤ 9) ∧ NotExp K CE H u ∧ Tells E Ce u H))
theorem ok_drop (F : Fun K "__init__" "Drop.__init__" s_Drop_init f fd) (FO : FactsOk P w K mg base CF cls) (OW : ∀ C, cls C → Own K C) (ix : IsX K CE cls) (CO : Consts mg K)
    (GC : FnOk P w K mg base (L2.CX P w) 3 fC fdC ["given", "least", "most"] (spCheckWithin K Cw)) (bC : Binds K fdC ["given", "least", "most"] []) (kC : PySem.W.keepIn K (.ref fC) = true) (mC : mg "check_within" = some (.ref fC))
    (GX : FnOk P w K mg base (L2.CX P w) 3 fX fdX ["values"] (spCheckAll K CE Ce)) (bX : Binds K fdX ["values"] []) (kX : PySem.W.keepIn K (.ref fX) = true) (mX : mg "check_expressions" = some (.ref fX)) :
    FnOk P w K mg base (L2.CX P w) 7 f fd ["self", "many", "inner"] (spDrop K CF CE Cw Ce cls) := by
  refine F.okX scDrop (fun vs H Q E h => ?_) (fun cdv A outer s H vs Q E hr h => ?_)
  · obtain ⟨a, dx, C, v, u, rfl, _⟩ := h
    rfl
  obtain ⟨a, dx, C, v, u, rfl, hC, ha, h⟩ := h
  obtain ⟨fI, fdI, M, GI, bI⟩ := FO.go
  obtain ⟨td, md⟩ := CO.drop
  have tk := takes_of (X := cxOf (L2.CX P w) P w K mg base ["self", "many", "inner"] "Drop.__init__" (defScope s_Drop_init) f cdv A outer s H E) rfl rfl rfl rfl
  refine ⟨_, pss_cons (ps_expr (pe_callS GC (hr.mono (by decide)) rfl mC kC bC (fun σ => passAt tk σ) (pa_cons (pv 1) (pa_cons pe_int (pa_cons (pe_gint rfl md) pa_nil)))))
    (pss_cons (ps_expr (pe_callS GX (hr.mono (by decide)) rfl mX kX bX (fun σ => passAt tk σ) (pa_cons (pe_tup (pa_cons (pv 2) pa_nil)) pa_nil)))
    (pss_one (ps_fld (pv 0) (pe_make M GI hr rfl FO.m bI .nil pass0 (pa_cons pe_str (pa_cons (pe_tup (pa_cons (pv 1) pa_nil)) (pa_cons (pe_tup (pa_cons (pv 2) pa_nil)) pa_nil)))) rfl))), ?_⟩
  rcases h with ⟨i, e, rfl, i1, i9, rfl, ar, q⟩ | ⟨bad, t⟩ | ⟨⟨i, rfl, i1, i9⟩, ne, t⟩
  · refine ⟨_, rfl, _, 1, 9, rfl, .inl ⟨i, rfl, i1, i9, ?_⟩⟩
    refine ⟨_, rfl, (by show 1 ≤ sizeLine; decide), fun pq hpq => ⟨pq, [.ref e.at_], rfl, upd_same, .inl ⟨fun y hy => ?_, ?_⟩⟩⟩
    · cases List.mem_singleton.mp hy
      exact IsExp.same ar ix (same_new hpq _)
    have s1' := same_new hpq (.tup [V.ref e.at_])
    refine ⟨_, rfl, (by show 1 ≤ sizeLine; decide), fun pt hpt => ⟨_, rfl, (by show 1 ≤ sizeLine; decide), fun pi hpi => fun y dy hy hdy ne => ?_⟩⟩
    have s2 := (s1'.trans (same_new hpt (.tup [V.int i]))).trans (same_new hpi (.tup [V.ref e.at_]))
    have g := born (C := CF) hy hdy ne
    have ar2 := ar.same (s2.trans g)
    have il : (toString i : Str).length ≤ 10 := fig_len (by omega) (by omega)
    refine ⟨y, dy, "drop", pt, pi, [V.int i], [e], spell "drop" [toString i, e.text], rfl, upd_same, g _ _ (upd_other upd_same hpi), g _ _ upd_same, (fun e' he => ?_), (by show 1 ≤ 10; decide), .inr (.inr ⟨by decide +kernel, by decide +kernel, by decide +kernel, [toString i, e.text], ?_, (by show 2 ≤ 100; decide), ?_, rfl⟩), fun H3 pl ls b h1 h2 h3 h4 => ⟨rfl, ?_⟩⟩
    · cases List.mem_singleton.mp he
      exact ⟨ar2.stands, ar2.few⟩
    · exact .cons (.int i ⟨by omega, by omega⟩) (.cons (.exp ar2.stands) .nil)
    · have := ar.short
      simp only [List.map_cons, List.map_nil, List.sum_cons, List.sum_nil]
      omega
    have s3 := grown hy hdy ne b
    have s4 := s2.trans s3
    refine ⟨_, rfl, a, C, dx, [], rfl, s4 _ _ ha, (OW C hC).cls, (OW C hC).no, (by show 0 < 1000; decide), ?_⟩
    obtain ⟨r1, r2⟩ := finish (a := a) hC (s4 _ _ ha) h1 (s3 _ _ (upd_other upd_same hpi)) (s3 _ _ upd_same) h2
    exact q _ ls (r2 H s4) r1 h3 h4
  · exact ⟨_, rfl, _, 1, 9, rfl, .inr ⟨bad, t⟩⟩
  · refine ⟨_, rfl, _, 1, 9, rfl, .inl ⟨i, rfl, i1, i9, ?_⟩⟩
    refine ⟨_, rfl, (by show 1 ≤ sizeLine; decide), fun pq hpq => ⟨pq, [u], rfl, upd_same, .inr ⟨0, u, rfl, fun i y hi => by omega, ?_, ?_⟩⟩⟩
    · exact NotExp.same ne (same_new hpq _)
    · exact Tells.same t (same_new hpq _)
/-- Lead(first, rest) -/
theorem scLead : FnScope ["self", "first", "rest"] ["self", "first", "rest"] (defScope s_Lead_init) := ⟨rfl, rfl, rfl, by decide +kernel, rfl, by decide +kernel, by decide +kernel⟩
def spLead (K : PySem.W.Frag) (CF CE Ce : Addr) (cls : Addr → Prop) : Sp := fun vs H Q E => ∃ (a dx C : Addr) (v u : V), vs = [.ref a, v, u] ∧ cls C ∧ H a = some (.ins C dx []) ∧
  ((∃ (e e2 : Told), v = .ref e.at_ ∧ u = .ref e2.at_ ∧ Arg CF cls H e ∧ Arg CF cls H e2 ∧ Made CF cls H a C "lead" (spell "lead" [e.text, e2.text]) [] [e, e2] Q) ∨
    (NotExp K CE H v ∧ Tells E Ce v H) ∨ (IsExp K CE H v ∧ NotExp K CE H u ∧ Tells E Ce u H))
theorem IsExp.keep {H H' : Hp} {v : V} (h : IsExp K CE H v) (s : Same H H') : IsExp K CE H' v := by
  obtain ⟨t, h1, h2⟩ := h
  exact ⟨t, TyX.same h1 s, h2⟩
theorem ok_lead (F : Fun K "__init__" "Lead.__init__" s_Lead_init f fd) (FO : FactsOk P w K mg base CF cls) (OW : ∀ C, cls C → Own K C) (ix : IsX K CE cls)
    (GX : FnOk P w K mg base (L2.CX P w) 3 fX fdX ["values"] (spCheckAll K CE Ce)) (bX : Binds K fdX ["values"] []) (kX : PySem.W.keepIn K (.ref fX) = true) (mX : mg "check_expressions" = some (.ref fX)) :
    FnOk P w K mg base (L2.CX P w) 7 f fd ["self", "first", "rest"] (spLead K CF CE Ce cls) := by
  refine F.okX scLead (fun vs H Q E h => ?_) (fun cdv A outer s H vs Q E hr h => ?_)
  · obtain ⟨a, dx, C, v, u, rfl, _⟩ := h
    rfl
  obtain ⟨a, dx, C, v, u, rfl, hC, ha, h⟩ := h
  obtain ⟨fI, fdI, M, GI, bI⟩ := FO.go
  have tk := takes_of (X := cxOf (L2.CX P w) P w K mg base ["self", "first", "rest"] "Lead.__init__" (defScope s_Lead_init) f cdv A outer s H E) rfl rfl rfl rfl
  refine ⟨_, pss_cons (ps_expr (pe_callS GX (hr.mono (by decide)) rfl mX kX bX (fun σ => passAt tk σ) (pa_cons (pe_tup (pa_cons (pv 1) (pa_cons (pv 2) pa_nil))) pa_nil)))
    (pss_one (ps_fld (pv 0) (pe_make M GI hr rfl FO.m bI .nil pass0 (pa_cons pe_str (pa_cons (pe_tup pa_nil) (pa_cons (pe_tup (pa_cons (pv 1) (pa_cons (pv 2) pa_nil))) pa_nil)))) rfl)), ?_⟩
  rcases h with ⟨e, e2, rfl, rfl, ar, br, q⟩ | ⟨ne, t⟩ | ⟨ie, ne, t⟩
  · refine ⟨_, rfl, _, rfl, (by show 2 ≤ sizeLine; decide), fun pq hpq => ⟨pq, [.ref e.at_, .ref e2.at_], rfl, upd_same, .inl ⟨fun y hy => ?_, ?_⟩⟩⟩
    · rcases List.mem_cons.mp hy with rfl | hy
      · exact IsExp.same ar ix (same_new hpq _)
      · cases List.mem_singleton.mp hy
        exact IsExp.same br ix (same_new hpq _)
    have s1' := same_new hpq (.tup [V.ref e.at_, .ref e2.at_])
    refine ⟨(by show 0 ≤ sizeLine; decide), fun pt hpt => ⟨_, rfl, _, rfl, (by show 2 ≤ sizeLine; decide), fun pi hpi => fun y dy hy hdy ne => ?_⟩⟩
    have s2 := (s1'.trans (same_new hpt (.tup []))).trans (same_new hpi (.tup [V.ref e.at_, .ref e2.at_]))
    have g := born (C := CF) hy hdy ne
    have ar2 := ar.same (s2.trans g)
    have br2 := br.same (s2.trans g)
    refine ⟨y, dy, "lead", pt, pi, [], [e, e2], spell "lead" [e.text, e2.text], rfl, upd_same, g _ _ (upd_other upd_same hpi), g _ _ upd_same, (fun e' he => ?_), (by show 2 ≤ 10; decide), .inr (.inr ⟨by decide +kernel, by decide +kernel, by decide +kernel, [e.text, e2.text], ?_, (by show 2 ≤ 100; decide), ?_, rfl⟩), fun H3 pl ls b h1 h2 h3 h4 => ⟨rfl, ?_⟩⟩
    · rcases List.mem_cons.mp he with rfl | he
      · exact ⟨ar2.stands, ar2.few⟩
      · cases List.mem_singleton.mp he
        exact ⟨br2.stands, br2.few⟩
    · exact .cons (.exp ar2.stands) (.cons (.exp br2.stands) .nil)
    · have := ar.short
      have := br.short
      simp only [List.map_cons, List.map_nil, List.sum_cons, List.sum_nil]
      omega
    have s3 := grown hy hdy ne b
    have s4 := s2.trans s3
    refine ⟨_, rfl, a, C, dx, [], rfl, s4 _ _ ha, (OW C hC).cls, (OW C hC).no, (by show 0 < 1000; decide), ?_⟩
    obtain ⟨r1, r2⟩ := finish (a := a) hC (s4 _ _ ha) h1 (s3 _ _ (upd_other upd_same hpi)) (s3 _ _ upd_same) h2
    exact q _ ls (r2 H s4) r1 h3 h4
  · refine ⟨_, rfl, _, rfl, (by show 2 ≤ sizeLine; decide), fun pq hpq => ⟨pq, [v, u], rfl, upd_same, .inr ⟨0, v, rfl, fun i y hi => by omega, ?_, ?_⟩⟩⟩
    · exact NotExp.same ne (same_new hpq _)
    · exact Tells.same t (same_new hpq _)
  · refine ⟨_, rfl, _, rfl, (by show 2 ≤ sizeLine; decide), fun pq hpq => ⟨pq, [v, u], rfl, upd_same, .inr ⟨1, u, rfl, fun i y hi hy => ?_, ?_, ?_⟩⟩⟩
    · obtain rfl : i = 0 := by omega
      cases hy
      exact IsExp.keep ie (same_new hpq _)
    · exact NotExp.same ne (same_new hpq _)
    · exact Tells.same t (same_new hpq _)
end
end Wp

namespace Wp
open PySem PySem.Spec PyProof.Rows L2 Hx
/-- the least base beside a lane -/
def lo (i : Int) : Int := if i + 1 > 2 then i + 1 else 2
def spPart (K : PySem.W.Frag) (CF CE Cn Ce : Addr) (cls : Addr → Prop) : Sp := fun vs H Q E => ∃ (a dx C : Addr) (v b u : V), vs = [.ref a, v, b, u] ∧ cls C ∧ H a = some (.ins C dx []) ∧
  ((∃ (i k : Int) (e : Told), v = .int i ∧ 0 ≤ i ∧ i ≤ 3 ∧ b = .int k ∧ lo i ≤ k ∧ k ≤ 4 ∧ u = .ref e.at_ ∧ Arg CF cls H e ∧ Made CF cls H a C "part" (spell "part" [toString i, toString k, e.text]) [v, b] [e] Q) ∨
    (((∃ i : Int, v = .int i ∧ ¬ (0 ≤ i ∧ i ≤ 3)) ∨ NotInt K H v) ∧ Tells E Cn v H) ∨
    (∃ i : Int, v = .int i ∧ 0 ≤ i ∧ i ≤ 3 ∧ ((∃ k : Int, b = .int k ∧ ¬ (lo i ≤ k ∧ k ≤ 4)) ∨ NotInt K H b) ∧ Tells E Cn b H) ∨
    (∃ i k : Int, v = .int i ∧ 0 ≤ i ∧ i ≤ 3 ∧ b = .int k ∧ lo i ≤ k ∧ k ≤ 4 ∧ NotExp K CE H u ∧ Tells E Ce u H))
section
variable {P : Program} {w : World} {K : PySem.W.Frag} {mg : Str → Option Value} {base : Heap} {f fC fX CF CE Ce Cw : Addr} {fd fdC fdX : FuncData} {cls : Addr → Prop}
theorem scPart : FnScope ["self", "at", "base", "inner"] ["self", "at", "base", "inner"] (defScope s_Part_init) := ⟨rfl, rfl, rfl, by decide +kernel, rfl, by decide +kernel, by decide +kernel⟩
theorem ok_part (F : Fun K "__init__" "Part.__init__" s_Part_init f fd) (FO : FactsOk P w K mg base CF cls) (OW : ∀ C, cls C → Own K C) (ix : IsX K CE cls) (CO : Consts mg K) (zm : mg "max" = none)
    (GC : FnOk P w K mg base (L2.CX P w) 3 fC fdC ["given", "least", "most"] (spCheckWithin K Cw)) (bC : Binds K fdC ["given", "least", "most"] []) (kC : PySem.W.keepIn K (.ref fC) = true) (mC : mg "check_within" = some (.ref fC))
    (GX : FnOk P w K mg base (L2.CX P w) 3 fX fdX ["values"] (spCheckAll K CE Ce)) (bX : Binds K fdX ["values"] []) (kX : PySem.W.keepIn K (.ref fX) = true) (mX : mg "check_expressions" = some (.ref fX)) :
    FnOk P w K mg base (L2.CX P w) 7 f fd ["self", "at", "base", "inner"] (spPart K CF CE Cw Ce cls) := by
  refine F.okX scPart (fun vs H Q E h => ?_) (fun cdv A outer s H vs Q E hr h => ?_)
  · obtain ⟨a, dx, C, v, b, u, rfl, _⟩ := h
    rfl
  obtain ⟨a, dx, C, v, b, u, rfl, hC, ha, h⟩ := h
  obtain ⟨fI, fdI, M, GI, bI⟩ := FO.go
  obtain ⟨tb, mb⟩ := CO.base
  obtain ⟨tl, ml⟩ := CO.least
  have tk := takes_of (X := cxOf (L2.CX P w) P w K mg base ["self", "at", "base", "inner"] "Part.__init__" (defScope s_Part_init) f cdv A outer s H E) rfl rfl rfl rfl
  refine ⟨_, pss_cons (ps_expr (pe_callS GC (hr.mono (by decide)) rfl mC kC bC (fun σ => passAt tk σ) (pa_cons (pv 1) (pa_cons pe_int (pa_cons (pe_op op_sub (pe_gint rfl mb) pe_int) pa_nil)))))
    (pss_cons (ps_expr (pe_callS GC (hr.mono (by decide)) rfl mC kC bC (fun σ => passAt tk σ) (pa_cons (pv 2) (pa_cons (pe_callB (call_max2 rfl) (by rfl) zm PyProof.Rows.boot_max (pa_cons (pe_gint rfl ml) (pa_cons (pe_op op_add (pv 1) pe_int) pa_nil))) (pa_cons (pe_gint rfl mb) pa_nil)))))
    (pss_cons (ps_expr (pe_callS GX (hr.mono (by decide)) rfl mX kX bX (fun σ => passAt tk σ) (pa_cons (pe_tup (pa_cons (pv 3) pa_nil)) pa_nil)))
    (pss_one (ps_fld (pv 0) (pe_make M GI hr rfl FO.m bI .nil pass0 (pa_cons pe_str (pa_cons (pe_tup (pa_cons (pv 1) (pa_cons (pv 2) pa_nil))) (pa_cons (pe_tup (pa_cons (pv 3) pa_nil)) pa_nil)))) rfl)))), ?_⟩
  rcases h with ⟨i, k, e, rfl, i0, i3, rfl, k0, k4, rfl, ar, q⟩ | ⟨bad, t⟩ | ⟨i, rfl, i0, i3, bad, t⟩ | ⟨i, k, rfl, i0, i3, rfl, k0, k4, ne, t⟩
  · refine ⟨_, rfl, _, _, rfl, rfl, _, 0, 3, rfl, .inl ⟨i, rfl, i0, i3, ?_⟩⟩
    refine ⟨_, rfl, _, rfl, _, _, rfl, rfl, _, _, rfl, _, lo i, 4, rfl, .inl ⟨k, rfl, k0, k4, ?_⟩⟩
    refine ⟨_, rfl, (by show 1 ≤ sizeLine; decide), fun pq hpq => ⟨pq, [.ref e.at_], rfl, upd_same, .inl ⟨fun y hy => ?_, ?_⟩⟩⟩
    · cases List.mem_singleton.mp hy
      exact IsExp.same ar ix (same_new hpq _)
    have s1' := same_new hpq (.tup [V.ref e.at_])
    refine ⟨_, rfl, _, rfl, (by show 2 ≤ sizeLine; decide), fun pt hpt => ⟨_, rfl, (by show 1 ≤ sizeLine; decide), fun pi hpi => fun y dy hy hdy ne => ?_⟩⟩
    have s2 := (s1'.trans (same_new hpt (.tup [V.int i, .int k]))).trans (same_new hpi (.tup [V.ref e.at_]))
    have g := born (C := CF) hy hdy ne
    have ar2 := ar.same (s2.trans g)
    have k00 : 0 ≤ k := by
      unfold lo at k0
      split at k0 <;> omega
    have il : (toString i : Str).length ≤ 10 := fig_len (by omega) (by omega)
    have kl : (toString k : Str).length ≤ 10 := fig_len (by omega) (by omega)
    refine ⟨y, dy, "part", pt, pi, [V.int i, .int k], [e], spell "part" [toString i, toString k, e.text], rfl, upd_same, g _ _ (upd_other upd_same hpi), g _ _ upd_same, (fun e' he => ?_), (by show 1 ≤ 10; decide), .inr (.inr ⟨by decide +kernel, by decide +kernel, by decide +kernel, [toString i, toString k, e.text], ?_, (by show 3 ≤ 100; decide), ?_, rfl⟩), fun H3 pl ls b h1 h2 h3 h4 => ⟨rfl, ?_⟩⟩
    · cases List.mem_singleton.mp he
      exact ⟨ar2.stands, ar2.few⟩
    · exact .cons (.int i ⟨by omega, by omega⟩) (.cons (.int k ⟨by omega, by omega⟩) (.cons (.exp ar2.stands) .nil))
    · have := ar.short
      simp only [List.map_cons, List.map_nil, List.sum_cons, List.sum_nil]
      omega
    have s3 := grown hy hdy ne b
    have s4 := s2.trans s3
    refine ⟨_, rfl, a, C, dx, [], rfl, s4 _ _ ha, (OW C hC).cls, (OW C hC).no, (by show 0 < 1000; decide), ?_⟩
    obtain ⟨r1, r2⟩ := finish (a := a) hC (s4 _ _ ha) h1 (s3 _ _ (upd_other upd_same hpi)) (s3 _ _ upd_same) h2
    exact q _ ls (r2 H s4) r1 h3 h4
  · exact ⟨_, rfl, _, _, rfl, rfl, _, 0, 3, rfl, .inr ⟨bad, t⟩⟩
  · refine ⟨_, rfl, _, _, rfl, rfl, _, 0, 3, rfl, .inl ⟨i, rfl, i0, i3, ?_⟩⟩
    exact ⟨_, rfl, _, rfl, _, _, rfl, rfl, _, _, rfl, _, lo i, 4, rfl, .inr ⟨bad, t⟩⟩
  · refine ⟨_, rfl, _, _, rfl, rfl, _, 0, 3, rfl, .inl ⟨i, rfl, i0, i3, ?_⟩⟩
    refine ⟨_, rfl, _, rfl, _, _, rfl, rfl, _, _, rfl, _, lo i, 4, rfl, .inl ⟨k, rfl, k0, k4, ?_⟩⟩
    refine ⟨_, rfl, (by show 1 ≤ sizeLine; decide), fun pq hpq => ⟨pq, [u], rfl, upd_same, .inr ⟨0, u, rfl, fun i y hi => by omega, ?_, ?_⟩⟩⟩
    · exact NotExp.same ne (same_new hpq _)
    · exact Tells.same t (same_new hpq _)
end
end Wp

namespace Wp
open PySem PySem.Spec PyProof.Rows L2 Hx
/-- Weave(..), the inner ones in a tuple -/
def spWeaveB (K : PySem.W.Frag) (CF CE Cn Ce : Addr) (cls : Addr → Prop) : Sp := fun vs H Q E => ∃ (a dx C pi : Addr) (us : List V), vs = [.ref a, .ref pi] ∧ cls C ∧ H a = some (.ins C dx []) ∧ H pi = some (.tup us) ∧
  ((∃ es : List Told, us = es.map (fun e => V.ref e.at_) ∧ 2 ≤ es.length ∧ es.length ≤ 4 ∧ (∀ e ∈ es, Arg CF cls H e) ∧ Made CF cls H a C "weave" (spell "weave" (es.map (·.text))) [] es Q) ∨
    (¬ (2 ≤ us.length ∧ us.length ≤ 4) ∧ Tells E Cn (.int (us.length : Nat)) H) ∨
    (2 ≤ us.length ∧ us.length ≤ 4 ∧ ∃ (j : Nat) (x : V), us[j]? = some x ∧ (∀ (i : Nat) (y : V), i < j → us[i]? = some y → IsExp K CE H y) ∧ NotExp K CE H x ∧ Tells E Ce x H))
def spWeave (K : PySem.W.Frag) (CF CE Cn Ce : Addr) (cls : Addr → Prop) : Sp := fun vs H Q E => ∃ ws rest : List V, vs = ws ++ rest ∧ ws.length = 1 ∧ rest.length ≤ sizeLine ∧ ∀ p, H p = none → spWeaveB K CF CE Cn Ce cls (ws ++ [V.ref p]) (upd H p (.tup rest)) Q E
theorem sum_short {es : List Told} : ∀ {n : Nat}, (∀ e ∈ es, e.text.length ≤ n) → ((es.map (·.text)).map (·.length)).sum ≤ es.length * n := by
  intro n h
  induction es with
  | nil => exact Nat.zero_le _
  | cons e es ih =>
    have h1 := h e List.mem_cons_self
    have h2 := ih fun x hx => h x (List.mem_cons_of_mem _ hx)
    simp only [List.map_cons, List.sum_cons, List.length_cons, Nat.succ_mul]
    omega
section
variable {P : Program} {w : World} {K : PySem.W.Frag} {mg : Str → Option Value} {base : Heap} {f fC fX CF CE Ce Cw : Addr} {fd fdC fdX : FuncData} {cls : Addr → Prop}
theorem exps_pair {H : Hp} : ∀ {es : List Told}, (∀ e ∈ es, Arg CF cls H e) → Paired (TxAt CF cls H) (es.map fun e => V.ref e.at_) (es.map (·.text))
  | [], _ => .nil
  | e :: es, h => .cons (.exp (h e List.mem_cons_self).stands) (exps_pair fun x hx => h x (List.mem_cons_of_mem _ hx))
theorem scWeave : FnScope ["self", "inner"] ((["self"] : List Str) ++ [("inner" : Str)]) (defScope s_Weave_init) := ⟨rfl, rfl, rfl, by decide +kernel, rfl, by decide +kernel, by decide +kernel⟩
theorem ok_weave (F : Fun K "__init__" "Weave.__init__" s_Weave_init f fd) (FO : FactsOk P w K mg base CF cls) (OW : ∀ C, cls C → Own K C) (ix : IsX K CE cls) (CO : Consts mg K) (Z : Bltn mg)
    (GC : FnOk P w K mg base (L2.CX P w) 3 fC fdC ["given", "least", "most"] (spCheckWithin K Cw)) (bC : Binds K fdC ["given", "least", "most"] []) (kC : PySem.W.keepIn K (.ref fC) = true) (mC : mg "check_within" = some (.ref fC))
    (GX : FnOk P w K mg base (L2.CX P w) 3 fX fdX ["values"] (spCheckAll K CE Ce)) (bX : Binds K fdX ["values"] []) (kX : PySem.W.keepIn K (.ref fX) = true) (mX : mg "check_expressions" = some (.ref fX)) :
    FnR P w K mg base (L2.CX P w) 7 f (spWeave K CF CE Cw Ce cls) := by
  obtain ⟨oc, od, kV, doc, pm, an, cdv, ct, osl, rfl, lk, hcd⟩ := F.ex
  refine StX.fn_star (ps := ["self"]) (pv := "inner") (sp := spWeaveB K CF CE Cw Ce cls) lk hcd scWeave StX.cxUp (StX.bind_star1 (B := fun us => bindArgs (PySem.W.fnOf "__init__" "Weave.__init__" (defArgs s_Weave_init) (defBody s_Weave_init) (defScope s_Weave_init) .none kV doc pm an cdv ct) ⟨us, []⟩) (fun a => rfl) fun a r rs => rfl) fun A outer s H vs Q E hr h => ?_
  obtain ⟨a, dx, C, pi, us, rfl, hC, ha, hpi, h⟩ := h
  obtain ⟨fI, fdI, M, GI, bI⟩ := FO.go
  obtain ⟨tb, mb⟩ := CO.base
  obtain ⟨tl, ml⟩ := CO.least
  have tk := takes_of (X := cxOf (L2.CX P w) P w K mg base ["self", "inner"] "Weave.__init__" (defScope s_Weave_init) f cdv A outer s H E) rfl rfl rfl rfl
  refine ⟨_, pss_cons (ps_expr (pe_callS GC (hr.mono (by decide)) rfl mC kC bC (fun σ => passAt tk σ) (pa_cons (pe_callB call_len_seq (by rfl) Z.len PySem.boot_len (pa_cons (pv 1) pa_nil)) (pa_cons (pe_gint rfl ml) (pa_cons (pe_gint rfl mb) pa_nil)))))
    (pss_cons (ps_expr (pe_callS GX (hr.mono (by decide)) rfl mX kX bX (fun σ => passAt tk σ) (pa_cons (pv 1) pa_nil)))
    (pss_one (ps_fld (pv 0) (pe_make M GI hr rfl FO.m bI .nil pass0 (pa_cons pe_str (pa_cons (pe_tup pa_nil) (pa_cons (pv 1) pa_nil)))) rfl))), ?_⟩
  have hS : SqT K H pi us := SqT.of hpi
  rcases h with ⟨es, rfl, e2, e4, ar, q⟩ | ⟨bad, t⟩ | ⟨l2, l4, j, x, hj, bef, ne, t⟩
  · have ll : (es.map fun e => V.ref e.at_).length = es.length := List.length_map _
    refine ⟨_, rfl, pi, _, rfl, .inr hS, _, 2, 4, rfl, .inl ⟨_, rfl, by rw [ll]; omega, by rw [ll]; omega, ?_⟩⟩
    refine ⟨_, rfl, pi, _, rfl, hpi, .inl ⟨fun y hy => ?_, ?_⟩⟩
    · obtain ⟨e, he, rfl⟩ := List.mem_map.mp hy
      exact (ar e he).isx ix
    refine ⟨(by show 0 ≤ sizeLine; decide), fun pt hpt => ⟨_, rfl, fun y dy hy hdy ne => ?_⟩⟩
    have s2 := same_new hpt (.tup [])
    have g := born (C := CF) hy hdy ne
    have ar2 : ∀ e ∈ es, Arg CF cls _ e := fun e he => (ar e he).same (s2.trans g)
    refine ⟨y, dy, "weave", pt, pi, [], es, spell "weave" (es.map (·.text)), rfl, upd_same, g _ _ upd_same, g _ _ (s2 _ _ hpi), (fun e he => ⟨(ar2 e he).stands, (ar2 e he).few⟩), by omega, .inr (.inr ⟨by decide +kernel, by decide +kernel, by decide +kernel, es.map (fun (x : Told) => x.text), exps_pair ar2, ?_, ?_, rfl⟩), fun H3 pl ls b h1 h2 h3 h4 => ⟨rfl, ?_⟩⟩
    · rw [List.length_map]
      omega
    · have := sum_short (es := es) (n := 20000) fun e he => (ar e he).short
      have : es.length * 20000 ≤ 4 * 20000 := Nat.mul_le_mul_right _ e4
      omega
    have s3 := grown hy hdy ne b
    have s4 := s2.trans s3
    refine ⟨_, rfl, a, C, dx, [], rfl, s4 _ _ ha, (OW C hC).cls, (OW C hC).no, (by show 0 < 1000; decide), ?_⟩
    obtain ⟨r1, r2⟩ := finish (a := a) hC (s4 _ _ ha) h1 (s3 _ _ upd_same) (s3 _ _ (s2 _ _ hpi)) h2
    exact q _ ls (r2 H s4) r1 h3 h4
  · exact ⟨_, rfl, pi, _, rfl, .inr hS, _, 2, 4, rfl, .inr ⟨.inl ⟨_, rfl, fun z => bad ⟨by omega, by omega⟩⟩, t⟩⟩
  · refine ⟨_, rfl, pi, _, rfl, .inr hS, _, 2, 4, rfl, .inl ⟨_, rfl, by omega, by omega, ?_⟩⟩
    exact ⟨_, rfl, pi, _, rfl, hpi, .inr ⟨j, x, hj, bef, ne, t⟩⟩
end
end Wp

namespace Wp
open PySem PySem.Spec PyProof.Rows L2 Hx

/-- a deck: a list of three ints at d, the first two not negative -/
def DeckAt (H : Hp) (d : Addr) : Prop := ∃ a m c : Int, 0 ≤ a ∧ 0 ≤ m ∧ H d = some (.lst [.int a, .int m, .int c])
def spDeck (K : PySem.W.Frag) : Sp := fun vs H Q _ => ∃ (a : Addr) (ns : List Int) (t : Nat), vs = [.ref a, .int t] ∧
  SqL K H a (ns.map V.int) ∧ ns.length ≤ 63 ∧ ∀ p H', Same H H' → H p = none → DeckAt H' p → Q (.ref p) H'
section
variable {P : Program} {w : World} {K : PySem.W.Frag} {mg : Str → Option Value} {base : Heap}
theorem scDeck : FnScope ["_law_cells", "_law_turn", "_law_cell", "_law_mixed", "_law_each"] ["_law_cells", "_law_turn"] (defScope s_law_deck) :=
  ⟨rfl, rfl, rfl, by decide +kernel, rfl, by decide +kernel, by decide +kernel⟩
theorem ok_deck {f : Addr} {fd : FuncData} (F : Fun K "_law_deck" "_law_deck" s_law_deck f fd) (ml : mg "len" = none) (mi : mg "int" = none)
    (ma : mg "abs" = none) : FnOk P w K mg base CX0 1 f fd ["_law_cells", "_law_turn"] (spDeck K) := by
  refine F.ok scDeck (fun vs H Q E h => ?_) (fun cdv A outer s H vs Q E hr h => ?_)
  · obtain ⟨a, ns, t, rfl, _⟩ := h
    rfl
  obtain ⟨a, ns, t, rfl, hS, h63, q⟩ := h
  refine ⟨_, pss_cons (ps_set (i := 2) scDeck.nd rfl (Or.inl rfl)
      (pe_ifExp (pt_cmpR op_lt (pv 1) (pe_callB call_len_seq (by rfl) ml PySem.boot_len (pa_cons (pv 0) pa_nil)) (nomark _))
        (pe_ix ix_list (pv 0) (pv 1) (fun _ _ => rfl)) (pe_op op_add (pe_op op_mul pe_int (pv 1)) pe_int)))
    (pss_cons (ps_set (i := 3) scDeck.nd rfl (Or.inl rfl) (pe_op op_add pe_int (pe_op op_mul pe_int (pv 1))))
    (pss_cons (ps_for PassesOwn.never rfl (pi_list (pe_op op_cat (pe_slice sl_list (pv 0) po_none (po_some pe_int)) (pe_lst (pa_cons (pv 2) pa_nil))))
        (pg_name (i := 4) scDeck.nd rfl (Or.inl rfl))
        (pss_one (ps_set (i := 3) scDeck.nd rfl (Or.inl rfl)
          (pe_op op_mod (pe_callTy call_int1 (by rfl) mi PyProof.Rows.boot_int (pa_cons (pe_op op_add (pe_op op_mul (pv 3) pe_int) (pv 4)) pa_nil)) pe_int))))
    (pss_one (ps_ret (pe_lst (pa_cons
        (pe_ifExp (PW.pt (pw_or (pt_cmpR op_lt (pv 2) pe_int (nomark _)) (pw_or1 (pt_cmpR op_ge (pv 2) (pe_op op_pow pe_int pe_int) (nomark _)))))
          (pe_callB call_abs (by rfl) ma PyProof.Rows.boot_abs (pa_cons (pv 2) pa_nil)) pe_int)
        (pa_cons (pv 3) (pa_cons pe_int pa_nil)))))))), ?_⟩
  have hl : (ns.map V.int).length = ns.length := List.length_map _
  refine asg_join (fun v H' => H = H' ∧ ∃ c : Int, v = .int c) (fun Q' hQ => ?_) ?_
  · refine ⟨_, rfl, _, rfl, a, _, rfl, .inl hS, _, _, rfl, rfl, _, rfl, ?_⟩
    refine ite2 (fun c => ?_) (fun c => ?_)
    · have c' : (t : Int) < (((ns.map V.int).length : Nat) : Int) := of_decide_eq_true c
      have hlt : t < ns.length := by rw [hl] at c'; omega
      refine ⟨_, rfl, _, rfl, a, _, _, _, rfl, rfl, hS, atI_nat (j := t) (v := V.int ns[t]) ?_, hQ _ _ ⟨rfl, _, rfl⟩⟩
      rw [List.getElem?_map, List.getElem?_eq_getElem hlt]
      rfl
    · exact ⟨_, rfl, _, _, rfl, rfl, .inl ⟨by decide, by decide⟩, _, _, rfl, rfl, hQ _ _ ⟨rfl, _, rfl⟩⟩
  rintro _ _ ⟨rfl, c, rfl⟩
  refine ⟨_, rfl, _, _, rfl, rfl, .inl ⟨by decide, by decide⟩, _, _, rfl, rfl, ?_⟩
  refine ⟨_, rfl, _, rfl, a, _, rfl, hS, fun l hl0 => ?_⟩
  refine ⟨_, rfl, (by show 1 ≤ sizeLine; decide), fun l2 hl2 => ?_⟩
  have hcut := cutV_length (ns.map V.int) none (some 4)
  have allInt : ∀ x ∈ cutV (ns.map V.int) none (some 4) ++ [V.int c], ∃ i, x = V.int i := by
    intro x hx
    rcases List.mem_append.mp hx with hx | hx
    · have hx2 : x ∈ ns.map V.int := List.mem_of_mem_drop (List.mem_of_mem_take hx)
      obtain ⟨i, _, rfl⟩ := List.mem_map.mp hx2
      exact ⟨i, rfl⟩
    · exact ⟨c, by simpa using hx⟩
  refine ⟨l, l2, _, _, rfl, rfl, upd_other upd_same hl2, upd_same, small_line ?_, fun l3 hl3 => ?_⟩
  · rw [List.length_singleton]
    omega
  have s3 : Same H (upd (upd (upd H l (.lst (cutV (ns.map V.int) none (some 4)))) l2 (.lst [V.int c])) l3 (.lst (cutV (ns.map V.int) none (some 4) ++ [V.int c]))) :=
    ((same_new hl0 _).trans (same_new hl2 _)).trans (same_new hl3 _)
  refine ⟨l3, rfl, ⟨_, SqL.of upd_same⟩, for_list (K := K) (a := l3) (xs := cutV (ns.map V.int) none (some 4) ++ [V.int c])
    (fun _ σ H' => Same H H' ∧ H' l3 = some (.lst (cutV (ns.map V.int) none (some 4) ++ [V.int c])) ∧
      ∃ (m : Int) (v : Option V), 0 ≤ m ∧ σ = [some (.ref a), some (.int t), some (.int c), some (.int m), v])
    ⟨s3, upd_same, _, none, ?_, rfl⟩ (fun _ _ _ _ h => SqL.of h.2.1) ?_ ?_⟩
  · omega
  · rintro i x σ H' hx ⟨s4, h4, m, v, hm, rfl⟩
    obtain ⟨n, rfl⟩ := allInt x (List.mem_of_getElem? hx)
    refine ⟨_, rfl, _, _, rfl, rfl, .inr ⟨by decide, by decide⟩, _, rfl, _, _, rfl, rfl, .inl ⟨_, rfl, ?_⟩⟩
    exact ⟨_, _, rfl, rfl, (by decide : (0 : Int) < 2147483629), s4, h4, _, some (.int n), Int.emod_nonneg _ (by decide), rfl⟩
  · rintro σ H' ⟨s4, h4, m, v, hm, rfl⟩
    dsimp only
    refine ret_lst_join (fun v H2 => H' = H2 ∧ ∃ b : Int, 0 ≤ b ∧ v = .int b) (fun Q' hQ => ?_) ?_
    · refine ⟨_, rfl, _, _, rfl, rfl, _, rfl, ?_⟩
      refine ite2 (fun c0 => ?_) (fun c0 => ?_)
      · refine iteT ⟨_, rfl, _, rfl, hQ _ _ ⟨rfl, _, ?_, rfl⟩⟩
        split <;> omega
      · refine ⟨_, rfl, _, _, rfl, rfl, ⟨by decide, by decide, by decide⟩, _, _, rfl, rfl, _, rfl, ?_⟩
        refine ite2 (fun c1 => ?_) (fun c1 => ?_)
        · refine ⟨_, rfl, _, rfl, hQ _ _ ⟨rfl, _, ?_, rfl⟩⟩
          split <;> omega
        · exact hQ _ _ ⟨rfl, 0, Int.le_refl 0, rfl⟩
    rintro _ _ ⟨rfl, b, hb, rfl⟩
    refine ⟨_, rfl, (by show 3 ≤ sizeLine; decide), fun p hp => ?_⟩
    exact q p _ (s4.trans (same_new hp _)) (s4.free hp) ⟨b, m, 0, hb, hm, upd_same⟩
def spCard : Sp := fun vs H Q _ => ∃ (d : Addr) (t : Int), vs = [.ref d, .int t] ∧ 0 < t ∧ t < 1073741824 ∧ DeckAt H d ∧
  ∀ r H', 0 ≤ r → r < t → But d H H' → DeckAt H' d → Q (.int r) H'
theorem scCard : FnScope ["_law_deck_here", "_law_top", "_law_figure"] ["_law_deck_here", "_law_top"] (defScope s_law_card) :=
  ⟨rfl, rfl, rfl, by decide +kernel, rfl, by decide +kernel, by decide +kernel⟩
theorem ok_card {f : Addr} {fd : FuncData} (F : Fun K "_law_card" "_law_card" s_law_card f fd) (mi : mg "int" = none) (md : mg "divmod" = none) :
    FnOk P w K mg base CX0 1 f fd ["_law_deck_here", "_law_top"] spCard := by
  refine F.ok scCard (fun vs H Q E h => ?_) (fun cdv A outer s H vs Q E hr h => ?_)
  · obtain ⟨d, t, rfl, _⟩ := h
    rfl
  obtain ⟨d, t, rfl, t0, t1, ⟨a, m, c, a0, m0, hd⟩, q⟩ := h
  refine ⟨_, pss_cons (ps_asg (pe_op op_add (pe_ix ix_list (pv 0) pe_int (fun _ _ => rfl)) pe_int) (pg_sub (pv 0) pe_int set_list))
    (pss_cons (ps_if (pt_cmpR op_gt (pe_ix ix_list (pv 0) pe_int (fun _ _ => rfl)) pe_int (nomark _))
      (pss_cons (ps_asg (pe_callB call_divmod (by rfl) md PyProof.Rows.boot_divmod (pa_cons (pe_ix ix_list (pv 0) pe_int (fun _ _ => rfl)) (pa_cons (pv 1) pa_nil)))
          (pg_tup (by rfl) (pgs_cons (pg_sub (pv 0) pe_int set_list) (pgs_cons (pg_name (i := 2) scCard.nd rfl (Or.inl rfl)) pgs_nil))))
        (pss_one (ps_ret (pv 2)))) pss_nil)
    (pss_cons (ps_asg (pe_op op_mod (pe_callTy call_int1 (by rfl) mi PyProof.Rows.boot_int (pa_cons
        (pe_op op_add (pe_op op_mul (pe_ix ix_list (pv 0) pe_int (fun _ _ => rfl)) pe_int) (pe_op op_mul pe_int (pe_ix ix_list (pv 0) pe_int (fun _ _ => rfl)))) pa_nil)) pe_int)
        (pg_sub (pv 0) pe_int set_list))
    (pss_one (ps_ret (pe_op op_mod (pe_callTy call_int1 (by rfl) mi PyProof.Rows.boot_int (pa_cons
        (pe_op op_fdiv (pe_ix ix_list (pv 0) pe_int (fun _ _ => rfl)) pe_int) pa_nil)) (pv 1)))))), ?_⟩
  refine ⟨_, rfl, d, _, _, _, rfl, rfl, SqL.of hd, rfl, _, _, rfl, rfl, _, rfl, d, _, _, _, rfl, rfl, hd, rfl, ?_⟩
  refine ⟨_, rfl, d, _, _, _, rfl, rfl, SqL.of upd_same, rfl, _, _, rfl, rfl, _, rfl, ?_⟩
  refine ite2 (fun c0 => ?_) (fun c0 => ?_)
  · refine ⟨_, rfl, d, _, _, _, rfl, rfl, SqL.of upd_same, rfl, _, rfl, _, _, rfl, ⟨t0, t1⟩, fun p hp => ?_⟩
    have npd : d ≠ p := ne_of_none upd_same hp
    refine ⟨p, _, rfl, SqT.of upd_same, rfl, _, _, rfl, ?_⟩
    refine ⟨_, rfl, d, _, _, _, rfl, rfl, by rw [upd_ne npd]; exact upd_same, rfl, ?_⟩
    refine ⟨_, _, rfl, rfl, _, rfl, ?_⟩
    refine q _ _ (Int.emod_nonneg _ (by omega)) (Int.emod_lt_of_pos _ t0) (((But.refl.upd _).new hp _).upd _) ⟨_, _, _, ?_, m0, upd_same⟩
    exact Int.ediv_nonneg a0 (by omega)
  · refine ⟨_, rfl, d, _, _, _, rfl, rfl, SqL.of upd_same, rfl, _, _, rfl, rfl, .inr ⟨by decide, by decide⟩, ?_⟩
    refine ⟨_, rfl, d, _, _, _, rfl, rfl, SqL.of upd_same, rfl, _, _, rfl, rfl, .inl ⟨by decide, by decide⟩, _, _, rfl, rfl, .inl ⟨_, rfl, ?_⟩⟩
    refine ⟨_, _, rfl, rfl, (by decide : (0 : Int) < 2147483629), ?_⟩
    refine ⟨_, rfl, d, _, _, _, rfl, rfl, upd_same, rfl, ?_⟩
    refine ⟨_, rfl, d, _, _, _, rfl, rfl, SqL.of upd_same, rfl, _, _, rfl, rfl, ⟨by decide, by decide⟩, .inl ⟨_, rfl, ?_⟩⟩
    refine ⟨_, rfl, _, _, rfl, rfl, t0, ?_⟩
    refine q _ _ (Int.emod_nonneg _ (by omega)) (Int.emod_lt_of_pos _ t0) ((But.refl.upd _).upd _) ⟨_, _, _, a0, Int.emod_nonneg _ (by decide), upd_same⟩
/-- _law_of, over a list -/
def spOf (K : PySem.W.Frag) : Sp := fun vs H Q _ => ∃ (d l : Addr) (xs : List V), vs = [.ref d, .ref l] ∧ d ≠ l ∧ SqL K H l xs ∧ 0 < xs.length ∧ xs.length ≤ 1000 ∧ DeckAt H d ∧
  ∀ v H', v ∈ xs → But d H H' → DeckAt H' d → Q v H'
theorem scOf : FnScope ["_law_deck_here", "_law_menu"] ["_law_deck_here", "_law_menu"] (defScope s_law_of) :=
  ⟨rfl, rfl, rfl, by decide +kernel, rfl, by decide +kernel, by decide +kernel⟩
theorem ok_of {f fC : Addr} {fd fdC : FuncData} (F : Fun K "_law_of" "_law_of" s_law_of f fd)
    (GC : FnOk P w K mg base CX0 1 fC fdC ["_law_deck_here", "_law_top"] spCard) (bC : Binds K fdC ["_law_deck_here", "_law_top"] [])
    (kC : PySem.W.keepIn K (.ref fC) = true) (mC : mg "_law_card" = some (.ref fC)) (ml : mg "len" = none) :
    FnOk P w K mg base CX0 2 f fd ["_law_deck_here", "_law_menu"] (spOf K) := by
  refine F.ok scOf (fun vs H Q E h => ?_) (fun cdv A outer s H vs Q E hr h => ?_)
  · obtain ⟨d, l, xs, rfl, _⟩ := h
    rfl
  obtain ⟨d, l, xs, rfl, ndl, hl, l0, l1, hd, q⟩ := h
  refine ⟨_, pss_one (ps_ret (pe_ix ix_list (pv 1) (pe_call GC hr rfl mC kC bC .nil pass0 (pa_cons (pv 0) (pa_cons
    (pe_callB call_len_seq (by rfl) ml PySem.boot_len (pa_cons (pv 1) pa_nil)) pa_nil))) (fun _ _ => rfl))), ?_⟩
  refine ⟨_, rfl, _, rfl, _, rfl, l, _, rfl, .inl hl, d, _, rfl, by omega, by omega, hd, fun r H' r0 r1 b hd' => ?_⟩
  obtain ⟨v, hv, ev⟩ := atI_in r0 r1
  exact ⟨l, _, _, _, rfl, rfl, b.seq (Ne.symm ndl) hl, ev, q v H' hv b hd'⟩
end
end Wp

/-! a lambda that a def hands back: what it captured goes on standing; it is called elsewhere -/
namespace LamR
open PySem PySem.Spec PyProof.Rows L2 LamX
/-- a lambda: its words, the cells that it captured, its code object -/
structure LF where
  qual : Str
  params : Arguments
  body : Expr
  scope : Scope
  cl : List (Str × Addr)
  c : Addr
def LamO (f : Addr) (F : LF) : HO := .ext fun h => ∃ pm ctv : Value, h.get? f = some (PySem.W.kla_obj "<lambda>" F.qual F.params F.body F.scope F.cl pm F.c ctv)
/-- a cell that none writes any more, and what it holds -/
def CellO (c : Addr) (v : V) : HO := .ext fun h => ∃ u, RelV v u ∧ h.IsCell c (some u)
theorem lamO_ok {P : Program} {w : World} {H : Hp} {h : Heap} {f : Addr} {F : LF} {pm ctv : Value} (e : h.get? f = some (PySem.W.kla_obj "<lambda>" F.qual F.params F.body F.scope F.cl pm F.c ctv)) : ObjOk P w H h f (LamO f F) :=
  ⟨⟨pm, ctv, e⟩, ⟨_, e⟩, fun _ _ ⟨a, b, q⟩ k => ⟨a, b, k _ q⟩⟩
theorem cellO_ok {P : Program} {w : World} {H : Hp} {h : Heap} {c : Addr} {v : V} {u : Value} (r : RelV v u) (e : h.IsCell c (some u)) : ObjOk P w H h c (CellO c v) :=
  ⟨⟨u, r, e⟩, let ⟨o, ho, _⟩ := e; ⟨o, ho⟩, fun _ _ ⟨u, r, o, ho, hd⟩ k => ⟨u, r, o, k _ ho, hd⟩⟩
theorem lamO_at {P : Program} {w : World} {H : Hp} {h : Heap} {f : Addr} {F : LF} (hok : HOk P w H h) (e : H f = some (LamO f F)) : ∃ pm ctv : Value, h.get? f = some (PySem.W.kla_obj "<lambda>" F.qual F.params F.body F.scope F.cl pm F.c ctv) := (hok f _ e).1
theorem cellO_at {P : Program} {w : World} {H : Hp} {h : Heap} {c : Addr} {v : V} (hok : HOk P w H h) (e : H c = some (CellO c v)) : ∃ u, RelV v u ∧ h.IsCell c (some u) := (hok c _ e).1
/-- the heap without some addresses -/
def less (cs : List Addr) (H : Hp) : Hp := fun b => if b ∈ cs then none else H b
theorem less_in {cs : List Addr} {H : Hp} {b : Addr} (h : b ∈ cs) : less cs H b = none := if_pos h
theorem less_out {cs : List Addr} {H : Hp} {b : Addr} (h : b ∉ cs) : less cs H b = H b := if_neg h
theorem less_some {cs : List Addr} {H : Hp} {b : Addr} {o : HO} (h : less cs H b = some o) : b ∉ cs ∧ H b = some o := by
  by_cases hb : b ∈ cs
  · rw [less_in hb] at h
    cases h
  · rw [less_out hb] at h
    exact ⟨hb, h⟩
theorem less_none {cs : List Addr} {H : Hp} {b : Addr} (h : H b = none) : less cs H b = none := by
  unfold less
  split
  · rfl
  · exact h
/-- back again -/
def back (cs : List Addr) (H0 H : Hp) : Hp := fun b => if b ∈ cs then H0 b else H b
theorem back_in {cs : List Addr} {H0 H : Hp} {b : Addr} (h : b ∈ cs) : back cs H0 H b = H0 b := if_pos h
theorem back_out {cs : List Addr} {H0 H : Hp} {b : Addr} (h : b ∉ cs) : back cs H0 H b = H b := if_neg h
/-- what a lambda captured stands: fr the names in order, ws what they hold -/
structure Cap (H : Hp) (F : LF) (fr : List Str) (ws : List V) : Prop where
  len : ws.length = fr.length
  has : ∀ (i : Nat) (y : Str) (v : V), fr[i]? = some y → ws[i]? = some v → ∃ c, F.cl.lookup y = some c ∧ H c = some (CellO c v)
  all : ∀ y c, F.cl.lookup y = some c → y ∈ fr
  inj : ∀ x y c, F.cl.lookup x = some c → F.cl.lookup y = some c → x = y
theorem Cap.cell {H : Hp} {F : LF} {fr : List Str} {ws : List V} (C : Cap H F fr ws) {y : Str} {c : Addr} (e : F.cl.lookup y = some c) : ∃ v, H c = some (CellO c v) := by
  obtain ⟨i, hi⟩ := List.mem_iff_getElem?.mp (C.all y c e)
  have hl : i < ws.length := by
    rw [C.len]
    exact (List.getElem?_eq_some_iff.mp hi).1
  obtain ⟨c2, e2, h⟩ := C.has i y ws[i] hi (List.getElem?_eq_getElem hl)
  rw [e] at e2
  cases e2
  exact ⟨_, h⟩
abbrev LF.cs (F : LF) (fr : List Str) : List Addr := fr.map fun y => (F.cl.lookup y).getD 0
theorem cs_mem {F : LF} {fr : List Str} {y : Str} {c : Addr} (h : y ∈ fr) (e : F.cl.lookup y = some c) : c ∈ F.cs fr := List.mem_map.mpr ⟨y, h, by rw [e]; rfl⟩
theorem Cap.of_cs {H : Hp} {F : LF} {fr : List Str} {ws : List V} (C : Cap H F fr ws) {c : Addr} (h : c ∈ F.cs fr) : ∃ (i : Nat) (y : Str) (v : V), fr[i]? = some y ∧ ws[i]? = some v ∧ F.cl.lookup y = some c ∧ H c = some (CellO c v) := by
  obtain ⟨y, hy, rfl⟩ := List.mem_map.mp h
  obtain ⟨i, hi⟩ := List.mem_iff_getElem?.mp hy
  have hl : i < ws.length := by
    rw [C.len]
    exact (List.getElem?_eq_some_iff.mp hi).1
  obtain ⟨c2, e2, h⟩ := C.has i y ws[i] hi (List.getElem?_eq_getElem hl)
  refine ⟨i, y, ws[i], hi, List.getElem?_eq_getElem hl, ?_, ?_⟩
  · rw [e2]
    rfl
  · rw [e2]
    exact h
/-! ### a def that hands a lambda back: the end of its body is told with the names' values -/
def SPC (X : Cx) (pins : List (Addr × Obj)) (nx : L2.St → Hp → Prop) (rt : V → L2.St → Hp → Prop) (f : Flow) (s' : Shared) : Prop := match f with
  | .next => ∃ σ H, Inv X pins σ H s' ∧ nx σ H
  | .ret u => ∃ v σ H, Inv X pins σ H s' ∧ RelV v u ∧ rt v σ H
  | _ => False
abbrev TC : Type := (V → L2.St → Hp → Prop) → L2.St → Hp → Prop
structure PSC (X : Cx) (b : List Stmt) (t : TC) : Prop where
  run : ∀ (pins : List (Addr × Obj)) (s : Shared) (σ : L2.St) (H : Hp) (rt : V → L2.St → Hp → Prop), Inv X pins σ H s → t rt σ H → wpAny (model X.prog X.w) X.A (execs b X.env) (SPC X pins (fun _ _ => False) rt) X.xe s
section
variable {X : Cx} {st : Stmt} {rest : List Stmt} {t : TS} {u : TC} {e c : Expr} {te : TE} {tc : TT} {pos : Pos} {a : List Stmt}
/-- a statement that does not return -/
def tSeqC (t : TS) (u : TC) : TC := fun rt σ H => t { nx := u rt, rt := fun _ _ => False } σ H
theorem psc_cons (h1 : PS X st t) (h2 : PSC X rest u) : PSC X (st :: rest) (tSeqC t u) := by
  refine ⟨fun pins s σ H rt I h => ?_⟩
  refine wpAny_execs_cons (thn (h1.run pins s σ H _ I h) fun f s1 q => ?_)
  cases f with
  | next =>
    obtain ⟨σ', H', I', q⟩ := q
    exact h2.run pins s1 σ' H' rt I' q
  | ret v =>
    obtain ⟨_, _, _, _, _, z⟩ := q
    exact z.elim
  | brk =>
    obtain ⟨_, _, _, z⟩ := q
    exact z.elim
  | cont =>
    obtain ⟨_, _, _, z⟩ := q
    exact z.elim
def tRetC (te : TE) : TC := fun rt σ H => te σ H fun v H1 => rt v σ H1
theorem psc_ret (he : PE X e te) : PSC X (.Return (some e) pos :: rest) (tRetC te) := by
  refine ⟨fun pins s σ H rt I h => ?_⟩
  refine wpAny_execs_cons (wpAny_Return_some (thn (he.run pins s σ H _ I h) fun v s1 ⟨x, H1, I1, r1, q1⟩ => ?_))
  exact ⟨x, σ, H1, I1, r1, q1⟩
/-- if c: a (which returns), then the rest -/
def tIfC (tc : TT) (t u : TC) : TC := fun rt σ H => tc σ H fun b H1 => if b = true then t rt σ H1 else u rt σ H1
theorem psc_if {t : TC} (hc : PT X c tc) (ha : PSC X a t) (hb : PSC X rest u) : PSC X (.If c a [] pos :: rest) (tIfC tc t u) := by
  refine ⟨fun pins s σ H rt I h => ?_⟩
  refine wpAny_execs_cons (wpAny_If (thn (hc.run pins s σ H _ I h) fun d s1 ⟨H1, I1, q1⟩ => ?_))
  cases d with
  | true =>
    refine thn (ha.run pins s1 σ H1 rt I1 q1) fun f s2 q => ?_
    cases f with
    | next =>
      obtain ⟨_, _, _, z⟩ := q
      exact z.elim
    | ret v => exact q
    | brk => exact q.elim
    | cont => exact q.elim
  | false => exact wpAny_execs_nil (hb.run pins s1 σ H1 rt I1 q1)
end
end LamR
namespace LamR
open PySem PySem.Spec PyProof.Rows L2 LamX
/-! ### the making of a lambda as a value -/
section
variable {X : Cx}
def tLamR (T : List (Addr × Str)) (q : Str) (params : Arguments) (body : Expr) (scope : Scope) (cl : List (Str × Addr)) : TE := fun σ H Q => Tabs T H ∧ ∀ (f c' : Addr) (H1 : Hp), ExtN H H1 → Tabs T H1 → H1 f = none → H1 c' = some (CodeO c' q) → Q (.ref f) (upd H1 f (LamO f ⟨q, params, body, scope, cl, c'⟩))
theorem pe_lamR {T : List (Addr × Str)} {c P : Addr} {params : Arguments} {body : Expr} {scope : Scope} {pos : Pos} (TB : TabB X.base X.mg c P) (hcode : X.env.code = .ref c)
    (hm : (P, X.env.qual ++ "<lambda>") ∈ T) (hu : ∀ p ∈ T, p.1 = P → p.2 = X.env.qual ++ "<lambda>") (hdef : defaultsOf params X.env = ([], [])) (L : LamS X.env.scope scope) :
    PE X (.Lambda params body scope pos) (tLamR T (X.env.qual ++ "<lambda>") params body scope (cloFrom X.env.cells scope.names [])) := by
  refine ⟨fun pins s σ H Q I h => ?_⟩
  obtain ⟨hT, h⟩ := h
  obtain ⟨ps, hP, ht, ha⟩ := hT _ hm
  refine PySem.W.kla_eval hdef ?_
  have bP : s.heap.BuiltinsAt X.mg P := TB.bm.keeps I.bk
  have hP' : s.heap.get? P = some { cls := .none, data := .fields ps } := I.hok P _ hP
  have free := L.has I.ok
  cases hc : codeAmong pos ps.toList with
  | none =>
    refine PySem.W.kla_makeFunction (mg := X.mg) (c := c) (P := P) (ps := ps) (closure_ok free) I.ok.glob (I.mod.glob.keeps I.bk) hcode (TB.code.keeps I.bk) hP' ht hc TB.gP bP fun c' ctv g tk old ge lt rec tab => ?_
    obtain ⟨c2, oc, vs, t, e2, hoc, hd, hv⟩ := rec
    cases e2
    have nC : H c' = none := I.hok.fresh ge
    have I1 := inv_table (t' := tk) (more := #[rawInt pos.line, rawInt pos.col, .ref c']) (h' := g) I hP old tab ge ⟨oc, vs, t, hoc, hd, hv⟩
    have ext : ExtN H (upd (upd H P (.tbl (ps ++ #[rawInt pos.line, rawInt pos.col, .ref c']))) c' (CodeO c' (X.env.qual ++ "<lambda>"))) := fun b o e n => by
      rw [upd_ne (ne_of_none e nC), upd_ne (fun z => n ps (by rw [z, hP] at e; exact (Option.some.inj e).symm))]
      exact e
    have tabs : Tabs T (upd (upd H P (.tbl (ps ++ #[rawInt pos.line, rawInt pos.col, .ref c']))) c' (CodeO c' (X.env.qual ++ "<lambda>"))) := fun p hp => by
      have eL : (ps ++ #[rawInt pos.line, rawInt pos.col, .ref c']).toList = ps.toList ++ [rawInt pos.line, rawInt pos.col, .ref c'] := by simp
      rcases Decidable.em (p.1 = P) with hb | hb
      · rw [hu p hp hb, hb]
        refine ⟨ps ++ #[rawInt pos.line, rawInt pos.col, .ref c'], ?_, ?_, fun p' cv hcv => ?_⟩
        · rw [upd_ne (ne_of_none hP nC)]
          exact upd_same
        · rw [eL]
          exact PySem.TriplesOk_snoc _ _ _ _ ht
        · rw [eL] at hcv
          cases among_app _ ht hcv with
          | inl z =>
            obtain ⟨c0, e1, e2⟩ := ha p' cv z
            exact ⟨c0, e1, ext _ _ e2 codeO_ne⟩
          | inr z => exact ⟨c', z, upd_same⟩
      · obtain ⟨ps', a1, a2, a3⟩ := hT p hp
        refine ⟨ps', ?_, a2, fun p' cv hcv => ?_⟩
        · rw [upd_ne (ne_of_none a1 nC), upd_ne hb]
          exact a1
        · obtain ⟨c0, e1, e2⟩ := a3 p' cv hcv
          exact ⟨c0, e1, ext _ _ e2 codeO_ne⟩
    have nF : upd (upd H P (.tbl (ps ++ #[rawInt pos.line, rawInt pos.col, .ref c']))) c' (CodeO c' (X.env.qual ++ "<lambda>")) g.objs.size = none := I1.hok.fresh (Nat.le_refl _)
    exact ⟨.ref g.objs.size, _, I1.laid (t' := tk) (fun b o e => Heap.get?_push_of_some _ e) (Nat.le_refl _) (lamO_ok (F := ⟨_, _, _, _, _, c'⟩) (Heap.get?_push_size _ rfl)), rfl, h _ c' _ ext tabs nF upd_same⟩
  | some cv =>
    obtain ⟨c', rfl, hco⟩ := ha pos cv hc
    refine PySem.W.kla_makeFunctionHit (mg := X.mg) (c := c) (P := P) (ps := ps) (closure_ok free) I.ok.glob (I.mod.glob.keeps I.bk) hcode (TB.code.keeps I.bk) hP' ht hc bP fun ctv g tk old ge => ?_
    exact ⟨.ref g.objs.size, _, I.laid (t' := tk) (fun b o e => Heap.get?_push_of_some _ (old b o e)) ge (lamO_ok (F := ⟨_, _, _, _, _, c'⟩) (Heap.get?_push_size _ rfl)), rfl, h _ c' H (ExtN.refl H) hT (I.hok.fresh ge) hco⟩
end
/-! ### the end of a def that hands lambdas back -/
/-- the cell of a name -/
def cellOf (X : Cx) (x : Str) : Addr := (X.env.cells.lookup x).getD 0
/-- what stands behind the end: all, and the cells of the names js with what they hold -/
def Left0 (X : Cx) (js : List Nat) (σ : L2.St) (H H' : Hp) : Prop := (∀ b o, H b = some o → H' b = some o) ∧ ∀ j ∈ js, ∀ (y : Str) (v : V), X.N[j]? = some y → σ[j]? = some (some v) → H' (cellOf X y) = some (CellO (cellOf X y) v)
structure Left (X : Cx) (js : List Nat) (σ : L2.St) (H H' : Hp) : Prop where
  all : ∀ b o, H b = some o → H' b = some o
  has : ∀ j ∈ js, ∀ (y : Str) (v : V), X.N[j]? = some y → σ[j]? = some (some v) → H' (cellOf X y) = some (CellO (cellOf X y) v)
  out : ∀ j ∈ js, ∀ y : Str, X.N[j]? = some y → H (cellOf X y) = none
  look : ∀ j ∈ js, ∀ y : Str, X.N[j]? = some y → X.env.cells.lookup y = some (cellOf X y)
  inj : ∀ (x y : Str) (c : Addr), X.env.cells.lookup x = some c → X.env.cells.lookup y = some c → x = y
theorem un_cell {fs ex : List Addr} {H0 H : Hp} {h0 h : Heap} {a : Addr} {o : HO} (u : Un fs ex H0 H h0 h) (n : H a = none) (hn : h0.objs.size ≤ a) : Un fs ex H0 (upd H a o) h0 h := by
  refine ⟨u.keep, u.slot, fun b ob e z hx => ?_, u.there, fun b xs e => ?_, fun b ob x e => ?_, fun b ps e => ?_⟩
  · rw [upd_ne (fun q => by rw [q] at e; exact absurd (Heap.lt_size e) (Nat.not_lt.mpr hn))]
    exact u.free b ob e z hx
  · have q := u.tups b xs e
    rw [upd_ne (ne_of_none q n)]
    exact q
  · have q := u.frzs b ob x e
    rw [upd_ne (ne_of_none q n)]
    exact q
  · obtain ⟨m, q⟩ := u.tbls b ps e
    exact ⟨m, by rw [upd_ne (ne_of_none q n)]; exact q⟩
/-- the cells are told -/
theorem cells_left0 {X : Cx} {σ : L2.St} {H : Hp} {s : Shared} (I : Inv X [] σ H s) (new : ∀ y c, X.env.cells.lookup y = some c → X.s_0.heap.objs.size ≤ c) :
    ∀ js : List Nat, js.Nodup → X.N.Nodup → (∀ j ∈ js, ∃ y, X.N[j]? = some y ∧ X.env.kindOf y = some .cell) →
    ∃ H' : Hp, Un X.fs X.ex X.H_0 H' X.s_0.heap s.heap ∧ HOk X.prog X.w H' s.heap ∧ Left0 X js σ H H' ∧ ∀ b, H b = none → H' b ≠ none → ∃ j ∈ js, ∃ y, X.N[j]? = some y ∧ b = cellOf X y
  | [], _, _, _ => ⟨H, I.base, I.hok, ⟨fun _ _ e => e, fun j hj => absurd hj List.not_mem_nil⟩, fun b n z => absurd n z⟩
  | j :: r, nd, nN, hk => by
    obtain ⟨H1, u1, k1, l1, o1⟩ := cells_left0 I new r (List.nodup_cons.mp nd).2 nN fun i hi => hk i (List.mem_cons_of_mem _ hi)
    obtain ⟨y, hy, ky⟩ := hk j List.mem_cons_self
    obtain ⟨c, hc⟩ := I.ok.has y (.inl ky)
    have ec : cellOf X y = c := by
      unfold cellOf
      rw [hc] <;> rfl
    have n1 : H1 c = none := by
      cases e : H1 c with
      | none => rfl
      | some o =>
        obtain ⟨i, hi, y2, hy2, e2⟩ := o1 c (I.freeC y c hc) (by rw [e]; exact fun z => nomatch z)
        obtain ⟨y3, hy3, ky3⟩ := hk i (List.mem_cons_of_mem _ hi)
        rw [hy2] at hy3
        cases hy3
        obtain ⟨c2, hc2⟩ := I.ok.has y2 (.inl ky3)
        have ec2 : cellOf X y2 = c2 := by
          unfold cellOf
          rw [hc2] <;> rfl
        rw [ec2] at e2
        subst e2
        have := I.ok.inj y y2 c hc hc2
        subst this
        have ij := nodup_ix nN hy hy2
        subst ij
        exact absurd hi (List.nodup_cons.mp nd).1
    cases hv : σ[j]? with
    | none =>
      refine ⟨H1, u1, k1, ⟨l1.1, fun i hi y2 v e1 e2 => ?_⟩, fun b n z => ?_⟩
      · rcases List.mem_cons.mp hi with rfl | hi
        · rw [hv] at e2
          cases e2
        · exact l1.2 i hi y2 v e1 e2
      · obtain ⟨i, hi, q⟩ := o1 b n z
        exact ⟨i, List.mem_cons_of_mem _ hi, q⟩
    | some ov =>
      cases ov with
      | none =>
        refine ⟨H1, u1, k1, ⟨l1.1, fun i hi y2 v e1 e2 => ?_⟩, fun b n z => ?_⟩
        · rcases List.mem_cons.mp hi with rfl | hi
          · rw [hv] at e2
            cases e2
          · exact l1.2 i hi y2 v e1 e2
        · obtain ⟨i, hi, q⟩ := o1 b n z
          exact ⟨i, List.mem_cons_of_mem _ hi, q⟩
      | some v =>
        obtain ⟨m, _, lk⟩ := I.loc
        obtain ⟨w', rw', q⟩ := lk j y v hy hv (.inr (.inl ky))
        have cell : s.heap.IsCell c (some w') := by
          rcases q with ⟨k', _⟩ | ⟨_, c3, e3, z⟩
          · rw [ky] at k'
            cases k'
          · rw [hc] at e3
            cases e3
            exact z
        refine ⟨upd H1 c (CellO c v), un_cell u1 n1 (new y c hc), ?_, ⟨fun b o e => ?_, fun i hi y2 v2 e1 e2 => ?_⟩, fun b n z => ?_⟩
        · exact HOk.laidN k1 (fun _ _ e => e) n1 (cellO_ok rw' cell)
        · rw [upd_ne (ne_of_none (l1.1 b o e) n1)]
          exact l1.1 b o e
        · rcases List.mem_cons.mp hi with rfl | hi
          · rw [hy] at e1
            cases e1
            rw [hv] at e2
            cases e2
            rw [ec]
            exact upd_same
          · have q2 := l1.2 i hi y2 v2 e1 e2
            rw [upd_ne (ne_of_none q2 n1)]
            exact q2
        · by_cases hb : b = c
          · exact ⟨j, List.mem_cons_self, y, hy, by rw [ec]; exact hb⟩
          · rw [upd_ne hb] at z
            obtain ⟨i, hi, q⟩ := o1 b n z
            exact ⟨i, List.mem_cons_of_mem _ hi, q⟩
theorem cells_left {X : Cx} {σ : L2.St} {H : Hp} {s : Shared} (I : Inv X [] σ H s) (new : ∀ y c, X.env.cells.lookup y = some c → X.s_0.heap.objs.size ≤ c) (js : List Nat) (nd : js.Nodup) (nN : X.N.Nodup) (hk : ∀ j ∈ js, ∃ y, X.N[j]? = some y ∧ X.env.kindOf y = some .cell) :
    ∃ H' : Hp, Un X.fs X.ex X.H_0 H' X.s_0.heap s.heap ∧ HOk X.prog X.w H' s.heap ∧ Left X js σ H H' := by
  obtain ⟨H', u, k, l, _⟩ := cells_left0 I new js nd nN hk
  have lk : ∀ j ∈ js, ∀ y : Str, X.N[j]? = some y → X.env.cells.lookup y = some (cellOf X y) := fun j hj y hy => by
    obtain ⟨y2, hy2, ky⟩ := hk j hj
    rw [hy] at hy2
    cases hy2
    obtain ⟨c, hc⟩ := I.ok.has y (.inl ky)
    unfold cellOf
    rw [hc] <;> rfl
  exact ⟨H', u, k, l.1, l.2, fun j hj y hy => I.freeC y _ (lk j hj y hy), lk, I.ok.inj⟩
/-- a lambda's captured names, out of the cells that were left -/
theorem cap_left {X : Cx} {js : List Nat} {σ : L2.St} {H H' : Hp} (L : Left X js σ H H') {scope : Scope} {fr : List Str} {ws : List V} {qual : Str} {params : Arguments} {body : Expr} {c : Addr}
    (free : ∀ y ∈ scope.names, y.2 = .free → y.1 ∈ fr) (frk : ∀ y ∈ fr, scope.names.lookup y = some .free) (at_ : List Nat) (hfr : fr = at_.filterMap fun j => X.N[j]?) (hjs : ∀ j ∈ at_, j ∈ js ∧ j < X.N.length) (hws : ws.map some = at_.map fun j => (σ[j]?).getD none) :
    Cap H' ⟨qual, params, body, scope, cloFrom X.env.cells scope.names [], c⟩ fr ws := by
  have cm : ∀ {y c}, (cloFrom X.env.cells scope.names []).lookup y = some c → y ∈ fr ∧ c = cellOf X y := fun {y c} e => by
    rcases cloFrom_mem (PySem.mem_of_lookup e) with hm | ⟨h1, h2⟩
    · cases hm
    · exact ⟨free _ h1 rfl, h2⟩
  have look : ∀ y ∈ fr, (cloFrom X.env.cells scope.names []).lookup y = some (cellOf X y) := fun y hy => by
    obtain ⟨c, hc⟩ := mem_lookup (cloFrom_has (cells := X.env.cells) (acc := []) (PySem.mem_of_lookup (frk y hy)))
    rw [hc, (cm hc).2]
  have idx : ∀ y ∈ fr, ∃ j ∈ js, X.N[j]? = some y := fun y hy => by
    rw [hfr] at hy
    obtain ⟨j, hj, e⟩ := List.mem_filterMap.mp hy
    exact ⟨j, (hjs j hj).1, e⟩
  have fre : fr.map some = at_.map fun j => X.N[j]? := by
    rw [hfr]
    have : ∀ l : List Nat, (∀ j ∈ l, j < X.N.length) → (l.filterMap fun j => X.N[j]?).map some = l.map fun j => X.N[j]? := by
      intro l
      induction l with
      | nil => intro _; rfl
      | cons a l ih =>
        intro h
        rw [List.filterMap_cons, List.getElem?_eq_getElem (h a List.mem_cons_self), List.map_cons, List.map_cons, ih fun j hj => h j (List.mem_cons_of_mem _ hj), List.getElem?_eq_getElem (h a List.mem_cons_self)]
    exact this at_ fun j hj => (hjs j hj).2
  have ln : ws.length = at_.length := by
    have := congrArg List.length hws
    simpa using this
  have lf : fr.length = at_.length := by
    have := congrArg List.length fre
    simpa using this
  refine ⟨by rw [ln, lf], fun i y v h1 h2 => ?_, fun y c e => (cm e).1, fun x y c h1 h2 => ?_⟩
  · have hi : i < at_.length := by
      rw [← lf]
      exact (List.getElem?_eq_some_iff.mp h1).1
    have e1 : X.N[at_[i]]? = some y := by
      have := congrArg (fun l : List (Option Str) => l[i]?) fre
      simp only [List.getElem?_map, h1, List.getElem?_eq_getElem hi, Option.map_some] at this
      exact (Option.some.inj this).symm
    have e2 : σ[at_[i]]? = some (some v) := by
      have := congrArg (fun l : List (Option V) => l[i]?) hws
      simp only [List.getElem?_map, h2, List.getElem?_eq_getElem hi, Option.map_some] at this
      have := (Option.some.inj this).symm
      cases z : σ[at_[i]]? with
      | none => rw [z] at this; cases this
      | some u =>
        rw [z] at this
        have : u = some v := this
        rw [this]
    exact ⟨_, look y (List.mem_of_getElem? h1), L.has _ (hjs _ (List.getElem_mem hi)).1 y v e1 e2⟩
  · obtain ⟨m1, e1⟩ := cm h1
    obtain ⟨m2, e2⟩ := cm h2
    obtain ⟨j1, hj1, n1⟩ := idx x m1
    obtain ⟨j2, hj2, n2⟩ := idx y m2
    refine L.inj x y c ?_ ?_
    · rw [L.look j1 hj1 x n1, ← e1]
    · rw [L.look j2 hj2 y n2, ← e2]
/-- what stood before the end stands outside the cells -/
theorem left_less {X : Cx} {js : List Nat} {σ : L2.St} {H H' : Hp} (L : Left X js σ H H') {F : LF} {fr : List Str} (sub : ∀ y ∈ fr, ∃ j ∈ js, X.N[j]? = some y) (hcl : ∀ y ∈ fr, F.cl.lookup y = some (cellOf X y)) : ∀ b o, H b = some o → less (F.cs fr) H' b = some o := fun b o e => by
  rw [less_out fun z => ?_]
  · exact L.all b o e
  · obtain ⟨y, hy, rfl⟩ := List.mem_map.mp z
    obtain ⟨j, hj, n⟩ := sub y hy
    rw [hcl y hy] at e
    have := L.out j hj y n
    rw [show H (cellOf X y) = some o from e] at this
    cases this
end LamR
namespace LamR
open PySem PySem.Spec PyProof.Rows L2 LamX
/-- a def of the text that hands lambdas back, by its body: Q is asked of the heap in which the cells of the names js stand -/
theorem okC {K : PySem.W.Frag} {P : Program} {w : World} {mg : Str → Option Value} {base : Heap} {x qual : Str} {st : Stmt} {f : Addr} {fd : FuncData} {N ps : List Str} {k : Nat} {sp : Sp} (F : Fun K x qual st f fd) (S : FnScope N ps (defScope st)) (js : List Nat)
    (hj : ∀ j ∈ js, ∃ y, N[j]? = some y ∧ (defScope st).names.lookup y = some .cell) (nd : js.Nodup) (len : ∀ vs H Q E, sp vs H Q E → vs.length = ps.length)
    (hbody : ∀ (cdv : Value) (A : Around) (outer : List Env) (s : Shared) (H : Hp) (vs : List V) (Q : VK) (E : XK), Room k (A.deeper (envOfC qual (defScope st) s.heap.objs.size f cdv)) → sp vs H Q E →
      ∃ t, PSC (cxOf CX0 P w K mg base N qual (defScope st) f cdv A outer s H E) (defBody st) t ∧
        t (fun v σ H1 => ∀ H2, Left (cxOf CX0 P w K mg base N qual (defScope st) f cdv A outer s H E) js σ H1 H2 → Q v H2) (L2.start N vs) H) :
    FnOk P w K mg base CX0 (k + 1) f fd ps sp := by
  obtain ⟨oc, od, kV, doc, pm, an, cdv, ct, osl, rfl, lk, hcd⟩ := F.ex
  refine ⟨len, fun A outer s H args us vs Q E hr e0 hb r hsp => ?_⟩
  have hl := len _ _ _ _ hsp
  have KX : K.In s.heap := e0.mod.kin.keeps fun b o e => (e0.bs b o e).1
  have lim : s.heap.NoLimit := e0.mod.nolimit.keeps fun b o e => (e0.bs b o e).1
  refine codeAny_call_function hr.depth (KX _ _ lk) rfl S.co S.gen rfl (PySem.W.codeRec_of KX hcd) (hb _ _ _ _ ?_)
  refine wpAny_newFunctionEnv_cells S.kind (fun z hz => ?_) fun env he s1 y => ?_
  · obtain ⟨n, v⟩ := z
    cases S.par n (List.of_mem_zip hz).1 with
    | inl q => exact .inl q
    | inr q => exact .inr ⟨q, PySem.W.cellsFrom_some _ _ _ (.inl q)⟩
  subst he
  refine ⟨lim.keeps y.toInCall.keep, codeAny_func ?_⟩
  obtain ⟨t, ht, hq⟩ := hbody cdv A outer s H vs Q E (hr.deeper _) hsp
  have I : Inv (cxOf CX0 P w K mg base N qual (defScope st) f cdv A outer s H E) [] (L2.start N vs) H s1 := inv_start S hr.hd e0 hl r y
  refine wpAny_mono (ht.run [] s1 (L2.start N vs) H _ I hq) (fun fl s' hs => ?_) fun e s' hs => hs
  cases fl with
  | ret u =>
    obtain ⟨v, σ', H', J, rv, q⟩ := hs
    obtain ⟨H2, u2, k2, l2⟩ := cells_left J (fun y c e => J.ok.cab y c rfl e) js nd S.nd hj
    exact ⟨v, H2, J.os, J.bare, u2, k2, rv, q H2 l2⟩
  | next =>
    obtain ⟨_, _, _, z⟩ := hs
    exact z.elim
  | brk => exact hs.elim
  | cont => exact hs.elim
/-! ### the call of a lambda that stands somewhere -/
abbrev lenv (F : LF) (f L : Addr) : Env := PySem.W.envX F.qual F.scope L f (.ref F.c) F.cl
/-- the context of its body, entered at s from the frames outer -/
def lcx (P : Program) (w : World) (K : PySem.W.Frag) (mg : Str → Option Value) (base : Heap) (N : List Str) (F : LF) (f : Addr) (A : Around) (outer : List Env) (s : Shared) (H : Hp) (E : XK) : Cx where
  prog := P
  w := w
  K := K
  mg := mg
  base := base
  A := A.deeper (lenv F f s.heap.objs.size)
  N := N
  s_0 := s
  H_0 := H
  env := lenv F f s.heap.objs.size
  outer := outer
  stack := lenv F f s.heap.objs.size :: outer
  ex := []
  fn := fun _ => false
  calm := true
  pn := []
  xe := fun e s' => wpAny (model P w) (A.deeper (lenv F f s.heap.objs.size)) (leaving (lenv F f s.heap.objs.size) e) (fun _ s'' => L2.CX P w outer H s E e s'') (fun e' s'' => L2.CX P w outer H s E e' s'') s'
/-- the names of a lambda's scope: captured ones, all in fr, and globals -/
structure LScope (fr : List Str) (sc : Scope) : Prop where
  kind : sc.kind = .function
  co : sc.isCoroutine = false
  gen : sc.isGenerator = false
  own : ∀ y ∈ sc.names, y.2 ≠ .local ∧ y.2 ≠ .cell
  free : ∀ y ∈ sc.names, y.2 = .free → y.1 ∈ fr
  frk : ∀ y ∈ fr, sc.names.lookup y = some .free
section
variable {P : Program} {w : World} {K : PySem.W.Frag} {mg : Str → Option Value} {base : Heap} {A : Around} {outer : List Env} {s : Shared} {H : Hp} {F : LF} {f : Addr} {fr : List Str} {ws : List V} {E : XK} {Q : VK}
theorem env0_less (e0 : Env0 P w K mg base A outer s H) {cs : List Addr} (hc : ∀ c ∈ cs, ∃ v, H c = some (CellO c v)) : Env0 P w K mg base A outer s (less cs H) := by
  have keepO : ∀ b x, H b = some (.own x) → less cs H b = some (.own x) := fun b x e => by
    rw [less_out fun z => ?_]
    · exact e
    · obtain ⟨v, q⟩ := hc b z
      rw [e] at q
      cases q
  have keepT : ∀ b xs, H b = some (.tup xs) → less cs H b = some (.tup xs) := fun b xs e => by
    rw [less_out fun z => ?_]
    · exact e
    · obtain ⟨v, q⟩ := hc b z
      rw [e] at q
      cases q
  refine ⟨e0.frames, e0.mod, fun b o e => ⟨(e0.bs b o e).1, less_none (e0.bs b o e).2⟩, e0.bsz, e0.funs, fun b hb => less_none (e0.frf b hb), fun b o e => ?_, e0.bare⟩
  obtain ⟨_, e⟩ := less_some e
  exact (e0.hok b o e).stay (fun _ _ _ q => q) (fun c q => keepO c b q) keepT
end
end LamR
namespace LamR
open PySem PySem.Spec PyProof.Rows L2 LamX
section
variable {P : Program} {w : World} {K : PySem.W.Frag} {mg : Str → Option Value} {base : Heap} {A : Around} {outer : List Env} {s : Shared} {H : Hp} {F : LF} {f : Addr} {fr : List Str} {ws : List V} {E : XK} {Q : VK} {k : Nat} {tb : TE}
theorem Cap.cells {H : Hp} {F : LF} {fr : List Str} {ws : List V} (C : Cap H F fr ws) : ∀ c ∈ F.cs fr, ∃ v, H c = some (CellO c v) := fun c hc => by
  obtain ⟨_, _, v, _, _, _, q⟩ := C.of_cs hc
  exact ⟨v, q⟩
theorem lam_in {h₁ : Heap} {tk : Nat} (S : LScope fr F.scope) (hd : A.handled = none) (e0 : Env0 P w K mg base A outer s H) (C : Cap H F fr ws) (hns : h₁.Ns s.heap.objs.size fun y => ([] : List (Str × Value)).reverse.lookup y)
    (kp : ∀ b o, s.heap.get? b = some o → h₁.get? b = some o) : Inv (lcx P w K mg base fr F f A outer s (less (F.cs fr) H) E) [] (ws.map some) (less (F.cs fr) H) { s with heap := h₁, toks := tk } := by
  have e1 := env0_less e0 C.cells
  have noA : ∀ b : Addr, b ∉ (lcx P w K mg base fr F f A outer s (less (F.cs fr) H) E).ex := fun b z => absurd (show b ∈ ([] : List Addr) from z) (by simp)
  have cellK : ∀ {c : Addr} {v : Option Value}, s.heap.IsCell c v → h₁.IsCell c v := fun {c v} ⟨o, ho, hd⟩ => ⟨o, kp _ _ ho, hd⟩
  refine ⟨⟨e1.mod, S.kind, rfl, rfl, Nat.le_refl _, C.inj, fun y hy => ?_, fun y c z _ => ?_, fun _ => hd, Around.frames_deeper e1.frames, .inr ⟨rfl, rfl⟩, fun b z => absurd z (noA b), e1.bs, e1.bsz, fun b _ _ => noA b,
      fun b z => absurd z (noA b), e1.funs, e1.frf⟩,
    rfl, e1.bare, Un.kept kp, ⟨_, hns, fun i y v a1 a2 a3 => ?_⟩, fun y c e => ?_, e1.hok.fresh (Nat.le_refl _), fun y c e => less_in (cs_mem (C.all y c e) e), fun q hq => absurd (show q ∈ ([] : List (Addr × Obj)) ++ [] from hq) (by simp), e1.hok.kept kp, ?_⟩
  · have hy : F.scope.names.lookup y = some .cell ∨ F.scope.names.lookup y = some .free := hy
    rcases hy with hy | hy
    · exact absurd rfl (S.own _ (PySem.mem_of_lookup hy)).2
    · obtain ⟨i, hi⟩ := List.mem_iff_getElem?.mp (S.free _ (PySem.mem_of_lookup hy) rfl)
      have hl : i < ws.length := by
        rw [C.len]
        exact (List.getElem?_eq_some_iff.mp hi).1
      obtain ⟨c, hc, _⟩ := C.has i y ws[i] hi (List.getElem?_eq_getElem hl)
      exact ⟨c, hc⟩
  · have z : false = true := z
    cases z
  · have a1 : fr[i]? = some y := a1
    rw [List.getElem?_map] at a2
    cases hw : ws[i]? with
    | none =>
      rw [hw] at a2
      cases a2
    | some x =>
      rw [hw] at a2
      have a3' : x = v := Option.some.inj (Option.some.inj a2)
      subst a3'
      obtain ⟨c, hc, hx⟩ := C.has i y x a1 hw
      obtain ⟨u, ru, hu⟩ := cellO_at e0.hok hx
      exact ⟨u, ru, .inr ⟨.inr (S.frk y (List.mem_of_getElem? a1)), c, hc, cellK hu⟩⟩
  · obtain ⟨v, hv⟩ := C.cell e
    obtain ⟨u, _, hu⟩ := cellO_at e0.hok hv
    exact ⟨some u, cellK hu⟩
  · show _ = fr.length
    rw [List.length_map, C.len]
theorem un_back {fs ex : List Addr} {H H' : Hp} {h h' : Heap} {cs : List Addr} (u : Un fs ex (less cs H) H' h h') (hc : ∀ c ∈ cs, ∃ v, H c = some (CellO c v)) : Un fs ex H (back cs H H') h h' := by
  have out : ∀ {b : Addr} {o : HO}, H b = some o → (∀ φ, o ≠ .ext φ) → b ∉ cs := fun {b o} e n z => by
    obtain ⟨v, q⟩ := hc b z
    rw [e] at q
    exact n _ (Option.some.inj q)
  refine ⟨fun b o e n hb hx => u.keep b o e (less_none n) hb hx, fun b o e n hb hx => u.slot b o e (less_none n) hb hx, fun b o e n hx => ?_, u.there, fun b xs e => ?_, fun b o x e => ?_, fun b ps e => ?_⟩
  · rw [back_out fun z => ?_]
    · exact u.free b o e (less_none n) hx
    · obtain ⟨v, q⟩ := hc b z
      rw [n] at q
      cases q
  · have nb := out e (fun _ z => nomatch z)
    rw [back_out nb]
    exact u.tups b xs (by rw [less_out nb]; exact e)
  · have nb := out e (fun _ z => nomatch z)
    rw [back_out nb]
    exact u.frzs b o x (by rw [less_out nb]; exact e)
  · have nb := out e (fun _ z => nomatch z)
    rw [back_out nb]
    exact u.tbls b ps (by rw [less_out nb]; exact e)
theorem ub_more {fs : List Addr} {H H' : Hp} {h B h' : Heap} {cs : List Addr} (u : UB fs (less cs H) H' h B h') (hc : ∀ c ∈ cs, ∃ v, H c = some (CellO c v)) : UB fs H H' h B h' := by
  have out : ∀ {b : Addr} {o : HO}, H b = some o → (∀ φ, o ≠ .ext φ) → b ∉ cs := fun {b o} e n z => by
    obtain ⟨v, q⟩ := hc b z
    rw [e] at q
    exact n _ (Option.some.inj q)
  exact ⟨fun b o e n hb => u.keep b o e (less_none n) hb, u.slot, fun b o e n => u.free b o e (less_none n), u.there, fun b xs e => u.tups b xs (by rw [less_out (out e fun _ z => nomatch z)]; exact e),
    fun b o x e => u.frzs b o x (by rw [less_out (out e fun _ z => nomatch z)]; exact e), fun b ps e => u.tbls b ps (by rw [less_out (out e fun _ z => nomatch z)]; exact e)⟩
theorem lam_run (S : LScope fr F.scope) (hr : Room (k + 1) A) (e0 : Env0 P w K mg base A outer s H) (hf : H f = some (LamO f F)) (hc : H F.c = some (CodeO F.c F.qual)) (C : Cap H F fr ws)
    (hbind : ∀ pm ctv : Value, bindArgs (PySem.W.kla_fn "<lambda>" F.qual F.params F.body F.scope F.cl pm (.ref F.c) ctv) ⟨[], []⟩ = pure [])
    (hbody : ∀ (s : Shared) (H : Hp), Room k (A.deeper (lenv F f s.heap.objs.size)) → PE (lcx P w K mg base fr F f A outer s H E) F.body tb)
    (h : tb (ws.map some) (less (F.cs fr) H) fun v H' => (∀ c ∈ F.cs fr, H' c = none) → Q v (back (F.cs fr) H H')) : codeAny (model P w) A (.call (.ref f) ⟨[], []⟩) (CR (L2.CX P w) outer P w H s Q E) s := by
  obtain ⟨pm, ctv, of⟩ := lamO_at e0.hok hf
  obtain ⟨⟨oc, vs, t, hoc, hdc, hvc⟩, _, _⟩ := e0.hok F.c _ hc
  have lim : s.heap.NoLimit := e0.mod.nolimit.keeps fun b o e => (e0.bs b o e).1
  refine PySem.W.kla_callFunE hr.depth of rfl S.co S.gen rfl ⟨F.c, oc, vs, t, rfl, hoc, hdc, hvc⟩ ?_
  rw [hbind]
  refine wpAny_pure (wpAny_newFunctionEnv (fun y hy => (S.own y hy).2) (fun y hy => absurd hy (by simp)) (fun h₁ hns hsb => ⟨lim.fresh _ hsb, ?_⟩) S.kind)
  show codeAny _ _ (.expr F.body (lenv F f s.heap.objs.size)) _ _
  have J : Inv (lcx P w K mg base fr F f A outer s (less (F.cs fr) H) E) [] (ws.map some) (less (F.cs fr) H) { s with heap := h₁, toks := s.toks + ([] : List (Str × Value)).length } :=
    lam_in S hr.hd e0 C hns fun b o e => hsb.extBut b o (Nat.ne_of_lt (Heap.lt_size e)) (Heap.get?_push_of_some _ e)
  have cx : ∀ (e : Value) (s'' : Shared), L2.CX P w outer (less (F.cs fr) H) s E e s'' → L2.CX P w outer H s E e s'' := fun e s'' ⟨a, B, H', cls, d, h1, h2, h3, h4, h5⟩ => ⟨a, B, H', cls, d, h1, h2, h3, ub_more h4 C.cells, h5⟩
  refine PySem.W.kla_codeExpr (wpAny_mono ((hbody s _ (hr.deeper _)).run [] _ _ _ _ J h) (fun v s' hq => ?_) fun e s' hq => wpAny_mono hq (fun _ s2 z => cx e s2 z) fun e2 s2 z => cx e2 s2 z)
  obtain ⟨x, H', J', rv, q⟩ := hq
  have nofree : ∀ c ∈ F.cs fr, H' c = none := fun c hc => by
    obtain ⟨_, y, _, _, _, el, _⟩ := C.of_cs hc
    exact J'.freeC y c el
  refine ⟨x, _, J'.os, J'.bare, un_back J'.base C.cells, fun b o e => ?_, rv, q nofree⟩
  by_cases hb : b ∈ F.cs fr
  · rw [back_in hb] at e
    obtain ⟨i, y, v, a1, a2, el, q2⟩ := C.of_cs hb
    rw [q2] at e
    cases e
    obtain ⟨m, _, lk⟩ := J'.loc
    obtain ⟨u, ru, z⟩ := lk i y v a1 (by rw [List.getElem?_map, a2] <;> rfl) (.inr (.inr (S.frk y (List.mem_of_getElem? a1))))
    rcases z with ⟨k', _⟩ | ⟨_, c3, e3, z⟩
    · have k' : F.scope.names.lookup y = some .local := k'
      rw [S.frk y (List.mem_of_getElem? a1)] at k'
      cases k'
    · have e3 : F.cl.lookup y = some c3 := e3
      rw [el] at e3
      cases e3
      exact cellO_ok ru z
  · rw [back_out hb] at e
    have keep : ∀ c o, H' c = some o → back (F.cs fr) H H' c = some o := fun c o e2 => by
      rw [back_out fun z => ?_]
      · exact e2
      · rw [nofree c z] at e2
        cases e2
    exact (J'.hok b o e).stay (fun _ _ _ q => q) (fun c q => keep _ _ q) fun c xs q => keep _ _ q
/-! ### what a lambda promises, wherever it is called -/
def Runs (P : Program) (w : World) (K : PySem.W.Frag) (mg : Str → Option Value) (base : Heap) (k : Nat) (f : Addr) (R : Hp → VK → XK → Prop) : Prop :=
  ∀ (A : Around) (outer : List Env) (s : Shared) (H : Hp) (Q : VK) (E : XK), Room k A → Env0 P w K mg base A outer s H → R H Q E → codeAny (model P w) A (.call (.ref f) ⟨[], []⟩) (CR (L2.CX P w) outer P w H s Q E) s
end
section
variable {X : Cx} {k i : Nat} {a : Str} {E : XK} {p1 p2 : Pos}
def tAct (X : Cx) (k i : Nat) (E : XK) : TE := fun σ H Q => ∃ (f : Addr) (F : LF) (R : Hp → VK → XK → Prop), σ[i]? = some (some (.ref f)) ∧ H f = some (LamO f F) ∧ Runs X.prog X.w X.K X.mg X.base k f R ∧ R H Q E
/-- a(), a name that holds a lambda -/
theorem pe_actR (hr : Room k X.A) (hx : Passes (L2.CX X.prog X.w) X E) (hN : X.N[i]? = some a) (hv : Vis X.env.scope a) (hd : (a == ("__debug__" : Str)) = false := by decide) (hcd : (a == ("__classdict__" : Str)) = false := by decide) :
    PE X (.Call (.Name a p1) [] [] p2) (tAct X k i E) := by
  refine ⟨fun pins s σ H Q I h => ?_⟩
  obtain ⟨f, F, R, hs, hf, run, q⟩ := h
  refine wpAny_Call_Name_kw (thn ((pe_var (pos := p1) (i := i) hN hv hd hcd).run pins s σ H (fun v H1 => v = .ref f ∧ H1 = H) I ⟨.ref f, hs, rfl, rfl⟩) fun u s1 ⟨v, H1, I1, r1, q1⟩ => ?_)
  obtain ⟨rfl, rfl⟩ := q1
  cases r1
  obtain ⟨pm, ctv, of⟩ := lamO_at I1.hok hf
  refine PySem.W.callWith_F0 ⟨_, _, _, _, of⟩ ?_
  refine wpAny_call (codeAny_mono (run _ _ s1 _ Q E hr I1.env0 q) fun r s' hq => ?_)
  cases r with
  | error e => exact hx pins σ _ s1 e s' I1 hq
  | ok fl =>
    cases fl with
    | ret u => exact I1.after hq
    | next => exact False.elim hq
    | brk => exact False.elim hq
    | cont => exact False.elim hq
end
end LamR

/-! operators of an own class without slots; a text times a number; a method called by keywords; dead rows -/
namespace Hx
open PySem PySem.Spec PyProof.Rows L2
/-- a row that is never reached -/
theorem ps_dead {X : Cx} {st : Stmt} : PS X st (fun _ _ _ => False) := ⟨fun _ _ _ _ _ _ h => h.elim⟩
section
variable {X : Cx}
theorem op_mul_str : OpR X (binaryOp .Mult) (fun x y H Q => ∃ z k, x = .str z ∧ y = .int k ∧ MulOk z k ∧ Q (.str (Txt.mul z k)) H) := by
  intro pins s σ H x y v u Q I rx ry h
  obtain ⟨z, k, rfl, rfl, hz, q⟩ := h
  obtain ⟨t, rfl⟩ := rx
  obtain ⟨t', rfl⟩ := ry
  exact SB.mul hz (fun t' tk => ⟨.str (Txt.mul z k), H, I.tok _, ⟨_, rfl⟩, q⟩)
end
/-- o.m(k = v, ..) -/
def tMethK (C : Addr) (m : Str) (sp : Sp) (gV : List V → List V → List V) (E : XK) (ta : TE) (tk : TA) : TE := fun σ H Q => ta σ H fun x H1 => ∃ a dx fs, x = .ref a ∧ H1 a = some (.ins C dx fs) ∧ fs.lookup m = none ∧
  tk σ H1 fun zs H2 => sp (gV [x] zs) H2 Q E
section
variable {X : Cx} {CX : CXT} {k : Nat} {f C : Addr} {fd : FuncData} {ps ks : List Str} {sp : Sp} {E : XK} {m : Str} {pos apos : Pos} {o : Expr} {kws : List Keyword} {ta : TE} {tk : TA}
  {g : List Value → List Value → List Value} {gV : List V → List V → List V}
theorem pe_methK {pl : Sem Bool} (he : PE X o ta) (c : Cls X.K C) (hm : Meth X.K C m f) (F : FnOk X.prog X.w X.K X.mg X.base CX k f fd ps sp) (hr : Room k X.A) (hb : KBinds X.K fd ps ks g gV) (hx : Passes CX X E) (hkw : PK X kws tk)
    (hall : (backToKw pos (keywordEach kws X.env)).all (·.1.isSome) = true := by rfl) (hks : (backToKw pos (keywordEach kws X.env)).filterMap (·.1) = ks := by rfl)
    (hpl : ((backTo pos (starEach [] X.env)).any (·.1) || (backToKw pos (keywordEach kws X.env)).any (·.1.isNone)) = false := by rfl)
    (ht : eval (.Call (.Attribute o m apos) [] kws pos) X.env = (do
      let ov ← eval o X.env
      standAt apos.atName
      let (f, first) ← holding [ov] (getMethod ov m pl)
      callWith pos f first (backTo pos (starEach [] X.env)) (backToKw pos (keywordEach kws X.env))) := by rfl) :
    PE X (.Call (.Attribute o m apos) [] kws pos) (tMethK C m sp gV E ta tk) := by
  refine ⟨fun pins s σ H Q I h => ?_⟩
  refine PySem.W.methodCall_KW (pl := pl) (thn (he.run pins s σ H _ I h) fun u s1 ⟨x, H1, I1, rx, a, dx, fs, ex, ea, l, q⟩ => ?_) ht
  subst ex
  obtain rfl : u = Value.ref a := rx
  refine getmeth_ok I1 ea c hm l ?_
  refine PySem.W.callWith_KW0 (first := [.ref a]) (h₀ := X.base) I.ok.mod.kin hm.kp hall ?_ hpl
  refine thn (hkw.run pos pins s1 σ H1 _ I1 q) fun ws s2 ⟨zs, H2, I2, rz, q2⟩ => ⟨I2.kIn, ?_⟩
  rw [hks]
  exact run_fnk (us := [.ref a]) (vs := [.ref a]) F hr hb hx I2 (.cons rfl .nil) rz q2
end
/-- o[i] where the class at C tells its items by a def of its own -/
structure ItemBy (P : Program) (w : World) (K : PySem.W.Frag) (mg : Str → Option Value) (base : Heap) (k : Nat) (C : Addr) (ps : List Str) (sp : Sp) : Prop where
  go : ∃ (g : Addr) (fd : FuncData), PySem.W.findIn K (.ref C) "__getitem__" = some (some (.ref g)) ∧ PySem.W.fnIn K g = true ∧ PySem.W.isFn K (.ref g) = true ∧
    FnOk P w K mg base CX0 k g fd ps sp ∧ Binds K fd ps []
def rItem (C : Addr) (sp : Sp) : R2 := fun x y H Q => ∃ (a dx : Addr) (fs : List (Str × V)), x = .ref a ∧ H a = some (.ins C dx fs) ∧ sp [x, y] H Q E0
section
variable {X : Cx} {k : Nat} {C : Addr} {ps : List Str} {sp : Sp}
theorem run_below {pins : List (Addr × Obj)} {σ : L2.St} {H : Hp} {s : Shared} {Q : VK} {us : List Value} {vs : List V} {A1 : Around} {f : Addr} {fd : FuncData}
    (F : FnOk X.prog X.w X.K X.mg X.base CX0 k f fd ps sp) (hr : Room k A1) (e0 : Env0 X.prog X.w X.K X.mg X.base A1 X.stack s H) (hb : Binds X.K fd ps []) (I : Inv X pins σ H s) (r : Vals vs us) (h : sp vs H Q E0) :
    wpAny (model X.prog X.w) A1 (call (.ref f) us) (EP X pins σ Q) X.xe s := by
  have l := F.len vs H Q E0 h
  have hl : us.length = ps.length := by rw [← r.length]; exact l
  have b := hb s us I.kIn (by rw [List.append_nil]; exact hl)
  rw [List.append_nil] at b
  refine wpAny_call (codeAny_mono (F.run A1 X.stack s H ⟨us, []⟩ us vs Q E0 hr e0 b r h) fun r s' hq => ?_)
  cases r with
  | error e => exact (show False from hq).elim
  | ok fl =>
    cases fl with
    | ret u => exact I.after hq
    | next => exact hq.elim
    | brk => exact hq.elim
    | cont => exact hq.elim
theorem pe_ixO {e i : Expr} {pos : Pos} {te ti : TE} (T : ItemBy X.prog X.w X.K X.mg X.base k C ps sp) (hr : Room (k + 1) X.A) (he : PE X e te) (hi : PE X i ti)
    (hsl : ∀ (a : Addr) (u : Value), subscripted i true (.ref a) u = runValue (.builtin "lifetime.subscript" ⟨[.ref a, u], []⟩)) : PE X (.Subscript e i pos) (tOp (rItem C sp) te ti) := by
  refine ⟨fun pins s σ H Q I h => ?_⟩
  refine Subscript_ (binT he hi I h fun v u s2 x y H2 I2 rx ry q => ?_)
  obtain ⟨a, dx, fs, rfl, ha, q⟩ := q
  cases (show v = Value.ref a from rx)
  obtain ⟨g, fd, h1, h2, h3, F, b⟩ := T.go
  obtain ⟨mA, O, _⟩ := ins_get I2.hok ha
  obtain ⟨od, J, _⟩ := O.look
  obtain ⟨m, hF⟩ := I2.fr
  exact PySem.W.sub_K hF I2.ok.mod.kin J h1 h2 h3 (run_below F hr.in1 I2.env0.in1 b I2 (.cons rx (.cons ry .nil)) q) (hsl _ _)
end
/-- x == y by the class's own def -/
structure EqBy (P : Program) (w : World) (K : PySem.W.Frag) (mg : Str → Option Value) (base : Heap) (k : Nat) (C : Addr) (ps : List Str) (sp : Sp) : Prop where
  go : ∃ (g : Addr) (fd : FuncData), PySem.W.findIn K (.ref C) "__eq__" = some (some (.ref g)) ∧ PySem.W.isFn K (.ref g) = true ∧
    FnOk P w K mg base CX0 k g fd ps sp ∧ Binds K fd ps []
  ne : PySem.W.findIn K (.ref C) "__ne__" = some (some (.builtin "object.__ne__"))
  obj : PySem.W.mroIn K C (.type "object") = some true
  str : PySem.W.notFirst K C (.type "str") = true
  tup : PySem.W.notFirst K C (.type "tuple") = true
/-- the right operand: a text, a tuple, an object of this class -/
def Right (C : Addr) (H : Hp) (y : V) : Prop := (∃ z : Str, y = .str z) ∨ (∃ (b : Addr) (xs : List V), y = .ref b ∧ H b = some (.tup xs)) ∨ ∃ (b dx : Addr) (fs : List (Str × V)), y = .ref b ∧ H b = some (.ins C dx fs)
def rEqO (C : Addr) (sp : Sp) : R2 := fun x y H Q => ∃ (a dx : Addr) (fs : List (Str × V)), x = .ref a ∧ H a = some (.ins C dx fs) ∧ Right C H y ∧ sp [x, y] H (fun v H' => ∃ k, v = .bl k ∧ Q (.bl k) H') E0
def rNeO (C : Addr) (sp : Sp) : R2 := fun x y H Q => ∃ (a dx : Addr) (fs : List (Str × V)), x = .ref a ∧ H a = some (.ins C dx fs) ∧ Right C H y ∧ sp [x, y] H (fun v H' => ∃ k, v = .bl k ∧ Q (.bl (!k)) H') E0
section
variable {X : Cx} {k : Nat} {C : Addr} {ps : List Str} {sp : Sp} {P : Program} {w : World} {K : PySem.W.Frag} {mg : Str → Option Value} {base : Heap}
theorem right_of {pins : List (Addr × Obj)} {σ : L2.St} {H : Hp} {s : Shared} {y : V} {u : Value} (T : EqBy P w K mg base k C ps sp) (I : Inv X pins σ H s) (ry : RelV y u) (r : Right C H y) :
    ∃ tb, PySem.W.Looks (model X.prog X.w) s.heap (typeOf u) tb ∧ PySem.W.notFirst K C tb = true := by
  rcases r with ⟨z, rfl⟩ | ⟨b, xs, rfl, hb⟩ | ⟨b, dx, fs, rfl, hb⟩
  · obtain ⟨t, rfl⟩ := ry
    exact ⟨.type "str", .of_pure rfl, T.str⟩
  · cases (show u = Value.ref b from ry)
    obtain ⟨its, _, ⟨o, ho, hc, _⟩, _⟩ := I.tuple (SqT.of hb)
    exact ⟨.type "tuple", hc ▸ (PySem.W.Looks.ld ho).andThen .now, T.tup⟩
  · cases (show u = Value.ref b from ry)
    obtain ⟨mA, O, _⟩ := ins_get I.hok hb
    obtain ⟨od, J, _⟩ := O.look
    exact ⟨.ref C, J.type, by unfold PySem.W.notFirst; simp⟩
theorem op_eqO (T : EqBy X.prog X.w X.K X.mg X.base k C ps sp) (hr : Room k X.A) : OpR X (compareOp .Eq) (rEqO C sp) := by
  intro pins s σ H x y v u Q I rx ry h
  obtain ⟨a, dx, fs, rfl, ha, r, q⟩ := h
  obtain ⟨tb, hb, hn⟩ := right_of T I ry r
  cases (show v = Value.ref a from rx)
  obtain ⟨g, fd, h1, h2, F, b⟩ := T.go
  obtain ⟨mA, O, _⟩ := ins_get I.hok ha
  obtain ⟨od, J, _⟩ := O.look
  obtain ⟨m, hF⟩ := I.fr
  refine PySem.W.cmp_ofEq (PySem.W.cmp_K (op := .Eq) hr.units0 hF I.ok.mod.kin J hb hn h1 h2 ?_)
  refine wpAny_mono (run_below F hr I.env0 b I (.cons rx (.cons ry .nil)) q) (fun w' s' z => ?_) fun _ _ e => e
  obtain ⟨z', H', I', rz, kk, rfl, qz⟩ := z
  cases (show w' = Value.bool kk from rz)
  exact ⟨.bl kk, H', I', rfl, qz⟩
end
end Hx
namespace Hx
open PySem PySem.Spec PyProof.Rows L2
section
variable {prog : Program} {w : World} {A : Around} {E : Value → Shared → Prop} {s : Shared} {K : PySem.W.Frag} {x C L f : Addr} {h₀ : Heap} {m : Str → Option Value} {ox : Obj} {od : Option Obj} {name : Str} {b tb : Value}
theorem ifBound_B {M : Model} {args : List Value} {id : String} {Q : Option Value → Shared → Prop} (X : K.In s.heap) (I : PySem.W.InstAt s.heap x ox C od) (hs : PySem.W.findIn K (.ref C) name = some (some (.builtin id)))
    (hb : ∀ self, bindSpecial (.builtin id) self = pure (.builtin id, [self])) (h : wpAny M A (call (.builtin id) (.ref x :: args)) (fun v => Q (some v)) E s) : wpAny M A (callSpecialIfBound? (.ref x) name args) Q E s := by
  simp only [callSpecialIfBound?, bindSpecialIfBound?]
  refine wpAny_holding (wpAny_bind (wpAny_bind (wpAny_bind (I.type.here ((PySem.W.looks_findIn X hs).here ?_)))))
  refine wpAny_bind (wpAny_askSetting (wpAny_ite ?_))
  have fin : wpAny M A (call (.builtin id) ([.ref x] ++ args) >>= fun v => pure (some v)) Q E s := wpAny_bind (wpAny_mono h (fun v s' h' => wpAny_pure h') fun _ _ h' => h')
  split
  · exact wpAny_bind ((PySem.W.Looks.of_pure (hb _)).here (wpAny_pure (by exact fin)))
  · exact wpAny_tryCatch (wpAny_bind ((PySem.W.Looks.of_pure (hb _)).here (wpAny_pure (by exact fin))))
theorem objNe_K (hu : A.units < cLine) (X : K.In s.heap) (I : PySem.W.InstAt s.heap x ox C od) (he : PySem.W.findIn K (.ref C) "__eq__" = some (some (.ref f))) (hf : PySem.W.isFn K (.ref f) = true) {Q : Fin → Shared → Prop}
    (hcall : wpAny (model prog w) A (call (.ref f) [.ref x, b]) (fun v s' => ∃ k, v = .bool k ∧ Q (.done (.ret (.bool (!k)))) s') E s) :
    wpAny (model prog w) A (Builtin.«object.__ne__» ⟨[.ref x, b], []⟩) Q E s := by
  unfold Builtin.«object.__ne__»
  repeat (first
    | with_reducible refine wpAny_cRoomFor hu ?_
    | (refine wpAny_bind (m := callSpecialIfBound? (.ref x) (Str.ofString "__eq__") [b])
        (PySem.W.ifBound_K X I he hf (wpAny_mono hcall (fun r s' hr => by
          obtain ⟨k, rfl, hq⟩ := hr
          repeat (first | exact hq | exact wpAny_pure hq | exact wpAny_truthy_bool hq | (refine wpAny_bind (m := truthy (.bool _)) (wpAny_truthy_bool ?_)) | wp_step)) fun _ _ e => e)))
    | wp_step)
theorem ne_K {Q : Value → Shared → Prop} (hu : A.units + 1 < cLine) (F : Fr h₀ L s.heap m) (X₀ : K.In h₀) (I : PySem.W.InstAt s.heap x ox C od) (hb : PySem.W.Looks (model prog w) s.heap (typeOf b) tb) (hn : PySem.W.notFirst K C tb = true)
    (hs : PySem.W.findIn K (.ref C) "__ne__" = some (some (.builtin "object.__ne__"))) (hm : PySem.W.mroIn K C (.type "object") = some true) (he : PySem.W.findIn K (.ref C) "__eq__" = some (some (.ref f))) (hf : PySem.W.isFn K (.ref f) = true)
    (h : wpAny (model prog w) A.in1 (call (.ref f) [.ref x, b]) (fun v s' => ∃ k, v = .bool k ∧ Q (.bool (!k)) s') E s) : wpAny (model prog w) A (richCompare .NotEq (.ref x) b) Q E s := by
  have X := X₀.keeps F.keep
  have FB := PySem.F.cmp_object
  have sub : PySem.W.Looks (model prog w) s.heap (isInstance (.ref x) (.type "object")) true := I.type.andThen (PySem.W.looks_mroIn X hm)
  have one : wpAny (model prog w) A (tryCompare (.ref x) "__ne__" b) (fun r s' => ∃ v, r = some v ∧ Q v s') E s := by
    unfold tryCompare
    refine wpAny_bind (ifBound_B X I hs FB.ne.bind (wpAny_call (codeAny_call_builtin FB.ne.plain PySem.F.cmpEntry_ne ?_)))
    refine @PySem.W.check_slot (model prog w) _ _ s "object.__ne__" "object" "__ne__" (.ref x) [b] [] _ PySem.F.cmpKind_ne PySem.F.cmpSplit_ne sub (PySem.F.cmpArgs_ne (.ref x) b) ?_
    refine objNe_K (A := A.in1) hu X I he hf (wpAny_mono h (fun v s' hv => ?_) fun _ _ e => e)
    obtain ⟨k, rfl, hq⟩ := hv
    exact ⟨k, rfl, wpAny_pure ⟨_, rfl, hq⟩⟩
  unfold richCompare
  simp only [oneThing_ref]
  refine wpAny_holding (wpAny_bind (wpAny_cRoomFor (Nat.lt_of_succ_lt hu) ?_))
  refine wpAny_bind (I.type.here (wpAny_bind (hb.here ?_)))
  split
  · rename_i q
    have e : PySem.W.subIn K tb (.ref C) = some false := by
      rcases Bool.or_eq_true_iff.mp hn with e | e
      · rw [beq_iff_eq.mp e] at q; simp at q
      · exact beq_iff_eq.mp e
    refine wpAny_bind ((PySem.W.looks_subIn X e).here ?_)
    simp only [Bool.false_eq_true, if_false]
    refine wpAny_bind (wpAny_mono one (fun r s' z => ?_) fun _ _ e => e)
    obtain ⟨v, rfl, hq⟩ := z
    exact wpAny_pure hq
  · refine wpAny_bind (wpAny_pure ?_)
    simp only [Bool.false_eq_true, if_false]
    refine wpAny_bind (wpAny_mono one (fun r s' z => ?_) fun _ _ e => e)
    obtain ⟨v, rfl, hq⟩ := z
    exact wpAny_pure hq
end
section
variable {X : Cx} {k : Nat} {C : Addr} {ps : List Str} {sp : Sp}
theorem op_neO (T : EqBy X.prog X.w X.K X.mg X.base k C ps sp) (hr : Room (k + 1) X.A) : OpR X (compareOp .NotEq) (rNeO C sp) := by
  intro pins s σ H x y v u Q I rx ry h
  obtain ⟨a, dx, fs, rfl, ha, r, q⟩ := h
  obtain ⟨tb, hb, hn⟩ := right_of T I ry r
  cases (show v = Value.ref a from rx)
  obtain ⟨g, fd, h1, h2, F, b⟩ := T.go
  obtain ⟨mA, O, _⟩ := ins_get I.hok ha
  obtain ⟨od, J, _⟩ := O.look
  obtain ⟨m, hF⟩ := I.fr
  refine PySem.W.cmp_ofNotEq (ne_K (by have := hr.un; omega) hF I.ok.mod.kin J hb hn T.ne T.obj h1 h2 ?_)
  refine wpAny_mono (run_below F hr.in1 I.env0.in1 b I (.cons rx (.cons ry .nil)) q) (fun w' s' z => ?_) fun _ _ e => e
  obtain ⟨z', H', I', rz, kk, rfl, qz⟩ := z
  cases (show w' = Value.bool kk from rz)
  exact ⟨kk, rfl, .bl (!kk), H', I', rfl, qz⟩
/-- repr(x) of an own object -/
structure ShowsBy (P : Program) (w : World) (K : PySem.W.Frag) (mg : Str → Option Value) (base : Heap) (k : Nat) (C : Addr) (sp : Sp) : Prop where
  go : ∃ (g : Addr) (fd : FuncData), PySem.W.findIn K (.ref C) "__repr__" = some (some (.ref g)) ∧ PySem.W.isFn K (.ref g) = true ∧
    FnOk P w K mg base CX0 k g fd ["self"] sp ∧ Binds K fd ["self"] []
def rShow (C : Addr) (sp : Sp) : List V → Hp → VK → Prop := fun xs H Q => ∃ (a dx : Addr) (fs : List (Str × V)), xs = [.ref a] ∧ H a = some (.ins C dx fs) ∧ sp [.ref a] H (fun v H' => ∃ y : Str, v = .str y ∧ Q (.str y) H') E0
theorem call_show (T : ShowsBy X.prog X.w X.K X.mg X.base k C sp) (hr : Room (k + 1) X.A) : CallR X (.builtin "repr") (rShow C sp) := by
  intro pins s σ H xs us Q I r h
  obtain ⟨a, dx, fs, rfl, ha, q⟩ := h
  rw [Vals.ref1 r]
  obtain ⟨g, fd, h1, h2, F, b⟩ := T.go
  obtain ⟨mA, O, _⟩ := ins_get I.hok ha
  obtain ⟨od, J, _⟩ := O.look
  obtain ⟨m, hF⟩ := I.fr
  refine PySem.W.repr_K hr.in1.units0 hF I.ok.mod.kin J h1 h2 ?_
  refine wpAny_mono (run_below F hr.in1 I.env0.in1 b I (us := [.ref a]) (vs := [.ref a]) (.cons rfl .nil) q) (fun w' s' z => ?_) fun _ _ e => e
  obtain ⟨z', H', I', rz, y, rfl, qz⟩ := z
  obtain ⟨t, rfl⟩ := rz
  exact ⟨.str y, H', I', ⟨t, rfl⟩, qz⟩
end
end Hx

/-! str(x) of data, and of objects that tell their text -/
namespace Hx
open PySem PySem.Spec PyProof.Rows L2
def strText : PyData → Str
  | .str x => x
  | d => d.shown
def rStrL : List V → Hp → VK → Prop := fun xs H Q => ∃ v d, xs = [v] ∧ Dq H v d ∧ d.showable = true ∧ d.depth ≤ 20 ∧ d.shown.length ≤ sizeLine ∧ Q (.str (strText d)) H
section
variable {X : Cx} {k : Nat}
theorem call_strL (gd : X.A.guards = some []) (hu : X.A.units + 64 < cLine) (hm : Mods X.base) : CallR X (.type "str") rStrL := by
  intro pins s σ H xs us Q I r h
  obtain ⟨v, d, rfl, hd, h1, h2, hz, q⟩ := h
  obtain ⟨u, rfl, ru⟩ := vals1 r
  obtain ⟨as, hr, ha⟩ := Dq.reads I d v u hd ru
  have out : sysModules ∉ as := fun z => by
    obtain ⟨o, e⟩ := ha _ z
    obtain ⟨b, eb⟩ := hm
    rw [(I.bs _ _ eb).2] at e
    cases e
  have fin : ∀ (x : Str) (h' : Heap) (tu : Tok) (tk : Nat), Q (.str x) H → (∀ b o, s.heap.get? b = some o → h'.get? b = some o) → EP X pins σ Q (.str x tu) { s with heap := h', toks := tk } :=
    fun x h' tu tk q k => ⟨.str x, H, I.kept (t' := tk) k, ⟨_, rfl⟩, q⟩
  cases hd with
  | non => cases ru; exact P.str_of_none (fin _ _ _ _ q fun _ _ z => z)
  | bl b => cases ru; exact P.str_of_bool (fin _ _ _ _ q fun _ _ z => z)
  | int i =>
    obtain ⟨t, rfl⟩ := ru
    exact P.str_of_int (of_decide_eq_true h1) (fin _ _ _ _ q fun _ _ z => z)
  | str x =>
    obtain ⟨t, rfl⟩ := ru
    exact P.str_of_str (fin _ s.heap t s.toks q fun _ _ z => z)
  | lst _ _ => cases ru; exact str_of_reads hr h1 (fun _ => out) gd (by omega) (fun _ _ z => z) (fun h' tu tk k => fin _ h' tu tk q k) hz
  | tup _ _ => cases ru; exact str_of_reads hr h1 (fun _ => out) gd (by omega) (fun _ _ z => z) (fun h' tu tk k => fin _ h' tu tk q k) hz
  | dct _ _ => cases ru; exact str_of_reads hr h1 (fun _ => out) gd (by omega) (fun _ _ z => z) (fun h' tu tk k => fin _ h' tu tk q k) hz
/-- data, or an object that tells its text -/
def rStrA (P : Program) (w : World) (K : PySem.W.Frag) (mg : Str → Option Value) (base : Heap) (k : Nat) : List V → Hp → VK → Prop := fun xs H Q => rStrL xs H Q ∨ rTell P w K mg base k xs H Q
theorem call_strA (gd : X.A.guards = some []) (hu : X.A.units + 64 < cLine) (hm : Mods X.base) (room : Room (k + 2) X.A) : CallR X (.type "str") (rStrA X.prog X.w X.K X.mg X.base k) := by
  intro pins s σ H xs us Q I r h
  rcases h with h | h
  · exact call_strL gd hu hm pins s σ H xs us Q I r h
  · exact call_tell room pins s σ H xs us Q I r h
end
end Hx

namespace Wp
open PySem PySem.Spec PyProof.Rows L2 Hx
/-! values that are no part of an expression -/
def oddInts : List Int := [-1, 5, 10, 99, 10 ^ 30]
def oddTexts : List Str := ["", "1", "a b", "A", "weave"]
/-- one of the values of other kinds, as it stands -/
inductive OddAt (H : Hp) : V → Prop
  | non : OddAt H .non
  | bl (b : Bool) : OddAt H (.bl b)
  | int {i : Int} : i ∈ oddInts → OddAt H (.int i)
  | str {x : Str} : x ∈ oddTexts → OddAt H (.str x)
  | tup0 {p : Addr} : H p = some (.tup []) → OddAt H (.ref p)
  | lst1 {p : Addr} : H p = some (.lst [.str "x"]) → OddAt H (.ref p)
  | dct0 {p : Addr} : H p = some (.dK []) → OddAt H (.ref p)
  | tup1 {p : Addr} : H p = some (.tup [.str "a"]) → OddAt H (.ref p)
theorem OddAt.same {H H' : Hp} {v : V} (h : OddAt H v) (s : Same H H') : OddAt H' v := by
  cases h with
  | non => exact .non
  | bl b => exact .bl b
  | int h => exact .int h
  | str h => exact .str h
  | tup0 h => exact .tup0 (s _ _ h)
  | lst1 h => exact .lst1 (s _ _ h)
  | dct0 h => exact .dct0 (s _ _ h)
  | tup1 h => exact .tup1 (s _ _ h)
theorem DeckAt.same {H H' : Hp} {d : Addr} (s : Same H H') (h : DeckAt H d) : DeckAt H' d := by
  obtain ⟨a, m, c, h1, h2, e⟩ := h
  exact ⟨a, m, c, h1, h2, s _ _ e⟩
theorem deck_not {H : Hp} {d p : Addr} {o : HO} (h : DeckAt H d) (e : H p = some o) (n : ∀ a m c : Int, o ≠ .lst [.int a, .int m, .int c]) : p ≠ d := by
  rintro rfl
  obtain ⟨a, m, c, _, _, q⟩ := h
  rw [e] at q
  exact n a m c (Option.some.inj q)
theorem OddAt.but {H H' : Hp} {v : V} {d : Addr} (h : OddAt H v) (hd : DeckAt H d) (b : But d H H') : OddAt H' v := by
  cases h with
  | non => exact .non
  | bl b => exact .bl b
  | int h => exact .int h
  | str h => exact .str h
  | tup0 h => exact .tup0 (b _ _ (deck_not hd h fun _ _ _ z => nomatch z) h)
  | lst1 h => exact .lst1 (b _ _ (deck_not hd h fun _ _ _ z => by cases z) h)
  | dct0 h => exact .dct0 (b _ _ (deck_not hd h fun _ _ _ z => nomatch z) h)
  | tup1 h => exact .tup1 (b _ _ (deck_not hd h fun _ _ _ z => nomatch z) h)
/-- _law_thing: a good one of the menu, or an odd one -/
def spThing : Sp := fun vs H Q _ => ∃ (d g : Addr) (xs : List V), vs = [.ref d, .ref g] ∧ d ≠ g ∧ H g = some (.lst xs) ∧ 0 < xs.length ∧ xs.length ≤ 1000 ∧ DeckAt H d ∧
  ∀ (p : Addr) (v : V) (r : Bool) (H' : Hp), But d H H' → DeckAt H' d → p ≠ d → H' p = some (.tup [v, .bl r]) → (r = true ∧ v ∈ xs ∨ r = false ∧ OddAt H' v) → Q (.ref p) H'
section
variable {P : Program} {w : World} {K : PySem.W.Frag} {mg : Str → Option Value} {base : Heap} {f fC fO : Addr} {fd fdC fdO : FuncData}
theorem scThing : FnScope ["_law_deck_here", "_law_good", "_law_odd"] ["_law_deck_here", "_law_good"] (defScope s_law_thing) := ⟨rfl, rfl, rfl, by decide +kernel, rfl, by decide +kernel, by decide +kernel⟩
theorem ok_thing (F : Fun K "_law_thing" "_law_thing" s_law_thing f fd)
    (GC : FnOk P w K mg base CX0 1 fC fdC ["_law_deck_here", "_law_top"] spCard) (bC : Binds K fdC ["_law_deck_here", "_law_top"] []) (kC : PySem.W.keepIn K (.ref fC) = true) (mC : mg "_law_card" = some (.ref fC))
    (GO : FnOk P w K mg base CX0 2 fO fdO ["_law_deck_here", "_law_menu"] (spOf K)) (bO : Binds K fdO ["_law_deck_here", "_law_menu"] []) (kO : PySem.W.keepIn K (.ref fO) = true) (mO : mg "_law_of" = some (.ref fO)) :
    FnOk P w K mg base CX0 3 f fd ["_law_deck_here", "_law_good"] spThing := by
  refine F.ok scThing (fun vs H Q E h => ?_) (fun cdv A outer s H vs Q E hr h => ?_)
  · obtain ⟨d, g, xs, rfl, _⟩ := h
    rfl
  obtain ⟨d, g, xs, rfl, ndg, hg, x0, x1, hd, q⟩ := h
  refine ⟨_, pss_cons (ps_set (i := 2) scThing.nd rfl (Or.inl rfl) (pe_lst (pa_cons pe_non (pa_cons pe_bl (pa_cons pe_bl (pa_cons (pe_un un_neg pe_int) (pa_cons pe_int (pa_cons pe_int (pa_cons pe_int (pa_cons (pe_op op_pow pe_int pe_int)
      (pa_cons pe_str (pa_cons pe_str (pa_cons pe_str (pa_cons pe_str (pa_cons pe_str (pa_cons (pe_tup pa_nil) (pa_cons (pe_lst (pa_cons pe_str pa_nil)) (pa_cons pe_dnewK (pa_cons (pe_tup (pa_cons pe_str pa_nil)) pa_nil)))))))))))))))))))
    (pss_cons (ps_if (pt_cmpR op_gt (pe_call GC (hr.mono (by decide)) rfl mC kC bC .nil pass0 (pa_cons (pv 0) (pa_cons pe_int pa_nil))) pe_int (nomark _))
      (pss_one (ps_ret (pe_tup (pa_cons (pe_call GO hr rfl mO kO bO .nil pass0 (pa_cons (pv 0) (pa_cons (pv 1) pa_nil))) (pa_cons pe_bl pa_nil))))) pss_nil)
    (pss_one (ps_ret (pe_tup (pa_cons (pe_call GO hr rfl mO kO bO .nil pass0 (pa_cons (pv 0) (pa_cons (pv 2) pa_nil))) (pa_cons pe_bl pa_nil)))))), ?_⟩
  refine ⟨_, rfl, _, _, rfl, rfl, ⟨by decide, by decide, by decide⟩, ?_⟩
  refine ⟨(by show 0 ≤ sizeLine; decide), fun p1 n1 => ⟨(by show 1 ≤ sizeLine; decide), fun p2 n2 => fun p3 n3 => ⟨(by show 1 ≤ sizeLine; decide), fun p4 n4 => ⟨(by show 17 ≤ sizeLine; decide), fun p n => ?_⟩⟩⟩⟩
  obtain ⟨ms, eth⟩ : ∃ l : List V, ([V.non, .bl true, .bl false, .int (-1), .int 5, .int 10, .int 99, .int (10 ^ (30 : Int).toNat), .str "", .str "1", .str "a b", .str "A", .str "weave", .ref p1, .ref p2, .ref p3, .ref p4] : List V) = l := ⟨_, rfl⟩
  rw [eth]
  have s5 := (((same_new n1 (.tup [])).trans (same_new n2 (.lst [V.str "x"]))).trans ((same_new n3 (.dK [])).trans (same_new n4 (.tup [V.str "a"])))).trans (same_new n (.lst ms))
  have g4 := upd_other (o := .lst ms) (upd_same (H := upd (upd (upd H p1 (.tup [])) p2 (.lst [V.str "x"])) p3 (.dK [])) (a := p4) (o := HO.tup [V.str "a"])) n
  have g3 := upd_other (o := .lst ms) (upd_other (o := .tup [V.str "a"]) (upd_same (H := upd (upd H p1 (.tup [])) p2 (.lst [V.str "x"])) (a := p3) (o := HO.dK [])) n4) n
  have g2 := upd_other (o := .lst ms) (upd_other (o := .tup [V.str "a"]) (upd_other (o := .dK []) (upd_same (H := upd H p1 (.tup [])) (a := p2) (o := HO.lst [V.str "x"])) n3) n4) n
  have g1 := upd_other (o := .lst ms) (upd_other (o := .tup [V.str "a"]) (upd_other (o := .dK []) (upd_other (o := .lst [V.str "x"]) (upd_same (H := H) (a := p1) (o := HO.tup [])) n2) n3) n4) n
  have g0 : upd (upd (upd (upd (upd H p1 (.tup [])) p2 (.lst [V.str "x"])) p3 (.dK [])) p4 (.tup [V.str "a"])) p (.lst ms) p = some (.lst ms) := upd_same
  have lms : ms.length = 17 := by rw [← eth] <;> rfl
  have npd : p ≠ d := fun z => by
    obtain ⟨a, m, c, _, _, e⟩ := hd
    have e2 := s5 d _ e
    rw [← z, g0] at e2
    have e3 : ms = [V.int a, V.int m, V.int c] := by injection (Option.some.inj e2)
    rw [e3] at lms
    cases lms
  generalize (upd (upd (upd (upd (upd H p1 (.tup [])) p2 (.lst [V.str "x"])) p3 (.dK [])) p4 (.tup [V.str "a"])) p (.lst ms)) = H5 at *
  have odd : ∀ v ∈ ms, OddAt H5 v := by
    rw [← eth]
    intro v hv
    simp only [List.mem_cons, List.not_mem_nil, or_false] at hv
    rcases hv with rfl | rfl | rfl | rfl | rfl | rfl | rfl | rfl | rfl | rfl | rfl | rfl | rfl | rfl | rfl | rfl | rfl
    · exact .non
    · exact .bl _
    · exact .bl _
    · exact .int (by decide +kernel)
    · exact .int (by decide +kernel)
    · exact .int (by decide +kernel)
    · exact .int (by decide +kernel)
    · exact .int (by decide +kernel)
    · exact .str (by decide +kernel)
    · exact .str (by decide +kernel)
    · exact .str (by decide +kernel)
    · exact .str (by decide +kernel)
    · exact .str (by decide +kernel)
    · exact .tup0 g1
    · exact .lst1 g2
    · exact .dct0 g3
    · exact .tup1 g4
  have hd5 := DeckAt.same s5 hd
  refine ⟨_, rfl, d, _, rfl, by decide, by decide, hd5, fun r H6 r0 r1 b6 hd6 => ?_⟩
  refine ⟨_, _, rfl, rfl, _, rfl, ?_⟩
  refine ite2 (fun c => ?_) (fun c => ?_)
  · refine ⟨_, rfl, _, rfl, d, g, xs, rfl, ndg, SqL.of (b6 _ _ (Ne.symm ndg) (s5 _ _ hg)), x0, x1, hd6, fun v H7 hv b7 hd7 => ⟨(by show 2 ≤ sizeLine; decide), fun t nt => ?_⟩⟩
    refine q t v true _ (fun c o nc e => (same_new nt _) _ _ (b7 c o nc (b6 c o nc (s5 c o e)))) (DeckAt.same (same_new nt _) hd7) (fun z => ?_) upd_same (.inl ⟨rfl, hv⟩)
    obtain ⟨a, m, k, _, _, e⟩ := hd7
    rw [← z, nt] at e
    cases e
  · refine ⟨_, rfl, _, rfl, d, p, ms, rfl, Ne.symm npd, SqL.of (b6 _ _ npd g0), by omega, by omega, hd6, fun v H7 hv b7 hd7 => ⟨(by show 2 ≤ sizeLine; decide), fun t nt => ?_⟩⟩
    refine q t v false _ (fun c o nc e => (same_new nt _) _ _ (b7 c o nc (b6 c o nc (s5 c o e)))) (DeckAt.same (same_new nt _) hd7) (fun z => ?_) upd_same (.inr ⟨rfl, (((odd v hv).but hd5 b6).but hd6 b7).same (same_new nt _)⟩)
    obtain ⟨a, m, k, _, _, e⟩ := hd7
    rw [← z, nt] at e
    cases e
end
end Wp

namespace Wp
open PySem PySem.Spec PyProof.Rows L2 Hx
/-! trees of the law, and the expressions that are made of them -/
inductive Tr where
  | sign (s : Str) | name (n : Str) | weave (l : List Tr) | part (j : Int) (t : Tr) | drop (c : Int) (t : Tr) | lead (t u : Tr) | turn (w : Str) (t : Tr)
def Tr.kids : Tr → List Tr
  | .sign _ => [] | .name _ => [] | .weave l => l | .part _ t => [t] | .drop _ t => [t] | .lead t u => [t, u] | .turn _ t => [t]
def Tr.kind : Tr → Str
  | .sign _ => "sign" | .name _ => "name" | .weave _ => "weave" | .part .. => "part" | .drop .. => "drop" | .lead .. => "lead" | .turn .. => "turn"
def Tr.told (b : Int) : Tr → List V
  | .sign s => [.str s] | .name n => [.str n] | .weave _ => [] | .part j _ => [.int j, .int b] | .drop c _ => [.int c] | .lead .. => [] | .turn w _ => [.str w]
mutual
def Tr.knots : Tr → Nat
  | .sign _ => 1 | .name _ => 1 | .weave l => 1 + Tr.knotsL l | .part _ t => 1 + t.knots | .drop _ t => 1 + t.knots | .lead t u => 1 + (t.knots + u.knots) | .turn _ t => 1 + t.knots
def Tr.knotsL : List Tr → Nat
  | [] => 0 | t :: r => t.knots + Tr.knotsL r
end
mutual
def Tr.names : Tr → List Str
  | .sign _ => [] | .name n => [n] | .weave l => Tr.namesL l | .part _ t => t.names | .drop _ t => t.names | .lead t u => t.names ++ u.names | .turn _ t => t.names
def Tr.namesL : List Tr → List Str
  | [] => [] | t :: r => t.names ++ Tr.namesL r
end
mutual
def Tr.text (b : Int) : Tr → Str
  | .sign s => ((Str.empty ++ "'") ++ s) ++ "'" | .name n => n | .weave l => spell "weave" (Tr.textL b l) | .part j t => spell "part" [toString j, toString b, t.text b]
  | .drop c t => spell "drop" [toString c, t.text b] | .lead t u => spell "lead" [t.text b, u.text b] | .turn w t => spell "turn" [w, t.text b]
def Tr.textL (b : Int) : List Tr → List Str
  | [] => [] | t :: r => t.text b :: Tr.textL b r
end
mutual
/-- a tree that its classes take, over the base b -/
inductive Tr.Ok (b : Int) : Tr → Prop
  | sign {s : Str} : lettered 1 s = true → Tr.Ok b (.sign s)
  | name {n : Str} : nameB n = true → Tr.Ok b (.name n)
  | weave {l : List Tr} : (l.length : Int) = b → Tr.OkL b l → Tr.Ok b (.weave l)
  | part {j : Int} {t : Tr} : 0 ≤ j → j < b → Tr.Ok b t → Tr.Ok b (.part j t)
  | drop {c : Int} {t : Tr} : 1 ≤ c → c ≤ 9 → Tr.Ok b t → Tr.Ok b (.drop c t)
  | lead {t u : Tr} : Tr.Ok b t → Tr.Ok b u → Tr.Ok b (.lead t u)
  | turn {w : Str} {t : Tr} : lettered 4 w = true → Tr.Ok b t → Tr.Ok b (.turn w t)
inductive Tr.OkL (b : Int) : List Tr → Prop
  | nil : Tr.OkL b []
  | cons {t : Tr} {r : List Tr} : Tr.Ok b t → Tr.OkL b r → Tr.OkL b (t :: r)
end
mutual
/-- a tree as it stands: tuples, a list for the parts of a weave -/
inductive TrAt (H : Hp) : V → Tr → Prop
  | sign {p : Addr} {s : Str} : H p = some (.tup [.str "sign", .str s]) → TrAt H (.ref p) (.sign s)
  | name {p : Addr} {n : Str} : H p = some (.tup [.str "name", .str n]) → TrAt H (.ref p) (.name n)
  | weave {p q : Addr} {vs : List V} {l : List Tr} : H p = some (.tup [.str "weave", .ref q]) → H q = some (.lst vs) → TrAll H vs l → TrAt H (.ref p) (.weave l)
  | part {p : Addr} {j : Int} {v : V} {t : Tr} : H p = some (.tup [.str "part", .int j, v]) → TrAt H v t → TrAt H (.ref p) (.part j t)
  | drop {p : Addr} {c : Int} {v : V} {t : Tr} : H p = some (.tup [.str "drop", .int c, v]) → TrAt H v t → TrAt H (.ref p) (.drop c t)
  | lead {p : Addr} {v u : V} {t s : Tr} : H p = some (.tup [.str "lead", v, u]) → TrAt H v t → TrAt H u s → TrAt H (.ref p) (.lead t s)
  | turn {p : Addr} {w : Str} {v : V} {t : Tr} : H p = some (.tup [.str "turn", .str w, v]) → TrAt H v t → TrAt H (.ref p) (.turn w t)
inductive TrAll (H : Hp) : List V → List Tr → Prop
  | nil : TrAll H [] []
  | cons {v : V} {vs : List V} {t : Tr} {r : List Tr} : TrAt H v t → TrAll H vs r → TrAll H (v :: vs) (t :: r)
end
mutual
theorem TrAt.same {H H' : Hp} (s : Same H H') : ∀ (t : Tr) (v : V), TrAt H v t → TrAt H' v t
  | .sign _, _, h => by cases h with | sign e => exact .sign (s _ _ e)
  | .name _, _, h => by cases h with | name e => exact .name (s _ _ e)
  | .weave l, _, h => by cases h with | weave e e2 r => exact .weave (s _ _ e) (s _ _ e2) (TrAll.same s l _ r)
  | .part _ t, _, h => by cases h with | part e r => exact .part (s _ _ e) (TrAt.same s t _ r)
  | .drop _ t, _, h => by cases h with | drop e r => exact .drop (s _ _ e) (TrAt.same s t _ r)
  | .lead t u, _, h => by cases h with | lead e r r2 => exact .lead (s _ _ e) (TrAt.same s t _ r) (TrAt.same s u _ r2)
  | .turn _ t, _, h => by cases h with | turn e r => exact .turn (s _ _ e) (TrAt.same s t _ r)
theorem TrAll.same {H H' : Hp} (s : Same H H') : ∀ (l : List Tr) (vs : List V), TrAll H vs l → TrAll H' vs l
  | [], _, h => by cases h; exact .nil
  | t :: r, _, h => by cases h with | cons a b => exact .cons (TrAt.same s t _ a) (TrAll.same s r _ b)
end
/-- the names of a tree, each one once, in order -/
structure Lab (ns ls : List Str) : Prop where
  once : ls.Nodup
  inOrder : sortedS ls = true
  mem : ∀ x, x ∈ ls ↔ x ∈ ns
/-- the addresses of the seven classes, by kind -/
abbrev KCls := Str → Addr
mutual
/-- at v stands the expression of the tree -/
inductive ExAt (CF : Addr) (kc : KCls) (cls : Addr → Prop) (b : Int) (H : Hp) : V → Tr → Prop
  | mk {a : Addr} {inner : List V} {ls : List Str} (t : Tr) : XpAt CF cls H a (kc t.kind) t.kind (t.text b) (t.told b) inner ls (t.knots : Nat) → Lab t.names ls → ExAll CF kc cls b H inner t.kids → ExAt CF kc cls b H (.ref a) t
inductive ExAll (CF : Addr) (kc : KCls) (cls : Addr → Prop) (b : Int) (H : Hp) : List V → List Tr → Prop
  | nil : ExAll CF kc cls b H [] []
  | cons {v : V} {vs : List V} {t : Tr} {r : List Tr} : ExAt CF kc cls b H v t → ExAll CF kc cls b H vs r → ExAll CF kc cls b H (v :: vs) (t :: r)
end
end Wp

namespace Wp
open PySem PySem.Spec PyProof.Rows L2 Hx
section
variable {CF : Addr} {kc : KCls} {cls : Addr → Prop} {b : Int}
mutual
theorem ExAt.same {H H' : Hp} (s : Same H H') : ∀ (t : Tr) (v : V), ExAt CF kc cls b H v t → ExAt CF kc cls b H' v t
  | .sign x, _, h => by cases h with | mk _ e l r => exact .mk _ (e.same s) l (by cases r; exact .nil)
  | .name x, _, h => by cases h with | mk _ e l r => exact .mk _ (e.same s) l (by cases r; exact .nil)
  | .weave l, _, h => by cases h with | mk _ e lb r => exact .mk _ (e.same s) lb (ExAll.same s l _ r)
  | .part j t, _, h => by cases h with | mk _ e l r => cases r with | cons a n => exact .mk _ (e.same s) l (.cons (ExAt.same s t _ a) (by cases n; exact .nil))
  | .drop j t, _, h => by cases h with | mk _ e l r => cases r with | cons a n => exact .mk _ (e.same s) l (.cons (ExAt.same s t _ a) (by cases n; exact .nil))
  | .lead t u, _, h => by cases h with | mk _ e l r => cases r with | cons a n => cases n with | cons a2 n2 => exact .mk _ (e.same s) l (.cons (ExAt.same s t _ a) (.cons (ExAt.same s u _ a2) (by cases n2; exact .nil)))
  | .turn j t, _, h => by cases h with | mk _ e l r => cases r with | cons a n => exact .mk _ (e.same s) l (.cons (ExAt.same s t _ a) (by cases n; exact .nil))
theorem ExAll.same {H H' : Hp} (s : Same H H') : ∀ (l : List Tr) (vs : List V), ExAll CF kc cls b H vs l → ExAll CF kc cls b H' vs l
  | [], _, h => by cases h; exact .nil
  | t :: r, _, h => by cases h with | cons a q => exact .cons (ExAt.same s t _ a) (ExAll.same s r _ q)
end
end
theorem sub_len : ∀ {xs ys : List Str}, xs.Nodup → (∀ x ∈ xs, x ∈ ys) → xs.length ≤ ys.length
  | [], _, _, _ => Nat.zero_le _
  | x :: xs, ys, n, h => by
    have hx := h x List.mem_cons_self
    have h2 := sub_len (xs := xs) (ys := ys.erase x) (List.nodup_cons.mp n).2 fun y hy => (List.mem_erase_of_ne (fun z => (List.nodup_cons.mp n).1 (by rw [← z]; exact hy))).2 (h y (List.mem_cons_of_mem _ hy))
    rw [List.length_erase_of_mem hx] at h2
    have : 0 < ys.length := List.length_pos_of_mem hx
    rw [List.length_cons]
    omega
mutual
theorem names_len : ∀ t : Tr, t.names.length ≤ t.knots
  | .sign _ => by simp [Tr.names, Tr.knots]
  | .name _ => by simp [Tr.names, Tr.knots]
  | .weave l => by have := namesL_len l; simp only [Tr.names, Tr.knots]; omega
  | .part _ t => by have := names_len t; simp only [Tr.names, Tr.knots]; omega
  | .drop _ t => by have := names_len t; simp only [Tr.names, Tr.knots]; omega
  | .lead t u => by have := names_len t; have := names_len u; simp only [Tr.names, Tr.knots, List.length_append]; omega
  | .turn _ t => by have := names_len t; simp only [Tr.names, Tr.knots]; omega
theorem namesL_len : ∀ l : List Tr, (Tr.namesL l).length ≤ Tr.knotsL l
  | [] => by simp [Tr.namesL, Tr.knotsL]
  | t :: r => by have := names_len t; have := namesL_len r; simp only [Tr.namesL, Tr.knotsL, List.length_append]; omega
end
theorem spell_len (k : Str) (ys : List Str) : (spell k ys).length ≤ k.length + 2 + ((ys.map (·.length)).sum + ys.length * 2) := by
  have z := join_len ", " ys
  have l2 : (", " : Str).length = 2 := by decide +kernel
  rw [l2] at z
  unfold spell
  simp only [PySem.Str.length_append, (by decide +kernel : ("(" : Str).length = 1), (by decide +kernel : (")" : Str).length = 1), (by decide +kernel : Str.empty.length = 0)]
  omega
theorem lettered_len {m : Int} {x : Str} (h : lettered m x = true) : (x.length : Int) ≤ m := by
  unfold lettered at h
  obtain ⟨_, h2⟩ := Bool.and_eq_true_iff.mp h
  exact of_decide_eq_true (Bool.and_eq_true_iff.mp h2).1
theorem nameB_len {x : Str} (h : nameB x = true) : x.length ≤ 8 := by
  have := lettered_len (Bool.and_eq_true_iff.mp h).1
  omega
theorem fig_one {i : Int} (h0 : 0 ≤ i) (h1 : i ≤ 9) : (toString i : Str).length ≤ 1 := by
  have : i = 0 ∨ i = 1 ∨ i = 2 ∨ i = 3 ∨ i = 4 ∨ i = 5 ∨ i = 6 ∨ i = 7 ∨ i = 8 ∨ i = 9 := by omega
  rcases this with rfl | rfl | rfl | rfl | rfl | rfl | rfl | rfl | rfl | rfl <;> decide +kernel
section
variable {b : Int}
mutual
theorem text_len (b0 : 0 ≤ b) (b9 : b ≤ 9) : ∀ t : Tr, t.Ok b → (t.text b).length + 2 ≤ 30 * t.knots
  | .sign s, h => by
    cases h with
    | sign e =>
      have := lettered_len e
      simp only [Tr.text, Tr.knots, PySem.Str.length_append, (by decide +kernel : ("'" : Str).length = 1), (by decide +kernel : Str.empty.length = 0)]
      omega
  | .name n, h => by
    cases h with
    | name e =>
      have := nameB_len e
      simp only [Tr.text, Tr.knots]
      omega
  | .weave l, h => by
    cases h with
    | weave _ e =>
      have z := textL_len b0 b9 l e
      have y := spell_len "weave" (Tr.textL b l)
      rw [(by decide +kernel : ("weave" : Str).length = 5)] at y
      simp only [Tr.text, Tr.knots]
      omega
  | .part j t, h => by
    cases h with
    | part j0 jb e =>
      have z := text_len b0 b9 t e
      have y := spell_len "part" [toString j, toString b, t.text b]
      have y1 : (toString j : Str).length ≤ 1 := fig_one j0 (by omega)
      have y2 : (toString b : Str).length ≤ 1 := fig_one b0 b9
      rw [(by decide +kernel : ("part" : Str).length = 4)] at y
      simp only [List.map_cons, List.map_nil, List.sum_cons, List.sum_nil, List.length_cons, List.length_nil] at y
      simp only [Tr.text, Tr.knots]
      omega
  | .drop c t, h => by
    cases h with
    | drop c1 c9 e =>
      have z := text_len b0 b9 t e
      have y := spell_len "drop" [toString c, t.text b]
      have y1 : (toString c : Str).length ≤ 1 := fig_one (by omega) c9
      rw [(by decide +kernel : ("drop" : Str).length = 4)] at y
      simp only [List.map_cons, List.map_nil, List.sum_cons, List.sum_nil, List.length_cons, List.length_nil] at y
      simp only [Tr.text, Tr.knots]
      omega
  | .lead t u, h => by
    cases h with
    | lead e e2 =>
      have z := text_len b0 b9 t e
      have z2 := text_len b0 b9 u e2
      have y := spell_len "lead" [t.text b, u.text b]
      rw [(by decide +kernel : ("lead" : Str).length = 4)] at y
      simp only [List.map_cons, List.map_nil, List.sum_cons, List.sum_nil, List.length_cons, List.length_nil] at y
      simp only [Tr.text, Tr.knots]
      omega
  | .turn w t, h => by
    cases h with
    | turn ew e =>
      have z := text_len b0 b9 t e
      have y := spell_len "turn" [w, t.text b]
      have := lettered_len ew
      rw [(by decide +kernel : ("turn" : Str).length = 4)] at y
      simp only [List.map_cons, List.map_nil, List.sum_cons, List.sum_nil, List.length_cons, List.length_nil] at y
      simp only [Tr.text, Tr.knots]
      omega
theorem textL_len (b0 : 0 ≤ b) (b9 : b ≤ 9) : ∀ l : List Tr, Tr.OkL b l → ((Tr.textL b l).map (·.length)).sum + (Tr.textL b l).length * 2 ≤ 30 * Tr.knotsL l
  | [], _ => by simp [Tr.textL, Tr.knotsL]
  | t :: r, h => by
    cases h with
    | cons a e =>
      have z := text_len b0 b9 t a
      have z2 := textL_len b0 b9 r e
      simp only [Tr.textL, Tr.knotsL, List.map_cons, List.sum_cons, List.length_cons]
      omega
end
end
/-! names, each one once -/
theorem puts_nodup : ∀ (xs ms : List Str), ms.Nodup → (xs.foldl Hs.put ms).Nodup
  | [], _, h => h
  | x :: xs, ms, h => by
    rw [List.foldl_cons]
    refine puts_nodup xs _ ?_
    unfold Hs.put
    split
    · exact h
    · rename_i n
      exact List.nodup_cons.mpr ⟨n, h⟩
theorem lab_of {ns xs ls : List Str} (p : ls.Perm (xs.foldl Hs.put [])) (s : sortedS ls = true) (h : ∀ x, x ∈ xs ↔ x ∈ ns) : Lab ns ls :=
  ⟨p.nodup_iff.mpr (puts_nodup xs [] .nil), s, fun x => by rw [p.mem_iff, Hs.puts_mem, h]; simp⟩
end Wp

namespace Wp
open PySem PySem.Spec PyProof.Rows L2 Hx
/-- the seven classes, as they are called -/
structure Ctors (P : Program) (w : World) (K : PySem.W.Frag) (mg : Str → Option Value) (base : Heap) (CF CE Cn Cs Cm Cw Ce : Addr) (kc : KCls) (cls : Addr → Prop) : Prop where
  own : ∀ k ∈ (["sign", "name", "weave", "part", "drop", "lead", "turn"] : List Str), cls (kc k)
  sign : mg "Sign" = some (.ref (kc "sign")) ∧ ∃ fI fd, Mk K (kc "sign") fI ∧ FnOk P w K mg base (L2.CX P w) 7 fI fd ["self", "sign"] (spLeaf K CF cls (lettered 1) Cs "sign" (fun x => ((Str.empty ++ "'") ++ x) ++ "'") fun _ => []) ∧ Binds K fd ["self", "sign"] []
  name : mg "Name" = some (.ref (kc "name")) ∧ ∃ fI fd, Mk K (kc "name") fI ∧ FnOk P w K mg base (L2.CX P w) 7 fI fd ["self", "name"] (spLeaf K CF cls nameB Cm "name" (fun x => x) fun x => [x]) ∧ Binds K fd ["self", "name"] []
  weave : mg "Weave" = some (.ref (kc "weave")) ∧ ∃ fI, Mk K (kc "weave") fI ∧ FnR P w K mg base (L2.CX P w) 7 fI (spWeave K CF CE Cn Ce cls)
  part : mg "Part" = some (.ref (kc "part")) ∧ ∃ fI fd, Mk K (kc "part") fI ∧ FnOk P w K mg base (L2.CX P w) 7 fI fd ["self", "at", "base", "inner"] (spPart K CF CE Cn Ce cls) ∧ Binds K fd ["self", "at", "base", "inner"] []
  drop : mg "Drop" = some (.ref (kc "drop")) ∧ ∃ fI fd, Mk K (kc "drop") fI ∧ FnOk P w K mg base (L2.CX P w) 7 fI fd ["self", "many", "inner"] (spDrop K CF CE Cn Ce cls) ∧ Binds K fd ["self", "many", "inner"] []
  lead : mg "Lead" = some (.ref (kc "lead")) ∧ ∃ fI fd, Mk K (kc "lead") fI ∧ FnOk P w K mg base (L2.CX P w) 7 fI fd ["self", "first", "rest"] (spLead K CF CE Ce cls) ∧ Binds K fd ["self", "first", "rest"] []
  turn : mg "Turn" = some (.ref (kc "turn")) ∧ ∃ fI fd, Mk K (kc "turn") fI ∧ FnOk P w K mg base (L2.CX P w) 7 fI fd ["self", "word", "inner"] (spTurn K CF CE Cw Ce cls) ∧ Binds K fd ["self", "word", "inner"] []
def spMade (CF : Addr) (kc : KCls) (cls : Addr → Prop) (n : Nat) : Sp := fun vs H Q _ => ∃ (tv : V) (b : Int) (t : Tr), vs = [tv, .int b] ∧ TrAt H tv t ∧ t.Ok b ∧ 2 ≤ b ∧ b ≤ 4 ∧ t.knots ≤ n ∧ t.knots ≤ 40 ∧ ∀ v H', Same H H' → ExAt CF kc cls b H' v t → Q v H'
theorem knots_pos : ∀ t : Tr, 1 ≤ t.knots
  | .sign _ => by simp [Tr.knots] | .name _ => by simp [Tr.knots] | .weave l => by simp only [Tr.knots]; omega | .part _ t => by simp only [Tr.knots]; omega | .drop _ t => by simp only [Tr.knots]; omega
  | .lead t u => by simp only [Tr.knots]; omega | .turn _ t => by simp only [Tr.knots]; omega
section
variable {P : Program} {w : World} {K : PySem.W.Frag} {mg : Str → Option Value} {base : Heap} {f CF CE Cn Cs Cm Cw Ce : Addr} {fd : FuncData} {kc : KCls} {cls : Addr → Prop}
/-- what is told of an expression that stands for a tree -/
structure For (CF : Addr) (kc : KCls) (cls : Addr → Prop) (b : Int) (H : Hp) (t : Tr) (e : Told) : Prop where
  arg : Arg CF cls H e
  text : e.text = t.text b
  size : e.size = (t.knots : Nat)
  lab : Lab t.names e.labels
theorem for_of {b : Int} {H : Hp} {v : V} {t : Tr} (h : ExAt CF kc cls b H v t) (ok : t.Ok b) (b0 : 0 ≤ b) (b9 : b ≤ 9) (k : t.knots ≤ 40) : ∃ e : Told, v = .ref e.at_ ∧ For CF kc cls b H t e := by
  cases h with
  | @mk a inner ls _ xp lab all =>
    have l1 := sub_len lab.once fun x hx => (lab.mem x).1 hx
    have l2 := names_len t
    have l3 := text_len b0 b9 t ok
    exact ⟨⟨a, kc t.kind, t.kind, t.text b, t.told b, inner, ls, (t.knots : Nat)⟩, rfl, ⟨⟨xp, by show ls.length ≤ 40; omega, by show (t.text b).length ≤ 20000; omega⟩, rfl, rfl, lab⟩⟩
theorem fors_of {b : Int} {H : Hp} (b0 : 0 ≤ b) (b9 : b ≤ 9) : ∀ {vs : List V} {l : List Tr}, ExAll CF kc cls b H vs l → Tr.OkL b l → Tr.knotsL l ≤ 40 →
    ∃ es : List Told, vs = es.map (fun e => V.ref e.at_) ∧ (∀ e ∈ es, Arg CF cls H e) ∧ es.map (fun e => e.text) = Tr.textL b l ∧ (es.map (fun e => e.size)).sum = (Tr.knotsL l : Nat) ∧ ∀ x, x ∈ es.flatMap (fun e => e.labels) ↔ x ∈ Tr.namesL l
  | _, [], .nil, _, _ => ⟨[], rfl, (fun e he => nomatch he), rfl, rfl, fun x => by simp [Tr.namesL]⟩
  | _, t :: r, .cons a q, ok, k => by
    cases ok with
    | cons o1 o2 =>
      have k1 : t.knots + Tr.knotsL r ≤ 40 := by
        simp only [Tr.knotsL] at k
        exact k
      obtain ⟨e, rfl, f⟩ := for_of a o1 b0 b9 (by omega)
      obtain ⟨es, rfl, h1, h2, h3, h4⟩ := fors_of b0 b9 q o2 (by omega)
      refine ⟨e :: es, rfl, fun x hx => ?_, ?_, ?_, fun x => ?_⟩
      · rcases List.mem_cons.mp hx with rfl | hx
        · exact f.arg
        · exact h1 x hx
      · rw [List.map_cons, h2, f.text]
        simp only [Tr.textL]
      · rw [List.map_cons, List.sum_cons, h3, f.size]
        simp only [Tr.knotsL]
        omega
      · rw [List.flatMap_cons, List.mem_append, h4, f.lab.mem]
        simp only [Tr.namesL, List.mem_append]
theorem lab1 {kind : Str} {told : List V} {e : Told} {ns ls : List Str} (hk : kind ≠ "name") (p : ls.Perm ((namesOf kind told [e]).foldl Hs.put [])) (s : sortedS ls = true) (l : Lab ns e.labels) : Lab ns ls :=
  lab_of p s fun x => by
    unfold namesOf
    rw [if_neg hk]
    simp only [List.flatMap_cons, List.flatMap_nil, List.append_nil]
    exact l.mem x
/-- all but lists stand -/
def Sm (H H' : Hp) : Prop := ∀ c o, H c = some o → (∀ xs, o ≠ .lst xs) → H' c = some o
theorem XpAt.sm {H H' : Hp} {a C : Addr} {kind text : Str} {told inner : List V} {labels : List Str} {size : Int} (h : XpAt CF cls H a C kind text told inner labels size) (s : Sm H H') : XpAt CF cls H' a C kind text told inner labels size := by
  obtain ⟨dx, fa, dfa, pm, pi, pl, h0, h1, h2, h3, h4, h5⟩ := h
  exact ⟨dx, fa, dfa, pm, pi, pl, h0, s _ _ h1 (by intro xs z; cases z), s _ _ h2 (by intro xs z; cases z), s _ _ h3 (by intro xs z; cases z), s _ _ h4 (by intro xs z; cases z), s _ _ h5 (by intro xs z; cases z)⟩
mutual
theorem ExAt.sm {b : Int} {H H' : Hp} (s : Sm H H') : ∀ (t : Tr) (v : V), ExAt CF kc cls b H v t → ExAt CF kc cls b H' v t
  | .sign x, _, h => by cases h with | mk _ e l r => exact .mk _ (XpAt.sm e s) l (by cases r; exact .nil)
  | .name x, _, h => by cases h with | mk _ e l r => exact .mk _ (XpAt.sm e s) l (by cases r; exact .nil)
  | .weave l, _, h => by cases h with | mk _ e lb r => exact .mk _ (XpAt.sm e s) lb (ExAll.sm s l _ r)
  | .part j t, _, h => by cases h with | mk _ e l r => cases r with | cons a n => exact .mk _ (XpAt.sm e s) l (.cons (ExAt.sm s t _ a) (by cases n; exact .nil))
  | .drop j t, _, h => by cases h with | mk _ e l r => cases r with | cons a n => exact .mk _ (XpAt.sm e s) l (.cons (ExAt.sm s t _ a) (by cases n; exact .nil))
  | .lead t u, _, h => by cases h with | mk _ e l r => cases r with | cons a n => cases n with | cons a2 n2 => exact .mk _ (XpAt.sm e s) l (.cons (ExAt.sm s t _ a) (.cons (ExAt.sm s u _ a2) (by cases n2; exact .nil)))
  | .turn j t, _, h => by cases h with | mk _ e l r => cases r with | cons a n => exact .mk _ (XpAt.sm e s) l (.cons (ExAt.sm s t _ a) (by cases n; exact .nil))
theorem ExAll.sm {b : Int} {H H' : Hp} (s : Sm H H') : ∀ (l : List Tr) (vs : List V), ExAll CF kc cls b H vs l → ExAll CF kc cls b H' vs l
  | [], _, h => by cases h; exact .nil
  | t :: r, _, h => by cases h with | cons a q => exact .cons (ExAt.sm s t _ a) (ExAll.sm s r _ q)
end
theorem ExAll.snoc {b : Int} {H : Hp} {v : V} {t : Tr} : ∀ {vs : List V} {l : List Tr}, ExAll CF kc cls b H vs l → ExAt CF kc cls b H v t → ExAll CF kc cls b H (vs ++ [v]) (l ++ [t])
  | _, [], .nil, h => .cons h .nil
  | _, _ :: _, .cons a r, h => .cons a (ExAll.snoc r h)
theorem ExAll.len {b : Int} {H : Hp} : ∀ {vs : List V} {l : List Tr}, ExAll CF kc cls b H vs l → vs.length = l.length
  | _, [], .nil => rfl
  | _, _ :: _, .cons _ r => congrArg Nat.succ (ExAll.len r)
theorem TrAll.get {H : Hp} : ∀ {vs : List V} {l : List Tr} {i : Nat} {x : V}, TrAll H vs l → vs[i]? = some x → ∃ t, l[i]? = some t ∧ TrAt H x t
  | _, [], _, _, .nil, h => by simp at h
  | _, t :: _, 0, x, .cons a _, h => ⟨t, rfl, by cases h; exact a⟩
  | _, _ :: _, i + 1, x, .cons _ r, h => TrAll.get (i := i) r h
theorem TrAll.len {H : Hp} : ∀ {vs : List V} {l : List Tr}, TrAll H vs l → vs.length = l.length
  | _, [], .nil => rfl
  | _, _ :: _, .cons _ r => congrArg Nat.succ (TrAll.len r)
theorem OkL.get {b : Int} : ∀ {l : List Tr} {i : Nat} {t : Tr}, Tr.OkL b l → l[i]? = some t → t.Ok b ∧ t.knots ≤ Tr.knotsL l
  | [], _, _, _, h => by simp at h
  | u :: _, 0, t, .cons a _, h => by
    cases h
    refine ⟨a, ?_⟩
    simp only [Tr.knotsL]
    omega
  | _ :: _, i + 1, t, .cons _ r, h => by
    obtain ⟨h1, h2⟩ := OkL.get (i := i) r h
    refine ⟨h1, ?_⟩
    simp only [Tr.knotsL]
    omega
theorem weave_go {K : PySem.W.Frag} {CE Cn Ce : Addr} {b : Int} {H : Hp} {x dx : Addr} {ws : List V} {l : List Tr} {Q : VK} (hx : H x = none) (hdx : H dx = none) (ne : dx ≠ x) (ea : ExAll CF kc cls b H ws l) (ok : Tr.OkL b l) (hl : (l.length : Int) = b) (b2 : 2 ≤ b) (b4 : b ≤ 4) (k : Tr.knotsL l ≤ 39)
    (own : cls (kc "weave")) (q : ∀ v H2, Same H H2 → ExAt CF kc cls b H2 v (.weave l) → Q v H2) :
    spWeave K CF CE Cn Ce cls (.ref x :: ws) (upd (upd H dx (.own x)) x (.ins (kc "weave") dx [])) (fun v H2 => v = .non ∧ Q (.ref x) H2) E0 := by
  have wl := ea.len
  obtain ⟨es, rfl, h1, h2, h3, h4⟩ := fors_of (by omega) (by omega) ea ok (by omega)
  have el : es.length = l.length := by
    rw [List.length_map] at wl
    exact wl
  refine ⟨[.ref x], es.map (fun e => V.ref e.at_), rfl, rfl, by rw [List.length_map]; exact small_line (by omega), fun p hp => ?_⟩
  have g := born (C := kc "weave") hx hdx ne
  refine ⟨x, dx, kc "weave", p, _, rfl, own, upd_other upd_same hp, upd_same, .inl ⟨es, rfl, by omega, by omega, fun e he => (h1 e he).same (g.trans (same_new hp _)), fun H2 ls bt xp pm srt => ⟨rfl, ?_⟩⟩⟩
  have s2 : Same H H2 := fun c o hc => bt c o (ne_of_none hc hx) ((g.trans (same_new hp _)) c o hc)
  have ek : (1 + (es.map (·.size)).sum : Int) = ((Tr.knots (.weave l) : Nat) : Int) := by
    simp only [Tr.knots]
    rw [h3]
    omega
  have et : spell "weave" (es.map (·.text)) = Tr.text b (.weave l) := by
    simp only [Tr.text]
    rw [h2]
  rw [ek, et] at xp
  refine q _ _ s2 (.mk (.weave l) xp (lab_of pm srt fun y => ?_) (ExAll.same s2 l _ ea))
  unfold namesOf
  rw [if_neg (by decide +kernel), h4]
  simp only [Tr.names]
end
end Wp

namespace Wp
open PySem PySem.Spec PyProof.Rows L2 Hx
/-! inner values: an expression, or an odd one -/
/-- a small expression -/
structure Kid (CF : Addr) (cls : Addr → Prop) (H : Hp) (e : Told) : Prop where
  arg : Arg CF cls H e
  short : e.text.length ≤ 20
theorem kid_of {CF : Addr} {cls : Addr → Prop} {H : Hp} {a C : Addr} {kind text : Str} {told inner : List V} {labels : List Str} {size : Int} (h : XpAt CF cls H a C kind text told inner labels size) (few : labels.length ≤ 40) (short : text.length ≤ 20) :
    Kid CF cls H ⟨a, C, kind, text, told, inner, labels, size⟩ := ⟨⟨h, few, Nat.le_trans short (by decide)⟩, short⟩
theorem Kid.same {CF : Addr} {cls : Addr → Prop} {H H' : Hp} {e : Told} (h : Kid CF cls H e) (s : Same H H') : Kid CF cls H' e := ⟨h.arg.same s, h.short⟩
/-- an expression is no deck: what stands of it stays -/
theorem XpAt.but {CF : Addr} {cls : Addr → Prop} {H H' : Hp} {a C d : Addr} {kind text : Str} {told inner : List V} {labels : List Str} {size : Int} (h : XpAt CF cls H a C kind text told inner labels size) (hd : DeckAt H d) (b : But d H H') : XpAt CF cls H' a C kind text told inner labels size := by
  obtain ⟨dx, fa, dfa, pm, pi, pl, h0, h1, h2, h3, h4, h5⟩ := h
  have ne : ∀ {p : Addr} {o : HO}, H p = some o → (∀ a m c : Int, o ≠ .lst [.int a, .int m, .int c]) → p ≠ d := fun e n => deck_not hd e n
  exact ⟨dx, fa, dfa, pm, pi, pl, h0, b _ _ (ne h1 fun _ _ _ z => nomatch z) h1, b _ _ (ne h2 fun _ _ _ z => nomatch z) h2, b _ _ (ne h3 fun _ _ _ z => nomatch z) h3, b _ _ (ne h4 fun _ _ _ z => nomatch z) h4, b _ _ (ne h5 fun _ _ _ z => nomatch z) h5⟩
theorem Kid.but {CF : Addr} {cls : Addr → Prop} {H H' : Hp} {d : Addr} {e : Told} (h : Kid CF cls H e) (hd : DeckAt H d) (b : But d H H') : Kid CF cls H' e := ⟨⟨XpAt.but h.arg.stands hd b, h.arg.few, h.arg.short⟩, h.short⟩
def KidAt (CF : Addr) (cls : Addr → Prop) (H : Hp) (v : V) (r : Bool) : Prop := (r = true ∧ ∃ e : Told, v = .ref e.at_ ∧ Kid CF cls H e) ∨ (r = false ∧ OddAt H v)
theorem KidAt.same {CF : Addr} {cls : Addr → Prop} {H H' : Hp} {v : V} {r : Bool} (h : KidAt CF cls H v r) (s : Same H H') : KidAt CF cls H' v r := h.imp (fun ⟨a, e, b, k⟩ => ⟨a, e, b, k.same s⟩) fun ⟨a, o⟩ => ⟨a, o.same s⟩
theorem KidAt.but {CF : Addr} {cls : Addr → Prop} {H H' : Hp} {d : Addr} {v : V} {r : Bool} (h : KidAt CF cls H v r) (hd : DeckAt H d) (b : But d H H') : KidAt CF cls H' v r := h.imp (fun ⟨a, e, b', k⟩ => ⟨a, e, b', k.but hd b⟩) fun ⟨a, o⟩ => ⟨a, o.but hd b⟩
def spKid (CF : Addr) (cls : Addr → Prop) : Sp := fun vs H Q _ => ∃ d : Addr, vs = [.ref d] ∧ DeckAt H d ∧
  ∀ (p : Addr) (v : V) (r : Bool) (H' : Hp), But d H H' → DeckAt H' d → p ≠ d → H' p = some (.tup [v, .bl r]) → KidAt CF cls H' v r → Q (.ref p) H'
section
variable {P : Program} {w : World} {K : PySem.W.Frag} {mg : Str → Option Value} {base : Heap} {f fT CF CE Cn Cs Cm Cw Ce : Addr} {fd fdT : FuncData} {kc : KCls} {cls : Addr → Prop}
theorem scKid : FnScope ["_law_deck_here"] ["_law_deck_here"] (defScope s_law_kid) := ⟨rfl, rfl, rfl, by decide +kernel, rfl, by decide +kernel, by decide +kernel⟩
theorem ok_kid (F : Fun K "_law_kid" "_law_kid" s_law_kid f fd) (T : Ctors P w K mg base CF CE Cn Cs Cm Cw Ce kc cls)
    (GT : FnOk P w K mg base CX0 3 fT fdT ["_law_deck_here", "_law_good"] spThing) (bT : Binds K fdT ["_law_deck_here", "_law_good"] []) (kT : PySem.W.keepIn K (.ref fT) = true) (mT : mg "_law_thing" = some (.ref fT)) :
    FnOk P w K mg base CX0 9 f fd ["_law_deck_here"] (spKid CF cls) := by
  refine F.ok scKid (fun vs H Q E h => ?_) (fun cdv A outer s H vs Q E hr h => ?_)
  · obtain ⟨d, rfl, _⟩ := h
    rfl
  obtain ⟨d, rfl, hd, q⟩ := h
  obtain ⟨ms, fS, dS, MS, GS, BS⟩ := T.sign
  obtain ⟨mn, fN, dN, MN, GN, BN⟩ := T.name
  obtain ⟨md, fD, dD, MD, GD, BD⟩ := T.drop
  refine ⟨_, pss_one (ps_ret (pe_call GT (hr.mono (by decide)) rfl mT kT bT .nil pass0 (pa_cons (pv 0) (pa_cons (pe_lst (pa_cons (pe_make MN GN hr rfl mn BN .nil passL (pa_cons pe_str pa_nil))
      (pa_cons (pe_make MS GS hr rfl ms BS .nil passL (pa_cons pe_str pa_nil)) (pa_cons (pe_make MD GD hr rfl md BD .nil passL (pa_cons pe_int (pa_cons (pe_make MN GN hr rfl mn BN .nil passL (pa_cons pe_str pa_nil)) pa_nil))) pa_nil)))) pa_nil)))), ?_⟩
  refine ⟨_, rfl, fun x dx hx hdx ne => ⟨x, dx, kc "name", .str "x", rfl, T.own "name" (by simp), upd_same, .inl ⟨"x", rfl, by decide +kernel, by decide +kernel, fun H1 b1 xp1 => ⟨rfl, ?_⟩⟩⟩⟩
  have s1 := grown hx hdx ne b1
  refine fun y dy hy hdy ne2 => ⟨y, dy, kc "sign", .str "q", rfl, T.own "sign" (by simp), upd_same, .inl ⟨"q", rfl, by decide +kernel, by decide +kernel, fun H2 b2 xp2 => ⟨rfl, ?_⟩⟩⟩
  have s2 := grown hy hdy ne2 b2
  refine fun z dz hz hdz ne3 => ⟨z, dz, kc "name", .str "ab", rfl, T.own "name" (by simp), upd_same, .inl ⟨"ab", rfl, by decide +kernel, by decide +kernel, fun H3 b3 xp3 => ⟨rfl, ?_⟩⟩⟩
  have s3 := grown hz hdz ne3 b3
  have kz : Kid CF cls H3 ⟨z, kc "name", "name", "ab", [.str "ab"], [], ["ab"], 1⟩ := kid_of xp3 (by show (1 : Nat) ≤ 40; decide) (by decide +kernel)
  refine fun u du hu hdu ne4 => ⟨u, du, kc "drop", .int 9, _, rfl, T.own "drop" (by simp), upd_same, .inl ⟨9, ⟨z, kc "name", "name", "ab", [.str "ab"], [], ["ab"], 1⟩, rfl, by decide, by decide, rfl, kz.arg.same (born hu hdu ne4), fun H4 ls b4 xp4 pm srt => ⟨rfl, ?_⟩⟩⟩
  have s4 := grown hu hdu ne4 b4
  refine ⟨(by show 3 ≤ sizeLine; decide), fun l nl => ?_⟩
  have s5 := same_new nl (.lst [V.ref x, V.ref y, V.ref u])
  have s05 := ((((s1.trans s2).trans s3).trans s4).trans s5)
  have gl : upd H4 l (.lst [V.ref x, V.ref y, V.ref u]) l = some (.lst [V.ref x, V.ref y, V.ref u]) := upd_same
  have ndl : d ≠ l := by
    obtain ⟨a, m, c, _, _, e⟩ := hd
    exact ne_of_none ((((s1.trans s2).trans s3).trans s4) _ _ e) nl
  refine ⟨d, l, _, rfl, ndl, gl, (by show (0 : Nat) < 3; decide), (by show (3 : Nat) ≤ 1000; decide), DeckAt.same s05 hd, fun p v r H' b hd' npd hp hv => q p v r H' ((But.of s05).trans b) hd' npd hp ?_⟩
  rcases hv with ⟨rfl, hv⟩ | ⟨rfl, hv⟩
  · refine .inl ⟨rfl, ?_⟩
    have hd5 := DeckAt.same s05 hd
    simp only [List.mem_cons, List.not_mem_nil, or_false] at hv
    rcases hv with rfl | rfl | rfl
    · exact ⟨_, rfl, (Kid.same (kid_of xp1 (by show (1 : Nat) ≤ 40; decide) (by decide +kernel)) (((s2.trans s3).trans s4).trans s5)).but hd5 b⟩
    · exact ⟨_, rfl, (Kid.same (kid_of xp2 (by show (0 : Nat) ≤ 40; decide) (by decide +kernel)) ((s3.trans s4).trans s5)).but hd5 b⟩
    · have few : ls.length ≤ 40 := by
        rw [pm.length_eq]
        show (List.foldl Hs.put [] (["ab"] : List Str)).length ≤ 40
        decide +kernel
      exact ⟨_, rfl, (Kid.same (kid_of xp4 few (by show (spell "drop" [toString (9 : Int), "ab"]).length ≤ 20; decide +kernel)) s5).but hd5 b⟩
  · exact .inr ⟨rfl, hv⟩
end
end Wp

namespace Wp
open PySem PySem.Spec PyProof.Rows L2 Hx
/-! repr of data within a def of the law; the first wrong one of the lots -/
structure Fit (H : Hp) (v : V) (d : PyData) : Prop where
  dq : Dq H v d
  show_ : d.showable = true
  dep : d.depth ≤ 20
  len : d.shown.length ≤ sizeLine
  ok : PyData.strOk d.shown = true
theorem Fit.same {H H' : Hp} {v : V} {d : PyData} (h : Fit H v d) (s : Same H H') : Fit H' v d := ⟨Dq.same s d v h.dq, h.show_, h.dep, h.len, h.ok⟩
abbrev Lot : Type := Str × V × Bool
def LotAt (H : Hp) (u : V) (t : Lot) : Prop := ∃ p, u = .ref p ∧ H p = some (.tup [.str t.1, t.2.1, .bl t.2.2])
theorem LotAt.same {H H' : Hp} {u : V} {t : Lot} (h : LotAt H u t) (s : Same H H') : LotAt H' u t := by
  obtain ⟨p, e, h⟩ := h
  exact ⟨p, e, s _ _ h⟩
theorem paired_at {α β : Type} {R : α → β → Prop} : ∀ {as : List α} {bs : List β} {i : Nat} {a : α}, Paired R as bs → as[i]? = some a → ∃ b, bs[i]? = some b ∧ R a b
  | _, _, i, _, .nil, h => by simp at h
  | _, _, 0, _, .cons r _, h => by
    simp at h
    subst h
    exact ⟨_, rfl, r⟩
  | _, _, i + 1, _, .cons _ t, h => by
    simp at h
    exact paired_at (i := i) t h
theorem paired_len {α β : Type} {R : α → β → Prop} : ∀ {as : List α} {bs : List β}, Paired R as bs → as.length = bs.length
  | _, _, .nil => rfl
  | _, _, .cons _ t => by simp [paired_len t]
theorem find_at : ∀ {ls : List Lot} {i : Nat} {t : Lot}, ls[i]? = some t → t.2.2 = false → (∀ j u, j < i → ls[j]? = some u → u.2.2 = true) → ls.find? (fun t => !t.2.2) = some t
  | [], i, _, h, _, _ => by simp at h
  | x :: r, 0, t, h, w, _ => by
    simp at h
    subst h
    rw [List.find?_cons, w] <;> rfl
  | x :: r, i + 1, t, h, w, g => by
    have gx := g 0 x (Nat.succ_pos i) rfl
    rw [List.find?_cons, gx]
    exact find_at (i := i) (by simpa using h) w fun j u hj e => g (j + 1) u (Nat.succ_lt_succ hj) (by simpa using e)
theorem find_none {ls : List Lot} (g : ∀ (j : Nat) (u : Lot), ls[j]? = some u → u.2.2 = true) : ls.find? (fun t => !t.2.2) = none := by
  rw [List.find?_eq_none]
  intro t ht
  obtain ⟨j, hj⟩ := List.mem_iff_getElem?.mp ht
  rw [g j t hj]
  decide
def FirstIs (H : Hp) (Q : VK) : Option Lot → Prop
  | none => ∀ p H', Same H H' → H' p = some (.tup []) → Q (.ref p) H'
  | some t => ∀ p d H', Same H H' → Fit H t.2.1 d → H' p = some (.tup [.str t.1, .str d.shown]) → Q (.ref p) H'
def spFirst : Sp := fun vs H Q _ => ∃ (l : Addr) (us : List V) (ls : List Lot), vs = [.ref l] ∧ H l = some (.lst us) ∧ us.length ≤ 10 ∧ Paired (LotAt H) us ls ∧ (∀ t ∈ ls, t.2.2 = false → ∃ d, Fit H t.2.1 d) ∧ FirstIs H Q (ls.find? fun t => !t.2.2)
section
variable {P : Program} {w : World} {K : PySem.W.Frag} {mg : Str → Option Value} {base : Heap} {f : Addr} {fd : FuncData}
def rFit : List V → Hp → VK → Prop := fun xs H Q => ∃ v d, xs = [v] ∧ Fit H v d ∧ Q (.str d.shown) H
theorem call_reprF {X : Cx} (gd : X.A.guards = some []) (hu : X.A.units + 64 < cLine) (hm : Mods X.base) : CallR X (.builtin "repr") rFit := by
  intro pins s σ H xs us Q I r h
  obtain ⟨v, d, rfl, ft, q⟩ := h
  obtain ⟨u, rfl, ru⟩ := vals1 r
  obtain ⟨as, hr, ha⟩ := Dq.reads I d v u ft.dq ru
  have out : sysModules ∉ as := fun z => by
    obtain ⟨o, e⟩ := ha _ z
    obtain ⟨b, eb⟩ := hm
    rw [(I.bs _ _ eb).2] at e
    cases e
  have fin : ∀ (h' : Heap) (tu : Tok) (tk : Nat), (∀ b o, s.heap.get? b = some o → h'.get? b = some o) → EP X pins σ Q (.str d.shown tu) { s with heap := h', toks := tk } :=
    fun h' tu tk k => ⟨.str d.shown, H, I.kept (t' := tk) k, ⟨_, rfl⟩, q⟩
  obtain ⟨hd, h1, h2, hz, _⟩ := ft
  cases hd with
  | non => cases ru; exact P.repr_of_none (fin _ _ _ fun _ _ z => z)
  | bl b => cases ru; exact P.repr_of_bool (fin _ _ _ fun _ _ z => z)
  | int i =>
    obtain ⟨t, rfl⟩ := ru
    exact P.repr_of_int (of_decide_eq_true h1) (fin _ _ _ fun _ _ z => z)
  | str x =>
    obtain ⟨t, rfl⟩ := ru
    exact P.repr_of_str (fin _ _ _ fun _ _ z => z) hz
  | lst _ _ => cases ru; exact repr_of_reads' hr h1 (fun _ => out) gd (by omega) (fun _ _ z => z) fin hz
  | tup _ _ => cases ru; exact repr_of_reads' hr h1 (fun _ => out) gd (by omega) (fun _ _ z => z) fin hz
  | dct _ _ => cases ru; exact repr_of_reads' hr h1 (fun _ => out) gd (by omega) (fun _ _ z => z) fin hz
def NFi : List Str := ["_law_lots", "_law_kind", "_law_value", "_law_is_right"]
theorem scFirst : FnScope NFi ["_law_lots"] (defScope s_law_first) := ⟨rfl, rfl, rfl, by decide +kernel, rfl, by decide +kernel, by decide +kernel⟩
theorem ok_first (F : Fun K "_law_first" "_law_first" s_law_first f fd) (mR : mg "repr" = none) (hm : Mods base) : GOk P w K mg base CX0 1 f fd ["_law_lots"] spFirst := by
  refine gok0 F scFirst (fun vs H Q E h => ?_) (fun cdv A outer s H vs Q E hr gd h => ?_)
  · obtain ⟨l, us, ls, rfl, _⟩ := h
    rfl
  obtain ⟨l, us, ls, rfl, hl, few, pr, sh, q⟩ := h
  have hu : (A.deeper (envOfC "_law_first" (defScope s_law_first) s.heap.objs.size f cdv)).units + 64 < cLine := hr.units
  refine ⟨_, pss_cons (ps_for PassesOwn.never rfl (pi_list (pv 0)) (pg_tup (by rfl) (pgs_cons (pg_name (i := 1) scFirst.nd rfl (Or.inl rfl)) (pgs_cons (pg_name (i := 2) scFirst.nd rfl (Or.inl rfl)) (pgs_cons (pg_name (i := 3) scFirst.nd rfl (Or.inl rfl)) pgs_nil))))
      (pss_one (ps_if (pt_not (pt_val (pv 3))) (pss_one (ps_ret (pe_tup (pa_cons (pv 1) (pa_cons (pe_callB (call_reprF gd hu hm) (by rfl) mR PyProof.Rows.boot_repr (pa_cons (pv 2) pa_nil)) pa_nil))))) pss_nil)))
    (pss_one (ps_ret (pe_tup pa_nil))), ?_⟩
  refine ⟨_, rfl, l, rfl, ⟨_, SqL.of hl⟩, for_list (K := K) (a := l) (xs := us) (fun i σ H' => Same H H' ∧ (∀ (j : Nat) (u : Lot), j < i → ls[j]? = some u → u.2.2 = true) ∧ ∃ o1 o2 o3, σ = [some (.ref l), o1, o2, o3])
    ⟨Same.refl _, fun j u hj => absurd hj (Nat.not_lt_zero j), none, none, none, rfl⟩ (fun _ _ _ _ z => SqL.of (z.1 _ _ hl)) ?_ ?_⟩
  · rintro i v σ H' hv ⟨s1, g, o1, o2, o3, rfl⟩
    obtain ⟨t, ht, p, rfl, hp⟩ := paired_at pr hv
    obtain ⟨k, v, r⟩ := t
    have hp1 := s1 _ _ hp
    refine ⟨p, _, rfl, SqT.of hp1, rfl, ?_⟩
    refine ⟨_, _, rfl, _, _, rfl, _, _, rfl, rfl, ?_⟩
    refine ⟨_, rfl, _, rfl, ?_⟩
    cases r with
    | true =>
      refine iteF ⟨s1, fun j u hj e => ?_, _, _, _, rfl⟩
      by_cases hji : j = i
      · subst hji
        rw [ht] at e
        cases e
        rfl
      · exact g j u (by omega) e
    | false =>
      refine iteT ?_
      rw [find_at ht rfl g] at q
      obtain ⟨d, fit⟩ := sh _ (List.mem_of_getElem? ht) rfl
      refine ⟨_, rfl, _, rfl, v, d, rfl, fit.same s1, (by show 2 ≤ sizeLine; decide), fun t nt => ?_⟩
      exact q t d _ (s1.trans (same_new nt _)) fit upd_same
  · rintro σ H' ⟨s1, g, o1, o2, o3, rfl⟩
    rw [find_none (fun j u e => g j u (by rw [paired_len pr]; exact (List.getElem?_eq_some_iff.mp e).1) e)] at q
    exact ⟨by decide, fun t nt => q t _ (s1.trans (same_new nt _)) upd_same⟩
end
end Wp

namespace Hx
open PySem PySem.Spec PyProof.Rows L2
/-- repr of data, up to a line in length -/
def rReprL : List V → Hp → VK → Prop := fun xs H Q => ∃ v d, xs = [v] ∧ Dq H v d ∧ d.showable = true ∧ d.depth ≤ 20 ∧ d.shown.length ≤ sizeLine ∧ Q (.str d.shown) H
/-- repr(x) of an own object, its class in the reading -/
def rShowA (P : Program) (w : World) (K : PySem.W.Frag) (mg : Str → Option Value) (base : Heap) (k : Nat) : List V → Hp → VK → Prop := fun xs H Q => ∃ (a C dx : Addr) (fs : List (Str × V)) (sp : Sp), xs = [.ref a] ∧ H a = some (.ins C dx fs) ∧ Hx.ShowsBy P w K mg base k C sp ∧
  sp [.ref a] H (fun v H' => ∃ y : Str, v = .str y ∧ Q (.str y) H') E0
section
variable {X : Cx} {k : Nat}
theorem call_reprL (gd : X.A.guards = some []) (hu : X.A.units + 64 < cLine) (hm : Mods X.base) : CallR X (.builtin "repr") rReprL := by
  intro pins s σ H xs us Q I r h
  obtain ⟨v, d, rfl, hd, h1, h2, hz, q⟩ := h
  obtain ⟨u, rfl, ru⟩ := vals1 r
  obtain ⟨as, hr, ha⟩ := Dq.reads I d v u hd ru
  have hno : sysModules ∉ as := fun z => by
    obtain ⟨o, e⟩ := ha _ z
    obtain ⟨b, eb⟩ := hm
    have n := (I.bs _ _ eb).2
    rw [n] at e
    cases e
  have fin : ∀ (h' : Heap) (tu : Tok) (tk : Nat), (∀ b o, s.heap.get? b = some o → h'.get? b = some o) → EP X pins σ Q (.str d.shown tu) { s with heap := h', toks := tk } :=
    fun h' tu tk k => ⟨.str d.shown, H, I.kept (t' := tk) k, ⟨_, rfl⟩, q⟩
  cases hd with
  | non => cases ru; exact P.repr_of_none (fin _ _ _ fun _ _ z => z)
  | bl b => cases ru; exact P.repr_of_bool (fin _ _ _ fun _ _ z => z)
  | int i =>
    obtain ⟨t, rfl⟩ := ru
    exact P.repr_of_int (of_decide_eq_true h1) (fin _ _ _ fun _ _ z => z)
  | str x =>
    obtain ⟨t, rfl⟩ := ru
    exact P.repr_of_str (fin _ _ _ fun _ _ z => z) hz
  | lst _ _ => cases ru; exact repr_of_reads' hr h1 (fun _ => hno) gd (by omega) (fun _ _ z => z) fin hz
  | tup _ _ => cases ru; exact repr_of_reads' hr h1 (fun _ => hno) gd (by omega) (fun _ _ z => z) fin hz
  | dct _ _ => cases ru; exact repr_of_reads' hr h1 (fun _ => hno) gd (by omega) (fun _ _ z => z) fin hz
theorem call_showA (hr : Room (k + 1) X.A) : CallR X (.builtin "repr") (rShowA X.prog X.w X.K X.mg X.base k) := by
  intro pins s σ H xs us Q I r h
  obtain ⟨a, C, dx, fs, sp, rfl, ha, T, q⟩ := h
  exact call_show T hr pins s σ H _ us Q I r ⟨a, dx, fs, rfl, ha, q⟩
end
end Hx

/-! try with several clauses 'except x as n' -/
namespace Hx
open PySem PySem.Spec PyProof.Rows L2
/-- what is wished behind a clause's suite: the name is gone -/
def Gone (i : Nat) (D : Ends) : Ends := { nx := fun σ' H' => D.nx (σ'.set i none) H', rt := D.rt, bk := fun σ' H' => D.bk (σ'.set i none) H', ct := fun σ' H' => D.ct (σ'.set i none) H' }
def wClauses (K : PySem.W.Frag) (i : Nat) (Wout : WX) (D : Ends) : List (Value × (Addr → Value → Option Addr → TS)) → WX
  | [] => Wout
  | (c, ts) :: r => fun cls d σ H => ∃ b, PySem.W.exmOne K cls c = some b ∧ (b = true → ∀ a, H a = none → i < σ.length → ts a cls d (Gone i D) (σ.set i (some (.ref a))) H) ∧ (b = false → wClauses K i Wout D r cls d σ H)
inductive Clauses (X : Cx) (n : Str) : List ExceptHandler → List (Value × (Addr → Value → Option Addr → TS)) → Prop
  | nil : Clauses X n [] []
  | cons {x : Str} {c : Value} {ts : Addr → Value → Option Addr → TS} {b₀ : Stmt} {suite : List Stmt} {np pos' : Pos} {hds : List ExceptHandler} {l : List (Value × (Addr → Value → Option Addr → TS))} (hc : Names X x c)
      (hsu : ∀ (a : Addr) (oe : Obj) (cls : Value) (d : Option Addr) (pn : List (Addr × Obj)), Zc cls d oe → (∃ vs, oe.data = .fields vs) → PSs (X.suite a ((a, oe) :: pn)) (b₀ :: suite) (ts a cls d)) (r : Clauses X n hds l) :
      Clauses X n (.ExceptHandler (some (.Name x np)) (some n) (b₀ :: suite) pos' :: hds) ((c, ts) :: l)
section
variable {X : Cx} {n : Str} {i : Nat} {body : List Stmt} {h₀ : ExceptHandler} {hds : List ExceptHandler} {l : List (Value × (Addr → Value → Option Addr → TS))} {pos : Pos} {tb : WX → TS} {Wout : WX}
theorem ps_try_clauses (hs : X.stack = X.env :: X.outer) (hf : X.env.frame = some X.env.locals) (hN : X.N.Nodup) (hi : X.N[i]? = some n) (hln : X.env.kindOf n = some .local) (tk : Takes X Wout)
    (hb : ∀ (W : WX) (pn : List (Addr × Obj)) (xe : Value → Shared → Prop), Takes (X.tr pn xe) W → PassesOwn (model X.prog X.w) X.A X.env xe → PSs (X.tr pn xe) body (tb W))
    (hh : Clauses X n (h₀ :: hds) l) : PS X (.Try body (h₀ :: hds) [] [] pos) (fun D σ H => tb (wClauses X.K i Wout D l) D σ H) := by
  constructor
  intro pins s σ H D I h
  have ok := I.ok
  have frames : X.A.frames = some (X.env :: X.outer) := by rw [ok.frames, hs]
  have loc : Loc X.env.scope n := .inl hln
  refine wpAny_Try_except ?_
  refine wpAny_mono ((hb (wClauses X.K i Wout D l) (X.pn ++ pins) (fun e s₁ => wpAny (model X.prog X.w) X.A (noteFrame e X.env) (fun _ s₂ => wpAny (model X.prog X.w) X.A (setFlight e none) (fun _ s₃ =>
    wpAny (model X.prog X.w) X.A (handleBy e X.env (h₀ :: hds)) (SP X pins D) X.xe s₃) X.xe s₂) X.xe s₁) (fun u s' xx => ?_) PassesOwn.looking).run [] s σ H D (I.toTry _) h) (fun f s1 hsp => ?_) (fun e s1 he => he)
  case refine_2 =>
    cases f with
    | next => obtain ⟨σ', H', J', q⟩ := hsp; exact wpAny_execs_nil ⟨σ', H', J'.ofTry ok, q⟩
    | brk => obtain ⟨σ', H', J', q⟩ := hsp; exact ⟨σ', H', J'.ofTry ok, q⟩
    | cont => obtain ⟨σ', H', J', q⟩ := hsp; exact ⟨σ', H', J'.ofTry ok, q⟩
    | ret u => obtain ⟨v, σ', H', J', r, q⟩ := hsp; exact ⟨v, σ', H', J'.ofTry ok, r, q⟩
  obtain ⟨a, B, sI, pins', σ', H', cls, d, rfl, J', nb, up, sky, na, os, ag, w⟩ := xx
  have J : Inv X pins σ' H' sI := J'.ofTry ok
  have sky' : Sky B (X.env :: X.outer) a (Zc cls d) X.env.locals s'.heap := by rw [← hs]; exact sky
  show wpAny (model X.prog X.w) X.A (noteFrame (.ref a) X.env) _ _ _
  refine Sky.land Zc.steady frames hf sky' fun h3 fl3 up3 => ?_
  have J3 : Inv X pins σ' H' { s' with heap := h3 } := J.landed nb fl3.1 (up.trans up3) os ag
  obtain ⟨oe3, vs3, he3, hz3, hd3⟩ := fl3.there
  have off : a ∉ frs (X.env :: X.outer) := fun hm => by
    obtain ⟨_, o', e', hnf⟩ := fl3.2.2.1.mem hm
    rw [he3] at e'
    cases e'
    exact hnf _ hd3
  have offL : a ≠ X.env.locals := fun z => off (List.mem_filterMap.mpr ⟨X.env, List.mem_cons_self, by rw [hf, z]⟩)
  have offF : a ∉ X.fs := fun hm => by
    obtain ⟨e, he, q⟩ := List.mem_filterMap.mp hm
    exact off (List.mem_filterMap.mpr ⟨e, List.mem_cons_of_mem _ he, q⟩)
  have S3 := J3.suite he3 hd3 na offL offF
  have go : ∀ {hds' : List ExceptHandler} {l' : List (Value × (Addr → Value → Option Addr → TS))}, Clauses X n hds' l' → wClauses X.K i Wout D l' cls d σ' H' →
      wpAny (model X.prog X.w) X.A (handleBy (.ref a) X.env hds') (SP X pins D) X.xe { s' with heap := h3 } := by
    intro hds' l' hk
    induction hk with
    | nil =>
      intro w
      refine wpAny_handleBy_nil ?_
      obtain ⟨k1, k2, k3, oe, vs, T, oT, ts', he, hz, hd, h1, hr⟩ := id fl3
      unfold PySem.passOn
      refine wpAny_bind (wpAny_field he hd h1 ?_)
      rw [if_neg (show ¬ ((Value.ref T == Value.none) = true) from by simp)]
      have away : wpAny (model X.prog X.w) X.A (setFlight (.ref a) X.env.frame) (fun _ s4 => wpAny (model X.prog X.w) X.A (throw (.ref a) : Sem Flow) (SP X pins D) X.xe s4) X.xe { s' with heap := h3 } := by
        rw [hf]
        refine HandSPX.setFlight_upZ fl3 fun h4 hh4 up4 => wpAny_throw (tk _ _ ?_)
        exact ⟨a, B, sI, pins, σ', H', cls, d, rfl, J, nb, (up.trans up3).trans up4, .inr (.inr (by rw [hs]; exact hh4)), na, os, ag, w⟩
      first
        | exact wpAny_bind (wpAny_pure (wpAny_bind away))
        | exact wpAny_bind away
    | @cons x c ts b₀ suite np pos' hds2 l2 hc hsu r ih =>
      intro w
      obtain ⟨b, hb1, yes, no⟩ := w
      refine wpAny_handleBy_cons (codeAny_handlers_test ?_) (by intro q; cases q)
      have LT : PySem.W.Looks (model X.prog X.w) h3 (typeOf (.ref a)) cls := fun A Q E s k q => wpAny_typeOf_ref (k _ _ he3) (by rw [hz3.1]; exact q)
      have LM := PySem.W.exm_one (M := model X.prog X.w) (J3.kIn) LT hb1
      have test : ∀ {Q : Value → Shared → Prop} {E : Value → Shared → Prop}, Q c { s' with heap := h3 } → wpAny (model X.prog X.w) (X.A.mark (some (.ref a))) (eval (.Name x np) X.env) Q E { s' with heap := h3 } := fun {Q E} q => by
        obtain ⟨hg, hdbg, hm | ⟨hm, hv, hnn⟩⟩ := hc
        · exact ld_glob (X := X.suite a ((a, oe3) :: (X.pn ++ pins))) S3 hg hm q hdbg
        · exact ld_blt (X := X.suite a ((a, oe3) :: (X.pn ++ pins))) S3 hg hm hv q hnn hdbg
      refine test (LM.here ?_)
      cases b with
      | false =>
        show wpAny _ X.A (handleBy (.ref a) X.env hds2) _ _ _
        exact ih (no rfl)
      | true =>
        refine codeAny_handlers_suite_as ?_
        refine HandSPX.lands_againZ fl3 fun h4 fl4 up4 => ?_
        have J4 : Inv X pins σ' H' { s' with heap := h4 } := J.landed nb fl4.1 ((up.trans up3).trans up4) os ag
        obtain ⟨oe4, vs4, he4, hz4, hd4⟩ := fl4.there
        have S4 := J4.suite he4 hd4 na offL offF
        refine store_ok (X := X.suite a ((a, oe4) :: (X.pn ++ pins))) (v := .ref a) S4 hN hi loc rfl (fun s5 S5 => ?_) (.inr hln)
        refine wpAny_mono ((hsu a oe4 cls d (X.pn ++ pins) hz4 ⟨_, hd4⟩).run [] s5 _ H' _ S5 (yes rfl a na (by rw [J.len]; exact (List.getElem?_eq_some_iff.mp hi).1))) (fun f s6 hsp => ?_) (fun _ _ z => False.elim z)
        have last : ∀ {σ6 : L2.St} {H6 : Hp} {Q : Shared → Prop}, Inv (X.suite a ((a, oe4) :: (X.pn ++ pins))) [] σ6 H6 s6 → (∀ s7, Inv X pins (σ6.set i none) H6 s7 → Q s7) →
            wpAny (model X.prog X.w) X.A (do bindName X.env n .none; unbindBehindTheSuite X.env n pos') (fun _ s7 => Q s7) X.xe s6 := fun {σ6 H6 Q} S6 hq => gone_ok (S6.unsuite ok) hN hi hln hq
        cases f with
        | next => obtain ⟨σ6, H6, S6, q6⟩ := hsp; exact last S6 fun s7 J7 => ⟨_, _, J7, q6⟩
        | brk => obtain ⟨σ6, H6, S6, q6⟩ := hsp; exact last S6 fun s7 J7 => ⟨_, _, J7, q6⟩
        | cont => obtain ⟨σ6, H6, S6, q6⟩ := hsp; exact last S6 fun s7 J7 => ⟨_, _, J7, q6⟩
        | ret u => obtain ⟨v6, σ6, H6, S6, r6, q6⟩ := hsp; exact last S6 fun s7 J7 => ⟨_, _, _, J7, r6, q6⟩
  exact go hh w
end
end Hx

/-! a def that calls what it gets, and tells an error by its name and the repr of what it was given -/
namespace Hx
open PySem PySem.Spec PyProof.Rows L2 LamX
/-- the classes of errors of its clauses -/
structure ExcX (K : PySem.W.Frag) (mg : Str → Option Value) (L : List (Str × Addr)) : Prop where
  xf : ∀ p ∈ L, XfC K p.2
  no : ∀ p ∈ L, PySem.W.findIn K (.ref p.2) "given" = some none
  m : ∀ p ∈ L, mg p.1 = some (.ref p.2)
  exm : ∀ p ∈ L, ∀ r ∈ L, PySem.W.exmOne K (.ref p.2) (.ref r.2) = some (decide (p.1 = r.1))
  db : ∀ p ∈ L, (p.1 == ("__debug__" : Str)) = false
inductive HdsL : List Str → List ExceptHandler → Prop
  | nil : HdsL [] []
  | cons {nm : Str} {ns : List Str} {hds : List ExceptHandler} {p1 p2 p3 p4 p5 p6 p7 p8 p9 : Pos} {j k : Nat} : HdsL ns hds →
    HdsL (nm :: ns) (.ExceptHandler (some (.Name nm p1)) (some "e") [.Return (some (.Tuple [.Constant (.str nm) j p2, .Call (.Name "repr" p3) [.Attribute (.Name "e" p4) "given" p5] [] p6] k p7)) p8] p9 :: hds)
def tsOf (i : Nat) (p : Str × Addr) (a : Addr) (cls : Value) (d : Option Addr) : TS := tRet (tTup (tCons (tC (.str p.1)) (tCons (tCB rReprL (tCons (tXf a cls d p.2 "given" (tVar i)) tNil)) tNil)))
theorem clauses_of {X : Cx} {i : Nat} {L : List (Str × Addr)} (EX : ExcX X.K X.mg L) (gl : ∀ p ∈ L, Gl X p.1) (gr : Gl X "repr") (mr : X.mg "repr" = none) (hi : X.N[i]? = some ("e" : Str)) (hv : Vis X.env.scope "e")
    (gd : X.A.guards = some []) (hu : X.A.units + 64 < cLine) (hm : Mods X.base) :
    ∀ {M : List (Str × Addr)} {hds : List ExceptHandler}, (∀ p ∈ M, p ∈ L) → HdsL (M.map (·.1)) hds → Clauses X "e" hds (M.map fun p => (Value.ref p.2, tsOf i p)) := by
  intro M
  induction M with
  | nil =>
    intro hds _ h
    cases h
    exact .nil
  | cons p M ih =>
    intro hds sub h
    have hp := sub p List.mem_cons_self
    cases h with
    | cons r =>
      refine .cons ⟨gl p hp, EX.db p hp, .inl (EX.m p hp)⟩ (fun a oe cls d pn hz hd => ?_) (ih (fun q hq => sub q (List.mem_cons_of_mem _ hq)) r)
      exact pss_one (ps_ret (pe_tup (pa_cons pe_str (pa_cons (pe_callB (call_reprL gd hu hm) gr mr PyProof.Rows.boot_repr (pa_cons (pe_xf (EX.xf p hp) (EX.no p hp) hz hd (pe_var (i := i) hi hv)) pa_nil)) pa_nil))))
/-- an error that is told: what it was given is small data -/
def CaughtE (L : List (Str × Addr)) (Q : VK) : XK := fun cls d H' => ∃ (p : Str × Addr) (dd : Addr) (v : V) (dt : PyData), p ∈ L ∧ cls = .ref p.2 ∧ d = some dd ∧ H' dd = some (.xd [("given", v)]) ∧ Dq H' v dt ∧ dt.showable = true ∧ dt.depth ≤ 20 ∧ dt.shown.length ≤ sizeLine ∧
  ∀ q, H' q = none → Q (.ref q) (upd H' q (.tup [.str p.1, .str dt.shown]))
def TCaught (L : List (Str × Addr)) : (XK → Hp → VK → Prop) → Hp → VK → Prop := fun tl H Q => tl (CaughtE L Q) H fun v H' => ∃ x, some (some v) = some (some x) ∧ ([V.str "told", x].length ≤ sizeLine ∧ ∀ q, H' q = none → Q (.ref q) (upd H' q (.tup [.str "told", x])))
theorem caught_w {K : PySem.W.Frag} {mg : Str → Option Value} {L : List (Str × Addr)} (EX : ExcX K mg L) {i : Nat} {D : Ends} {Wout : WX} {cls : Value} {d : Option Addr} {σ : L2.St} {H : Hp} (h : CaughtE L D.rt cls d H) :
    ∀ {M : List (Str × Addr)}, (∀ p ∈ M, p ∈ L) → (∃ p ∈ M, cls = .ref p.2) → wClauses K i Wout D (M.map fun p => (Value.ref p.2, tsOf i p)) cls d σ H := by
  obtain ⟨p, dd, v, dt, hp, rfl, rfl, hd, hv, s1, s2, s3, q⟩ := h
  intro M
  induction M with
  | nil =>
    rintro _ ⟨r, hr, _⟩
    cases hr
  | cons r M ih =>
    rintro sub ⟨x, hx, ex⟩
    have hr := sub r List.mem_cons_self
    refine ⟨_, EX.exm p hp r hr, fun c a na hi => ?_, fun c => ?_⟩
    · have e1 : p.1 = r.1 := of_decide_eq_true c
      have e2 : p.2 = r.2 := by
        exact Value.ref.inj (Option.some.inj ((EX.m p hp).symm.trans (by rw [e1]; exact EX.m r hr)))
      refine ⟨.ref a, ?_, rfl, by rw [e2], dd, _, v, rfl, hd, rfl, v, dt, rfl, hv, s1, s2, s3, (by show 2 ≤ sizeLine; decide), fun q' hq' => ?_⟩
      · rw [List.getElem?_set_self hi]
      · rw [← e1]
        exact q q' hq'
    · refine ih (fun y hy => sub y (List.mem_cons_of_mem _ hy)) ?_
      rcases List.mem_cons.mp hx with rfl | hx
      · have e1 : p.1 = x.1 := by
          have hx' := sub x List.mem_cons_self
          have e3 := EX.exm p hp x hx'
          have e4 : p.2 = x.2 := Value.ref.inj ex
          have e5 := EX.exm x hx' x hx'
          rw [← e4] at e5 e3
          rw [e3] at e5
          have e6 := Option.some.inj e5
          rw [c] at e6
          simp at e6
        rw [decide_eq_true e1] at c
        cases c
      · exact ⟨x, hx, ex⟩
/-- try: told = act() / except C as e: return (name, repr(e.given)) .. / return ('told', told) -/
theorem caught_gives {X : Cx} {L : List (Str × Addr)} {Ng : List Str} {x a q : Str} {sg : Scope} {g : Addr} {cdg : Value} {h₀ : ExceptHandler} {hds : List ExceptHandler} {p1 p2 p3 p4 p5 p6 p7 p8 p9 : Pos} {j k : Nat}
    (EX : ExcX X.K X.mg L) (hNd : Ng.Nodup) (hN : Ng = [a, "_law_told", "e"]) (hL : HdsL (L.map (·.1)) (h₀ :: hds)) (gl : ∀ p ∈ L, sg.names.lookup p.1 = some .globalImplicit) (gr : sg.names.lookup ("repr" : Str) = some .globalImplicit) (mr : X.mg "repr" = none)
    (lt : sg.names.lookup ("_law_told" : Str) = some .local) (le : sg.names.lookup ("e" : Str) = some .local) (gd : X.A.guards = some []) (hm : Mods X.base)
    (hu : ∀ (s : Shared), (X.A.deeper (envOfC x sg s.heap.objs.size g cdg)).units + 64 < cLine) :
    GivesTo X Ng x sg g cdg [.Try [.Assign [.Name "_law_told" p1] (.Call (.Name a p2) [] [] p3) p4] (h₀ :: hds) [] [] p5, .Return (some (.Tuple [.Constant (.str "told") j p6, .Name "_law_told" p7] k p8)) p9] a q (TCaught L) := by
  subst hN
  intro f c' s H Q tl act hc h
  let X' := (cxOf C8.CX0 X.prog X.w X.K X.mg X.base [a, "_law_told", "e"] x sg g cdg X.A X.stack s H C8.E0).nox
  have cl : Clauses X' "e" (h₀ :: hds) (L.map fun p => (Value.ref p.2, tsOf 2 p)) :=
    clauses_of (X := X') EX gl gr mr rfl (.inl le) gd (hu s) hm (fun _ h => h) hL
  refine ⟨_, pss_cons (ps_try_clauses (X := X') (i := 2) (n := "e")
      (tb := fun W D σ H => ∃ Ech : XK, (∀ cls d σ' H', Ech cls d H' → W cls d σ' H') ∧ σ[0]? = some (some (.ref f)) ∧ H c' = some (CodeO c' q) ∧ tl Ech H fun v H1 => D.nx (σ.set 1 (some v)) H1)
      rfl rfl hNd rfl le LamX.takes0 (fun W pn xe tk _ => ?_) cl) (pss_one (ps_ret (pe_tup (pa_cons pe_str (pa_cons (pe_var (i := 1) rfl (.inl lt)) pa_nil))))), ?_⟩
  · refine ⟨fun pins s' σ H' D I h' => ?_⟩
    obtain ⟨Ech, hW, h1, h2, h3⟩ := h'
    have hp := act W pn xe Ech p2 p3 tk hW
    have hq := pss_one (ps_set (i := 1) (pos := p4) (pos' := p1) hNd rfl (Or.inl lt) hp)
    exact hq.run pins s' σ H' D I ⟨h1, h2, h3⟩
  · exact ⟨CaughtE L Q, fun cls d σ' H' hE => caught_w EX hE (fun _ h => h) (by obtain ⟨p, dd, v, dt, hp, e, _⟩ := hE; exact ⟨p, hp, e⟩), rfl, hc, h⟩
end Hx

namespace Wp
open PySem PySem.Spec PyProof.Rows L2 Hx LamR
/-! try: told = act() / except C as e: return (name, repr(e.given)) .. / return ('told', told): act a lambda that stands somewhere -/
/-- what is told is handed back with its word -/
def ToldQ (Q : VK) : VK := fun v H' => ∃ x, some (some v) = some (some x) ∧ ([V.str "told", x].length ≤ sizeLine ∧ ∀ q, H' q = none → Q (.ref q) (upd H' q (.tup [.str "told", x])))
theorem told_of {Q : VK} {v : V} {H : Hp} (h : ∀ q, H q = none → Q (.ref q) (upd H q (.tup [.str "told", v]))) : ToldQ Q v H := ⟨v, rfl, (by show 2 ≤ sizeLine; decide), h⟩
theorem caughtR {X : Cx} {L : List (Str × Addr)} {a : Str} {h₀ : ExceptHandler} {hds : List ExceptHandler} {p1 p2 p3 p4 p5 p6 p7 p8 p9 : Pos} {j j2 k : Nat} (EX : ExcX X.K X.mg L) (hs : X.stack = X.env :: X.outer) (hfr : X.env.frame = some X.env.locals) (hNd : X.N.Nodup) (hN : X.N = [a, "_law_told", "e"])
    (hL : HdsL (L.map (·.1)) (h₀ :: hds)) (gl : ∀ p ∈ L, Gl X p.1) (gr : Gl X "repr") (mr : X.mg "repr" = none) (va : Vis X.env.scope a) (hd : (a == ("__debug__" : Str)) = false) (hcd : (a == ("__classdict__" : Str)) = false)
    (lt : X.env.scope.names.lookup ("_law_told" : Str) = some .local) (le : X.env.scope.names.lookup ("e" : Str) = some .local) (gd : X.A.guards = some []) (hu : X.A.units + 64 < cLine) (hm : Mods X.base) (tk0 : Takes X (fun _ _ _ _ => False)) (hr : Room k X.A)
    {fl : Addr} {G : LF} {R : Hp → VK → XK → Prop} {H : Hp} {D : Ends} (hf : H fl = some (LamO fl G)) (run : Runs X.prog X.w X.K X.mg X.base k fl R)
    (q : R H (ToldQ D.rt) (CaughtE L D.rt)) :
    ∃ t, PSs X [.Try [.Assign [.Name "_law_told" p1] (.Call (.Name a p2) [] [] p3) p4] (h₀ :: hds) [] [] p5, .Return (some (.Tuple [.Constant (.str "told") j p6, .Name "_law_told" p7] j2 p8)) p9] t ∧ t D [some (.ref fl), none, none] H := by
  have n0 : X.N[0]? = some a := by rw [hN] <;> rfl
  have n1 : X.N[1]? = some ("_law_told" : Str) := by rw [hN] <;> rfl
  have n2 : X.N[2]? = some ("e" : Str) := by rw [hN] <;> rfl
  have cl : Clauses X "e" (h₀ :: hds) (L.map fun p => (Value.ref p.2, tsOf 2 p)) := clauses_of EX gl gr mr n2 (.inl le) gd hu hm (fun _ h => h) hL
  refine ⟨_, pss_cons (ps_try_clauses (X := X) (i := 2) (n := "e")
      (tb := fun W D σ H => ∃ Ech : XK, (∀ cls d σ' H', Ech cls d H' → W cls d σ' H') ∧ tAct X k 0 Ech σ H fun v H1 => D.nx (σ.set 1 (some v)) H1)
      hs hfr hNd n2 le tk0 (fun W pn xe tk _ => ?_) cl) (pss_one (ps_ret (pe_tup (pa_cons pe_str (pa_cons (pe_var (i := 1) n1 (.inl lt)) pa_nil))))), ?_⟩
  · refine ⟨fun pins s' σ H' D I h' => ?_⟩
    obtain ⟨Ech, hW, h1⟩ := h'
    have hp := pe_actR (X := X.tr pn xe) (k := k) (i := 0) (E := Ech) (p1 := p2) (p2 := p3) hr (passes_call tk hW) n0 va hd hcd
    exact (pss_one (ps_set (X := X.tr pn xe) (i := 1) (pos := p4) (pos' := p1) hNd n1 (Or.inl lt) hp rfl (Or.inr lt))).run pins s' σ H' D I h1
  · refine ⟨CaughtE L D.rt, fun cls d σ' H' hE => ?_, fl, G, R, rfl, hf, run, ?_⟩
    · obtain ⟨p, dd, v, dt, hp, e, z⟩ := hE
      exact caught_w (i := 2) (Wout := fun _ _ _ _ => False) (D := ⟨tRet (tTup (tCons (tC (V.str "told")) (tCons (tVar 1) tNil))) D, D.rt, D.bk, D.ct⟩) EX ⟨p, dd, v, dt, hp, e, z⟩ (fun _ h => h) ⟨p, hp, e⟩
    · exact q
/-! _law_caught of a lambda that stands somewhere -/
def NCa : List Str := ["_law_act", "_law_told", "e"]
theorem scCau : FnScope NCa ["_law_act"] (defScope s_law_caught) := ⟨rfl, rfl, rfl, by decide +kernel, rfl, by decide +kernel, by decide +kernel⟩
def errs5 (Cn Cm Cs Cw Ce : Addr) : List (Str × Addr) := [("InvalidNumber", Cn), ("InvalidName", Cm), ("InvalidSign", Cs), ("InvalidWord", Cw), ("InvalidExpression", Ce)]
def spCau (P : Program) (w : World) (K : PySem.W.Frag) (mg : Str → Option Value) (base : Heap) (k : Nat) (L : List (Str × Addr)) : Sp := fun vs H Q _ => ∃ (f : Addr) (F : LF) (R : Hp → VK → XK → Prop), vs = [.ref f] ∧ H f = some (LamO f F) ∧ Runs P w K mg base k f R ∧
  R H (ToldQ Q) (CaughtE L Q)
section
variable {P : Program} {w : World} {K : PySem.W.Frag} {mg : Str → Option Value} {base : Heap} {f Cn Cm Cs Cw Ce : Addr} {fd : FuncData} {k : Nat}
theorem ok_cau (F : Fun K "_law_caught" "_law_caught" s_law_caught f fd) (EX : ExcX K mg (errs5 Cn Cm Cs Cw Ce)) (mR : mg "repr" = none) (hm : Mods base) :
    GOk P w K mg base CX0 (k + 1) f fd ["_law_act"] (spCau P w K mg base k (errs5 Cn Cm Cs Cw Ce)) := by
  refine gok0 F scCau (fun vs H Q E h => ?_) (fun cdv A outer s H vs Q E hr gd h => ?_)
  · obtain ⟨f, G, R, rfl, _⟩ := h
    rfl
  obtain ⟨fl, G, R, rfl, hf, run, q⟩ := h
  have hu : (A.deeper (envOfC "_law_caught" (defScope s_law_caught) s.heap.objs.size f cdv)).units + 64 < cLine := hr.units
  have hr' : Room k (A.deeper (envOfC "_law_caught" (defScope s_law_caught) s.heap.objs.size f cdv)) := hr
  refine caughtR (X := (cxOf CX0 P w K mg base NCa "_law_caught" (defScope s_law_caught) f cdv A outer s H E).nox) (L := errs5 Cn Cm Cs Cw Ce) (a := "_law_act") (k := k) EX rfl rfl scCau.nd rfl (.cons (.cons (.cons (.cons (.cons .nil))))) (fun p hp => ?_) rfl mR (Or.inl rfl) rfl rfl rfl rfl gd hu hm takes0 hr' (D := { nx := fun _ H' => Q .non H', rt := Q }) hf run ?_
  · simp only [errs5, List.mem_cons, List.not_mem_nil, or_false] at hp
    rcases hp with rfl | rfl | rfl | rfl | rfl <;> rfl
  · exact q
end
end Wp

namespace LamR
open PySem PySem.Spec PyProof.Rows L2 LamX
/-- what a call of a lambda with these words asks -/
def RLam (qual : Str) (params : Arguments) (body : Expr) (scope : Scope) (fr : List Str) (tb : XK → TE) (f : Addr) : Hp → VK → XK → Prop := fun H Q E => ∃ (cl : List (Str × Addr)) (c : Addr) (ws : List V),
  H f = some (LamO f ⟨qual, params, body, scope, cl, c⟩) ∧ H c = some (CodeO c qual) ∧ Cap H ⟨qual, params, body, scope, cl, c⟩ fr ws ∧
  tb E (ws.map some) (less (LF.cs ⟨qual, params, body, scope, cl, c⟩ fr) H) fun v H' => (∀ x ∈ LF.cs ⟨qual, params, body, scope, cl, c⟩ fr, H' x = none) → Q v (back (LF.cs ⟨qual, params, body, scope, cl, c⟩ fr) H H')
theorem runs_lam {P : Program} {w : World} {K : PySem.W.Frag} {mg : Str → Option Value} {base : Heap} {k : Nat} {qual : Str} {params : Arguments} {body : Expr} {scope : Scope} {fr : List Str} {tb : XK → TE} (S : LScope fr scope)
    (hbind : ∀ (cl : List (Str × Addr)) (pm cv ctv : Value), bindArgs (PySem.W.kla_fn "<lambda>" qual params body scope cl pm cv ctv) ⟨[], []⟩ = pure [])
    (hbody : ∀ (cl : List (Str × Addr)) (c f : Addr) (A : Around) (outer : List Env) (s : Shared) (H : Hp) (E : XK), Room k (A.deeper (lenv ⟨qual, params, body, scope, cl, c⟩ f s.heap.objs.size)) → PE (lcx P w K mg base fr ⟨qual, params, body, scope, cl, c⟩ f A outer s H E) body (tb E)) (f : Addr) :
    Runs P w K mg base (k + 1) f (RLam qual params body scope fr tb f) := by
  intro A outer s H Q E hr e0 h
  obtain ⟨cl, c, ws, hf, hc, C, h⟩ := h
  exact lam_run S hr e0 hf hc C (fun pm ctv => hbind cl pm _ ctv) (fun s H r => hbody cl c f A outer s H E r) h
/-- the heap behind a lambda's call: what stood before stands, and more -/
theorem same_back {cs : List Addr} {H H' : Hp} (s : Same (less cs H) H') : Same H (back cs H H') := fun b o e => by
  by_cases hb : b ∈ cs
  · rw [back_in hb]
    exact e
  · rw [back_out hb]
    exact s b o (by rw [less_out hb]; exact e)
theorem in_less {cs : List Addr} {H : Hp} {b : Addr} {o : HO} (hc : ∀ c ∈ cs, ∃ v, H c = some (CellO c v)) (e : H b = some o) (n : ∀ φ, o ≠ .ext φ) : less cs H b = some o := by
  rw [less_out fun z => ?_]
  · exact e
  · obtain ⟨v, q⟩ := hc b z
    rw [e] at q
    exact n _ (Option.some.inj q)
theorem to_back {cs : List Addr} {H0 H : Hp} {b : Addr} {o : HO} (free : ∀ c ∈ cs, H c = none) (e : H b = some o) : back cs H0 H b = some o := by
  rw [back_out fun z => ?_]
  · exact e
  · rw [free b z] at e
    cases e
end LamR

namespace Wp
open PySem PySem.Spec PyProof.Rows L2 Hx LamR
/-! the classes of expressions, called by names -/
def gKw (us ws : List Value) : List Value := us ++ ws
def gKwV (us ws : List V) : List V := us ++ ws
theorem gKw_rel {vs : List V} {us : List Value} {zs : List V} {ws : List Value} (r : Vals vs us) (rz : Vals zs ws) : Vals (gKwV vs zs) (gKw us ws) := by
  show Vals (vs ++ zs) (us ++ ws)
  induction r with
  | nil => exact rz
  | cons a _ ih => exact .cons a ih
structure Named (P : Program) (w : World) (K : PySem.W.Frag) (mg : Str → Option Value) (base : Heap) (x : Str) (C : Addr) (ks : List Str) (sp : Sp) : Prop where
  m : mg x = some (.ref C)
  go : ∃ (fI : Addr) (fd : FuncData), Mk K C fI ∧ FnOk P w K mg base (L2.CX P w) 7 fI fd ("self" :: ks) sp ∧ KBn K fd ("self" :: ks) 1 ks gKw gKwV
structure NCtors (P : Program) (w : World) (K : PySem.W.Frag) (mg : Str → Option Value) (base : Heap) (CF CE Cn Cs Cm Cw Ce : Addr) (kc : KCls) (cls : Addr → Prop) : Prop where
  own : ∀ k ∈ (["sign", "name", "part", "drop", "lead", "turn"] : List Str), cls (kc k)
  sign : Named P w K mg base "Sign" (kc "sign") ["sign"] (spLeaf K CF cls (lettered 1) Cs "sign" (fun x => ((Str.empty ++ "'") ++ x) ++ "'") fun _ => [])
  name : Named P w K mg base "Name" (kc "name") ["name"] (spLeaf K CF cls nameB Cm "name" (fun x => x) fun x => [x])
  part : Named P w K mg base "Part" (kc "part") ["at", "base", "inner"] (spPart K CF CE Cn Ce cls)
  drop : Named P w K mg base "Drop" (kc "drop") ["many", "inner"] (spDrop K CF CE Cn Ce cls)
  lead : Named P w K mg base "Lead" (kc "lead") ["first", "rest"] (spLead K CF CE Ce cls)
  turn : Named P w K mg base "Turn" (kc "turn") ["word", "inner"] (spTurn K CF CE Cw Ce cls)
/-- an expression with this text stands -/
def TextAt (CF : Addr) (cls : Addr → Prop) (H : Hp) (v : V) (text : Str) : Prop := ∃ (a C : Addr) (kind : Str) (told inner : List V) (ls : List Str) (n : Int), v = .ref a ∧ XpAt CF cls H a C kind text told inner ls n
theorem XpAt.back {CF : Addr} {cls : Addr → Prop} {H0 H : Hp} {cs : List Addr} {a C : Addr} {kind text : Str} {told inner : List V} {ls : List Str} {n : Int} (h : XpAt CF cls H a C kind text told inner ls n) (free : ∀ c ∈ cs, H c = none) : XpAt CF cls (back cs H0 H) a C kind text told inner ls n := by
  obtain ⟨d2, fa, dfa, pm, pi, pl, h0, h1, h2, h3, h4, h5⟩ := h
  exact ⟨d2, fa, dfa, pm, pi, pl, h0, to_back free h1, to_back free h2, to_back free h3, to_back free h4, to_back free h5⟩
/-- `C(k = v, ..)` in a lambda that was handed back -/
theorem pe_named {P : Program} {w : World} {K : PySem.W.Frag} {mg : Str → Option Value} {base : Heap} {fr : List Str} {F : LF} {f : Addr} {A : Around} {outer : List Env} {s : Shared} {H : Hp} {E : XK} {x : Str} {C : Addr} {ks : List Str} {sp : Sp} {kws : List Keyword} {tk : TA} {p pos : Pos}
    (N : Named P w K mg base x C ks sp) (hr : Room 8 (A.deeper (lenv F f s.heap.objs.size))) (hg : Gl (lcx P w K mg base fr F f A outer s H E) x) (hkw : PK (lcx P w K mg base fr F f A outer s H E) kws tk)
    (hall : (backToKw pos (keywordEach kws (lcx P w K mg base fr F f A outer s H E).env)).all (·.1.isSome) = true) (hks : (backToKw pos (keywordEach kws (lcx P w K mg base fr F f A outer s H E).env)).filterMap (·.1) = ks) (hdb : (x == ("__debug__" : Str)) = false)
    (hpl : ((backTo pos (starEach [] (lcx P w K mg base fr F f A outer s H E).env)).any (·.1) || (backToKw pos (keywordEach kws (lcx P w K mg base fr F f A outer s H E).env)).any (·.1.isNone)) = false) :
    PE (lcx P w K mg base fr F f A outer s H E) (.Call (.Name x p) [] kws pos) (tMakeK C 0 ks.length sp gKwV E tNil tk) := by
  obtain ⟨fI, fd, M, G, B⟩ := N.go
  have tk' : Takes (lcx P w K mg base fr F f A outer s H E) (fun cls d _ H' => E cls d H') := takes_of rfl rfl rfl rfl
  exact pe_makeK0 M G hr hg N.m B (passes_call tk' fun _ _ _ _ h => h) hkw hall hks hdb hpl
section
variable {P : Program} {w : World} {K : PySem.W.Frag} {mg : Str → Option Value} {base : Heap} {CF CE Cn Cs Cm Cw Ce : Addr} {kc : KCls} {cls : Addr → Prop}
/-- Sign(sign = v): what the call comes to -/
theorem out_sign (T : NCtors P w K mg base CF CE Cn Cs Cm Cw Ce kc cls) {cs : List Addr} {H : Hp} {Q : VK} {E : XK} {v : V}
    (h : (∃ x : Str, v = .str x ∧ x.length ≤ 1000 ∧ lettered 1 x = true ∧ ∀ u H', Same H H' → TextAt CF cls H' u (((Str.empty ++ "'") ++ x) ++ "'") → Q u H') ∨ (((∃ x : Str, v = .str x ∧ x.length ≤ 1000 ∧ lettered 1 x = false) ∨ NotStr K (less cs H) v) ∧ Tells E Cs v (less cs H))) :
    tMakeK (kc "sign") 0 1 (spLeaf K CF cls (lettered 1) Cs "sign" (fun x => ((Str.empty ++ "'") ++ x) ++ "'") fun _ => []) gKwV E tNil (tCons (tVar 0) tNil) [some v] (less cs H) fun u H' => (∀ c ∈ cs, H' c = none) → Q u (back cs H H') := by
  refine ⟨_, rfl, rfl, rfl, fun x dx hx hdx ne => ?_⟩
  refine ⟨x, dx, kc "sign", v, rfl, T.own "sign" (by simp), upd_same, ?_⟩
  rcases h with ⟨y, rfl, l1, l2, q⟩ | ⟨bad, tl⟩
  · exact .inl ⟨y, rfl, l1, l2, fun H1 b xp => ⟨rfl, fun free => q _ _ (same_back (grown hx hdx ne b)) ⟨x, _, _, _, _, _, _, rfl, XpAt.back xp free⟩⟩⟩
  · have g := born (C := kc "sign") hx hdx ne
    exact .inr ⟨bad.imp id fun ⟨t, ty, k⟩ => ⟨t, TyX.same ty g, k⟩, fun H' d s n => tl H' d (g.trans s) n⟩
/-- what a new instance of the class at C asks, made within a lambda whose cells are cs -/
def Makes (C : Addr) (sp : Sp) (zs : List V) (cs : List Addr) (H : Hp) (Q : VK) (E : XK) : Prop := ∀ x dx, less cs H x = none → less cs H dx = none → dx ≠ x →
  sp (.ref x :: zs) (upd (upd (less cs H) dx (.own x)) x (.ins C dx [])) (fun v H3 => v = .non ∧ ((∀ c ∈ cs, H3 c = none) → Q (.ref x) (back cs H H3))) E
theorem tells_born {C2 : Addr} {L : Hp} {x dx C : Addr} {E : XK} {v : V} (hx : L x = none) (hdx : L dx = none) (ne : dx ≠ x) (h : Tells E C2 v L) : Tells E C2 v (upd (upd L dx (.own x)) x (.ins C dx [])) := fun H' d s n => h H' d ((born hx hdx ne).trans s) n
theorem notInt_same {H H' : Hp} {v : V} (h : NotInt K H v) (s : Same H H') : NotInt K H' v := by
  obtain ⟨t, bi, bb, ty, r⟩ := h
  exact ⟨t, bi, bb, TyX.same ty s, r⟩
theorem notExp_same {H H' : Hp} {v : V} (h : NotExp K CE H v) (s : Same H H') : NotExp K CE H' v := by
  obtain ⟨t, ty, k⟩ := h
  exact ⟨t, TyX.same ty s, k⟩
theorem notStr_same {H H' : Hp} {v : V} (h : NotStr K H v) (s : Same H H') : NotStr K H' v := by
  obtain ⟨t, ty, k⟩ := h
  exact ⟨t, TyX.same ty s, k⟩
/-- the new expression stands, all else stays -/
theorem made_text {cs : List Addr} {H : Hp} {Q : VK} {x dx C : Addr} {kind text : Str} {told : List V} {es : List Told} (hx : less cs H x = none) (hdx : less cs H dx = none) (ne : dx ≠ x) (q : ∀ u H', Same H H' → TextAt CF cls H' u text → Q u H') :
    Made CF cls (upd (upd (less cs H) dx (.own x)) x (.ins C dx [])) x C kind text told es (fun v H3 => v = .non ∧ ((∀ c ∈ cs, H3 c = none) → Q (.ref x) (back cs H H3))) :=
  fun H1 ls b xp _ _ => ⟨rfl, fun free => q _ _ (same_back (grown hx hdx ne b)) ⟨x, _, _, _, _, _, _, rfl, XpAt.back xp free⟩⟩
theorem out_drop (T : NCtors P w K mg base CF CE Cn Cs Cm Cw Ce kc cls) {cs : List Addr} {H : Hp} {Q : VK} {E : XK} {v u : V}
    (h : (∃ (i : Int) (e : Told), v = .int i ∧ 1 ≤ i ∧ i ≤ 9 ∧ u = .ref e.at_ ∧ Arg CF cls (less cs H) e ∧ ∀ z H', Same H H' → TextAt CF cls H' z (spell "drop" [toString i, e.text]) → Q z H') ∨
      (((∃ i : Int, v = .int i ∧ ¬ (1 ≤ i ∧ i ≤ 9)) ∨ NotInt K (less cs H) v) ∧ Tells E Cn v (less cs H)) ∨ ((∃ i : Int, v = .int i ∧ 1 ≤ i ∧ i ≤ 9) ∧ NotExp K CE (less cs H) u ∧ Tells E Ce u (less cs H))) :
    Makes (kc "drop") (spDrop K CF CE Cn Ce cls) [v, u] cs H Q E := by
  intro x dx hx hdx ne
  have g := born (C := kc "drop") hx hdx ne
  refine ⟨x, dx, kc "drop", v, u, rfl, T.own "drop" (by simp), upd_same, ?_⟩
  rcases h with ⟨i, e, rfl, h1, h9, rfl, ar, q⟩ | ⟨bad, tl⟩ | ⟨ok, bad, tl⟩
  · exact .inl ⟨i, e, rfl, h1, h9, rfl, ar.same g, made_text hx hdx ne q⟩
  · exact .inr (.inl ⟨bad.imp id fun b => notInt_same b g, tells_born hx hdx ne tl⟩)
  · exact .inr (.inr ⟨ok, notExp_same bad g, tells_born hx hdx ne tl⟩)
theorem out_turn (T : NCtors P w K mg base CF CE Cn Cs Cm Cw Ce kc cls) {cs : List Addr} {H : Hp} {Q : VK} {E : XK} {v u : V}
    (h : (∃ (x : Str) (e : Told), v = .str x ∧ x.length ≤ 1000 ∧ lettered 4 x = true ∧ u = .ref e.at_ ∧ Arg CF cls (less cs H) e ∧ ∀ z H', Same H H' → TextAt CF cls H' z (spell "turn" [x, e.text]) → Q z H') ∨
      (((∃ x : Str, v = .str x ∧ x.length ≤ 1000 ∧ lettered 4 x = false) ∨ NotStr K (less cs H) v) ∧ Tells E Cw v (less cs H)) ∨ ((∃ x : Str, v = .str x ∧ x.length ≤ 1000 ∧ lettered 4 x = true) ∧ NotExp K CE (less cs H) u ∧ Tells E Ce u (less cs H))) :
    Makes (kc "turn") (spTurn K CF CE Cw Ce cls) [v, u] cs H Q E := by
  intro x dx hx hdx ne
  have g := born (C := kc "turn") hx hdx ne
  refine ⟨x, dx, kc "turn", v, u, rfl, T.own "turn" (by simp), upd_same, ?_⟩
  rcases h with ⟨i, e, rfl, h1, h9, rfl, ar, q⟩ | ⟨bad, tl⟩ | ⟨ok, bad, tl⟩
  · exact .inl ⟨i, e, rfl, h1, h9, rfl, ar.same g, made_text hx hdx ne q⟩
  · exact .inr (.inl ⟨bad.imp id fun b => notStr_same b g, tells_born hx hdx ne tl⟩)
  · exact .inr (.inr ⟨ok, notExp_same bad g, tells_born hx hdx ne tl⟩)
theorem out_lead (T : NCtors P w K mg base CF CE Cn Cs Cm Cw Ce kc cls) {cs : List Addr} {H : Hp} {Q : VK} {E : XK} {v u : V}
    (h : (∃ (e e2 : Told), v = .ref e.at_ ∧ u = .ref e2.at_ ∧ Arg CF cls (less cs H) e ∧ Arg CF cls (less cs H) e2 ∧ ∀ z H', Same H H' → TextAt CF cls H' z (spell "lead" [e.text, e2.text]) → Q z H') ∨
      (NotExp K CE (less cs H) v ∧ Tells E Ce v (less cs H)) ∨ (IsExp K CE (less cs H) v ∧ NotExp K CE (less cs H) u ∧ Tells E Ce u (less cs H))) :
    Makes (kc "lead") (spLead K CF CE Ce cls) [v, u] cs H Q E := by
  intro x dx hx hdx ne
  have g := born (C := kc "lead") hx hdx ne
  refine ⟨x, dx, kc "lead", v, u, rfl, T.own "lead" (by simp), upd_same, ?_⟩
  rcases h with ⟨e, e2, rfl, rfl, ar, ar2, q⟩ | ⟨bad, tl⟩ | ⟨ok, bad, tl⟩
  · exact .inl ⟨e, e2, rfl, rfl, ar.same g, ar2.same g, made_text hx hdx ne q⟩
  · exact .inr (.inl ⟨notExp_same bad g, tells_born hx hdx ne tl⟩)
  · exact .inr (.inr ⟨IsExp.keep ok g, notExp_same bad g, tells_born hx hdx ne tl⟩)
theorem out_part (T : NCtors P w K mg base CF CE Cn Cs Cm Cw Ce kc cls) {cs : List Addr} {H : Hp} {Q : VK} {E : XK} {v b u : V}
    (h : (∃ (i k : Int) (e : Told), v = .int i ∧ 0 ≤ i ∧ i ≤ 3 ∧ b = .int k ∧ lo i ≤ k ∧ k ≤ 4 ∧ u = .ref e.at_ ∧ Arg CF cls (less cs H) e ∧ ∀ z H', Same H H' → TextAt CF cls H' z (spell "part" [toString i, toString k, e.text]) → Q z H') ∨
      (((∃ i : Int, v = .int i ∧ ¬ (0 ≤ i ∧ i ≤ 3)) ∨ NotInt K (less cs H) v) ∧ Tells E Cn v (less cs H)) ∨
      (∃ i : Int, v = .int i ∧ 0 ≤ i ∧ i ≤ 3 ∧ ((∃ k : Int, b = .int k ∧ ¬ (lo i ≤ k ∧ k ≤ 4)) ∨ NotInt K (less cs H) b) ∧ Tells E Cn b (less cs H)) ∨
      (∃ i k : Int, v = .int i ∧ 0 ≤ i ∧ i ≤ 3 ∧ b = .int k ∧ lo i ≤ k ∧ k ≤ 4 ∧ NotExp K CE (less cs H) u ∧ Tells E Ce u (less cs H))) :
    Makes (kc "part") (spPart K CF CE Cn Ce cls) [v, b, u] cs H Q E := by
  intro x dx hx hdx ne
  have g := born (C := kc "part") hx hdx ne
  refine ⟨x, dx, kc "part", v, b, u, rfl, T.own "part" (by simp), upd_same, ?_⟩
  rcases h with ⟨i, k, e, rfl, h0, h3, rfl, k0, k4, rfl, ar, q⟩ | ⟨bad, tl⟩ | ⟨i, rfl, h0, h3, bad, tl⟩ | ⟨i, k, rfl, h0, h3, rfl, k0, k4, bad, tl⟩
  · exact .inl ⟨i, k, e, rfl, h0, h3, rfl, k0, k4, rfl, ar.same g, made_text hx hdx ne q⟩
  · exact .inr (.inl ⟨bad.imp id fun b => notInt_same b g, tells_born hx hdx ne tl⟩)
  · exact .inr (.inr (.inl ⟨i, rfl, h0, h3, bad.imp id fun b => notInt_same b g, tells_born hx hdx ne tl⟩))
  · exact .inr (.inr (.inr ⟨i, k, rfl, h0, h3, rfl, k0, k4, notExp_same bad g, tells_born hx hdx ne tl⟩))
theorem out_name (T : NCtors P w K mg base CF CE Cn Cs Cm Cw Ce kc cls) {cs : List Addr} {H : Hp} {Q : VK} {E : XK} {v : V}
    (h : (∃ x : Str, v = .str x ∧ x.length ≤ 1000 ∧ nameB x = true ∧ ∀ u H', Same H H' → TextAt CF cls H' u x → Q u H') ∨ (((∃ x : Str, v = .str x ∧ x.length ≤ 1000 ∧ nameB x = false) ∨ NotStr K (less cs H) v) ∧ Tells E Cm v (less cs H))) :
    Makes (kc "name") (spLeaf K CF cls nameB Cm "name" (fun x => x) fun x => [x]) [v] cs H Q E := by
  intro x dx hx hdx ne
  have g := born (C := kc "name") hx hdx ne
  refine ⟨x, dx, kc "name", v, rfl, T.own "name" (by simp), upd_same, ?_⟩
  rcases h with ⟨y, rfl, l1, l2, q⟩ | ⟨bad, tl⟩
  · exact .inl ⟨y, rfl, l1, l2, fun H1 b xp => ⟨rfl, fun free => q _ _ (same_back (grown hx hdx ne b)) ⟨x, _, _, _, _, _, _, rfl, XpAt.back xp free⟩⟩⟩
  · exact .inr ⟨bad.imp id fun b => notStr_same b g, tells_born hx hdx ne tl⟩
end
end Wp

namespace Wp
open PySem PySem.Spec PyProof.Rows L2 Hx LamR
/-! what the odd values are not -/
theorem fit_small {H : Hp} {v : V} {d : PyData} (h : Dq H v d) (f : (d.showable && (decide (d.depth ≤ 20) && (decide (d.shown.length ≤ 1000) && PyData.strOk d.shown))) = true) : Fit H v d := by
  obtain ⟨h1, h2⟩ := Bool.and_eq_true_iff.mp f
  obtain ⟨h2, h3⟩ := Bool.and_eq_true_iff.mp h2
  obtain ⟨h3, h4⟩ := Bool.and_eq_true_iff.mp h3
  exact ⟨h, h1, of_decide_eq_true h2, small_line (of_decide_eq_true h3), h4⟩
theorem odd_fit {H : Hp} {v : V} (h : OddAt H v) : ∃ d, Fit H v d := by
  have fi : ∀ i ∈ oddInts, ((PyData.int i).showable && (decide ((PyData.int i).depth ≤ 20) && (decide ((PyData.int i).shown.length ≤ 1000) && PyData.strOk (PyData.int i).shown))) = true := by decide +kernel
  have fs : ∀ x ∈ oddTexts, ((PyData.str x).showable && (decide ((PyData.str x).depth ≤ 20) && (decide ((PyData.str x).shown.length ≤ 1000) && PyData.strOk (PyData.str x).shown))) = true := by decide +kernel
  cases h with
  | non => exact ⟨_, fit_small .non (by decide +kernel)⟩
  | bl b => exact ⟨_, fit_small (.bl b) (by cases b <;> decide +kernel)⟩
  | int h => exact ⟨_, fit_small (.int _) (fi _ h)⟩
  | str h => exact ⟨_, fit_small (.str _) (fs _ h)⟩
  | tup0 h => exact ⟨_, fit_small (.tup h .nil) (by decide +kernel)⟩
  | lst1 h => exact ⟨_, fit_small (.lst h (.cons (.str "x") .nil)) (by decide +kernel)⟩
  | dct0 h => exact ⟨_, fit_small (.dct h .nil) (by decide +kernel)⟩
  | tup1 h => exact ⟨_, fit_small (.tup h (.cons (.str "a") .nil)) (by decide +kernel)⟩
/-- the type of an odd value -/
theorem odd_ty {K : PySem.W.Frag} {H : Hp} {v : V} (h : OddAt H v) : (∃ i, v = .int i ∧ i ∈ oddInts) ∨ (∃ x, v = .str x ∧ x ∈ oddTexts) ∨ ∃ T ∈ (["NoneType", "bool", "list", "tuple", "dict"] : List String), TyX K H v (.type T) := by
  cases h with
  | non => exact .inr (.inr ⟨"NoneType", by simp, .base .non⟩)
  | bl b => exact .inr (.inr ⟨"bool", by simp, .base (.bl b)⟩)
  | int h => exact .inl ⟨_, rfl, h⟩
  | str h => exact .inr (.inl ⟨_, rfl, h⟩)
  | tup0 h => exact .inr (.inr ⟨"tuple", by simp, .base (.tup h)⟩)
  | lst1 h => exact .inr (.inr ⟨"list", by simp, .base (.lst h)⟩)
  | dct0 h => exact .inr (.inr ⟨"dict", by simp, .base (.dK h)⟩)
  | tup1 h => exact .inr (.inr ⟨"tuple", by simp, .base (.tup h)⟩)
section
variable {K : PySem.W.Frag} {H : Hp} {v : V} {CE : Addr}
theorem odd_notExp (nt : ∀ T ∈ (["NoneType", "bool", "int", "str", "list", "tuple", "dict"] : List String), PySem.W.kitOne K (.type T) (.ref CE) = some false) (h : OddAt H v) : NotExp K CE H v := by
  rcases odd_ty (K := K) h with ⟨i, rfl, _⟩ | ⟨x, rfl, _⟩ | ⟨T, hT, ty⟩
  · exact ⟨_, .base (.int i), nt "int" (by simp)⟩
  · exact ⟨_, .base (.str x), nt "str" (by simp)⟩
  · refine ⟨_, ty, nt T ?_⟩
    simp only [List.mem_cons, List.not_mem_nil, or_false] at hT ⊢
    rcases hT with rfl | rfl | rfl | rfl | rfl <;> simp
theorem odd_text (g : Str → Bool) (n : ∀ x ∈ oddTexts, x.length ≤ 1000 ∧ g x = false) (h : OddAt H v) : (∃ x : Str, v = .str x ∧ x.length ≤ 1000 ∧ g x = false) ∨ NotStr K H v := by
  rcases odd_ty (K := K) h with ⟨i, rfl, _⟩ | ⟨x, rfl, hx⟩ | ⟨T, hT, ty⟩
  · exact .inr ⟨_, .base (.int i), kit_ty (by decide +kernel)⟩
  · exact .inl ⟨x, rfl, (n x hx).1, (n x hx).2⟩
  · refine .inr ⟨_, ty, ?_⟩
    simp only [List.mem_cons, List.not_mem_nil, or_false] at hT
    rcases hT with rfl | rfl | rfl | rfl | rfl <;> exact kit_ty (by decide +kernel)
theorem odd_sign (h : OddAt H v) : (∃ x : Str, v = .str x ∧ x.length ≤ 1000 ∧ lettered 1 x = false) ∨ NotStr K H v := odd_text _ (by decide +kernel) h
theorem odd_word (h : OddAt H v) : (∃ x : Str, v = .str x ∧ x.length ≤ 1000 ∧ lettered 4 x = false) ∨ NotStr K H v := odd_text _ (by decide +kernel) h
theorem odd_name (h : OddAt H v) : (∃ x : Str, v = .str x ∧ x.length ≤ 1000 ∧ nameB x = false) ∨ NotStr K H v := odd_text _ (by decide +kernel) h
theorem odd_int (p : Int → Prop) (n : ∀ i ∈ oddInts, p i) (h : OddAt H v) : (∃ i : Int, v = .int i ∧ p i) ∨ NotInt K H v := by
  rcases odd_ty (K := K) h with ⟨i, rfl, hi⟩ | ⟨x, rfl, _⟩ | ⟨T, hT, ty⟩
  · exact .inl ⟨i, rfl, n i hi⟩
  · exact .inr ⟨_, false, false, .base (.str x), kit_ty (by decide +kernel), kit_ty (by decide +kernel), rfl⟩
  · simp only [List.mem_cons, List.not_mem_nil, or_false] at hT
    rcases hT with rfl | rfl | rfl | rfl | rfl
    · exact .inr ⟨_, false, false, ty, kit_ty (by decide +kernel), kit_ty (by decide +kernel), rfl⟩
    · exact .inr ⟨_, true, true, ty, kit_ty (by decide +kernel), kit_ty (by decide +kernel), rfl⟩
    · exact .inr ⟨_, false, false, ty, kit_ty (by decide +kernel), kit_ty (by decide +kernel), rfl⟩
    · exact .inr ⟨_, false, false, ty, kit_ty (by decide +kernel), kit_ty (by decide +kernel), rfl⟩
    · exact .inr ⟨_, false, false, ty, kit_ty (by decide +kernel), kit_ty (by decide +kernel), rfl⟩
theorem odd_at (h : OddAt H v) : (∃ i : Int, v = .int i ∧ ¬ (0 ≤ i ∧ i ≤ 3)) ∨ NotInt K H v := odd_int _ (by decide +kernel) h
theorem odd_base (h : OddAt H v) (j : Int) : (∃ k : Int, v = .int k ∧ ¬ (lo j ≤ k ∧ k ≤ 4)) ∨ NotInt K H v := odd_int _ (fun i hi => by
  have q : ∀ i ∈ oddInts, i < 2 ∨ 4 < i := by decide +kernel
  have l : 2 ≤ lo j := by unfold lo; split <;> omega
  have := q i hi
  omega) h
theorem odd_many (h : OddAt H v) (n : v ≠ .int 5) : (∃ i : Int, v = .int i ∧ ¬ (1 ≤ i ∧ i ≤ 9)) ∨ NotInt K H v := by
  rcases odd_int (K := K) (fun i => i = 5 ∨ ¬ (1 ≤ i ∧ i ≤ 9)) (by decide +kernel) h with ⟨i, rfl, rfl | q⟩ | q
  · exact absurd rfl n
  · exact .inl ⟨i, rfl, q⟩
  · exact .inr q
end
end Wp

/-! a dict beside an int -/
namespace PySem.SeqAt
open AutoSeq1 (wpAny_loadPart')
open MeetsSeq
theorem dict_eq_declines_int (l : Addr) (es : Array DictEntry) (n : Nat) (dd : Option Addr) (sl : Array (Option Value)) (b : Int) (u : Tok) :
    Meets (Builtin.«dict.__eq__» ⟨[.ref l, .int b u], []⟩) (fun _ R s => s.heap.get? l = some { cls := .type "dict", dict := dd, data := .dict es n, slots := sl } ∧ R (.ok (.ret .notImplemented)) s) :=
  .of_wp fun prog w A R s h => by obtain ⟨hp, g, d, tk, os⟩ := s; obtain ⟨hl, h⟩ := h; have f1 := F.sub_int_dict; wp_walk using wpAny_loadPart' hl, wpAny_load hl; exact ⟨_, rfl, h⟩
theorem int_eq_declines_dict (b : Int) (u : Tok) (l : Addr) (c : Value) (es : Array DictEntry) (n : Nat) (dd : Option Addr) (sl : Array (Option Value)) :
    Meets (Builtin.«int.__eq__» ⟨[.int b u, .ref l], []⟩) (fun _ R s => s.heap.get? l = some { cls := c, dict := dd, data := .dict es n, slots := sl } ∧ R (.ok (.ret .notImplemented)) s) :=
  .of_wp fun prog w A R s h => by obtain ⟨hp, g, d, tk, os⟩ := s; obtain ⟨hl, h⟩ := h; wp_walk using wpAny_loadPart' hl, wpAny_load hl; exact ⟨_, rfl, h⟩
section
variable {A : Around} {s : Shared}
theorem RcAt.dict_int {l : Addr} {es : Array DictEntry} {n : Nat} {o : Obj} (b : Int) (u : Tok) (ho : s.heap.get? l = some o) (hc : o.cls = .type "dict") (hd : o.data = .dict es n) (hu : A.units < cLine) : RcAt A s (.ref l) (.int b u) false := fun prog w E Q h => by
  obtain ⟨cls, dd, data, sl⟩ := o
  simp only at hc hd
  subst hc hd
  exact rc_eq_decline_or (k := false) ⟨_, ho, rfl⟩ (typeIs_int s b u) (by decide) F.sub_int_dict F.slot_dict_eq F.slot_int_eq_refl
    (fun _ hq => call_meets F.slot_dict_eq ⟨_, ho, rfl⟩ F.entry_dict_eq (F.args_dict_eq_2 _ _) (dict_eq_declines_int l es n dd sl b u) ⟨ho, hq⟩)
    (fun _ hq => call_meets F.slot_int_eq_refl (typeIs_int s b u) F.entry_int_eq (F.args_int_eq_2 _ _) (int_eq_declines_dict b u l (.type "dict") es n dd sl) ⟨ho, hq⟩)
    (fun _ hq => wpAny_of_eq (rfl : isSame (.ref l) (.int b u) = pure false) hq) (.inr hu) h
end
end PySem.SeqAt
namespace Hx
open PySem PySem.Spec PyProof.Rows L2
section
variable {X : Cx}
/-- data or a dict, beside an int -/
def rEqI : R2 := fun x y H Q => ∃ i : Int, y = .int i ∧ ((∃ d, Dq H x d ∧ SeqAt.shaped d = true ∧ Q (.bl (PyData.eqv d (.int i))) H) ∨ (∃ es, Dq H x (.dict es) ∧ Q (.bl false) H))
theorem op_eqI (hu : X.A.units + 64 < cLine) : OpR X (compareOp .Eq) rEqI := by
  intro pins s σ H x y v u Q I rx ry h
  obtain ⟨i, rfl, ⟨d, hd, sd, q⟩ | ⟨es, hd, q⟩⟩ := h
  · obtain ⟨as, r1, _⟩ := Dq.reads I d x v hd rx
    obtain ⟨t, rfl⟩ := ry
    exact SeqAt.compareEq_shaped r1 (Reads.int i t) sd (by
      show (decide ((PyData.int i).depth ≤ 64)) = true
      exact decide_eq_true (by show 0 ≤ 64; omega)) hu ⟨.bl _, H, I, rfl, q⟩
  · obtain ⟨as, r1, _⟩ := Dq.reads I _ x v hd rx
    obtain ⟨t, rfl⟩ := ry
    cases r1 with
    | dict ho hc hdt _ _ => exact SeqAt.RcAt.dict_int i t ho hc hdt (by omega) X.prog X.w _ _ ⟨.bl _, H, I, rfl, q⟩
end
end Hx

namespace Wp
open PySem PySem.Spec PyProof.Rows L2 LamX Hx LamR
/-! what stays beside the deck and the tables; what the three makers promise -/
def KpT (d : Addr) (H H' : Hp) : Prop := ∀ b o, b ≠ d → (∀ ps, o ≠ .tbl ps) → H b = some o → H' b = some o
theorem KpT.refl {d : Addr} {H : Hp} : KpT d H H := fun _ _ _ _ h => h
theorem KpT.trans {d : Addr} {H H1 H2 : Hp} (a : KpT d H H1) (b : KpT d H1 H2) : KpT d H H2 := fun c o n t h => b c o n t (a c o n t h)
theorem KpT.but {d : Addr} {H H' : Hp} (b : But d H H') : KpT d H H' := fun c o n _ h => b c o n h
theorem KpT.same {d : Addr} {H H' : Hp} (s : Same H H') : KpT d H H' := fun c o _ _ h => s c o h
theorem KpT.ext {d : Addr} {H H' : Hp} (e : ExtN H H') : KpT d H H' := fun c o _ t h => e c o h t
theorem DeckAt.extN {H H' : Hp} {d : Addr} (h : DeckAt H d) (e : ExtN H H') : DeckAt H' d := by
  obtain ⟨x, y, z, e1, e2, e3⟩ := h
  exact ⟨x, y, z, e1, e2, e _ _ e3 (fun ps z => by cases z)⟩
theorem OddAt.kp {H H' : Hp} {v : V} {d : Addr} (h : OddAt H v) (hd : DeckAt H d) (b : KpT d H H') : OddAt H' v := by
  cases h with
  | non => exact .non
  | bl b => exact .bl b
  | int h => exact .int h
  | str h => exact .str h
  | tup0 h => exact .tup0 (b _ _ (deck_not hd h fun _ _ _ z => nomatch z) (fun _ z => nomatch z) h)
  | lst1 h => exact .lst1 (b _ _ (deck_not hd h fun _ _ _ z => by cases z) (fun _ z => nomatch z) h)
  | dct0 h => exact .dct0 (b _ _ (deck_not hd h fun _ _ _ z => nomatch z) (fun _ z => nomatch z) h)
  | tup1 h => exact .tup1 (b _ _ (deck_not hd h fun _ _ _ z => nomatch z) (fun _ z => nomatch z) h)
section
variable {CF : Addr} {cls : Addr → Prop} {H H' : Hp} {d : Addr}
theorem XpAt.kp {a C : Addr} {kind text : Str} {told inner : List V} {labels : List Str} {size : Int} (h : XpAt CF cls H a C kind text told inner labels size) (hd : DeckAt H d) (b : KpT d H H') : XpAt CF cls H' a C kind text told inner labels size := by
  obtain ⟨dx, fa, dfa, pm, pi, pl, h0, h1, h2, h3, h4, h5⟩ := h
  have ne : ∀ {p : Addr} {o : HO}, H p = some o → (∀ a m c : Int, o ≠ .lst [.int a, .int m, .int c]) → p ≠ d := fun e n => deck_not hd e n
  exact ⟨dx, fa, dfa, pm, pi, pl, h0, b _ _ (ne h1 fun _ _ _ z => nomatch z) (fun _ z => nomatch z) h1, b _ _ (ne h2 fun _ _ _ z => nomatch z) (fun _ z => nomatch z) h2, b _ _ (ne h3 fun _ _ _ z => nomatch z) (fun _ z => nomatch z) h3, b _ _ (ne h4 fun _ _ _ z => nomatch z) (fun _ z => nomatch z) h4, b _ _ (ne h5 fun _ _ _ z => nomatch z) (fun _ z => nomatch z) h5⟩
theorem Kid.kp {e : Told} (h : Kid CF cls H e) (hd : DeckAt H d) (b : KpT d H H') : Kid CF cls H' e := ⟨⟨XpAt.kp h.arg.stands hd b, h.arg.few, h.arg.short⟩, h.short⟩
/-- an inner value, with its text where it is right -/
def KidIs (CF : Addr) (cls : Addr → Prop) (H : Hp) (v : V) (r : Bool) (x : Str) : Prop := (r = true ∧ ∃ e : Told, v = .ref e.at_ ∧ Kid CF cls H e ∧ e.text = x) ∨ (r = false ∧ OddAt H v)
theorem KidAt.is {v : V} {r : Bool} (h : KidAt CF cls H v r) : ∃ x, KidIs CF cls H v r x := by
  rcases h with ⟨a, e, b, k⟩ | ⟨a, o⟩
  · exact ⟨_, .inl ⟨a, e, b, k, rfl⟩⟩
  · exact ⟨"", .inr ⟨a, o⟩⟩
theorem KidIs.kp {v : V} {r : Bool} {x : Str} (h : KidIs CF cls H v r x) (hd : DeckAt H d) (b : KpT d H H') : KidIs CF cls H' v r x := h.imp (fun ⟨a, e, c, k, t⟩ => ⟨a, e, c, k.kp hd b, t⟩) fun ⟨a, o⟩ => ⟨a, o.kp hd b⟩
theorem KidIs.same {v : V} {r : Bool} {x : Str} (h : KidIs CF cls H v r x) (s : Same H H') : KidIs CF cls H' v r x := h.imp (fun ⟨a, e, c, k, t⟩ => ⟨a, e, c, k.same s, t⟩) fun ⟨a, o⟩ => ⟨a, o.same s⟩
/-- a value of the menu xs, or an odd one -/
def ThingIs (xs : List V) (H : Hp) (v : V) (r : Bool) : Prop := (r = true ∧ v ∈ xs) ∨ (r = false ∧ OddAt H v)
theorem ThingIs.kp {xs : List V} {v : V} {r : Bool} (h : ThingIs xs H v r) (hd : DeckAt H d) (b : KpT d H H') : ThingIs xs H' v r := h.imp id fun ⟨a, o⟩ => ⟨a, o.kp hd b⟩
theorem ThingIs.same {xs : List V} {v : V} {r : Bool} (h : ThingIs xs H v r) (s : Same H H') : ThingIs xs H' v r := h.imp id fun ⟨a, o⟩ => ⟨a, o.same s⟩
theorem tabs_but {T : List (Addr × Str)} (t : Tabs T H) (hd : DeckAt H d) (b : But d H H') : Tabs T H' := fun p hp => by
  obtain ⟨ps, a1, a2, a3⟩ := t p hp
  refine ⟨ps, b _ _ (deck_not hd a1 fun _ _ _ z => nomatch z) a1, a2, fun pos cv e => ?_⟩
  obtain ⟨c, e1, e2⟩ := a3 pos cv e
  refine ⟨c, e1, b _ _ (deck_not hd e2 fun _ _ _ z => ?_) e2⟩
  unfold CodeO at z
  cases z
theorem lot_kp {u : V} {t : Lot} (h : LotAt H u t) (hd : DeckAt H d) (b : KpT d H H') : LotAt H' u t := by
  obtain ⟨p, e, h⟩ := h
  exact ⟨p, e, b _ _ (deck_not hd h fun _ _ _ z => nomatch z) (fun _ z => nomatch z) h⟩
end
section
variable {P : Program} {w : World} {K : PySem.W.Frag} {mg : Str → Option Value} {base : Heap} {CF : Addr} {cls : Addr → Prop}
/-- str(v), v with its text where it is right -/
def Shows (P : Program) (w : World) (K : PySem.W.Frag) (mg : Str → Option Value) (base : Heap) (H : Hp) (v : V) (r : Bool) (x : Str) : Prop := ∃ y : Str, (r = true → y = x) ∧ y.length ≤ 1000 ∧ ∀ Q : VK, Q (.str y) H → rStrA P w K mg base 1 [v] H Q
theorem odd_fitL {H : Hp} {v : V} (h : OddAt H v) : ∃ d, Fit H v d ∧ (strText d).length ≤ 1000 ∧ ∀ i, v = .int i → strText d = toString i := by
  have fi : ∀ i ∈ oddInts, ((PyData.int i).showable && (decide ((PyData.int i).depth ≤ 20) && (decide ((PyData.int i).shown.length ≤ 1000) && PyData.strOk (PyData.int i).shown))) = true := by decide +kernel
  have fs : ∀ x ∈ oddTexts, ((PyData.str x).showable && (decide ((PyData.str x).depth ≤ 20) && (decide ((PyData.str x).shown.length ≤ 1000) && PyData.strOk (PyData.str x).shown))) = true := by decide +kernel
  have gi : ∀ i ∈ oddInts, (strText (.int i)).length ≤ 1000 := by decide +kernel
  have gs : ∀ x ∈ oddTexts, (strText (.str x)).length ≤ 1000 := by decide +kernel
  cases h with
  | non => exact ⟨_, fit_small .non (by decide +kernel), by decide +kernel, fun _ z => nomatch z⟩
  | bl b => exact ⟨_, fit_small (.bl b) (by cases b <;> decide +kernel), by cases b <;> decide +kernel, fun _ z => nomatch z⟩
  | int h => exact ⟨_, fit_small (.int _) (fi _ h), gi _ h, fun _ z => by cases z; rfl⟩
  | str h => exact ⟨_, fit_small (.str _) (fs _ h), gs _ h, fun _ z => nomatch z⟩
  | tup0 h => exact ⟨_, fit_small (.tup h .nil) (by decide +kernel), by decide +kernel, fun _ z => nomatch z⟩
  | lst1 h => exact ⟨_, fit_small (.lst h (.cons (.str "x") .nil)) (by decide +kernel), by decide +kernel, fun _ z => nomatch z⟩
  | dct0 h => exact ⟨_, fit_small (.dct h .nil) (by decide +kernel), by decide +kernel, fun _ z => nomatch z⟩
  | tup1 h => exact ⟨_, fit_small (.tup h (.cons (.str "a") .nil)) (by decide +kernel), by decide +kernel, fun _ z => nomatch z⟩
theorem odd_shows {H : Hp} {v : V} (h : OddAt H v) : ∃ y : Str, (∀ i, v = .int i → y = toString i) ∧ y.length ≤ 1000 ∧ ∀ Q : VK, Q (.str y) H → rStrA P w K mg base 1 [v] H Q := by
  obtain ⟨d, f, l, n⟩ := odd_fitL h
  exact ⟨strText d, n, l, fun Q q => .inl ⟨v, d, rfl, f.dq, f.show_, f.dep, f.len, q⟩⟩
/-- an odd value beside 5 -/
theorem odd_five {H : Hp} {v : V} (h : OddAt H v) (Q : VK) (q : Q (.bl (decide (v = .int 5))) H) : rEqI v (.int 5) H Q := by
  have fi : ∀ i ∈ oddInts, SeqAt.shaped (.int i) = true ∧ PyData.eqv (.int i) (.int 5) = decide (V.int i = .int 5) := by decide +kernel
  have fs : ∀ x ∈ oddTexts, SeqAt.shaped (.str x) = true ∧ PyData.eqv (.str x) (.int 5) = false := by decide +kernel
  refine ⟨5, rfl, ?_⟩
  cases h with
  | non => exact .inl ⟨_, .non, by decide +kernel, q⟩
  | bl b => exact .inl ⟨_, .bl b, by cases b <;> decide +kernel, by cases b <;> exact q⟩
  | int h => exact .inl ⟨_, .int _, (fi _ h).1, by rw [(fi _ h).2]; exact q⟩
  | str h => exact .inl ⟨_, .str _, (fs _ h).1, by rw [(fs _ h).2]; exact q⟩
  | tup0 h => exact .inl ⟨_, .tup h .nil, by decide +kernel, q⟩
  | lst1 h => exact .inl ⟨_, .lst h (.cons (.str "x") .nil), by decide +kernel, q⟩
  | dct0 h => exact .inr ⟨_, .dct h .nil, q⟩
  | tup1 h => exact .inl ⟨_, .tup h (.cons (.str "a") .nil), by decide +kernel, q⟩
theorem int_five {H : Hp} {i : Int} (h : i.natAbs.log2 < 1920) (Q : VK) (q : Q (.bl (decide (V.int i = .int 5))) H) : rEqI (.int i) (.int 5) H Q :=
  ⟨5, rfl, .inl ⟨_, .int i, by
    show (true && decide ((PyData.int i).depth ≤ 64)) = true
    rw [Bool.true_and]
    exact decide_eq_true (by show 0 ≤ 64; omega), by
    show Q (.bl (i == 5)) H
    rw [← dec_int]
    exact q⟩⟩
theorem kid_shows (KL : Kls P w K mg base CF cls) {H : Hp} {v : V} {r : Bool} {x : Str} (h : KidIs CF cls H v r x) : Shows P w K mg base H v r x := by
  rcases h with ⟨rfl, e, rfl, k, rfl⟩ | ⟨rfl, o⟩
  · refine ⟨e.text, fun _ => rfl, Nat.le_trans k.short (by decide), fun Q q => ?_⟩
    obtain ⟨dx, fa, dfa, pm, pi, pl, hC, h1, h2, h3, h4, h5⟩ := k.arg.stands
    exact .inr ⟨_, rfl, .inr (.inr ⟨e.at_, e.own, dx, _, spStr e.own CF, rfl, h1, KL.str e.own hC, ⟨e.at_, dx, fa, dfa, _, _, e.text, rfl, h1, rfl, h2, rfl, ⟨e.text, rfl, q⟩⟩⟩)⟩
  · obtain ⟨y, _, l, q⟩ := odd_shows (P := P) (w := w) (K := K) (mg := mg) (base := base) o
    exact ⟨y, (fun z => nomatch z), l, q⟩
def textOf : V → Str
  | .str y => y
  | .int i => toString i
  | _ => ""
def plainV : V → Bool
  | .str y => decide (y.length ≤ 1000)
  | .int i => decide (i.natAbs.log2 < 1920) && decide ((toString i : Str).length ≤ 1000)
  | _ => false
def isInt : V → Bool
  | .int _ => true
  | _ => false
theorem thing_shows {xs : List V} (hx : ∀ v ∈ xs, plainV v = true) {H : Hp} {v : V} {r : Bool} (h : ThingIs xs H v r) : Shows P w K mg base H v (r || isInt v) (textOf v) := by
  rcases h with ⟨rfl, hv⟩ | ⟨rfl, o⟩
  · have p := hx v hv
    cases v with
    | str y => exact ⟨y, fun _ => rfl, of_decide_eq_true p, fun Q q => .inr ⟨_, rfl, .inr (.inl ⟨y, rfl, q⟩)⟩⟩
    | int i => exact ⟨toString i, fun _ => rfl, of_decide_eq_true (Bool.and_eq_true_iff.mp p).2, fun Q q => .inr ⟨_, rfl, .inl ⟨i, rfl, of_decide_eq_true (Bool.and_eq_true_iff.mp p).1, q⟩⟩⟩
    | _ => cases p
  · obtain ⟨y, n, l, q⟩ := odd_shows (P := P) (w := w) (K := K) (mg := mg) (base := base) o
    refine ⟨y, fun z => ?_, l, q⟩
    cases v with
    | int i => exact n i rfl
    | _ => cases z
end
def lscB (fr : List Str) (sc : Scope) : Bool :=
  decide (sc.kind = .function) && (!sc.isCoroutine && (!sc.isGenerator && (sc.names.all (fun y => !decide (y.2 = .local) && (!decide (y.2 = .cell) && (!decide (y.2 = .free) || fr.contains y.1))) && fr.all fun y => decide (sc.names.lookup y = some .free))))
theorem lsc_by {fr : List Str} {sc : Scope} (h : lscB fr sc = true) : LScope fr sc := by
  unfold lscB at h
  obtain ⟨h1, h⟩ := Bool.and_eq_true_iff.mp h
  obtain ⟨h2, h⟩ := Bool.and_eq_true_iff.mp h
  obtain ⟨h3, h⟩ := Bool.and_eq_true_iff.mp h
  obtain ⟨h4, h5⟩ := Bool.and_eq_true_iff.mp h
  simp only [Bool.not_eq_true'] at h2 h3
  have q : ∀ y ∈ sc.names, y.2 ≠ .local ∧ y.2 ≠ .cell ∧ (y.2 = .free → y.1 ∈ fr) := fun y hy => by
    have z := List.all_eq_true.mp h4 y hy
    obtain ⟨z1, z⟩ := Bool.and_eq_true_iff.mp z
    obtain ⟨z2, z3⟩ := Bool.and_eq_true_iff.mp z
    refine ⟨(fun e => by rw [decide_eq_true e] at z1; cases z1), (fun e => by rw [decide_eq_true e] at z2; cases z2), fun e => ?_⟩
    rw [decide_eq_true e] at z3
    exact List.contains_iff_mem.mp z3
  exact ⟨of_decide_eq_true h1, h2, h3, fun y hy => ⟨(q y hy).1, (q y hy).2.1⟩, fun y hy => (q y hy).2.2, fun y hy => of_decide_eq_true (List.all_eq_true.mp h5 y hy)⟩
theorem thing_fit {xs : List V} (hx : ∀ v ∈ xs, ∀ H : Hp, ∃ d, Fit H v d) {H : Hp} {v : V} {r : Bool} (h : ThingIs xs H v r) : ∃ d, Fit H v d := by
  rcases h with ⟨_, hv⟩ | ⟨_, o⟩
  · exact hx v hv H
  · exact odd_fit o
theorem or_five {xs : List V} (hx : ∀ v ∈ xs, ∃ i : Int, v = .int i ∧ i.natAbs.log2 < 1920) {H : Hp} {v : V} {r : Bool} (h : ThingIs xs H v r) {Q : VK} {σ : L2.St} {i : Nat} (hs : σ[i]? = some (some v)) (q : Q (.bl (r || decide (v = .int 5))) H) : if r = true then Q (.bl true) H else tOp rEqI (tVar i) (tC (.int 5)) σ H Q := by
  rcases h with ⟨rfl, _⟩ | ⟨rfl, o⟩
  · exact iteT q
  · exact iteF ⟨v, hs, odd_five o Q q⟩
theorem kid_fit {CF : Addr} {cls : Addr → Prop} {H : Hp} {v : V} {r : Bool} {x : Str} (h : KidIs CF cls H v r x) (hr : r = false) : ∃ d, Fit H v d := by
  rcases h with ⟨a, _⟩ | ⟨_, o⟩
  · rw [hr] at a
    cases a
  · exact odd_fit o
theorem odd_of {xs : List V} {H : Hp} {v : V} {r : Bool} (h : ThingIs xs H v r) (hr : r = false) : ∃ d, Fit H v d := by
  rcases h with ⟨a, _⟩ | ⟨_, o⟩
  · rw [hr] at a
    cases a
  · exact odd_fit o
/-! the promise of the makers -/
def OutIs (CF : Addr) (cls : Addr → Prop) (L : List (Str × Addr)) (cs : List Addr) (H1 : Hp) (line : Str) (Q : VK) (E : XK) : Option Lot → Prop
  | none => ∀ u H2, Same H1 H2 → TextAt CF cls H2 u line → Q u H2
  | some t => ∀ p ∈ L, p.1 = t.1 → Tells E p.2 t.2.1 (less cs H1)
def Mk3At (P : Program) (w : World) (K : PySem.W.Frag) (mg : Str → Option Value) (base : Heap) (CF : Addr) (cls : Addr → Prop) (L : List (Str × Addr)) (T : List (Addr × Str)) (H : Hp) (p : Addr) : Prop := ∃ (l f : Addr) (line : Str) (us : List V) (ls : List Lot) (F : LF) (R : Hp → VK → XK → Prop) (cs : List Addr),
  H p = some (.tup [.ref l, .ref f, .str line]) ∧ H l = some (.lst us) ∧ us.length ≤ 10 ∧ Paired (LotAt H) us ls ∧ (∀ t ∈ ls, t.2.2 = false → ∃ d, Fit H t.2.1 d) ∧ H f = some (LamO f F) ∧ Runs P w K mg base 9 f R ∧ (∀ c ∈ cs, ∃ v, H c = some (CellO c v)) ∧ Tabs T (less cs H) ∧
  ∀ H1 Q E, Same H H1 → OutIs CF cls L cs H1 line Q E (ls.find? fun t => !t.2.2) → R H1 Q E
def spMk3 (P : Program) (w : World) (K : PySem.W.Frag) (mg : Str → Option Value) (base : Heap) (CF : Addr) (cls : Addr → Prop) (L : List (Str × Addr)) (T : List (Addr × Str)) : Sp := fun vs H Q _ => ∃ d : Addr, vs = [.ref d] ∧ DeckAt H d ∧ Tabs T H ∧ ∀ p H', KpT d H H' → DeckAt H' d → Mk3At P w K mg base CF cls L T H' p → Q (.ref p) H'
section
variable {P : Program} {w : World} {K : PySem.W.Frag} {mg : Str → Option Value} {base : Heap} {CF : Addr} {cls : Addr → Prop} {LL : List (Str × Addr)} {T : List (Addr × Str)}
theorem mk3_of {X : Cx} {js : List Nat} {σ : L2.St} {H0 H2 : Hp} (L : Left X js σ H0 H2) {l f p c : Addr} {line : Str} {us ws : List V} {ls : List Lot} {qual : Str} {params : Arguments} {body : Expr} {scope : Scope} {fr : List Str} {tb : XK → TE}
    (hp : H0 p = some (.tup [.ref l, .ref f, .str line])) (hl : H0 l = some (.lst us)) (few : us.length ≤ 10) (pr : Paired (LotAt H0) us ls) (fit : ∀ t ∈ ls, t.2.2 = false → ∃ d, Fit H0 t.2.1 d)
    (hf : H0 f = some (LamO f ⟨qual, params, body, scope, cloFrom X.env.cells scope.names [], c⟩)) (hc : H0 c = some (CodeO c qual)) (tabs : Tabs T H0) (S : LScope fr scope)
    (at_ : List Nat) (hfr : fr = at_.filterMap fun j => X.N[j]?) (hjs : ∀ j ∈ at_, j ∈ js ∧ j < X.N.length) (hws : ws.map some = at_.map fun j => (σ[j]?).getD none)
    (run : Runs P w K mg base 9 f (RLam qual params body scope fr tb f))
    (out : ∀ (cs : List Addr) (H1 : Hp) (Q : VK) (E : XK), Same H0 (less cs H1) → OutIs CF cls LL cs H1 line Q E (ls.find? fun t => !t.2.2) → tb E (ws.map some) (less cs H1) fun v H' => (∀ x ∈ cs, H' x = none) → Q v (back cs H1 H')) :
    Mk3At P w K mg base CF cls LL T H2 p := by
  have C := cap_left (qual := qual) (params := params) (body := body) (c := c) L S.free S.frk at_ hfr hjs hws
  have hcl : ∀ y ∈ fr, (LF.mk qual params body scope (cloFrom X.env.cells scope.names []) c).cl.lookup y = some (cellOf X y) := fun y hy => by
    obtain ⟨c2, hc2⟩ := mem_lookup (cloFrom_has (cells := X.env.cells) (acc := []) (PySem.mem_of_lookup (S.frk y hy)))
    rcases cloFrom_mem (PySem.mem_of_lookup hc2) with hm | ⟨_, h2⟩
    · cases hm
    · show (cloFrom X.env.cells scope.names []).lookup y = _
      rw [hc2, h2] <;> rfl
  have sub : ∀ y ∈ fr, ∃ j ∈ js, X.N[j]? = some y := fun y hy => by
    rw [hfr] at hy
    obtain ⟨j, hj, e⟩ := List.mem_filterMap.mp hy
    exact ⟨j, (hjs j hj).1, e⟩
  have le := left_less L (F := ⟨qual, params, body, scope, cloFrom X.env.cells scope.names [], c⟩) sub hcl
  have s02 : Same H0 H2 := fun b o e => L.all b o e
  refine ⟨l, f, line, us, ls, _, _, LF.cs ⟨qual, params, body, scope, cloFrom X.env.cells scope.names [], c⟩ fr, s02 _ _ hp, s02 _ _ hl, few, Paired.mono (fun u t h => LotAt.same h s02) pr, fun t ht e => ?_, s02 _ _ hf, run, C.cells, Tabs.ext tabs le, fun H1 Q E s o => ?_⟩
  · obtain ⟨d, h⟩ := fit t ht e
    exact ⟨d, h.same s02⟩
  · have C1 : Cap H1 ⟨qual, params, body, scope, cloFrom X.env.cells scope.names [], c⟩ fr ws := ⟨C.len, fun i y v a b => by obtain ⟨c2, e1, e2⟩ := C.has i y v a b; exact ⟨c2, e1, s _ _ e2⟩, C.all, C.inj⟩
    refine ⟨_, c, ws, s _ _ (s02 _ _ hf), s _ _ (s02 _ _ hc), C1, out _ H1 Q E (fun b o e => ?_) o⟩
    have q := le b o e
    obtain ⟨n, e2⟩ := less_some q
    rw [less_out n]
    exact s _ _ e2
theorem shows_go {H : Hp} {v : V} {r : Bool} {x : Str} {Q : VK} (h : Shows P w K mg base H v r x) (q : ∀ y : Str, (r = true → y = x) → y.length ≤ 1000 → Q (.str y) H) : rStrA P w K mg base 1 [v] H Q := by
  obtain ⟨y, a, b, c⟩ := h
  exact c Q (q y a b)
/-- the end of a maker -/
theorem mk3_end {X : Cx} {js : List Nat} {σ : L2.St} {H H12 H13 H2 : Hp} {Q : VK} {d l fl p cc : Addr} {line : Str} {us ws : List V} {ls : List Lot} {qual : Str} {params : Arguments} {body : Expr} {scope : Scope} {fr : List Str} {tb : XK → TE}
    (q : ∀ p H', KpT d H H' → DeckAt H' d → Mk3At P w K mg base CF cls LL T H' p → Q (.ref p) H') (kp12 : KpT d H H12) (hd12 : DeckAt H12 d) (ext : ExtN H12 H13) (tabs : Tabs T H13) (nf : H13 fl = none) (hcc : H13 cc = some (CodeO cc qual))
    (np : upd H13 fl (LamO fl ⟨qual, params, body, scope, cloFrom X.env.cells scope.names [], cc⟩) p = none)
    (L : Left X js σ (upd (upd H13 fl (LamO fl ⟨qual, params, body, scope, cloFrom X.env.cells scope.names [], cc⟩)) p (.tup [.ref l, .ref fl, .str line])) H2)
    (hl : H12 l = some (.lst us)) (few : us.length ≤ 10) (pr : Paired (LotAt H12) us ls) (fit : ∀ H0, KpT d H12 H0 → ∀ t ∈ ls, t.2.2 = false → ∃ d, Fit H0 t.2.1 d) (S : LScope fr scope)
    (at_ : List Nat) (hfr : fr = at_.filterMap fun j => X.N[j]?) (hjs : ∀ j ∈ at_, j ∈ js ∧ j < X.N.length) (hws : ws.map some = at_.map fun j => (σ[j]?).getD none)
    (run : Runs P w K mg base 9 fl (RLam qual params body scope fr tb fl))
    (out : ∀ H0, KpT d H12 H0 → ∀ (cs : List Addr) (H1 : Hp) (Q : VK) (E : XK), Same H0 (less cs H1) → OutIs CF cls LL cs H1 line Q E (ls.find? fun t => !t.2.2) → tb E (ws.map some) (less cs H1) fun v H' => (∀ x ∈ cs, H' x = none) → Q v (back cs H1 H')) :
    Q (.ref p) H2 := by
  have s0 := (same_new nf (LamO fl ⟨qual, params, body, scope, cloFrom X.env.cells scope.names [], cc⟩)).trans (same_new np (.tup [.ref l, .ref fl, .str line]))
  have k0 : KpT d H12 _ := (KpT.ext ext).trans (KpT.same s0)
  have hd0 := DeckAt.same s0 (hd12.extN ext)
  refine q p H2 ((kp12.trans k0).trans (KpT.same fun b o e => L.all b o e)) (DeckAt.same (fun b o e => L.all b o e) hd0) ?_
  exact mk3_of L upd_same (s0 _ _ (ext _ _ hl (fun _ z => nomatch z))) few (Paired.mono (fun u t h => lot_kp h hd12 k0) pr) (fit _ k0) (upd_other upd_same np) (s0 _ _ hcc) (Tabs.ext tabs s0) S at_ hfr hjs hws run (out _ k0)
end
end Wp

namespace Wp
open PySem PySem.Spec PyProof.Rows L2 LamX Hx LamR
/-! what the lambdas of _law_small and _law_part come to -/
def tFst (K : PySem.W.Frag) (i : Nat) : TE := tOp (rIxT K) (tVar i) (tC (.int 0))
theorem quo_empty : (Str.empty ++ ("'" : Str)) = "'" := by decide +kernel
theorem spell2 (k x y : Str) : spell k [x, y] = (((k ++ "(") ++ x) ++ ", ") ++ y ++ ")" := by
  show (((Str.empty ++ k) ++ "(") ++ (x ++ ", " ++ y)) ++ ")" = _
  rw [Str.empty_append, Str.append_assoc x, ← Str.append_assoc (k ++ "(") x, Str.append_assoc ((k ++ "(") ++ x), Str.append_assoc ((k ++ "(") ++ x) ", " y] <;> simp only [Str.append_assoc]
theorem spell3 (k x y z : Str) : spell k [x, y, z] = (((((k ++ "(") ++ x) ++ ", ") ++ y) ++ ", ") ++ z ++ ")" := by
  show (((Str.empty ++ k) ++ "(") ++ (x ++ ", " ++ (y ++ ", " ++ z))) ++ ")" = _
  rw [Str.empty_append] <;> simp only [Str.append_assoc]
section
variable {P : Program} {w : World} {K : PySem.W.Frag} {mg : Str → Option Value} {base : Heap} {CF CE Cn Cs Cm Cw Ce : Addr} {kc : KCls} {cls : Addr → Prop} {H0 : Hp} {v : V} {r : Bool} {y : Str} {xs : List V}
abbrev Out (CF : Addr) (cls : Addr → Prop) (LL : List (Str × Addr)) (H0 : Hp) (line : Str) (ls : List Lot) (ws : List V) (tb : XK → TE) : Prop :=
  ∀ (cs : List Addr) (H1 : Hp) (Q : VK) (E : XK), Same H0 (less cs H1) → OutIs CF cls LL cs H1 line Q E (ls.find? fun t => !t.2.2) → tb E (ws.map some) (less cs H1) fun v H' => (∀ x ∈ cs, H' x = none) → Q v (back cs H1 H')
def tbSign (K : PySem.W.Frag) (CF Cs : Addr) (cls : Addr → Prop) (kc : KCls) : XK → TE := fun E => tMakeK (kc "sign") 0 1 (spLeaf K CF cls (lettered 1) Cs "sign" (fun x => ((Str.empty ++ "'") ++ x) ++ "'") fun _ => []) gKwV E tNil (tCons (tVar 0) tNil)
theorem o_sign (N : NCtors P w K mg base CF CE Cn Cs Cm Cw Ce kc cls) (hx : ∀ v ∈ xs, ∃ x : Str, v = .str x ∧ x.length ≤ 1000 ∧ lettered 1 x = true) (t : ThingIs xs H0 v r) (hy : r = true → y = textOf v) :
    Out CF cls (errs5 Cn Cm Cs Cw Ce) H0 (("'" ++ y) ++ "'") [("InvalidSign", v, r)] [v] (tbSign K CF Cs cls kc) := by
  intro cs H1 Q E s o
  refine out_sign N ?_
  rcases t with ⟨rfl, hv⟩ | ⟨rfl, od⟩
  · obtain ⟨x, rfl, l1, l2⟩ := hx v hv
    have e : y = x := hy rfl
    subst e
    rw [quo_empty]
    exact .inl ⟨y, rfl, l1, l2, o⟩
  · exact .inr ⟨odd_sign (od.same s), o ("InvalidSign", Cs) (by simp [errs5]) rfl⟩
def tbName (K : PySem.W.Frag) (CF Cm : Addr) (cls : Addr → Prop) (kc : KCls) : XK → TE := fun E => tMakeK (kc "name") 0 1 (spLeaf K CF cls nameB Cm "name" (fun x => x) fun x => [x]) gKwV E tNil (tCons (tVar 0) tNil)
theorem o_name (N : NCtors P w K mg base CF CE Cn Cs Cm Cw Ce kc cls) (hx : ∀ v ∈ xs, ∃ x : Str, v = .str x ∧ x.length ≤ 1000 ∧ nameB x = true) (t : ThingIs xs H0 v r) (hy : r = true → y = textOf v) :
    Out CF cls (errs5 Cn Cm Cs Cw Ce) H0 y [("InvalidName", v, r)] [v] (tbName K CF Cm cls kc) := by
  intro cs H1 Q E s o
  refine ⟨_, rfl, rfl, rfl, out_name N ?_⟩
  rcases t with ⟨rfl, hv⟩ | ⟨rfl, od⟩
  · obtain ⟨x, rfl, l1, l2⟩ := hx v hv
    have e : y = x := hy rfl
    subst e
    exact .inl ⟨y, rfl, l1, l2, o⟩
  · exact .inr ⟨odd_name (od.same s), o ("InvalidName", Cm) (by simp [errs5]) rfl⟩
variable {u : V} {ru : Bool} {xu yu : Str} {pk : Addr}
/-- an inner value may be passed, or is no expression -/
theorem kid_arg (nt : ∀ T ∈ (["NoneType", "bool", "int", "str", "list", "tuple", "dict"] : List String), PySem.W.kitOne K (.type T) (.ref CE) = some false) {H : Hp} (k : KidIs CF cls H u ru xu) :
    (ru = true ∧ ∃ e : Told, u = .ref e.at_ ∧ Arg CF cls H e ∧ e.text = xu) ∨ (ru = false ∧ NotExp K CE H u) := by
  rcases k with ⟨a, e, b, k, t⟩ | ⟨a, o⟩
  · exact .inl ⟨a, e, b, k.arg, t⟩
  · exact .inr ⟨a, odd_notExp nt o⟩
def tbDrop (K : PySem.W.Frag) (CF CE Cn Ce : Addr) (cls : Addr → Prop) (kc : KCls) : XK → TE := fun E => tMakeK (kc "drop") 0 2 (spDrop K CF CE Cn Ce cls) gKwV E tNil (tCons (tVar 0) (tCons (tFst K 1) tNil))
theorem drop_right {i : Int} (h : i ∈ ([1, 2, 9] : List Int)) : 1 ≤ i ∧ i ≤ 9 := by
  simp only [List.mem_cons, List.not_mem_nil, or_false] at h
  omega
theorem o_drop (N : NCtors P w K mg base CF CE Cn Cs Cm Cw Ce kc cls) (nt : ∀ T ∈ (["NoneType", "bool", "int", "str", "list", "tuple", "dict"] : List String), PySem.W.kitOne K (.type T) (.ref CE) = some false)
    (t : ThingIs [.int 1, .int 2, .int 9] H0 v r) (hy : (r || decide (v = .int 5)) = true → y = textOf v) (k : KidIs CF cls H0 u ru xu) (hu : ru = true → yu = xu) (hk : H0 pk = some (.tup [u, .bl ru])) :
    Out CF cls (errs5 Cn Cm Cs Cw Ce) H0 ("drop(" ++ (((y ++ ", ") ++ yu) ++ ")")) [("InvalidNumber", v, r || decide (v = .int 5)), ("InvalidExpression", u, ru)] [v, .ref pk] (tbDrop K CF CE Cn Ce cls kc) := by
  intro cs H1 Q E s o
  refine ⟨_, rfl, _, rfl, pk, _, _, _, rfl, rfl, SqT.of (s _ _ hk), rfl, rfl, rfl, out_drop N ?_⟩
  have good : (∃ i : Int, v = .int i ∧ 1 ≤ i ∧ i ≤ 9 ∧ (r || decide (v = .int 5)) = true) ∨ ((((∃ i : Int, v = .int i ∧ ¬ (1 ≤ i ∧ i ≤ 9)) ∨ NotInt K (less cs H1) v)) ∧ (r || decide (v = .int 5)) = false) := by
    rcases t with ⟨rfl, hv⟩ | ⟨rfl, od⟩
    · simp only [List.mem_cons, List.not_mem_nil, or_false] at hv
      rcases hv with rfl | rfl | rfl <;> exact .inl ⟨_, rfl, by decide, by decide, rfl⟩
    · by_cases h5 : v = .int 5
      · subst h5
        exact .inl ⟨5, rfl, by decide, by decide, by rw [decide_eq_true rfl] <;> rfl⟩
      · exact .inr ⟨odd_many (od.same s) h5, by rw [decide_eq_false h5] <;> rfl⟩
  rcases good with ⟨i, rfl, i1, i9, e⟩ | ⟨bad, e⟩
  · have ey := hy e
    rw [e] at o
    rcases kid_arg nt (k.same s) with ⟨rfl, e2, rfl, ar, tx⟩ | ⟨rfl, ne⟩
    · refine .inl ⟨i, e2, rfl, i1, i9, rfl, ar, ?_⟩
      have eu := hu rfl
      have el : spell "drop" [toString i, e2.text] = "drop(" ++ (((y ++ ", ") ++ yu) ++ ")") := by
        rw [spell2, ey, eu, tx, show (("drop" : Str) ++ "(") = "drop(" by decide +kernel]
        simp only [Str.append_assoc]
        rfl
      rw [el]
      exact o
    · exact .inr (.inr ⟨⟨i, rfl, i1, i9⟩, ne, o ("InvalidExpression", Ce) (by simp [errs5]) rfl⟩)
  · rw [e] at o
    exact .inr (.inl ⟨bad, o ("InvalidNumber", Cn) (by simp [errs5]) rfl⟩)
def tbTurn (K : PySem.W.Frag) (CF CE Cw Ce : Addr) (cls : Addr → Prop) (kc : KCls) : XK → TE := fun E => tMakeK (kc "turn") 0 2 (spTurn K CF CE Cw Ce cls) gKwV E tNil (tCons (tVar 0) (tCons (tFst K 1) tNil))
theorem o_turn (N : NCtors P w K mg base CF CE Cn Cs Cm Cw Ce kc cls) (nt : ∀ T ∈ (["NoneType", "bool", "int", "str", "list", "tuple", "dict"] : List String), PySem.W.kitOne K (.type T) (.ref CE) = some false)
    (hx : ∀ v ∈ xs, ∃ x : Str, v = .str x ∧ x.length ≤ 1000 ∧ lettered 4 x = true) (t : ThingIs xs H0 v r) (hy : r = true → y = textOf v) (k : KidIs CF cls H0 u ru xu) (hu : ru = true → yu = xu) (hk : H0 pk = some (.tup [u, .bl ru])) :
    Out CF cls (errs5 Cn Cm Cs Cw Ce) H0 ("turn(" ++ (((y ++ ", ") ++ yu) ++ ")")) [("InvalidWord", v, r), ("InvalidExpression", u, ru)] [v, .ref pk] (tbTurn K CF CE Cw Ce cls kc) := by
  intro cs H1 Q E s o
  refine ⟨_, rfl, _, rfl, pk, _, _, _, rfl, rfl, SqT.of (s _ _ hk), rfl, rfl, rfl, out_turn N ?_⟩
  rcases t with ⟨rfl, hv⟩ | ⟨rfl, od⟩
  · obtain ⟨x, rfl, l1, l2⟩ := hx v hv
    have ey : y = x := hy rfl
    subst ey
    rcases kid_arg nt (k.same s) with ⟨rfl, e2, rfl, ar, tx⟩ | ⟨rfl, ne⟩
    · refine .inl ⟨y, e2, rfl, l1, l2, rfl, ar, ?_⟩
      have eu := hu rfl
      have el : spell "turn" [y, e2.text] = "turn(" ++ (((y ++ ", ") ++ yu) ++ ")") := by
        rw [spell2, eu, tx, show (("turn" : Str) ++ "(") = "turn(" by decide +kernel]
        simp only [Str.append_assoc]
      rw [el]
      exact o
    · exact .inr (.inr ⟨⟨y, rfl, l1, l2⟩, ne, o ("InvalidExpression", Ce) (by simp [errs5]) rfl⟩)
  · exact .inr (.inl ⟨odd_word (od.same s), o ("InvalidWord", Cw) (by simp [errs5]) rfl⟩)
variable {u2 : V} {r2 : Bool} {x2 y2 : Str} {p2 : Addr}
def tbLead (K : PySem.W.Frag) (CF CE Ce : Addr) (cls : Addr → Prop) (kc : KCls) : XK → TE := fun E => tMakeK (kc "lead") 0 2 (spLead K CF CE Ce cls) gKwV E tNil (tCons (tFst K 0) (tCons (tFst K 1) tNil))
theorem o_lead (N : NCtors P w K mg base CF CE Cn Cs Cm Cw Ce kc cls) (nt : ∀ T ∈ (["NoneType", "bool", "int", "str", "list", "tuple", "dict"] : List String), PySem.W.kitOne K (.type T) (.ref CE) = some false) (ix : IsX K CE cls)
    (k : KidIs CF cls H0 u ru xu) (hu : ru = true → yu = xu) (hk : H0 pk = some (.tup [u, .bl ru])) (k2 : KidIs CF cls H0 u2 r2 x2) (hu2 : r2 = true → y2 = x2) (hk2 : H0 p2 = some (.tup [u2, .bl r2])) :
    Out CF cls (errs5 Cn Cm Cs Cw Ce) H0 (((("lead(" ++ yu) ++ ", ") ++ y2) ++ ")") [("InvalidExpression", u, ru), ("InvalidExpression", u2, r2)] [.ref pk, .ref p2] (tbLead K CF CE Ce cls kc) := by
  intro cs H1 Q E s o
  refine ⟨_, rfl, pk, _, _, _, rfl, rfl, SqT.of (s _ _ hk), rfl, _, rfl, p2, _, _, _, rfl, rfl, SqT.of (s _ _ hk2), rfl, rfl, rfl, out_lead N ?_⟩
  rcases kid_arg nt (k.same s) with ⟨rfl, e, rfl, ar, tx⟩ | ⟨rfl, ne⟩
  · rcases kid_arg nt (k2.same s) with ⟨rfl, e2, rfl, ar2, tx2⟩ | ⟨rfl, ne⟩
    · refine .inl ⟨e, e2, rfl, rfl, ar, ar2, ?_⟩
      have el : spell "lead" [e.text, e2.text] = ((("lead(" ++ yu) ++ ", ") ++ y2) ++ ")" := by
        rw [spell2, hu rfl, hu2 rfl, tx, tx2, show (("lead" : Str) ++ "(") = "lead(" by decide +kernel]
      rw [el]
      exact o
    · exact .inr (.inr ⟨ar.isx ix, ne, o ("InvalidExpression", Ce) (by simp [errs5]) rfl⟩)
  · exact .inr (.inl ⟨ne, o ("InvalidExpression", Ce) (by simp [errs5]) rfl⟩)
variable {a b : V} {ra rb : Bool} {ya yb : Str} {pa pb : Addr}
def tbPart (K : PySem.W.Frag) (CF CE Cn Ce : Addr) (cls : Addr → Prop) (kc : KCls) : XK → TE := fun E => tMakeK (kc "part") 0 3 (spPart K CF CE Cn Ce cls) gKwV E tNil (tCons (tFst K 0) (tCons (tFst K 1) (tCons (tFst K 2) tNil)))
def isGt : V → V → Bool
  | .int k, .int i => decide (k > i)
  | _, _ => false
def okHigh (a b : V) (ra rb : Bool) : Bool := rb && (!ra || isGt b a)
theorem o_part (N : NCtors P w K mg base CF CE Cn Cs Cm Cw Ce kc cls) (nt : ∀ T ∈ (["NoneType", "bool", "int", "str", "list", "tuple", "dict"] : List String), PySem.W.kitOne K (.type T) (.ref CE) = some false)
    (ta : ThingIs [.int 0, .int 1, .int 2, .int 3] H0 a ra) (hya : ra = true → ya = textOf a) (hka : H0 pa = some (.tup [a, .bl ra])) (tb : ThingIs [.int 2, .int 3, .int 4] H0 b rb) (hyb : rb = true → yb = textOf b) (hkb : H0 pb = some (.tup [b, .bl rb]))
    (k : KidIs CF cls H0 u ru xu) (hu : ru = true → yu = xu) (hk : H0 pk = some (.tup [u, .bl ru])) :
    Out CF cls (errs5 Cn Cm Cs Cw Ce) H0 (((((("part(" ++ ya) ++ ", ") ++ yb) ++ ", ") ++ yu) ++ ")") [("InvalidNumber", a, ra), ("InvalidNumber", b, okHigh a b ra rb), ("InvalidExpression", u, ru)] [.ref pa, .ref pb, .ref pk] (tbPart K CF CE Cn Ce cls kc) := by
  intro cs H1 Q E s o
  refine ⟨_, rfl, pa, _, _, _, rfl, rfl, SqT.of (s _ _ hka), rfl, _, rfl, pb, _, _, _, rfl, rfl, SqT.of (s _ _ hkb), rfl, _, rfl, pk, _, _, _, rfl, rfl, SqT.of (s _ _ hk), rfl, rfl, rfl, out_part N ?_⟩
  rcases ta with ⟨rfl, hv⟩ | ⟨rfl, od⟩
  · obtain ⟨i, rfl, i0, i3⟩ : ∃ i : Int, a = .int i ∧ 0 ≤ i ∧ i ≤ 3 := by
      simp only [List.mem_cons, List.not_mem_nil, or_false] at hv
      rcases hv with rfl | rfl | rfl | rfl <;> exact ⟨_, rfl, by decide, by decide⟩
    rcases tb with ⟨rfl, hv2⟩ | ⟨rfl, od⟩
    · obtain ⟨j, rfl, j2, j4⟩ : ∃ j : Int, b = .int j ∧ 2 ≤ j ∧ j ≤ 4 := by
        simp only [List.mem_cons, List.not_mem_nil, or_false] at hv2
        rcases hv2 with rfl | rfl | rfl <;> exact ⟨_, rfl, by decide, by decide⟩
      by_cases g : j > i
      · have eo : okHigh (.int i) (.int j) true true = true := by
          show (true && (!true || decide (j > i))) = true
          rw [decide_eq_true g] <;> rfl
        rw [eo] at o
        have lj : lo i ≤ j := by
          unfold lo
          split <;> omega
        rcases kid_arg nt (k.same s) with ⟨rfl, e, rfl, ar, tx⟩ | ⟨rfl, ne⟩
        · refine .inl ⟨i, j, e, rfl, i0, i3, rfl, lj, j4, rfl, ar, ?_⟩
          have el : spell "part" [toString i, toString j, e.text] = ((((("part(" ++ ya) ++ ", ") ++ yb) ++ ", ") ++ yu) ++ ")" := by
            rw [spell3, hu rfl, hya rfl, hyb rfl, tx, show (("part" : Str) ++ "(") = "part(" by decide +kernel] <;> rfl
          rw [el]
          exact o
        · exact .inr (.inr (.inr ⟨i, j, rfl, i0, i3, rfl, lj, j4, ne, o ("InvalidExpression", Ce) (by simp [errs5]) rfl⟩))
      · have eo : okHigh (.int i) (.int j) true true = false := by
          show (true && (!true || decide (j > i))) = false
          rw [decide_eq_false g] <;> rfl
        rw [eo] at o
        refine .inr (.inr (.inl ⟨i, rfl, i0, i3, .inl ⟨j, rfl, fun z => ?_⟩, o ("InvalidNumber", Cn) (by simp [errs5]) rfl⟩))
        obtain ⟨z, _⟩ := z
        unfold lo at z
        split at z <;> omega
    · exact .inr (.inr (.inl ⟨i, rfl, i0, i3, odd_base (od.same s) i, o ("InvalidNumber", Cn) (by simp [errs5]) rfl⟩))
  · exact .inr (.inl ⟨odd_at (od.same s), o ("InvalidNumber", Cn) (by simp [errs5]) rfl⟩)
end
end Wp

namespace LamR
open PySem PySem.Spec PyProof.Rows L2 LamX Hx
theorem spc_unwish {X : Cx} {E : Value → Shared → Prop} {pins : List (Addr × Obj)} {nx : L2.St → Hp → Prop} {rt : V → L2.St → Hp → Prop} {f : Flow} {s' : Shared} (h : SPC (X.wish E) pins nx rt f s') : SPC X pins nx rt f s' := by
  cases f with
  | next => obtain ⟨σ, H, I, q⟩ := h; exact ⟨σ, H, I.unwish, q⟩
  | brk => exact h
  | cont => exact h
  | ret u => obtain ⟨v, σ, H, I, r, q⟩ := h; exact ⟨v, σ, H, I.unwish, r, q⟩
theorem PSC.nox {X : Cx} {b : List Stmt} {t : TC} (h : PSC X.nox b t) : PSC X b t := ⟨fun pins s σ H rt I hw =>
  wpAny_mono (h.run pins s σ H rt (I.wish _) hw) (fun _ _ q => spc_unwish q) fun _ _ z => False.elim z⟩
end LamR
namespace Wp
open PySem PySem.Spec PyProof.Rows L2 LamX Hx LamR
/-- a def whose code object is the one at c -/
structure FunC (K : PySem.W.Frag) (x qual : Str) (st : Stmt) (f : Addr) (fd : FuncData) (c : Addr) : Prop where
  ex : ∃ (oc : Value) (od : Option Addr) (kV doc pm : Value) (an : Option Addr) (ct : Value) (osl : Array (Option Value)),
    fd = PySem.W.fnOf x qual (defArgs st) (defBody st) (defScope st) .none kV doc pm an (.ref c) ct ∧ K.lookup f = some ⟨oc, od, .func fd, osl⟩ ∧ PySem.W.codeIn K (.ref c) qual = true
  kp : PySem.W.keepIn K (.ref f) = true
section
variable {P : Program} {w : World} {K : PySem.W.Frag} {mg : Str → Option Value} {base : Heap} {k : Nat} {f c : Addr} {fd : FuncData} {ps : List Str} {sp : Sp}
theorem FunC.fn {x qual : Str} {st : Stmt} (F : FunC K x qual st f fd c) : Fun K x qual st f fd := by
  obtain ⟨oc, od, kV, doc, pm, an, ct, osl, h⟩ := F.ex
  exact ⟨⟨oc, od, kV, doc, pm, an, _, ct, osl, h⟩, F.kp⟩
/-- no exception leaves the def; it hands lambdas back: what its cells js hold stands behind it -/
theorem gokL {x qual : Str} {st : Stmt} {N : List Str} (F : FunC K x qual st f fd c) (S : FnScope N ps (defScope st)) (js : List Nat)
    (hj : ∀ j ∈ js, ∃ y, N[j]? = some y ∧ (defScope st).names.lookup y = some .cell) (nd : js.Nodup) (long : ∀ vs H Q E, sp vs H Q E → vs.length = ps.length)
    (body : ∀ (A : Around) (outer : List Env) (s : Shared) (H : Hp) (vs : List V) (Q : VK) (E : XK),
      Room k (A.deeper (envOfC qual (defScope st) s.heap.objs.size f (.ref c))) → A.guards = some [] → sp vs H Q E →
      ∃ t, PSC (cxOf CX0 P w K mg base N qual (defScope st) f (.ref c) A outer s H E).nox (defBody st) t ∧
        t (fun v σ H1 => ∀ H2, Left (cxOf CX0 P w K mg base N qual (defScope st) f (.ref c) A outer s H E) js σ H1 H2 → Q v H2) (L2.start N vs) H) :
    GOk P w K mg base CX0 (k + 1) f fd ps sp := by
  obtain ⟨oc, od, kV, doc, pm, an, ct, osl, efd, hlook, hcode⟩ := F.ex
  subst efd
  constructor
  · exact long
  · intro A outer s H args us vs Q E room gd e0 hbind rel hsp
    have inK : K.In s.heap := e0.mod.kin.keeps fun b o h => (e0.bs b o h).1
    have noLim : s.heap.NoLimit := e0.mod.nolimit.keeps fun b o h => (e0.bs b o h).1
    refine codeAny_call_function room.depth (inK _ _ hlook) rfl S.co S.gen rfl (PySem.W.codeRec_of inK hcode) (hbind _ _ _ _ ?_)
    refine wpAny_newFunctionEnv_cells S.kind ?kinds fun env henv s1 inside => ?_
    case kinds =>
      rintro ⟨nm, val⟩ hm
      have hp := (List.of_mem_zip hm).1
      cases S.par nm hp with
      | inl hl => exact .inl hl
      | inr hc => exact .inr ⟨hc, PySem.W.cellsFrom_some _ _ _ (.inl hc)⟩
    subst henv
    refine ⟨noLim.keeps inside.toInCall.keep, codeAny_func ?_⟩
    obtain ⟨t, ht, hq⟩ := body A outer s H vs Q E (room.deeper _) gd hsp
    have I0 := inv_start (CX := CX0) (E := E) S room.hd e0 (long _ _ _ _ hsp) rel inside
    refine wpAny_mono (ht.nox.run [] s1 (L2.start N vs) H _ I0 hq) ?_ (fun _ _ z => z)
    intro fl s' hs
    cases fl with
    | ret u =>
      obtain ⟨v, σ', H', J, rv, q⟩ := hs
      obtain ⟨H2, u2, k2, l2⟩ := cells_left J (fun y c e => J.ok.cab y c rfl e) js nd S.nd hj
      exact ⟨v, H2, J.os, J.bare, u2, k2, rv, q H2 l2⟩
    | next =>
      obtain ⟨_, _, _, z⟩ := hs
      exact z.elim
    | brk => exact hs.elim
    | cont => exact hs.elim
end
/-! _law_small: its statements have their rules -/
def NSm : List Str := ["_law_deck_here", "_law_way", "_law_kid_here", "_law_mate", "_law_good", "_law_value", "_law_is_right", "_law_lots", "_law_line"]
theorem scSmall : FnScope NSm ["_law_deck_here"] (defScope s_law_small) := ⟨rfl, rfl, rfl, by decide +kernel, rfl, by decide +kernel, by decide +kernel⟩
theorem cells_small : ∀ j ∈ [2, 3, 5], ∃ y, NSm[j]? = some y ∧ (defScope s_law_small).names.lookup y = some .cell := by
  intro j hj
  simp only [List.mem_cons, List.not_mem_nil, or_false] at hj
  rcases hj with rfl | rfl | rfl <;> exact ⟨_, rfl, rfl⟩
end Wp
namespace Wp
open PySem PySem.Spec PyProof.Rows L2 LamX Hx LamR
section
variable {P : Program} {w : World} {K : PySem.W.Frag} {mg : Str → Option Value} {base : Heap} {f c TP fC fT fK CF CE Cn Cs Cm Cw Ce : Addr} {fd fdC fdT fdK : FuncData} {kc : KCls} {cls : Addr → Prop} {T : List (Addr × Str)}
def menuOf (way : Int) : List V := if way = 0 then [.str "a", .str "z", .str "m"] else if way = 1 then [.str "a", .str "zz", .str "abcdefgh", .str "handed"] else if way = 2 then [.int 1, .int 2, .int 9] else if way = 3 then [.str "a", .str "ba", .str "aaaa", .str "zxy"] else [.int 1]
theorem menu_plain (way : Int) : ∀ v ∈ menuOf way, plainV v = true := by
  unfold menuOf
  intro v hv
  split at hv
  · simp only [List.mem_cons, List.not_mem_nil, or_false] at hv
    rcases hv with rfl | rfl | rfl <;> decide +kernel
  split at hv
  · simp only [List.mem_cons, List.not_mem_nil, or_false] at hv
    rcases hv with rfl | rfl | rfl | rfl <;> decide +kernel
  split at hv
  · simp only [List.mem_cons, List.not_mem_nil, or_false] at hv
    rcases hv with rfl | rfl | rfl <;> decide +kernel
  split at hv
  · simp only [List.mem_cons, List.not_mem_nil, or_false] at hv
    rcases hv with rfl | rfl | rfl | rfl <;> decide +kernel
  · simp only [List.mem_cons, List.not_mem_nil, or_false] at hv
    rcases hv with rfl <;> decide +kernel
theorem menu_pick {L : Hp} {way : Int} {q0 q1 q2 q3 q4 : Addr} (w0 : 0 ≤ way) (w5 : way < 5) (h0 : L q0 = some (.lst [.str "a", .str "z", .str "m"])) (h1 : L q1 = some (.lst [.str "a", .str "zz", .str "abcdefgh", .str "handed"])) (h2 : L q2 = some (.lst [.int 1, .int 2, .int 9])) (h3 : L q3 = some (.lst [.str "a", .str "ba", .str "aaaa", .str "zxy"])) (h4 : L q4 = some (.lst [.int 1])) :
    ∃ gq, atI [V.ref q0, .ref q1, .ref q2, .ref q3, .ref q4] way = some (.ref gq) ∧ L gq = some (.lst (menuOf way)) ∧ gq ∈ [q0, q1, q2, q3, q4] := by
  have h : way = 0 ∨ way = 1 ∨ way = 2 ∨ way = 3 ∨ way = 4 := by omega
  rcases h with rfl | rfl | rfl | rfl | rfl
  · exact ⟨q0, rfl, h0, by simp⟩
  · exact ⟨q1, rfl, h1, by simp⟩
  · exact ⟨q2, rfl, h2, by simp⟩
  · exact ⟨q3, rfl, h3, by simp⟩
  · exact ⟨q4, rfl, h4, by simp⟩
theorem menu_len (way : Int) : 0 < (menuOf way).length ∧ (menuOf way).length ≤ 1000 := by
  unfold menuOf
  split
  · decide
  split
  · decide
  split
  · decide
  split
  · decide
  · decide
theorem menu_sign : ∀ v ∈ menuOf 0, ∃ x : Str, v = .str x ∧ x.length ≤ 1000 ∧ lettered 1 x = true := by
  intro v hv
  have hv : v ∈ ([.str "a", .str "z", .str "m"] : List V) := hv
  simp only [List.mem_cons, List.not_mem_nil, or_false] at hv
  rcases hv with rfl | rfl | rfl <;> exact ⟨_, rfl, by decide +kernel, by decide +kernel⟩
theorem menu_name : ∀ v ∈ menuOf 1, ∃ x : Str, v = .str x ∧ x.length ≤ 1000 ∧ nameB x = true := by
  intro v hv
  have hv : v ∈ ([.str "a", .str "zz", .str "abcdefgh", .str "handed"] : List V) := hv
  simp only [List.mem_cons, List.not_mem_nil, or_false] at hv
  rcases hv with rfl | rfl | rfl | rfl <;> exact ⟨_, rfl, by decide +kernel, by decide +kernel⟩
theorem menu_word : ∀ v ∈ menuOf 3, ∃ x : Str, v = .str x ∧ x.length ≤ 1000 ∧ lettered 4 x = true := by
  intro v hv
  have hv : v ∈ ([.str "a", .str "ba", .str "aaaa", .str "zxy"] : List V) := hv
  simp only [List.mem_cons, List.not_mem_nil, or_false] at hv
  rcases hv with rfl | rfl | rfl | rfl <;> exact ⟨_, rfl, by decide +kernel, by decide +kernel⟩
theorem menu_int : ∀ v ∈ menuOf 2, ∃ i : Int, v = .int i ∧ i.natAbs.log2 < 1920 := by
  intro v hv
  have hv : v ∈ ([.int 1, .int 2, .int 9] : List V) := hv
  simp only [List.mem_cons, List.not_mem_nil, or_false] at hv
  rcases hv with rfl | rfl | rfl <;> exact ⟨_, rfl, by decide +kernel⟩
theorem five_int {v : V} {r : Bool} (e : (r || decide (v = .int 5)) = true) : (r || isInt v) = true := by
  rcases Bool.or_eq_true_iff.mp e with h | h
  · rw [h] <;> rfl
  · rw [of_decide_eq_true h]
    show (r || true) = true
    cases r <;> rfl
theorem kp_pair {H H' : Hp} {d p : Addr} {v : V} {r : Bool} (hd : DeckAt H d) (k : KpT d H H') (n : p ≠ d) (h : H p = some (.tup [v, .bl r])) : H' p = some (.tup [v, .bl r]) := k _ _ n (fun _ z => nomatch z) h
theorem ok_small (F : FunC K "_law_small" "_law_small" s_law_small f fd c) (zs : mg "str" = none) (hm : Mods base) (TB : TabB base mg c TP) (hT1 : ((TP, "_law_small" ++ ".<locals>." ++ "<lambda>") : Addr × Str) ∈ T) (hT2 : ∀ p ∈ T, p.1 = TP → p.2 = "_law_small" ++ ".<locals>." ++ "<lambda>")
    (KL : Kls P w K mg base CF cls) (NC : NCtors P w K mg base CF CE Cn Cs Cm Cw Ce kc cls) (nt : ∀ T ∈ (["NoneType", "bool", "int", "str", "list", "tuple", "dict"] : List String), PySem.W.kitOne K (.type T) (.ref CE) = some false) (ix : IsX K CE cls)
    (GC : FnOk P w K mg base CX0 1 fC fdC ["_law_deck_here", "_law_top"] spCard) (bC : Binds K fdC ["_law_deck_here", "_law_top"] []) (kC : PySem.W.keepIn K (.ref fC) = true) (mC : mg "_law_card" = some (.ref fC))
    (GT : FnOk P w K mg base CX0 3 fT fdT ["_law_deck_here", "_law_good"] spThing) (bT : Binds K fdT ["_law_deck_here", "_law_good"] []) (kT : PySem.W.keepIn K (.ref fT) = true) (mT : mg "_law_thing" = some (.ref fT))
    (GK : FnOk P w K mg base CX0 9 fK fdK ["_law_deck_here"] (spKid CF cls)) (bK : Binds K fdK ["_law_deck_here"] []) (kK : PySem.W.keepIn K (.ref fK) = true) (mK : mg "_law_kid" = some (.ref fK)) :
    GOk P w K mg base CX0 10 f fd ["_law_deck_here"] (spMk3 P w K mg base CF cls (errs5 Cn Cm Cs Cw Ce) T) := by
  refine gokL F scSmall [2, 3, 5] cells_small (by decide) (fun vs H Q E h => ?_) (fun A outer s H vs Q E hr gd h => ?_)
  · obtain ⟨d, rfl, _⟩ := h
    rfl
  obtain ⟨d, rfl, hd, hT, q⟩ := h
  have r1 := hr.mono (by decide : 1 ≤ 9)
  have hu : (A.deeper (envOfC "_law_small" (defScope s_law_small) s.heap.objs.size f (.ref c))).units + 64 < cLine := hr.units
  have r3 := hr.mono (by decide : 3 ≤ 9)
  refine ⟨_, psc_cons (ps_asg (pe_tup (pa_cons (pe_call GC r1 rfl mC kC bC .nil pass0 (pa_cons (pv 0) (pa_cons pe_int pa_nil))) (pa_cons (pe_call GK hr rfl mK kK bK .nil pass0 (pa_cons (pv 0) pa_nil)) (pa_cons (pe_call GK hr rfl mK kK bK .nil pass0 (pa_cons (pv 0) pa_nil)) pa_nil))))
      (pg_tup (by rfl) (pgs_cons (pg_name (i := 1) scSmall.nd rfl (Or.inl rfl)) (pgs_cons (pg_name (i := 2) scSmall.nd rfl (Or.inr rfl)) (pgs_cons (pg_name (i := 3) scSmall.nd rfl (Or.inr rfl)) pgs_nil)))))
    (psc_cons (ps_set (i := 4) scSmall.nd rfl (Or.inl rfl) (pe_ix ix_list (pe_lst (pa_cons (pe_lst (pa_cons pe_str (pa_cons pe_str (pa_cons pe_str pa_nil)))) (pa_cons (pe_lst (pa_cons pe_str (pa_cons pe_str (pa_cons pe_str (pa_cons pe_str pa_nil)))))
        (pa_cons (pe_lst (pa_cons pe_int (pa_cons pe_int (pa_cons pe_int pa_nil)))) (pa_cons (pe_lst (pa_cons pe_str (pa_cons pe_str (pa_cons pe_str (pa_cons pe_str pa_nil))))) (pa_cons (pe_lst (pa_cons pe_int pa_nil)) pa_nil)))))) (pv 1) (fun _ _ => rfl)))
    (psc_cons (ps_asg (pe_call GT r3 rfl mT kT bT .nil pass0 (pa_cons (pv 0) (pa_cons (pv 4) pa_nil))) (pg_tup (by rfl) (pgs_cons (pg_name (i := 5) scSmall.nd rfl (Or.inr rfl)) (pgs_cons (pg_name (i := 6) scSmall.nd rfl (Or.inl rfl)) pgs_nil))))
    (psc_cons (ps_set (i := 7) scSmall.nd rfl (Or.inl rfl) (pe_lst (pa_cons (pe_op op_catT (pe_tup (pa_cons pe_str pa_nil)) (pv 2)) pa_nil)))
    (psc_cons (ps_set (i := 8) scSmall.nd rfl (Or.inl rfl) (pe_op op_add_str (pe_op op_add_str (pe_op op_add_str (pe_callTy (call_strA (k := 1) gd hu hm r3) (by rfl) zs (by decide +kernel) (pa_cons (pv 5) pa_nil)) pe_str) (pe_callTy (call_strA (k := 1) gd hu hm r3) (by rfl) zs (by decide +kernel) (pa_cons (pe_ix ix_tup (pv 2) pe_int (fun _ _ => rfl)) pa_nil))) pe_str))
      (psc_if (pt_cmpR op_eq (pv 1) pe_int (nomark _)) (psc_cons (ps_set (i := 7) scSmall.nd rfl (Or.inl rfl) (pe_lst (pa_cons (pe_tup (pa_cons pe_str (pa_cons (pv 5) (pa_cons (pv 6) pa_nil)))) pa_nil))) (psc_ret (pe_tup (pa_cons (pv 7) (pa_cons (pe_lamR (T := T) TB rfl hT1 hT2 rfl (lamS_by (sc := defScope s_law_small) (by decide +kernel))) (pa_cons (pe_op op_add_str (pe_op op_add_str pe_str (pe_callTy (call_strA (k := 1) gd hu hm r3) (by rfl) zs (by decide +kernel) (pa_cons (pv 5) pa_nil))) pe_str) pa_nil))))))
      (psc_if (pt_cmpR op_eq (pv 1) pe_int (nomark _)) (psc_ret (pe_tup (pa_cons (pe_lst (pa_cons (pe_tup (pa_cons pe_str (pa_cons (pv 5) (pa_cons (pv 6) pa_nil)))) pa_nil)) (pa_cons (pe_lamR (T := T) TB rfl hT1 hT2 rfl (lamS_by (sc := defScope s_law_small) (by decide +kernel))) (pa_cons (pe_callTy (call_strA (k := 1) gd hu hm r3) (by rfl) zs (by decide +kernel) (pa_cons (pv 5) pa_nil)) pa_nil)))))
      (psc_if (pt_cmpR op_eq (pv 1) pe_int (nomark _)) (psc_cons (ps_set (i := 7) scSmall.nd rfl (Or.inl rfl) (pe_op op_cat (pe_lst (pa_cons (pe_tup (pa_cons pe_str (pa_cons (pv 5) (pa_cons (pe_or (pv 6) (pe_one (pe_cmpR (op_eqI hu) (pv 5) pe_int (nomark _)))) pa_nil)))) pa_nil)) (pv 7))) (psc_ret (pe_tup (pa_cons (pv 7) (pa_cons (pe_lamR (T := T) TB rfl hT1 hT2 rfl (lamS_by (sc := defScope s_law_small) (by decide +kernel))) (pa_cons (pe_op op_add_str pe_str (pv 8)) pa_nil))))))
      (psc_if (pt_cmpR op_eq (pv 1) pe_int (nomark _)) (psc_cons (ps_set (i := 7) scSmall.nd rfl (Or.inl rfl) (pe_op op_cat (pe_lst (pa_cons (pe_tup (pa_cons pe_str (pa_cons (pv 5) (pa_cons (pv 6) pa_nil)))) pa_nil)) (pv 7))) (psc_ret (pe_tup (pa_cons (pv 7) (pa_cons (pe_lamR (T := T) TB rfl hT1 hT2 rfl (lamS_by (sc := defScope s_law_small) (by decide +kernel))) (pa_cons (pe_op op_add_str pe_str (pv 8)) pa_nil))))))
      (psc_cons (ps_set (i := 7) scSmall.nd rfl (Or.inl rfl) (pe_op op_cat (pv 7) (pe_lst (pa_cons (pe_op op_catT (pe_tup (pa_cons pe_str pa_nil)) (pv 3)) pa_nil))))
      (psc_cons (ps_set (i := 8) scSmall.nd rfl (Or.inl rfl) (pe_op op_add_str (pe_op op_add_str (pe_op op_add_str (pe_op op_add_str pe_str (pe_callTy (call_strA (k := 1) gd hu hm r3) (by rfl) zs (by decide +kernel) (pa_cons (pe_ix ix_tup (pv 2) pe_int (fun _ _ => rfl)) pa_nil))) pe_str) (pe_callTy (call_strA (k := 1) gd hu hm r3) (by rfl) zs (by decide +kernel) (pa_cons (pe_ix ix_tup (pv 3) pe_int (fun _ _ => rfl)) pa_nil))) pe_str)) (psc_ret (pe_tup (pa_cons (pv 7) (pa_cons (pe_lamR (T := T) TB rfl hT1 hT2 rfl (lamS_by (sc := defScope s_law_small) (by decide +kernel))) (pa_cons (pv 8) pa_nil))))))))))))))), ?_⟩
  refine ⟨_, rfl, d, _, rfl, by decide, by decide, hd, fun way H1 w0 w5 b1 hd1 => ?_⟩
  refine ⟨_, rfl, d, rfl, hd1, fun p1 v1 ra H2 b2 hd2 ne1 hp1 k1 => ?_⟩
  refine ⟨_, rfl, d, rfl, hd2, fun p2 v2 rb H3 b3 hd3 ne2 hp2 k2 => ?_⟩
  have hT3 := tabs_but (tabs_but (tabs_but hT hd b1) hd1 b2) hd2 b3
  have kp3 : KpT d H H3 := ((KpT.but b1).trans (KpT.but b2)).trans (KpT.but b3)
  obtain ⟨x1, k1⟩ := k1.is
  obtain ⟨x2, k2⟩ := k2.is
  have k1 := k1.kp hd2 (KpT.but b3)
  have hp1 := b3 _ _ ne1 hp1
  refine ⟨(by show 3 ≤ sizeLine; decide), fun pt npt => ?_⟩
  have s4 := same_new npt (.tup [V.int way, V.ref p1, V.ref p2])
  refine ⟨pt, _, rfl, SqT.of upd_same, rfl, _, _, rfl, _, _, rfl, _, _, rfl, rfl, ?_⟩
  have hd4 := DeckAt.same s4 hd3
  have k1 := k1.same s4
  have k2 := k2.same s4
  have hp1 := s4 _ _ hp1
  have hp2 := s4 _ _ hp2
  have hT4 := Tabs.ext hT3 s4
  have kp4 := kp3.trans (KpT.same s4)
  generalize upd H3 pt (.tup [V.int way, V.ref p1, V.ref p2]) = H4 at *
  have dn : ∀ {L : Hp} {q : Addr}, DeckAt L d → L q = none → d ≠ q := fun {L q} h n => by
    obtain ⟨a, m, c, _, _, e⟩ := h
    exact ne_of_none e n
  refine ⟨(by show 3 ≤ sizeLine; decide), fun q0 m0 => ⟨(by show 4 ≤ sizeLine; decide), fun q1 m1 => ⟨(by show 3 ≤ sizeLine; decide), fun q2 m2 => ⟨(by show 4 ≤ sizeLine; decide), fun q3 m3 => ⟨(by show 1 ≤ sizeLine; decide), fun q4 m4 => ⟨(by show 5 ≤ sizeLine; decide), fun qg mgq => ?_⟩⟩⟩⟩⟩⟩
  have t0 := same_new m0 (.lst [V.str "a", .str "z", .str "m"])
  have t1 := same_new m1 (.lst [V.str "a", .str "zz", .str "abcdefgh", .str "handed"])
  have t2 := same_new m2 (.lst [V.int 1, .int 2, .int 9])
  have t3 := same_new m3 (.lst [V.str "a", .str "ba", .str "aaaa", .str "zxy"])
  have t4 := same_new m4 (.lst [V.int 1])
  have t5 := same_new mgq (.lst [V.ref q0, .ref q1, .ref q2, .ref q3, .ref q4])
  have s9 := ((((t0.trans t1).trans t2).trans t3).trans t4).trans t5
  have z0 := t5 _ _ (t4 _ _ (t3 _ _ (t2 _ _ (t1 _ _ (upd_same (H := H4) (a := q0) (o := HO.lst [V.str "a", .str "z", .str "m"]))))))
  have z1 := t5 _ _ (t4 _ _ (t3 _ _ (t2 _ _ (upd_same (a := q1) (o := HO.lst [V.str "a", .str "zz", .str "abcdefgh", .str "handed"])))))
  have z2 := t5 _ _ (t4 _ _ (t3 _ _ (upd_same (a := q2) (o := HO.lst [V.int 1, .int 2, .int 9]))))
  have z3 := t5 _ _ (t4 _ _ (upd_same (a := q3) (o := HO.lst [V.str "a", .str "ba", .str "aaaa", .str "zxy"])))
  have z4 := t5 _ _ (upd_same (a := q4) (o := HO.lst [V.int 1]))
  obtain ⟨gq, at_, hgq, mem⟩ := menu_pick w0 w5 z0 z1 z2 z3 z4
  have d1 := DeckAt.same t0 hd4
  have d2 := DeckAt.same t1 d1
  have d3 := DeckAt.same t2 d2
  have d4 := DeckAt.same t3 d3
  have dgq : d ≠ gq := by
    simp only [List.mem_cons, List.not_mem_nil, or_false] at mem
    rcases mem with rfl | rfl | rfl | rfl | rfl
    · exact dn hd4 m0
    · exact dn d1 m1
    · exact dn d2 m2
    · exact dn d3 m3
    · exact dn d4 m4
  refine ⟨_, rfl, qg, _, _, _, rfl, rfl, SqL.of upd_same, at_, ?_⟩
  clear at_ z0 z1 z2 z3 z4 mem
  have hd9 := DeckAt.same s9 hd4
  have k1 := k1.same s9
  have k2 := k2.same s9
  have hp1 := s9 _ _ hp1
  have hp2 := s9 _ _ hp2
  have hT9 := Tabs.ext hT4 s9
  have kp9 := kp4.trans (KpT.same s9)
  generalize upd _ qg (.lst [V.ref q0, .ref q1, .ref q2, .ref q3, .ref q4]) = H9 at *
  refine ⟨_, rfl, _, rfl, d, gq, _, rfl, dgq, hgq, (menu_len way).1, (menu_len way).2, hd9, fun pth v r H10 b10 hd10 neth hpth hv => ?_⟩
  have hv : ThingIs (menuOf way) H10 v r := hv
  have k1 := k1.kp hd9 (KpT.but b10)
  have k2 := k2.kp hd9 (KpT.but b10)
  have hp1 := b10 _ _ ne1 hp1
  have hp2 := b10 _ _ ne2 hp2
  have hT10 := tabs_but hT9 hd9 b10
  have kp10 := kp9.trans (KpT.but b10)
  clear hT hT3 hT4 hT9 kp3 kp4 kp9 hd9 hgq dgq
  refine ⟨pth, _, rfl, SqT.of hpth, rfl, _, _, rfl, _, _, rfl, rfl, ?_⟩
  refine ⟨(by show 1 ≤ sizeLine; decide), fun a1 n1 => ⟨_, rfl, a1, p1, _, _, rfl, rfl, SqT.of upd_same, SqT.of (same_new n1 _ _ _ hp1), (fun z => nomatch z), (by show 3 ≤ sizeLine; decide), (fun z => nomatch z), fun _ c1 nc1 => ⟨(by show 1 ≤ sizeLine; decide), fun l1 nl1 => ?_⟩⟩⟩
  have s11 := ((same_new n1 (.tup [V.str "InvalidExpression"])).trans (same_new nc1 (.tup ([V.str "InvalidExpression"] ++ [v1, .bl ra])))).trans (same_new nl1 (.lst [V.ref c1]))
  have hc1 := (same_new nl1 (.lst [V.ref c1])) _ _ (upd_same (a := c1) (o := HO.tup ([V.str "InvalidExpression"] ++ [v1, .bl ra])))
  have hl1 := upd_same (H := upd (upd H10 a1 (.tup [V.str "InvalidExpression"])) c1 (.tup ([V.str "InvalidExpression"] ++ [v1, .bl ra]))) (a := l1) (o := HO.lst [V.ref c1])
  have k1 := k1.same s11
  have k2 := k2.same s11
  have hp1 := s11 _ _ hp1
  have hp2 := s11 _ _ hp2
  have hv := hv.same s11
  have hT11 := Tabs.ext hT10 s11
  have kp11 := kp10.trans (KpT.same s11)
  have hd11 := DeckAt.same s11 hd10
  clear hT10 kp10 hd10
  generalize upd (upd (upd H10 a1 (.tup [V.str "InvalidExpression"])) c1 (.tup ([V.str "InvalidExpression"] ++ [v1, .bl ra]))) l1 (.lst [V.ref c1]) = H11 at *
  have hc1 : H11 c1 = some (.tup [V.str "InvalidExpression", v1, .bl ra]) := hc1
  clear s11 nl1 nc1 n1
  obtain ⟨y, hy, ly, sy⟩ := thing_shows (P := P) (w := w) (K := K) (mg := mg) (base := base) (menu_plain way) hv
  obtain ⟨y1, hy1, ly1, sy1⟩ := kid_shows KL k1
  have sz : ∀ n : Nat, n ≤ 100000 → n ≤ sizeLine := fun n h => Nat.le_trans h (by decide)
  have lc : (", " : Str).length = 2 := by decide +kernel
  have lp : (")" : Str).length = 1 := by decide +kernel
  have lq : ("'" : Str).length = 1 := by decide +kernel
  have ld : ("drop(" : Str).length = 5 := by decide +kernel
  have lt : ("turn(" : Str).length = 5 := by decide +kernel
  have ll : ("lead(" : Str).length = 5 := by decide +kernel
  refine ⟨_, rfl, sy _ ⟨_, _, rfl, rfl, sz _ (by omega), ?_⟩⟩
  refine ⟨_, rfl, p1, _, _, _, rfl, rfl, SqT.of hp1, rfl, sy1 _ ⟨_, _, rfl, rfl, sz _ (by rw [PySem.Str.length_append]; omega), ⟨_, _, rfl, rfl, sz _ (by rw [PySem.Str.length_append, PySem.Str.length_append]; omega), ?_⟩⟩⟩
  refine ⟨_, rfl, rfl, _, rfl, ?_⟩
  refine ite2 (fun z0 => ?_) (fun z0 => ?_)
  · have e0 : way = 0 := V.int.inj (of_decide_eq_true z0)
    subst e0
    refine ⟨_, rfl, _, rfl, (by show 3 ≤ sizeLine; decide), fun b1 nb1 => ⟨(by show 1 ≤ sizeLine; decide), fun l2 nl2 => ?_⟩⟩
    have s12 := (same_new nb1 (.tup [V.str "InvalidSign", v, .bl r])).trans (same_new nl2 (.lst [V.ref b1]))
    have hb1 := (same_new nl2 (.lst [V.ref b1])) _ _ (upd_same (a := b1) (o := HO.tup [V.str "InvalidSign", v, .bl r]))
    have hl2 := upd_same (H := upd H11 b1 (.tup [V.str "InvalidSign", v, .bl r])) (a := l2) (o := HO.lst [V.ref b1])
    have hv := hv.same s12
    have hT12 := Tabs.ext hT11 s12
    have kp12 := kp11.trans (KpT.same s12)
    have hd12 := DeckAt.same s12 hd11
    generalize upd (upd H11 b1 (.tup [V.str "InvalidSign", v, .bl r])) l2 (.lst [V.ref b1]) = H12 at *
    refine ⟨_, rfl, hT12, fun fl cc H13 ext tabs nf hcc => ?_⟩
    refine ⟨_, rfl, shows_go (thing_shows (menu_plain 0) ((hv.kp hd12 (KpT.ext ext)).same (same_new nf _))) fun y hy ly => ?_⟩
    refine ⟨_, _, rfl, rfl, sz _ (by omega), _, _, rfl, rfl, sz _ (by rw [PySem.Str.length_append]; omega), (by show 3 ≤ sizeLine; decide), fun p np H14 L => ?_⟩
    refine mk3_end (X := cxOf CX0 P w K mg base NSm "_law_small" (defScope s_law_small) f (.ref c) A outer s H E) (fr := ["_law_value"]) q kp12 hd12 ext tabs nf hcc np L hl2 (by show 1 ≤ 10; decide) (.cons ⟨b1, rfl, hb1⟩ .nil) (fun H0 k t ht e => ?_) ?_ [5] rfl (fun j hj => (by decide : ∀ j ∈ ([5] : List Nat), j ∈ ([2, 3, 5] : List Nat) ∧ j < 9) j hj) rfl (tb := tbSign K CF Cs cls kc) ?_ fun H0 k => o_sign NC menu_sign (hv.kp hd12 k) fun e => hy (by rw [e] <;> rfl)
    · cases List.mem_singleton.mp ht
      exact odd_of (hv.kp hd12 k) e
    · exact lsc_by (by decide +kernel)
    · refine runs_lam ?_ ?_ ?_ fl
      · exact lsc_by (by decide +kernel)
      · exact fun _ _ _ _ => rfl
      · exact fun cl c f A outer s H E hr => pe_named NC.sign hr rfl (pk_cons (pv 0) pk_nil) rfl rfl rfl rfl
  refine ⟨_, rfl, rfl, _, rfl, ?_⟩
  refine ite2 (fun z1 => ?_) (fun z1 => ?_)
  · have e0 : way = 1 := V.int.inj (of_decide_eq_true z1)
    subst e0
    refine ⟨_, rfl, _, rfl, (by show 3 ≤ sizeLine; decide), fun b1 nb1 => ⟨(by show 1 ≤ sizeLine; decide), fun l2 nl2 => ?_⟩⟩
    have s12 := (same_new nb1 (.tup [V.str "InvalidName", v, .bl r])).trans (same_new nl2 (.lst [V.ref b1]))
    have hb1 := (same_new nl2 (.lst [V.ref b1])) _ _ (upd_same (a := b1) (o := HO.tup [V.str "InvalidName", v, .bl r]))
    have hl2 := upd_same (H := upd H11 b1 (.tup [V.str "InvalidName", v, .bl r])) (a := l2) (o := HO.lst [V.ref b1])
    have hv := hv.same s12
    have hT12 := Tabs.ext hT11 s12
    have kp12 := kp11.trans (KpT.same s12)
    have hd12 := DeckAt.same s12 hd11
    generalize upd (upd H11 b1 (.tup [V.str "InvalidName", v, .bl r])) l2 (.lst [V.ref b1]) = H12 at *
    refine ⟨hT12, fun fl cc H13 ext tabs nf hcc => ?_⟩
    refine ⟨_, rfl, shows_go (thing_shows (menu_plain 1) ((hv.kp hd12 (KpT.ext ext)).same (same_new nf _))) fun y hy ly => ?_⟩
    refine ⟨(by show 3 ≤ sizeLine; decide), fun p np H14 L => ?_⟩
    refine mk3_end (X := cxOf CX0 P w K mg base NSm "_law_small" (defScope s_law_small) f (.ref c) A outer s H E) (fr := ["_law_value"]) q kp12 hd12 ext tabs nf hcc np L hl2 (by show 1 ≤ 10; decide) (.cons ⟨b1, rfl, hb1⟩ .nil) (fun H0 k t ht e => ?_) ?_ [5] rfl (fun j hj => (by decide : ∀ j ∈ ([5] : List Nat), j ∈ ([2, 3, 5] : List Nat) ∧ j < 9) j hj) rfl (tb := tbName K CF Cm cls kc) ?_ fun H0 k => o_name NC menu_name (hv.kp hd12 k) fun e => hy (by rw [e] <;> rfl)
    · cases List.mem_singleton.mp ht
      exact odd_of (hv.kp hd12 k) e
    · exact lsc_by (by decide +kernel)
    · refine runs_lam ?_ ?_ ?_ fl
      · exact lsc_by (by decide +kernel)
      · exact fun _ _ _ _ => rfl
      · exact fun cl c f A outer s H E hr => pe_named NC.name hr rfl (pk_cons (pv 0) pk_nil) rfl rfl rfl rfl
  refine ⟨_, rfl, rfl, _, rfl, ?_⟩
  refine ite2 (fun z2 => ?_) (fun z2 => ?_)
  · have e0 : way = 2 := V.int.inj (of_decide_eq_true z2)
    subst e0
    refine ⟨_, rfl, _, rfl, _, rfl, or_five menu_int hv rfl ?_⟩
    refine ⟨(by show 3 ≤ sizeLine; decide), fun b1 nb1 => ⟨(by show 1 ≤ sizeLine; decide), fun l2 nl2 => ?_⟩⟩
    have s12a := (same_new nb1 (.tup [V.str "InvalidNumber", v, .bl (r || decide (v = .int 5))])).trans (same_new nl2 (.lst [V.ref b1]))
    refine ⟨_, rfl, l2, l1, _, _, rfl, rfl, upd_same, s12a _ _ hl1, (by show 2 ≤ sizeLine; decide), fun l3 nl3 => ?_⟩
    have s12b := same_new nl3 (.lst ([V.ref b1] ++ [V.ref c1]))
    have s12 := s12a.trans s12b
    have hb1 := s12b _ _ (same_new nl2 (.lst [V.ref b1]) _ _ (upd_same (a := b1) (o := HO.tup [V.str "InvalidNumber", v, .bl (r || decide (v = .int 5))])))
    have hl3 := upd_same (H := upd (upd H11 b1 (.tup [V.str "InvalidNumber", v, .bl (r || decide (v = .int 5))])) l2 (.lst [V.ref b1])) (a := l3) (o := HO.lst ([V.ref b1] ++ [V.ref c1]))
    have hv := hv.same s12
    have k1 := k1.same s12
    have hp1 := s12 _ _ hp1
    have hc1 := s12 _ _ hc1
    have hT12 := Tabs.ext hT11 s12
    have kp12 := kp11.trans (KpT.same s12)
    have hd12 := DeckAt.same s12 hd11
    generalize upd (upd (upd H11 b1 (.tup [V.str "InvalidNumber", v, .bl (r || decide (v = .int 5))])) l2 (.lst [V.ref b1])) l3 (.lst ([V.ref b1] ++ [V.ref c1])) = H12 at *
    refine ⟨_, rfl, hT12, fun fl cc H13 ext tabs nf hcc => ?_⟩
    refine ⟨_, rfl, _, _, rfl, rfl, sz _ (by simp only [PySem.Str.length_append]; omega), (by show 3 ≤ sizeLine; decide), fun p np H14 L => ?_⟩
    refine mk3_end (X := cxOf CX0 P w K mg base NSm "_law_small" (defScope s_law_small) f (.ref c) A outer s H E) (fr := ["_law_value", "_law_kid_here"]) q kp12 hd12 ext tabs nf hcc np L hl3 (by show 2 ≤ 10; decide) (.cons ⟨b1, rfl, hb1⟩ (.cons ⟨c1, rfl, hc1⟩ .nil)) (fun H0 k t ht e => ?_) ?_ [5, 2] rfl (fun j hj => (by decide : ∀ j ∈ ([5, 2] : List Nat), j ∈ ([2, 3, 5] : List Nat) ∧ j < 9) j hj) rfl (tb := tbDrop K CF CE Cn Ce cls kc) ?_ fun H0 k => o_drop NC nt (hv.kp hd12 k) (fun e => hy (five_int e)) (k1.kp hd12 k) hy1 (kp_pair hd12 k ne1 hp1)
    · simp only [List.mem_cons, List.not_mem_nil, or_false] at ht
      rcases ht with rfl | rfl
      · exact odd_of (hv.kp hd12 k) ((Bool.or_eq_false_iff.mp e).1)
      · exact kid_fit (k1.kp hd12 k) e
    · exact lsc_by (by decide +kernel)
    · refine runs_lam ?_ ?_ ?_ fl
      · exact lsc_by (by decide +kernel)
      · exact fun _ _ _ _ => rfl
      · exact fun cl c f A outer s H E hr => pe_named NC.drop hr rfl (pk_cons (pv 0) (pk_cons (pe_ix ix_tup (pv 1) pe_int (fun _ _ => rfl)) pk_nil)) rfl rfl rfl rfl
  refine ⟨_, rfl, rfl, _, rfl, ?_⟩
  refine ite2 (fun z3 => ?_) (fun z3 => ?_)
  · have e0 : way = 3 := V.int.inj (of_decide_eq_true z3)
    subst e0
    refine ⟨_, rfl, _, rfl, ⟨(by show 3 ≤ sizeLine; decide), fun b1 nb1 => ⟨(by show 1 ≤ sizeLine; decide), fun l2 nl2 => ?_⟩⟩⟩
    have s12a := (same_new nb1 (.tup [V.str "InvalidWord", v, .bl r])).trans (same_new nl2 (.lst [V.ref b1]))
    refine ⟨_, rfl, l2, l1, _, _, rfl, rfl, upd_same, s12a _ _ hl1, (by show 2 ≤ sizeLine; decide), fun l3 nl3 => ?_⟩
    have s12b := same_new nl3 (.lst ([V.ref b1] ++ [V.ref c1]))
    have s12 := s12a.trans s12b
    have hb1 := s12b _ _ (same_new nl2 (.lst [V.ref b1]) _ _ (upd_same (a := b1) (o := HO.tup [V.str "InvalidWord", v, .bl r])))
    have hl3 := upd_same (H := upd (upd H11 b1 (.tup [V.str "InvalidWord", v, .bl r])) l2 (.lst [V.ref b1])) (a := l3) (o := HO.lst ([V.ref b1] ++ [V.ref c1]))
    have hv := hv.same s12
    have k1 := k1.same s12
    have hp1 := s12 _ _ hp1
    have hc1 := s12 _ _ hc1
    have hT12 := Tabs.ext hT11 s12
    have kp12 := kp11.trans (KpT.same s12)
    have hd12 := DeckAt.same s12 hd11
    generalize upd (upd (upd H11 b1 (.tup [V.str "InvalidWord", v, .bl r])) l2 (.lst [V.ref b1])) l3 (.lst ([V.ref b1] ++ [V.ref c1])) = H12 at *
    refine ⟨_, rfl, hT12, fun fl cc H13 ext tabs nf hcc => ?_⟩
    refine ⟨_, rfl, _, _, rfl, rfl, sz _ (by simp only [PySem.Str.length_append]; omega), (by show 3 ≤ sizeLine; decide), fun p np H14 L => ?_⟩
    refine mk3_end (X := cxOf CX0 P w K mg base NSm "_law_small" (defScope s_law_small) f (.ref c) A outer s H E) (fr := ["_law_value", "_law_kid_here"]) q kp12 hd12 ext tabs nf hcc np L hl3 (by show 2 ≤ 10; decide) (.cons ⟨b1, rfl, hb1⟩ (.cons ⟨c1, rfl, hc1⟩ .nil)) (fun H0 k t ht e => ?_) ?_ [5, 2] rfl (fun j hj => (by decide : ∀ j ∈ ([5, 2] : List Nat), j ∈ ([2, 3, 5] : List Nat) ∧ j < 9) j hj) rfl (tb := tbTurn K CF CE Cw Ce cls kc) ?_ fun H0 k => o_turn NC nt menu_word (hv.kp hd12 k) (fun e => hy (by rw [e] <;> rfl)) (k1.kp hd12 k) hy1 (kp_pair hd12 k ne1 hp1)
    · simp only [List.mem_cons, List.not_mem_nil, or_false] at ht
      rcases ht with rfl | rfl
      · exact odd_of (hv.kp hd12 k) (e)
      · exact kid_fit (k1.kp hd12 k) e
    · exact lsc_by (by decide +kernel)
    · refine runs_lam ?_ ?_ ?_ fl
      · exact lsc_by (by decide +kernel)
      · exact fun _ _ _ _ => rfl
      · exact fun cl c f A outer s H E hr => pe_named NC.turn hr rfl (pk_cons (pv 0) (pk_cons (pe_ix ix_tup (pv 1) pe_int (fun _ _ => rfl)) pk_nil)) rfl rfl rfl rfl
  refine ⟨_, rfl, (by show 1 ≤ sizeLine; decide), fun b0 nb0 => ⟨_, rfl, b0, p2, _, _, rfl, rfl, SqT.of upd_same, SqT.of (same_new nb0 _ _ _ hp2), (fun z => nomatch z), (by show 3 ≤ sizeLine; decide), (fun z => nomatch z), fun _ b1 nb1 => ⟨(by show 1 ≤ sizeLine; decide), fun l2 nl2 => ?_⟩⟩⟩
  have s12a := ((same_new nb0 (.tup [V.str "InvalidExpression"])).trans (same_new nb1 (.tup ([V.str "InvalidExpression"] ++ [v2, .bl rb])))).trans (same_new nl2 (.lst [V.ref b1]))
  refine ⟨l1, l2, _, _, rfl, rfl, s12a _ _ hl1, upd_same, (by show 2 ≤ sizeLine; decide), fun l3 nl3 => ?_⟩
  have s12b := same_new nl3 (.lst ([V.ref c1] ++ [V.ref b1]))
  have s12 := s12a.trans s12b
  have hb1 := s12b _ _ (same_new nl2 (.lst [V.ref b1]) _ _ (upd_same (a := b1) (o := HO.tup ([V.str "InvalidExpression"] ++ [v2, .bl rb]))))
  have hl3 := upd_same (H := upd (upd (upd H11 b0 (.tup [V.str "InvalidExpression"])) b1 (.tup ([V.str "InvalidExpression"] ++ [v2, .bl rb]))) l2 (.lst [V.ref b1])) (a := l3) (o := HO.lst ([V.ref c1] ++ [V.ref b1]))
  have k1 := k1.same s12
  have k2 := k2.same s12
  have hp1 := s12 _ _ hp1
  have hp2 := s12 _ _ hp2
  have hc1 := s12 _ _ hc1
  have hT12 := Tabs.ext hT11 s12
  have kp12 := kp11.trans (KpT.same s12)
  have hd12 := DeckAt.same s12 hd11
  generalize upd (upd (upd (upd H11 b0 (.tup [V.str "InvalidExpression"])) b1 (.tup ([V.str "InvalidExpression"] ++ [v2, .bl rb]))) l2 (.lst [V.ref b1])) l3 (.lst ([V.ref c1] ++ [V.ref b1])) = H12 at *
  have hb1 : H12 b1 = some (.tup [V.str "InvalidExpression", v2, .bl rb]) := hb1
  refine ⟨_, rfl, p1, _, _, _, rfl, rfl, SqT.of hp1, rfl, shows_go (kid_shows KL k1) fun y hy ly => ⟨_, _, rfl, rfl, sz _ (by omega), ⟨_, _, rfl, rfl, sz _ (by simp only [PySem.Str.length_append]; omega), ?_⟩⟩⟩
  refine ⟨_, rfl, p2, _, _, _, rfl, rfl, SqT.of hp2, rfl, shows_go (kid_shows KL k2) fun y2 hy2 ly2 => ⟨_, _, rfl, rfl, sz _ (by simp only [PySem.Str.length_append]; omega), ⟨_, _, rfl, rfl, sz _ (by simp only [PySem.Str.length_append]; omega), ?_⟩⟩⟩
  refine ⟨_, rfl, hT12, fun fl cc H13 ext tabs nf hcc => ?_⟩
  refine ⟨_, rfl, (by show 3 ≤ sizeLine; decide), fun p np H14 L => ?_⟩
  refine mk3_end (X := cxOf CX0 P w K mg base NSm "_law_small" (defScope s_law_small) f (.ref c) A outer s H E) (fr := ["_law_kid_here", "_law_mate"]) q kp12 hd12 ext tabs nf hcc np L hl3 (by show 2 ≤ 10; decide) (.cons ⟨c1, rfl, hc1⟩ (.cons ⟨b1, rfl, hb1⟩ .nil)) (fun H0 k t ht e => ?_) ?_ [2, 3] rfl (fun j hj => (by decide : ∀ j ∈ ([2, 3] : List Nat), j ∈ ([2, 3, 5] : List Nat) ∧ j < 9) j hj) rfl (tb := tbLead K CF CE Ce cls kc) ?_ fun H0 k => o_lead NC nt ix (k1.kp hd12 k) hy (kp_pair hd12 k ne1 hp1) (k2.kp hd12 k) hy2 (kp_pair hd12 k ne2 hp2)
  · simp only [List.mem_cons, List.not_mem_nil, or_false] at ht
    rcases ht with rfl | rfl
    · exact kid_fit (k1.kp hd12 k) e
    · exact kid_fit (k2.kp hd12 k) e
  · exact lsc_by (by decide +kernel)
  · refine runs_lam ?_ ?_ ?_ fl
    · exact lsc_by (by decide +kernel)
    · exact fun _ _ _ _ => rfl
    · exact fun cl c f A outer s H E hr => pe_named NC.lead hr rfl (pk_cons (pe_ix ix_tup (pv 0) pe_int (fun _ _ => rfl)) (pk_cons (pe_ix ix_tup (pv 1) pe_int (fun _ _ => rfl)) pk_nil)) rfl rfl rfl rfl
end
end Wp

namespace Wp
open PySem PySem.Spec PyProof.Rows L2 LamX Hx LamR
/-! _law_part: its statements have their rules -/
def NPa : List Str := ["_law_deck_here", "_law_low", "_law_high", "_law_kid_here", "_law_is_right", "_law_lots", "_law_line"]
theorem scPartL : FnScope NPa ["_law_deck_here"] (defScope s_law_part) := ⟨rfl, rfl, rfl, by decide +kernel, rfl, by decide +kernel, by decide +kernel⟩
theorem cells_part : ∀ j ∈ [1, 2, 3], ∃ y, NPa[j]? = some y ∧ (defScope s_law_part).names.lookup y = some .cell := by
  intro j hj
  simp only [List.mem_cons, List.not_mem_nil, or_false] at hj
  rcases hj with rfl | rfl | rfl <;> exact ⟨_, rfl, rfl⟩
section
variable {P : Program} {w : World} {K : PySem.W.Frag} {mg : Str → Option Value} {base : Heap} {f c TP fC fT fK CF CE Cn Cs Cm Cw Ce : Addr} {fd fdC fdT fdK : FuncData} {kc : KCls} {cls : Addr → Prop} {T : List (Addr × Str)}
theorem plain_low : ∀ v ∈ ([.int 0, .int 1, .int 2, .int 3] : List V), plainV v = true := by
  intro v hv
  simp only [List.mem_cons, List.not_mem_nil, or_false] at hv
  rcases hv with rfl | rfl | rfl | rfl <;> decide +kernel
theorem plain_high : ∀ v ∈ ([.int 2, .int 3, .int 4] : List V), plainV v = true := by
  intro v hv
  simp only [List.mem_cons, List.not_mem_nil, or_false] at hv
  rcases hv with rfl | rfl | rfl <;> decide +kernel
theorem fit_high : ∀ v ∈ ([.int 2, .int 3, .int 4] : List V), ∀ H : Hp, ∃ d, Fit H v d := by
  intro v hv H
  simp only [List.mem_cons, List.not_mem_nil, or_false] at hv
  rcases hv with rfl | rfl | rfl <;> exact ⟨_, fit_small (.int _) (by decide +kernel)⟩
theorem high_go {K : PySem.W.Frag} {H : Hp} {σ : L2.St} {a b : V} {ra rb : Bool} {pa pb : Addr} {Q : VK} (h1 : σ[1]? = some (some (.ref pa))) (h2 : σ[2]? = some (some (.ref pb))) (hpa : H pa = some (.tup [a, .bl ra])) (hpb : H pb = some (.tup [b, .bl rb]))
    (ta : ThingIs [.int 0, .int 1, .int 2, .int 3] H a ra) (tb : ThingIs [.int 2, .int 3, .int 4] H b rb) (q : Q (.bl (okHigh a b ra rb)) H) :
    tAndV (tOp (rIxT K) (tVar 2) (tC (.int 1))) (tOrV (tNotV (tOp (rIxT K) (tVar 1) (tC (.int 1)))) (tOp (rI0 fun i j => .bl (decide (j < i))) (tOp (rIxT K) (tVar 2) (tC (.int 0))) (tOp (rIxT K) (tVar 1) (tC (.int 0))))) σ H Q := by
  refine ⟨_, h2, pb, _, _, _, rfl, rfl, SqT.of hpb, rfl, rb, rfl, ?_⟩
  cases rb with
  | false => exact iteF q
  | true =>
    refine iteT ⟨_, h1, pa, _, _, _, rfl, rfl, SqT.of hpa, rfl, ra, rfl, !ra, rfl, ?_⟩
    cases ra with
    | false => exact iteT q
    | true =>
      refine iteF ⟨_, h2, pb, _, _, _, rfl, rfl, SqT.of hpb, rfl, _, h1, pa, _, _, _, rfl, rfl, SqT.of hpa, rfl, ?_⟩
      rcases ta with ⟨_, ha⟩ | ⟨z, _⟩
      · rcases tb with ⟨_, hb⟩ | ⟨z, _⟩
        · have e1 : ∃ i : Int, a = .int i := by
            simp only [List.mem_cons, List.not_mem_nil, or_false] at ha
            rcases ha with rfl | rfl | rfl | rfl <;> exact ⟨_, rfl⟩
          have e2 : ∃ i : Int, b = .int i := by
            simp only [List.mem_cons, List.not_mem_nil, or_false] at hb
            rcases hb with rfl | rfl | rfl <;> exact ⟨_, rfl⟩
          obtain ⟨i, rfl⟩ := e1
          obtain ⟨j, rfl⟩ := e2
          exact ⟨j, i, rfl, rfl, q⟩
        · cases z
      · cases z
theorem ok_partL (F : FunC K "_law_part" "_law_part" s_law_part f fd c) (zs : mg "str" = none) (hm : Mods base) (TB : TabB base mg c TP) (hT1 : ((TP, "_law_part" ++ ".<locals>." ++ "<lambda>") : Addr × Str) ∈ T) (hT2 : ∀ p ∈ T, p.1 = TP → p.2 = "_law_part" ++ ".<locals>." ++ "<lambda>")
    (KL : Kls P w K mg base CF cls) (NC : NCtors P w K mg base CF CE Cn Cs Cm Cw Ce kc cls) (nt : ∀ T ∈ (["NoneType", "bool", "int", "str", "list", "tuple", "dict"] : List String), PySem.W.kitOne K (.type T) (.ref CE) = some false)
    (GT : FnOk P w K mg base CX0 3 fT fdT ["_law_deck_here", "_law_good"] spThing) (bT : Binds K fdT ["_law_deck_here", "_law_good"] []) (kT : PySem.W.keepIn K (.ref fT) = true) (mT : mg "_law_thing" = some (.ref fT))
    (GK : FnOk P w K mg base CX0 9 fK fdK ["_law_deck_here"] (spKid CF cls)) (bK : Binds K fdK ["_law_deck_here"] []) (kK : PySem.W.keepIn K (.ref fK) = true) (mK : mg "_law_kid" = some (.ref fK)) :
    GOk P w K mg base CX0 10 f fd ["_law_deck_here"] (spMk3 P w K mg base CF cls (errs5 Cn Cm Cs Cw Ce) T) := by
  refine gokL F scPartL [1, 2, 3] cells_part (by decide) (fun vs H Q E h => ?_) (fun A outer s H vs Q E hr gd h => ?_)
  · obtain ⟨d, rfl, _⟩ := h
    rfl
  obtain ⟨d, rfl, hd, hT, q⟩ := h
  have hu : (A.deeper (envOfC "_law_part" (defScope s_law_part) s.heap.objs.size f (.ref c))).units + 64 < cLine := hr.units
  have r3 := hr.mono (by decide : 3 ≤ 9)
  refine ⟨_, psc_cons (ps_asg (pe_tup (pa_cons (pe_call GT r3 rfl mT kT bT .nil pass0 (pa_cons (pv 0) (pa_cons (pe_lst (pa_cons pe_int (pa_cons pe_int (pa_cons pe_int (pa_cons pe_int pa_nil))))) pa_nil)))
        (pa_cons (pe_call GT r3 rfl mT kT bT .nil pass0 (pa_cons (pv 0) (pa_cons (pe_lst (pa_cons pe_int (pa_cons pe_int (pa_cons pe_int pa_nil)))) pa_nil))) (pa_cons (pe_call GK hr rfl mK kK bK .nil pass0 (pa_cons (pv 0) pa_nil)) pa_nil))))
      (pg_tup (by rfl) (pgs_cons (pg_name (i := 1) scPartL.nd rfl (Or.inr rfl)) (pgs_cons (pg_name (i := 2) scPartL.nd rfl (Or.inr rfl)) (pgs_cons (pg_name (i := 3) scPartL.nd rfl (Or.inr rfl)) pgs_nil)))))
    (psc_cons (ps_set (i := 4) scPartL.nd rfl (Or.inl rfl) (pe_and (pe_ix ix_tup (pv 2) pe_int (fun _ _ => rfl)) (pe_one (pe_or (pe_not (pe_ix ix_tup (pv 1) pe_int (fun _ _ => rfl))) (pe_one (pe_cmpR op_gt (pe_ix ix_tup (pv 2) pe_int (fun _ _ => rfl)) (pe_ix ix_tup (pv 1) pe_int (fun _ _ => rfl)) (nomark _)))))))
    (psc_cons (ps_set (i := 5) scPartL.nd rfl (Or.inl rfl) (pe_lst (pa_cons (pe_op op_catT (pe_tup (pa_cons pe_str pa_nil)) (pv 1)) (pa_cons (pe_tup (pa_cons pe_str (pa_cons (pe_ix ix_tup (pv 2) pe_int (fun _ _ => rfl)) (pa_cons (pv 4) pa_nil)))) (pa_cons (pe_op op_catT (pe_tup (pa_cons pe_str pa_nil)) (pv 3)) pa_nil)))))
    (psc_cons (ps_set (i := 6) scPartL.nd rfl (Or.inl rfl) (pe_op op_add_str (pe_op op_add_str (pe_op op_add_str (pe_op op_add_str (pe_op op_add_str (pe_op op_add_str pe_str (pe_callTy (call_strA (k := 1) gd hu hm r3) (by rfl) zs (by decide +kernel) (pa_cons (pe_ix ix_tup (pv 1) pe_int (fun _ _ => rfl)) pa_nil))) pe_str)
        (pe_callTy (call_strA (k := 1) gd hu hm r3) (by rfl) zs (by decide +kernel) (pa_cons (pe_ix ix_tup (pv 2) pe_int (fun _ _ => rfl)) pa_nil))) pe_str) (pe_callTy (call_strA (k := 1) gd hu hm r3) (by rfl) zs (by decide +kernel) (pa_cons (pe_ix ix_tup (pv 3) pe_int (fun _ _ => rfl)) pa_nil))) pe_str))
    (psc_ret (pe_tup (pa_cons (pv 5) (pa_cons (pe_lamR (T := T) TB rfl hT1 hT2 rfl (lamS_by (sc := defScope s_law_part) (by decide +kernel))) (pa_cons (pv 6) pa_nil)))))))), ?_⟩
  refine ⟨_, rfl, (by show 4 ≤ sizeLine; decide), fun qa na => ?_⟩
  have s1 := same_new na (.lst [V.int 0, .int 1, .int 2, .int 3])
  have da : d ≠ qa := by
    obtain ⟨a, m, c, _, _, e⟩ := hd
    exact ne_of_none e na
  have hd1 := DeckAt.same s1 hd
  refine ⟨d, qa, _, rfl, da, upd_same, (by show 0 < 4; decide), (by show 4 ≤ 1000; decide), hd1, fun pa a ra H2 b2 hd2 nea hpa hva => ?_⟩
  have hva : ThingIs [.int 0, .int 1, .int 2, .int 3] H2 a ra := hva
  have hT2' := tabs_but (Tabs.ext hT s1) hd1 b2
  have kp2 : KpT d H H2 := (KpT.same s1).trans (KpT.but b2)
  refine ⟨_, rfl, (by show 3 ≤ sizeLine; decide), fun qb nb => ?_⟩
  have s3 := same_new nb (.lst [V.int 2, .int 3, .int 4])
  have db : d ≠ qb := by
    obtain ⟨a, m, c, _, _, e⟩ := hd2
    exact ne_of_none e nb
  have hd3 := DeckAt.same s3 hd2
  refine ⟨d, qb, _, rfl, db, upd_same, (by show 0 < 3; decide), (by show 3 ≤ 1000; decide), hd3, fun pb b rb H4 b4 hd4 neb hpb hvb => ?_⟩
  have hvb : ThingIs [.int 2, .int 3, .int 4] H4 b rb := hvb
  have k24 : KpT d H2 H4 := (KpT.same s3).trans (KpT.but b4)
  have hT4 := tabs_but (Tabs.ext hT2' s3) hd3 b4
  refine ⟨_, rfl, d, rfl, hd4, fun pk u ru H5 b5 hd5 nek hpk k => ?_⟩
  obtain ⟨xu, k⟩ := k.is
  refine ⟨(by show 3 ≤ sizeLine; decide), fun pt npt => ?_⟩
  have s6 := same_new npt (.tup [V.ref pa, V.ref pb, V.ref pk])
  refine ⟨pt, _, rfl, SqT.of upd_same, rfl, _, _, rfl, _, _, rfl, _, _, rfl, rfl, ?_⟩
  have k56 : KpT d H4 (upd H5 pt (.tup [V.ref pa, V.ref pb, V.ref pk])) := (KpT.but b5).trans (KpT.same s6)
  have hd6 := DeckAt.same s6 hd5
  have hva := hva.kp hd2 (k24.trans k56)
  have hvb := hvb.kp hd4 k56
  have k := k.same s6
  have hpa := kp_pair hd2 (k24.trans k56) nea hpa
  have hpb := kp_pair hd4 k56 neb hpb
  have hpk := s6 _ _ hpk
  have hT6 := Tabs.ext (tabs_but hT4 hd4 b5) s6
  have kp6 := kp2.trans (k24.trans k56)
  clear hT hT2' hT4 kp2 k24 k56 hd5 hd4 hd3 hd2 hd1
  generalize upd H5 pt (.tup [V.ref pa, V.ref pb, V.ref pk]) = H6 at *
  refine high_go rfl rfl hpa hpb hva hvb ?_
  refine ⟨(by show 1 ≤ sizeLine; decide), fun a1 n1 => ⟨_, rfl, a1, pa, _, _, rfl, rfl, SqT.of upd_same, SqT.of (same_new n1 _ _ _ hpa), (fun z => nomatch z), (by show 3 ≤ sizeLine; decide), (fun z => nomatch z), fun _ c1 nc1 => ?_⟩⟩
  have t1 := (same_new n1 (.tup [V.str "InvalidNumber"])).trans (same_new nc1 (.tup ([V.str "InvalidNumber"] ++ [a, .bl ra])))
  refine ⟨_, rfl, pb, _, _, _, rfl, rfl, SqT.of (t1 _ _ hpb), rfl, _, rfl, (by show 3 ≤ sizeLine; decide), fun c2 nc2 => ⟨(by show 1 ≤ sizeLine; decide), fun a3 n3 => ?_⟩⟩
  have t2 := t1.trans ((same_new nc2 (.tup [V.str "InvalidNumber", b, .bl (okHigh a b ra rb)])).trans (same_new n3 (.tup [V.str "InvalidExpression"])))
  refine ⟨_, rfl, a3, pk, _, _, rfl, rfl, SqT.of upd_same, SqT.of (t2 _ _ hpk), (fun z => nomatch z), (by show 3 ≤ sizeLine; decide), (fun z => nomatch z), fun _ c3 nc3 => ⟨(by show 3 ≤ sizeLine; decide), fun l1 nl1 => ?_⟩⟩
  have t3 := (same_new nc3 (.tup ([V.str "InvalidExpression"] ++ [u, .bl ru]))).trans (same_new nl1 (.lst [V.ref c1, V.ref c2, V.ref c3]))
  have s12 := t2.trans t3
  have hc1 := t3 _ _ (same_new n3 (.tup [V.str "InvalidExpression"]) _ _ (same_new nc2 (.tup [V.str "InvalidNumber", b, .bl (okHigh a b ra rb)]) _ _ (upd_same (a := c1) (o := HO.tup ([V.str "InvalidNumber"] ++ [a, .bl ra])))))
  have hc2 := t3 _ _ (same_new n3 (.tup [V.str "InvalidExpression"]) _ _ (upd_same (a := c2) (o := HO.tup [V.str "InvalidNumber", b, .bl (okHigh a b ra rb)])))
  have hc3 := same_new nl1 (.lst [V.ref c1, V.ref c2, V.ref c3]) _ _ (upd_same (a := c3) (o := HO.tup ([V.str "InvalidExpression"] ++ [u, .bl ru])))
  have hl1 := upd_same (H := upd (upd (upd (upd (upd H6 a1 (.tup [V.str "InvalidNumber"])) c1 (.tup ([V.str "InvalidNumber"] ++ [a, .bl ra]))) c2 (.tup [V.str "InvalidNumber", b, .bl (okHigh a b ra rb)])) a3 (.tup [V.str "InvalidExpression"])) c3 (.tup ([V.str "InvalidExpression"] ++ [u, .bl ru]))) (a := l1) (o := HO.lst [V.ref c1, V.ref c2, V.ref c3])
  have hva := hva.same s12
  have hvb := hvb.same s12
  have k := k.same s12
  have hpa := s12 _ _ hpa
  have hpb := s12 _ _ hpb
  have hpk := s12 _ _ hpk
  have hT12 := Tabs.ext hT6 s12
  have kp12 := kp6.trans (KpT.same s12)
  have hd12 := DeckAt.same s12 hd6
  clear hT6 kp6 hd6
  generalize upd (upd (upd (upd (upd (upd H6 a1 (.tup [V.str "InvalidNumber"])) c1 (.tup ([V.str "InvalidNumber"] ++ [a, .bl ra]))) c2 (.tup [V.str "InvalidNumber", b, .bl (okHigh a b ra rb)])) a3 (.tup [V.str "InvalidExpression"])) c3 (.tup ([V.str "InvalidExpression"] ++ [u, .bl ru]))) l1 (.lst [V.ref c1, V.ref c2, V.ref c3]) = H12 at *
  have hc1 : H12 c1 = some (.tup [V.str "InvalidNumber", a, .bl ra]) := hc1
  have hc3 : H12 c3 = some (.tup [V.str "InvalidExpression", u, .bl ru]) := hc3
  have sz : ∀ n : Nat, n ≤ 100000 → n ≤ sizeLine := fun n h => Nat.le_trans h (by decide)
  have lc : (", " : Str).length = 2 := by decide +kernel
  have lp : (")" : Str).length = 1 := by decide +kernel
  have lq : ("part(" : Str).length = 5 := by decide +kernel
  refine ⟨_, rfl, pa, _, _, _, rfl, rfl, SqT.of hpa, rfl, shows_go (thing_shows plain_low hva) fun ya hya lya => ⟨_, _, rfl, rfl, sz _ (by omega), ⟨_, _, rfl, rfl, sz _ (by simp only [PySem.Str.length_append]; omega), ?_⟩⟩⟩
  refine ⟨_, rfl, pb, _, _, _, rfl, rfl, SqT.of hpb, rfl, shows_go (thing_shows plain_high hvb) fun yb hyb lyb => ⟨_, _, rfl, rfl, sz _ (by simp only [PySem.Str.length_append]; omega), ⟨_, _, rfl, rfl, sz _ (by simp only [PySem.Str.length_append]; omega), ?_⟩⟩⟩
  refine ⟨_, rfl, pk, _, _, _, rfl, rfl, SqT.of hpk, rfl, shows_go (kid_shows KL k) fun yu hyu lyu => ⟨_, _, rfl, rfl, sz _ (by simp only [PySem.Str.length_append]; omega), ⟨_, _, rfl, rfl, sz _ (by simp only [PySem.Str.length_append]; omega), ?_⟩⟩⟩
  refine ⟨_, rfl, hT12, fun fl cc H13 ext tabs nf hcc => ?_⟩
  refine ⟨_, rfl, (by show 3 ≤ sizeLine; decide), fun p np H14 L => ?_⟩
  refine mk3_end (X := cxOf CX0 P w K mg base NPa "_law_part" (defScope s_law_part) f (.ref c) A outer s H E) (fr := ["_law_low", "_law_high", "_law_kid_here"]) q kp12 hd12 ext tabs nf hcc np L hl1 (by show 3 ≤ 10; decide) (.cons ⟨c1, rfl, hc1⟩ (.cons ⟨c2, rfl, hc2⟩ (.cons ⟨c3, rfl, hc3⟩ .nil))) (fun H0 k0 t ht e => ?_) ?_ [1, 2, 3] rfl (fun j hj => (by decide : ∀ j ∈ ([1, 2, 3] : List Nat), j ∈ ([1, 2, 3] : List Nat) ∧ j < 7) j hj) rfl (tb := tbPart K CF CE Cn Ce cls kc) ?_ fun H0 k0 => o_part NC nt (hva.kp hd12 k0) (fun e => hya (by rw [e] <;> rfl)) (kp_pair hd12 k0 nea hpa) (hvb.kp hd12 k0) (fun e => hyb (by rw [e] <;> rfl)) (kp_pair hd12 k0 neb hpb) (k.kp hd12 k0) hyu (kp_pair hd12 k0 nek hpk)
  · simp only [List.mem_cons, List.not_mem_nil, or_false] at ht
    rcases ht with rfl | rfl | rfl
    · exact odd_of (hva.kp hd12 k0) e
    · exact thing_fit fit_high (hvb.kp hd12 k0)
    · exact kid_fit (k.kp hd12 k0) e
  · exact lsc_by (by decide +kernel)
  · refine runs_lam ?_ ?_ ?_ fl
    · exact lsc_by (by decide +kernel)
    · exact fun _ _ _ _ => rfl
    · exact fun cl c f A outer s H E hr => pe_named NC.part hr rfl (pk_cons (pe_ix ix_tup (pv 0) pe_int (fun _ _ => rfl)) (pk_cons (pe_ix ix_tup (pv 1) pe_int (fun _ _ => rfl)) (pk_cons (pe_ix ix_tup (pv 2) pe_int (fun _ _ => rfl)) pk_nil))) rfl rfl rfl rfl
end
end Wp

namespace Wp
open PySem PySem.Spec PyProof.Rows L2 LamX Hx LamR
/-! what the three makers promise; the law's main def -/
/-- data stands where all that is no thing of its own kind stays -/
def SameN (H H' : Hp) : Prop := ∀ b o, (∀ φ, o ≠ .ext φ) → H b = some o → H' b = some o
mutual
theorem Dq.sameN {H H' : Hp} (s : SameN H H') : ∀ (d : PyData) (v : V), Dq H v d → Dq H' v d
  | .none, _, h => by cases h; exact .non
  | .bool b, _, h => by cases h; exact .bl b
  | .int i, _, h => by cases h; exact .int i
  | .str x, _, h => by cases h; exact .str x
  | .list ds, _, h => by cases h with | lst e r => exact .lst (s _ _ (fun _ z => nomatch z) e) (DqAll.sameN s ds _ r)
  | .tuple ds, _, h => by cases h with | tup e r => exact .tup (s _ _ (fun _ z => nomatch z) e) (DqAll.sameN s ds _ r)
  | .dict es, _, h => by cases h with | dct e r => exact .dct (s _ _ (fun _ z => nomatch z) e) (DqKv.sameN s es _ r)
theorem DqAll.sameN {H H' : Hp} (s : SameN H H') : ∀ (ds : List PyData) (vs : List V), DqAll H vs ds → DqAll H' vs ds
  | [], _, h => by cases h; exact .nil
  | d :: ds, _, h => by cases h with | cons e r => exact .cons (Dq.sameN s d _ e) (DqAll.sameN s ds _ r)
theorem DqKv.sameN {H H' : Hp} (s : SameN H H') : ∀ (es : List (PyData × PyData)) (ks : List (Key × V)), DqKv H ks es → DqKv H' ks es
  | [], _, h => by cases h; exact .nil
  | (_, d) :: es, _, h => by cases h with | cons e r => exact .cons (Dq.sameN s d _ e) (DqKv.sameN s es _ r)
end
theorem shaped2 {x y : Str} (hx : PyData.strOk x = true) (hy : PyData.strOk y = true) : SeqAt.shaped (.tuple [.str x, .str y]) = true := by
  show ((PyData.strOk x && (PyData.strOk y && true)) && decide (max 0 (max 0 0) + 1 ≤ 64)) = true
  rw [hx, hy]
  rfl
theorem eqv_self {d : PyData} (h : SeqAt.shaped d = true) : PyData.eqv d d = true := SeqAt.eqv_refl_plain d (PyData.plain_of_canLay0 d (SeqAt.canLay_of_shaped h))
theorem tabs_more {T : List (Addr × Str)} {cs : List Addr} {H : Hp} (t : Tabs T (less cs H)) : Tabs T H := Tabs.ext t fun b o e => (less_some e).2
theorem mk3_tabs {P : Program} {w : World} {K : PySem.W.Frag} {mg : Str → Option Value} {base : Heap} {CF : Addr} {cls : Addr → Prop} {L : List (Str × Addr)} {T : List (Addr × Str)} {H : Hp} {p : Addr} (h : Mk3At P w K mg base CF cls L T H p) : Tabs T H := by
  obtain ⟨_, _, _, _, _, _, _, cs, _, _, _, _, _, _, _, _, t, _⟩ := h
  exact tabs_more t
theorem seq_of {t : TS} {u : TS} {D : Ends} {σ : L2.St} {H : Hp} (J : L2.St → Hp → Prop) (hu : ∀ σ' H', J σ' H' → u D σ' H') (ht : ∀ N, (∀ σ' H', J σ' H' → N σ' H') → t { D with nx := N } σ H) : tSeq t u D σ H := ht _ hu
theorem name_seq {i : Nat} {x : V} {t u : TS} {D : Ends} {r : VK} {b e : L2.St → Hp → Prop} {σ : L2.St} {H : Hp} (h : tSeq t u D (σ.set i (some x)) H) : gName i x σ H (Ends.nx { nx := tSeq t u D, rt := r, bk := b, ct := e }) := h
/-- all that is no thing of its own kind and no table stays, but the deck -/
def ButN (d : Addr) (H H' : Hp) : Prop := ∀ b o, b ≠ d → (∀ φ, o ≠ .ext φ) → (∀ ps, o ≠ .tbl ps) → H b = some o → H' b = some o
def spRight3 (T : List (Addr × Str)) : Sp := fun vs H Q _ => ∃ d, vs = [.ref d] ∧ DeckAt H d ∧ Tabs T H ∧ ∀ H', ButN d H H' → Tabs T H' → Q (.bl true) H'
def NRi : List Str := ["_law_deck_here", "_law_way", "_law_made", "_law_lots", "_law_act", "_law_line", "_law_due", "_law_told"]
theorem scRight3 : FnScope NRi ["_law_deck_here"] (defScope s_law_right) := ⟨rfl, rfl, rfl, by decide +kernel, rfl, by decide +kernel, by decide +kernel⟩
section
variable {P : Program} {w : World} {K : PySem.W.Frag} {mg : Str → Option Value} {base : Heap} {f fC fS fP fW fF fT CF : Addr} {fd fdC fdS fdP fdW fdF fdT : FuncData} {cls : Addr → Prop} {L : List (Str × Addr)} {T : List (Addr × Str)}
theorem ok_right3 (F : Fun K "_law_right" "_law_right" s_law_right f fd) (zs : mg "str" = none) (hm : Mods base) (KL : Kls P w K mg base CF cls) (hL : ∀ p ∈ L, PyData.strOk p.1 = true)
    (GC : FnOk P w K mg base CX0 1 fC fdC ["_law_deck_here", "_law_top"] spCard) (bC : Binds K fdC ["_law_deck_here", "_law_top"] []) (kC : PySem.W.keepIn K (.ref fC) = true) (mC : mg "_law_card" = some (.ref fC))
    (GS : GOk P w K mg base CX0 10 fS fdS ["_law_deck_here"] (spMk3 P w K mg base CF cls L T)) (bS : Binds K fdS ["_law_deck_here"] []) (kS : PySem.W.keepIn K (.ref fS) = true) (mS : mg "_law_small" = some (.ref fS))
    (GP : GOk P w K mg base CX0 10 fP fdP ["_law_deck_here"] (spMk3 P w K mg base CF cls L T)) (bP : Binds K fdP ["_law_deck_here"] []) (kP : PySem.W.keepIn K (.ref fP) = true) (mP : mg "_law_part" = some (.ref fP))
    (GW : GOk P w K mg base CX0 10 fW fdW ["_law_deck_here"] (spMk3 P w K mg base CF cls L T)) (bW : Binds K fdW ["_law_deck_here"] []) (kW : PySem.W.keepIn K (.ref fW) = true) (mW : mg "_law_weave" = some (.ref fW))
    (GF : GOk P w K mg base CX0 1 fF fdF ["_law_lots"] spFirst) (bF : Binds K fdF ["_law_lots"] []) (kF : PySem.W.keepIn K (.ref fF) = true) (mF : mg "_law_first" = some (.ref fF))
    (GT : GOk P w K mg base CX0 10 fT fdT ["_law_act"] (spCau P w K mg base 9 L)) (bT : Binds K fdT ["_law_act"] []) (kT : PySem.W.keepIn K (.ref fT) = true) (mT : mg "_law_caught" = some (.ref fT)) :
    GOk P w K mg base CX0 11 f fd ["_law_deck_here"] (spRight3 T) := by
  refine gok0 F scRight3 (fun vs H Q E h => ?_) (fun cdv A outer s H vs Q E hr gd h => ?_)
  · obtain ⟨d, rfl, _⟩ := h
    rfl
  obtain ⟨d, rfl, hd, hT, q⟩ := h
  have hu : (A.deeper (envOfC "_law_right" (defScope s_law_right) s.heap.objs.size f cdv)).units + 64 < cLine := hr.units
  have r1 := hr.mono (by decide : 1 ≤ 10)
  have r3 := hr.mono (by decide : 3 ≤ 10)
  refine ⟨_, pss_cons (ps_set (i := 1) scRight3.nd rfl (Or.inl rfl) (pe_call GC r1 rfl mC kC bC .nil pass0 (pa_cons (pv 0) (pa_cons pe_int pa_nil))))
    (pss_cons (ps_set (i := 2) scRight3.nd rfl (Or.inl rfl) (pe_callG GS hr gd rfl mS kS bS .nil pass0 (pa_cons (pv 0) pa_nil)))
    (pss_cons (ps_if (pt_cmpR op_lt (pv 1) pe_int (nomark _)) (pss_one (ps_set (i := 2) scRight3.nd rfl (Or.inl rfl) (pe_ifExp (pt_cmpR op_eq (pv 1) pe_int (nomark _)) (pe_callG GP hr gd rfl mP kP bP .nil pass0 (pa_cons (pv 0) pa_nil)) (pe_callG GW hr gd rfl mW kW bW .nil pass0 (pa_cons (pv 0) pa_nil))))) pss_nil)
    (pss_cons (ps_asg (pv 2) (pg_tup (by rfl) (pgs_cons (pg_name (i := 3) scRight3.nd rfl (Or.inl rfl)) (pgs_cons (pg_name (i := 4) scRight3.nd rfl (Or.inl rfl)) (pgs_cons (pg_name (i := 5) scRight3.nd rfl (Or.inl rfl)) pgs_nil)))))
    (pss_cons (ps_par (X := (cxOf CX0 P w K mg base NRi "_law_right" (defScope s_law_right) f cdv A outer s H E).nox) (i := 6) (j := 7) rfl scRight3.nd rfl rfl (by decide) rfl rfl (pa_cons (pe_callG GF r1 gd (by rfl) mF kF bF .nil pass0 (pa_cons (pv 3) pa_nil)) (pa_cons (pe_callG GT hr gd (by rfl) mT kT bT .nil pass0 (pa_cons (pv 4) pa_nil)) pa_nil)) rfl)
    (pss_cons (ps_if (pt_cmpR (op_neQ hu) (pv 6) (pe_tup pa_nil) (nomark _)) (pss_one (ps_ret (pe_cmpR (op_eqQ hu) (pv 7) (pv 6) (nomark _)))) pss_nil)
    (pss_one (ps_ret (pe_and (pe_cmpR op_eq (pe_ix ix_tup (pv 7) pe_int (fun _ _ => rfl)) pe_str (nomark _)) (pe_one (pe_cmpR op_eq (pe_callTy (call_tell (k := 1) r3) (by rfl) zs (by decide +kernel) (pa_cons (pe_ix ix_tup (pv 7) pe_int (fun _ _ => rfl)) pa_nil)) (pv 5) (nomark _))))))))))), ?_⟩
  refine ⟨_, rfl, d, _, rfl, by decide, by decide, hd, fun r H1 r0 r4 b1 hd1 => ?_⟩
  refine ⟨_, rfl, d, rfl, hd1, tabs_but hT hd b1, fun p H2 b2 hd2 mk2 => ?_⟩
  have b12 := (KpT.but b1).trans b2
  have hT2 : Tabs T H2 := mk3_tabs mk2
  refine name_seq ?_
  refine seq_of (fun σ' H' => KpT d H H' ∧ DeckAt H' d ∧ ∃ p', Mk3At P w K mg base CF cls L T H' p' ∧ σ' = [some (.ref d), some (.int r), some (.ref p'), none, none, none, none, none]) (fun σ' H3 z => ?_) (fun N hN => ?_)
  · obtain ⟨b3, hd3, p3, mk3, rfl⟩ := z
    obtain ⟨l, fl, line, us, ls, G, R, cs, hp, hl, few, pr, ft, hf, run, hcs, tb3, go⟩ := mk3
    refine ⟨_, rfl, p3, _, rfl, SqT.of hp, rfl, _, _, rfl, _, _, rfl, _, _, rfl, rfl, ?_⟩
    refine ⟨_, rfl, l, us, ls, rfl, hl, few, pr, ft, ?_⟩
    cases hq : ls.find? (fun t => !t.2.2) with
    | none =>
      rw [hq] at go
      refine fun pd H4 s4 hpd => ⟨_, rfl, fl, G, R, rfl, s4 _ _ hf, run, go H4 _ _ s4 fun u H5 s5 tx => told_of fun q5 n5 => ?_⟩
      have s6 := same_new n5 (.tup [V.str "told", u])
      have s6 := same_new n5 (.tup [V.str "told", u])
      refine ⟨_, _, rfl, _, rfl, (by show 0 ≤ sizeLine; decide), fun e ne => ?_⟩
      have s7 := same_new ne (.tup [])
      refine ⟨_, _, .tup (s7 _ _ (s6 _ _ (s5 _ _ hpd))) .nil, .tup upd_same .nil, by decide +kernel, by decide +kernel, _, rfl, ?_⟩
      refine iteF ?_
      refine ⟨_, rfl, _, _, _, _, rfl, rfl, SqT.of (s7 _ _ upd_same), rfl, ?_⟩
      refine ⟨rfl, _, rfl, ?_⟩
      rw [decide_eq_true rfl]
      refine iteT ?_
      obtain ⟨a, C, kind, told, inner, ls2, n, rfl, dx, fa, dfa, pm, pi, pl, hC, h1, h2, h3, h4, h5⟩ := tx
      have g1 := s7 _ _ (s6 _ _ h1)
      have g2 := s7 _ _ (s6 _ _ h2)
      refine ⟨_, rfl, _, _, _, _, rfl, rfl, SqT.of (s7 _ _ upd_same), rfl, ?_⟩
      refine ⟨_, rfl, .inr (.inr ⟨a, C, dx, _, spStr C CF, rfl, g1, KL.str C hC, ⟨a, dx, fa, dfa, _, _, line, rfl, g1, rfl, g2, rfl, ?_⟩⟩)⟩
      refine ⟨line, rfl, _, rfl, rfl, ?_⟩
      rw [decide_eq_true rfl]
      refine q _ (fun b o nb _ nt e => ?_) ?_
      · exact s7 _ _ (s6 _ _ (s5 _ _ (s4 _ _ (b3 _ _ nb nt e))))
      · exact Tabs.ext (tabs_more tb3) (s4.trans (s5.trans (s6.trans s7)))
    | some t =>
      rw [hq] at go
      refine fun pd dt H4 s4 fit hpd => ⟨_, rfl, fl, G, R, rfl, s4 _ _ hf, run, go H4 _ _ s4 fun p hpL ep H5 dd s5 nd => ?_⟩
      have hcs4 : ∀ c ∈ cs, ∃ v, H4 c = some (CellO c v) := fun c hc => by
        obtain ⟨v, e⟩ := hcs c hc
        exact ⟨v, s4 _ _ e⟩
      have sx := same_new nd (.xd [("given", t.2.1)])
      have s45 : SameN H4 (upd H5 dd (.xd [("given", t.2.1)])) := fun b o n e => sx _ _ (s5 _ _ (in_less hcs4 e n))
      refine ⟨p, dd, t.2.1, dt, hpL, rfl, rfl, upd_same, Dq.sameN (fun b o n e => s45 _ _ n (s4 _ _ e)) _ _ fit.dq, fit.show_, fit.dep, fit.len, fun q6 n6 => ?_⟩
      have s6 := same_new n6 (.tup [V.str p.1, .str dt.shown])
      refine ⟨_, _, rfl, _, rfl, (by show 0 ≤ sizeLine; decide), fun e ne => ?_⟩
      have s7 := same_new ne (.tup [])
      have hpd7 := s7 _ _ (s6 _ _ (s45 _ (.tup [.str t.1, .str dt.shown]) (fun _ z => nomatch z) hpd))
      have hq7 := s7 _ _ (upd_same (H := upd H5 dd (.xd [("given", t.2.1)])) (a := q6) (o := HO.tup [V.str p.1, .str dt.shown]))
      have sh : SeqAt.shaped (.tuple [.str p.1, .str dt.shown]) = true := shaped2 (hL p hpL) fit.ok
      rw [← ep] at hpd7
      refine ⟨_, _, .tup hpd7 (.cons (.str _) (.cons (.str _) .nil)), .tup upd_same .nil, sh, by decide +kernel, _, rfl, ?_⟩
      refine iteT ?_
      refine ⟨_, rfl, _, rfl, _, _, .tup hq7 (.cons (.str _) (.cons (.str _) .nil)), .tup hpd7 (.cons (.str _) (.cons (.str _) .nil)), sh, sh, ?_⟩
      rw [eqv_self sh]
      refine q _ (fun b o nb n nt e => ?_) ?_
      · exact s7 _ _ (s6 _ _ (s45 _ _ n (s4 _ _ (b3 _ _ nb nt e))))
      · refine Tabs.ext tb3 fun b o e => ?_
        obtain ⟨n, e2⟩ := less_some e
        exact s7 _ _ (s6 _ _ (sx _ _ (s5 _ _ (by rw [less_out n]; exact s4 _ _ e2))))
  · refine ⟨_, rfl, _, _, rfl, rfl, _, rfl, ?_⟩
    refine ite2 (fun c => ?_) (fun c => ?_)
    · refine ⟨_, rfl, rfl, _, rfl, ?_⟩
      refine ite2 (fun c2 => ?_) (fun c2 => ?_)
      · exact ⟨_, rfl, d, rfl, hd2, hT2, fun p' H3 b3 hd3 mk3 => hN _ _ ⟨b12.trans b3, hd3, p', mk3, rfl⟩⟩
      · exact ⟨_, rfl, d, rfl, hd2, hT2, fun p' H3 b3 hd3 mk3 => hN _ _ ⟨b12.trans b3, hd3, p', mk3, rfl⟩⟩
    · exact hN _ _ ⟨b12, hd2, p, mk2, rfl⟩
end
end Wp

namespace LamR
open PySem PySem.Spec PyProof.Rows L2 LamX
/-- `C()` of a class whose making takes any number -/
theorem pe_makeR0 {X : Cx} {CX : CXT} {k : Nat} {f C : Addr} {sp : Sp} {E : XK} {x : Str} {p pos : Pos} (M : Mk X.K C f) (F : FnR X.prog X.w X.K X.mg X.base CX k f sp) (hr : Room (k + 1) X.A) (hg : Gl X x) (hm : X.mg x = some (.ref C)) (hx : Passes CX X E) (hdb : (x == ("__debug__" : Str)) = false := by decide) :
    PE X (.Call (.Name x p) [] [] pos) (StX.tMakeR C sp E tNil) := by
  refine ⟨fun pins s σ H Q I h => ?_⟩
  refine wpAny_Call_Name_kw (ld_glob I hg hm ?_ hdb)
  exact PySem.W.callWith_K0 I.kIn M.kp (StX.run_makeR M F hr hx I .nil h)
end LamR
namespace Wp
open PySem PySem.Spec PyProof.Rows L2 LamX Hx LamR
/-! what the lambdas of _law_weave come to -/
structure NWeave (P : Program) (w : World) (K : PySem.W.Frag) (mg : Str → Option Value) (base : Heap) (CF CE Cn Ce : Addr) (kc : KCls) (cls : Addr → Prop) : Prop where
  own : cls (kc "weave")
  m : mg "Weave" = some (.ref (kc "weave"))
  go : ∃ fI, Mk K (kc "weave") fI ∧ FnR P w K mg base (L2.CX P w) 7 fI (spWeave K CF CE Cn Ce cls)
section
variable {P : Program} {w : World} {K : PySem.W.Frag} {mg : Str → Option Value} {base : Heap} {CF CE Cn Cs Cm Cw Ce : Addr} {kc : KCls} {cls : Addr → Prop}
theorem pe_weave {fr : List Str} {F : LF} {f : Addr} {A : Around} {outer : List Env} {s : Shared} {H : Hp} {E : XK} {e : Expr} {es : List Expr} {t : TA} {p pos : Pos} (N : NWeave P w K mg base CF CE Cn Ce kc cls) (hr : Room 8 (A.deeper (lenv F f s.heap.objs.size)))
    (hg : Gl (lcx P w K mg base fr F f A outer s H E) "Weave") (ha : PA (lcx P w K mg base fr F f A outer s H E) (e :: es) t)
    (he : starEach (e :: es) (lcx P w K mg base fr F f A outer s H E).env = (false, eval e (lcx P w K mg base fr F f A outer s H E).env) :: starEach es (lcx P w K mg base fr F f A outer s H E).env) (hpl : (backTo pos (starEach es (lcx P w K mg base fr F f A outer s H E).env)).any (·.1) = false) :
    PE (lcx P w K mg base fr F f A outer s H E) (.Call (.Name "Weave" p) (e :: es) [] pos) (StX.tMakeR (kc "weave") (spWeave K CF CE Cn Ce cls) E t) := by
  obtain ⟨fI, M, G⟩ := N.go
  have tk' : Takes (lcx P w K mg base fr F f A outer s H E) (fun cls d _ H' => E cls d H') := takes_of rfl rfl rfl rfl
  exact StX.pe_makeR M G hr hg N.m (passes_call tk' fun _ _ _ _ h => h) ha (by decide +kernel) he hpl
theorem pe_weave0 {fr : List Str} {F : LF} {f : Addr} {A : Around} {outer : List Env} {s : Shared} {H : Hp} {E : XK} {p pos : Pos} (N : NWeave P w K mg base CF CE Cn Ce kc cls) (hr : Room 8 (A.deeper (lenv F f s.heap.objs.size)))
    (hg : Gl (lcx P w K mg base fr F f A outer s H E) "Weave") : PE (lcx P w K mg base fr F f A outer s H E) (.Call (.Name "Weave" p) [] [] pos) (StX.tMakeR (kc "weave") (spWeave K CF CE Cn Ce cls) E tNil) := by
  obtain ⟨fI, M, G⟩ := N.go
  have tk' : Takes (lcx P w K mg base fr F f A outer s H E) (fun cls d _ H' => E cls d H') := takes_of rfl rfl rfl rfl
  exact pe_makeR0 M G hr hg N.m (passes_call tk' fun _ _ _ _ h => h) (by decide +kernel)
/-- an inner value, its mark and its text -/
structure Kd where
  v : V
  r : Bool
  x : Str
def lotK (k : Kd) : Lot := ("InvalidExpression", k.v, k.r)
def KdAt (CF : Addr) (cls : Addr → Prop) (H : Hp) (k : Kd) : Prop := KidIs CF cls H k.v k.r k.x
theorem kids_split (nt : ∀ T ∈ (["NoneType", "bool", "int", "str", "list", "tuple", "dict"] : List String), PySem.W.kitOne K (.type T) (.ref CE) = some false) (ix : IsX K CE cls) {H : Hp} : ∀ ks : List Kd, (∀ k ∈ ks, KdAt CF cls H k) →
    (∃ es : List Told, ks.map (·.v) = es.map (fun e => V.ref e.at_) ∧ (∀ e ∈ es, Arg CF cls H e) ∧ es.map (·.text) = ks.map (·.x) ∧ (∀ k ∈ ks, k.r = true) ∧ (ks.map lotK).find? (fun t => !t.2.2) = none) ∨
    (∃ (j : Nat) (k : Kd), ks[j]? = some k ∧ NotExp K CE H k.v ∧ (∀ (i : Nat) (k' : Kd), i < j → ks[i]? = some k' → IsExp K CE H k'.v) ∧ (ks.map lotK).find? (fun t => !t.2.2) = some ((("InvalidExpression" : Str), k.v, false) : Lot))
  | [], _ => .inl ⟨[], rfl, (fun _ h => nomatch h), rfl, (fun _ h => nomatch h), rfl⟩
  | k :: ks, h => by
    rcases kid_arg nt (h k List.mem_cons_self) with ⟨hr, e, hv, ar, tx⟩ | ⟨hr, ne⟩
    · rcases kids_split nt ix ks fun x hx => h x (List.mem_cons_of_mem _ hx) with ⟨es, h1, h2, h3, h4, h5⟩ | ⟨j, k2, h1, h2, h3, h4⟩
      · refine .inl ⟨e :: es, ?_, ?_, ?_, ?_, ?_⟩
        · rw [List.map_cons, List.map_cons, h1, hv]
        · intro x hx
          rcases List.mem_cons.mp hx with rfl | hx
          · exact ar
          · exact h2 x hx
        · rw [List.map_cons, List.map_cons, h3, tx]
        · intro x hx
          rcases List.mem_cons.mp hx with rfl | hx
          · exact hr
          · exact h4 x hx
        · rw [List.map_cons, List.find?_cons, show (lotK k).2.2 = true from hr]
          exact h5
      · refine .inr ⟨j + 1, k2, by simpa using h1, h2, fun i k' hi hk => ?_, ?_⟩
        · cases i with
          | zero =>
            have : k = k' := by simpa using hk
            subst this
            rw [hv]
            exact ar.isx ix
          | succ i => exact h3 i k' (by omega) (by simpa using hk)
        · rw [List.map_cons, List.find?_cons, show (lotK k).2.2 = true from hr]
          exact h4
    · refine .inr ⟨0, k, rfl, ne, (fun i k' hi _ => absurd hi (Nat.not_lt_zero i)), ?_⟩
      rw [List.map_cons, List.find?_cons, show (lotK k).2.2 = false from hr]
      show some (lotK k) = _
      unfold lotK
      rw [hr]
theorem texts_eq : ∀ {ks : List Kd} {ys : List Str}, Paired (fun (k : Kd) y => k.r = true → y = k.x) ks ys → (∀ k ∈ ks, k.r = true) → ys = ks.map (·.x)
  | _, _, .nil, _ => rfl
  | _, _, .cons a t, h => by rw [List.map_cons, a (h _ List.mem_cons_self), texts_eq t fun k hk => h k (List.mem_cons_of_mem _ hk)]
theorem isExp_same {H H' : Hp} {v : V} (h : IsExp K CE H v) (s : Same H H') : IsExp K CE H' v := by
  obtain ⟨t, ty, k⟩ := h
  exact ⟨t, TyX.same ty s, k⟩
def okSize (n : Int) : Bool := decide (2 ≤ n ∧ n ≤ 4)
theorem weave_out (N : NWeave P w K mg base CF CE Cn Ce kc cls) (nt : ∀ T ∈ (["NoneType", "bool", "int", "str", "list", "tuple", "dict"] : List String), PySem.W.kitOne K (.type T) (.ref CE) = some false) (ix : IsX K CE cls)
    {H0 : Hp} {ks : List Kd} {ys : List Str} {args : List V} {n : Nat} (hk : ∀ k ∈ ks, KdAt CF cls H0 k) (hy : Paired (fun (k : Kd) y => k.r = true → y = k.x) ks ys) (hn : args.length = n) (ha : okSize (n : Int) = true → args = ks.map (·.v)) (few : n ≤ 10)
    {cs : List Addr} {H1 : Hp} {Q : VK} {E : XK} (s : Same H0 (less cs H1)) (o : OutIs CF cls (errs5 Cn Cm Cs Cw Ce) cs H1 (("weave(" ++ Str.join ", " ys) ++ ")") Q E (((("InvalidNumber", .int (n : Int), okSize (n : Int)) : Lot) :: ks.map lotK).find? fun t => !t.2.2))
    (x dx : Addr) (hx : less cs H1 x = none) (hdx : less cs H1 dx = none) (ne : dx ≠ x) :
    spWeave K CF CE Cn Ce cls (.ref x :: args) (upd (upd (less cs H1) dx (.own x)) x (.ins (kc "weave") dx [])) (fun v H3 => v = .non ∧ ((∀ c ∈ cs, H3 c = none) → Q (.ref x) (back cs H1 H3))) E := by
  refine ⟨[.ref x], args, rfl, rfl, by rw [hn]; exact small_line (by omega), fun p hp => ?_⟩
  have g := born (C := kc "weave") hx hdx ne
  have g2 := g.trans (same_new hp (.tup args))
  refine ⟨x, dx, kc "weave", p, _, rfl, N.own, upd_other upd_same hp, upd_same, ?_⟩
  rw [List.find?_cons] at o
  cases hok : okSize (n : Int) with
  | true =>
    rw [hok] at o
    have o : OutIs CF cls (errs5 Cn Cm Cs Cw Ce) cs H1 (("weave(" ++ Str.join ", " ys) ++ ")") Q E ((ks.map lotK).find? fun t => !t.2.2) := o
    have e := ha hok
    have b : 2 ≤ (n : Int) ∧ (n : Int) ≤ 4 := of_decide_eq_true hok
    have ln : args.length = ks.length := by rw [e, List.length_map]
    rcases kids_split nt ix ks (fun k hk' => (hk k hk').same s) with ⟨es, h1, h2, h3, h4, h5⟩ | ⟨j, k, h1, h2, h3, h4⟩
    · rw [h5] at o
      have el : es.length = ks.length := by
        have := congrArg List.length h1
        simpa using this.symm
      refine .inl ⟨es, by rw [e, h1], by omega, by omega, fun e' he => (h2 e' he).same g2, ?_⟩
      intro H2 ls bt xp _ _
      refine ⟨rfl, fun free => ?_⟩
      have s2 : Same (less cs H1) H2 := fun c o hc => bt c o (ne_of_none hc hx) (g2 c o hc)
      have et : ys = es.map (·.text) := by
        rw [h3]
        exact texts_eq hy h4
      have tx : spell "weave" (es.map (·.text)) = ("weave(" ++ Str.join ", " ys) ++ ")" := by
        unfold spell
        rw [et, Str.empty_append, show (("weave" : Str) ++ "(") = "weave(" by decide +kernel]
      rw [tx] at xp
      exact o _ _ (same_back s2) ⟨x, _, _, _, _, _, _, rfl, XpAt.back xp free⟩
    · rw [h4] at o
      refine .inr (.inr ⟨by omega, by omega, j, k.v, by rw [e, List.getElem?_map, h1] <;> rfl, fun i y hi hy' => ?_, notExp_same h2 g2, ?_⟩)
      · rw [e, List.getElem?_map] at hy'
        cases q : ks[i]? with
        | none =>
          rw [q] at hy'
          cases hy'
        | some k' =>
          rw [q] at hy'
          have hy' : k'.v = y := Option.some.inj hy'
          subst hy'
          exact isExp_same (h3 i k' hi q) g2
      · exact Tells.same (o ("InvalidExpression", Ce) (by simp [errs5]) rfl) g2
  | false =>
    rw [hok] at o
    have o : ∀ p ∈ errs5 Cn Cm Cs Cw Ce, p.1 = "InvalidNumber" → Tells E p.2 (.int (n : Int)) (less cs H1) := o
    have b : ¬ (2 ≤ (n : Int) ∧ (n : Int) ≤ 4) := of_decide_eq_false hok
    refine .inr (.inl ⟨fun z => b ⟨by omega, by omega⟩, ?_⟩)
    rw [hn]
    exact Tells.same (o ("InvalidNumber", Cn) (by simp [errs5]) rfl) g2
end
end Wp

namespace Wp
open PySem PySem.Spec PyProof.Rows L2 LamX Hx LamR
/-! _law_weave -/
theorem acc_ne {H : Hp} {D p : Addr} {o : HO} {ps : List Addr} (hD : H D = some (.lst (ps.map V.ref))) (e : H p = some o) (n : ∀ qs : List Addr, o ≠ .lst (qs.map V.ref)) : p ≠ D := fun z => by
  rw [z, hD] at e
  exact n ps (Option.some.inj e).symm
section
variable {CF : Addr} {cls : Addr → Prop} {H H' : Hp} {d D : Addr} {ps : List Addr} {o : HO}
theorem OddAt.acc {v : V} (h : OddAt H v) (hD : H D = some (.lst (ps.map V.ref))) : OddAt (upd H D o) v := by
  have k : ∀ {p : Addr} {u : HO}, H p = some u → (∀ qs : List Addr, u ≠ .lst (qs.map V.ref)) → upd H D o p = some u := fun e n => by
    rw [upd_ne (acc_ne hD e n)]
    exact e
  cases h with
  | non => exact .non
  | bl b => exact .bl b
  | int h => exact .int h
  | str h => exact .str h
  | tup0 h => exact .tup0 (k h fun _ z => nomatch z)
  | lst1 h => exact .lst1 (k h fun qs z => by
      cases qs with
      | nil => cases z
      | cons _ _ => cases z)
  | dct0 h => exact .dct0 (k h fun _ z => nomatch z)
  | tup1 h => exact .tup1 (k h fun _ z => nomatch z)
theorem KidIs.acc {v : V} {r : Bool} {x : Str} (h : KidIs CF cls H v r x) (hD : H D = some (.lst (ps.map V.ref))) : KidIs CF cls (upd H D o) v r x := by
  have k : ∀ {p : Addr} {u : HO}, H p = some u → (∀ qs : List Addr, u ≠ .lst (qs.map V.ref)) → upd H D o p = some u := fun e n => by
    rw [upd_ne (acc_ne hD e n)]
    exact e
  rcases h with ⟨a, e, b, kd, t⟩ | ⟨a, od⟩
  · refine .inl ⟨a, e, b, ⟨⟨?_, kd.arg.few, kd.arg.short⟩, kd.short⟩, t⟩
    obtain ⟨dx, fa, dfa, pm, pi, pl, h0, h1, h2, h3, h4, h5⟩ := kd.arg.stands
    exact ⟨dx, fa, dfa, pm, pi, pl, h0, k h1 (fun _ z => nomatch z), k h2 (fun _ z => nomatch z), k h3 (fun _ z => nomatch z), k h4 (fun _ z => nomatch z), k h5 (fun _ z => nomatch z)⟩
  · exact .inr ⟨a, od.acc hD⟩
theorem tabs_acc {T : List (Addr × Str)} (t : Tabs T H) (hD : H D = some (.lst (ps.map V.ref))) : Tabs T (upd H D o) := fun p hp => by
  obtain ⟨vs, a1, a2, a3⟩ := t p hp
  refine ⟨vs, ?_, a2, fun pos cv e => ?_⟩
  · rw [upd_ne (acc_ne hD a1 fun _ z => nomatch z)]
    exact a1
  · obtain ⟨c, e1, e2⟩ := a3 pos cv e
    refine ⟨c, e1, ?_⟩
    rw [upd_ne (acc_ne hD e2 fun _ z => ?_)]
    · exact e2
    · unfold CodeO at z
      cases z
/-- a pair that was drawn -/
def PairAt (CF : Addr) (cls : Addr → Prop) (d : Addr) (H : Hp) (p : Addr) (k : Kd) : Prop := p ≠ d ∧ H p = some (.tup [k.v, .bl k.r]) ∧ KdAt CF cls H k
theorem PairAt.kp {p : Addr} {k : Kd} (h : PairAt CF cls d H p k) (hd : DeckAt H d) (b : KpT d H H') : PairAt CF cls d H' p k := ⟨h.1, b _ _ h.1 (fun _ z => nomatch z) h.2.1, KidIs.kp h.2.2 hd b⟩
theorem PairAt.same {p : Addr} {k : Kd} (h : PairAt CF cls d H p k) (s : Same H H') : PairAt CF cls d H' p k := ⟨h.1, s _ _ h.2.1, KidIs.same h.2.2 s⟩
theorem PairAt.acc {p : Addr} {k : Kd} (h : PairAt CF cls d H p k) (hD : H D = some (.lst (ps.map V.ref))) : PairAt CF cls d (upd H D o) p k := by
  refine ⟨h.1, ?_, KidIs.acc h.2.2 hD⟩
  rw [upd_ne (acc_ne hD h.2.1 fun _ z => nomatch z)]
  exact h.2.1
end
theorem deck_ne_acc {H : Hp} {d D : Addr} {ps : List Addr} (hd : DeckAt H d) (hD : H D = some (.lst (ps.map V.ref))) : d ≠ D := by
  obtain ⟨a, m, c, _, _, e⟩ := hd
  refine acc_ne hD e fun qs z => ?_
  cases qs with
  | nil => cases z
  | cons _ _ => cases z
theorem cut_take {xs : List V} {n : Nat} : cutV xs none (some (n : Int)) = xs.take n := by
  unfold cutV
  have e0 : HT.sIx xs.length 0 none = 0 := rfl
  rw [e0, List.drop_zero, Nat.sub_zero]
  have e1 : HT.sIx xs.length xs.length (some (n : Int)) = min n xs.length := by
    unfold HT.sIx
    simp
    intro z
    omega
  rw [e1]
  rw [List.take_eq_take_iff]
  omega
end Wp

namespace Wp
open PySem PySem.Spec PyProof.Rows L2 LamX Hx LamR
def NWe : List Str := ["_law_deck_here", "_law_kids", "_law_size", "_law_lots", "_law_line", "_law_one", "_law_two", "_law_three", "_law_four", "_law_k", "_law_kid_here"]
theorem scWeaveL : FnScope NWe ["_law_deck_here"] (defScope s_law_weave) := ⟨rfl, rfl, rfl, by decide +kernel, rfl, by decide +kernel, by decide +kernel⟩
theorem cells_weave : ∀ j ∈ [2, 5, 6, 7, 8], ∃ y, NWe[j]? = some y ∧ (defScope s_law_weave).names.lookup y = some .cell := by
  intro j hj
  simp only [List.mem_cons, List.not_mem_nil, or_false] at hj
  rcases hj with rfl | rfl | rfl | rfl | rfl <;> exact ⟨_, rfl, rfl⟩
def tbW01 (K : PySem.W.Frag) (CF CE Cn Ce : Addr) (cls : Addr → Prop) (kc : KCls) : XK → TE := fun E => tIf (tTest (tOp rEq (tVar 0) (tC (.int 0)))) (StX.tMakeR (kc "weave") (spWeave K CF CE Cn Ce cls) E tNil) (StX.tMakeR (kc "weave") (spWeave K CF CE Cn Ce cls) E (tCons (tVar 1) tNil))
def tbW2 (K : PySem.W.Frag) (CF CE Cn Ce : Addr) (cls : Addr → Prop) (kc : KCls) : XK → TE := fun E => StX.tMakeR (kc "weave") (spWeave K CF CE Cn Ce cls) E (tCons (tVar 0) (tCons (tVar 1) tNil))
def tbW3 (K : PySem.W.Frag) (CF CE Cn Ce : Addr) (cls : Addr → Prop) (kc : KCls) : XK → TE := fun E => StX.tMakeR (kc "weave") (spWeave K CF CE Cn Ce cls) E (tCons (tVar 0) (tCons (tVar 1) (tCons (tVar 2) tNil)))
def tbW4 (K : PySem.W.Frag) (CF CE Cn Ce : Addr) (cls : Addr → Prop) (kc : KCls) : XK → TE := fun E => StX.tMakeR (kc "weave") (spWeave K CF CE Cn Ce cls) E (tCons (tVar 0) (tCons (tVar 1) (tCons (tVar 2) (tCons (tVar 3) tNil))))
def tbW5 (K : PySem.W.Frag) (CF CE Cn Ce : Addr) (cls : Addr → Prop) (kc : KCls) : XK → TE := fun E => StX.tMakeR (kc "weave") (spWeave K CF CE Cn Ce cls) E (tCons (tVar 0) (tCons (tVar 1) (tCons (tVar 2) (tCons (tVar 3) (tCons (tVar 0) tNil)))))
theorem lots_pair {H : Hp} : ∀ {cs : List Addr} {ks : List Kd}, Paired (fun c (k : Kd) => H c = some (.tup [.str "InvalidExpression", k.v, .bl k.r])) cs ks → Paired (LotAt H) (cs.map V.ref) (ks.map lotK)
  | _, _, .nil => .nil
  | _, _, .cons a t => .cons ⟨_, rfl, a⟩ (lots_pair t)
theorem fit_size {H : Hp} {m : Nat} (h : m < 6) : ∃ d, Fit H (.int (m : Int)) d := by
  have : m = 0 ∨ m = 1 ∨ m = 2 ∨ m = 3 ∨ m = 4 ∨ m = 5 := by omega
  rcases this with rfl | rfl | rfl | rfl | rfl | rfl <;> exact ⟨_, fit_small (.int _) (by decide +kernel)⟩
theorem chain_go {H : Hp} {σ : L2.St} {i : Nat} {n : Int} {Q : VK} (h : σ[i]? = some (some (.int n))) (q : Q (.bl (okSize n)) H) :
    tChain (rI0 fun i j => V.bl (decide (i ≤ j))) (rI0 fun i j => V.bl (decide (i ≤ j))) (tC (.int 2)) (tVar i) (tC (.int 4)) σ H Q := by
  refine ⟨_, h, _, _, rfl, rfl, _, rfl, ?_⟩
  by_cases a : 2 ≤ n
  · rw [decide_eq_true a]
    refine iteT ⟨_, _, rfl, rfl, ?_⟩
    show Q (.bl (decide (n ≤ 4))) H
    by_cases b : n ≤ 4
    · have e : okSize n = true := decide_eq_true ⟨a, b⟩
      rw [e] at q
      rw [decide_eq_true b]
      exact q
    · have e : okSize n = false := decide_eq_false fun z => b z.2
      rw [e] at q
      rw [decide_eq_false b]
      exact q
  · have e : okSize n = false := decide_eq_false fun z => a z.1
    rw [e] at q
    rw [decide_eq_false a]
    exact iteF q
theorem sum_le {ys : List Str} (h : ∀ y ∈ ys, y.length ≤ 1000) : (ys.map (·.length)).sum ≤ ys.length * 1000 := by
  induction ys with
  | nil => exact Nat.zero_le _
  | cons y ys ih =>
    have h1 := h y List.mem_cons_self
    have h2 := ih fun x hx => h x (List.mem_cons_of_mem _ hx)
    simp only [List.map_cons, List.sum_cons, List.length_cons, Nat.succ_mul]
    omega
theorem paired_take {α β : Type} {R : α → β → Prop} : ∀ (n : Nat) {as : List α} {bs : List β}, Paired R as bs → Paired R (as.take n) (bs.take n)
  | 0, _, _, _ => .nil
  | _ + 1, _, _, .nil => .nil
  | n + 1, _, _, .cons a t => .cons a (paired_take n t)
theorem paired_all {α β : Type} {R : α → β → Prop} {S : β → Prop} (h : ∀ a b, R a b → S b) : ∀ {as : List α} {bs : List β}, Paired R as bs → ∀ b ∈ bs, S b
  | _, _, .nil, _, hb => nomatch hb
  | _, _, .cons a t, b, hb => by
    rcases List.mem_cons.mp hb with rfl | hb
    · exact h _ _ a
    · exact paired_all h t b hb
section
variable {P : Program} {w : World} {K : PySem.W.Frag} {mg : Str → Option Value} {base : Heap} {f c TP fC fK CF CE Cn Cs Cm Cw Ce : Addr} {fd fdC fdK : FuncData} {kc : KCls} {cls : Addr → Prop} {T : List (Addr × Str)}
theorem ok_weaveL (F : FunC K "_law_weave" "_law_weave" s_law_weave f fd c) (zs : mg "str" = none) (zr : mg "range" = none) (hm : Mods base) (TB : TabB base mg c TP) (hT1 : ((TP, "_law_weave" ++ ".<locals>." ++ "<lambda>") : Addr × Str) ∈ T) (hT2 : ∀ p ∈ T, p.1 = TP → p.2 = "_law_weave" ++ ".<locals>." ++ "<lambda>")
    (KL : Kls P w K mg base CF cls) (N : NWeave P w K mg base CF CE Cn Ce kc cls) (nt : ∀ T ∈ (["NoneType", "bool", "int", "str", "list", "tuple", "dict"] : List String), PySem.W.kitOne K (.type T) (.ref CE) = some false) (ix : IsX K CE cls)
    (GC : FnOk P w K mg base CX0 1 fC fdC ["_law_deck_here", "_law_top"] spCard) (bC : Binds K fdC ["_law_deck_here", "_law_top"] []) (kC : PySem.W.keepIn K (.ref fC) = true) (mC : mg "_law_card" = some (.ref fC))
    (GK : FnOk P w K mg base CX0 9 fK fdK ["_law_deck_here"] (spKid CF cls)) (bK : Binds K fdK ["_law_deck_here"] []) (kK : PySem.W.keepIn K (.ref fK) = true) (mK : mg "_law_kid" = some (.ref fK)) :
    GOk P w K mg base CX0 10 f fd ["_law_deck_here"] (spMk3 P w K mg base CF cls (errs5 Cn Cm Cs Cw Ce) T) := by
  refine gokL F scWeaveL [2, 5, 6, 7, 8] cells_weave (by decide) (fun vs H Q E h => ?_) (fun A outer s H vs Q E hr gd h => ?_)
  · obtain ⟨d, rfl, _⟩ := h
    rfl
  obtain ⟨d, rfl, hd, hT, q⟩ := h
  have hu : (A.deeper (envOfC "_law_weave" (defScope s_law_weave) s.heap.objs.size f (.ref c))).units + 64 < cLine := hr.units
  have r1 := hr.mono (by decide : 1 ≤ 9)
  have r3 := hr.mono (by decide : 3 ≤ 9)
  refine ⟨_, psc_cons (ps_setLc (i := 1) (te := tCall (spKid CF cls) [] E0 (tCons (tVar 0) tNil)) (own := [("_law_k", 9)]) (g := gName 9) (tt := tYes) rfl scWeaveL.nd rfl rfl (sw_true rfl rfl rfl rfl) (pi_range1 rfl zr (pa_cons pe_int pa_nil))
        (blkOk_by (N := NWe) (sc := defScope s_law_weave) (by decide +kernel)) (fun _ _ _ _ _ => pg_name (i := 9) scWeaveL.nd rfl (Or.inl rfl)) (fun _ _ _ _ _ => pts_nil)
        (fun _ _ _ _ _ => pe_call GK hr rfl mK kK bK .nil pass0 (pa_cons (pv 0) pa_nil)))
    (psc_cons (ps_set (i := 2) scWeaveL.nd rfl (Or.inr rfl) (pe_call GC r1 rfl mC kC bC .nil pass0 (pa_cons (pv 0) (pa_cons pe_int pa_nil))))
    (psc_cons (ps_set (i := 3) scWeaveL.nd rfl (Or.inl rfl) (pe_op op_cat (pe_lst (pa_cons (pe_tup (pa_cons pe_str (pa_cons (pv 2) (pa_cons (pe_chain op_le op_le pe_int (pv 2) pe_int) pa_nil)))) pa_nil))
        (pe_lc (te := tOp (rCatT K) (tTup (tCons (tC (.str "InvalidExpression")) tNil)) (tVar 10)) (own := [("_law_kid_here", 10)]) (g := gName 10) (tt := tYes) rfl scWeaveL.nd (pi_list (pe_slice sl_list (pv 1) po_none (po_some (pv 2))))
          (blkOk_by (N := NWe) (sc := defScope s_law_weave) (by decide +kernel)) (fun _ _ _ _ _ => pg_name (i := 10) scWeaveL.nd rfl (Or.inl rfl)) (fun _ _ _ _ _ => pts_nil)
          (fun _ _ _ _ _ => pe_op op_catT (pe_tup (pa_cons pe_str pa_nil)) (pv 10)))))
    (psc_cons (ps_set (i := 4) scWeaveL.nd rfl (Or.inl rfl) (pe_op op_add_str (pe_op op_add_str pe_str (pe_join pe_str
        (pe_lc (te := tCB (rStrA P w K mg base 1) (tCons (tOp (rIxT K) (tVar 10) (tC (.int 0))) tNil)) (own := [("_law_kid_here", 10)]) (g := gName 10) (tt := tYes) rfl scWeaveL.nd (pi_list (pe_slice sl_list (pv 1) po_none (po_some (pv 2))))
          (blkOk_by (N := NWe) (sc := defScope s_law_weave) (by decide +kernel)) (fun _ _ _ _ _ => pg_name (i := 10) scWeaveL.nd rfl (Or.inl rfl)) (fun _ _ _ _ _ => pts_nil)
          (fun _ _ _ _ _ => pe_callTy (call_strA (k := 1) gd hu hm r3) (by rfl) zs (by decide +kernel) (pa_cons (pe_ix ix_tup (pv 10) pe_int (fun _ _ => rfl)) pa_nil))))) pe_str))
    (psc_cons (ps_asg (pe_lc (te := tOp (rIxT K) (tVar 10) (tC (.int 0))) (own := [("_law_kid_here", 10)]) (g := gName 10) (tt := tYes) rfl scWeaveL.nd (pi_list (pv 1))
          (blkOk_by (N := NWe) (sc := defScope s_law_weave) (by decide +kernel)) (fun _ _ _ _ _ => pg_name (i := 10) scWeaveL.nd rfl (Or.inl rfl)) (fun _ _ _ _ _ => pts_nil)
          (fun _ _ _ _ _ => pe_ix ix_tup (pv 10) pe_int (fun _ _ => rfl)))
        (pg_unl (by rfl) (pgs_cons (pg_name (i := 5) scWeaveL.nd rfl (Or.inr rfl)) (pgs_cons (pg_name (i := 6) scWeaveL.nd rfl (Or.inr rfl)) (pgs_cons (pg_name (i := 7) scWeaveL.nd rfl (Or.inr rfl)) (pgs_cons (pg_name (i := 8) scWeaveL.nd rfl (Or.inr rfl)) pgs_nil))))))
    (psc_if (pt_cmpR op_lt (pv 2) pe_int (nomark _)) (psc_ret (pe_tup (pa_cons (pv 3) (pa_cons (pe_lamR (T := T) TB rfl hT1 hT2 rfl (lamS_by (sc := defScope s_law_weave) (by decide +kernel))) (pa_cons (pv 4) pa_nil)))))
    (psc_if (pt_cmpR op_eq (pv 2) pe_int (nomark _)) (psc_ret (pe_tup (pa_cons (pv 3) (pa_cons (pe_lamR (T := T) TB rfl hT1 hT2 rfl (lamS_by (sc := defScope s_law_weave) (by decide +kernel))) (pa_cons (pv 4) pa_nil)))))
    (psc_if (pt_cmpR op_eq (pv 2) pe_int (nomark _)) (psc_ret (pe_tup (pa_cons (pv 3) (pa_cons (pe_lamR (T := T) TB rfl hT1 hT2 rfl (lamS_by (sc := defScope s_law_weave) (by decide +kernel))) (pa_cons (pv 4) pa_nil)))))
    (psc_if (pt_cmpR op_eq (pv 2) pe_int (nomark _)) (psc_ret (pe_tup (pa_cons (pv 3) (pa_cons (pe_lamR (T := T) TB rfl hT1 hT2 rfl (lamS_by (sc := defScope s_law_weave) (by decide +kernel))) (pa_cons (pv 4) pa_nil)))))
    (psc_ret (pe_tup (pa_cons (pv 3) (pa_cons (pe_lamR (T := T) TB rfl hT1 hT2 rfl (lamS_by (sc := defScope s_law_weave) (by decide +kernel))) (pa_cons (pv 4) pa_nil))))))))))))), ?_⟩
  refine ⟨4, rfl, by decide, by decide, fun D hD => ?_⟩
  have dD : d ≠ D := by
    obtain ⟨a, m, c, _, _, e⟩ := hd
    exact ne_of_none e hD
  refine lc_range (lo := 0) (n := (4 : Int).toNat) (fun i H' => ∃ (ps : List Addr) (ks : List Kd), ps.length = i ∧ H' D = some (.lst (ps.map V.ref)) ∧ KpT d H H' ∧ DeckAt H' d ∧ Tabs T H' ∧ Paired (PairAt CF cls d H') ps ks)
    ⟨[], [], rfl, upd_same, KpT.same (same_new hD _), DeckAt.same (same_new hD _) hd, Tabs.ext hT (same_new hD _), .nil⟩ ?_ ?_
  · rintro i H' hi ⟨ps, ks, li, hD', kp', hd', tb', pr⟩
    refine ⟨rfl, turn_yes ?_⟩
    refine ⟨_, rfl, d, rfl, hd', fun p v r H2 b hd2 ne hp k => ?_⟩
    obtain ⟨x, k⟩ := k.is
    have hD2 := b _ _ (Ne.symm dD) hD'
    have k2 : PairAt CF cls d H2 p ⟨v, r, x⟩ := ⟨ne, hp, k⟩
    have pr2 : Paired (PairAt CF cls d H2) ps ks := Paired.mono (fun u t h => h.kp hd' (KpT.but b)) pr
    refine ⟨_, hD2, ?_, ps ++ [p], ks ++ [⟨v, r, x⟩], by rw [List.length_append, li] <;> rfl, ?_, ?_, ?_, tabs_acc (tabs_but tb' hd' b) hD2, Paired.snoc (Paired.mono (fun u t h => h.acc hD2) pr2) (k2.acc hD2)⟩
    · rw [List.length_map, li]
      exact Nat.lt_of_lt_of_le (by have : i < 4 := hi; omega : i < 1000) (small_line (Nat.le_refl _))
    · rw [upd_same, List.map_append] <;> rfl
    · intro b0 o0 nb nt0 e0
      rw [upd_ne (ne_of_none e0 hD)]
      exact b _ _ nb (kp' _ _ nb nt0 e0)
    · obtain ⟨a, m, c, h1, h2, e⟩ := hd2
      exact ⟨a, m, c, h1, h2, by rw [upd_ne dD]; exact e⟩
  rintro H1 ⟨ps, ks, l4, hD1, kp1, hd1, tb1, pr⟩
  have l4 : ps.length = 4 := l4
  refine ⟨_, rfl, d, _, rfl, by decide, by decide, hd1, fun n H2 n0 n6 b2 hd2 => ?_⟩
  obtain ⟨m, rfl⟩ := Int.eq_ofNat_of_zero_le n0
  have hD2 := b2 _ _ (Ne.symm dD) hD1
  have pr : Paired (PairAt CF cls d H2) ps ks := Paired.mono (fun u t h => h.kp hd1 (KpT.but b2)) pr
  have tb2 := tabs_but tb1 hd1 b2
  have kp2 := kp1.trans (KpT.but b2)
  clear hT tb1 kp1 hd hD1
  refine ⟨_, rfl, chain_go rfl ?_⟩
  refine ⟨(by show 3 ≤ sizeLine; decide), fun a1 n1 => ⟨(by show 1 ≤ sizeLine; decide), fun l1 nl1 => ?_⟩⟩
  have s3 := (same_new n1 (.tup [V.str "InvalidNumber", .int (m : Int), .bl (okSize (m : Int))])).trans (same_new nl1 (.lst [V.ref a1]))
  have ha1 := same_new nl1 (.lst [V.ref a1]) _ _ (upd_same (a := a1) (o := HO.tup [V.str "InvalidNumber", .int (m : Int), .bl (okSize (m : Int))]))
  have hl1 := upd_same (H := upd H2 a1 (.tup [V.str "InvalidNumber", .int (m : Int), .bl (okSize (m : Int))])) (a := l1) (o := HO.lst [V.ref a1])
  have hD3 := s3 _ _ hD2
  have pr : Paired (PairAt CF cls d _) ps ks := Paired.mono (fun u t h => h.same s3) pr
  have tb3 := Tabs.ext tb2 s3
  have kp3 := kp2.trans (KpT.same s3)
  have hd3 := DeckAt.same s3 hd2
  clear tb2 kp2 hD2
  generalize upd (upd H2 a1 (.tup [V.str "InvalidNumber", .int (m : Int), .bl (okSize (m : Int))])) l1 (.lst [V.ref a1]) = H3 at *
  refine ⟨_, rfl, _, rfl, _, rfl, D, _, rfl, SqL.of hD3, fun q0 nq => ?_⟩
  rw [cut_take, ← List.map_take]
  refine ⟨q0, rfl, ⟨_, SqL.of upd_same⟩, fun D2 hD2 => ?_⟩
  have s4 := same_new nq (.lst ((ps.take m).map V.ref))
  have prt : Paired (PairAt CF cls d H3) (ps.take m) (ks.take m) := paired_take m pr
  have lt4 : (ps.take m).length ≤ 4 := by
    rw [List.length_take]
    omega
  refine lc_list (K := K) (a := q0) (xs := (ps.take m).map V.ref) (fun i H' => Same (upd H3 q0 (.lst ((ps.take m).map V.ref))) H' ∧ ∃ cs : List Addr, H' D2 = some (.lst (cs.map V.ref)) ∧ Paired (fun c (k : Kd) => H' c = some (.tup [.str "InvalidExpression", k.v, .bl k.r])) cs ((ks.take m).take i))
    ⟨same_new hD2 _, [], upd_same, .nil⟩ (fun i H' _ h => SqL.of (h.1 _ _ upd_same)) ?_ ?_
  · rintro i x H' hx ⟨s5, cs, hc, pc⟩
    rw [List.getElem?_map] at hx
    cases hp : (ps.take m)[i]? with
    | none =>
      rw [hp] at hx
      cases hx
    | some p =>
      rw [hp] at hx
      have hx : V.ref p = x := Option.some.inj hx
      subst hx
      obtain ⟨k, hk, pk⟩ := paired_get prt hp
      have hp' := s5 _ _ (s4 _ _ pk.2.1)
      have ic : cs.length = i := by
        have := pc.length
        rw [this, List.length_take]
        have := (List.getElem?_eq_some_iff.mp hk).1
        omega
      have i4 : i < 4 := by
        have := (List.getElem?_eq_some_iff.mp hp).1
        omega
      refine ⟨rfl, turn_yes ?_⟩
      refine ⟨(by show 1 ≤ sizeLine; decide), fun t nt => ⟨_, rfl, t, p, _, _, rfl, rfl, SqT.of upd_same, SqT.of (same_new nt _ _ _ hp'), (fun z => nomatch z), (by show 3 ≤ sizeLine; decide), (fun z => nomatch z), fun _ c nc => ?_⟩⟩
      have s6 := (same_new nt (.tup [V.str "InvalidExpression"])).trans (same_new nc (.tup ([V.str "InvalidExpression"] ++ [k.v, .bl k.r])))
      have hc2 := s6 _ _ hc
      refine ⟨_, hc2, ?_, fun b o e => ?_, cs ++ [c], ?_, ?_⟩
      · rw [List.length_map, ic]
        exact Nat.lt_of_lt_of_le (by omega : i < 1000) (small_line (Nat.le_refl _))
      · rw [upd_ne (ne_of_none e hD2)]
        exact s6 _ _ (s5 _ _ e)
      · rw [upd_same, List.map_append] <;> rfl
      · rw [List.take_add_one, hk]
        refine Paired.snoc (Paired.mono (fun u t h => ?_) pc) ?_
        · rw [upd_ne (acc_ne hc2 (s6 _ _ h) fun _ z => nomatch z)]
          exact s6 _ _ h
        · rw [upd_ne (acc_ne hc2 (upd_same (a := c) (o := HO.tup ([V.str "InvalidExpression"] ++ [k.v, .bl k.r]))) fun _ z => nomatch z)]
          exact upd_same
  rintro H4 ⟨s5, cs, hc, pc⟩
  have s34 := s4.trans s5
  have pr : Paired (PairAt CF cls d H4) ps ks := Paired.mono (fun u t h => h.same s34) pr
  have lcs : cs.length ≤ 4 := by
    rw [pc.length, List.length_take, List.length_take, ← pr.length]
    omega
  have pc : Paired (fun c (k : Kd) => H4 c = some (.tup [.str "InvalidExpression", k.v, .bl k.r])) cs (ks.take m) := by
    have e : (ks.take m).take ((ps.take m).map V.ref).length = ks.take m := by
      rw [List.take_of_length_le]
      rw [List.length_map, List.length_take, List.length_take, pr.length]
      exact Nat.le_refl _
    rw [e] at pc
    exact pc
  refine ⟨l1, D2, _, _, rfl, rfl, s34 _ _ hl1, hc, ?_, fun l2 nl2 => ?_⟩
  · rw [List.length_map]
    exact small_line (by show 1 + cs.length ≤ 1000; omega)
  have s5' := same_new nl2 (.lst ([V.ref a1] ++ cs.map V.ref))
  have sA := s34.trans s5'
  have hl2 := upd_same (H := H4) (a := l2) (o := HO.lst ([V.ref a1] ++ cs.map V.ref))
  have pr : Paired (PairAt CF cls d _) ps ks := Paired.mono (fun u t h => h.same s5') pr
  have pc := Paired.mono (fun u t h => s5' _ _ h) pc
  have ha1 := sA _ _ ha1
  have hD3 := sA _ _ hD3
  have tb5 := Tabs.ext tb3 sA
  have kp5 := kp3.trans (KpT.same sA)
  have hd5 := DeckAt.same sA hd3
  clear tb3 kp3 hd3 hl1 prt s34 s5 s4
  generalize upd H4 l2 (.lst ([V.ref a1] ++ cs.map V.ref)) = H5 at *
  refine ⟨⟨_, rfl⟩, _, rfl, _, rfl, _, rfl, D, _, rfl, SqL.of hD3, fun q1 nq1 => ?_⟩
  rw [cut_take, ← List.map_take]
  refine ⟨q1, rfl, ⟨_, SqL.of upd_same⟩, fun D3 hD3' => ?_⟩
  have s4 := same_new nq1 (.lst ((ps.take m).map V.ref))
  have prt : Paired (PairAt CF cls d H5) (ps.take m) (ks.take m) := paired_take m pr
  refine lc_list (K := K) (a := q1) (xs := (ps.take m).map V.ref) (fun i H' => Same (upd H5 q1 (.lst ((ps.take m).map V.ref))) H' ∧ ∃ ys : List Str, H' D3 = some (.lst (ys.map V.str)) ∧ Paired (fun (k : Kd) y => (k.r = true → y = k.x) ∧ y.length ≤ 1000) ((ks.take m).take i) ys)
    ⟨same_new hD3' _, [], upd_same, .nil⟩ (fun i H' _ h => SqL.of (h.1 _ _ upd_same)) ?_ ?_
  · rintro i x H' hx ⟨s5, ys, hc, py⟩
    rw [List.getElem?_map] at hx
    cases hp : (ps.take m)[i]? with
    | none =>
      rw [hp] at hx
      cases hx
    | some p =>
      rw [hp] at hx
      have hx : V.ref p = x := Option.some.inj hx
      subst hx
      obtain ⟨k, hk, pk⟩ := paired_get prt hp
      have pk := pk.same (s4.trans s5)
      have ic : ys.length = i := by
        rw [← py.length, List.length_take]
        have := (List.getElem?_eq_some_iff.mp hk).1
        omega
      have i4 : i < 4 := by
        have := (List.getElem?_eq_some_iff.mp hp).1
        omega
      refine ⟨rfl, turn_yes ?_⟩
      refine ⟨_, rfl, p, _, _, _, rfl, rfl, SqT.of pk.2.1, rfl, shows_go (kid_shows KL pk.2.2) fun y hy ly => ?_⟩
      refine ⟨_, hc, ?_, fun b o e => ?_, ys ++ [y], ?_, ?_⟩
      · rw [List.length_map, ic]
        exact Nat.lt_of_lt_of_le (by omega : i < 1000) (small_line (Nat.le_refl _))
      · rw [upd_ne (ne_of_none e hD3')]
        exact s5 _ _ e
      · rw [upd_same, List.map_append] <;> rfl
      · rw [List.take_add_one, hk]
        exact Paired.snoc py ⟨hy, ly⟩
  rintro H6 ⟨s6, ys, hys, py⟩
  have sB := s4.trans s6
  have pr : Paired (PairAt CF cls d H6) ps ks := Paired.mono (fun u t h => h.same sB) pr
  have py : Paired (fun (k : Kd) y => (k.r = true → y = k.x) ∧ y.length ≤ 1000) (ks.take m) ys := by
    have e : (ks.take m).take ((ps.take m).map V.ref).length = ks.take m := by
      rw [List.take_of_length_le]
      rw [List.length_map, List.length_take, List.length_take, pr.length]
      exact Nat.le_refl _
    rw [e] at py
    exact py
  have ly4 : ys.length ≤ 4 := by
    rw [← py.length, List.length_take, ← pr.length]
    omega
  have sy : (ys.map (·.length)).sum ≤ ys.length * 1000 := sum_le fun y hy => paired_all (fun _ _ h => h.2) py y hy
  have sz : ∀ n : Nat, n ≤ 100000 → n ≤ sizeLine := fun n h => Nat.le_trans h (by decide)
  have lc : (", " : Str).length = 2 := by decide +kernel
  have lp : (")" : Str).length = 1 := by decide +kernel
  have lw : ("weave(" : Str).length = 6 := by decide +kernel
  have lj := join_len ", " ys
  rw [lc] at lj
  refine ⟨", ", D3, ys, rfl, rfl, .inl (SqL.of hys), by rw [lc]; omega, ?_⟩
  rw [TL.join_eq]
  refine ⟨_, _, rfl, rfl, sz _ (by omega), ⟨_, _, rfl, rfl, sz _ (by simp only [PySem.Str.length_append]; omega), ?_⟩⟩
  have pc := Paired.mono (fun u t h => sB _ _ h) pc
  have ha1 := sB _ _ ha1
  have hD3 := sB _ _ hD3
  have hl2 := sB _ _ hl2
  have tb6 := Tabs.ext tb5 sB
  have kp6 := kp5.trans (KpT.same sB)
  have hd6 := DeckAt.same sB hd5
  have hy : Paired (fun (k : Kd) y => k.r = true → y = k.x) (ks.take m) ys := Paired.mono (fun u t h => h.1) py
  clear tb5 kp5 hd5 prt sB s4 s6 hys py lj sy
  refine ⟨_, rfl, D, rfl, ⟨_, SqL.of hD3⟩, fun D4 hD4 => ?_⟩
  refine lc_list (K := K) (a := D) (xs := ps.map V.ref) (fun i H' => Same H6 H' ∧ H' D4 = some (.lst ((ks.take i).map (·.v))))
    ⟨same_new hD4 _, upd_same⟩ (fun i H' _ h => SqL.of (h.1 _ _ hD3)) ?_ ?_
  · rintro i x H' hx ⟨s5, hc⟩
    rw [List.getElem?_map] at hx
    cases hp : ps[i]? with
    | none =>
      rw [hp] at hx
      cases hx
    | some p =>
      rw [hp] at hx
      have hx : V.ref p = x := Option.some.inj hx
      subst hx
      obtain ⟨k, hk, pk⟩ := paired_get pr hp
      have pk := pk.same s5
      have i4 : i < 4 := by
        have := (List.getElem?_eq_some_iff.mp hp).1
        omega
      refine ⟨rfl, turn_yes ?_⟩
      refine ⟨_, rfl, p, _, _, _, rfl, rfl, SqT.of pk.2.1, rfl, ?_⟩
      refine ⟨_, hc, ?_, fun b o e => ?_, ?_⟩
      · rw [List.length_map, List.length_take]
        exact Nat.lt_of_lt_of_le (by omega : min i ks.length < 1000) (small_line (Nat.le_refl _))
      · rw [upd_ne (ne_of_none e hD4)]
        exact s5 _ _ e
      · rw [upd_same, List.take_add_one, hk, List.map_append] <;> rfl
  rintro H7 ⟨s7, h4⟩
  have lk : ks.length = 4 := by rw [← pr.length, l4]
  rw [List.length_map, l4, ← lk, List.take_length] at h4
  have pr : Paired (PairAt CF cls d H7) ps ks := Paired.mono (fun u t h => h.same s7) pr
  have hk : ∀ k ∈ ks, KdAt CF cls H7 k := paired_all (fun _ _ h => h.2.2) pr
  have pc := Paired.mono (fun u t h => s7 _ _ h) pc
  have ha1 := s7 _ _ ha1
  have hl2 := s7 _ _ hl2
  have tb7 := Tabs.ext tb6 s7
  have kp7 := kp6.trans (KpT.same s7)
  have hd7 := DeckAt.same s7 hd6
  obtain ⟨k1, k2, k3, k4, rfl⟩ : ∃ k1 k2 k3 k4, ks = [k1, k2, k3, k4] := by
    match ks, lk with
    | [a, b, c, d], _ => exact ⟨a, b, c, d, rfl⟩
  clear pr hD3 tb6 kp6 hd6
  refine ⟨D4, _, rfl, SqL.of h4, rfl, _, _, rfl, _, _, rfl, _, _, rfl, _, _, rfl, rfl, ?_⟩
  have fewl : ([V.ref a1] ++ cs.map V.ref).length ≤ 10 := by
    rw [List.length_append, List.length_map]
    show 1 + cs.length ≤ 10
    omega
  have prl : Paired (LotAt H7) ([V.ref a1] ++ cs.map V.ref) (((("InvalidNumber" : Str), V.int (m : Int), okSize (m : Int)) : Lot) :: (([k1, k2, k3, k4] : List Kd).take m).map lotK) := .cons ⟨a1, rfl, ha1⟩ (lots_pair pc)
  have hkt : ∀ k ∈ ([k1, k2, k3, k4] : List Kd).take m, KdAt CF cls H7 k := fun k h => hk k (List.mem_of_mem_take h)
  have hko : ∀ H0, KpT d H7 H0 → ∀ k ∈ ([k1, k2, k3, k4] : List Kd).take m, KdAt CF cls H0 k := fun H0 k0 k h => KidIs.kp (hkt k h) hd7 k0
  have m6 : m < 6 := by omega
  have fit : ∀ H0, KpT d H7 H0 → ∀ t ∈ (((("InvalidNumber" : Str), V.int (m : Int), okSize (m : Int)) : Lot) :: (([k1, k2, k3, k4] : List Kd).take m).map lotK), t.2.2 = false → ∃ d, Fit H0 t.2.1 d := fun H0 k0 t ht e => by
    rcases List.mem_cons.mp ht with rfl | ht
    · exact fit_size m6
    · obtain ⟨k, h1, rfl⟩ := List.mem_map.mp ht
      exact kid_fit (hko H0 k0 k h1) e
  refine ⟨_, rfl, _, _, rfl, rfl, _, rfl, ?_⟩
  refine ite2 (fun z1 => ?_) (fun z1 => ?_)
  · have m2 : (m : Int) < 2 := of_decide_eq_true z1
    refine ⟨_, rfl, tb7, fun fl cc H8 ext tabs nf hcc => ⟨_, rfl, (by show 3 ≤ sizeLine; decide), fun p np H9 L => ?_⟩⟩
    refine mk3_end (X := cxOf CX0 P w K mg base NWe "_law_weave" (defScope s_law_weave) f (.ref c) A outer s H E) (fr := ["_law_size", "_law_one"]) (ws := [.int (m : Int), k1.v]) q kp7 hd7 ext tabs nf hcc np L hl2 fewl prl fit ?_ [2, 5] rfl (fun j hj => (by decide : ∀ j ∈ ([2, 5] : List Nat), j ∈ ([2, 5, 6, 7, 8] : List Nat) ∧ j < 11) j hj) rfl (tb := tbW01 K CF CE Cn Ce cls kc) ?_ fun H0 k0 => ?_
    · exact lsc_by (by decide +kernel)
    · refine runs_lam ?_ ?_ ?_ fl
      · exact lsc_by (by decide +kernel)
      · exact fun _ _ _ _ => rfl
      · exact fun cl c f A outer s H E hr => pe_ifExp (pt_cmpR op_eq (pv 0) pe_int (nomark _)) (pe_weave0 N hr rfl) (pe_weave N hr rfl (pa_cons (pv 1) pa_nil) rfl rfl)
    · intro cs1 H1 Q1 E1 s1 o1
      refine ⟨_, rfl, rfl, _, rfl, ?_⟩
      refine ite2 (fun z2 => ?_) (fun z2 => ?_)
      · have e0 : (m : Int) = 0 := V.int.inj (of_decide_eq_true z2)
        have e0 : m = 0 := by omega
        subst e0
        exact fun x dx hx hdx ne => weave_out N nt ix (hko H0 k0) hy (n := 0) (args := []) rfl (fun z => absurd z (by decide)) (by decide) s1 o1 x dx hx hdx ne
      · have e1 : m = 1 := by
          have : ¬ (m : Int) = 0 := fun e => z2 (decide_eq_true (by rw [e]))
          omega
        subst e1
        exact ⟨_, rfl, fun x dx hx hdx ne => weave_out N nt ix (hko H0 k0) hy (n := 1) (args := [k1.v]) rfl (fun z => absurd z (by decide)) (by decide) s1 o1 x dx hx hdx ne⟩
  refine ⟨_, rfl, rfl, _, rfl, ?_⟩
  refine ite2 (fun y2 => ?_) (fun y2 => ?_)
  · have en : (m : Int) = 2 := V.int.inj (of_decide_eq_true y2)
    have en : m = 2 := by omega
    subst en
    refine ⟨_, rfl, tb7, fun fl cc H8 ext tabs nf hcc => ⟨_, rfl, (by show 3 ≤ sizeLine; decide), fun p np H9 L => ?_⟩⟩
    refine mk3_end (X := cxOf CX0 P w K mg base NWe "_law_weave" (defScope s_law_weave) f (.ref c) A outer s H E) (fr := ["_law_one", "_law_two"]) (ws := [k1.v, k2.v]) q kp7 hd7 ext tabs nf hcc np L hl2 fewl prl fit ?_ [5, 6] rfl (fun j hj => (by decide : ∀ j ∈ ([5, 6] : List Nat), j ∈ ([2, 5, 6, 7, 8] : List Nat) ∧ j < 11) j hj) rfl (tb := tbW2 K CF CE Cn Ce cls kc) ?_ fun H0 k0 => ?_
    · exact lsc_by (by decide +kernel)
    · refine runs_lam ?_ ?_ ?_ fl
      · exact lsc_by (by decide +kernel)
      · exact fun _ _ _ _ => rfl
      · exact fun cl c f A outer s H E hr => pe_weave N hr rfl (pa_cons (pv 0) (pa_cons (pv 1) pa_nil)) rfl rfl
    · intro cs1 H1 Q1 E1 s1 o1
      exact ⟨_, rfl, _, rfl, fun x dx hx hdx ne => weave_out N nt ix (hko H0 k0) hy (n := 2) (args := [k1.v, k2.v]) rfl (fun _ => rfl) (by decide) s1 o1 x dx hx hdx ne⟩
  refine ⟨_, rfl, rfl, _, rfl, ?_⟩
  refine ite2 (fun y3 => ?_) (fun y3 => ?_)
  · have en : (m : Int) = 3 := V.int.inj (of_decide_eq_true y3)
    have en : m = 3 := by omega
    subst en
    refine ⟨_, rfl, tb7, fun fl cc H8 ext tabs nf hcc => ⟨_, rfl, (by show 3 ≤ sizeLine; decide), fun p np H9 L => ?_⟩⟩
    refine mk3_end (X := cxOf CX0 P w K mg base NWe "_law_weave" (defScope s_law_weave) f (.ref c) A outer s H E) (fr := ["_law_one", "_law_two", "_law_three"]) (ws := [k1.v, k2.v, k3.v]) q kp7 hd7 ext tabs nf hcc np L hl2 fewl prl fit ?_ [5, 6, 7] rfl (fun j hj => (by decide : ∀ j ∈ ([5, 6, 7] : List Nat), j ∈ ([2, 5, 6, 7, 8] : List Nat) ∧ j < 11) j hj) rfl (tb := tbW3 K CF CE Cn Ce cls kc) ?_ fun H0 k0 => ?_
    · exact lsc_by (by decide +kernel)
    · refine runs_lam ?_ ?_ ?_ fl
      · exact lsc_by (by decide +kernel)
      · exact fun _ _ _ _ => rfl
      · exact fun cl c f A outer s H E hr => pe_weave N hr rfl (pa_cons (pv 0) (pa_cons (pv 1) (pa_cons (pv 2) pa_nil))) rfl rfl
    · intro cs1 H1 Q1 E1 s1 o1
      exact ⟨_, rfl, _, rfl, _, rfl, fun x dx hx hdx ne => weave_out N nt ix (hko H0 k0) hy (n := 3) (args := [k1.v, k2.v, k3.v]) rfl (fun _ => rfl) (by decide) s1 o1 x dx hx hdx ne⟩
  refine ⟨_, rfl, rfl, _, rfl, ?_⟩
  refine ite2 (fun y4 => ?_) (fun y4 => ?_)
  · have en : (m : Int) = 4 := V.int.inj (of_decide_eq_true y4)
    have en : m = 4 := by omega
    subst en
    refine ⟨_, rfl, tb7, fun fl cc H8 ext tabs nf hcc => ⟨_, rfl, (by show 3 ≤ sizeLine; decide), fun p np H9 L => ?_⟩⟩
    refine mk3_end (X := cxOf CX0 P w K mg base NWe "_law_weave" (defScope s_law_weave) f (.ref c) A outer s H E) (fr := ["_law_one", "_law_two", "_law_three", "_law_four"]) (ws := [k1.v, k2.v, k3.v, k4.v]) q kp7 hd7 ext tabs nf hcc np L hl2 fewl prl fit ?_ [5, 6, 7, 8] rfl (fun j hj => (by decide : ∀ j ∈ ([5, 6, 7, 8] : List Nat), j ∈ ([2, 5, 6, 7, 8] : List Nat) ∧ j < 11) j hj) rfl (tb := tbW4 K CF CE Cn Ce cls kc) ?_ fun H0 k0 => ?_
    · exact lsc_by (by decide +kernel)
    · refine runs_lam ?_ ?_ ?_ fl
      · exact lsc_by (by decide +kernel)
      · exact fun _ _ _ _ => rfl
      · exact fun cl c f A outer s H E hr => pe_weave N hr rfl (pa_cons (pv 0) (pa_cons (pv 1) (pa_cons (pv 2) (pa_cons (pv 3) pa_nil)))) rfl rfl
    · intro cs1 H1 Q1 E1 s1 o1
      exact ⟨_, rfl, _, rfl, _, rfl, _, rfl, fun x dx hx hdx ne => weave_out N nt ix (hko H0 k0) hy (n := 4) (args := [k1.v, k2.v, k3.v, k4.v]) rfl (fun _ => rfl) (by decide) s1 o1 x dx hx hdx ne⟩
  have e5 : m = 5 := by
    have h2 : ¬ (m : Int) < 2 := fun e => z1 (decide_eq_true e)
    have h3 : ¬ (m : Int) = 2 := fun e => y2 (decide_eq_true (by rw [e]))
    have h4 : ¬ (m : Int) = 3 := fun e => y3 (decide_eq_true (by rw [e]))
    have h5 : ¬ (m : Int) = 4 := fun e => y4 (decide_eq_true (by rw [e]))
    omega
  subst e5
  refine ⟨_, rfl, tb7, fun fl cc H8 ext tabs nf hcc => ⟨_, rfl, (by show 3 ≤ sizeLine; decide), fun p np H9 L => ?_⟩⟩
  refine mk3_end (X := cxOf CX0 P w K mg base NWe "_law_weave" (defScope s_law_weave) f (.ref c) A outer s H E) (fr := ["_law_one", "_law_two", "_law_three", "_law_four"]) (ws := [k1.v, k2.v, k3.v, k4.v]) q kp7 hd7 ext tabs nf hcc np L hl2 fewl prl fit ?_ [5, 6, 7, 8] rfl (fun j hj => (by decide : ∀ j ∈ ([5, 6, 7, 8] : List Nat), j ∈ ([2, 5, 6, 7, 8] : List Nat) ∧ j < 11) j hj) rfl (tb := tbW5 K CF CE Cn Ce cls kc) ?_ fun H0 k0 => ?_
  · exact lsc_by (by decide +kernel)
  · refine runs_lam ?_ ?_ ?_ fl
    · exact lsc_by (by decide +kernel)
    · exact fun _ _ _ _ => rfl
    · exact fun cl c f A outer s H E hr => pe_weave N hr rfl (pa_cons (pv 0) (pa_cons (pv 1) (pa_cons (pv 2) (pa_cons (pv 3) (pa_cons (pv 0) pa_nil))))) rfl rfl
  · intro cs1 H1 Q1 E1 s1 o1
    exact ⟨_, rfl, _, rfl, _, rfl, _, rfl, _, rfl, fun x dx hx hdx ne => weave_out N nt ix (hko H0 k0) hy (n := 5) (args := [k1.v, k2.v, k3.v, k4.v, k1.v]) rfl (fun z => absurd z (by decide)) (by decide) s1 o1 x dx hx hdx ne⟩
end
end Wp

namespace Wp
open PySem PySem.Spec PyProof.Rows L2 Hx LamX LamR
def spLaw (K : PySem.W.Frag) (T : List (Addr × Str)) : Sp := fun vs H Q _ => ∃ (a : Addr) (ns : List Int), vs = [.ref a] ∧ SqL K H a (ns.map V.int) ∧ ns.length ≤ 63 ∧ Tabs T H ∧ ∀ H', Q (.bl true) H'
structure Bltn4 (mg : Str → Option Value) : Prop where
  range : mg "range" = none
  max : mg "max" = none
  min : mg "min" = none
  len : mg "len" = none
  all : mg "all" = none
theorem scLaw : FnScope ["_law_cells", "_law_turn"] ["_law_cells"] (defScope s_law) := ⟨rfl, rfl, rfl, by decide +kernel, rfl, by decide +kernel, by decide +kernel⟩
/-- what is no thing of its own kind and no table stays -/
def SmNT (H H' : Hp) : Prop := ∀ b o, (∀ φ, o ≠ .ext φ) → (∀ ps, o ≠ .tbl ps) → H b = some o → H' b = some o
theorem SmNT.seq {K : PySem.W.Frag} {a : Addr} {H H' : Hp} {xs : List V} (e : SmNT H H') (h : SqL K H a xs) : SqL K H' a xs := by
  rcases h with (h | ⟨o, h⟩) | h
  · exact .inl (.inl (e _ _ (fun _ z => nomatch z) (fun _ z => nomatch z) h))
  · exact .inl (.inr ⟨o, e _ _ (fun _ z => nomatch z) (fun _ z => nomatch z) h⟩)
  · exact .inr h
section
variable {P : Program} {w : World} {K : PySem.W.Frag} {mg : Str → Option Value} {base : Heap} {T : List (Addr × Str)}
theorem ok_law {f fD fR : Addr} {fd fdD fdR : FuncData} (F : Fun K "law" "law" s_law f fd) (Z : Bltn4 mg)
    (GD : FnOk P w K mg base CX0 1 fD fdD ["_law_cells", "_law_turn"] (spDeck K)) (bD : Binds K fdD ["_law_cells", "_law_turn"] []) (kD : PySem.W.keepIn K (.ref fD) = true) (mD : mg "_law_deck" = some (.ref fD))
    (GR : GOk P w K mg base CX0 11 fR fdR ["_law_deck_here"] (spRight3 T)) (bR : Binds K fdR ["_law_deck_here"] []) (kR : PySem.W.keepIn K (.ref fR) = true) (mR : mg "_law_right" = some (.ref fR)) :
    GOk P w K mg base CX0 12 f fd ["_law_cells"] (spLaw K T) := by
  refine gok0 F scLaw (fun vs H Q E h => ?_) (fun cdv A outer s H vs Q E hr gd h => ?_)
  · obtain ⟨a, ns, rfl, _⟩ := h
    rfl
  obtain ⟨a, ns, rfl, hS, h63, tb, q⟩ := h
  have r1 := hr.mono (by decide : 1 ≤ 11)
  refine ⟨_, pss_one (ps_ret (pe_callB (cr_all rfl) (by rfl) Z.all PyProof.Rows.boot_all (pa_cons
      (pe_lc (te := tCall (spRight3 T) [] E0 (tCons (tCall (spDeck K) [] E0 (tCons (tVar 0) (tCons (tVar 1) tNil))) tNil)) (own := [("_law_turn", 1)]) (g := gName 1) (tt := tYes) rfl scLaw.nd
        (pi_range1 rfl Z.range (pa_cons (pe_callB (call_max2 rfl) (by rfl) Z.max PyProof.Rows.boot_max (pa_cons pe_int (pa_cons
          (pe_callB (call_min2 rfl) (by rfl) Z.min PyProof.Rows.boot_min (pa_cons (pe_callB call_len_seq (by rfl) Z.len PySem.boot_len (pa_cons (pv 0) pa_nil)) (pa_cons pe_int pa_nil))) pa_nil))) pa_nil))
        (blkOk_by (N := ["_law_cells", "_law_turn"]) (sc := defScope s_law) (by decide +kernel))
        (fun _ _ _ _ _ => pg_name (i := 1) scLaw.nd rfl (Or.inl rfl)) (fun _ _ _ _ _ => pts_nil)
        (fun _ _ _ _ _ => pe_callG GR hr gd rfl mR kR bR .nil pass0 (pa_cons (pe_call GD r1 rfl mD kD bD .nil pass0 (pa_cons (pv 0) (pa_cons (pv 1) pa_nil))) pa_nil))) pa_nil))), ?_⟩
  have hl : (ns.map V.int).length = ns.length := List.length_map _
  refine ⟨_, rfl, a, _, rfl, .inl hS, _, _, rfl, _, _, rfl, ?_⟩
  generalize hnum : (if (if (12 : Int) < (((ns.map V.int).length : Nat) : Int) then (12 : Int) else (((ns.map V.int).length : Nat) : Int)) > 2 then (if (12 : Int) < (((ns.map V.int).length : Nat) : Int) then (12 : Int) else (((ns.map V.int).length : Nat) : Int)) else 2) = z
  have hz : 2 ≤ z ∧ z ≤ 12 := by
    rw [← hnum]
    split <;> split <;> omega
  refine ⟨z, rfl, by omega, by omega, fun D hD => ?_⟩
  refine lc_range (lo := 0) (n := z.toNat) (fun i H' => SmNT H H' ∧ Tabs T H' ∧ H' D = some (.lst ((List.replicate i true).map V.bl))) ⟨fun b o _ _ e => same_new hD _ b o e, Tabs.ext tb (same_new hD _), upd_same⟩ ?_ ?_
  · rintro i H' hi ⟨s5, t5, h5⟩
    refine ⟨rfl, turn_yes ?_⟩
    refine ⟨_, rfl, _, rfl, a, ns, i, ?_, SmNT.seq s5 hS, h63, fun p H2 s6 np dk => ?_⟩
    · show [V.ref a, V.int (0 + (i : Int))] = _
      rw [Int.zero_add]
    refine ⟨p, rfl, dk, Tabs.ext t5 s6, fun H3 b t3 => ?_⟩
    have npD : D ≠ p := ne_of_none h5 np
    have hD3 : H3 D = some (.lst ((List.replicate i true).map V.bl)) := b _ _ npD (fun _ z => nomatch z) (fun _ z => nomatch z) (s6 _ _ h5)
    refine ⟨_, hD3, ?_, ?_, ?_, ?_⟩
    · rw [List.length_map, List.length_replicate]
      exact Nat.lt_of_lt_of_le (by omega : i < 1000) (small_line (Nat.le_refl _))
    · intro c o n1 n2 hc
      have nD : c ≠ D := ne_of_none hc hD
      rw [upd_ne nD]
      exact b c o (ne_of_none (s5 c o n1 n2 hc) np) n1 n2 (s6 c o (s5 c o n1 n2 hc))
    · refine fun p hp => ?_
      obtain ⟨vs, a1, a2, a3⟩ := t3 p hp
      have ne : ∀ {c : Addr} {o : HO}, H3 c = some o → (∀ xs, o ≠ .lst xs) → c ≠ D := fun e n z => by
        rw [z, hD3] at e
        exact n _ (Option.some.inj e).symm
      refine ⟨vs, ?_, a2, fun pos cv e => ?_⟩
      · rw [upd_ne (ne a1 fun _ z => nomatch z)]
        exact a1
      · obtain ⟨c, e1, e2⟩ := a3 pos cv e
        refine ⟨c, e1, ?_⟩
        rw [upd_ne (ne e2 fun _ z => ?_)]
        · exact e2
        · unfold CodeO at z
          cases z
    · rw [upd_same, List.replicate_succ', List.map_append]
      rfl
  · rintro H' ⟨s5, t5, h5⟩
    refine ⟨D, List.replicate z.toNat true, rfl, SqL.of h5, ?_⟩
    have e : (List.replicate z.toNat true).all id = true := by
      rw [List.all_eq_true]
      intro x hx
      exact (List.eq_of_mem_replicate hx)
    rw [e]
    exact q H'
end
end Wp

/-! a law's end: no guard stands below, and some defs make lambdas (their code tables grow) -/
namespace Hx
open PySem PySem.Spec PyProof.Rows L2 LamX
/-- the tables, as they stand at first -/
def tabO : HO := .tbl #[]
/-- the script at a (if it is no part of K) and the tables -/
def startH (ts : List Addr) (keep : Bool) (a : Addr) (vs : List Value) (ns : List Int) : Hp := fun b => if b ∈ ts then some tabO else if keep = true ∧ b = a then some (scriptO vs ns) else none
section
variable {P : Program} {w : World} {K : PySem.W.Frag} {mg mb : Str → Option Value} {k : Nat} {fa a : Addr} {fd : FuncData} {x : Str} {sp : Sp}
  {s1 : Shared} {vs : List Value} {ns : List Int} {ts : List (Addr × Addr)} {keep : Bool}
theorem start_cases {l : List Addr} {b : Addr} {u : HO} (h : startH l keep a vs ns b = some u) : (b ∈ l ∧ u = tabO) ∨ (b ∉ l ∧ keep = true ∧ b = a ∧ u = scriptO vs ns) := by
  unfold startH at h
  by_cases c : b ∈ l
  · rw [if_pos c] at h
    exact .inl ⟨c, (Option.some.inj h).symm⟩
  · rw [if_neg c] at h
    by_cases c2 : keep = true ∧ b = a
    · rw [if_pos c2] at h
      exact .inr ⟨c, c2.1, c2.2, (Option.some.inj h).symm⟩
    · rw [if_neg c2] at h
      cases h
theorem enter_tabs (KX : K.In s1.heap) (hglob : s1.heap.Ns mainGlobals mg) (hblt : s1.heap.Ns builtinsNs mb)
    (hboot : ∀ x : Str, x ≠ "__name__" → mb x = bootBuiltins x) (hlim : s1.heap.NoLimit) (hmods : ∃ mm, s1.heap.Ns sysModules mm) (hgen : s1.gens = #[])
    (tab : ∀ p ∈ ts, s1.heap.get? p.2 = some { cls := .none, data := .fields #[] }) (tabK : ∀ p ∈ ts, K.lookup p.2 = none) (code : ∀ p ∈ ts, PySem.W.CodeHd s1.heap p.1 p.2)
    (hbm : ∃ (bm : Addr) (ob : Obj), mg "__builtins__" = some (.ref bm) ∧ bm ≠ builtinsNs ∧ s1.heap.get? bm = some ob ∧ ob.cls = .type "module" ∧ ob.dict = some builtinsNs ∧ ob.data = .plain)
    (ha : s1.heap.get? a = some { cls := .type "list", data := .seq vs.toArray }) (room : Room k callerA)
    (F : ∀ base : Heap, K.In base → base.Ns mainGlobals mg → Mods base → (∀ p ∈ ts, TabB base mg p.1 p.2) → GOk P w K mg base CX0 k fa fd [x] sp)
    (hbind : ∀ (s : Shared) (u : Value), BindsTo s fd ⟨[u], []⟩ [(x, u)])
    (hK : keep = true → K.lookup a = none) (hok : HOk P w (startH (ts.map (·.2)) keep a vs ns) s1.heap)
    (hsp : sp [.ref a] (startH (ts.map (·.2)) keep a vs ns) (fun v _ => v = .bl true) E0) :
    codeAny (model P w) callerA (.call (.ref fa) ⟨[.ref a], []⟩) (fun r s' => r = .ok (.ret (.bool true)) ∧ OldK s1.heap s'.heap ∧ s'.os = s1.os ∧ AllBare s'.gens) s1 := by
  have tabA : ∀ {b : Addr}, b ∈ ts.map (·.2) → ∃ p ∈ ts, p.2 = b ∧ s1.heap.get? b = some { cls := .none, data := .fields #[] } := fun hb => by
    obtain ⟨p, hp, e⟩ := List.mem_map.mp hb
    exact ⟨p, hp, e, e ▸ tab p hp⟩
  -- what is told of an address that is looked at here: it is the script, or a table, or nothing
  have free : ∀ {b : Addr} {o : Obj}, s1.heap.get? b = some o → (∀ zs n, o.data ≠ .seq zs n) → o.data ≠ .fields #[] → startH (ts.map (·.2)) keep a vs ns b = none := by
    intro b o e h1 h2
    cases hb : startH (ts.map (·.2)) keep a vs ns b with
    | none => rfl
    | some u =>
      rcases start_cases hb with ⟨c, _⟩ | ⟨_, _, rfl, _⟩
      · obtain ⟨p, _, _, z⟩ := tabA c
        rw [e] at z
        cases z
        exact (h2 rfl).elim
      · rw [ha] at e
        cases e
        exact (h1 _ _ rfl).elim
  have freeD : ∀ {b : Addr} {o : Obj} {es : Array DictEntry} {ep : Nat}, s1.heap.get? b = some o → o.data = .dict es ep → startH (ts.map (·.2)) keep a vs ns b = none := fun e d =>
    free e (fun zs n z => by rw [d] at z; cases z) (fun z => by rw [d] at z; cases z)
  have nsBase : ∀ {b : Addr} {m : Str → Option Value}, s1.heap.Ns b m → (hidT s1.heap (startH (ts.map (·.2)) keep a vs ns)).Ns b m := fun {b m} ⟨o, es, ep, e, d, r⟩ =>
    ⟨o, es, ep, hidT_get e (freeD e d), d, r⟩
  have inBase : K.In (hidT s1.heap (startH (ts.map (·.2)) keep a vs ns)) := by
    intro b o e
    refine hidT_get (KX b o e) ?_
    cases hb : startH (ts.map (·.2)) keep a vs ns b with
    | none => rfl
    | some u =>
      rcases start_cases hb with ⟨c, _⟩ | ⟨_, c, rfl, _⟩
      · obtain ⟨p, hp, e2, _⟩ := tabA c
        rw [← e2, tabK p hp] at e
        cases e
      · rw [hK c] at e
        cases e
  have modOk : Mod K mg (hidT s1.heap (startH (ts.map (·.2)) keep a vs ns)) := by
    refine ⟨inBase, nsBase hglob, ⟨mb, nsBase hblt, hboot⟩, ?_⟩
    obtain ⟨mc, l1, l2⟩ := hlim
    exact ⟨mc, nsBase l1, l2⟩
  have modsOk : Mods (hidT s1.heap (startH (ts.map (·.2)) keep a vs ns)) := by
    obtain ⟨mm, hm⟩ := hmods
    obtain ⟨o, es, ep, e, _⟩ := nsBase hm
    exact ⟨o, e⟩
  have tabs : ∀ p ∈ ts, TabB (hidT s1.heap (startH (ts.map (·.2)) keep a vs ns)) mg p.1 p.2 := by
    intro p hp
    have isTab := tab p hp
    constructor
    · obtain ⟨o, us, file, tf, flags, tg, inF, text, tt, e1, r1, r2, r3, rest⟩ := code p hp
      refine ⟨o, us, file, tf, flags, tg, inF, text, tt, hidT_get e1 (free e1 (fun zs n z => ?_) fun z => ?_), r1, r2, r3, rest⟩
      · rw [r2] at z
        cases z
      · rw [r2] at z
        cases z
        simp at r3
    · obtain ⟨bm, ob, b1, b2, b3, b4, b5, b6⟩ := hbm
      refine ⟨bm, ob, b1, b2, fun z => ?_, fun z => ?_, hidT_get b3 (free b3 (fun zs n z => ?_) fun z => ?_), b4, b5, b6⟩
      · obtain ⟨o, es, ep, e, hd, _⟩ := hglob
        rw [z, e] at b3
        cases b3
        rw [hd] at b6
        cases b6
      · rw [z, isTab] at b3
        cases b3
        cases b6
      · rw [b6] at z
        cases z
      · rw [b6] at z
        cases z
    · intro z
      obtain ⟨o, es, ep, e, hd, _⟩ := hglob
      rw [z, isTab] at e
      cases e
      cases hd
  have start0 : Env0 P w K mg (hidT s1.heap (startH (ts.map (·.2)) keep a vs ns)) callerA [] s1 (startH (ts.map (·.2)) keep a vs ns) :=
    { frames := rfl, mod := modOk, bs := fun b o e => of_hidT e, bsz := Nat.le_of_eq (hidT_size _ _), funs := trivial,
      frf := fun b hb => absurd (show b ∈ ([] : List Addr) from hb) (by simp), hok := hok, bare := .of_eq hgen }
  have run := (F _ inBase (nsBase hglob) modsOk tabs).goes callerA [] s1 _ ⟨[.ref a], []⟩ [.ref a] [.ref a] _ _ room rfl start0 (hbind s1 (.ref a)) (.cons rfl .nil) hsp
  refine codeAny_mono run ?_
  intro r s' hr
  cases r with
  | error e => exact (show False from hr).elim
  | ok fl =>
    cases fl with
    | next => exact hr.elim
    | brk => exact hr.elim
    | cont => exact hr.elim
    | ret u =>
      obtain ⟨v, H', osEq, bare, un, hok', rel, rfl⟩ := hr
      cases (show u = Value.bool true from rel)
      have more : ∀ p ∈ ts, ∃ zs : Array Value, s'.heap.get? p.2 = some { cls := .none, data := .fields zs } := fun p hp => by
        obtain ⟨zs, z⟩ := un.tbls p.2 #[] (if_pos (List.mem_map.mpr ⟨p, hp, rfl⟩))
        exact ⟨_, hok' p.2 _ z⟩
      have rest : ∀ b o, b ∉ ts.map (·.2) → s1.heap.get? b = some o → s'.heap.get? b = some o := by
        intro b o nb e
        cases hb : startH (ts.map (·.2)) keep a vs ns b with
        | none => exact un.keep b o e hb (fun z => absurd (show b ∈ ([] : List Addr) from z) (by simp)) (by simp)
        | some u =>
          rcases start_cases hb with ⟨c, _⟩ | ⟨_, _, rfl, rfl⟩
          · exact (nb c).elim
          · have stay := un.frzs b _ _ hb
            obtain ⟨e1, _⟩ := hok b _ hb
            obtain ⟨e2, _⟩ := hok' b _ stay
            rw [e] at e1
            rw [e2, ← Option.some.inj e1]
      refine ⟨rfl, ⟨fun b o e => ?_, fun b o e => ?_⟩, osEq, bare⟩
      · by_cases c : b ∈ ts.map (·.2)
        · obtain ⟨p, hp, rfl, z⟩ := tabA c
          obtain ⟨zs, m⟩ := more p hp
          rw [e] at z
          cases z
          exact .inr (.inl ⟨((code p hp).tab (tab p hp)).isCodeTable, rfl, #[], zs, rfl, by rw [Array.empty_append]; exact m⟩)
        · exact .inl (rest b o c e)
      · by_cases c : b ∈ ts.map (·.2)
        · obtain ⟨p, hp, rfl, z⟩ := tabA c
          obtain ⟨zs, m⟩ := more p hp
          exact ⟨_, m⟩
        · exact ⟨o, rest b o c e⟩
theorem law_tabs (KX : K.In s1.heap) (hglob : s1.heap.Ns mainGlobals mg) (hblt : s1.heap.Ns builtinsNs mb)
    (hboot : ∀ x : Str, x ≠ "__name__" → mb x = bootBuiltins x) (hlim : s1.heap.NoLimit) (hmods : ∃ mm, s1.heap.Ns sysModules mm) (hgen : s1.gens = #[])
    (tab : ∀ p ∈ ts, s1.heap.get? p.2 = some { cls := .none, data := .fields #[] }) (tabK : ∀ p ∈ ts, K.lookup p.2 = none) (code : ∀ p ∈ ts, PySem.W.CodeHd s1.heap p.1 p.2)
    (hbm : ∃ (bm : Addr) (ob : Obj), mg "__builtins__" = some (.ref bm) ∧ bm ≠ builtinsNs ∧ s1.heap.get? bm = some ob ∧ ob.cls = .type "module" ∧ ob.dict = some builtinsNs ∧ ob.data = .plain)
    (ha : s1.heap.get? a = some { cls := .type "list", data := .seq vs.toArray }) (hi : IntsAre vs ns) (hl : ns.length ≤ sizeLine) (room : Room k callerA)
    (F : ∀ base : Heap, K.In base → base.Ns mainGlobals mg → Mods base → (∀ p ∈ ts, TabB base mg p.1 p.2) → GOk P w K mg base CX0 k fa fd [x] sp)
    (hbind : ∀ (s : Shared) (u : Value), BindsTo s fd ⟨[u], []⟩ [(x, u)])
    (hsp : ∀ H : Hp, (∀ p ∈ ts, H p.2 = some (.tbl #[])) → SqL K H a (ns.map V.int) → sp [.ref a] H (fun v _ => v = .bl true) E0) :
    codeAny (model P w) callerA (.call (.ref fa) ⟨[.ref a], []⟩) (fun r s' => r = .ok (.ret (.bool true)) ∧ OldK s1.heap s'.heap ∧ s'.os = s1.os ∧ AllBare s'.gens) s1 := by
  have rel := vals_ints hi
  have aT : a ∉ ts.map (·.2) := fun z => by
    obtain ⟨p, hp, e⟩ := List.mem_map.mp z
    have q := tab p hp
    rw [e, ha] at q
    cases congrArg Obj.data (Option.some.inj q)
  have okAll : ∀ keep : Bool, HOk P w (startH (ts.map (·.2)) keep a vs ns) s1.heap := fun keep b u h => by
    rcases start_cases h with ⟨c, rfl⟩ | ⟨_, _, rfl, rfl⟩
    · obtain ⟨p, hp, rfl⟩ := List.mem_map.mp c
      exact tab p hp
    · exact ⟨ha, by rw [List.length_map]; exact hl, vs, _, rel, ha⟩
  have tabAt : ∀ keep : Bool, ∀ p ∈ ts, startH (ts.map (·.2)) keep a vs ns p.2 = some (.tbl #[]) := fun keep p hp => if_pos (List.mem_map.mpr ⟨p, hp, rfl⟩)
  cases hk : K.lookup a with
  | some o =>
    have e := KX a o hk
    rw [ha] at e
    cases e
    refine enter_tabs (keep := false) KX hglob hblt hboot hlim hmods hgen tab tabK code hbm ha room F hbind (fun z => by cases z) (okAll false) (hsp _ (tabAt false) (.inr ⟨_, vs.toArray, _, hk, rfl, rfl, rfl, ?_, by simpa using rel⟩))
    rw [List.size_toArray, hi.length]
    exact hl
  | none =>
    have at_a : startH (ts.map (·.2)) true a vs ns a = some (scriptO vs ns) := by
      unfold startH
      rw [if_neg aT, if_pos ⟨rfl, rfl⟩]
    exact enter_tabs (keep := true) KX hglob hblt hboot hlim hmods hgen tab tabK code hbm ha room F hbind (fun _ => hk) (okAll true) (hsp _ (tabAt true) (.inl (.inr ⟨_, at_a⟩)))
end
/-- the goal that head_any leaves, for a law whose defs make lambdas and ask that no guard stands below -/
theorem walk_GT {l : PySem.W.OpenLaw} {n k : Nat} {q : Program} {loose : List Str} {XP : (Str → Option Value) → Heap → Prop} {YP : World → Heap → Prop} {d : DefRec} {x : Str}
    (hn : l.most = some n) (hn2 : n ≤ sizeLine) (hdf : d.params.defaults = []) (room : Room k callerA) (himp : importsNone q = true)
    (F : ∀ (w : World) (mg : Str → Option Value) (fa : Addr) (h : Heap), YP w h → h.Ns mainGlobals mg → mg d.name = some (.ref fa) →
      ∃ (K : PySem.W.Frag) (ts : List (Addr × Addr)) (fd : FuncData) (sp : Sp), K.In h ∧ (∀ p ∈ ts, h.get? p.2 = some { cls := .none, data := .fields #[] }) ∧ (∀ p ∈ ts, K.lookup p.2 = none) ∧ (∀ p ∈ ts, PySem.W.CodeHd h p.1 p.2) ∧
        (∀ (s : Shared) (u : Value), BindsTo s fd ⟨[u], []⟩ [(x, u)]) ∧
        (∀ (H : Hp) (a : Addr) (ns : List Int), ns.length ≤ n → (∀ p ∈ ts, H p.2 = some (.tbl #[])) → SqL K H a (ns.map V.int) → sp [.ref a] H (fun v _ => v = .bl true) E0) ∧
        ∀ base : Heap, K.In base → base.Ns mainGlobals mg → Mods base → (∀ p ∈ ts, TabB base mg p.1 p.2) → GOk l.prog w K mg base CX0 k fa fd [x] sp) :
    PySem.W.WalkO q loose XP YP l.row.toRowW d [] (fun f vs => PySem.call f vs) := by
  refine Att.attach_call hn hdf ?_
  intro w s0 s1 mg mb fa o pm cd doc a vs ns G Y ho hd hcd hmg hobj hints hlen hgen
  obtain ⟨K, ts, fd, sp, KX, t1, t2, t3, hb, hsp, hF⟩ := F w mg fa _ Y G.T.g hmg
  obtain ⟨mm, hmm, _⟩ := (G.T.seer himp).mods
  exact law_tabs KX G.T.g G.T.b G.T.builtins G.T.nolimit ⟨mm, hmm⟩ hgen t1 t2 t3 G.T.bmain hobj hints (Nat.le_trans hlen hn2) room hF hb fun H hT hS => hsp H a ns hlen hT hS
end Hx

namespace Wp
open PySem PySem.Spec PyProof.Rows L2 Hx
/-! the head of the program by one run: facts by names -/
/-- a def of the text and where it stands -/
structure DA where
  adr : PySem.W.Frag → Addr
  name : Str
  qual : Str
  st : Stmt
abbrev FnV : Type := He.FnV
def faA (K : PySem.W.Frag) (a : Addr) : FnV := match K.lookup a with
  | some ⟨_, _, .func u, _⟩ => some (u.name, u.qualname, u.params, u.body, u.scope, u.globals, u.closure, u.defaults, u.builtins)
  | _ => none
def DA.val (d : DA) : FnV := some (d.name, d.qual, defArgs d.st, .stmts (defBody d.st), defScope d.st, mainGlobals, [], .none, builtinsNs)
def DA.ok (K : PySem.W.Frag) (d : DA) : Bool := PySem.W.keepIn K (.ref (d.adr K)) && (match K.lookup (d.adr K) with
  | some ⟨_, _, .func u, _⟩ => PySem.W.codeIn K u.code d.qual
  | _ => false)
theorem DA.fun {K : PySem.W.Frag} {d : DA} (e : faA K (d.adr K) = d.val) (c : d.ok K = true) : ∃ fd, Fun K d.name d.qual d.st (d.adr K) fd := by
  obtain ⟨kp, c2⟩ := Bool.and_eq_true_iff.mp c
  unfold faA at e
  cases q : K.lookup (d.adr K) with
  | none =>
    rw [q] at c2
    cases c2
  | some o =>
    obtain ⟨oc, od, dt, osl⟩ := o
    rw [q] at c2 e
    cases dt with
    | func fd =>
      obtain ⟨v1, v2, v3, v4, v5, v6, v7, v8, v9, v10, v11, v12, v13, v14, v15⟩ := fd
      have e2 : (some (v1, v2, v3, v4, v5, v6, v7, v8, v15) : FnV) = some (d.name, d.qual, defArgs d.st, .stmts (defBody d.st), defScope d.st, mainGlobals, [], .none, builtinsNs) := e
      simp only [Option.some.injEq, Prod.mk.injEq] at e2
      obtain ⟨w1, w2, w3, w4, w5, w6, w7, w8, w9⟩ := e2
      subst w1 w2 w3 w4 w5 w6 w7 w8 w9
      exact ⟨_, ⟨oc, od, v9, v10, v11, v12, v13, v14, osl, rfl, q, c2⟩, kp⟩
    | _ => cases c2
abbrev AlZ : Type := Bool × List FnV
def obsZ (ex : PySem.W.Frag → Bool) (ds : List DA) (K : PySem.W.Frag) : AlZ := (ex K && ds.all fun d => d.ok K, ds.map fun d => faA K (d.adr K))
def valZ (ds : List DA) : AlZ := (true, ds.map DA.val)
def SaysZ (ex : PySem.W.Frag → Bool) (ds : List DA) (K : PySem.W.Frag) : Prop := obsZ ex ds K = valZ ds
/-! the addresses that are looked at: the module's names, the classes' own names, getters, code -/
def codesG (g : Addr → Option Obj) (a : Addr) : List Addr := match g a with
  | some ⟨_, _, .func fd, _⟩ => He.refV fd.code
  | _ => []
def nssG (g : Addr → Option Obj) (a : Addr) : List Addr := match g a with
  | some ⟨_, _, .cls cd, _⟩ => [cd.ns]
  | _ => []
def valsG (g : Addr → Option Obj) (a : Addr) : List Addr := match g a with
  | some ⟨_, _, .dict es _, _⟩ => es.toList.flatMap fun e => He.refV e.val
  | _ => []
def fldsG (g : Addr → Option Obj) (a : Addr) : List Addr := match g a with
  | some ⟨_, _, .fields vs, _⟩ => vs.toList.flatMap He.refV
  | _ => []
def asZ3 (g : Addr → Option Obj) (A N M G : List Addr) : List Addr := mainGlobals :: (N ++ (A ++ (M ++ (G ++ (A.flatMap (codesG g) ++ (M.flatMap (codesG g) ++ G.flatMap (codesG g)))))))
def asZ2 (g : Addr → Option Obj) (A N M : List Addr) : List Addr := asZ3 g A N M (M.flatMap (fldsG g))
def asZ1 (g : Addr → Option Obj) (A N : List Addr) : List Addr := asZ2 g A N (N.flatMap (valsG g))
def asZ0 (g : Addr → Option Obj) (A : List Addr) : List Addr := asZ1 g A (A.flatMap (nssG g))
def asZ (g : Addr → Option Obj) : List Addr := asZ0 g (valsG g mainGlobals)
/-! the law's main def: its code object and the table of what it makes -/
def codeR (K : PySem.W.Frag) (a : Addr) : Addr := match K.lookup a with
  | some ⟨_, _, .func fd, _⟩ => (match fd.code with
    | .ref c => c
    | _ => 0)
  | _ => 0
theorem codeR_eq {K : PySem.W.Frag} {a : Addr} {oc : Value} {od : Option Addr} {osl : Array (Option Value)} {fd : FuncData} {c : Addr} (lk : K.lookup a = some ⟨oc, od, .func fd, osl⟩) (e : fd.code = .ref c) : codeR K a = c := by
  unfold codeR
  rw [lk]
  show (match fd.code with | .ref c => c | _ => 0) = c
  rw [e]
def cAt (x : Str) (K : PySem.W.Frag) : Addr := codeR K (He.ga K x)
def tAt (x : Str) (K : PySem.W.Frag) : Addr := He.tabOf K (cAt x K)
def tabZ (x : Str) (K : PySem.W.Frag) (g : Addr → Option Obj) : Bool := PySem.W.codeHdIn K (cAt x K) (tAt x K) && ((match g (tAt x K) with
  | some o => He.emptyTab o
  | none => false) && (K.lookup (tAt x K)).isNone)
structure TabF (x : Str) (K : PySem.W.Frag) (h : Heap) : Prop where
  code : PySem.W.codeHdIn K (cAt x K) (tAt x K) = true
  tab : h.get? (tAt x K) = some { cls := .none, data := .fields #[] }
  out : K.lookup (tAt x K) = none
theorem tabZ_ok {x : Str} {K : PySem.W.Frag} {h : Heap} (e : tabZ x K h.get? = true) : TabF x K h := by
  obtain ⟨e1, e2⟩ := Bool.and_eq_true_iff.mp e
  obtain ⟨e2, e3⟩ := Bool.and_eq_true_iff.mp e2
  refine ⟨e1, ?_, Option.isNone_iff_eq_none.mp e3⟩
  cases q : h.get? (tAt x K) with
  | none =>
    rw [q] at e2
    cases e2
  | some o =>
    rw [q] at e2
    rw [He.emptyTab_eq e2]
def obsTG (xs : List Str) (ex : PySem.W.Frag → Bool) (ds : List DA) (g : Addr → Option Obj) : AlZ × Bool := (obsZ ex ds (He.frG g (asZ g)), xs.all fun x => tabZ x (He.frG g (asZ g)) g)
def hookT (xs : List Str) (ex : PySem.W.Frag → Bool) (ds : List DA) : PySem.W.Hook where
  α := AlZ × Bool
  obs := fun s => obsTG xs ex ds s.heap.get?
  val := fun _ => (valZ ds, true)
  says := fun _ h => ∃ K : PySem.W.Frag, K.In h ∧ SaysZ ex ds K ∧ ∀ x ∈ xs, TabF x K h
  of := fun _ _ e => ⟨_, He.frG_in, congrArg Prod.fst e, fun x hx => tabZ_ok (List.all_eq_true.mp (congrArg Prod.snd e) x hx)⟩
  keeps := fun _ _ _ ⟨K, isIn, says, t⟩ more => ⟨K, PySem.W.Frag.In.keeps isIn more, says, fun x hx => ⟨(t x hx).code, more _ _ (t x hx).tab, (t x hx).out⟩⟩
theorem obsTG_eq {xs : List Str} {ex : PySem.W.Frag → Bool} {ds : List DA} {g : Addr → Option Obj} {s : Shared} (h : ∀ a, g a = s.heap.get? a) : obsTG xs ex ds g = (hookT xs ex ds).obs s := by
  have e : g = s.heap.get? := funext h
  rw [e] <;> rfl
theorem FunC.of {K : PySem.W.Frag} {x qual : Str} {st : Stmt} {f : Addr} {fd : FuncData} (F : Fun K x qual st f fd) : FunC K x qual st f fd (codeR K f) := by
  obtain ⟨oc, od, kV, doc, pm, an, cdv, ct, osl, rfl, lk, hcd⟩ := F.ex
  obtain ⟨c, rfl⟩ := He.codeIn_ref hcd
  rw [codeR_eq lk rfl]
  exact ⟨⟨oc, od, kV, doc, pm, an, ct, osl, rfl, lk, hcd⟩, F.kp⟩
theorem SaysZ.ex {ex : PySem.W.Frag → Bool} {ds : List DA} {K : PySem.W.Frag} (c : SaysZ ex ds K) : ex K = true := by
  have c1 : (ex K && ds.all fun d => d.ok K) = true := congrArg (fun z : AlZ => z.1) c
  exact (Bool.and_eq_true_iff.mp c1).1
theorem SaysZ.def_ {ex : PySem.W.Frag → Bool} {ds : List DA} {K : PySem.W.Frag} (c : SaysZ ex ds K) (i : Nat) {d : DA} (h : ds[i]? = some d := by rfl) : ∃ fd, Fun K d.name d.qual d.st (d.adr K) fd := by
  have c1 : (ex K && ds.all fun d => d.ok K) = true := congrArg (fun z : AlZ => z.1) c
  have c2 := (Bool.and_eq_true_iff.mp c1).2
  have e : ds.map (fun d => faA K (d.adr K)) = ds.map DA.val := congrArg (fun z : AlZ => z.2) c
  have e2 : (ds.map fun d => faA K (d.adr K))[i]? = (ds.map DA.val)[i]? := by rw [e]
  rw [List.getElem?_map, List.getElem?_map, h] at e2
  exact DA.fun (Option.some.inj e2) (List.all_eq_true.mp c2 d (List.mem_of_getElem? h))
/-! where things stand -/
def gA (x : Str) (K : PySem.W.Frag) : Addr := He.ga K x
def mA (x m : Str) (K : PySem.W.Frag) : Addr := He.ma K (He.ga K x) m
/-- the getter of a property -/
def pG (x m : Str) (K : PySem.W.Frag) : Addr := match PySem.W.recIn K (He.ma K (He.ga K x) m) "property" with
  | some (.ref g :: _) => g
  | _ => 0
def pB (x m : Str) (K : PySem.W.Frag) : Bool := He.eqO (PySem.W.findIn K (.ref (He.ga K x)) m) (some (some (.ref (He.ma K (He.ga K x) m)))) &&
  (He.eqO (PySem.W.specialIn K (.ref (He.ma K (He.ga K x) m)) "__get__") (some (some (.builtin "property.__get__"))) &&
  (decide (PySem.W.takesIn K (.ref (He.ma K (He.ga K x) m)) = some true) && (match PySem.W.recIn K (He.ma K (He.ga K x) m) "property" with
  | some (.ref _ :: _) => true
  | _ => false)))
theorem pB_ok {K : PySem.W.Frag} {x m : Str} (h : pB x m K = true) : PropOf K (He.ga K x) m (He.ma K (He.ga K x) m) (pG x m K) := by
  obtain ⟨h1, h⟩ := Bool.and_eq_true_iff.mp h
  obtain ⟨h2, h⟩ := Bool.and_eq_true_iff.mp h
  obtain ⟨h3, h4⟩ := Bool.and_eq_true_iff.mp h
  refine ⟨He.eqO_ok h1, He.eqO_ok h2, of_decide_eq_true h3, ?_⟩
  unfold pG
  revert h4
  split
  · rename_i g r e
    intro _
    exact ⟨r, e⟩
  · intro h
    cases h
end Wp

namespace Wp
open PySem PySem.Spec PyProof.Rows L2 Hx
/-! what the head shows, and the run that shows it -/
def errsX : List Str := ["InvalidNumber", "InvalidName", "InvalidSign", "InvalidWord", "InvalidExpression"]
def exErr (K : PySem.W.Frag) (x : Str) : Bool :=
  He.eqO (PySem.W.nsIn K mainGlobals x) (some (some (.ref (He.ga K x)))) && (PySem.W.excInitIn K (He.ga K x) He.veBase "ValueError.__new__" && (PySem.W.excOver K (He.ga K x) He.veBase && (PySem.W.hasDictIn K (He.ga K x) &&
  (He.eqO (PySem.W.findIn K (.ref (He.ga K x)) "__setattr__") (some (some (.builtin "object.__setattr__"))) && (He.eqO (PySem.W.findIn K (.ref (He.ga K x)) "__getattribute__") (some (some (.builtin "BaseException.__getattribute__"))) &&
  (He.eqO (PySem.W.findIn K (.ref (He.ga K x)) "__getattr__") (some none) && (decide (PySem.W.subIn K (.ref (He.ga K x)) (.type "BaseException") = some true) && (PySem.W.keepIn K (.ref (He.ga K x)) &&
  (He.eqO (PySem.W.findIn K (.ref (He.ga K x)) "__class__") (some (some (.builtin "object.__class__"))) && (decide (PySem.W.mroIn K (He.ga K x) (.type "object") = some true) &&
  (He.eqO (PySem.W.findIn K (.ref (He.ga K x)) "__init__") (some (some (.ref (He.ma K (He.ga K x) "__init__")))) && (decide (PySem.W.typeIn K (.ref (He.ma K (He.ga K x) "__init__")) = some (.type "function")) &&
  (decide (PySem.W.takerIn K (He.ga K x) "given" = some none) && (He.eqO (PySem.W.findIn K (.ref (He.ga K x)) "given") (some none) && decide (PySem.W.typeIn K (.ref (He.ga K x)) = some (.type "type"))))))))))))))))
def cnX : List Str := ["Drop", "Lead", "Name", "Part", "Sign", "Turn", "Weave"]
def propsX : List Str := ["kind", "inner", "told", "names", "knots"]
def exCls (K : PySem.W.Frag) (x : Str) : Bool :=
  (He.Fa.glo x).ok K && ((He.Fa.cls x).ok K && ((He.Fa.mkr x).ok K && ((He.Fa.noat x "facts").ok K && ((He.Fa.meth x "__str__").ok K && ((He.Fa.meth x "__repr__").ok K && (propsX.all (fun p => pB x p K) &&
  (He.eqO (PySem.W.findIn K (.ref (He.ga K x)) "__class__") (some (some (.builtin "object.__class__"))) && (decide (PySem.W.mroIn K (He.ga K x) (.type "object") = some true) &&
  (cnX.all (fun y => decide (PySem.W.kitOne K (.ref (He.ga K x)) (.ref (He.ga K y)) = some (decide (x = y)))) && decide (PySem.W.kitOne K (.ref (He.ga K x)) (.ref (He.ga K "Expression")) = some true))))))))))
def exFacts (K : PySem.W.Frag) : Bool := (He.Fa.glo "Facts").ok K && ((He.Fa.cls "Facts").ok K && ((He.Fa.mkr "Facts").ok K && (["word", "marks", "parts", "text", "labels", "size"] : List Str).all fun f => (He.Fa.noat "Facts" f).ok K))
def exOld (K : PySem.W.Frag) : Bool := He.eqO (PySem.W.specialIn K (.builtin "object.__class__") "__get__") (some (some (.builtin "getset_descriptor.__get__"))) && decide (PySem.W.takesIn K (.builtin "object.__class__") = some true)
def glosX : List Str := ["is_integer", "is_within", "is_lettered", "is_name", "check_within", "check_sign", "check_name", "check_word", "spelled", "check_expressions", "_law_deck", "_law_card", "_law_of", "_law_caught", "_law_thing", "_law_first", "_law_kid", "_law_small", "_law_part", "_law_weave", "_law_right", "law", "Expression", "NO_NAMES"]
def freeX : List Str := ["isinstance", "int", "bool", "str", "len", "all", "list", "set", "sorted", "tuple", "sum", "abs", "divmod", "range", "max", "min", "repr"]
def exConsts (K : PySem.W.Frag) : Bool := (He.Fa.str "LETTERS" "abcdefghijklmnopqrstuvwxyz").ok K && ((He.Fa.int "MOST_LETTERS" 8).ok K && ((He.Fa.int "MOST_SIGNS" 4).ok K && ((He.Fa.int "MOST_BASE" 4).ok K && ((He.Fa.int "LEAST_BASE" 2).ok K && ((He.Fa.int "MOST_DROP" 9).ok K &&
  He.tupB K "NO_NAMES" [.str "weave", .str "part", .str "drop", .str "lead", .str "turn"])))))
def ty7X : List String := ["NoneType", "bool", "int", "str", "list", "tuple", "dict"]
def exNt (K : PySem.W.Frag) : Bool := ty7X.all fun T => decide (PySem.W.kitOne K (.type T) (.ref (He.ga K "Expression")) = some false)
def errcX : List Str := ["InvalidNumber", "InvalidName", "InvalidSign", "InvalidWord", "InvalidExpression"]
def exCau (K : PySem.W.Frag) : Bool := errcX.all fun x => xfB K (He.ga K x) && errcX.all fun y => decide (PySem.W.exmOne K (.ref (He.ga K x)) (.ref (He.ga K y)) = some (decide (x = y)))
def exApart (K : PySem.W.Frag) : Bool := decide (tAt "_law_small" K ≠ tAt "_law_part" K) && (decide (tAt "_law_small" K ≠ tAt "_law_weave" K) && decide (tAt "_law_part" K ≠ tAt "_law_weave" K))
def ex3 (K : PySem.W.Frag) : Bool := exNt K && (exCau K && exApart K)
def exX (K : PySem.W.Frag) : Bool := errsX.all (exErr K) && (cnX.all (exCls K) && (exFacts K && (exOld K && (glosX.all (fun x => (He.Fa.glo x).ok K) && (freeX.all (fun x => (He.Fa.free x).ok K) && (exConsts K && ex3 K))))))

def dsX0 : List DA := [
  ⟨gA "is_integer", "is_integer", "is_integer", s_is_integer⟩,
  ⟨gA "is_within", "is_within", "is_within", s_is_within⟩,
  ⟨gA "is_lettered", "is_lettered", "is_lettered", s_is_lettered⟩,
  ⟨gA "is_name", "is_name", "is_name", s_is_name⟩,
  ⟨gA "check_within", "check_within", "check_within", s_check_within⟩,
  ⟨gA "check_sign", "check_sign", "check_sign", s_check_sign⟩,
  ⟨gA "check_name", "check_name", "check_name", s_check_name⟩,
  ⟨gA "check_word", "check_word", "check_word", s_check_word⟩,
  ⟨gA "spelled", "spelled", "spelled", s_spelled⟩,
  ⟨gA "check_expressions", "check_expressions", "check_expressions", s_check_expressions⟩,
  ⟨gA "_law_deck", "_law_deck", "_law_deck", s_law_deck⟩,
  ⟨gA "_law_card", "_law_card", "_law_card", s_law_card⟩,
  ⟨gA "_law_of", "_law_of", "_law_of", s_law_of⟩,
  ⟨gA "_law_caught", "_law_caught", "_law_caught", s_law_caught⟩,
  ⟨gA "_law_thing", "_law_thing", "_law_thing", s_law_thing⟩,
  ⟨gA "_law_first", "_law_first", "_law_first", s_law_first⟩,
  ⟨gA "_law_kid", "_law_kid", "_law_kid", s_law_kid⟩,
  ⟨gA "_law_small", "_law_small", "_law_small", s_law_small⟩,
  ⟨gA "_law_part", "_law_part", "_law_part", s_law_part⟩,
  ⟨gA "_law_weave", "_law_weave", "_law_weave", s_law_weave⟩,
  ⟨gA "_law_right", "_law_right", "_law_right", s_law_right⟩,
  ⟨gA "law", "law", "law", s_law⟩,
  ⟨mA "InvalidNumber" "__init__", "__init__", "InvalidNumber.__init__", s_InvalidNumber_init⟩,
  ⟨mA "InvalidName" "__init__", "__init__", "InvalidName.__init__", s_InvalidName_init⟩,
  ⟨mA "InvalidSign" "__init__", "__init__", "InvalidSign.__init__", s_InvalidSign_init⟩,
  ⟨mA "InvalidWord" "__init__", "__init__", "InvalidWord.__init__", s_InvalidWord_init⟩,
  ⟨mA "InvalidExpression" "__init__", "__init__", "InvalidExpression.__init__", s_InvalidExpression_init⟩,
  ⟨mA "Facts" "__init__", "__init__", "Facts.__init__", s_Facts_init⟩,
  ⟨mA "Drop" "__init__", "__init__", "Drop.__init__", s_Drop_init⟩,
  ⟨mA "Lead" "__init__", "__init__", "Lead.__init__", s_Lead_init⟩]
def dsX1 : List DA := [
  ⟨mA "Name" "__init__", "__init__", "Name.__init__", s_Name_init⟩,
  ⟨mA "Part" "__init__", "__init__", "Part.__init__", s_Part_init⟩,
  ⟨mA "Sign" "__init__", "__init__", "Sign.__init__", s_Sign_init⟩,
  ⟨mA "Turn" "__init__", "__init__", "Turn.__init__", s_Turn_init⟩,
  ⟨mA "Weave" "__init__", "__init__", "Weave.__init__", s_Weave_init⟩,
  ⟨mA "Drop" "__str__", "__str__", "Drop.__str__", s_Drop_str⟩,
  ⟨mA "Lead" "__str__", "__str__", "Lead.__str__", s_Lead_str⟩,
  ⟨mA "Name" "__str__", "__str__", "Name.__str__", s_Name_str⟩,
  ⟨mA "Part" "__str__", "__str__", "Part.__str__", s_Part_str⟩,
  ⟨mA "Sign" "__str__", "__str__", "Sign.__str__", s_Sign_str⟩,
  ⟨mA "Turn" "__str__", "__str__", "Turn.__str__", s_Turn_str⟩,
  ⟨mA "Weave" "__str__", "__str__", "Weave.__str__", s_Weave_str⟩,
  ⟨pG "Drop" "kind", "kind", "Drop.kind", s_Drop_kind⟩,
  ⟨pG "Drop" "inner", "inner", "Drop.inner", s_Drop_inner⟩,
  ⟨pG "Drop" "told", "told", "Drop.told", s_Drop_told⟩,
  ⟨pG "Drop" "names", "names", "Drop.names", s_Drop_names⟩,
  ⟨pG "Drop" "knots", "knots", "Drop.knots", s_Drop_knots⟩,
  ⟨pG "Lead" "kind", "kind", "Lead.kind", s_Lead_kind⟩,
  ⟨pG "Lead" "inner", "inner", "Lead.inner", s_Lead_inner⟩,
  ⟨pG "Lead" "told", "told", "Lead.told", s_Lead_told⟩,
  ⟨pG "Lead" "names", "names", "Lead.names", s_Lead_names⟩,
  ⟨pG "Lead" "knots", "knots", "Lead.knots", s_Lead_knots⟩,
  ⟨pG "Name" "kind", "kind", "Name.kind", s_Name_kind⟩,
  ⟨pG "Name" "inner", "inner", "Name.inner", s_Name_inner⟩,
  ⟨pG "Name" "told", "told", "Name.told", s_Name_told⟩,
  ⟨pG "Name" "names", "names", "Name.names", s_Name_names⟩,
  ⟨pG "Name" "knots", "knots", "Name.knots", s_Name_knots⟩,
  ⟨pG "Part" "kind", "kind", "Part.kind", s_Part_kind⟩,
  ⟨pG "Part" "inner", "inner", "Part.inner", s_Part_inner⟩,
  ⟨pG "Part" "told", "told", "Part.told", s_Part_told⟩]
def dsX2 : List DA := [
  ⟨pG "Part" "names", "names", "Part.names", s_Part_names⟩,
  ⟨pG "Part" "knots", "knots", "Part.knots", s_Part_knots⟩,
  ⟨pG "Sign" "kind", "kind", "Sign.kind", s_Sign_kind⟩,
  ⟨pG "Sign" "inner", "inner", "Sign.inner", s_Sign_inner⟩,
  ⟨pG "Sign" "told", "told", "Sign.told", s_Sign_told⟩,
  ⟨pG "Sign" "names", "names", "Sign.names", s_Sign_names⟩,
  ⟨pG "Sign" "knots", "knots", "Sign.knots", s_Sign_knots⟩,
  ⟨pG "Turn" "kind", "kind", "Turn.kind", s_Turn_kind⟩,
  ⟨pG "Turn" "inner", "inner", "Turn.inner", s_Turn_inner⟩,
  ⟨pG "Turn" "told", "told", "Turn.told", s_Turn_told⟩,
  ⟨pG "Turn" "names", "names", "Turn.names", s_Turn_names⟩,
  ⟨pG "Turn" "knots", "knots", "Turn.knots", s_Turn_knots⟩,
  ⟨pG "Weave" "kind", "kind", "Weave.kind", s_Weave_kind⟩,
  ⟨pG "Weave" "inner", "inner", "Weave.inner", s_Weave_inner⟩,
  ⟨pG "Weave" "told", "told", "Weave.told", s_Weave_told⟩,
  ⟨pG "Weave" "names", "names", "Weave.names", s_Weave_names⟩,
  ⟨pG "Weave" "knots", "knots", "Weave.knots", s_Weave_knots⟩]
def dsX : List DA := dsX0 ++ (dsX1 ++ (dsX2))
def mksX : List Str := ["_law_small", "_law_part", "_law_weave"]
abbrev RX : PySem.W.OpenRow := PySem.W.OpenLaw.row PySem.Challenge.rw_wovenplaces_k03_parts_are_refused
abbrev hkX : PySem.W.Hook := hookT mksX exX dsX
def obX (s : PySem.W.SharedT) : AlZ × Bool := obsTG mksX exX dsX (HandSHeadRun.getT s)
theorem obX_eq (s : PySem.W.SharedT) : obX s = hkX.obs s.abs := obsTG_eq (HandSHeadRun.getT_eq s)
def namesX1 : List PySem.Str := ["InvalidNumber", "InvalidName", "InvalidSign", "InvalidWord", "InvalidExpression", "is_integer", "is_within", "is_lettered", "is_name", "check_within", "check_sign", "check_name", "check_word", "spelled", "check_expressions", "_law_deck", "_law_card", "_law_of", "_law_caught", "_law_thing", "_law_first", "_law_kid", "_law_small"]
def namesX2 : List PySem.Str := ["_law_part", "_law_weave", "_law_right", "WrongValue", "MOST_BASE", "MOST_SIGNS", "MOST_DROP", "LETTERS", "LEAST_BASE", "MOST_LETTERS", "NO_NAMES", "knots_above", "exchange", "Facts", "Expression", "make", "exchanged_in", "Drop", "Lead", "Name", "Part", "Sign", "Turn", "Weave"]
def namesX : List PySem.Str := namesX1 ++ namesX2
theorem runX (w : World) : HandSHeadRun.RunEq RX (PySem.W.view RX.prog [53]) hkX obX 20000 namesX w := by
  intro os
  kernel_rfl
end Wp

namespace Wp
open PySem PySem.Spec PyProof.Rows L2 Hx
/-! the promises out of what the head shows -/
section
variable {P : Program} {w : World} {K : PySem.W.Frag} {h : Heap} {mg : Str → Option Value} {base : Heap}
theorem exX_err (e : exX K = true) {x : Str} (hx : x ∈ errsX) : exErr K x = true := List.all_eq_true.mp (Bool.and_eq_true_iff.mp e).1 x hx
theorem exX_cls (e : exX K = true) {x : Str} (hx : x ∈ cnX) : exCls K x = true := List.all_eq_true.mp (Bool.and_eq_true_iff.mp (Bool.and_eq_true_iff.mp e).2).1 x hx
theorem exX_facts (e : exX K = true) : exFacts K = true := (Bool.and_eq_true_iff.mp (Bool.and_eq_true_iff.mp (Bool.and_eq_true_iff.mp e).2).2).1
theorem exX_old (e : exX K = true) : exOld K = true := (Bool.and_eq_true_iff.mp (Bool.and_eq_true_iff.mp (Bool.and_eq_true_iff.mp (Bool.and_eq_true_iff.mp e).2).2).2).1
theorem exX_rest (e : exX K = true) : (glosX.all (fun x => (He.Fa.glo x).ok K) && (freeX.all (fun x => (He.Fa.free x).ok K) && (exConsts K && ex3 K))) = true := (Bool.and_eq_true_iff.mp (Bool.and_eq_true_iff.mp (Bool.and_eq_true_iff.mp (Bool.and_eq_true_iff.mp e).2).2).2).2
theorem exX_glo (e : exX K = true) {x : Str} (hx : x ∈ glosX) : (He.Fa.glo x).ok K = true := List.all_eq_true.mp (Bool.and_eq_true_iff.mp (exX_rest e)).1 x hx
theorem exX_free (e : exX K = true) {x : Str} (hx : x ∈ freeX) : (He.Fa.free x).ok K = true := List.all_eq_true.mp (Bool.and_eq_true_iff.mp (Bool.and_eq_true_iff.mp (exX_rest e)).2).1 x hx
theorem exX_consts (e : exX K = true) : exConsts K = true := (Bool.and_eq_true_iff.mp (Bool.and_eq_true_iff.mp (Bool.and_eq_true_iff.mp (exX_rest e)).2).2).1
theorem exX_3 (e : exX K = true) : ex3 K = true := (Bool.and_eq_true_iff.mp (Bool.and_eq_true_iff.mp (Bool.and_eq_true_iff.mp (exX_rest e)).2).2).2
theorem m_glo (X : K.In h) (G : h.Ns mainGlobals mg) (e : exX K = true) (x : Str) (hx : x ∈ glosX := by decide +kernel) : mg x = some (.ref (He.ga K x)) := He.glo_ok X G (exX_glo e hx)
theorem m_free (X : K.In h) (G : h.Ns mainGlobals mg) (e : exX K = true) (x : Str) (hx : x ∈ freeX := by decide +kernel) : mg x = none := He.free_ok X G (exX_free e hx)
/-- a class of errors -/
structure ErrF (K : PySem.W.Frag) (x : Str) : Prop where
  g : (He.Fa.glo x).ok K = true
  ex : ExK K (He.ga K x) "ValueError" "ValueError.__new__" "ValueError.__init__" He.veBase
  hi : PySem.W.findIn K (.ref (He.ga K x)) "__init__" = some (some (.ref (He.ma K (He.ga K x) "__init__")))
  tI : PySem.W.typeIn K (.ref (He.ma K (He.ga K x) "__init__")) = some (.type "function")
  free : PySem.W.takerIn K (He.ga K x) "given" = some none
  no : PySem.W.findIn K (.ref (He.ga K x)) "given" = some none
  ty : PySem.W.typeIn K (.ref (He.ga K x)) = some (.type "type")
theorem errF (e : exX K = true) {x : Str} (hx : x ∈ errsX) : ErrF K x := by
  have h1 := exX_err e hx
  have h2 := exX_old e
  simp only [exErr, exOld, He.eqO, Bool.and_eq_true, decide_eq_true_eq] at h1 h2
  obtain ⟨a1, a2, a3, a4, a5, a6, a7, a8, a9, a10, a11, a12, a13, a14, a15, a16⟩ := h1
  exact ⟨decide_eq_true a1, ⟨PySem.F.excBase_ValueError, PySem.F.store_ValueError, a2, a3, a4, a5, a6, a7, a8, a9, a10, h2.1, h2.2, a11⟩, a12, a13, a14, a15, a16⟩
theorem mkc (X : K.In h) (G : h.Ns mainGlobals mg) {x qual : Str} {st : Stmt} {fd : FuncData} {q1 q2 q3 q4 : Pos} (E : ErrF K x) (F : Fun K "__init__" qual st (He.ma K (He.ga K x) "__init__") fd) (S : FnScope ["self", "given"] ["self", "given"] (defScope st))
    (hb : defBody st = [.Assign [.Attribute (.Name "self" q1) "given" q2] (.Name "given" q3) q4]) (v1 : Vis (defScope st) "self") (v2 : Vis (defScope st) "given") (b : Binds K fd ["self", "given"] [])
    (bk : ∀ (s : Shared) (self w1 : Value), BindsTo s fd ⟨[self], [("given", w1)]⟩ [("self", self), ("given", w1)]) : MkC P w K mg base x (He.ga K x) "given" :=
  ⟨⟨_, fd, _, _, _, _, E.ex, E.hi, E.tI, ok_in1 F S hb v1 v2 (by decide) (by decide) E.ex E.free, b, bk⟩, He.glo_ok X G E.g, E.no⟩
/-- one of the seven classes -/
structure ClsF (K : PySem.W.Frag) (x : Str) : Prop where
  g : (He.Fa.glo x).ok K = true
  cls : Cls K (He.ga K x)
  mkr : Mk K (He.ga K x) (He.ma K (He.ga K x) "__init__")
  no : NoAttr K (He.ga K x) "facts"
  str : Meth K (He.ga K x) "__str__" (He.ma K (He.ga K x) "__str__")
  rep : Meth K (He.ga K x) "__repr__" (He.ma K (He.ga K x) "__repr__")
  prop : ∀ p ∈ propsX, PropOf K (He.ga K x) p (He.ma K (He.ga K x) p) (pG x p K)
  cl : PySem.W.findIn K (.ref (He.ga K x)) "__class__" = some (some (.builtin "object.__class__"))
  mo : PySem.W.mroIn K (He.ga K x) (.type "object") = some true
  kit : ∀ y ∈ cnX, PySem.W.kitOne K (.ref (He.ga K x)) (.ref (He.ga K y)) = some (decide (x = y))
  top : PySem.W.kitOne K (.ref (He.ga K x)) (.ref (He.ga K "Expression")) = some true
theorem clsF (e : exX K = true) {x : Str} (hx : x ∈ cnX) : ClsF K x := by
  have h1 := exX_cls e hx
  unfold exCls at h1
  obtain ⟨a1, h1⟩ := Bool.and_eq_true_iff.mp h1
  obtain ⟨a2, h1⟩ := Bool.and_eq_true_iff.mp h1
  obtain ⟨a3, h1⟩ := Bool.and_eq_true_iff.mp h1
  obtain ⟨a4, h1⟩ := Bool.and_eq_true_iff.mp h1
  obtain ⟨a5, h1⟩ := Bool.and_eq_true_iff.mp h1
  obtain ⟨a6, h1⟩ := Bool.and_eq_true_iff.mp h1
  obtain ⟨a7, h1⟩ := Bool.and_eq_true_iff.mp h1
  obtain ⟨a8, h1⟩ := Bool.and_eq_true_iff.mp h1
  obtain ⟨a9, h1⟩ := Bool.and_eq_true_iff.mp h1
  obtain ⟨a10, a11⟩ := Bool.and_eq_true_iff.mp h1
  exact ⟨a1, He.cls_ok a2, He.mkr_ok a3, He.noat_ok a4, He.meth_ok a5, He.meth_ok a6, fun p hp => pB_ok (List.all_eq_true.mp a7 p hp), He.eqO_ok a8, of_decide_eq_true a9, fun y hy => of_decide_eq_true (List.all_eq_true.mp a10 y hy), of_decide_eq_true a11⟩
theorem clsF_facts (e : exX K = true) : (He.Fa.glo "Facts").ok K = true ∧ FactsC K (He.ga K "Facts") ∧ Mk K (He.ga K "Facts") (He.ma K (He.ga K "Facts") "__init__") := by
  have h1 := exX_facts e
  unfold exFacts at h1
  obtain ⟨a1, h1⟩ := Bool.and_eq_true_iff.mp h1
  obtain ⟨a2, h1⟩ := Bool.and_eq_true_iff.mp h1
  obtain ⟨a3, a4⟩ := Bool.and_eq_true_iff.mp h1
  exact ⟨a1, ⟨He.cls_ok a2, fun f hf => He.noat_ok (List.all_eq_true.mp a4 f hf)⟩, He.mkr_ok a3⟩
theorem constsX (X : K.In h) (G : h.Ns mainGlobals mg) (e : exX K = true) : Consts mg K := by
  have h1 := exX_consts e
  unfold exConsts at h1
  obtain ⟨a1, h1⟩ := Bool.and_eq_true_iff.mp h1
  obtain ⟨a2, h1⟩ := Bool.and_eq_true_iff.mp h1
  obtain ⟨a3, h1⟩ := Bool.and_eq_true_iff.mp h1
  obtain ⟨a4, h1⟩ := Bool.and_eq_true_iff.mp h1
  obtain ⟨a5, h1⟩ := Bool.and_eq_true_iff.mp h1
  obtain ⟨a6, a7⟩ := Bool.and_eq_true_iff.mp h1
  exact ⟨He.str_ok X G a1, He.int_ok X G a2, He.int_ok X G a3, He.int_ok X G a4, He.int_ok X G a5, He.int_ok X G a6, _, m_glo X G e "NO_NAMES", fun H => He.tupB_ok a7 H⟩
def kinds7 : List Str := ["drop", "lead", "name", "part", "sign", "turn", "weave"]
/-- the class of a kind -/
def cnOf (k : Str) : Str := if k = "drop" then "Drop" else if k = "lead" then "Lead" else if k = "name" then "Name" else if k = "part" then "Part" else if k = "sign" then "Sign" else if k = "turn" then "Turn" else "Weave"
theorem cn_in : ∀ k ∈ kinds7, cnOf k ∈ cnX := by decide +kernel
theorem cn_inj : ∀ k ∈ kinds7, ∀ j ∈ kinds7, decide (cnOf k = cnOf j) = decide (k = j) := by decide +kernel
def kcX (K : PySem.W.Frag) : KCls := fun k => He.ga K (cnOf k)
def clsX (K : PySem.W.Frag) (C : Addr) : Prop := ∃ x ∈ cnX, C = He.ga K x
theorem tyX_own (e : exX K = true) (H : Hp) (C a dx : Addr) (fs : List (Str × V)) (hC : clsX K C) (ha : H a = some (.ins C dx fs)) : TyX K H (.ref a) (.ref C) := by
  obtain ⟨x, hx, rfl⟩ := hC
  have c := clsF e hx
  have h2 := exX_old e
  simp only [exOld, He.eqO, Bool.and_eq_true, decide_eq_true_eq] at h2
  exact .base (.ins ha c.cls c.cl h2.1 h2.2 c.mo)
theorem ixX (e : exX K = true) : IsX K (He.ga K "Expression") (clsX K) := fun H C a dx fs hC ha => ⟨.ref C, tyX_own e H C a dx fs hC ha, by
  obtain ⟨x, hx, rfl⟩ := hC
  exact (clsF e hx).top⟩
theorem ownX (e : exX K = true) (C : Addr) (hC : clsX K C) : Own K C := by
  obtain ⟨x, hx, rfl⟩ := hC
  exact ⟨(clsF e hx).cls, (clsF e hx).no⟩
theorem cls_of (k : Str) (hk : k ∈ kinds7) : clsX K (kcX K k) := ⟨cnOf k, cn_in k hk, rfl⟩
end
end Wp

namespace Wp
open PySem PySem.Spec PyProof.Rows L2 Hx
/-- what a class of expressions tells of itself -/
structure TellF (P : Program) (w : World) (K : PySem.W.Frag) (mg : Str → Option Value) (base : Heap) (C : Addr) : Prop where
  str : TellsBy P w K mg base 1 C (spStr C (He.ga K "Facts"))
  kind : PropBy P w K mg base 1 C "kind" (spGet C (He.ga K "Facts") "word")
  inner : PropBy P w K mg base 1 C "inner" (spGet C (He.ga K "Facts") "parts")
  told : PropBy P w K mg base 1 C "told" (spGet C (He.ga K "Facts") "marks")
  names : PropBy P w K mg base 1 C "names" (spGet C (He.ga K "Facts") "labels")
  knots : PropBy P w K mg base 1 C "knots" (spGet C (He.ga K "Facts") "size")
section
variable {P : Program} {w : World} {K : PySem.W.Frag} {h : Heap} {mg : Str → Option Value} {base : Heap}

theorem sc_Drop_str : FnScope ["self"] ["self"] (defScope s_Drop_str) := ⟨rfl, rfl, rfl, by decide +kernel, rfl, by decide +kernel, by decide +kernel⟩
theorem sc_Drop_kind : FnScope ["self"] ["self"] (defScope s_Drop_kind) := ⟨rfl, rfl, rfl, by decide +kernel, rfl, by decide +kernel, by decide +kernel⟩
theorem sc_Drop_inner : FnScope ["self"] ["self"] (defScope s_Drop_inner) := ⟨rfl, rfl, rfl, by decide +kernel, rfl, by decide +kernel, by decide +kernel⟩
theorem sc_Drop_told : FnScope ["self"] ["self"] (defScope s_Drop_told) := ⟨rfl, rfl, rfl, by decide +kernel, rfl, by decide +kernel, by decide +kernel⟩
theorem sc_Drop_names : FnScope ["self"] ["self"] (defScope s_Drop_names) := ⟨rfl, rfl, rfl, by decide +kernel, rfl, by decide +kernel, by decide +kernel⟩
theorem sc_Drop_knots : FnScope ["self"] ["self"] (defScope s_Drop_knots) := ⟨rfl, rfl, rfl, by decide +kernel, rfl, by decide +kernel, by decide +kernel⟩
theorem tell_Drop (c : SaysZ exX dsX K) (z : mg "str" = none) : TellF P w K mg base (He.ga K "Drop") := by
  have e := c.ex
  have C := clsF e (x := "Drop") (by decide +kernel)
  have FC := (clsF_facts e).2.1
  obtain ⟨f1, F1⟩ := c.def_ 35 (d := ⟨mA "Drop" "__str__", "__str__", "Drop.__str__", s_Drop_str⟩) rfl
  obtain ⟨g0, G0⟩ := c.def_ 42 (d := ⟨pG "Drop" "kind", "kind", "Drop.kind", s_Drop_kind⟩) rfl
  obtain ⟨g1, G1⟩ := c.def_ 43 (d := ⟨pG "Drop" "inner", "inner", "Drop.inner", s_Drop_inner⟩) rfl
  obtain ⟨g2, G2⟩ := c.def_ 44 (d := ⟨pG "Drop" "told", "told", "Drop.told", s_Drop_told⟩) rfl
  obtain ⟨g3, G3⟩ := c.def_ 45 (d := ⟨pG "Drop" "names", "names", "Drop.names", s_Drop_names⟩) rfl
  obtain ⟨g4, G4⟩ := c.def_ 46 (d := ⟨pG "Drop" "knots", "knots", "Drop.knots", s_Drop_knots⟩) rfl
  exact ⟨⟨C.cls, _, f1, C.str.at_, C.str.fn, ok_str F1 sc_Drop_str rfl (Or.inl rfl) (fun _ _ => rfl) z C.cls C.no FC.cls (FC.no "text" (by simp)), F1.binds (ps := ["self"]) (fun _ _ _ _ _ _ us hl => match us, hl with | [_], _ => rfl)⟩,
    ⟨C.cls, _, _, g0, C.prop "kind" (by decide +kernel), ok_get G0 sc_Drop_kind rfl (Or.inl rfl) C.cls C.no FC.cls (FC.no "word" (by simp)), G0.binds (ps := ["self"]) (fun _ _ _ _ _ _ us hl => match us, hl with | [_], _ => rfl)⟩,
    ⟨C.cls, _, _, g1, C.prop "inner" (by decide +kernel), ok_get G1 sc_Drop_inner rfl (Or.inl rfl) C.cls C.no FC.cls (FC.no "parts" (by simp)), G1.binds (ps := ["self"]) (fun _ _ _ _ _ _ us hl => match us, hl with | [_], _ => rfl)⟩,
    ⟨C.cls, _, _, g2, C.prop "told" (by decide +kernel), ok_get G2 sc_Drop_told rfl (Or.inl rfl) C.cls C.no FC.cls (FC.no "marks" (by simp)), G2.binds (ps := ["self"]) (fun _ _ _ _ _ _ us hl => match us, hl with | [_], _ => rfl)⟩,
    ⟨C.cls, _, _, g3, C.prop "names" (by decide +kernel), ok_get G3 sc_Drop_names rfl (Or.inl rfl) C.cls C.no FC.cls (FC.no "labels" (by simp)), G3.binds (ps := ["self"]) (fun _ _ _ _ _ _ us hl => match us, hl with | [_], _ => rfl)⟩,
    ⟨C.cls, _, _, g4, C.prop "knots" (by decide +kernel), ok_get G4 sc_Drop_knots rfl (Or.inl rfl) C.cls C.no FC.cls (FC.no "size" (by simp)), G4.binds (ps := ["self"]) (fun _ _ _ _ _ _ us hl => match us, hl with | [_], _ => rfl)⟩⟩
theorem sc_Lead_str : FnScope ["self"] ["self"] (defScope s_Lead_str) := ⟨rfl, rfl, rfl, by decide +kernel, rfl, by decide +kernel, by decide +kernel⟩
theorem sc_Lead_kind : FnScope ["self"] ["self"] (defScope s_Lead_kind) := ⟨rfl, rfl, rfl, by decide +kernel, rfl, by decide +kernel, by decide +kernel⟩
theorem sc_Lead_inner : FnScope ["self"] ["self"] (defScope s_Lead_inner) := ⟨rfl, rfl, rfl, by decide +kernel, rfl, by decide +kernel, by decide +kernel⟩
theorem sc_Lead_told : FnScope ["self"] ["self"] (defScope s_Lead_told) := ⟨rfl, rfl, rfl, by decide +kernel, rfl, by decide +kernel, by decide +kernel⟩
theorem sc_Lead_names : FnScope ["self"] ["self"] (defScope s_Lead_names) := ⟨rfl, rfl, rfl, by decide +kernel, rfl, by decide +kernel, by decide +kernel⟩
theorem sc_Lead_knots : FnScope ["self"] ["self"] (defScope s_Lead_knots) := ⟨rfl, rfl, rfl, by decide +kernel, rfl, by decide +kernel, by decide +kernel⟩
theorem tell_Lead (c : SaysZ exX dsX K) (z : mg "str" = none) : TellF P w K mg base (He.ga K "Lead") := by
  have e := c.ex
  have C := clsF e (x := "Lead") (by decide +kernel)
  have FC := (clsF_facts e).2.1
  obtain ⟨f1, F1⟩ := c.def_ 36 (d := ⟨mA "Lead" "__str__", "__str__", "Lead.__str__", s_Lead_str⟩) rfl
  obtain ⟨g0, G0⟩ := c.def_ 47 (d := ⟨pG "Lead" "kind", "kind", "Lead.kind", s_Lead_kind⟩) rfl
  obtain ⟨g1, G1⟩ := c.def_ 48 (d := ⟨pG "Lead" "inner", "inner", "Lead.inner", s_Lead_inner⟩) rfl
  obtain ⟨g2, G2⟩ := c.def_ 49 (d := ⟨pG "Lead" "told", "told", "Lead.told", s_Lead_told⟩) rfl
  obtain ⟨g3, G3⟩ := c.def_ 50 (d := ⟨pG "Lead" "names", "names", "Lead.names", s_Lead_names⟩) rfl
  obtain ⟨g4, G4⟩ := c.def_ 51 (d := ⟨pG "Lead" "knots", "knots", "Lead.knots", s_Lead_knots⟩) rfl
  exact ⟨⟨C.cls, _, f1, C.str.at_, C.str.fn, ok_str F1 sc_Lead_str rfl (Or.inl rfl) (fun _ _ => rfl) z C.cls C.no FC.cls (FC.no "text" (by simp)), F1.binds (ps := ["self"]) (fun _ _ _ _ _ _ us hl => match us, hl with | [_], _ => rfl)⟩,
    ⟨C.cls, _, _, g0, C.prop "kind" (by decide +kernel), ok_get G0 sc_Lead_kind rfl (Or.inl rfl) C.cls C.no FC.cls (FC.no "word" (by simp)), G0.binds (ps := ["self"]) (fun _ _ _ _ _ _ us hl => match us, hl with | [_], _ => rfl)⟩,
    ⟨C.cls, _, _, g1, C.prop "inner" (by decide +kernel), ok_get G1 sc_Lead_inner rfl (Or.inl rfl) C.cls C.no FC.cls (FC.no "parts" (by simp)), G1.binds (ps := ["self"]) (fun _ _ _ _ _ _ us hl => match us, hl with | [_], _ => rfl)⟩,
    ⟨C.cls, _, _, g2, C.prop "told" (by decide +kernel), ok_get G2 sc_Lead_told rfl (Or.inl rfl) C.cls C.no FC.cls (FC.no "marks" (by simp)), G2.binds (ps := ["self"]) (fun _ _ _ _ _ _ us hl => match us, hl with | [_], _ => rfl)⟩,
    ⟨C.cls, _, _, g3, C.prop "names" (by decide +kernel), ok_get G3 sc_Lead_names rfl (Or.inl rfl) C.cls C.no FC.cls (FC.no "labels" (by simp)), G3.binds (ps := ["self"]) (fun _ _ _ _ _ _ us hl => match us, hl with | [_], _ => rfl)⟩,
    ⟨C.cls, _, _, g4, C.prop "knots" (by decide +kernel), ok_get G4 sc_Lead_knots rfl (Or.inl rfl) C.cls C.no FC.cls (FC.no "size" (by simp)), G4.binds (ps := ["self"]) (fun _ _ _ _ _ _ us hl => match us, hl with | [_], _ => rfl)⟩⟩
theorem sc_Name_str : FnScope ["self"] ["self"] (defScope s_Name_str) := ⟨rfl, rfl, rfl, by decide +kernel, rfl, by decide +kernel, by decide +kernel⟩
theorem sc_Name_kind : FnScope ["self"] ["self"] (defScope s_Name_kind) := ⟨rfl, rfl, rfl, by decide +kernel, rfl, by decide +kernel, by decide +kernel⟩
theorem sc_Name_inner : FnScope ["self"] ["self"] (defScope s_Name_inner) := ⟨rfl, rfl, rfl, by decide +kernel, rfl, by decide +kernel, by decide +kernel⟩
theorem sc_Name_told : FnScope ["self"] ["self"] (defScope s_Name_told) := ⟨rfl, rfl, rfl, by decide +kernel, rfl, by decide +kernel, by decide +kernel⟩
theorem sc_Name_names : FnScope ["self"] ["self"] (defScope s_Name_names) := ⟨rfl, rfl, rfl, by decide +kernel, rfl, by decide +kernel, by decide +kernel⟩
theorem sc_Name_knots : FnScope ["self"] ["self"] (defScope s_Name_knots) := ⟨rfl, rfl, rfl, by decide +kernel, rfl, by decide +kernel, by decide +kernel⟩
theorem tell_Name (c : SaysZ exX dsX K) (z : mg "str" = none) : TellF P w K mg base (He.ga K "Name") := by
  have e := c.ex
  have C := clsF e (x := "Name") (by decide +kernel)
  have FC := (clsF_facts e).2.1
  obtain ⟨f1, F1⟩ := c.def_ 37 (d := ⟨mA "Name" "__str__", "__str__", "Name.__str__", s_Name_str⟩) rfl
  obtain ⟨g0, G0⟩ := c.def_ 52 (d := ⟨pG "Name" "kind", "kind", "Name.kind", s_Name_kind⟩) rfl
  obtain ⟨g1, G1⟩ := c.def_ 53 (d := ⟨pG "Name" "inner", "inner", "Name.inner", s_Name_inner⟩) rfl
  obtain ⟨g2, G2⟩ := c.def_ 54 (d := ⟨pG "Name" "told", "told", "Name.told", s_Name_told⟩) rfl
  obtain ⟨g3, G3⟩ := c.def_ 55 (d := ⟨pG "Name" "names", "names", "Name.names", s_Name_names⟩) rfl
  obtain ⟨g4, G4⟩ := c.def_ 56 (d := ⟨pG "Name" "knots", "knots", "Name.knots", s_Name_knots⟩) rfl
  exact ⟨⟨C.cls, _, f1, C.str.at_, C.str.fn, ok_str F1 sc_Name_str rfl (Or.inl rfl) (fun _ _ => rfl) z C.cls C.no FC.cls (FC.no "text" (by simp)), F1.binds (ps := ["self"]) (fun _ _ _ _ _ _ us hl => match us, hl with | [_], _ => rfl)⟩,
    ⟨C.cls, _, _, g0, C.prop "kind" (by decide +kernel), ok_get G0 sc_Name_kind rfl (Or.inl rfl) C.cls C.no FC.cls (FC.no "word" (by simp)), G0.binds (ps := ["self"]) (fun _ _ _ _ _ _ us hl => match us, hl with | [_], _ => rfl)⟩,
    ⟨C.cls, _, _, g1, C.prop "inner" (by decide +kernel), ok_get G1 sc_Name_inner rfl (Or.inl rfl) C.cls C.no FC.cls (FC.no "parts" (by simp)), G1.binds (ps := ["self"]) (fun _ _ _ _ _ _ us hl => match us, hl with | [_], _ => rfl)⟩,
    ⟨C.cls, _, _, g2, C.prop "told" (by decide +kernel), ok_get G2 sc_Name_told rfl (Or.inl rfl) C.cls C.no FC.cls (FC.no "marks" (by simp)), G2.binds (ps := ["self"]) (fun _ _ _ _ _ _ us hl => match us, hl with | [_], _ => rfl)⟩,
    ⟨C.cls, _, _, g3, C.prop "names" (by decide +kernel), ok_get G3 sc_Name_names rfl (Or.inl rfl) C.cls C.no FC.cls (FC.no "labels" (by simp)), G3.binds (ps := ["self"]) (fun _ _ _ _ _ _ us hl => match us, hl with | [_], _ => rfl)⟩,
    ⟨C.cls, _, _, g4, C.prop "knots" (by decide +kernel), ok_get G4 sc_Name_knots rfl (Or.inl rfl) C.cls C.no FC.cls (FC.no "size" (by simp)), G4.binds (ps := ["self"]) (fun _ _ _ _ _ _ us hl => match us, hl with | [_], _ => rfl)⟩⟩
theorem sc_Part_str : FnScope ["self"] ["self"] (defScope s_Part_str) := ⟨rfl, rfl, rfl, by decide +kernel, rfl, by decide +kernel, by decide +kernel⟩
theorem sc_Part_kind : FnScope ["self"] ["self"] (defScope s_Part_kind) := ⟨rfl, rfl, rfl, by decide +kernel, rfl, by decide +kernel, by decide +kernel⟩
theorem sc_Part_inner : FnScope ["self"] ["self"] (defScope s_Part_inner) := ⟨rfl, rfl, rfl, by decide +kernel, rfl, by decide +kernel, by decide +kernel⟩
theorem sc_Part_told : FnScope ["self"] ["self"] (defScope s_Part_told) := ⟨rfl, rfl, rfl, by decide +kernel, rfl, by decide +kernel, by decide +kernel⟩
theorem sc_Part_names : FnScope ["self"] ["self"] (defScope s_Part_names) := ⟨rfl, rfl, rfl, by decide +kernel, rfl, by decide +kernel, by decide +kernel⟩
theorem sc_Part_knots : FnScope ["self"] ["self"] (defScope s_Part_knots) := ⟨rfl, rfl, rfl, by decide +kernel, rfl, by decide +kernel, by decide +kernel⟩
theorem tell_Part (c : SaysZ exX dsX K) (z : mg "str" = none) : TellF P w K mg base (He.ga K "Part") := by
  have e := c.ex
  have C := clsF e (x := "Part") (by decide +kernel)
  have FC := (clsF_facts e).2.1
  obtain ⟨f1, F1⟩ := c.def_ 38 (d := ⟨mA "Part" "__str__", "__str__", "Part.__str__", s_Part_str⟩) rfl
  obtain ⟨g0, G0⟩ := c.def_ 57 (d := ⟨pG "Part" "kind", "kind", "Part.kind", s_Part_kind⟩) rfl
  obtain ⟨g1, G1⟩ := c.def_ 58 (d := ⟨pG "Part" "inner", "inner", "Part.inner", s_Part_inner⟩) rfl
  obtain ⟨g2, G2⟩ := c.def_ 59 (d := ⟨pG "Part" "told", "told", "Part.told", s_Part_told⟩) rfl
  obtain ⟨g3, G3⟩ := c.def_ 60 (d := ⟨pG "Part" "names", "names", "Part.names", s_Part_names⟩) rfl
  obtain ⟨g4, G4⟩ := c.def_ 61 (d := ⟨pG "Part" "knots", "knots", "Part.knots", s_Part_knots⟩) rfl
  exact ⟨⟨C.cls, _, f1, C.str.at_, C.str.fn, ok_str F1 sc_Part_str rfl (Or.inl rfl) (fun _ _ => rfl) z C.cls C.no FC.cls (FC.no "text" (by simp)), F1.binds (ps := ["self"]) (fun _ _ _ _ _ _ us hl => match us, hl with | [_], _ => rfl)⟩,
    ⟨C.cls, _, _, g0, C.prop "kind" (by decide +kernel), ok_get G0 sc_Part_kind rfl (Or.inl rfl) C.cls C.no FC.cls (FC.no "word" (by simp)), G0.binds (ps := ["self"]) (fun _ _ _ _ _ _ us hl => match us, hl with | [_], _ => rfl)⟩,
    ⟨C.cls, _, _, g1, C.prop "inner" (by decide +kernel), ok_get G1 sc_Part_inner rfl (Or.inl rfl) C.cls C.no FC.cls (FC.no "parts" (by simp)), G1.binds (ps := ["self"]) (fun _ _ _ _ _ _ us hl => match us, hl with | [_], _ => rfl)⟩,
    ⟨C.cls, _, _, g2, C.prop "told" (by decide +kernel), ok_get G2 sc_Part_told rfl (Or.inl rfl) C.cls C.no FC.cls (FC.no "marks" (by simp)), G2.binds (ps := ["self"]) (fun _ _ _ _ _ _ us hl => match us, hl with | [_], _ => rfl)⟩,
    ⟨C.cls, _, _, g3, C.prop "names" (by decide +kernel), ok_get G3 sc_Part_names rfl (Or.inl rfl) C.cls C.no FC.cls (FC.no "labels" (by simp)), G3.binds (ps := ["self"]) (fun _ _ _ _ _ _ us hl => match us, hl with | [_], _ => rfl)⟩,
    ⟨C.cls, _, _, g4, C.prop "knots" (by decide +kernel), ok_get G4 sc_Part_knots rfl (Or.inl rfl) C.cls C.no FC.cls (FC.no "size" (by simp)), G4.binds (ps := ["self"]) (fun _ _ _ _ _ _ us hl => match us, hl with | [_], _ => rfl)⟩⟩
theorem sc_Sign_str : FnScope ["self"] ["self"] (defScope s_Sign_str) := ⟨rfl, rfl, rfl, by decide +kernel, rfl, by decide +kernel, by decide +kernel⟩
theorem sc_Sign_kind : FnScope ["self"] ["self"] (defScope s_Sign_kind) := ⟨rfl, rfl, rfl, by decide +kernel, rfl, by decide +kernel, by decide +kernel⟩
theorem sc_Sign_inner : FnScope ["self"] ["self"] (defScope s_Sign_inner) := ⟨rfl, rfl, rfl, by decide +kernel, rfl, by decide +kernel, by decide +kernel⟩
theorem sc_Sign_told : FnScope ["self"] ["self"] (defScope s_Sign_told) := ⟨rfl, rfl, rfl, by decide +kernel, rfl, by decide +kernel, by decide +kernel⟩
theorem sc_Sign_names : FnScope ["self"] ["self"] (defScope s_Sign_names) := ⟨rfl, rfl, rfl, by decide +kernel, rfl, by decide +kernel, by decide +kernel⟩
theorem sc_Sign_knots : FnScope ["self"] ["self"] (defScope s_Sign_knots) := ⟨rfl, rfl, rfl, by decide +kernel, rfl, by decide +kernel, by decide +kernel⟩
theorem tell_Sign (c : SaysZ exX dsX K) (z : mg "str" = none) : TellF P w K mg base (He.ga K "Sign") := by
  have e := c.ex
  have C := clsF e (x := "Sign") (by decide +kernel)
  have FC := (clsF_facts e).2.1
  obtain ⟨f1, F1⟩ := c.def_ 39 (d := ⟨mA "Sign" "__str__", "__str__", "Sign.__str__", s_Sign_str⟩) rfl
  obtain ⟨g0, G0⟩ := c.def_ 62 (d := ⟨pG "Sign" "kind", "kind", "Sign.kind", s_Sign_kind⟩) rfl
  obtain ⟨g1, G1⟩ := c.def_ 63 (d := ⟨pG "Sign" "inner", "inner", "Sign.inner", s_Sign_inner⟩) rfl
  obtain ⟨g2, G2⟩ := c.def_ 64 (d := ⟨pG "Sign" "told", "told", "Sign.told", s_Sign_told⟩) rfl
  obtain ⟨g3, G3⟩ := c.def_ 65 (d := ⟨pG "Sign" "names", "names", "Sign.names", s_Sign_names⟩) rfl
  obtain ⟨g4, G4⟩ := c.def_ 66 (d := ⟨pG "Sign" "knots", "knots", "Sign.knots", s_Sign_knots⟩) rfl
  exact ⟨⟨C.cls, _, f1, C.str.at_, C.str.fn, ok_str F1 sc_Sign_str rfl (Or.inl rfl) (fun _ _ => rfl) z C.cls C.no FC.cls (FC.no "text" (by simp)), F1.binds (ps := ["self"]) (fun _ _ _ _ _ _ us hl => match us, hl with | [_], _ => rfl)⟩,
    ⟨C.cls, _, _, g0, C.prop "kind" (by decide +kernel), ok_get G0 sc_Sign_kind rfl (Or.inl rfl) C.cls C.no FC.cls (FC.no "word" (by simp)), G0.binds (ps := ["self"]) (fun _ _ _ _ _ _ us hl => match us, hl with | [_], _ => rfl)⟩,
    ⟨C.cls, _, _, g1, C.prop "inner" (by decide +kernel), ok_get G1 sc_Sign_inner rfl (Or.inl rfl) C.cls C.no FC.cls (FC.no "parts" (by simp)), G1.binds (ps := ["self"]) (fun _ _ _ _ _ _ us hl => match us, hl with | [_], _ => rfl)⟩,
    ⟨C.cls, _, _, g2, C.prop "told" (by decide +kernel), ok_get G2 sc_Sign_told rfl (Or.inl rfl) C.cls C.no FC.cls (FC.no "marks" (by simp)), G2.binds (ps := ["self"]) (fun _ _ _ _ _ _ us hl => match us, hl with | [_], _ => rfl)⟩,
    ⟨C.cls, _, _, g3, C.prop "names" (by decide +kernel), ok_get G3 sc_Sign_names rfl (Or.inl rfl) C.cls C.no FC.cls (FC.no "labels" (by simp)), G3.binds (ps := ["self"]) (fun _ _ _ _ _ _ us hl => match us, hl with | [_], _ => rfl)⟩,
    ⟨C.cls, _, _, g4, C.prop "knots" (by decide +kernel), ok_get G4 sc_Sign_knots rfl (Or.inl rfl) C.cls C.no FC.cls (FC.no "size" (by simp)), G4.binds (ps := ["self"]) (fun _ _ _ _ _ _ us hl => match us, hl with | [_], _ => rfl)⟩⟩
theorem sc_Turn_str : FnScope ["self"] ["self"] (defScope s_Turn_str) := ⟨rfl, rfl, rfl, by decide +kernel, rfl, by decide +kernel, by decide +kernel⟩
theorem sc_Turn_kind : FnScope ["self"] ["self"] (defScope s_Turn_kind) := ⟨rfl, rfl, rfl, by decide +kernel, rfl, by decide +kernel, by decide +kernel⟩
theorem sc_Turn_inner : FnScope ["self"] ["self"] (defScope s_Turn_inner) := ⟨rfl, rfl, rfl, by decide +kernel, rfl, by decide +kernel, by decide +kernel⟩
theorem sc_Turn_told : FnScope ["self"] ["self"] (defScope s_Turn_told) := ⟨rfl, rfl, rfl, by decide +kernel, rfl, by decide +kernel, by decide +kernel⟩
theorem sc_Turn_names : FnScope ["self"] ["self"] (defScope s_Turn_names) := ⟨rfl, rfl, rfl, by decide +kernel, rfl, by decide +kernel, by decide +kernel⟩
theorem sc_Turn_knots : FnScope ["self"] ["self"] (defScope s_Turn_knots) := ⟨rfl, rfl, rfl, by decide +kernel, rfl, by decide +kernel, by decide +kernel⟩
theorem tell_Turn (c : SaysZ exX dsX K) (z : mg "str" = none) : TellF P w K mg base (He.ga K "Turn") := by
  have e := c.ex
  have C := clsF e (x := "Turn") (by decide +kernel)
  have FC := (clsF_facts e).2.1
  obtain ⟨f1, F1⟩ := c.def_ 40 (d := ⟨mA "Turn" "__str__", "__str__", "Turn.__str__", s_Turn_str⟩) rfl
  obtain ⟨g0, G0⟩ := c.def_ 67 (d := ⟨pG "Turn" "kind", "kind", "Turn.kind", s_Turn_kind⟩) rfl
  obtain ⟨g1, G1⟩ := c.def_ 68 (d := ⟨pG "Turn" "inner", "inner", "Turn.inner", s_Turn_inner⟩) rfl
  obtain ⟨g2, G2⟩ := c.def_ 69 (d := ⟨pG "Turn" "told", "told", "Turn.told", s_Turn_told⟩) rfl
  obtain ⟨g3, G3⟩ := c.def_ 70 (d := ⟨pG "Turn" "names", "names", "Turn.names", s_Turn_names⟩) rfl
  obtain ⟨g4, G4⟩ := c.def_ 71 (d := ⟨pG "Turn" "knots", "knots", "Turn.knots", s_Turn_knots⟩) rfl
  exact ⟨⟨C.cls, _, f1, C.str.at_, C.str.fn, ok_str F1 sc_Turn_str rfl (Or.inl rfl) (fun _ _ => rfl) z C.cls C.no FC.cls (FC.no "text" (by simp)), F1.binds (ps := ["self"]) (fun _ _ _ _ _ _ us hl => match us, hl with | [_], _ => rfl)⟩,
    ⟨C.cls, _, _, g0, C.prop "kind" (by decide +kernel), ok_get G0 sc_Turn_kind rfl (Or.inl rfl) C.cls C.no FC.cls (FC.no "word" (by simp)), G0.binds (ps := ["self"]) (fun _ _ _ _ _ _ us hl => match us, hl with | [_], _ => rfl)⟩,
    ⟨C.cls, _, _, g1, C.prop "inner" (by decide +kernel), ok_get G1 sc_Turn_inner rfl (Or.inl rfl) C.cls C.no FC.cls (FC.no "parts" (by simp)), G1.binds (ps := ["self"]) (fun _ _ _ _ _ _ us hl => match us, hl with | [_], _ => rfl)⟩,
    ⟨C.cls, _, _, g2, C.prop "told" (by decide +kernel), ok_get G2 sc_Turn_told rfl (Or.inl rfl) C.cls C.no FC.cls (FC.no "marks" (by simp)), G2.binds (ps := ["self"]) (fun _ _ _ _ _ _ us hl => match us, hl with | [_], _ => rfl)⟩,
    ⟨C.cls, _, _, g3, C.prop "names" (by decide +kernel), ok_get G3 sc_Turn_names rfl (Or.inl rfl) C.cls C.no FC.cls (FC.no "labels" (by simp)), G3.binds (ps := ["self"]) (fun _ _ _ _ _ _ us hl => match us, hl with | [_], _ => rfl)⟩,
    ⟨C.cls, _, _, g4, C.prop "knots" (by decide +kernel), ok_get G4 sc_Turn_knots rfl (Or.inl rfl) C.cls C.no FC.cls (FC.no "size" (by simp)), G4.binds (ps := ["self"]) (fun _ _ _ _ _ _ us hl => match us, hl with | [_], _ => rfl)⟩⟩
theorem sc_Weave_str : FnScope ["self"] ["self"] (defScope s_Weave_str) := ⟨rfl, rfl, rfl, by decide +kernel, rfl, by decide +kernel, by decide +kernel⟩
theorem sc_Weave_kind : FnScope ["self"] ["self"] (defScope s_Weave_kind) := ⟨rfl, rfl, rfl, by decide +kernel, rfl, by decide +kernel, by decide +kernel⟩
theorem sc_Weave_inner : FnScope ["self"] ["self"] (defScope s_Weave_inner) := ⟨rfl, rfl, rfl, by decide +kernel, rfl, by decide +kernel, by decide +kernel⟩
theorem sc_Weave_told : FnScope ["self"] ["self"] (defScope s_Weave_told) := ⟨rfl, rfl, rfl, by decide +kernel, rfl, by decide +kernel, by decide +kernel⟩
theorem sc_Weave_names : FnScope ["self"] ["self"] (defScope s_Weave_names) := ⟨rfl, rfl, rfl, by decide +kernel, rfl, by decide +kernel, by decide +kernel⟩
theorem sc_Weave_knots : FnScope ["self"] ["self"] (defScope s_Weave_knots) := ⟨rfl, rfl, rfl, by decide +kernel, rfl, by decide +kernel, by decide +kernel⟩
theorem tell_Weave (c : SaysZ exX dsX K) (z : mg "str" = none) : TellF P w K mg base (He.ga K "Weave") := by
  have e := c.ex
  have C := clsF e (x := "Weave") (by decide +kernel)
  have FC := (clsF_facts e).2.1
  obtain ⟨f1, F1⟩ := c.def_ 41 (d := ⟨mA "Weave" "__str__", "__str__", "Weave.__str__", s_Weave_str⟩) rfl
  obtain ⟨g0, G0⟩ := c.def_ 72 (d := ⟨pG "Weave" "kind", "kind", "Weave.kind", s_Weave_kind⟩) rfl
  obtain ⟨g1, G1⟩ := c.def_ 73 (d := ⟨pG "Weave" "inner", "inner", "Weave.inner", s_Weave_inner⟩) rfl
  obtain ⟨g2, G2⟩ := c.def_ 74 (d := ⟨pG "Weave" "told", "told", "Weave.told", s_Weave_told⟩) rfl
  obtain ⟨g3, G3⟩ := c.def_ 75 (d := ⟨pG "Weave" "names", "names", "Weave.names", s_Weave_names⟩) rfl
  obtain ⟨g4, G4⟩ := c.def_ 76 (d := ⟨pG "Weave" "knots", "knots", "Weave.knots", s_Weave_knots⟩) rfl
  exact ⟨⟨C.cls, _, f1, C.str.at_, C.str.fn, ok_str F1 sc_Weave_str rfl (Or.inl rfl) (fun _ _ => rfl) z C.cls C.no FC.cls (FC.no "text" (by simp)), F1.binds (ps := ["self"]) (fun _ _ _ _ _ _ us hl => match us, hl with | [_], _ => rfl)⟩,
    ⟨C.cls, _, _, g0, C.prop "kind" (by decide +kernel), ok_get G0 sc_Weave_kind rfl (Or.inl rfl) C.cls C.no FC.cls (FC.no "word" (by simp)), G0.binds (ps := ["self"]) (fun _ _ _ _ _ _ us hl => match us, hl with | [_], _ => rfl)⟩,
    ⟨C.cls, _, _, g1, C.prop "inner" (by decide +kernel), ok_get G1 sc_Weave_inner rfl (Or.inl rfl) C.cls C.no FC.cls (FC.no "parts" (by simp)), G1.binds (ps := ["self"]) (fun _ _ _ _ _ _ us hl => match us, hl with | [_], _ => rfl)⟩,
    ⟨C.cls, _, _, g2, C.prop "told" (by decide +kernel), ok_get G2 sc_Weave_told rfl (Or.inl rfl) C.cls C.no FC.cls (FC.no "marks" (by simp)), G2.binds (ps := ["self"]) (fun _ _ _ _ _ _ us hl => match us, hl with | [_], _ => rfl)⟩,
    ⟨C.cls, _, _, g3, C.prop "names" (by decide +kernel), ok_get G3 sc_Weave_names rfl (Or.inl rfl) C.cls C.no FC.cls (FC.no "labels" (by simp)), G3.binds (ps := ["self"]) (fun _ _ _ _ _ _ us hl => match us, hl with | [_], _ => rfl)⟩,
    ⟨C.cls, _, _, g4, C.prop "knots" (by decide +kernel), ok_get G4 sc_Weave_knots rfl (Or.inl rfl) C.cls C.no FC.cls (FC.no "size" (by simp)), G4.binds (ps := ["self"]) (fun _ _ _ _ _ _ us hl => match us, hl with | [_], _ => rfl)⟩⟩
theorem tellX (c : SaysZ exX dsX K) (z : mg "str" = none) (C : Addr) (hC : clsX K C) : TellF P w K mg base C := by
  obtain ⟨x, hx, rfl⟩ := hC
  simp only [cnX, List.mem_cons, List.not_mem_nil, or_false] at hx
  rcases hx with rfl | rfl | rfl | rfl | rfl | rfl | rfl
  · exact tell_Drop c z
  · exact tell_Lead c z
  · exact tell_Name c z
  · exact tell_Part c z
  · exact tell_Sign c z
  · exact tell_Turn c z
  · exact tell_Weave c z
theorem klsX (c : SaysZ exX dsX K) (z : mg "str" = none) : Kls P w K mg base (He.ga K "Facts") (clsX K) := by
  refine ⟨fun C hC => (tellX c z C hC).str, fun C hC f fld hf => ?_⟩
  have T := tellX (P := P) (w := w) (base := base) c z C hC
  simp only [List.mem_cons, Prod.mk.injEq, List.not_mem_nil, or_false] at hf
  rcases hf with ⟨rfl, rfl⟩ | ⟨rfl, rfl⟩ | ⟨rfl, rfl⟩ | ⟨rfl, rfl⟩ | ⟨rfl, rfl⟩
  · exact T.kind
  · exact T.inner
  · exact T.told
  · exact T.names
  · exact T.knots
end
end Wp

namespace Wp
open PySem PySem.Spec PyProof.Rows L2 Hx
section
variable {P : Program} {w : World} {K : PySem.W.Frag} {h : Heap} {mg : Str → Option Value} {base : Heap} {fa : Addr}

theorem sc_InvalidNumber : FnScope ["self", "given"] ["self", "given"] (defScope s_InvalidNumber_init) := ⟨rfl, rfl, rfl, by decide +kernel, rfl, by decide +kernel, by decide +kernel⟩
theorem mk_InvalidNumber (X : K.In h) (G : h.Ns mainGlobals mg) (c : SaysZ exX dsX K) : MkC P w K mg base "InvalidNumber" (He.ga K "InvalidNumber") "given" := by
  obtain ⟨fd, F⟩ := c.def_ 22 (d := ⟨mA "InvalidNumber" "__init__", "__init__", "InvalidNumber.__init__", s_InvalidNumber_init⟩) rfl
  have E := errF c.ex (x := "InvalidNumber") (by decide +kernel)
  have b := F.binds (ps := ["self", "given"]) fun _ _ _ _ _ _ us hl => match us, hl with | [_, _], _ => rfl
  have ok := ok_in1 (P := P) (w := w) (mg := mg) (base := base) F sc_InvalidNumber rfl (Or.inl rfl) (Or.inl rfl) (by decide) (by decide) E.ex E.free
  obtain ⟨oc, od, kV, doc, pm, an, cdv, ct, osl, rfl, lk, hcd⟩ := F.ex
  exact ⟨⟨_, _, _, _, _, _, E.ex, E.hi, E.tI, ok, b, fun s self w1 => .of_eq rfl⟩, He.glo_ok X G E.g, E.no⟩
theorem sc_InvalidName : FnScope ["self", "given"] ["self", "given"] (defScope s_InvalidName_init) := ⟨rfl, rfl, rfl, by decide +kernel, rfl, by decide +kernel, by decide +kernel⟩
theorem mk_InvalidName (X : K.In h) (G : h.Ns mainGlobals mg) (c : SaysZ exX dsX K) : MkC P w K mg base "InvalidName" (He.ga K "InvalidName") "given" := by
  obtain ⟨fd, F⟩ := c.def_ 23 (d := ⟨mA "InvalidName" "__init__", "__init__", "InvalidName.__init__", s_InvalidName_init⟩) rfl
  have E := errF c.ex (x := "InvalidName") (by decide +kernel)
  have b := F.binds (ps := ["self", "given"]) fun _ _ _ _ _ _ us hl => match us, hl with | [_, _], _ => rfl
  have ok := ok_in1 (P := P) (w := w) (mg := mg) (base := base) F sc_InvalidName rfl (Or.inl rfl) (Or.inl rfl) (by decide) (by decide) E.ex E.free
  obtain ⟨oc, od, kV, doc, pm, an, cdv, ct, osl, rfl, lk, hcd⟩ := F.ex
  exact ⟨⟨_, _, _, _, _, _, E.ex, E.hi, E.tI, ok, b, fun s self w1 => .of_eq rfl⟩, He.glo_ok X G E.g, E.no⟩
theorem sc_InvalidSign : FnScope ["self", "given"] ["self", "given"] (defScope s_InvalidSign_init) := ⟨rfl, rfl, rfl, by decide +kernel, rfl, by decide +kernel, by decide +kernel⟩
theorem mk_InvalidSign (X : K.In h) (G : h.Ns mainGlobals mg) (c : SaysZ exX dsX K) : MkC P w K mg base "InvalidSign" (He.ga K "InvalidSign") "given" := by
  obtain ⟨fd, F⟩ := c.def_ 24 (d := ⟨mA "InvalidSign" "__init__", "__init__", "InvalidSign.__init__", s_InvalidSign_init⟩) rfl
  have E := errF c.ex (x := "InvalidSign") (by decide +kernel)
  have b := F.binds (ps := ["self", "given"]) fun _ _ _ _ _ _ us hl => match us, hl with | [_, _], _ => rfl
  have ok := ok_in1 (P := P) (w := w) (mg := mg) (base := base) F sc_InvalidSign rfl (Or.inl rfl) (Or.inl rfl) (by decide) (by decide) E.ex E.free
  obtain ⟨oc, od, kV, doc, pm, an, cdv, ct, osl, rfl, lk, hcd⟩ := F.ex
  exact ⟨⟨_, _, _, _, _, _, E.ex, E.hi, E.tI, ok, b, fun s self w1 => .of_eq rfl⟩, He.glo_ok X G E.g, E.no⟩
theorem sc_InvalidWord : FnScope ["self", "given"] ["self", "given"] (defScope s_InvalidWord_init) := ⟨rfl, rfl, rfl, by decide +kernel, rfl, by decide +kernel, by decide +kernel⟩
theorem mk_InvalidWord (X : K.In h) (G : h.Ns mainGlobals mg) (c : SaysZ exX dsX K) : MkC P w K mg base "InvalidWord" (He.ga K "InvalidWord") "given" := by
  obtain ⟨fd, F⟩ := c.def_ 25 (d := ⟨mA "InvalidWord" "__init__", "__init__", "InvalidWord.__init__", s_InvalidWord_init⟩) rfl
  have E := errF c.ex (x := "InvalidWord") (by decide +kernel)
  have b := F.binds (ps := ["self", "given"]) fun _ _ _ _ _ _ us hl => match us, hl with | [_, _], _ => rfl
  have ok := ok_in1 (P := P) (w := w) (mg := mg) (base := base) F sc_InvalidWord rfl (Or.inl rfl) (Or.inl rfl) (by decide) (by decide) E.ex E.free
  obtain ⟨oc, od, kV, doc, pm, an, cdv, ct, osl, rfl, lk, hcd⟩ := F.ex
  exact ⟨⟨_, _, _, _, _, _, E.ex, E.hi, E.tI, ok, b, fun s self w1 => .of_eq rfl⟩, He.glo_ok X G E.g, E.no⟩
theorem sc_InvalidExpression : FnScope ["self", "given"] ["self", "given"] (defScope s_InvalidExpression_init) := ⟨rfl, rfl, rfl, by decide +kernel, rfl, by decide +kernel, by decide +kernel⟩
theorem mk_InvalidExpression (X : K.In h) (G : h.Ns mainGlobals mg) (c : SaysZ exX dsX K) : MkC P w K mg base "InvalidExpression" (He.ga K "InvalidExpression") "given" := by
  obtain ⟨fd, F⟩ := c.def_ 26 (d := ⟨mA "InvalidExpression" "__init__", "__init__", "InvalidExpression.__init__", s_InvalidExpression_init⟩) rfl
  have E := errF c.ex (x := "InvalidExpression") (by decide +kernel)
  have b := F.binds (ps := ["self", "given"]) fun _ _ _ _ _ _ us hl => match us, hl with | [_, _], _ => rfl
  have ok := ok_in1 (P := P) (w := w) (mg := mg) (base := base) F sc_InvalidExpression rfl (Or.inl rfl) (Or.inl rfl) (by decide) (by decide) E.ex E.free
  obtain ⟨oc, od, kV, doc, pm, an, cdv, ct, osl, rfl, lk, hcd⟩ := F.ex
  exact ⟨⟨_, _, _, _, _, _, E.ex, E.hi, E.tI, ok, b, fun s self w1 => .of_eq rfl⟩, He.glo_ok X G E.g, E.no⟩
theorem ctorsX (X : K.In h) (G : h.Ns mainGlobals mg) (c : SaysZ exX dsX K) : Ctors P w K mg base (He.ga K "Facts") (He.ga K "Expression") (He.ga K "InvalidNumber") (He.ga K "InvalidSign") (He.ga K "InvalidName") (He.ga K "InvalidWord") (He.ga K "InvalidExpression") (kcX K) (clsX K) := by
  have e := c.ex
  have Z : Bltn mg := ⟨m_free X G e "isinstance", m_free X G e "int", m_free X G e "bool", m_free X G e "str", m_free X G e "len", m_free X G e "all"⟩
  have Z2 : Bltn2 mg := ⟨m_free X G e "list", m_free X G e "set", m_free X G e "sorted", m_free X G e "tuple", m_free X G e "sum"⟩
  have CO := constsX X G e
  have KL := klsX (P := P) (w := w) (base := base) c Z.str
  have OW := ownX e
  have ix := ixX e
  obtain ⟨gF, FC, MF⟩ := clsF_facts e
  obtain ⟨d_is_integer, F_is_integer⟩ := c.def_ 0 (d := ⟨gA "is_integer", "is_integer", "is_integer", s_is_integer⟩) rfl
  have b_is_integer := F_is_integer.binds (ps := ["value"]) fun _ _ _ _ _ _ us hl => match us, hl with | [_], _ => rfl
  obtain ⟨d_is_within, F_is_within⟩ := c.def_ 1 (d := ⟨gA "is_within", "is_within", "is_within", s_is_within⟩) rfl
  have b_is_within := F_is_within.binds (ps := ["value", "least", "most"]) fun _ _ _ _ _ _ us hl => match us, hl with | [_, _, _], _ => rfl
  obtain ⟨d_is_lettered, F_is_lettered⟩ := c.def_ 2 (d := ⟨gA "is_lettered", "is_lettered", "is_lettered", s_is_lettered⟩) rfl
  have b_is_lettered := F_is_lettered.binds (ps := ["value", "most"]) fun _ _ _ _ _ _ us hl => match us, hl with | [_, _], _ => rfl
  obtain ⟨d_is_name, F_is_name⟩ := c.def_ 3 (d := ⟨gA "is_name", "is_name", "is_name", s_is_name⟩) rfl
  have b_is_name := F_is_name.binds (ps := ["value"]) fun _ _ _ _ _ _ us hl => match us, hl with | [_], _ => rfl
  obtain ⟨d_check_within, F_check_within⟩ := c.def_ 4 (d := ⟨gA "check_within", "check_within", "check_within", s_check_within⟩) rfl
  have b_check_within := F_check_within.binds (ps := ["given", "least", "most"]) fun _ _ _ _ _ _ us hl => match us, hl with | [_, _, _], _ => rfl
  obtain ⟨d_check_sign, F_check_sign⟩ := c.def_ 5 (d := ⟨gA "check_sign", "check_sign", "check_sign", s_check_sign⟩) rfl
  have b_check_sign := F_check_sign.binds (ps := ["given"]) fun _ _ _ _ _ _ us hl => match us, hl with | [_], _ => rfl
  obtain ⟨d_check_name, F_check_name⟩ := c.def_ 6 (d := ⟨gA "check_name", "check_name", "check_name", s_check_name⟩) rfl
  have b_check_name := F_check_name.binds (ps := ["given"]) fun _ _ _ _ _ _ us hl => match us, hl with | [_], _ => rfl
  obtain ⟨d_check_word, F_check_word⟩ := c.def_ 7 (d := ⟨gA "check_word", "check_word", "check_word", s_check_word⟩) rfl
  have b_check_word := F_check_word.binds (ps := ["given"]) fun _ _ _ _ _ _ us hl => match us, hl with | [_], _ => rfl
  obtain ⟨d_spelled, F_spelled⟩ := c.def_ 8 (d := ⟨gA "spelled", "spelled", "spelled", s_spelled⟩) rfl
  have b_spelled := F_spelled.binds (ps := ["kind", "told", "inner"]) fun _ _ _ _ _ _ us hl => match us, hl with | [_, _, _], _ => rfl
  obtain ⟨d_check_expressions, F_check_expressions⟩ := c.def_ 9 (d := ⟨gA "check_expressions", "check_expressions", "check_expressions", s_check_expressions⟩) rfl
  have b_check_expressions := F_check_expressions.binds (ps := ["values"]) fun _ _ _ _ _ _ us hl => match us, hl with | [_], _ => rfl
  obtain ⟨d_Facts, F_Facts⟩ := c.def_ 27 (d := ⟨mA "Facts" "__init__", "__init__", "Facts.__init__", s_Facts_init⟩) rfl
  have b_Facts := F_Facts.binds (ps := ["self", "kind", "told", "inner"]) fun _ _ _ _ _ _ us hl => match us, hl with | [_, _, _, _], _ => rfl
  obtain ⟨d_Drop, F_Drop⟩ := c.def_ 28 (d := ⟨mA "Drop" "__init__", "__init__", "Drop.__init__", s_Drop_init⟩) rfl
  have b_Drop := F_Drop.binds (ps := ["self", "many", "inner"]) fun _ _ _ _ _ _ us hl => match us, hl with | [_, _, _], _ => rfl
  obtain ⟨d_Lead, F_Lead⟩ := c.def_ 29 (d := ⟨mA "Lead" "__init__", "__init__", "Lead.__init__", s_Lead_init⟩) rfl
  have b_Lead := F_Lead.binds (ps := ["self", "first", "rest"]) fun _ _ _ _ _ _ us hl => match us, hl with | [_, _, _], _ => rfl
  obtain ⟨d_Name, F_Name⟩ := c.def_ 30 (d := ⟨mA "Name" "__init__", "__init__", "Name.__init__", s_Name_init⟩) rfl
  have b_Name := F_Name.binds (ps := ["self", "name"]) fun _ _ _ _ _ _ us hl => match us, hl with | [_, _], _ => rfl
  obtain ⟨d_Part, F_Part⟩ := c.def_ 31 (d := ⟨mA "Part" "__init__", "__init__", "Part.__init__", s_Part_init⟩) rfl
  have b_Part := F_Part.binds (ps := ["self", "at", "base", "inner"]) fun _ _ _ _ _ _ us hl => match us, hl with | [_, _, _, _], _ => rfl
  obtain ⟨d_Sign, F_Sign⟩ := c.def_ 32 (d := ⟨mA "Sign" "__init__", "__init__", "Sign.__init__", s_Sign_init⟩) rfl
  have b_Sign := F_Sign.binds (ps := ["self", "sign"]) fun _ _ _ _ _ _ us hl => match us, hl with | [_, _], _ => rfl
  obtain ⟨d_Turn, F_Turn⟩ := c.def_ 33 (d := ⟨mA "Turn" "__init__", "__init__", "Turn.__init__", s_Turn_init⟩) rfl
  have b_Turn := F_Turn.binds (ps := ["self", "word", "inner"]) fun _ _ _ _ _ _ us hl => match us, hl with | [_, _, _], _ => rfl
  obtain ⟨d_Weave, F_Weave⟩ := c.def_ 34 (d := ⟨mA "Weave" "__init__", "__init__", "Weave.__init__", s_Weave_init⟩) rfl
  have G_is_integer := ok_isint (P := P) (w := w) (mg := mg) (base := base) F_is_integer Z
  have G_is_within := ok_within (P := P) (w := w) (mg := mg) (base := base) F_is_within G_is_integer b_is_integer F_is_integer.kp (m_glo X G e "is_integer")
  have G_is_lettered := ok_lettered (P := P) (w := w) (mg := mg) (base := base) F_is_lettered Z CO
  have G_is_name := ok_name (P := P) (w := w) (mg := mg) (base := base) F_is_name CO G_is_lettered b_is_lettered F_is_lettered.kp (m_glo X G e "is_lettered")
  have G_check_within := ok_ckW (P := P) (w := w) (mg := mg) (base := base) F_check_within (mk_InvalidNumber (base := base) X G c) (errF e (x := "InvalidNumber") (by decide +kernel)).ty G_is_within b_is_within F_is_within.kp (m_glo X G e "is_within")
  have G_check_sign := ok_check_sign (P := P) (w := w) (mg := mg) (base := base) F_check_sign (mk_InvalidSign (base := base) X G c) (errF e (x := "InvalidSign") (by decide +kernel)).ty G_is_lettered b_is_lettered F_is_lettered.kp (m_glo X G e "is_lettered")
  have G_check_name := ok_check_name (P := P) (w := w) (mg := mg) (base := base) F_check_name (mk_InvalidName (base := base) X G c) (errF e (x := "InvalidName") (by decide +kernel)).ty G_is_name b_is_name F_is_name.kp (m_glo X G e "is_name")
  have G_check_word := ok_check_word (P := P) (w := w) (mg := mg) (base := base) F_check_word (mk_InvalidWord (base := base) X G c) (errF e (x := "InvalidWord") (by decide +kernel)).ty CO G_is_lettered b_is_lettered F_is_lettered.kp (m_glo X G e "is_lettered")
  have G_check_expressions := ok_ckE (P := P) (w := w) (mg := mg) (base := base) F_check_expressions Z (mk_InvalidExpression (base := base) X G c) (errF e (x := "InvalidExpression") (by decide +kernel)).ty (m_glo X G e "Expression")
  have G_spelled := ok_spelled (P := P) (w := w) (mg := mg) (base := base) F_spelled Z KL
  have G_Facts := ok_facts (P := P) (w := w) (mg := mg) (base := base) F_Facts Z2 KL FC G_spelled b_spelled F_spelled.kp (m_glo X G e "spelled")
  have FO : FactsOk P w K mg base (He.ga K "Facts") (clsX K) := ⟨He.glo_ok X G gF, _, _, MF, G_Facts, b_Facts⟩
  have zm := m_free X G e "max"

  have n_drop : kcX K "drop" = He.ga K "Drop" := congrArg (He.ga K) (by decide +kernel)
  have n_lead : kcX K "lead" = He.ga K "Lead" := congrArg (He.ga K) (by decide +kernel)
  have n_name : kcX K "name" = He.ga K "Name" := congrArg (He.ga K) (by decide +kernel)
  have n_part : kcX K "part" = He.ga K "Part" := congrArg (He.ga K) (by decide +kernel)
  have n_sign : kcX K "sign" = He.ga K "Sign" := congrArg (He.ga K) (by decide +kernel)
  have n_turn : kcX K "turn" = He.ga K "Turn" := congrArg (He.ga K) (by decide +kernel)
  have n_weave : kcX K "weave" = He.ga K "Weave" := congrArg (He.ga K) (by decide +kernel)
  exact
    { own := fun k hk => cls_of k ((by decide +kernel : ∀ k ∈ (["sign", "name", "weave", "part", "drop", "lead", "turn"] : List Str), k ∈ kinds7) k hk)
      sign := by rw [n_sign]; exact ⟨He.glo_ok X G (clsF e (x := "Sign") (by decide +kernel)).g, _, _, (clsF e (x := "Sign") (by decide +kernel)).mkr, ok_sign F_Sign FO OW G_check_sign b_check_sign F_check_sign.kp (m_glo X G e "check_sign"), b_Sign⟩
      name := by rw [n_name]; exact ⟨He.glo_ok X G (clsF e (x := "Name") (by decide +kernel)).g, _, _, (clsF e (x := "Name") (by decide +kernel)).mkr, ok_nameE F_Name FO OW G_check_name b_check_name F_check_name.kp (m_glo X G e "check_name"), b_Name⟩
      weave := by rw [n_weave]; exact ⟨He.glo_ok X G (clsF e (x := "Weave") (by decide +kernel)).g, _, (clsF e (x := "Weave") (by decide +kernel)).mkr, ok_weave F_Weave FO OW ix CO Z G_check_within b_check_within F_check_within.kp (m_glo X G e "check_within") G_check_expressions b_check_expressions F_check_expressions.kp (m_glo X G e "check_expressions")⟩
      part := by rw [n_part]; exact ⟨He.glo_ok X G (clsF e (x := "Part") (by decide +kernel)).g, _, _, (clsF e (x := "Part") (by decide +kernel)).mkr, ok_part F_Part FO OW ix CO zm G_check_within b_check_within F_check_within.kp (m_glo X G e "check_within") G_check_expressions b_check_expressions F_check_expressions.kp (m_glo X G e "check_expressions"), b_Part⟩
      drop := by rw [n_drop]; exact ⟨He.glo_ok X G (clsF e (x := "Drop") (by decide +kernel)).g, _, _, (clsF e (x := "Drop") (by decide +kernel)).mkr, ok_drop F_Drop FO OW ix CO G_check_within b_check_within F_check_within.kp (m_glo X G e "check_within") G_check_expressions b_check_expressions F_check_expressions.kp (m_glo X G e "check_expressions"), b_Drop⟩
      lead := by rw [n_lead]; exact ⟨He.glo_ok X G (clsF e (x := "Lead") (by decide +kernel)).g, _, _, (clsF e (x := "Lead") (by decide +kernel)).mkr, ok_lead F_Lead FO OW ix G_check_expressions b_check_expressions F_check_expressions.kp (m_glo X G e "check_expressions"), b_Lead⟩
      turn := by rw [n_turn]; exact ⟨He.glo_ok X G (clsF e (x := "Turn") (by decide +kernel)).g, _, _, (clsF e (x := "Turn") (by decide +kernel)).mkr, ok_turn F_Turn FO OW ix G_check_word b_check_word F_check_word.kp (m_glo X G e "check_word") G_check_expressions b_check_expressions F_check_expressions.kp (m_glo X G e "check_expressions"), b_Turn⟩ }
theorem nctorsX (X : K.In h) (G : h.Ns mainGlobals mg) (c : SaysZ exX dsX K) : NCtors P w K mg base (He.ga K "Facts") (He.ga K "Expression") (He.ga K "InvalidNumber") (He.ga K "InvalidSign") (He.ga K "InvalidName") (He.ga K "InvalidWord") (He.ga K "InvalidExpression") (kcX K) (clsX K) := by
  have e := c.ex
  have Z : Bltn mg := ⟨m_free X G e "isinstance", m_free X G e "int", m_free X G e "bool", m_free X G e "str", m_free X G e "len", m_free X G e "all"⟩
  have Z2 : Bltn2 mg := ⟨m_free X G e "list", m_free X G e "set", m_free X G e "sorted", m_free X G e "tuple", m_free X G e "sum"⟩
  have CO := constsX X G e
  have KL := klsX (P := P) (w := w) (base := base) c Z.str
  have OW := ownX e
  have ix := ixX e
  obtain ⟨gF, FC, MF⟩ := clsF_facts e
  obtain ⟨d_is_integer, F_is_integer⟩ := c.def_ 0 (d := ⟨gA "is_integer", "is_integer", "is_integer", s_is_integer⟩) rfl
  have b_is_integer := F_is_integer.binds (ps := ["value"]) fun _ _ _ _ _ _ us hl => match us, hl with | [_], _ => rfl
  obtain ⟨d_is_within, F_is_within⟩ := c.def_ 1 (d := ⟨gA "is_within", "is_within", "is_within", s_is_within⟩) rfl
  have b_is_within := F_is_within.binds (ps := ["value", "least", "most"]) fun _ _ _ _ _ _ us hl => match us, hl with | [_, _, _], _ => rfl
  obtain ⟨d_is_lettered, F_is_lettered⟩ := c.def_ 2 (d := ⟨gA "is_lettered", "is_lettered", "is_lettered", s_is_lettered⟩) rfl
  have b_is_lettered := F_is_lettered.binds (ps := ["value", "most"]) fun _ _ _ _ _ _ us hl => match us, hl with | [_, _], _ => rfl
  obtain ⟨d_is_name, F_is_name⟩ := c.def_ 3 (d := ⟨gA "is_name", "is_name", "is_name", s_is_name⟩) rfl
  have b_is_name := F_is_name.binds (ps := ["value"]) fun _ _ _ _ _ _ us hl => match us, hl with | [_], _ => rfl
  obtain ⟨d_check_within, F_check_within⟩ := c.def_ 4 (d := ⟨gA "check_within", "check_within", "check_within", s_check_within⟩) rfl
  have b_check_within := F_check_within.binds (ps := ["given", "least", "most"]) fun _ _ _ _ _ _ us hl => match us, hl with | [_, _, _], _ => rfl
  obtain ⟨d_check_sign, F_check_sign⟩ := c.def_ 5 (d := ⟨gA "check_sign", "check_sign", "check_sign", s_check_sign⟩) rfl
  have b_check_sign := F_check_sign.binds (ps := ["given"]) fun _ _ _ _ _ _ us hl => match us, hl with | [_], _ => rfl
  obtain ⟨d_check_name, F_check_name⟩ := c.def_ 6 (d := ⟨gA "check_name", "check_name", "check_name", s_check_name⟩) rfl
  have b_check_name := F_check_name.binds (ps := ["given"]) fun _ _ _ _ _ _ us hl => match us, hl with | [_], _ => rfl
  obtain ⟨d_check_word, F_check_word⟩ := c.def_ 7 (d := ⟨gA "check_word", "check_word", "check_word", s_check_word⟩) rfl
  have b_check_word := F_check_word.binds (ps := ["given"]) fun _ _ _ _ _ _ us hl => match us, hl with | [_], _ => rfl
  obtain ⟨d_spelled, F_spelled⟩ := c.def_ 8 (d := ⟨gA "spelled", "spelled", "spelled", s_spelled⟩) rfl
  have b_spelled := F_spelled.binds (ps := ["kind", "told", "inner"]) fun _ _ _ _ _ _ us hl => match us, hl with | [_, _, _], _ => rfl
  obtain ⟨d_check_expressions, F_check_expressions⟩ := c.def_ 9 (d := ⟨gA "check_expressions", "check_expressions", "check_expressions", s_check_expressions⟩) rfl
  have b_check_expressions := F_check_expressions.binds (ps := ["values"]) fun _ _ _ _ _ _ us hl => match us, hl with | [_], _ => rfl
  obtain ⟨d_Facts, F_Facts⟩ := c.def_ 27 (d := ⟨mA "Facts" "__init__", "__init__", "Facts.__init__", s_Facts_init⟩) rfl
  have b_Facts := F_Facts.binds (ps := ["self", "kind", "told", "inner"]) fun _ _ _ _ _ _ us hl => match us, hl with | [_, _, _, _], _ => rfl
  obtain ⟨d_Drop, F_Drop⟩ := c.def_ 28 (d := ⟨mA "Drop" "__init__", "__init__", "Drop.__init__", s_Drop_init⟩) rfl
  have b_Drop := F_Drop.binds (ps := ["self", "many", "inner"]) fun _ _ _ _ _ _ us hl => match us, hl with | [_, _, _], _ => rfl
  obtain ⟨d_Lead, F_Lead⟩ := c.def_ 29 (d := ⟨mA "Lead" "__init__", "__init__", "Lead.__init__", s_Lead_init⟩) rfl
  have b_Lead := F_Lead.binds (ps := ["self", "first", "rest"]) fun _ _ _ _ _ _ us hl => match us, hl with | [_, _, _], _ => rfl
  obtain ⟨d_Name, F_Name⟩ := c.def_ 30 (d := ⟨mA "Name" "__init__", "__init__", "Name.__init__", s_Name_init⟩) rfl
  have b_Name := F_Name.binds (ps := ["self", "name"]) fun _ _ _ _ _ _ us hl => match us, hl with | [_, _], _ => rfl
  obtain ⟨d_Part, F_Part⟩ := c.def_ 31 (d := ⟨mA "Part" "__init__", "__init__", "Part.__init__", s_Part_init⟩) rfl
  have b_Part := F_Part.binds (ps := ["self", "at", "base", "inner"]) fun _ _ _ _ _ _ us hl => match us, hl with | [_, _, _, _], _ => rfl
  obtain ⟨d_Sign, F_Sign⟩ := c.def_ 32 (d := ⟨mA "Sign" "__init__", "__init__", "Sign.__init__", s_Sign_init⟩) rfl
  have b_Sign := F_Sign.binds (ps := ["self", "sign"]) fun _ _ _ _ _ _ us hl => match us, hl with | [_, _], _ => rfl
  obtain ⟨d_Turn, F_Turn⟩ := c.def_ 33 (d := ⟨mA "Turn" "__init__", "__init__", "Turn.__init__", s_Turn_init⟩) rfl
  have b_Turn := F_Turn.binds (ps := ["self", "word", "inner"]) fun _ _ _ _ _ _ us hl => match us, hl with | [_, _, _], _ => rfl
  obtain ⟨d_Weave, F_Weave⟩ := c.def_ 34 (d := ⟨mA "Weave" "__init__", "__init__", "Weave.__init__", s_Weave_init⟩) rfl
  have G_is_integer := ok_isint (P := P) (w := w) (mg := mg) (base := base) F_is_integer Z
  have G_is_within := ok_within (P := P) (w := w) (mg := mg) (base := base) F_is_within G_is_integer b_is_integer F_is_integer.kp (m_glo X G e "is_integer")
  have G_is_lettered := ok_lettered (P := P) (w := w) (mg := mg) (base := base) F_is_lettered Z CO
  have G_is_name := ok_name (P := P) (w := w) (mg := mg) (base := base) F_is_name CO G_is_lettered b_is_lettered F_is_lettered.kp (m_glo X G e "is_lettered")
  have G_check_within := ok_ckW (P := P) (w := w) (mg := mg) (base := base) F_check_within (mk_InvalidNumber (base := base) X G c) (errF e (x := "InvalidNumber") (by decide +kernel)).ty G_is_within b_is_within F_is_within.kp (m_glo X G e "is_within")
  have G_check_sign := ok_check_sign (P := P) (w := w) (mg := mg) (base := base) F_check_sign (mk_InvalidSign (base := base) X G c) (errF e (x := "InvalidSign") (by decide +kernel)).ty G_is_lettered b_is_lettered F_is_lettered.kp (m_glo X G e "is_lettered")
  have G_check_name := ok_check_name (P := P) (w := w) (mg := mg) (base := base) F_check_name (mk_InvalidName (base := base) X G c) (errF e (x := "InvalidName") (by decide +kernel)).ty G_is_name b_is_name F_is_name.kp (m_glo X G e "is_name")
  have G_check_word := ok_check_word (P := P) (w := w) (mg := mg) (base := base) F_check_word (mk_InvalidWord (base := base) X G c) (errF e (x := "InvalidWord") (by decide +kernel)).ty CO G_is_lettered b_is_lettered F_is_lettered.kp (m_glo X G e "is_lettered")
  have G_check_expressions := ok_ckE (P := P) (w := w) (mg := mg) (base := base) F_check_expressions Z (mk_InvalidExpression (base := base) X G c) (errF e (x := "InvalidExpression") (by decide +kernel)).ty (m_glo X G e "Expression")
  have G_spelled := ok_spelled (P := P) (w := w) (mg := mg) (base := base) F_spelled Z KL
  have G_Facts := ok_facts (P := P) (w := w) (mg := mg) (base := base) F_Facts Z2 KL FC G_spelled b_spelled F_spelled.kp (m_glo X G e "spelled")
  have FO : FactsOk P w K mg base (He.ga K "Facts") (clsX K) := ⟨He.glo_ok X G gF, _, _, MF, G_Facts, b_Facts⟩
  have zm := m_free X G e "max"

  have n_drop : kcX K "drop" = He.ga K "Drop" := congrArg (He.ga K) (by decide +kernel)
  have n_lead : kcX K "lead" = He.ga K "Lead" := congrArg (He.ga K) (by decide +kernel)
  have n_name : kcX K "name" = He.ga K "Name" := congrArg (He.ga K) (by decide +kernel)
  have n_part : kcX K "part" = He.ga K "Part" := congrArg (He.ga K) (by decide +kernel)
  have n_sign : kcX K "sign" = He.ga K "Sign" := congrArg (He.ga K) (by decide +kernel)
  have n_turn : kcX K "turn" = He.ga K "Turn" := congrArg (He.ga K) (by decide +kernel)
  have n_weave : kcX K "weave" = He.ga K "Weave" := congrArg (He.ga K) (by decide +kernel)
  have kb_Sign : KBn K d_Sign ("self" :: ["sign"]) 1 ["sign"] gKw gKwV := by
    obtain ⟨oc, od, kV, doc, pm, an, cdv, ct, osl, rfl, lk, hcd⟩ := F_Sign.ex
    refine ⟨fun s us ws _ h1 h2 => ?_, gKw_rel⟩
    match us, ws, h1, h2 with
    | [u], [x0], _, _ => exact .of_eq rfl
    | [], _, h, _ => cases h
    | _ :: _ :: _, _, h, _ => cases h
    | [_], [], _, h => cases h
    | [_], _ :: _ :: _, _, h => cases h
  have kb_Name : KBn K d_Name ("self" :: ["name"]) 1 ["name"] gKw gKwV := by
    obtain ⟨oc, od, kV, doc, pm, an, cdv, ct, osl, rfl, lk, hcd⟩ := F_Name.ex
    refine ⟨fun s us ws _ h1 h2 => ?_, gKw_rel⟩
    match us, ws, h1, h2 with
    | [u], [x0], _, _ => exact .of_eq rfl
    | [], _, h, _ => cases h
    | _ :: _ :: _, _, h, _ => cases h
    | [_], [], _, h => cases h
    | [_], _ :: _ :: _, _, h => cases h
  have kb_Part : KBn K d_Part ("self" :: ["at", "base", "inner"]) 1 ["at", "base", "inner"] gKw gKwV := by
    obtain ⟨oc, od, kV, doc, pm, an, cdv, ct, osl, rfl, lk, hcd⟩ := F_Part.ex
    refine ⟨fun s us ws _ h1 h2 => ?_, gKw_rel⟩
    match us, ws, h1, h2 with
    | [u], [x0, x1, x2], _, _ => exact .of_eq rfl
    | [], _, h, _ => cases h
    | _ :: _ :: _, _, h, _ => cases h
    | [_], [], _, h => cases h
    | [_], [_], _, h => cases h
    | [_], [_, _], _, h => cases h
    | [_], _ :: _ :: _ :: _ :: _, _, h => cases h
  have kb_Drop : KBn K d_Drop ("self" :: ["many", "inner"]) 1 ["many", "inner"] gKw gKwV := by
    obtain ⟨oc, od, kV, doc, pm, an, cdv, ct, osl, rfl, lk, hcd⟩ := F_Drop.ex
    refine ⟨fun s us ws _ h1 h2 => ?_, gKw_rel⟩
    match us, ws, h1, h2 with
    | [u], [x0, x1], _, _ => exact .of_eq rfl
    | [], _, h, _ => cases h
    | _ :: _ :: _, _, h, _ => cases h
    | [_], [], _, h => cases h
    | [_], [_], _, h => cases h
    | [_], _ :: _ :: _ :: _, _, h => cases h
  have kb_Lead : KBn K d_Lead ("self" :: ["first", "rest"]) 1 ["first", "rest"] gKw gKwV := by
    obtain ⟨oc, od, kV, doc, pm, an, cdv, ct, osl, rfl, lk, hcd⟩ := F_Lead.ex
    refine ⟨fun s us ws _ h1 h2 => ?_, gKw_rel⟩
    match us, ws, h1, h2 with
    | [u], [x0, x1], _, _ => exact .of_eq rfl
    | [], _, h, _ => cases h
    | _ :: _ :: _, _, h, _ => cases h
    | [_], [], _, h => cases h
    | [_], [_], _, h => cases h
    | [_], _ :: _ :: _ :: _, _, h => cases h
  have kb_Turn : KBn K d_Turn ("self" :: ["word", "inner"]) 1 ["word", "inner"] gKw gKwV := by
    obtain ⟨oc, od, kV, doc, pm, an, cdv, ct, osl, rfl, lk, hcd⟩ := F_Turn.ex
    refine ⟨fun s us ws _ h1 h2 => ?_, gKw_rel⟩
    match us, ws, h1, h2 with
    | [u], [x0, x1], _, _ => exact .of_eq rfl
    | [], _, h, _ => cases h
    | _ :: _ :: _, _, h, _ => cases h
    | [_], [], _, h => cases h
    | [_], [_], _, h => cases h
    | [_], _ :: _ :: _ :: _, _, h => cases h
  exact
    { own := fun k hk => cls_of k ((by decide +kernel : ∀ k ∈ (["sign", "name", "part", "drop", "lead", "turn"] : List Str), k ∈ kinds7) k hk)
      sign := by rw [n_sign]; exact ⟨He.glo_ok X G (clsF e (x := "Sign") (by decide +kernel)).g, _, _, (clsF e (x := "Sign") (by decide +kernel)).mkr, ok_sign F_Sign FO OW G_check_sign b_check_sign F_check_sign.kp (m_glo X G e "check_sign"), kb_Sign⟩
      name := by rw [n_name]; exact ⟨He.glo_ok X G (clsF e (x := "Name") (by decide +kernel)).g, _, _, (clsF e (x := "Name") (by decide +kernel)).mkr, ok_nameE F_Name FO OW G_check_name b_check_name F_check_name.kp (m_glo X G e "check_name"), kb_Name⟩
      part := by rw [n_part]; exact ⟨He.glo_ok X G (clsF e (x := "Part") (by decide +kernel)).g, _, _, (clsF e (x := "Part") (by decide +kernel)).mkr, ok_part F_Part FO OW ix CO zm G_check_within b_check_within F_check_within.kp (m_glo X G e "check_within") G_check_expressions b_check_expressions F_check_expressions.kp (m_glo X G e "check_expressions"), kb_Part⟩
      drop := by rw [n_drop]; exact ⟨He.glo_ok X G (clsF e (x := "Drop") (by decide +kernel)).g, _, _, (clsF e (x := "Drop") (by decide +kernel)).mkr, ok_drop F_Drop FO OW ix CO G_check_within b_check_within F_check_within.kp (m_glo X G e "check_within") G_check_expressions b_check_expressions F_check_expressions.kp (m_glo X G e "check_expressions"), kb_Drop⟩
      lead := by rw [n_lead]; exact ⟨He.glo_ok X G (clsF e (x := "Lead") (by decide +kernel)).g, _, _, (clsF e (x := "Lead") (by decide +kernel)).mkr, ok_lead F_Lead FO OW ix G_check_expressions b_check_expressions F_check_expressions.kp (m_glo X G e "check_expressions"), kb_Lead⟩
      turn := by rw [n_turn]; exact ⟨He.glo_ok X G (clsF e (x := "Turn") (by decide +kernel)).g, _, _, (clsF e (x := "Turn") (by decide +kernel)).mkr, ok_turn F_Turn FO OW ix G_check_word b_check_word F_check_word.kp (m_glo X G e "check_word") G_check_expressions b_check_expressions F_check_expressions.kp (m_glo X G e "check_expressions"), kb_Turn⟩ }
end
end Wp

namespace Wp
open PySem PySem.Spec PyProof.Rows L2 Hx LamX LamR
section
variable {P : Program} {w : World} {K : PySem.W.Frag} {h : Heap} {mg : Str → Option Value} {base : Heap} {fa : Addr}
/-- the three tables, with the names of what they hold -/
def tabs3 (K : PySem.W.Frag) : List (Addr × Str) := [(tAt "_law_small" K, "_law_small" ++ ".<locals>." ++ "<lambda>"), (tAt "_law_part" K, "_law_part" ++ ".<locals>." ++ "<lambda>"), (tAt "_law_weave" K, "_law_weave" ++ ".<locals>." ++ "<lambda>")]
theorem apartX (e : exX K = true) : tAt "_law_small" K ≠ tAt "_law_part" K ∧ tAt "_law_small" K ≠ tAt "_law_weave" K ∧ tAt "_law_part" K ≠ tAt "_law_weave" K := by
  have h1 := (Bool.and_eq_true_iff.mp (Bool.and_eq_true_iff.mp (exX_3 e)).2).2
  obtain ⟨a1, h1⟩ := Bool.and_eq_true_iff.mp h1
  obtain ⟨a2, a3⟩ := Bool.and_eq_true_iff.mp h1
  exact ⟨of_decide_eq_true a1, of_decide_eq_true a2, of_decide_eq_true a3⟩
theorem tabs_small (e : exX K = true) : ∀ p ∈ tabs3 K, p.1 = tAt "_law_small" K → p.2 = "_law_small" ++ ".<locals>." ++ "<lambda>" := fun p hp q => by
  obtain ⟨n1, n2, n3⟩ := apartX e
  simp only [tabs3, List.mem_cons, List.not_mem_nil, or_false] at hp
  rcases hp with rfl | rfl | rfl
  · rfl
  · exact absurd q (Ne.symm n1)
  · exact absurd q (Ne.symm n2)
theorem tabs_part (e : exX K = true) : ∀ p ∈ tabs3 K, p.1 = tAt "_law_part" K → p.2 = "_law_part" ++ ".<locals>." ++ "<lambda>" := fun p hp q => by
  obtain ⟨n1, n2, n3⟩ := apartX e
  simp only [tabs3, List.mem_cons, List.not_mem_nil, or_false] at hp
  rcases hp with rfl | rfl | rfl
  · exact absurd q n1
  · rfl
  · exact absurd q (Ne.symm n3)
theorem tabs_weave (e : exX K = true) : ∀ p ∈ tabs3 K, p.1 = tAt "_law_weave" K → p.2 = "_law_weave" ++ ".<locals>." ++ "<lambda>" := fun p hp q => by
  obtain ⟨n1, n2, n3⟩ := apartX e
  simp only [tabs3, List.mem_cons, List.not_mem_nil, or_false] at hp
  rcases hp with rfl | rfl | rfl
  · exact absurd q n2
  · exact absurd q n3
  · rfl
theorem ntX (e : exX K = true) : ∀ T ∈ (["NoneType", "bool", "int", "str", "list", "tuple", "dict"] : List String), PySem.W.kitOne K (.type T) (.ref (He.ga K "Expression")) = some false := fun T hT => of_decide_eq_true (List.all_eq_true.mp (Bool.and_eq_true_iff.mp (exX_3 e)).1 T hT)
theorem cauF (e : exX K = true) {x : Str} (hx : x ∈ errcX) : XfC K (He.ga K x) ∧ ∀ y ∈ errcX, PySem.W.exmOne K (.ref (He.ga K x)) (.ref (He.ga K y)) = some (decide (x = y)) := by
  have h1 := List.all_eq_true.mp (Bool.and_eq_true_iff.mp (Bool.and_eq_true_iff.mp (exX_3 e)).2).1 x hx
  obtain ⟨a1, a2⟩ := Bool.and_eq_true_iff.mp h1
  exact ⟨xfB_ok a1, fun y hy => of_decide_eq_true (List.all_eq_true.mp a2 y hy)⟩
abbrev errsK (K : PySem.W.Frag) : List (Str × Addr) := errs5 (He.ga K "InvalidNumber") (He.ga K "InvalidName") (He.ga K "InvalidSign") (He.ga K "InvalidWord") (He.ga K "InvalidExpression")
theorem excX (X : K.In h) (G : h.Ns mainGlobals mg) (e : exX K = true) : ExcX K mg (errsK K) := by
  have all : ∀ (Pr : Str × Addr → Prop), (∀ x ∈ errcX, Pr (x, He.ga K x)) → ∀ p ∈ errsK K, Pr p := fun Pr a p hp => by
    rcases List.mem_cons.mp hp with rfl | hp
    · exact a "InvalidNumber" (by decide +kernel)
    rcases List.mem_cons.mp hp with rfl | hp
    · exact a "InvalidName" (by decide +kernel)
    rcases List.mem_cons.mp hp with rfl | hp
    · exact a "InvalidSign" (by decide +kernel)
    rcases List.mem_cons.mp hp with rfl | hp
    · exact a "InvalidWord" (by decide +kernel)
    rw [List.mem_singleton.mp hp]
    exact a "InvalidExpression" (by decide +kernel)
  have inn : ∀ x ∈ errcX, x ∈ errsX := by decide +kernel
  exact ⟨all _ fun x hx => (cauF e hx).1, all _ fun x hx => (errF e (inn x hx)).no, all _ fun x hx => He.glo_ok X G (errF e (inn x hx)).g,
    all _ fun x hx => all _ fun y hy => (cauF e hx).2 y hy, all _ fun x hx => (by decide +kernel : ∀ x ∈ errcX, (x == ("__debug__" : Str)) = false) x hx⟩
theorem errs_ok (K : PySem.W.Frag) : ∀ p ∈ errsK K, PyData.strOk p.1 = true := fun p hp => by
  have q : ∀ x ∈ errcX, PyData.strOk x = true := by decide +kernel
  simp only [errsK, errs5, List.mem_cons, List.not_mem_nil, or_false] at hp
  rcases hp with rfl | rfl | rfl | rfl | rfl
  · exact q "InvalidNumber" (by decide +kernel)
  · exact q "InvalidName" (by decide +kernel)
  · exact q "InvalidSign" (by decide +kernel)
  · exact q "InvalidWord" (by decide +kernel)
  · exact q "InvalidExpression" (by decide +kernel)
theorem lawX (X : K.In h) (G : h.Ns mainGlobals mg) (c : SaysZ exX dsX K) (hfa : mg ("law" : Str) = some (.ref fa)) :
    ∃ fd : FuncData, (∀ (s : Shared) (u : Value), BindsTo s fd ⟨[u], []⟩ [("_law_cells", u)]) ∧ ∀ base : Heap, K.In base → base.Ns mainGlobals mg → Mods base → (∀ x ∈ mksX, TabB base mg (cAt x K) (tAt x K)) →
      GOk P w K mg base CX0 12 fa fd ["_law_cells"] (spLaw K (tabs3 K)) := by
  have e := c.ex
  cases (hfa.symm.trans (m_glo X G e "law"))
  have Z : Bltn mg := ⟨m_free X G e "isinstance", m_free X G e "int", m_free X G e "bool", m_free X G e "str", m_free X G e "len", m_free X G e "all"⟩
  have Z4 : Bltn4 mg := ⟨m_free X G e "range", m_free X G e "max", m_free X G e "min", m_free X G e "len", m_free X G e "all"⟩
  obtain ⟨d__law_deck, F__law_deck⟩ := c.def_ 10 (d := ⟨gA "_law_deck", "_law_deck", "_law_deck", s_law_deck⟩) rfl
  have b__law_deck := F__law_deck.binds (ps := ["_law_cells", "_law_turn"]) fun _ _ _ _ _ _ us hl => match us, hl with | [_, _], _ => rfl
  obtain ⟨d__law_card, F__law_card⟩ := c.def_ 11 (d := ⟨gA "_law_card", "_law_card", "_law_card", s_law_card⟩) rfl
  have b__law_card := F__law_card.binds (ps := ["_law_deck_here", "_law_top"]) fun _ _ _ _ _ _ us hl => match us, hl with | [_, _], _ => rfl
  obtain ⟨d__law_of, F__law_of⟩ := c.def_ 12 (d := ⟨gA "_law_of", "_law_of", "_law_of", s_law_of⟩) rfl
  have b__law_of := F__law_of.binds (ps := ["_law_deck_here", "_law_menu"]) fun _ _ _ _ _ _ us hl => match us, hl with | [_, _], _ => rfl
  obtain ⟨d__law_caught, F__law_caught⟩ := c.def_ 13 (d := ⟨gA "_law_caught", "_law_caught", "_law_caught", s_law_caught⟩) rfl
  have b__law_caught := F__law_caught.binds (ps := ["_law_act"]) fun _ _ _ _ _ _ us hl => match us, hl with | [_], _ => rfl
  obtain ⟨d__law_thing, F__law_thing⟩ := c.def_ 14 (d := ⟨gA "_law_thing", "_law_thing", "_law_thing", s_law_thing⟩) rfl
  have b__law_thing := F__law_thing.binds (ps := ["_law_deck_here", "_law_good"]) fun _ _ _ _ _ _ us hl => match us, hl with | [_, _], _ => rfl
  obtain ⟨d__law_first, F__law_first⟩ := c.def_ 15 (d := ⟨gA "_law_first", "_law_first", "_law_first", s_law_first⟩) rfl
  have b__law_first := F__law_first.binds (ps := ["_law_lots"]) fun _ _ _ _ _ _ us hl => match us, hl with | [_], _ => rfl
  obtain ⟨d__law_kid, F__law_kid⟩ := c.def_ 16 (d := ⟨gA "_law_kid", "_law_kid", "_law_kid", s_law_kid⟩) rfl
  have b__law_kid := F__law_kid.binds (ps := ["_law_deck_here"]) fun _ _ _ _ _ _ us hl => match us, hl with | [_], _ => rfl
  obtain ⟨d__law_small, F__law_small⟩ := c.def_ 17 (d := ⟨gA "_law_small", "_law_small", "_law_small", s_law_small⟩) rfl
  have b__law_small := F__law_small.binds (ps := ["_law_deck_here"]) fun _ _ _ _ _ _ us hl => match us, hl with | [_], _ => rfl
  obtain ⟨d__law_part, F__law_part⟩ := c.def_ 18 (d := ⟨gA "_law_part", "_law_part", "_law_part", s_law_part⟩) rfl
  have b__law_part := F__law_part.binds (ps := ["_law_deck_here"]) fun _ _ _ _ _ _ us hl => match us, hl with | [_], _ => rfl
  obtain ⟨d__law_weave, F__law_weave⟩ := c.def_ 19 (d := ⟨gA "_law_weave", "_law_weave", "_law_weave", s_law_weave⟩) rfl
  have b__law_weave := F__law_weave.binds (ps := ["_law_deck_here"]) fun _ _ _ _ _ _ us hl => match us, hl with | [_], _ => rfl
  obtain ⟨d__law_right, F__law_right⟩ := c.def_ 20 (d := ⟨gA "_law_right", "_law_right", "_law_right", s_law_right⟩) rfl
  have b__law_right := F__law_right.binds (ps := ["_law_deck_here"]) fun _ _ _ _ _ _ us hl => match us, hl with | [_], _ => rfl
  obtain ⟨d_law, F_law⟩ := c.def_ 21 (d := ⟨gA "law", "law", "law", s_law⟩) rfl
  refine ⟨d_law, ?_, fun base KB GB hm TB => ?_⟩
  · obtain ⟨oc, od, kV, doc, pm, an, cdv, ct, osl, rfl, lk, hcd⟩ := F_law.ex
    exact fun s u => .of_eq rfl
  have T := ctorsX (P := P) (w := w) (base := base) X G c
  have NC := nctorsX (P := P) (w := w) (base := base) X G c
  have NW : NWeave P w K mg base (He.ga K "Facts") (He.ga K "Expression") (He.ga K "InvalidNumber") (He.ga K "InvalidExpression") (kcX K) (clsX K) := ⟨T.own "weave" (by decide +kernel), T.weave.1, T.weave.2⟩
  have KL := klsX (P := P) (w := w) (base := base) c Z.str
  have nt := ntX e
  have mR := m_free X G e "repr"
  have zr := m_free X G e "range"
  have TS := TB "_law_small" (by decide +kernel)
  have TP := TB "_law_part" (by decide +kernel)
  have TW := TB "_law_weave" (by decide +kernel)
  have iS : ((tAt "_law_small" K, "_law_small" ++ ".<locals>." ++ "<lambda>") : Addr × Str) ∈ tabs3 K := List.mem_cons_self
  have iP : ((tAt "_law_part" K, "_law_part" ++ ".<locals>." ++ "<lambda>") : Addr × Str) ∈ tabs3 K := List.mem_cons_of_mem _ List.mem_cons_self
  have iW : ((tAt "_law_weave" K, "_law_weave" ++ ".<locals>." ++ "<lambda>") : Addr × Str) ∈ tabs3 K := List.mem_cons_of_mem _ (List.mem_cons_of_mem _ List.mem_cons_self)
  have G__law_deck := ok_deck (P := P) (w := w) (mg := mg) (base := base) F__law_deck Z.len Z.int (m_free X G e "abs")
  have G__law_card := ok_card (P := P) (w := w) (mg := mg) (base := base) F__law_card Z.int (m_free X G e "divmod")
  have G__law_of := ok_of (P := P) (w := w) (mg := mg) (base := base) F__law_of G__law_card b__law_card F__law_card.kp (m_glo X G e "_law_card") Z.len
  have G__law_thing := ok_thing (P := P) (w := w) (mg := mg) (base := base) F__law_thing G__law_card b__law_card F__law_card.kp (m_glo X G e "_law_card") G__law_of b__law_of F__law_of.kp (m_glo X G e "_law_of")
  have G__law_kid := ok_kid (P := P) (w := w) (mg := mg) (base := base) F__law_kid T G__law_thing b__law_thing F__law_thing.kp (m_glo X G e "_law_thing")
  have G__law_first := ok_first (P := P) (w := w) (mg := mg) (base := base) F__law_first mR hm
  have G__law_caught := ok_cau (P := P) (w := w) (mg := mg) (base := base) (k := 9) F__law_caught (excX X G e) mR hm
  have G__law_small := ok_small (P := P) (w := w) (mg := mg) (base := base) (FunC.of F__law_small) Z.str hm TS iS (tabs_small e) KL NC nt (ixX e) G__law_card b__law_card F__law_card.kp (m_glo X G e "_law_card") G__law_thing b__law_thing F__law_thing.kp (m_glo X G e "_law_thing") G__law_kid b__law_kid F__law_kid.kp (m_glo X G e "_law_kid")
  have G__law_part := ok_partL (P := P) (w := w) (mg := mg) (base := base) (FunC.of F__law_part) Z.str hm TP iP (tabs_part e) KL NC nt G__law_thing b__law_thing F__law_thing.kp (m_glo X G e "_law_thing") G__law_kid b__law_kid F__law_kid.kp (m_glo X G e "_law_kid")
  have G__law_weave := ok_weaveL (P := P) (w := w) (mg := mg) (base := base) (Cs := He.ga K "InvalidSign") (Cm := He.ga K "InvalidName") (Cw := He.ga K "InvalidWord") (FunC.of F__law_weave) Z.str zr hm TW iW (tabs_weave e) KL NW nt (ixX e) G__law_card b__law_card F__law_card.kp (m_glo X G e "_law_card") G__law_kid b__law_kid F__law_kid.kp (m_glo X G e "_law_kid")
  have G__law_right := ok_right3 (P := P) (w := w) (mg := mg) (base := base) F__law_right Z.str hm KL (errs_ok K) G__law_card b__law_card F__law_card.kp (m_glo X G e "_law_card") G__law_small b__law_small F__law_small.kp (m_glo X G e "_law_small") G__law_part b__law_part F__law_part.kp (m_glo X G e "_law_part") G__law_weave b__law_weave F__law_weave.kp (m_glo X G e "_law_weave") G__law_first b__law_first F__law_first.kp (m_glo X G e "_law_first") G__law_caught b__law_caught F__law_caught.kp (m_glo X G e "_law_caught")
  exact ok_law (P := P) (w := w) (mg := mg) (base := base) F_law Z4 G__law_deck b__law_deck F__law_deck.kp (m_glo X G e "_law_deck") G__law_right b__law_right F__law_right.kp (m_glo X G e "_law_right")
end
end Wp

open PySem PySem.W PySem.Calls PyProof.Rows in
set_option maxHeartbeats 0 in
theorem PySem.Challenge.cw_wovenplaces_k03_parts_are_refused_holds : PySem.Challenge.rw_wovenplaces_k03_parts_are_refused.Holds := by
  w_on; o_law
  refine HandSHeadRun.head_any (r := OpenLaw.row PySem.Challenge.rw_wovenplaces_k03_parts_are_refused) (q := view (OpenLaw.row PySem.Challenge.rw_wovenplaces_k03_parts_are_refused).prog [53]) (H := Wp.hkX) (ob := Wp.obX) (M := 20000) (loose := Wp.namesX)
    (d := HandSHeadRun.topDef (OpenLaw.row PySem.Challenge.rw_wovenplaces_k03_parts_are_refused).prog 53) (kwd := []) Wp.obX_eq
    (by kernel_rfl) (fun s => by kernel_rfl) Wp.runX (by kernel_rfl) (by kernel_rfl) (by kernel_rfl) (by rfl) (by first | assumption | decide +kernel) (by decide +kernel) ⟨rfl, rfl, rfl, rfl, rfl, by decide +kernel⟩ ?hw ?hc
  case hw => w_witness2
  case hc =>
    refine Hx.walk_GT (l := PySem.Challenge.rw_wovenplaces_k03_parts_are_refused) (n := 63) (k := 12) (x := "_law_cells") rfl (by decide) (by kernel_rfl) ⟨rfl, by decide, by decide⟩ (by kernel_rfl) ?F
    intro w mg fa h Y G hmg0
    obtain ⟨K, KX, c, t⟩ := Y
    have hmg : mg ("law" : PySem.Str) = some (.ref fa) := by
      have e : (HandSHeadRun.topDef (OpenLaw.row PySem.Challenge.rw_wovenplaces_k03_parts_are_refused).prog 53).name = ("law" : PySem.Str) := by kernel_rfl
      rw [← e]
      exact hmg0
    obtain ⟨fd, hb, hF⟩ := Wp.lawX (P := (PySem.Challenge.rw_wovenplaces_k03_parts_are_refused).prog) (w := w) KX G c hmg
    have one : ∀ (Pr : Addr × Addr → Prop), (∀ x ∈ Wp.mksX, Pr (Wp.cAt x K, Wp.tAt x K)) → ∀ p ∈ Wp.mksX.map fun x => (Wp.cAt x K, Wp.tAt x K), Pr p := fun Pr q p hp => by
      obtain ⟨x, hx, rfl⟩ := List.mem_map.mp hp
      exact q x hx
    refine ⟨K, Wp.mksX.map fun x => (Wp.cAt x K, Wp.tAt x K), fd, Wp.spLaw K (Wp.tabs3 K), KX, one _ fun x hx => (t x hx).tab, one _ fun x hx => (t x hx).out, one _ fun x hx => codeHd_of_K KX (t x hx).code, hb, fun H a ns hl hT hS => ⟨a, ns, rfl, hS, hl, ?_, fun _ => rfl⟩,
      fun base KB GB hm hT => hF base KB GB hm fun x hx => hT _ (List.mem_map.mpr ⟨x, hx, rfl⟩)⟩
    intro p hp
    have go : ∀ x ∈ Wp.mksX, ∀ q : PySem.Str, LamX.TabS H (Wp.tAt x K) q := fun x hx q => LamX.TabS.nil (hT _ (List.mem_map.mpr ⟨x, hx, rfl⟩))
    simp only [Wp.tabs3, List.mem_cons, List.not_mem_nil, or_false] at hp
    rcases hp with rfl | rfl | rfl
    · exact go "_law_small" (by decide +kernel) _
    · exact go "_law_part" (by decide +kernel) _
    · exact go "_law_weave" (by decide +kernel) _

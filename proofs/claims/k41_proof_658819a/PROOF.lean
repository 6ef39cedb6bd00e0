import PyProof.Rows.All
import Wide.All
import OpenK.AllK
import Wide.FinOn
import PyProof.EqAt
import PyProof.EqKinds
import PyProof.TupleCall
import PyProof.ReprRoads
import HandS.Base
import HandS.Call
import HandS.List
import HandS.Comp
import HandS.Ends
import HandS.Dict
import HandS.Iter
import HandS.Words
import HandS.WordsList
import HandS.EndTab
import HandS.Lambda
import HandS.ExcField
import HandS.HeadHook4
import HandS.Property
import KE.KStateDown
import KE.KExcInit
import KE.KExcIs
import HandS.IsInst
import HandS.HeadEnd
import HandS.Head0
import HandS.Head1
import HandS.Head2
import HandS.HeadHook1
import HandS.HeadHook2
import HandS.GenList
import HandS.Zip
import HandS.Exc
import HandS.ExcInit
import HandS.ExcValue
import HandS.ListEq
import HandS.RaiseFrom
import HandS.SuiteRaise
import HandS.ExcInitHot
import HandS.WordsExc
import HandS.Star
import HandS.GenCall
import HandS.RaiseMore
import KE.KCallOwn
import OpenK.KOps
import OpenK.KMeth
import HandS.MakeKwOnly
import HandS.SlotsOwn
import HandS.FStr
import HandS.Text
import PyProof.StrBlock2
import HandS.WideBits
import PyProof.FString3
import PyProof.Rows.StrIntSpec
import PyProof.Draws
import PyProof.EnumMake
import KE.KRevSl
import PyProof.Rows.StrRev
import HandS.Small
import KE.KFmtOwn
import PyProof.Conv_bool
import HandS.Conv
import PyProof.ReprReads
import HandS.HotCalls
import HandS.ExcCtx
import HandS.TryOnly
import HandS.TryMany
import KE.KOpsOwn
import KE.DataEq
import HandS.AnyAll
import PySem.Challenge.RW_wovenplaces_k41_sets_are_refused
set_option Elab.async false
set_option linter.all false
set_option maxRecDepth 100000
set_option maxHeartbeats 0
namespace Hx
open PySem PySem.Spec PyProof.Rows L2

/-! a def's promise where no guard (a repr that runs) stands below -/
structure GOk (P : Program) (w : World) (K : PySem.W.Frag) (mg : Str → Option Value) (base : Heap) (CX : CXT) (k : Nat)
    (f : Addr) (fd : FuncData) (ps : List Str) (sp : Sp) : Prop where
  long : ∀ vs H Q E, sp vs H Q E → vs.length = ps.length
  goes : ∀ (A : Around) (outer : List Env) (s : Shared) (H : Hp) (args : Args) (us : List Value) (vs : List V) (Q : VK) (E : XK),
    Room k A → A.guards = some [] → Env0 P w K mg base A outer s H → BindsTo s fd args (ps.zip us) → Vals vs us → sp vs H Q E →
    codeAny (model P w) A (.call (.ref f) args) (CR CX outer P w H s Q E) s

section
variable {P : Program} {w : World} {K : PySem.W.Frag} {mg : Str → Option Value} {base : Heap} {CX : CXT} {k j : Nat}
  {f : Addr} {fd : FuncData} {ps : List Str} {sp : Sp}
theorem GOk.of (F : FnOk P w K mg base CX k f fd ps sp) : GOk P w K mg base CX k f fd ps sp :=
  ⟨F.len, fun A outer s H args us vs Q E room _ => F.run A outer s H args us vs Q E room⟩
theorem GOk.more (F : GOk P w K mg base CX j f fd ps sp) (h : j ≤ k) : GOk P w K mg base CX k f fd ps sp :=
  ⟨F.long, fun A outer s H args us vs Q E room => F.goes A outer s H args us vs Q E (room.mono h)⟩

/-- a def of the text keeps its promise, by its body, no guard below -/
theorem gok {x qual : Str} {st : Stmt} {N : List Str} (F : Fun K x qual st f fd) (S : FnScope N ps (defScope st))
    (long : ∀ vs H Q E, sp vs H Q E → vs.length = ps.length)
    (body : ∀ (cdv : Value) (A : Around) (outer : List Env) (s : Shared) (H : Hp) (vs : List V) (Q : VK) (E : XK),
      Room k (A.deeper (envOfC qual (defScope st) s.heap.objs.size f cdv)) → A.guards = some [] → sp vs H Q E →
      ∃ t, PSs (cxOf CX P w K mg base N qual (defScope st) f cdv A outer s H E) (defBody st) t ∧
        t { nx := fun _ H' => Q .non H', rt := Q } (start N vs) H) :
    GOk P w K mg base CX (k + 1) f fd ps sp := by
  obtain ⟨oc, od, kV, doc, pm, an, cdv, ct, osl, efd, hlook, hcode⟩ := F.ex
  subst efd
  constructor
  · exact long
  · intro A outer s H args us vs Q E room gd e0 hbind rel hsp
    have inK : K.In s.heap := e0.mod.kin.keeps fun b o h => (e0.bs b o h).1
    have noLim : s.heap.NoLimit := e0.mod.nolimit.keeps fun b o h => (e0.bs b o h).1
    refine codeAny_call_function room.depth (inK _ _ hlook) rfl S.co S.gen rfl (PySem.W.codeRec_of inK hcode) (hbind _ _ _ _ ?_)
    refine wpAny_newFunctionEnv_cells S.kind ?kinds fun env henv s1 inside => ?_
    case kinds =>
      rintro ⟨nm, val⟩ hm
      have hp := (List.of_mem_zip hm).1
      cases S.par nm hp with
      | inl hl => exact .inl hl
      | inr hc => exact .inr ⟨hc, PySem.W.cellsFrom_some _ _ _ (.inl hc)⟩
    subst henv
    refine ⟨noLim.keeps inside.toInCall.keep, codeAny_func ?_⟩
    obtain ⟨t, ht, hq⟩ := body cdv A outer s H vs Q E (room.deeper _) gd hsp
    have I0 := inv_start (CX := CX) (E := E) S room.hd e0 (long _ _ _ _ hsp) rel inside
    refine wpAny_mono (ht.run [] s1 (start N vs) H _ I0 hq) ?_ (fun _ _ z => z)
    intro fl s' hfl
    cases fl with
    | ret u =>
      obtain ⟨v, _, H', J, rv, q⟩ := hfl
      exact ⟨v, H', J.os, J.bare, J.base, J.hok, rv, q⟩
    | next =>
      obtain ⟨_, H', J, q⟩ := hfl
      exact ⟨V.non, H', J.os, J.bare, J.base, J.hok, rfl, q⟩
    | brk => exact hfl.elim fun _ z => z.elim fun _ z => z.2.elim
    | cont => exact hfl.elim fun _ z => z.elim fun _ z => z.2.elim
end

section
variable {X : Cx} {CX : CXT} {k : Nat} {f : Addr} {fd : FuncData} {ps : List Str} {sp : Sp} {dvs : List V} {ds : List Value} {E : XK}
theorem run_g {pins : List (Addr × Obj)} {σ : L2.St} {H : Hp} {s : Shared} {Q : VK} {us : List Value} {vs : List V}
    (F : GOk X.prog X.w X.K X.mg X.base CX k f fd ps sp) (room : Room k X.A) (gd : X.A.guards = some []) (hb : Binds X.K fd ps ds)
    (hd : Vals dvs ds) (pass : Passes CX X E) (I : Inv X pins σ H s) (r : Vals vs us) (h : sp (vs ++ dvs) H Q E) :
    wpAny (model X.prog X.w) X.A (call (.ref f) us) (EP X pins σ Q) X.xe s := by
  have rr := r.append hd
  have hlen : (us ++ ds).length = ps.length := rr.length.symm.trans (F.long _ _ _ _ h)
  have go := F.goes X.A X.stack s H ⟨us, []⟩ (us ++ ds) (vs ++ dvs) Q E room gd I.env0 (hb s us I.kIn hlen) rr h
  refine wpAny_call (codeAny_mono go ?_)
  intro r s' hr
  cases r with
  | error e => exact pass pins σ H s e s' I hr
  | ok fl =>
    cases fl with
    | ret u => exact I.after hr
    | next => exact hr.elim
    | brk => exact hr.elim
    | cont => exact hr.elim

theorem pe_callG {x : Str} {p pos : Pos} {e : Expr} {es : List Expr} {t : TA} (F : GOk X.prog X.w X.K X.mg X.base CX k f fd ps sp)
    (room : Room k X.A) (gd : X.A.guards = some []) (hg : Gl X x) (hm : X.mg x = some (.ref f)) (hk : PySem.W.keepIn X.K (.ref f) = true)
    (hb : Binds X.K fd ps ds) (hd : Vals dvs ds) (pass : Passes CX X E) (ha : PA X (e :: es) t)
    (hdb : (x == ("__debug__" : Str)) = false := by decide)
    (he : starEach (e :: es) X.env = (false, eval e X.env) :: starEach es X.env := by rfl)
    (hpl : (backTo pos (starEach es X.env)).any (·.1) = false := by rfl) :
    PE X (.Call (.Name x p) (e :: es) [] pos) (tCall sp dvs E t) := by
  constructor
  intro pins s σ H Q I h
  refine wpAny_Call_Name_kw (ld_glob I hg hm ?_ hdb)
  refine PySem.W.callWith_K (h₀ := X.base) I.ok.mod.kin hk ?_ he hpl
  refine thn (ha.run pos pins s σ H _ I h) ?_
  rintro us s1 ⟨vs, H1, J, r, q⟩
  exact ⟨J.kIn, run_g F room gd hb hd pass J r q⟩
end
end Hx
namespace Hx
open PySem PySem.Spec PyProof.Rows L2
section
variable {P : Program} {w : World} {K : PySem.W.Frag} {mg : Str → Option Value} {base : Heap} {k : Nat}
  {f : Addr} {fd : FuncData} {ps : List Str} {sp : Sp}
/-- the same where no exception leaves the def -/
theorem gok0 {x qual : Str} {st : Stmt} {N : List Str} (F : Fun K x qual st f fd) (S : FnScope N ps (defScope st))
    (long : ∀ vs H Q E, sp vs H Q E → vs.length = ps.length)
    (body : ∀ (cdv : Value) (A : Around) (outer : List Env) (s : Shared) (H : Hp) (vs : List V) (Q : VK) (E : XK),
      Room k (A.deeper (envOfC qual (defScope st) s.heap.objs.size f cdv)) → A.guards = some [] → sp vs H Q E →
      ∃ t, PSs (cxOf CX0 P w K mg base N qual (defScope st) f cdv A outer s H E).nox (defBody st) t ∧
        t { nx := fun _ H' => Q .non H', rt := Q } (start N vs) H) :
    GOk P w K mg base CX0 (k + 1) f fd ps sp :=
  gok F S long fun cdv A outer s H vs Q E room gd hsp => by
    obtain ⟨t, h, q⟩ := body cdv A outer s H vs Q E room gd hsp
    exact ⟨t, h.nox, q⟩
end
/-! joining ways: what is known of a value, for any wish -/
theorem asg_join {te : TE} {g : TG} {D : Ends} {σ : L2.St} {H : Hp} (R : V → Hp → Prop)
    (h : ∀ Q : VK, (∀ v H', R v H' → Q v H') → te σ H Q) (hq : ∀ v H', R v H' → g v σ H' D.nx) : tAsg te g D σ H := h _ hq
theorem te_join {te : TE} {Q : VK} {σ : L2.St} {H : Hp} (R : V → Hp → Prop)
    (h : ∀ Q : VK, (∀ v H', R v H' → Q v H') → te σ H Q) (hq : ∀ v H', R v H' → Q v H') : te σ H Q := h _ hq
theorem seq_set {te : TE} {i : Nat} {u : TS} {D : Ends} {σ : L2.St} {H : Hp} (h : te σ H fun x H1 => u D (σ.set i (some x)) H1) : tSeq (tAsg te (gName i)) u D σ H := h
theorem seq_if_op {r : R2} {ta tb : TE} {t u w : TS} {D : Ends} {σ : L2.St} {H : Hp}
    (h : ta σ H fun x H1 => tb σ H1 fun y H2 => r x y H2 fun z H3 => ∃ k, z = .bl k ∧ if k = true then t { D with nx := w D } σ H3 else u { D with nx := w D } σ H3) :
    tSeq (tIfS (tTest (tOp r ta tb)) t u) w D σ H := h
theorem ret_op {r : R2} {ta tb : TE} {D : Ends} {σ : L2.St} {H : Hp} (h : ta σ H fun x H1 => tb σ H1 fun y H2 => r x y H2 D.rt) : tRet (tOp r ta tb) D σ H := h
theorem next_go {w : Ends → L2.St → Hp → Prop} {D : Ends} {σ : L2.St} {H : Hp} (h : w D σ H) : tNext { D with nx := w D } σ H := h
theorem ret_go {te : TE} {D : Ends} {σ : L2.St} {H : Hp} (h : te σ H D.rt) : tRet te D σ H := h
theorem ret_join {te : TE} {D : Ends} {σ : L2.St} {H : Hp} (R : V → Hp → Prop)
    (h : ∀ Q : VK, (∀ v H', R v H' → Q v H') → te σ H Q) (hq : ∀ v H', R v H' → D.rt v H') : tRet te D σ H := h _ hq
theorem cons_join {te : TE} {tr : TA} {Q : List V → Hp → Prop} {σ : L2.St} {H : Hp} (R : V → Hp → Prop)
    (h : ∀ Q : VK, (∀ v H', R v H' → Q v H') → te σ H Q) (hq : ∀ v H', R v H' → tr σ H' fun xs H2 => Q (v :: xs) H2) : tCons te tr σ H Q := h _ hq
theorem ret_lst_join {te : TE} {tr : TA} {D : Ends} {σ : L2.St} {H : Hp} (R : V → Hp → Prop)
    (h : ∀ Q : VK, (∀ v H', R v H' → Q v H') → te σ H Q)
    (hq : ∀ v H', R v H' → tr σ H' fun xs H2 => (v :: xs).length ≤ sizeLine ∧ ∀ p, H2 p = none → D.rt (.ref p) (upd H2 p (.lst (v :: xs)))) :
    tRet (tLst (tCons te tr)) D σ H := h _ hq
theorem same_new {H : Hp} {p : Addr} (h : H p = none) (o : HO) : Same H (upd H p o) := fun b u q => by
  rw [upd_ne (ne_of_none q h)]
  exact q
theorem upd_other {H : Hp} {p q : Addr} {o u : HO} (h : H q = some u) (n : H p = none) : upd H p o q = some u := by
  rw [upd_ne (ne_of_none h n)]
  exact h
/-- all stands but what is at d -/
def But (d : Addr) (H H' : Hp) : Prop := ∀ b o, b ≠ d → H b = some o → H' b = some o
theorem But.of {d : Addr} {H H' : Hp} (s : Same H H') : But d H H' := fun b o _ h => s b o h
theorem But.refl {d : Addr} {H : Hp} : But d H H := fun _ _ _ h => h
theorem But.trans {d : Addr} {H H1 H2 : Hp} (a : But d H H1) (b : But d H1 H2) : But d H H2 := fun c o n h => b c o n (a c o n h)
theorem But.upd {d : Addr} {H H' : Hp} (a : But d H H') (o : HO) : But d H (L2.upd H' d o) := fun c u n h => by
  rw [upd_ne n]
  exact a c u n h
theorem But.new {d p : Addr} {H H' : Hp} (a : But d H H') (hp : H' p = none) (o : HO) : But d H (L2.upd H' p o) := fun c u n h => by
  have z := a c u n h
  rw [upd_ne (ne_of_none z hp)]
  exact z
theorem But.seq {K : PySem.W.Frag} {d a : Addr} {H H' : Hp} {xs : List V} (e : But d H H') (n : a ≠ d) (h : SqL K H a xs) : SqL K H' a xs := by
  rcases h with (h | ⟨o, h⟩) | h
  · exact .inl (.inl (e _ _ n h))
  · exact .inl (.inr ⟨o, e _ _ n h⟩)
  · exact .inr h
theorem atI_in {α : Type} {xs : List α} {r : Int} (r0 : 0 ≤ r) (r1 : r < (xs.length : Int)) : ∃ v, v ∈ xs ∧ atI xs r = some v := by
  have hr : r.toNat < xs.length := by omega
  have er : ((r.toNat : Nat) : Int) = r := by omega
  have z := atI_nat (List.getElem?_eq_getElem hr)
  rw [er] at z
  exact ⟨_, List.getElem_mem hr, z⟩
theorem small_line {n : Nat} (h : n ≤ 1000) : n ≤ sizeLine := Nat.le_trans h (by decide)
end Hx

namespace Hx
open PySem PySem.Spec PyProof.Rows L2
/-- the data of a key -/
def keyD : Key → PyData
  | .inl i => .int i
  | .inr x => .str x
mutual
/-- at v stands the data d, in objects that are tracked -/
inductive Dq (H : Hp) : V → PyData → Prop
  | non : Dq H .non .none
  | bl (b : Bool) : Dq H (.bl b) (.bool b)
  | int (i : Int) : Dq H (.int i) (.int i)
  | str (x : Str) : Dq H (.str x) (.str x)
  | lst {a : Addr} {xs : List V} {ds : List PyData} : H a = some (.lst xs) → DqAll H xs ds → Dq H (.ref a) (.list ds)
  | tup {a : Addr} {xs : List V} {ds : List PyData} : H a = some (.tup xs) → DqAll H xs ds → Dq H (.ref a) (.tuple ds)
  | dct {a : Addr} {ks : List (Key × V)} {es : List (PyData × PyData)} : H a = some (.dK ks) → DqKv H ks es → Dq H (.ref a) (.dict es)
inductive DqAll (H : Hp) : List V → List PyData → Prop
  | nil : DqAll H [] []
  | cons {v : V} {vs : List V} {d : PyData} {ds : List PyData} : Dq H v d → DqAll H vs ds → DqAll H (v :: vs) (d :: ds)
inductive DqKv (H : Hp) : List (Key × V) → List (PyData × PyData) → Prop
  | nil : DqKv H [] []
  | cons {k : Key} {v : V} {d : PyData} {r : List (Key × V)} {es : List (PyData × PyData)} : Dq H v d → DqKv H r es → DqKv H ((k, v) :: r) ((keyD k, d) :: es)
end
mutual
theorem Dq.same {H H' : Hp} (s : Same H H') : ∀ (d : PyData) (v : V), Dq H v d → Dq H' v d
  | .none, _, h => by cases h; exact .non
  | .bool b, _, h => by cases h; exact .bl b
  | .int i, _, h => by cases h; exact .int i
  | .str x, _, h => by cases h; exact .str x
  | .list ds, _, h => by cases h with | lst e r => exact .lst (s _ _ e) (DqAll.same s ds _ r)
  | .tuple ds, _, h => by cases h with | tup e r => exact .tup (s _ _ e) (DqAll.same s ds _ r)
  | .dict es, _, h => by cases h with | dct e r => exact .dct (s _ _ e) (DqKv.same s es _ r)
theorem DqAll.same {H H' : Hp} (s : Same H H') : ∀ (ds : List PyData) (vs : List V), DqAll H vs ds → DqAll H' vs ds
  | [], _, h => by cases h; exact .nil
  | d :: ds, _, h => by cases h with | cons e r => exact .cons (Dq.same s d _ e) (DqAll.same s ds _ r)
theorem DqKv.same {H H' : Hp} (s : Same H H') : ∀ (es : List (PyData × PyData)) (ks : List (Key × V)), DqKv H ks es → DqKv H' ks es
  | [], _, h => by cases h; exact .nil
  | (_, d) :: es, _, h => by cases h with | cons e r => exact .cons (Dq.same s d _ e) (DqKv.same s es _ r)
end
section
variable {X : Cx} {pins : List (Addr × Obj)} {σ : L2.St} {H : Hp} {s : Shared}
theorem reads_key {w : World} {P : Program} {h : Heap} {k : Key} {u : Value} (e : (mixKind P w).is k u = true) : Reads h u (keyD k) [] := by
  rw [mixKind_is] at e
  rcases keyIs_shape e with ⟨i, t, rfl, rfl⟩ | ⟨x, t, rfl, rfl⟩
  · exact .int i t
  · exact .str x t
mutual
theorem Dq.reads (I : Inv X pins σ H s) : ∀ (d : PyData) (v : V) (u : Value), Dq H v d → RelV v u → ∃ as, Reads s.heap u d as ∧ ∀ b ∈ as, ∃ o, H b = some o
  | .none, _, _, h, r => by
    cases h; cases r
    exact ⟨_, Reads.none, by simp⟩
  | .bool b, _, _, h, r => by
    cases h; cases r
    exact ⟨_, Reads.bool b, by simp⟩
  | .int i, _, _, h, r => by
    cases h; obtain ⟨t, rfl⟩ := r
    exact ⟨_, Reads.int i t, by simp⟩
  | .str x, _, _, h, r => by
    cases h; obtain ⟨t, rfl⟩ := r
    exact ⟨_, Reads.str x t, by simp⟩
  | .list ds, _, _, h, r => by
    cases h with
    | @lst a xs _ e ra =>
      cases r
      obtain ⟨_, its, n, rv, hg⟩ := (show ObjOk X.prog X.w H s.heap a (.lst xs) from I.hok a _ e)
      obtain ⟨as, hr, ha⟩ := DqAll.reads I ds _ its ra rv
      refine ⟨_, Reads.list hg rfl rfl hr, fun b hb => ?_⟩
      rcases List.mem_cons.mp hb with rfl | hb
      · exact ⟨_, e⟩
      · exact ha b hb
  | .tuple ds, _, _, h, r => by
    cases h with
    | @tup a xs _ e ra =>
      cases r
      obtain ⟨_, its, rv, o, hg, hc, n, hd⟩ := (show ObjOk X.prog X.w H s.heap a (.tup xs) from I.hok a _ e)
      obtain ⟨as, hr, ha⟩ := DqAll.reads I ds _ its ra rv
      exact ⟨_, Reads.tuple hg hc hd hr, ha⟩
  | .dict es, _, _, h, r => by
    cases h with
    | @dct a ks _ e ra =>
      cases r
      obtain ⟨_, _, vs, rk, o, des, ep, hg, hx, hd, _, hp, _⟩ := (show ObjOk X.prog X.w H s.heap a (.dK ks) from I.hok a _ e)
      obtain ⟨as, bs, h1, h2, h3⟩ := DqKv.reads I es ks vs _ ra rk hp
      refine ⟨_, Reads.dict hg hx.1 hd h1 h2, fun b hb => ?_⟩
      rcases List.mem_append.mp hb with hb | hb
      · rcases List.mem_cons.mp hb with rfl | hb
        · exact ⟨_, e⟩
        · exact h3 b (List.mem_append_left _ hb)
      · exact h3 b (List.mem_append_right _ hb)
theorem DqAll.reads (I : Inv X pins σ H s) : ∀ (ds : List PyData) (vs : List V) (us : List Value), DqAll H vs ds → Vals vs us → ∃ as, ReadsAll s.heap us ds as ∧ ∀ b ∈ as, ∃ o, H b = some o
  | [], _, _, h, r => by
    cases h; cases r
    exact ⟨_, ReadsAll.nil, by simp⟩
  | d :: ds, _, _, h, r => by
    cases h with
    | cons h1 h2 =>
      cases r with
      | cons r1 r2 =>
        obtain ⟨as, q1, m1⟩ := Dq.reads I d _ _ h1 r1
        obtain ⟨bs, q2, m2⟩ := DqAll.reads I ds _ _ h2 r2
        exact ⟨_, ReadsAll.cons q1 q2, fun b hb => (List.mem_append.mp hb).elim (m1 b) (m2 b)⟩
theorem DqKv.reads (I : Inv X pins σ H s) : ∀ (es : List (PyData × PyData)) (ks : List (Key × V)) (vs : List (Key × Value)) (des : List DictEntry), DqKv H ks es → KV ks vs → Pairs (mixKind X.prog X.w) des vs →
    ∃ as bs, ReadsAll s.heap (des.map (·.key)) (es.map (·.1)) as ∧ ReadsAll s.heap (des.map (·.val)) (es.map (·.2)) bs ∧ ∀ b ∈ as ++ bs, ∃ o, H b = some o
  | [], _, _, _, h, r, p => by
    cases h; cases r; cases p
    exact ⟨_, _, ReadsAll.nil, ReadsAll.nil, by simp⟩
  | (_, d) :: es, _, _, _, h, r, p => by
    cases h with
    | cons h1 h2 =>
      cases r with
      | cons r1 r2 =>
        cases p with
        | cons p1 p2 p3 =>
          obtain ⟨as, bs, q1, q2, m⟩ := DqKv.reads I es _ _ _ h2 r2 p3
          obtain ⟨cs, q3, m3⟩ := Dq.reads I d _ _ h1 r1.2
          rw [← r1.1] at p1
          refine ⟨_, _, ReadsAll.cons (reads_key p1) q1, ReadsAll.cons (by dsimp only; rw [p2]; exact q3) q2, fun b hb => ?_⟩
          rcases List.mem_append.mp hb with hb | hb
          · exact m b (List.mem_append_left _ hb)
          · rcases List.mem_append.mp hb with hb | hb
            · exact m3 b hb
            · exact m b (List.mem_append_right _ hb)
end
end
/-- the base has sys.modules -/
def Mods (base : Heap) : Prop := ∃ o, base.get? sysModules = some o
/-- a datum that a repr may be asked of -/
def Small (d : PyData) : Prop := d.showable = true ∧ d.depth ≤ 20 ∧ d.shown.length ≤ 100000
def rRepr : List V → Hp → VK → Prop := fun xs H Q => ∃ v d, xs = [v] ∧ Dq H v d ∧ Small d ∧ Q (.str d.shown) H
section
variable {X : Cx}
theorem call_reprD (gd : X.A.guards = some []) (hu : X.A.units + 64 < cLine) (hm : Mods X.base) : CallR X (.builtin "repr") rRepr := by
  intro pins s σ H xs us Q I r h
  obtain ⟨v, d, rfl, hd, ⟨h1, h2, h3⟩, q⟩ := h
  obtain ⟨u, rfl, ru⟩ := vals1 r
  have hz : d.shown.length ≤ sizeLine := Nat.le_trans h3 (by decide)
  obtain ⟨as, hr, ha⟩ := Dq.reads I d v u hd ru
  have hno : sysModules ∉ as := fun z => by
    obtain ⟨o, e⟩ := ha _ z
    obtain ⟨b, eb⟩ := hm
    have n := (I.bs _ _ eb).2
    rw [n] at e
    cases e
  have fin : ∀ (h' : Heap) (tu : Tok) (tk : Nat), (∀ b o, s.heap.get? b = some o → h'.get? b = some o) → EP X pins σ Q (.str d.shown tu) { s with heap := h', toks := tk } :=
    fun h' tu tk k => ⟨.str d.shown, H, I.kept (t' := tk) k, ⟨_, rfl⟩, q⟩
  cases hd with
  | non => cases ru; exact P.repr_of_none (fin _ _ _ fun _ _ z => z)
  | bl b => cases ru; exact P.repr_of_bool (fin _ _ _ fun _ _ z => z)
  | int i =>
    obtain ⟨t, rfl⟩ := ru
    exact P.repr_of_int (of_decide_eq_true h1) (fin _ _ _ fun _ _ z => z)
  | str x =>
    obtain ⟨t, rfl⟩ := ru
    exact P.repr_of_str (fin _ _ _ fun _ _ z => z) hz
  | lst _ _ => cases ru; exact repr_of_reads' hr h1 (fun _ => hno) gd (by omega) (fun _ _ z => z) fin hz
  | tup _ _ => cases ru; exact repr_of_reads' hr h1 (fun _ => hno) gd (by omega) (fun _ _ z => z) fin hz
  | dct _ _ => cases ru; exact repr_of_reads' hr h1 (fun _ => hno) gd (by omega) (fun _ _ z => z) fin hz
end
end Hx

namespace Hx
open PySem PySem.Spec PyProof.Rows L2
/-- a number of the module -/
theorem pe_gint {X : Cx} {x : Str} {i : Int} {t : Tok} {pos : Pos} (hg : Gl X x) (hm : X.mg x = some (.int i t))
    (hd : (x == ("__debug__" : Str)) = false := by decide) : PE X (.Name x pos) (tC (.int i)) := pe_glob hg hm ⟨_, rfl⟩ hd
/-- a class or def of the module; a built-in class, as a value -/
theorem pe_gref {X : Cx} {x : Str} {a : Addr} {pos : Pos} (hg : Gl X x) (hm : X.mg x = some (.ref a))
    (hd : (x == ("__debug__" : Str)) = false := by decide) : PE X (.Name x pos) (tC (.ref a)) := pe_glob hg hm (show RelV (.ref a) (.ref a) from rfl) hd
theorem pe_bty {X : Cx} {x : Str} {T : String} {pos : Pos} (hg : Gl X x) (hm : X.mg x = none) (hv : bootBuiltins x = some (.type T))
    (hn : x ≠ "__name__" := by decide) (hd : (x == ("__debug__" : Str)) = false := by decide) : PE X (.Name x pos) (tC (.ty T)) :=
  pe_bltn hg hm hv (show RelV (.ty T) (.type T) from rfl) hn hd
/-- a comprehension without an if: the turn is taken -/
theorem turn_yes {σ : L2.St} {H : Hp} {R S : Hp → Prop} (h : R H) : tYes σ H fun b H3 => if b = true then R H3 else S H3 := by
  show (if true = true then R H else S H)
  rw [if_pos rfl]
  exact h
/-- the script as an object that is only read -/
def scriptO (vs : List Value) (ns : List Int) : HO := .frz { cls := .type "list", data := .seq vs.toArray } (.lst (ns.map V.int))
section
variable {P : Program} {w : World} {K : PySem.W.Frag} {mg mb : Str → Option Value} {k : Nat} {fa a : Addr} {fd : FuncData} {x : Str} {sp : Sp}
  {s1 : Shared} {vs : List Value} {ns : List Int}
theorem enter_with (H : Hp) (KX : K.In s1.heap) (hglob : s1.heap.Ns mainGlobals mg) (hblt : s1.heap.Ns builtinsNs mb)
    (hboot : ∀ x : Str, x ≠ "__name__" → mb x = bootBuiltins x) (hlim : s1.heap.NoLimit) (hmods : ∃ mm, s1.heap.Ns sysModules mm) (hgen : s1.gens = #[])
    (ha : s1.heap.get? a = some { cls := .type "list", data := .seq vs.toArray }) (room : Room k callerA)
    (F : ∀ base : Heap, K.In base → base.Ns mainGlobals mg → Mods base → GOk P w K mg base CX0 k fa fd [x] sp)
    (hbind : ∀ (s : Shared) (u : Value), BindsTo s fd ⟨[u], []⟩ [(x, u)])
    (hH : ∀ b u, H b = some u → b = a ∧ u = scriptO vs ns) (hK : ∀ u, H a = some u → K.lookup a = none) (hok : HOk P w H s1.heap)
    (hsp : sp [.ref a] H (fun v _ => v = .bl true) E0) :
    codeAny (model P w) callerA (.call (.ref fa) ⟨[.ref a], []⟩) (fun r s' => r = .ok (.ret (.bool true)) ∧ OldK s1.heap s'.heap ∧ s'.os = s1.os ∧ AllBare s'.gens) s1 := by
  have untracked : ∀ {b : Addr} {o : Obj} {es : Array DictEntry} {ep : Nat}, s1.heap.get? b = some o → o.data = .dict es ep → H b = none := by
    intro b o es ep e d
    cases hb : H b with
    | none => rfl
    | some u =>
      obtain ⟨rfl, _⟩ := hH b u hb
      rw [ha] at e
      cases e
      cases (show Data.seq vs.toArray _ = Data.dict es ep from d)
  have nsBase : ∀ {b : Addr} {m : Str → Option Value}, s1.heap.Ns b m → (hidT s1.heap H).Ns b m := fun {b m} ⟨o, es, ep, e, d, r⟩ =>
    ⟨o, es, ep, hidT_get e (untracked e d), d, r⟩
  have inBase : K.In (hidT s1.heap H) := by
    intro b o e
    refine hidT_get (KX b o e) ?_
    cases hb : H b with
    | none => rfl
    | some u =>
      obtain ⟨rfl, _⟩ := hH b u hb
      rw [hK u hb] at e
      cases e
  have modOk : Mod K mg (hidT s1.heap H) := by
    refine ⟨inBase, nsBase hglob, ⟨mb, nsBase hblt, hboot⟩, ?_⟩
    obtain ⟨mc, l1, l2⟩ := hlim
    exact ⟨mc, nsBase l1, l2⟩
  have modsOk : Mods (hidT s1.heap H) := by
    obtain ⟨mm, hm⟩ := hmods
    obtain ⟨o, es, ep, e, _⟩ := nsBase hm
    exact ⟨o, e⟩
  have start0 : Env0 P w K mg (hidT s1.heap H) callerA [] s1 H :=
    { frames := rfl, mod := modOk, bs := fun b o e => of_hidT e, bsz := Nat.le_of_eq (hidT_size _ _), funs := trivial,
      frf := fun b hb => absurd (show b ∈ ([] : List Addr) from hb) (by simp), hok := hok, bare := .of_eq hgen }
  have run := (F _ inBase (nsBase hglob) modsOk).goes callerA [] s1 H ⟨[.ref a], []⟩ [.ref a] [.ref a] _ _ room rfl start0 (hbind s1 (.ref a)) (.cons rfl .nil) hsp
  refine codeAny_mono run ?_
  intro r s' hr
  cases r with
  | error e => exact (show False from hr).elim
  | ok fl =>
    cases fl with
    | next => exact hr.elim
    | brk => exact hr.elim
    | cont => exact hr.elim
    | ret u =>
      obtain ⟨v, H', osEq, bare, un, hok', rel, rfl⟩ := hr
      cases (show u = Value.bool true from rel)
      refine ⟨rfl, OldK.of_keep ?_, osEq, bare⟩
      intro b o e
      cases hb : H b with
      | none => exact un.keep b o e hb (fun z => absurd (show b ∈ ([] : List Addr) from z) (by simp)) (by simp)
      | some u =>
        obtain ⟨rfl, rfl⟩ := hH b u hb
        have stay := un.frzs b _ _ hb
        obtain ⟨e1, _⟩ := hok b _ hb
        obtain ⟨e2, _⟩ := hok' b _ stay
        rw [e] at e1
        rw [e2, ← Option.some.inj e1]

theorem law_enter (KX : K.In s1.heap) (hglob : s1.heap.Ns mainGlobals mg) (hblt : s1.heap.Ns builtinsNs mb)
    (hboot : ∀ x : Str, x ≠ "__name__" → mb x = bootBuiltins x) (hlim : s1.heap.NoLimit) (hmods : ∃ mm, s1.heap.Ns sysModules mm) (hgen : s1.gens = #[])
    (ha : s1.heap.get? a = some { cls := .type "list", data := .seq vs.toArray }) (hi : IntsAre vs ns) (hl : ns.length ≤ sizeLine) (room : Room k callerA)
    (F : ∀ base : Heap, K.In base → base.Ns mainGlobals mg → Mods base → GOk P w K mg base CX0 k fa fd [x] sp)
    (hbind : ∀ (s : Shared) (u : Value), BindsTo s fd ⟨[u], []⟩ [(x, u)])
    (hsp : ∀ H : Hp, SqL K H a (ns.map V.int) → sp [.ref a] H (fun v _ => v = .bl true) E0) :
    codeAny (model P w) callerA (.call (.ref fa) ⟨[.ref a], []⟩) (fun r s' => r = .ok (.ret (.bool true)) ∧ OldK s1.heap s'.heap ∧ s'.os = s1.os ∧ AllBare s'.gens) s1 := by
  have rel := vals_ints hi
  cases hk : K.lookup a with
  | some o =>
    have e := KX a o hk
    rw [ha] at e
    cases e
    refine enter_with (ns := ns) (fun _ => none) KX hglob hblt hboot hlim hmods hgen ha room F hbind (fun _ _ z => by cases z) (fun _ z => by cases z) (fun _ _ z => by cases z) ?_
    refine hsp _ (.inr ⟨_, vs.toArray, _, hk, rfl, rfl, rfl, ?_, by simpa using rel⟩)
    rw [List.size_toArray, hi.length]
    exact hl
  | none =>
    have at_a : (fun b => if b = a then some (scriptO vs ns) else none : Hp) a = some (scriptO vs ns) := if_pos rfl
    refine enter_with (ns := ns) (fun b => if b = a then some (scriptO vs ns) else none) KX hglob hblt hboot hlim hmods hgen ha room F hbind ?_ (fun _ _ => hk) ?_ (hsp _ (.inl (.inr ⟨_, at_a⟩)))
    · intro b u z
      by_cases hb : b = a
      · exact ⟨hb, (Option.some.inj ((if_pos hb).symm.trans z)).symm⟩
      · cases (if_neg hb).symm.trans z
    · intro b u z
      by_cases hb : b = a
      · have e := Option.some.inj ((if_pos hb).symm.trans z)
        subst hb
        subst e
        exact ⟨ha, by rw [List.length_map]; exact hl, vs, _, rel, ha⟩
      · cases (if_neg hb).symm.trans z
end
/-- the goal that k_head leaves, for a law whose defs ask that no guard stands below -/
theorem walk_G {l : PySem.W.OpenLaw} {n k : Nat} {q : Program} {loose : List Str} {XP : (Str → Option Value) → Heap → Prop} {YP : World → Heap → Prop} {d : DefRec}
    {K : Params → PySem.W.Frag} {sp : PySem.W.Frag → Sp} {x : Str} (hn : l.most = some n) (hn2 : n ≤ sizeLine) (hdf : d.params.defaults = []) (room : Room k callerA)
    (himp : importsNone q = true) (hY : ∀ (w : World) (h : Heap), YP w h → (K w.params).In h)
    (F : ∀ (w : World) (mg : Str → Option Value) (fa : Addr) (h : Heap), (K w.params).In h → h.Ns mainGlobals mg → mg d.name = some (.ref fa) →
      ∃ fd : FuncData, (∀ (s : Shared) (u : Value), BindsTo s fd ⟨[u], []⟩ [(x, u)]) ∧
        ∀ base : Heap, (K w.params).In base → base.Ns mainGlobals mg → Mods base → GOk l.prog w (K w.params) mg base CX0 k fa fd [x] (sp (K w.params)))
    (hsp : ∀ (K : PySem.W.Frag) (H : Hp) (a : Addr) (ns : List Int), ns.length ≤ n → SqL K H a (ns.map V.int) → sp K [.ref a] H (fun v _ => v = .bl true) E0) :
    PySem.W.WalkO q loose XP YP l.row.toRowW d [] (fun f vs => PySem.call f vs) := by
  refine Att.attach_call hn hdf ?_
  intro w s0 s1 mg mb fa o pm cd doc a vs ns G Y ho hd hcd hmg hobj hints hlen hgen
  have KX := hY w _ Y
  obtain ⟨fd, hb, hF⟩ := F w mg fa _ KX G.T.g hmg
  obtain ⟨mm, hmm, _⟩ := (G.T.seer himp).mods
  exact law_enter KX G.T.g G.T.b G.T.builtins G.T.nolimit ⟨mm, hmm⟩ hgen hobj hints (Nat.le_trans hlen hn2) room hF hb fun H hS => hsp _ H a ns hlen hS
end Hx

namespace Wp
open PySem PySem.Spec PyProof.Rows L2
def top (i : Nat) : Stmt := PySem.Challenge.pw_wovenplaces_k41_sets_are_refused.main.body.getD i (.Pass ⟨0, 0, 0, 0⟩)
abbrev s_wall : Stmt := top 0
abbrev c_WrongValue : Stmt := top 2
abbrev c_InvalidNumber : Stmt := top 3
abbrev s_InvalidNumber_init : Stmt := inClass (top 3) 0
abbrev c_NotPlaces : Stmt := top 4
abbrev s_NotPlaces_init : Stmt := inClass (top 4) 0
abbrev s_is_integer : Stmt := top 8
abbrev s_is_within : Stmt := top 9
abbrev s_check_within : Stmt := top 10
abbrev s_is_count : Stmt := top 12
abbrev s_check_count : Stmt := top 13
abbrev s_full : Stmt := top 15
abbrev s_low : Stmt := top 16
abbrev s_tiled : Stmt := top 17
abbrev s_positions : Stmt := top 18
abbrev s_common_width : Stmt := top 19
abbrev s_primes_of : Stmt := top 20
abbrev s_least_width : Stmt := top 21
abbrev c_Places : Stmt := top 23
abbrev s_Places_init : Stmt := inClass (top 23) 0
abbrev s_Places_start : Stmt := inClass (top 23) 1
abbrev s_Places_period : Stmt := inClass (top 23) 2
abbrev s_Places_below : Stmt := inClass (top 23) 3
abbrev s_Places_rests : Stmt := inClass (top 23) 4
abbrev s_Places_least : Stmt := inClass (top 23) 5
abbrev s_Places_is_finite : Stmt := inClass (top 23) 6
abbrev s_Places_members : Stmt := inClass (top 23) 7
abbrev s_Places_or : Stmt := inClass (top 23) 8
abbrev s_Places_and : Stmt := inClass (top 23) 9
abbrev s_Places_sub : Stmt := inClass (top 23) 10
abbrev s_Places_xor : Stmt := inClass (top 23) 11
abbrev s_Places_invert : Stmt := inClass (top 23) 12
abbrev s_Places_contains : Stmt := inClass (top 23) 13
abbrev s_Places_eq : Stmt := inClass (top 23) 14
abbrev s_Places_bool : Stmt := inClass (top 23) 15
abbrev s_Places_repr : Stmt := inClass (top 23) 16
abbrev s_bits_below : Stmt := top 24
abbrev s_opposite : Stmt := top 25
abbrev s_frame : Stmt := top 26
abbrev s_check_places : Stmt := top 27
abbrev s_gathered : Stmt := top 28
abbrev s_numbers : Stmt := top 29
abbrev s_steps : Stmt := top 30
abbrev s_law_deck : Stmt := top 32
abbrev s_law_card : Stmt := top 33
abbrev s_law_of : Stmt := top 34
abbrev s_law_numbers : Stmt := top 35
abbrev s_law_caught : Stmt := top 36
abbrev s_law_value : Stmt := top 37
abbrev s_law_due : Stmt := top 38
abbrev s_law_is_due : Stmt := top 39
abbrev s_law_right : Stmt := top 40
abbrev s_law : Stmt := top 41
end Wp

namespace Wp
open PySem PySem.Spec PyProof.Rows L2 Hx
/-! the head of the program by one run: facts by names -/
/-- a def of the text and where it stands -/
structure DA where
  adr : PySem.W.Frag → Addr
  name : Str
  qual : Str
  st : Stmt
abbrev FnV : Type := He.FnV
def faA (K : PySem.W.Frag) (a : Addr) : FnV := match K.lookup a with
  | some ⟨_, _, .func u, _⟩ => some (u.name, u.qualname, u.params, u.body, u.scope, u.globals, u.closure, u.defaults, u.builtins)
  | _ => none
def DA.val (d : DA) : FnV := some (d.name, d.qual, defArgs d.st, .stmts (defBody d.st), defScope d.st, mainGlobals, [], .none, builtinsNs)
def DA.ok (K : PySem.W.Frag) (d : DA) : Bool := PySem.W.keepIn K (.ref (d.adr K)) && (match K.lookup (d.adr K) with
  | some ⟨_, _, .func u, _⟩ => PySem.W.codeIn K u.code d.qual
  | _ => false)
theorem DA.fun {K : PySem.W.Frag} {d : DA} (e : faA K (d.adr K) = d.val) (c : d.ok K = true) : ∃ fd, Fun K d.name d.qual d.st (d.adr K) fd := by
  obtain ⟨kp, c2⟩ := Bool.and_eq_true_iff.mp c
  unfold faA at e
  cases q : K.lookup (d.adr K) with
  | none =>
    rw [q] at c2
    cases c2
  | some o =>
    obtain ⟨oc, od, dt, osl⟩ := o
    rw [q] at c2 e
    cases dt with
    | func fd =>
      obtain ⟨v1, v2, v3, v4, v5, v6, v7, v8, v9, v10, v11, v12, v13, v14, v15⟩ := fd
      have e2 : (some (v1, v2, v3, v4, v5, v6, v7, v8, v15) : FnV) = some (d.name, d.qual, defArgs d.st, .stmts (defBody d.st), defScope d.st, mainGlobals, [], .none, builtinsNs) := e
      simp only [Option.some.injEq, Prod.mk.injEq] at e2
      obtain ⟨w1, w2, w3, w4, w5, w6, w7, w8, w9⟩ := e2
      subst w1 w2 w3 w4 w5 w6 w7 w8 w9
      exact ⟨_, ⟨oc, od, v9, v10, v11, v12, v13, v14, osl, rfl, q, c2⟩, kp⟩
    | _ => cases c2
abbrev AlZ : Type := Bool × List FnV
def obsZ (ex : PySem.W.Frag → Bool) (ds : List DA) (K : PySem.W.Frag) : AlZ := (ex K && ds.all fun d => d.ok K, ds.map fun d => faA K (d.adr K))
def valZ (ds : List DA) : AlZ := (true, ds.map DA.val)
def SaysZ (ex : PySem.W.Frag → Bool) (ds : List DA) (K : PySem.W.Frag) : Prop := obsZ ex ds K = valZ ds
/-! the addresses that are looked at: the module's names, the classes' own names, getters, code -/
def codesG (g : Addr → Option Obj) (a : Addr) : List Addr := match g a with
  | some ⟨_, _, .func fd, _⟩ => He.refV fd.code
  | _ => []
def nssG (g : Addr → Option Obj) (a : Addr) : List Addr := match g a with
  | some ⟨_, _, .cls cd, _⟩ => [cd.ns]
  | _ => []
def valsG (g : Addr → Option Obj) (a : Addr) : List Addr := match g a with
  | some ⟨_, _, .dict es _, _⟩ => es.toList.flatMap fun e => He.refV e.val
  | _ => []
def fldsG (g : Addr → Option Obj) (a : Addr) : List Addr := match g a with
  | some ⟨_, _, .fields vs, _⟩ => vs.toList.flatMap He.refV
  | _ => []
def asZ3 (g : Addr → Option Obj) (A N M G : List Addr) : List Addr := mainGlobals :: (N ++ (A ++ (M ++ (G ++ (A.flatMap (codesG g) ++ (M.flatMap (codesG g) ++ G.flatMap (codesG g)))))))
def asZ2 (g : Addr → Option Obj) (A N M : List Addr) : List Addr := asZ3 g A N M (M.flatMap (fldsG g))
def asZ1 (g : Addr → Option Obj) (A N : List Addr) : List Addr := asZ2 g A N (N.flatMap (valsG g))
def asZ0 (g : Addr → Option Obj) (A : List Addr) : List Addr := asZ1 g A (A.flatMap (nssG g))
def asZ (g : Addr → Option Obj) : List Addr := asZ0 g (valsG g mainGlobals)
/-! the law's main def: its code object and the table of what it makes -/
def codeR (K : PySem.W.Frag) (a : Addr) : Addr := match K.lookup a with
  | some ⟨_, _, .func fd, _⟩ => (match fd.code with
    | .ref c => c
    | _ => 0)
  | _ => 0
theorem codeR_eq {K : PySem.W.Frag} {a : Addr} {oc : Value} {od : Option Addr} {osl : Array (Option Value)} {fd : FuncData} {c : Addr} (lk : K.lookup a = some ⟨oc, od, .func fd, osl⟩) (e : fd.code = .ref c) : codeR K a = c := by
  unfold codeR
  rw [lk]
  show (match fd.code with | .ref c => c | _ => 0) = c
  rw [e]
def cAt (x : Str) (K : PySem.W.Frag) : Addr := codeR K (He.ga K x)
def tAt (x : Str) (K : PySem.W.Frag) : Addr := He.tabOf K (cAt x K)
def tabZ (x : Str) (K : PySem.W.Frag) (g : Addr → Option Obj) : Bool := PySem.W.codeHdIn K (cAt x K) (tAt x K) && ((match g (tAt x K) with
  | some o => He.emptyTab o
  | none => false) && (K.lookup (tAt x K)).isNone)
structure TabF (x : Str) (K : PySem.W.Frag) (h : Heap) : Prop where
  code : PySem.W.codeHdIn K (cAt x K) (tAt x K) = true
  tab : h.get? (tAt x K) = some { cls := .none, data := .fields #[] }
  out : K.lookup (tAt x K) = none
theorem tabZ_ok {x : Str} {K : PySem.W.Frag} {h : Heap} (e : tabZ x K h.get? = true) : TabF x K h := by
  obtain ⟨e1, e2⟩ := Bool.and_eq_true_iff.mp e
  obtain ⟨e2, e3⟩ := Bool.and_eq_true_iff.mp e2
  refine ⟨e1, ?_, Option.isNone_iff_eq_none.mp e3⟩
  cases q : h.get? (tAt x K) with
  | none =>
    rw [q] at e2
    cases e2
  | some o =>
    rw [q] at e2
    rw [He.emptyTab_eq e2]
def obsTG (xs : List Str) (ex : PySem.W.Frag → Bool) (ds : List DA) (g : Addr → Option Obj) : AlZ × Bool := (obsZ ex ds (He.frG g (asZ g)), xs.all fun x => tabZ x (He.frG g (asZ g)) g)
def hookT (xs : List Str) (ex : PySem.W.Frag → Bool) (ds : List DA) : PySem.W.Hook where
  α := AlZ × Bool
  obs := fun s => obsTG xs ex ds s.heap.get?
  val := fun _ => (valZ ds, true)
  says := fun _ h => ∃ K : PySem.W.Frag, K.In h ∧ SaysZ ex ds K ∧ ∀ x ∈ xs, TabF x K h
  of := fun _ _ e => ⟨_, He.frG_in, congrArg Prod.fst e, fun x hx => tabZ_ok (List.all_eq_true.mp (congrArg Prod.snd e) x hx)⟩
  keeps := fun _ _ _ ⟨K, isIn, says, t⟩ more => ⟨K, PySem.W.Frag.In.keeps isIn more, says, fun x hx => ⟨(t x hx).code, more _ _ (t x hx).tab, (t x hx).out⟩⟩
theorem obsTG_eq {xs : List Str} {ex : PySem.W.Frag → Bool} {ds : List DA} {g : Addr → Option Obj} {s : Shared} (h : ∀ a, g a = s.heap.get? a) : obsTG xs ex ds g = (hookT xs ex ds).obs s := by
  have e : g = s.heap.get? := funext h
  rw [e] <;> rfl
theorem SaysZ.ex {ex : PySem.W.Frag → Bool} {ds : List DA} {K : PySem.W.Frag} (c : SaysZ ex ds K) : ex K = true := by
  have c1 : (ex K && ds.all fun d => d.ok K) = true := congrArg (fun z : AlZ => z.1) c
  exact (Bool.and_eq_true_iff.mp c1).1
theorem SaysZ.def_ {ex : PySem.W.Frag → Bool} {ds : List DA} {K : PySem.W.Frag} (c : SaysZ ex ds K) (i : Nat) {d : DA} (h : ds[i]? = some d := by rfl) : ∃ fd, Fun K d.name d.qual d.st (d.adr K) fd := by
  have c1 : (ex K && ds.all fun d => d.ok K) = true := congrArg (fun z : AlZ => z.1) c
  have c2 := (Bool.and_eq_true_iff.mp c1).2
  have e : ds.map (fun d => faA K (d.adr K)) = ds.map DA.val := congrArg (fun z : AlZ => z.2) c
  have e2 : (ds.map fun d => faA K (d.adr K))[i]? = (ds.map DA.val)[i]? := by rw [e]
  rw [List.getElem?_map, List.getElem?_map, h] at e2
  exact DA.fun (Option.some.inj e2) (List.all_eq_true.mp c2 d (List.mem_of_getElem? h))
/-! where things stand -/
def gA (x : Str) (K : PySem.W.Frag) : Addr := He.ga K x
def mA (x m : Str) (K : PySem.W.Frag) : Addr := He.ma K (He.ga K x) m
/-- the getter of a property -/
def pG (x m : Str) (K : PySem.W.Frag) : Addr := match PySem.W.recIn K (He.ma K (He.ga K x) m) "property" with
  | some (.ref g :: _) => g
  | _ => 0
def pB (x m : Str) (K : PySem.W.Frag) : Bool := He.eqO (PySem.W.findIn K (.ref (He.ga K x)) m) (some (some (.ref (He.ma K (He.ga K x) m)))) &&
  (He.eqO (PySem.W.specialIn K (.ref (He.ma K (He.ga K x) m)) "__get__") (some (some (.builtin "property.__get__"))) &&
  (decide (PySem.W.takesIn K (.ref (He.ma K (He.ga K x) m)) = some true) && (match PySem.W.recIn K (He.ma K (He.ga K x) m) "property" with
  | some (.ref _ :: _) => true
  | _ => false)))
theorem pB_ok {K : PySem.W.Frag} {x m : Str} (h : pB x m K = true) : PropOf K (He.ga K x) m (He.ma K (He.ga K x) m) (pG x m K) := by
  obtain ⟨h1, h⟩ := Bool.and_eq_true_iff.mp h
  obtain ⟨h2, h⟩ := Bool.and_eq_true_iff.mp h
  obtain ⟨h3, h4⟩ := Bool.and_eq_true_iff.mp h
  refine ⟨He.eqO_ok h1, He.eqO_ok h2, of_decide_eq_true h3, ?_⟩
  unfold pG
  revert h4
  split
  · rename_i g r e
    intro _
    exact ⟨r, e⟩
  · intro h
    cases h
end Wp

/-! the classes of what the law draws -/
namespace Wp
def types7 : List String := ["NoneType", "bool", "int", "str", "list", "tuple", "dict"]
end Wp

namespace Wp
open PySem PySem.Spec PyProof.Rows L2 Hx
/-! what the head shows, and the run that shows it -/
def errsX : List Str := ["InvalidNumber", "NotPlaces"]
def exErr (K : PySem.W.Frag) (x : Str) : Bool :=
  He.eqO (PySem.W.nsIn K mainGlobals x) (some (some (.ref (He.ga K x)))) && (PySem.W.excInitIn K (He.ga K x) He.veBase "ValueError.__new__" && (PySem.W.excOver K (He.ga K x) He.veBase && (PySem.W.hasDictIn K (He.ga K x) &&
  (He.eqO (PySem.W.findIn K (.ref (He.ga K x)) "__setattr__") (some (some (.builtin "object.__setattr__"))) && (He.eqO (PySem.W.findIn K (.ref (He.ga K x)) "__getattribute__") (some (some (.builtin "BaseException.__getattribute__"))) &&
  (He.eqO (PySem.W.findIn K (.ref (He.ga K x)) "__getattr__") (some none) && (decide (PySem.W.subIn K (.ref (He.ga K x)) (.type "BaseException") = some true) && (PySem.W.keepIn K (.ref (He.ga K x)) &&
  (He.eqO (PySem.W.findIn K (.ref (He.ga K x)) "__class__") (some (some (.builtin "object.__class__"))) && (decide (PySem.W.mroIn K (He.ga K x) (.type "object") = some true) &&
  (He.eqO (PySem.W.findIn K (.ref (He.ga K x)) "__init__") (some (some (.ref (He.ma K (He.ga K x) "__init__")))) && (decide (PySem.W.typeIn K (.ref (He.ma K (He.ga K x) "__init__")) = some (.type "function")) &&
  (decide (PySem.W.takerIn K (He.ga K x) "given" = some none) && (He.eqO (PySem.W.findIn K (.ref (He.ga K x)) "given") (some none) && decide (PySem.W.typeIn K (.ref (He.ga K x)) = some (.type "type"))))))))))))))))
def exOld (K : PySem.W.Frag) : Bool := He.eqO (PySem.W.specialIn K (.builtin "object.__class__") "__get__") (some (some (.builtin "getset_descriptor.__get__"))) && decide (PySem.W.takesIn K (.builtin "object.__class__") = some true)
def opsN : List Str := ["__or__", "__and__", "__sub__", "__xor__"]
def opsR : List Str := ["__ror__", "__rand__", "__rsub__", "__rxor__"]
def methsX : List Str := ["__or__", "__and__", "__sub__", "__xor__", "__repr__", "members"]
def propsX : List Str := ["start", "period", "below", "rests"]
def fldsX : List Str := ["width", "cycle", "strays"]
def exPl (K : PySem.W.Frag) : Bool :=
  (He.Fa.glo "Places").ok K && ((He.Fa.cls "Places").ok K && ((He.Fa.mkr "Places").ok K && (fldsX.all (fun f => (He.Fa.noat "Places" f).ok K) && (methsX.all (fun m => (He.Fa.meth "Places" m).ok K) && (propsX.all (fun p => pB "Places" p K) &&
  (He.eqO (PySem.W.findIn K (.ref (He.ga K "Places")) "__class__") (some (some (.builtin "object.__class__"))) && (decide (PySem.W.mroIn K (He.ga K "Places") (.type "object") = some true) && (decide (PySem.W.kitOne K (.ref (He.ga K "Places")) (.ref (He.ga K "Places")) = some true) &&
  (PySem.W.selfFirst K (He.ga K "Places") && (opsR.all (fun n => He.eqO (PySem.W.findIn K (.ref (He.ga K "Places")) n) (some none)) && decide (PySem.W.subIn K (.ref (He.ga K "InvalidNumber")) (.type "StopIteration") = some false)))))))))))
def exTy (K : PySem.W.Frag) : Bool := types7.all fun T => decide (PySem.W.kitOne K (.type T) (.ref (He.ga K "Places")) = some false) && (decide (PySem.W.subIn K (.type T) (.ref (He.ga K "Places")) = some false) && (opsN ++ opsR).all fun n => (PySem.W.findIn K (.type T) n).isSome)
def exCau (K : PySem.W.Frag) : Bool := errsX.all fun x => xfB K (He.ga K x) && errsX.all fun y => decide (PySem.W.exmOne K (.ref (He.ga K x)) (.ref (He.ga K y)) = some (decide (x = y)))
def exCo (K : PySem.W.Frag) : Bool := (He.Fa.int "MOST_MEMBER" 1000).ok K && (He.Fa.int "MOST_STEP" 12).ok K
def glosX : List Str := ["is_integer", "is_within", "check_within", "is_count", "check_count", "full", "low", "tiled", "positions", "common_width", "primes_of", "least_width", "bits_below", "frame", "check_places", "gathered", "numbers", "steps", "_law_deck", "_law_card", "_law_of", "_law_numbers", "_law_caught", "_law_value", "_law_due", "_law_is_due", "_law_right", "law"]
def freeX : List Str := ["isinstance", "int", "bool", "str", "len", "all", "list", "tuple", "range", "max", "min", "repr", "enumerate", "zip", "set", "abs", "divmod"]
def exX (K : PySem.W.Frag) : Bool := errsX.all (exErr K) && (exPl K && (exTy K && (exOld K && (glosX.all (fun x => (He.Fa.glo x).ok K) && (freeX.all (fun x => (He.Fa.free x).ok K) && (exCau K && exCo K))))))
def dsX0 : List DA := [
  ⟨gA "is_integer", "is_integer", "is_integer", s_is_integer⟩,
  ⟨gA "is_within", "is_within", "is_within", s_is_within⟩,
  ⟨gA "check_within", "check_within", "check_within", s_check_within⟩,
  ⟨gA "is_count", "is_count", "is_count", s_is_count⟩,
  ⟨gA "check_count", "check_count", "check_count", s_check_count⟩,
  ⟨gA "full", "full", "full", s_full⟩,
  ⟨gA "low", "low", "low", s_low⟩,
  ⟨gA "tiled", "tiled", "tiled", s_tiled⟩,
  ⟨gA "positions", "positions", "positions", s_positions⟩,
  ⟨gA "common_width", "common_width", "common_width", s_common_width⟩,
  ⟨gA "primes_of", "primes_of", "primes_of", s_primes_of⟩,
  ⟨gA "least_width", "least_width", "least_width", s_least_width⟩,
  ⟨gA "bits_below", "bits_below", "bits_below", s_bits_below⟩,
  ⟨gA "frame", "frame", "frame", s_frame⟩,
  ⟨gA "check_places", "check_places", "check_places", s_check_places⟩,
  ⟨gA "gathered", "gathered", "gathered", s_gathered⟩,
  ⟨gA "numbers", "numbers", "numbers", s_numbers⟩,
  ⟨gA "steps", "steps", "steps", s_steps⟩,
  ⟨gA "_law_deck", "_law_deck", "_law_deck", s_law_deck⟩,
  ⟨gA "_law_card", "_law_card", "_law_card", s_law_card⟩,
  ⟨gA "_law_of", "_law_of", "_law_of", s_law_of⟩,
  ⟨gA "_law_numbers", "_law_numbers", "_law_numbers", s_law_numbers⟩]
def dsX1 : List DA := [
  ⟨gA "_law_caught", "_law_caught", "_law_caught", s_law_caught⟩,
  ⟨gA "_law_value", "_law_value", "_law_value", s_law_value⟩,
  ⟨gA "_law_due", "_law_due", "_law_due", s_law_due⟩,
  ⟨gA "_law_is_due", "_law_is_due", "_law_is_due", s_law_is_due⟩,
  ⟨gA "_law_right", "_law_right", "_law_right", s_law_right⟩,
  ⟨gA "law", "law", "law", s_law⟩,
  ⟨mA "InvalidNumber" "__init__", "__init__", "InvalidNumber.__init__", s_InvalidNumber_init⟩,
  ⟨mA "NotPlaces" "__init__", "__init__", "NotPlaces.__init__", s_NotPlaces_init⟩,
  ⟨mA "Places" "__init__", "__init__", "Places.__init__", s_Places_init⟩,
  ⟨mA "Places" "__or__", "__or__", "Places.__or__", s_Places_or⟩,
  ⟨mA "Places" "__and__", "__and__", "Places.__and__", s_Places_and⟩,
  ⟨mA "Places" "__sub__", "__sub__", "Places.__sub__", s_Places_sub⟩,
  ⟨mA "Places" "__xor__", "__xor__", "Places.__xor__", s_Places_xor⟩,
  ⟨mA "Places" "__repr__", "__repr__", "Places.__repr__", s_Places_repr⟩,
  ⟨mA "Places" "members", "members", "Places.members", s_Places_members⟩,
  ⟨pG "Places" "start", "start", "Places.start", s_Places_start⟩,
  ⟨pG "Places" "period", "period", "Places.period", s_Places_period⟩,
  ⟨pG "Places" "below", "below", "Places.below", s_Places_below⟩,
  ⟨pG "Places" "rests", "rests", "Places.rests", s_Places_rests⟩]
def dsX : List DA := dsX0 ++ (dsX1)
def mksX : List Str := ["_law_right"]
abbrev RX : PySem.W.OpenRow := PySem.W.OpenLaw.row PySem.Challenge.rw_wovenplaces_k41_sets_are_refused
abbrev hkX : PySem.W.Hook := hookT mksX exX dsX
def obX (s : PySem.W.SharedT) : AlZ × Bool := obsTG mksX exX dsX (HandSHeadRun.getT s)
theorem obX_eq (s : PySem.W.SharedT) : obX s = hkX.obs s.abs := obsTG_eq (HandSHeadRun.getT_eq s)
def namesX1 : List PySem.Str := ["_wall", "WrongValue", "InvalidNumber", "NotPlaces", "MOST_MEMBER", "MOST_STEP", "is_integer", "is_within", "check_within", "is_count", "check_count", "full", "low", "tiled", "positions", "common_width", "primes_of", "least_width"]
def namesX2 : List PySem.Str := ["Places", "bits_below", "opposite", "frame", "check_places", "gathered", "numbers", "steps", "_law_deck", "_law_card", "_law_of", "_law_numbers", "_law_caught", "_law_value", "_law_due", "_law_is_due", "_law_right"]
def namesX : List PySem.Str := namesX1 ++ namesX2
end Wp

namespace Wp
open PySem PySem.Spec PyProof.Rows L2 Hx
/-- the run, in four looks -/
def RunP {α : Type} (f : World → PySem.W.SharedT → α) (v : World → α) (w : World) : Prop := ∀ os : OsState, (HandSHeadRun.endF (HandSHeadRun.stepQ (HandSHeadRun.denQ HandSHeadRun.tabQ) RX.prog w) 20000 RX.prog w os).map (f w) = some (v w)
theorem RunP.join3 {α β γ δ : Type} {l : World → PySem.W.SharedT → α} {q : World → PySem.W.SharedT → β} {d : World → PySem.W.SharedT → γ} {b : World → PySem.W.SharedT → δ} {x a : World → PySem.W.SharedT → Bool} {vl : World → α} {vq : World → β} {vd : World → γ} {vb : World → δ} {vx va : World → Bool} {w : World}
    (h1 : RunP (fun w s => (l w s, q w s)) (fun w => (vl w, vq w)) w) (h2 : RunP (fun w s => (x w s, d w s, b w s)) (fun w => (vx w, vd w, vb w)) w) (h3 : RunP a va w) :
    RunP (fun w s => (l w s, q w s, (((x w s && a w s), d w s), b w s))) (fun w => (vl w, vq w, (((vx w && va w), vd w), vb w))) w := fun os => by
  have h1 := h1 os
  have h2 := h2 os
  have h3 := h3 os
  revert h1 h2 h3
  cases HandSHeadRun.endF (HandSHeadRun.stepQ (HandSHeadRun.denQ HandSHeadRun.tabQ) RX.prog w) 20000 RX.prog w os with
  | none => exact fun h1 => nomatch h1
  | some s =>
    intro h1 h2 h3
    show some (l w s, q w s, (((x w s && a w s), d w s), b w s)) = some (vl w, vq w, (((vx w && va w), vd w), vb w))
    have e1 : (l w s, q w s) = (vl w, vq w) := Option.some.inj h1
    have e2 : (x w s, d w s, b w s) = (vx w, vd w, vb w) := Option.some.inj h2
    have e3 : a w s = va w := Option.some.inj h3
    obtain ⟨a1, a2⟩ := Prod.mk.inj e1
    obtain ⟨a3, a4⟩ := Prod.mk.inj e2
    obtain ⟨a4, a5⟩ := Prod.mk.inj a4
    rw [a1, a2, a3, a4, a5, e3]
abbrev kX (s : PySem.W.SharedT) : PySem.W.Frag := He.frG (HandSHeadRun.getT s) (asZ (HandSHeadRun.getT s))
theorem runP0 (w : World) : RunP (fun w s => (HandSHeadRun.looksF RX.prog (PySem.W.boot_heap w.params) s.abs, HandSHeadRun.seenQ (PySem.W.view RX.prog [41]) namesX (PySem.importedModules RX.prog.main.body) (fun s => PySem.W.xlAt (PySem.W.view RX.prog [41]) [] s && PySem.W.recOk RX.toRowW.records s) s.abs)) (fun _ => (true, PySem.W.openGood (PySem.W.view RX.prog [41]) namesX)) (w.withFollow "special-get-raises" false) := by
  intro os
  kernel_rfl
theorem runP1 (w : World) : RunP (fun w s => (HandSHeadRun.looksF RX.prog (PySem.W.boot_heap w.params) s.abs, HandSHeadRun.seenQ (PySem.W.view RX.prog [41]) namesX (PySem.importedModules RX.prog.main.body) (fun s => PySem.W.xlAt (PySem.W.view RX.prog [41]) [] s && PySem.W.recOk RX.toRowW.records s) s.abs)) (fun _ => (true, PySem.W.openGood (PySem.W.view RX.prog [41]) namesX)) (w.withFollow "special-get-raises" true) := by
  intro os
  kernel_rfl
theorem runE0 (w : World) : RunP (fun _ s => (exX (kX s), (obsZ exX dsX (kX s)).2, mksX.all fun x => tabZ x (kX s) (HandSHeadRun.getT s))) (fun _ => (true, dsX.map DA.val, true)) (w.withFollow "special-get-raises" false) := by
  intro os
  kernel_rfl
theorem runE1 (w : World) : RunP (fun _ s => (exX (kX s), (obsZ exX dsX (kX s)).2, mksX.all fun x => tabZ x (kX s) (HandSHeadRun.getT s))) (fun _ => (true, dsX.map DA.val, true)) (w.withFollow "special-get-raises" true) := by
  intro os
  kernel_rfl
theorem runA0 (w : World) : RunP (fun _ s => dsX.all fun d => d.ok (kX s)) (fun _ => true) (w.withFollow "special-get-raises" false) := by
  intro os
  kernel_rfl
theorem runA1 (w : World) : RunP (fun _ s => dsX.all fun d => d.ok (kX s)) (fun _ => true) (w.withFollow "special-get-raises" true) := by
  intro os
  kernel_rfl
theorem runX0 (w : World) (b : Bool) (h : RunP (fun w s => (HandSHeadRun.looksF RX.prog (PySem.W.boot_heap w.params) s.abs, HandSHeadRun.seenQ (PySem.W.view RX.prog [41]) namesX (PySem.importedModules RX.prog.main.body) (fun s => PySem.W.xlAt (PySem.W.view RX.prog [41]) [] s && PySem.W.recOk RX.toRowW.records s) s.abs, ((((exX (kX s) && dsX.all fun d => d.ok (kX s))), (obsZ exX dsX (kX s)).2), mksX.all fun x => tabZ x (kX s) (HandSHeadRun.getT s)))) (fun w => (true, PySem.W.openGood (PySem.W.view RX.prog [41]) namesX, (((true && true), dsX.map DA.val), true))) (w.withFollow "special-get-raises" b)) :
    HandSHeadRun.RunEq RX (PySem.W.view RX.prog [41]) hkX obX 20000 namesX (w.withFollow "special-get-raises" b) := fun os => h os
theorem runX (w : World) : HandSHeadRun.RunEq RX (PySem.W.view RX.prog [41]) hkX obX 20000 namesX w := by
  have h : ∀ b : Bool, HandSHeadRun.RunEq RX (PySem.W.view RX.prog [41]) hkX obX 20000 namesX (w.withFollow "special-get-raises" b) := fun b => match b with
    | false => runX0 w false (RunP.join3 (runP0 w) (runE0 w) (runA0 w))
    | true => runX0 w true (RunP.join3 (runP1 w) (runE1 w) (runA1 w))
  have h2 := h (w.params.followText "special-get-raises")
  rwa [World.withFollow_self] at h2
end Wp

/-! list(zip(range(n), g)), g a generator that raises at its first turn -/
namespace Zg
open PySem PySem.Spec PyProof.Rows L2
def rsz (k : Int) : Int := Builtin.Range.rangeSize 0 k 1
abbrev zg1 (h : Heap) (k : Int) : Heap := h.push { cls := .type "range_iterator", data := .fields #[rawInt 0, rawInt (Builtin.Range.rangeSize 0 k 1), rawInt 1] }
abbrev zg2 (h : Heap) (k : Int) (a : Addr) : Heap := (zg1 h k).push { cls := .type "tuple", data := .seq #[.ref h.objs.size, .ref a] }
abbrev zg3 (h : Heap) (k : Int) (a : Addr) : Heap := (zg2 h k a).push { cls := .type "tuple", data := .seq #[.none, .none] }
abbrev zg4 (h : Heap) (k : Int) (a : Addr) : Heap := (zg3 h k a).push { cls := .type "zip", data := .fields #[.none, .bool false, .bool false, .ref (zg1 h k).objs.size, .ref (zg2 h k a).objs.size] }
theorem meets_zipG {r a : Addr} {g : Nat} {k : Int} {t u v : Tok} (hk : Builtin.Range.small 0 k 1 = true) :
    Meets (Builtin.«zip.__new__» ⟨[.type "zip", .ref r, .ref a], []⟩) (fun _ R s => IsRange s.heap r 0 k 1 t u v ∧ s.heap.IsGen a g ∧
      R (.ok (.ret (.ref (zg3 s.heap k a).objs.size))) { s with heap := zg4 s.heap k a }) :=
  .of_wp fun prog w A R s h => by
    obtain ⟨hp, g, d, tk, os⟩ := s
    obtain ⟨hr, hg, h⟩ := h
    have hsub := sub_zip
    have hR : IsRange (Shared.heap ⟨hp, g, d, tk, os⟩) r 0 k 1 t u v := hr
    have hG : Heap.IsGen (Shared.heap ⟨zg1 hp k, g, d, tk, os⟩) a _ := hg.keeps fun b o e => Heap.get?_push_of_some _ e
    wp_walk using wpAny_pyIter_range hR hk, wpAny_pyIter_gen hG
    exact ⟨_, rfl, h⟩
section
variable {prog : Program} {w : World} {A : Around} {E : Value → Shared → Prop} {s : Shared}
theorem call_zipG {r a : Addr} {g : Nat} {k : Int} {t u v : Tok} {Q : Value → Shared → Prop} (hk : Builtin.Range.small 0 k 1 = true) (hr : IsRange s.heap r 0 k 1 t u v) (hg : s.heap.IsGen a g)
    (h : ∀ h', IsZip h' (s.heap.objs.size + 3) (s.heap.objs.size + 1) (s.heap.objs.size + 2) .none → IsPair h' (s.heap.objs.size + 1) (.ref s.heap.objs.size) (.ref a) →
      IsPair h' (s.heap.objs.size + 2) .none .none → IsRangeIter h' s.heap.objs.size 0 (Builtin.Range.rangeSize 0 k 1) 1 → h'.objs.size = s.heap.objs.size + 4 →
      (∀ c o, s.heap.get? c = some o → h'.get? c = some o) → Q (.ref (s.heap.objs.size + 3)) { s with heap := h' }) :
    wpAny (model prog w) A (call (.type "zip") [.ref r, .ref a]) Q E s := by
  refine callType_new F.called_zip (by decide) (F.typeCall_zip_2 _ _) (F.newCall_zip_2 _ _) (fun obj => F.args_object_init_3 obj _ _) F.entry_zip_new
    (meets_zipG hk) ⟨hr, hg, ?_⟩
  have z1 : (zg1 s.heap k).objs.size = s.heap.objs.size + 1 := Heap.size_push ..
  have z2 : (zg2 s.heap k a).objs.size = s.heap.objs.size + 2 := by rw [Heap.size_push, z1]
  have z3 : (zg3 s.heap k a).objs.size = s.heap.objs.size + 3 := by rw [Heap.size_push, z2]
  have z4 : (zg4 s.heap k a).objs.size = s.heap.objs.size + 4 := by rw [Heap.size_push, z3]
  have p4 : (zg4 s.heap k a).get? (zg3 s.heap k a).objs.size = some _ := Heap.get?_push_size _ rfl
  have p3 : (zg4 s.heap k a).get? (zg2 s.heap k a).objs.size = some _ := Heap.get?_push_of_some _ (Heap.get?_push_size _ rfl)
  have p2 : (zg4 s.heap k a).get? (zg1 s.heap k).objs.size = some _ := Heap.get?_push_of_some _ (Heap.get?_push_of_some _ (Heap.get?_push_size _ rfl))
  have p1 : (zg4 s.heap k a).get? s.heap.objs.size = some _ := Heap.get?_push_of_some _ (Heap.get?_push_of_some _ (Heap.get?_push_of_some _ (Heap.get?_push_size _ rfl)))
  show _ ∧ _
  rw [z1, z2, z3] at p4
  rw [z2] at p3
  rw [z1] at p2
  rw [z3]
  exact ⟨⟨_, p4, rfl⟩, h _ p4 p2 p3 p1 z4 fun c o x => Heap.get?_push_of_some _ (Heap.get?_push_of_some _ (Heap.get?_push_of_some _ (Heap.get?_push_of_some _ x)))⟩
open GenW
theorem nextOf_range_item {it : Addr} {x left step : Int} {Q : Value → Shared → Prop} (hit : IsRangeIter s.heap it x left step) (hleft : 0 < left)
    (hQ : ∀ h', Heap.SameBut it s.heap h' → Q (.int x s.toks) { s with heap := h', toks := s.toks + 1 }) : wpAny (model prog w) A (Builtin.SmallTypes.nextOf (.ref it)) Q E s := by
  have hT : s.TypeIs (.ref it) "range_iterator" := ⟨_, hit, rfl⟩
  unfold Builtin.SmallTypes.nextOf
  refine wpAny_bind (wpAny_callSpecial?_slot (name := Str.ofString "__next__") hT F.slot_range_iterator_next
    (call_meets F.slot_range_iterator_next hT F.entry_range_iterator_next (F.args_range_iterator_next_1 _) (AutoRange.range_iterator___next___range_iterator_1 it x left step (by omega)) ⟨hit, ?_⟩))
  exact wpAny_pure (hQ _ ((Heap.SameBut.update ..).trans (Heap.SameBut.update ..)))
theorem nextOf_range_end {it : Addr} {x left step : Int} {Q : Value → Shared → Prop} (hh : A.handled = none) (hit : IsRangeIter s.heap it x left step) (hleft : left ≤ 0)
    (hE : ∀ h' e, Heap.ExtBut it s.heap h' → (∃ o, h'.get? e = some o ∧ o.cls = .type "StopIteration") → E (.ref e) { s with heap := h' }) : wpAny (model prog w) A (Builtin.SmallTypes.nextOf (.ref it)) Q E s := by
  have hT : s.TypeIs (.ref it) "range_iterator" := ⟨_, hit, rfl⟩
  unfold Builtin.SmallTypes.nextOf
  refine wpAny_bind (wpAny_callSpecial?_slot (name := Str.ofString "__next__") hT F.slot_range_iterator_next
    (wpAny_call_entry F.slot_range_iterator_next hT F.entry_range_iterator_next ?_ (F.args_range_iterator_next_1 _)))
  show wpAny _ _ (field (.ref it) 0 >>= _) _ _ s
  refine wpAny_bind (wpAny_field hit rfl (x := rawInt x) rfl ?_)
  show wpAny _ _ (field (.ref it) 1 >>= _) _ _ s
  refine wpAny_bind (wpAny_field hit rfl (x := rawInt left) rfl ?_)
  show wpAny _ _ (field (.ref it) 2 >>= _) _ _ s
  refine wpAny_bind (wpAny_field hit rfl (x := rawInt step) rfl ?_)
  show wpAny _ _ (if left ≤ 0 then _ else _) _ _ s
  rw [if_pos hleft]
  refine wpAny_bind (wpAny_rule (wpAny_bind ?_))
  show wpAny _ _ (newExc (.type "StopIteration") [] >>= _) _ _ _
  refine wpAny_bind ?_
  simp only [newExc, newTuple]
  refine wpAny_bind (wpAny_newObj_type ?_ (by size_fits))
  refine wpAny_bind (m := firstArgMember _ _) (wpAny_of_eq (a := Value.none) (by first | rfl | (simp only [firstArgMember]; rfl)) ?_)
  refine wpAny_newObj_type ?_ (by size_fits)
  simp only [raiseNew]
  refine wpAny_bind (wpAny_handled ?_)
  first | rw [show A.in1.handled = none from hh] | rw [hh]
  refine wpAny_bind (wpAny_pure (wpAny_throw ?_))
  exact hE _ _ (((Heap.ExtBut.refl it s.heap).push _).push _) ⟨_, Heap.get?_push_size _ rfl, rfl⟩
/-- a generator that raises at its first turn -/
theorem nextOf_genR {a : Addr} {g : Nat} {c : Code} {Er : Value → Shared → Prop} {Q : Value → Shared → Prop} (hl : s.heap.NoLimit) (hroom : A.depth < recursionLimit) (hg : s.heap.IsGen a g) (hgs : s.gens[g]? = some (.fresh c))
    (wake : Seg (model prog w) A.in1 (fun _ _ r s1 => ∃ e, r = .error e ∧ Er e s1) (fun _ _ _ _ _ => False) 0 (s.setGen g .running) c ((model prog w).den c) [] (s.setGen g .running))
    (hE : ∀ e s₁, Er e s₁ → s₁.heap.IsGen a g ∧ NotStop (model prog w) e s₁.heap ∧ E e (s₁.setGen g .finished)) :
    wpAny (model prog w) A (Builtin.SmallTypes.nextOf (.ref a)) Q E s := by
  unfold Builtin.SmallTypes.nextOf
  refine wpAny_bind (wpAny_callSpecial?_slot (name := Str.ofString "__next__") hg.typeIs slot_gen_next (wpAny_call_entry slot_gen_next hg.typeIs entry_gen_next ?_ (args_gen_next _)))
  show wpAny _ A.in1 (Builtin.Generator.genWake (.ref a) (.send .none)) _ _ s
  unfold Builtin.Generator.genWake
  refine wpAny_bind (wpAny_holding (wpAny_genNumber hg (wpAny_bind (wpAny_genState hgs ?_))))
  refine wpAny_bind (wpAny_roomToWake hl hroom ?_)
  show wpAny _ A.in1 (.resume g (.send .none) [] _) _ _ s
  refine wpAny_resumeQ (n := 0) (R := fun _ _ r s1 => ∃ e, r = .error e ∧ Er e s1) (Y := fun _ _ _ _ _ => False) hgs ⟨rfl, wake⟩ (fun x s₁ hx => ?_) (fun v s₁ gs' hb hv => hv.elim)
  obtain ⟨e, rfl, he⟩ := hx
  obtain ⟨hg1, hns, hq⟩ := hE e s₁ he
  obtain ⟨o, nm, qn, ho, hc, hd, hsl⟩ := hg1
  show wpAny _ A.in1 (Builtin.Generator.genLeft (.ref a) e) _ _ _
  unfold Builtin.Generator.genLeft Builtin.Generator.madeByALambda
  refine wpAny_bind (wpAny_bind (wpAny_load (o := o) ho (wpAny_pure ?_)))
  refine wpAny_bind (hns _ _ _ _ rfl ?_)
  rw [Bool.and_false, if_neg Bool.false_ne_true]
  unfold Builtin.Generator.genEscaped
  first
    | refine wpAny_bind (hns _ _ _ _ rfl ?_)
    | refine wpAny_bind (wpAny_pure (wpAny_bind (hns _ _ _ _ rfl ?_)))
  rw [if_pos (show (!false) = true from rfl)]
  first
    | exact wpAny_throw hq
    | exact wpAny_bind (wpAny_throw hq)
theorem zipG_end {z TI TO it a : Addr} {x left : Int} {p q : Value} {Q : Option Value → Shared → Prop} (hh : A.handled = none) (nz : it ≠ z)
    (hz : IsZip s.heap z TI TO .none) (hTI : IsPair s.heap TI (.ref it) (.ref a)) (hTO : IsPair s.heap TO p q) (hit : IsRangeIter s.heap it x left 1) (hleft : left ≤ 0)
    (hQ : ∀ h', (∀ c o, c ≠ z → c ≠ it → s.heap.get? c = some o → h'.get? c = some o) → Q none { s with heap := h' }) : wpAny (model prog w) A (pyNext (.ref z)) Q E s := by
  have hT : s.TypeIs (.ref z) "zip" := ⟨_, hz, rfl⟩
  unfold pyNext
  refine wpAny_bind (wpAny_attempt (wpAny_callSpecial?_slot (name := Str.ofString "__next__") hT F.slot_zip_next
    (wpAny_call_entry F.slot_zip_next hT F.entry_zip_next ?_ (F.args_zip_next_1 _))))
  show wpAny _ _ (field (.ref z) 2 >>= _) _ _ _
  refine wpAny_bind (wpAny_field hz rfl (x := .bool false) rfl ?_)
  show wpAny _ _ (field (.ref z) 3 >>= _) _ _ _
  refine wpAny_bind (wpAny_field hz rfl (x := .ref TI) rfl ?_)
  refine wpAny_bind (wpAny_seqItems hTI rfl ?_)
  show wpAny _ _ (Builtin.SmallTypes.ownedTupleIsFree (.ref z) >>= _) _ _ _
  refine wpAny_bind ?_
  unfold Builtin.SmallTypes.ownedTupleIsFree
  refine wpAny_bind (wpAny_field hz rfl (x := .none) rfl (wpAny_pure ?_))
  simp only [if_true]
  refine wpAny_bind (wpAny_rule ?_)
  refine wpAny_bind (wpAny_field hz rfl (x := .ref TO) rfl ?_)
  refine wpAny_bind (wpAny_setField_rec hz (by simp) fun h₁ hz₁ hs₁ => ?_)
  replace hz₁ : IsZip h₁ z TI TO .ellipsis := hz₁
  refine wpAny_bind ?_
  simp only [List.zipIdx_cons, List.zipIdx_nil, List.forIn_cons, List.forIn_nil]
  refine wpAny_bind (wpAny_bind (wpAny_onRaise ?_))
  show wpAny _ _ (Builtin.SmallTypes.nextOf (.ref it) >>= _) _ _ _
  have hit₁ : IsRangeIter h₁ it x left 1 := hs₁.extBut _ _ nz hit
  refine wpAny_bind (nextOf_range_end (s := { s with heap := h₁ }) hh hit₁ hleft fun h₂ e hs₂ he => ?_)
  obtain ⟨oe, hoe, hce⟩ := he
  have hz₂ : IsZip h₂ z TI TO .ellipsis := hs₂ _ _ (Ne.symm nz) hz₁
  have hez : e ≠ z := fun y => by subst y; rw [hz₂] at hoe; cases hoe; simp at hce
  refine wpAny_setField_rec hz₂ (by simp) fun h₃ _ hs₃ => ?_
  refine wpAny_bind (wpAny_isInstance (T := "StopIteration") (b := true) ⟨oe, hs₃.extBut _ _ hez hoe, hce⟩ isSubtype_stop ?_)
  exact wpAny_pure (hQ h₃ fun c o c1 c2 y => hs₃.extBut _ _ c1 (hs₂ _ _ c2 (hs₁.extBut _ _ c1 y)))
theorem zipG_raise {z TI TO it a : Addr} {g : Nat} {c : Code} {x left : Int} {p q : Value} {Er : Value → Shared → Prop} {Q : Option Value → Shared → Prop} (hl : ∀ h' : Heap, (∀ c o, c ≠ z → c ≠ it → c ≠ TO → s.heap.get? c = some o → h'.get? c = some o) → h'.NoLimit) (hroom : A.depth < recursionLimit)
    (nz : it ≠ z) (nTO : TO ≠ z) (nTOi : TO ≠ it) (az : a ≠ z) (ai : a ≠ it) (aTO : a ≠ TO)
    (hz : IsZip s.heap z TI TO .none) (hTI : IsPair s.heap TI (.ref it) (.ref a)) (hTO : IsPair s.heap TO p q) (hit : IsRangeIter s.heap it x left 1) (hleft : 0 < left) (hg : s.heap.IsGen a g) (hgs : s.gens[g]? = some (.fresh c))
    (wake : ∀ (h' : Heap) tk, (∀ c o, c ≠ z → c ≠ it → c ≠ TO → s.heap.get? c = some o → h'.get? c = some o) → IsZip h' z TI TO .ellipsis → 
      Seg (model prog w) A.in1.in1 (fun _ _ r s1 => ∃ e, r = .error e ∧ Er e s1) (fun _ _ _ _ _ => False) 0 (({ s with heap := h', toks := tk } : Shared).setGen g .running) c ((model prog w).den c) [] (({ s with heap := h', toks := tk } : Shared).setGen g .running))
    (hE : ∀ e s₁, Er e s₁ → s₁.heap.IsGen a g ∧ NotStop (model prog w) e s₁.heap ∧ IsZip s₁.heap z TI TO .ellipsis ∧ ∀ h'' : Heap, IsZip h'' z TI TO .none → Heap.SameBut z s₁.heap h'' → NotStop (model prog w) e h'' ∧ E e { s₁.setGen g .finished with heap := h'' }) :
    wpAny (model prog w) A (pyNext (.ref z)) Q E s := by
  have hT : s.TypeIs (.ref z) "zip" := ⟨_, hz, rfl⟩
  unfold pyNext
  refine wpAny_bind (wpAny_attempt (wpAny_callSpecial?_slot (name := Str.ofString "__next__") hT F.slot_zip_next
    (wpAny_call_entry F.slot_zip_next hT F.entry_zip_next ?_ (F.args_zip_next_1 _))))
  show wpAny _ _ (field (.ref z) 2 >>= _) _ _ _
  refine wpAny_bind (wpAny_field hz rfl (x := .bool false) rfl ?_)
  show wpAny _ _ (field (.ref z) 3 >>= _) _ _ _
  refine wpAny_bind (wpAny_field hz rfl (x := .ref TI) rfl ?_)
  refine wpAny_bind (wpAny_seqItems hTI rfl ?_)
  show wpAny _ _ (Builtin.SmallTypes.ownedTupleIsFree (.ref z) >>= _) _ _ _
  refine wpAny_bind ?_
  unfold Builtin.SmallTypes.ownedTupleIsFree
  refine wpAny_bind (wpAny_field hz rfl (x := .none) rfl (wpAny_pure ?_))
  simp only [if_true]
  refine wpAny_bind (wpAny_rule ?_)
  refine wpAny_bind (wpAny_field hz rfl (x := .ref TO) rfl ?_)
  refine wpAny_bind (wpAny_setField_rec hz (by simp) fun h₁ hz₁ hs₁ => ?_)
  replace hz₁ : IsZip h₁ z TI TO .ellipsis := hz₁
  refine wpAny_bind ?_
  simp only [List.zipIdx_cons, List.zipIdx_nil, List.forIn_cons, List.forIn_nil]
  refine wpAny_bind (wpAny_bind (wpAny_onRaise ?_))
  show wpAny _ _ (Builtin.SmallTypes.nextOf (.ref it) >>= _) _ _ _
  have hit₁ : IsRangeIter h₁ it x left 1 := hs₁.extBut _ _ nz hit
  refine wpAny_bind (nextOf_range_item (s := { s with heap := h₁ }) hit₁ hleft fun h₂ hs₂ => wpAny_pure ?_)
  have hTO₂ : IsPair h₂ TO p q := hs₂.extBut _ _ nTOi (hs₁.extBut _ _ nTO hTO)
  refine wpAny_bind (wpAny_seqItems hTO₂ rfl ?_)
  refine wpAny_bind (wpAny_updateSeq_pair hTO₂ fun h₃ hTO₃ hs₃ => ?_)
  refine wpAny_bind (wpAny_letGo (wpAny_pure ?_))
  have k3 : ∀ c o, c ≠ z → c ≠ it → c ≠ TO → s.heap.get? c = some o → h₃.get? c = some o := fun c o c1 c2 c3 y => hs₃.extBut _ _ c3 (hs₂.extBut _ _ c2 (hs₁.extBut _ _ c1 y))
  have hz₃ : IsZip h₃ z TI TO .ellipsis := hs₃.extBut _ _ (Ne.symm nTO) (hs₂.extBut _ _ (Ne.symm nz) hz₁)
  have hg₃ : h₃.IsGen a g := by
    obtain ⟨o, nm, qn, ho, r⟩ := hg
    exact ⟨o, nm, qn, k3 a o az ai aTO ho, r⟩
  refine wpAny_bind (wpAny_bind (wpAny_onRaise ?_))
  show wpAny _ _ (Builtin.SmallTypes.nextOf (.ref a) >>= _) _ _ _
  refine wpAny_bind (nextOf_genR (s := { s with heap := h₃, toks := s.toks + 1 }) (hl h₃ k3) hroom hg₃ hgs (wake h₃ _ k3 hz₃) fun e s₁ he => ?_)
  obtain ⟨e1, e2, e3, e4⟩ := hE e s₁ he
  refine ⟨e1, e2, ?_⟩
  refine wpAny_setField_rec (s := s₁.setGen g .finished) e3 (by simp) fun h₄ hz₄ hs₄ => ?_
  obtain ⟨n1, n2⟩ := e4 h₄ hz₄ hs₄
  refine wpAny_bind (n1 _ _ _ _ rfl ?_)
  rw [if_neg Bool.false_ne_true]
  exact wpAny_throw n2
theorem zip_no_len : typeLookup (.type "zip") "__len__" = pure none := by rw [typeLookup_type, builtinLookup_eq_fast]; kernel_rfl
theorem zip_no_hint : typeLookup (.type "zip") "__length_hint__" = pure none := by rw [typeLookup_type, builtinLookup_eq_fast]; kernel_rfl
/-- list(z): up to its first turn -/
theorem call_list_zip {z TI TO : Addr} {Q : Value → Shared → Prop} (hz : IsZip s.heap z TI TO .none)
    (next : ∀ h', (∀ b o, s.heap.get? b = some o → h'.get? b = some o) → (∃ c, h'.get? s.heap.objs.size = some (lstObj #[] c)) →
      wpAny (model prog w) A.in1.in1 (pyNext (.ref z)) (fun v s' => v = none ∧ (∀ r : Value, r = .ref s.heap.objs.size → Q r s')) E { s with heap := h' }) :
    wpAny (model prog w) A (call (.type "list") [.ref z]) Q E s := by
  have hlt := Heap.lt_size hz
  have hSa : s.heap.objs.size ≠ z := Nat.ne_of_gt hlt
  refine callType_codes (Q₁ := fun obj s₁ => obj = .ref s.heap.objs.size ∧ s₁ = { s with heap := s.heap.push { cls := .type "list", data := .seq #[] } }) F.called_list (F.typeCall_list_1 _) F.entry_list_init
    (code_list_new _ ⟨rfl, rfl⟩) fun obj s₁ h₁ => ?_
  obtain ⟨rfl, rfl⟩ := h₁
  have hS : (s.heap.push { cls := .type "list", data := .seq #[] }).get? s.heap.objs.size = some { cls := .type "list", data := .seq #[] } := Heap.get?_push_size _ rfl
  refine ⟨⟨_, hS, rfl⟩, F.args_list_init_2 _ _, ?_⟩
  show wpAny _ A.in1.in1 (do let old ← Builtin.List.listItems (.ref s.heap.objs.size); Builtin.List.listUpdate (.ref s.heap.objs.size) (fun _ => #[]); letGo old.toList.reverse; Builtin.List.listExtendWith (.ref s.heap.objs.size) (.ref z) .none) _ _ _
  refine wpAny_bind ?_
  unfold Builtin.List.listItems
  refine wpAny_bind (wpAny_seqItems hS rfl (wpAny_pure ?_))
  show wpAny _ A.in1.in1 (updateSeq s.heap.objs.size (fun _ => #[]) >>= fun _ => letGo (#[] : Array Value).toList.reverse >>= fun _ => Builtin.List.listExtendWith (.ref s.heap.objs.size) (.ref z) .none) _ _ _
  refine wpAny_bind (wpAny_updateSeq hS rfl ?_)
  have hS2 := Heap.get?_update_self (Obj.mapSeq (fun _ => (#[] : Array Value))) hS rfl
  refine wpAny_bind (wpAny_letGo ?_)
  unfold Builtin.List.listExtendWith
  have up : ∀ (h : Heap) (f : Obj → Obj), (∀ b o, s.heap.get? b = some o → h.get? b = some o) → ∀ b o, s.heap.get? b = some o → (h.update s.heap.objs.size f).get? b = some o := fun h f q b o e =>
    (Heap.get?_update_other _ _ (Ne.symm (Nat.ne_of_lt (Heap.lt_size e)))).trans (q b o e)
  have k1 : ∀ b o, s.heap.get? b = some o → (s.heap.push { cls := .type "list", data := .seq #[] }).get? b = some o := fun b o e => Heap.get?_push_of_some _ e
  have k2 := up _ (Obj.mapSeq (fun _ => (#[] : Array Value))) k1
  have zt : ∀ {h : Heap}, (∀ b o, s.heap.get? b = some o → h.get? b = some o) → Shared.TypeIs { s with heap := h } (.ref z) "zip" := fun {h} q => ⟨_, q _ _ hz, rfl⟩
  refine wpAny_bind (wpAny_typeOf (zt k2) ?_)
  have h1 : Builtin.List.listSameRef (.ref s.heap.objs.size) (.ref z) = false := by simp [Builtin.List.listSameRef, hSa]
  have h2 : (Value.type "zip" == Value.type "list") = false := by decide
  have h3 : (Value.type "zip" == Value.type "tuple") = false := by decide
  simp only [h1, h2, h3, Bool.or_false, Bool.false_eq_true, if_false]
  refine wpAny_bind (wpAny_pyIter_zip (s := { s with heap := _ }) (k2 _ _ hz) ?_)
  refine wpAny_bind (wpAny_holding ?_)
  unfold Builtin.List.listLengthHint
  refine wpAny_bind (wpAny_specialOf (zt k2) zip_no_len ?_)
  show wpAny _ A.in1.in1 (specialOf (Value.ref z) (Str.ofString "__length_hint__") >>= _) _ _ _
  refine wpAny_bind (wpAny_specialOf (zt k2) zip_no_hint ?_)
  refine wpAny_pure ?_
  show wpAny _ A.in1.in1 (rule "list.extend.makes-room" >>= fun _ => Builtin.List.listTouch (.ref s.heap.objs.size) >>= fun _ =>
    again (.builtin "list.extend.loop" ⟨[.ref s.heap.objs.size, .ref z, .none], []⟩)) _ _ _
  refine wpAny_bind (wpAny_rule ?_)
  refine wpAny_bind ?_
  show wpAny _ A.in1.in1 (updateSeq s.heap.objs.size (·.push .none) >>= fun _ => updateSeq s.heap.objs.size (·.pop)) _ _ _
  refine wpAny_bind (wpAny_updateSeq hS2 rfl ?_)
  have hS3 := Heap.get?_update_self (Obj.mapSeq (·.push Value.none)) hS2 rfl
  refine wpAny_updateSeq (hz := by seq_fits) hS3 rfl ?_
  have hS4 := Heap.get?_update_self (Obj.mapSeq (·.pop)) hS3 rfl
  have k4 := up _ (Obj.mapSeq (·.pop)) (up _ (Obj.mapSeq (·.push Value.none)) k2)
  refine wpAny_pure ⟨plainId_quiet F.plain_extend_loop _, ?_⟩
  refine codeAny_builtin F.entry_extend_loop ?_
  rw [Around.under_plainId F.plain_extend_loop _]
  show wpAny _ A.in1.in1 (pyNext (.ref z) >>= _) _ _ _
  refine wpAny_bind (wpAny_mono (next _ k4 ⟨_, hS4⟩) (fun v s' hv => ?_) fun e s' he => he)
  obtain ⟨rfl, hq⟩ := hv
  exact wpAny_pure ⟨rfl, hq _ rfl⟩
end
end Zg

/-! own exception classes made with keywords -/
namespace PySem
namespace EK
open PySem.W PySem.Calls PyProof.Rows PySem.PX
section
variable {M : Model} {A : Around} {E : Value → Shared → Prop} {h : Heap} {g : Array GenState} {d : Drawn} {t : Nat} {os : OsState}
variable {nm q : Str} {C N : Addr} {bs bm bmB : List Value} {hdct : Bool} {sn : List Str} {sub : List Value} {ab : Bool} {col : Option Bool}
  {dd : Option Addr} {k0 k1 k2 k3 k5 : Option Value} {B newId initId : String} {kw : List (Str × Value)} {us : List Value}
theorem look_new (F : ExcBaseFacts B newId initId bmB) (same : ∀ X : String, bm.contains (.type X) = bmB.contains (.type X)) {Q : Unit → Shared → Prop}
    (hC : h.get? C = some (excClassObj nm q C N bs bm hdct sn sub ab col dd k0 k1 k2 k3 k5 newId)) (hq : Q () ⟨h, g, d, t, os⟩) :
    wpAny M A (checkBuiltinCall newId ⟨.ref C :: us, kw⟩) Q E ⟨h, g, d, t, os⟩ := by
  have inB : (Value.ref C :: bm).contains (.type B) = true := by
    rw [List.contains_cons, same, F.hasB, Bool.or_true]
  have star := F.noStar
  simp only [checkBuiltinCall, F.newKind, F.newSplit, F.newRow]
  repeat (first
    | refine wpAny_loadPart_at hC ?_
    | (refine wpAny_isSubtype_exc hC ?_; rw [inB])
    | refine wpAny_staticBase_exc hC ?_
    | refine wpAny_madeBy_exc hC ?_
    | simp only [bne_self_eq_false, Bool.false_eq_true, if_false]
    | wp_step)
  exact hq
end
section
variable {prog : Program} {w : World} {A : Around} {E : Value → Shared → Prop} {R : Result → Shared → Prop} {h : Heap} {g : Array GenState} {d : Drawn} {t : Nat} {os : OsState}
variable {nm q : Str} {C N : Addr} {bs bm bmB : List Value} {hdct : Bool} {sn : List Str} {sub : List Value} {ab : Bool} {col : Option Bool}
  {dd : Option Addr} {k0 k1 k2 k3 k5 : Option Value} {B newId initId : String} {kw : List (Str × Value)} {us : List Value} {fI : Addr}
/-- the heap behind the making -/
abbrev madeHeap (h : Heap) (C : Addr) (us : List Value) : Heap := (h.push (kdv_tup us)).push (excO C h.objs.size)
theorem made_keep (b : Addr) (o : Obj) (e : h.get? b = some o) : (madeHeap h C us).get? b = some o :=
  Heap.get?_push_of_some _ (Heap.get?_push_of_some _ e)
theorem made_at : (madeHeap h C us).get? (h.objs.size + 1) = some (excO C h.objs.size) := by heap_get
theorem run_new (F : ExcBaseFacts B newId initId bmB) (same : ∀ X : String, bm.contains (.type X) = bmB.contains (.type X))
    (hC : h.get? C = some (excClassObj nm q C N bs bm hdct sn sub ab col dd k0 k1 k2 k3 k5 newId)) (small : us.length ≤ sizeLine)
    (hq : R (.ok (.ret (.ref (h.objs.size + 1)))) ⟨madeHeap h C us, g, d, t, os⟩) :
    codeAny (model prog w) A (.builtin newId ⟨.ref C :: us, kw⟩) R ⟨h, g, d, t, os⟩ := by
  have ends := F.ends
  have inB : (Value.ref C :: bm).contains (.type B) = true := by
    rw [List.contains_cons, same, F.hasB, Bool.or_true]
  have noA : (Value.ref C :: bm).contains (.type "AttributeError") = false := by
    rw [List.contains_cons, same, F.noAttr]
    rfl
  have noN : (Value.ref C :: bm).contains (.type "NameError") = false := by
    rw [List.contains_cons, same, F.noName]
    rfl
  refine codeAny_builtinAt F.entry ?_
  unfold Builtin.«BaseException.__new__»
  refine wpAt_bind ?_
  show wpAt _ _ _ (stack >>= _) _ _ _
  refine wpAt_bind (wpAt_stack fun p under => wpAt_of_wpAny ?_)
  wp_walk
  refine wpAt_of_wpAny ?_
  rw [F.owner]
  repeat (first
    | with_reducible refine wpAny_madeHere_exc F.canon hC ?_
    | with_reducible refine wpAny_loadPart_at hC ?_
    | (with_reducible refine wpAny_isSubtype_exc hC ?_
       first | rw [inB] | rw [noA] | rw [noN])
    | wp_step)
  show R _ _
  rw [Heap.size_push]
  exact hq
theorem run_type (F : ExcBaseFacts B newId initId bmB) (same : ∀ X : String, bm.contains (.type X) = bmB.contains (.type X))
    (hC : h.get? C = some (excClassObj nm q C N bs bm hdct sn sub ab col dd k0 k1 k2 k3 k5 newId)) {Q : Fin → Shared → Prop}
    (li : Looks (model prog w) h (typeLookup (.ref C) "__init__") (some (.ref fI)))
    (lb : ∀ self, Looks (model prog w) h (bindSpecial (.ref fI) self) (.ref fI, [self])) (small : us.length ≤ sizeLine)
    (hq : codeAny (model prog w) A (.call (.ref fI) ⟨.ref (h.objs.size + 1) :: us, kw⟩)
      (fun r s' => match r with
        | .ok (.ret v) => v = .none ∧ Q (.done (.ret (.ref (h.objs.size + 1)))) s'
        | .ok _ => False
        | .error e => E e s') ⟨madeHeap h C us, g, d, t, os⟩) :
    wpAny (model prog w) A (Builtin.«type.__call__» ⟨.ref C :: us, kw⟩) Q E ⟨h, g, d, t, os⟩ := by
  repeat (first
    | with_reducible refine wpAny_loadPart_at hC ?_
    | with_reducible refine wpAny_madeBy_exc hC ?_
    | wp_step)
  refine codeAny_call_builtin_code (Code.quiet_builtin _ F.quiet) (look_new F same hC ?_)
  refine run_new F same hC small ?_
  show wpAny _ _ _ _ _ _
  have hC1 := made_keep (C := C) (us := us) _ _ hC
  have own : (Value.ref C :: bm).contains (.ref C) = true := by simp
  have li1 := li.keeps (made_keep (C := C) (us := us))
  have lb1 := (lb (.ref (h.objs.size + 1))).keeps (made_keep (C := C) (us := us))
  unfold isInstance
  repeat (first
    | with_reducible refine wpAny_loadPart_at made_at ?_
    | (with_reducible refine wpAny_isSubtype_exc hC1 ?_
       rw [own])
    | wp_step)
  show wpAny _ _ (typeLookup (.ref C) _) _ _ _
  refine li1.at ?_
  refine wpAny_holding (wpAny_bind (lb1.at ?_))
  refine wpAny_bind (wpAny_call (codeAny_mono hq ?_))
  intro r s' z
  cases r with
  | error e => exact z
  | ok fl =>
    cases fl with
    | ret v =>
      obtain ⟨rfl, z⟩ := z
      first
        | exact wpAny_pure (wpAny_pure z)
        | (wp_walk; exact z)
    | next => exact z.elim
    | brk => exact z.elim
    | cont => exact z.elim
end
section
variable {prog : Program} {w : World} {A : Around} {E : Value → Shared → Prop} {R : Result → Shared → Prop} {h : Heap} {g : Array GenState} {d : Drawn} {t : Nat} {os : OsState}
variable {nm q : Str} {C N : Addr} {bs bm bmB : List Value} {hdct : Bool} {sn : List Str} {sub : List Value} {ab : Bool} {col : Option Bool}
  {dd : Option Addr} {k0 k1 k2 k3 k5 : Option Value} {B newId initId : String} {kw : List (Str × Value)} {us : List Value} {fI : Addr}
theorem look_type {M : Model} {Q : Unit → Shared → Prop} (hC : h.get? C = some (excClassObj nm q C N bs bm hdct sn sub ab col dd k0 k1 k2 k3 k5 newId))
    (hq : Q () ⟨h, g, d, t, os⟩) : wpAny M A (checkBuiltinCall "type.__call__" ⟨.ref C :: us, kw⟩) Q E ⟨h, g, d, t, os⟩ := by
  have f0 := tc_sub
  have ofType : (⟨h, g, d, t, os⟩ : Shared).TypeIs (.ref C) "type" := ⟨_, hC, rfl⟩
  simp only [checkBuiltinCall, tc_kind, tc_split]
  repeat (any_goals (first
    | assumption
    | with_reducible refine wpAny_loadPart_at hC ?_
    | with_reducible refine wpAny_onRaise ?_
    | with_reducible refine wpAny_map ?_
    | wp_step))
/-- C(us, kw): the object is laid, then __init__ -/
theorem run_call (F : ExcBaseFacts B newId initId bmB) (same : ∀ X : String, bm.contains (.type X) = bmB.contains (.type X))
    (hC : h.get? C = some (excClassObj nm q C N bs bm hdct sn sub ab col dd k0 k1 k2 k3 k5 newId))
    (li : Looks (model prog w) h (typeLookup (.ref C) "__init__") (some (.ref fI)))
    (lb : ∀ self, Looks (model prog w) h (bindSpecial (.ref fI) self) (.ref fI, [self])) (small : us.length ≤ sizeLine)
    (hq : codeAny (model prog w) (A.under (.builtin "type.__call__" ⟨.ref C :: us, kw⟩)) (.call (.ref fI) ⟨.ref (h.objs.size + 1) :: us, kw⟩)
      (InitBack (h.objs.size + 1) R) ⟨madeHeap h C us, g, d, t, os⟩) :
    codeAny (model prog w) A (.call (.ref C) ⟨us, kw⟩) R ⟨h, g, d, t, os⟩ := by
  have f1 := tc_lookup
  have f2 := tc_bind (.ref C)
  have ofType : (⟨h, g, d, t, os⟩ : Shared).TypeIs (.ref C) "type" := ⟨_, hC, rfl⟩
  refine codeAny_of_tree ?_
  show wpAny _ _ (callAny (.ref C) _) _ _ _
  repeat (any_goals (first
    | assumption
    | with_reducible refine wpAny_loadPart_at hC ?_
    | wp_step))
  refine ⟨rfl, ?_⟩
  refine codeAny_call_builtin_at (Code.quiet_builtin _ (by decide +kernel)) entry_typeCall (look_type hC ?_)
  refine run_type F same hC li lb small (codeAny_mono hq ?_)
  intro r s' z
  rcases r with e | (v | _ | _ | _) <;> exact z
end
/-! storing into an exception -/
section
open Builtin Builtin.ObjectAttr
variable {prog : Program} {w : World} {A : Around} {R : Result → Shared → Prop} {hp : Heap} {g : Array GenState} {d : Drawn} {t : Nat} {os : OsState}
  {K : Frag} {C x : Addr} {B : String} {bmB : List Value} {name : Str} {tk : Tok} {v : Value} {fv : Array Value}
theorem first_field (SF : StoreFacts B bmB "object.__setattr__" "object") (X : K.In hp) (hx : hp.get? x = some { cls := .ref C, data := .fields fv })
    (over : excOver K C bmB = true) (free : takerIn K C name = some none) (dct : hasDictIn K C = true)
    (hq : ∀ h' tk' dx, (∀ b o, b ≠ x → hp.get? b = some o → h'.get? b = some o) → hp.objs.size ≤ dx → dx ≠ x →
      h'.get? x = some { cls := .ref C, dict := some dx, data := .fields fv } → h'.Ns1 dx (fun y => if y = name then some v else none) →
      R (.ok (.ret .none)) ⟨h', g, d, tk', os⟩) :
    codeAny (model prog w) A (.call (.builtin "object.__setattr__") ⟨[.ref x, .str name tk, v], []⟩) R ⟨hp, g, d, t, os⟩ := by
  have I : InstAt hp x { cls := .ref C, data := .fields fv } C none := ⟨hx, rfl, rfl, trivial⟩
  refine osa_openX (s := ⟨hp, g, d, t, os⟩) SF X I over free fun b => ?_
  show wpAny _ _ (storeInOwnDict (.ref x) (.ref C) (.str name tk) name v b) _ _ _
  obtain ⟨cd, hcd, hd⟩ := any_some dct
  have lc : Looks (model prog w) hp (classData C) cd := looks_clsIn X hcd
  obtain ⟨nm, bs, mro, ns, qn, hdd, sn, sb, ab, col, del⟩ := cd
  dsimp only at hd
  subst hd
  have apart : x ≠ hp.objs.size := Nat.ne_of_lt (Heap.lt_size hx)
  unfold storeInOwnDict ownDictForStores
  repeat (first
    | with_reducible refine PX.store_in_new ?_ ?_
    | with_reducible refine wpAny_loadPart_at hx ?_
    | with_reducible refine lc.at ?_
    | wp_step)
  · exact ⟨_, #[], _, (Heap.get?_update_ne _ _ _ _ apart.symm).trans (Heap.get?_push_at rfl rfl), rfl, fun e he => absurd he (by simp), fun _ => rfl⟩
  · intro h' tk' hn' but
    have hx1 : (hp.push { cls := .type "dict", data := .dict #[] }).get? x = some { cls := .ref C, data := .fields fv } := Heap.get?_push_of_some _ hx
    refine hq h' tk' hp.objs.size ?_ (Nat.le_refl _) apart.symm ?_ hn'
    · intro b o hb ho
      have z := but.2 b (Nat.ne_of_lt (Heap.lt_size ho))
      rw [z, Heap.get?_update_ne _ _ _ _ hb]
      exact Heap.get?_push_of_some _ ho
    · rw [but.2 x apart]
      exact Heap.get?_update_self _ hx1 rfl
theorem next_field (SF : StoreFacts B bmB "object.__setattr__" "object") (X : K.In hp) {dx : Addr} {m0 : Str → Option Value} {nl : List Str}
    (hx : hp.get? x = some { cls := .ref C, dict := some dx, data := .fields fv }) (hn : hp.Ns1 dx m0) (within : Within m0 nl) (few : nl.length ≤ 1000)
    (over : excOver K C bmB = true) (free : takerIn K C name = some none) (dct : hasDictIn K C = true)
    (hq : ∀ h' tk', (∀ b o, b ≠ dx → hp.get? b = some o → h'.get? b = some o) → h'.Ns1 dx (fun y => if y = name then some v else m0 y) →
      R (.ok (.ret .none)) ⟨h', g, d, tk', os⟩) :
    codeAny (model prog w) A (.call (.builtin "object.__setattr__") ⟨[.ref x, .str name tk, v], []⟩) R ⟨hp, g, d, t, os⟩ := by
  obtain ⟨oD, _, _, hoD, _, _⟩ := hn.count within
  have I : InstAt hp x { cls := .ref C, dict := some dx, data := .fields fv } C (some oD) := ⟨hx, rfl, rfl, hoD⟩
  refine osa_openX (s := ⟨hp, g, d, t, os⟩) SF X I over free fun b => ?_
  show wpAny _ _ (storeInOwnDict (.ref x) (.ref C) (.str name tk) name v b) _ _ _
  obtain ⟨cd, hcd, hd⟩ := any_some dct
  have lc : Looks (model prog w) hp (classData C) cd := looks_clsIn X hcd
  obtain ⟨nm, bs, mro, ns, qn, hdd, sn, sb, ab, col, del⟩ := cd
  dsimp only at hd
  subst hd
  unfold storeInOwnDict ownDictForStores
  repeat (first
    | with_reducible refine PX.store_in_old hn within few ?_
    | with_reducible refine wpAny_loadPart_at hx ?_
    | with_reducible refine lc.at ?_
    | wp_step)
  intro h' tk' hn' but
  exact hq h' tk' (fun b o hb ho => (but.2 b hb).trans ho) hn'
end
end EK
end PySem

namespace Hx
open PySem PySem.Spec PyProof.Rows L2
/-- what the written part says of an own exception class at C, over the built-in B -/
structure ExK (K : PySem.W.Frag) (C : Addr) (B newId initId : String) (bmB : List Value) : Prop where
  facts : ExcBaseFacts B newId initId bmB
  store : StoreFacts B bmB "object.__setattr__" "object"
  made : PySem.W.excInitIn K C bmB newId = true
  over : PySem.W.excOver K C bmB = true
  dct : PySem.W.hasDictIn K C = true
  sa : PySem.W.findIn K (.ref C) "__setattr__" = some (some (.builtin "object.__setattr__"))
  ga : PySem.W.findIn K (.ref C) "__getattribute__" = some (some (.builtin "BaseException.__getattribute__"))
  gt : PySem.W.findIn K (.ref C) "__getattr__" = some none
  sub : PySem.W.subIn K (.ref C) (.type "BaseException") = some true
  keep : PySem.W.keepIn K (.ref C) = true
  cl : PySem.W.findIn K (.ref C) "__class__" = some (some (.builtin "object.__class__"))
  gg : PySem.W.specialIn K (.builtin "object.__class__") "__get__" = some (some (.builtin "getset_descriptor.__get__"))
  tk : PySem.W.takesIn K (.builtin "object.__class__") = some true
  mo : PySem.W.mroIn K C (.type "object") = some true
section
variable {X : Cx} {pins : List (Addr × Obj)} {σ : L2.St} {H : Hp} {s : Shared} {a C dx : Addr} {f : Str} {y : V} {u : Value} {fs : List (Str × V)}
  {B newId initId : String} {bmB : List Value} {A : Around} {E : Value → Shared → Prop}
/-- self.f = y, the first field: the exception gets its dict -/
theorem put_first {Q : Unit → Shared → Prop} (T : ExK X.K C B newId initId bmB) (I : Inv X pins σ H s) (e : H a = some (exo a C none))
    (free : PySem.W.takerIn X.K C f = some none) (ry : RelV y u)
    (h : ∀ dx s', H dx = none → dx ≠ a → Inv X pins σ (upd (upd H dx (exd dx [(f, y)])) a (exo a C (some dx))) s' → Q () s') :
    wpAny (model X.prog X.w) A (setAttr (.ref a) f u) Q E s := by
  obtain ⟨t1, ho⟩ := exo_at I.hok e
  obtain ⟨hp, g, d, t, os⟩ := s
  refine PySem.W.set_plain I.kIn (ox := { cls := .ref C, dict := none, data := .fields #[.ref t1, .none, .none, .none, .bool false, .none] }) (od := none) ⟨ho, rfl, rfl, trivial⟩ T.sa ?_
  refine PySem.EK.first_field T.store I.kIn ho T.over free T.dct ?_
  intro h' tk' dx keeps new apart at_a ns
  have n0 : H dx = none := I.hok.fresh new
  have old : ∀ {b : Addr} {o : Obj}, hp.get? b = some o → b ≠ dx := fun {b o} z => Nat.ne_of_lt (Nat.lt_of_lt_of_le (Heap.lt_size z) new)
  have other : ∀ {b : Addr}, H b = none → b ≠ a := fun {b} n z => by
    rw [z, e] at n
    cases n
  have un : Un X.fs [] H (upd (upd H dx (exd dx [(f, y)])) a (exo a C (some dx))) hp h' :=
    { keep := fun b o z n _ _ => keeps b o (other n) z
      slot := fun b o z n _ _ => ⟨o.slots, keeps b o (other n) z⟩
      free := fun b o z n _ => by
        rw [upd_ne (other n), upd_ne (old z)]
        exact n
      there := fun b o z _ => by
        by_cases hb : b = a
        · exact ⟨_, by rw [hb]; exact at_a⟩
        · exact ⟨o, keeps b o hb z⟩
      tups := fun b xs z => by
        rw [upd_ne (at_ne e z exo_tup), upd_ne (ne_of_none z n0)]
        exact z
      frzs := fun b o v z => by
        rw [upd_ne (at_ne e z exo_frz), upd_ne (ne_of_none z n0)]
        exact z
      tbls := fun b ps z => ⟨#[], by
        rw [upd_ne (at_ne e z exo_tbl), upd_ne (ne_of_none z n0), z]
        simp⟩ }
  refine h dx _ n0 apart (I.un (t' := tk') un ?_)
  intro b o z
  by_cases hb : b = a
  · subst hb
    rw [upd_same] at z
    cases z
    exact exo_ok at_a
  rw [upd_ne hb] at z
  by_cases hd : b = dx
  · subst hd
    rw [upd_same] at z
    cases z
    exact exd_ok ns (relO_put (fs := []) ry fun _ => True.intro)
  rw [upd_ne hd] at z
  refine (I.hok b o z).stay ?_ ?_ ?_
  · intro c v hc r
    refine keeps c v ?_ r
    rcases hc with hc | hc
    · rw [hc]
      exact hb
    · exact at_ne e hc exo_own
  · intro c hc
    rw [upd_ne (at_ne e hc exo_own), upd_ne (ne_of_none hc n0)]
    exact hc
  · intro c xs hc
    rw [upd_ne (at_ne e hc exo_tup), upd_ne (ne_of_none hc n0)]
    exact hc
/-- self.f = y, a further field -/
theorem put_next {Q : Unit → Shared → Prop} (T : ExK X.K C B newId initId bmB) (I : Inv X pins σ H s) (e : H a = some (exo a C (some dx))) (ed : H dx = some (exd dx fs))
    (few : fs.length ≤ 900) (free : PySem.W.takerIn X.K C f = some none) (ry : RelV y u)
    (h : ∀ s', Inv X pins σ (upd H dx (exd dx ((f, y) :: fs))) s' → Q () s') : wpAny (model X.prog X.w) A (setAttr (.ref a) f u) Q E s := by
  obtain ⟨t1, ho⟩ := exo_at I.hok e
  obtain ⟨mA, ns, rel⟩ := exd_at I.hok ed
  have within := within_of rel
  obtain ⟨hp, g, d, t, os⟩ := s
  obtain ⟨oD, _, _, hoD, _, _⟩ := ns.count within
  refine PySem.W.set_plain I.kIn (ox := { cls := .ref C, dict := some dx, data := .fields #[.ref t1, .none, .none, .none, .bool false, .none] }) (od := some oD) ⟨ho, rfl, rfl, hoD⟩ T.sa ?_
  refine PySem.EK.next_field T.store I.kIn ho ns within (by rw [List.length_map]; omega) T.over free T.dct ?_
  intro h' tk' keeps ns'
  obtain ⟨o', _, _, there, _⟩ := id ns'
  exact h _ (I.write (t' := tk') (x := dx) (e := dx) (o := exd dx ((f, y) :: fs)) (by rw [ed]; exact True.intro) (.inl rfl) keeps ⟨o', there⟩ (exd_ok ns' (relO_put ry rel)))
end
/-- self.f = e, self an exception of the class at C -/
def tPut (f : Str) (C : Addr) (to te : TE) : TS := fun D σ H => te σ H fun y H1 => to σ H1 fun x H2 => ∃ a : Addr, x = .ref a ∧
  ((H2 a = some (exo a C none) ∧ ∀ dx, H2 dx = none → dx ≠ a → D.nx σ (upd (upd H2 dx (exd dx [(f, y)])) a (exo a C (some dx)))) ∨
    ∃ (dx : Addr) (fs : List (Str × V)), H2 a = some (exo a C (some dx)) ∧ H2 dx = some (exd dx fs) ∧ fs.length ≤ 900 ∧ D.nx σ (upd H2 dx (exd dx ((f, y) :: fs))))
section
variable {X : Cx} {o e : Expr} {es : List Expr} {to te : TE} {ta : TA} {f : Str} {p p' p1 p2 pos : Pos} {C : Addr} {B newId initId : String} {bmB : List Value}
theorem ps_put (T : ExK X.K C B newId initId bmB) (free : PySem.W.takerIn X.K C f = some none) (ho : PE X o to) (he : PE X e te)
    (hs : swapsWith e (some (.Attribute o f p')) pos.line X.env = pure false := by rfl) : PS X (.Assign [.Attribute o f p'] e pos) (tPut f C to te) := by
  constructor
  intro pins s σ H D I h
  refine plainObj_wpAny_Assign_Attribute (thn (he.run pins s σ H _ I h) ?_) hs
  rintro v s1 ⟨y, H1, I1, r1, q1⟩
  refine thn (ho.run pins s1 σ H1 _ I1 q1) ?_
  rintro u s2 ⟨x, H2, I2, r2, a, ex, q⟩
  subst ex
  cases (show u = Value.ref a from r2)
  rcases q with ⟨ea, q⟩ | ⟨dx, fs, ea, ed, few, q⟩
  · exact put_first T I2 ea free r1 fun dx s' n ne J => ⟨σ, _, J, q dx n ne⟩
  · exact put_next T I2 ea ed few free r1 fun s' J => ⟨σ, _, J, q⟩
end
/-- a fresh exception -/
def spIn1 (C : Addr) (f : Str) : Sp := fun vs H Q _ => ∃ (a : Addr) (v : V), vs = [.ref a, v] ∧ H a = some (exo a C none) ∧
  ∀ d, H d = none → d ≠ a → Q .non (upd (upd H d (exd d [(f, v)])) a (exo a C (some d)))
def spIn2 (C : Addr) (f g : Str) : Sp := fun vs H Q _ => ∃ (a : Addr) (v u : V), vs = [.ref a, v, u] ∧ H a = some (exo a C none) ∧
  ∀ d, H d = none → d ≠ a → Q .non (upd (upd (upd H d (exd d [(f, v)])) a (exo a C (some d))) d (exd d [(g, u), (f, v)]))
section
variable {P : Program} {w : World} {K : PySem.W.Frag} {mg : Str → Option Value} {base : Heap} {fI C : Addr} {fd : FuncData} {st : Stmt} {qual f g : Str}
  {B newId initId : String} {bmB : List Value} {q1 q2 q3 q4 q5 q6 q7 q8 : Pos}
theorem ok_in1 (F : Fun K "__init__" qual st fI fd) (S : FnScope ["self", f] ["self", f] (defScope st))
    (hb : defBody st = [.Assign [.Attribute (.Name "self" q1) f q2] (.Name f q3) q4]) (v1 : Vis (defScope st) "self") (v2 : Vis (defScope st) f)
    (hd : (f == ("__debug__" : Str)) = false) (hc : (f == ("__classdict__" : Str)) = false) (T : ExK K C B newId initId bmB) (free : PySem.W.takerIn K C f = some none) :
    FnOk P w K mg base CX0 1 fI fd ["self", f] (spIn1 C f) := by
  refine F.ok S (fun vs H Q E h => ?_) (fun cdv A outer s H vs Q E hr h => ?_)
  · obtain ⟨a, v, rfl, _⟩ := h
    rfl
  obtain ⟨a, v, rfl, ha, q⟩ := h
  rw [hb]
  refine ⟨_, pss_one (ps_put T free (pe_var (i := 0) rfl v1) (pe_var (i := 1) rfl v2 hd hc)), ?_⟩
  exact ⟨_, rfl, _, rfl, a, rfl, .inl ⟨ha, fun d n ne => q d n ne⟩⟩
theorem ok_in2 (F : Fun K "__init__" qual st fI fd) (S : FnScope ["self", f, g] ["self", f, g] (defScope st))
    (hb : defBody st = [.Assign [.Attribute (.Name "self" q1) f q2] (.Name f q3) q4, .Assign [.Attribute (.Name "self" q5) g q6] (.Name g q7) q8])
    (v1 : Vis (defScope st) "self") (v2 : Vis (defScope st) f) (v3 : Vis (defScope st) g)
    (hd : (f == ("__debug__" : Str)) = false) (hc : (f == ("__classdict__" : Str)) = false) (hd2 : (g == ("__debug__" : Str)) = false) (hc2 : (g == ("__classdict__" : Str)) = false)
    (T : ExK K C B newId initId bmB) (free : PySem.W.takerIn K C f = some none) (free2 : PySem.W.takerIn K C g = some none) :
    FnOk P w K mg base CX0 1 fI fd ["self", f, g] (spIn2 C f g) := by
  refine F.ok S (fun vs H Q E h => ?_) (fun cdv A outer s H vs Q E hr h => ?_)
  · obtain ⟨a, v, u, rfl, _⟩ := h
    rfl
  obtain ⟨a, v, u, rfl, ha, q⟩ := h
  rw [hb]
  refine ⟨_, pss_cons (ps_put T free (pe_var (i := 0) rfl v1) (pe_var (i := 1) rfl v2 hd hc)) (pss_one (ps_put T free2 (pe_var (i := 0) rfl v1) (pe_var (i := 2) rfl v3 hd2 hc2))), ?_⟩
  refine ⟨_, rfl, _, rfl, a, rfl, .inl ⟨ha, fun d n ne => ?_⟩⟩
  refine ⟨_, rfl, _, rfl, a, rfl, .inr ⟨d, [(f, v)], upd_same, ?_, (by show 1 ≤ 900; decide), q d n ne⟩⟩
  rw [upd_ne ne]
  exact upd_same
end

/-! C(..) as a value -/
section
variable {X : Cx} {pins : List (Addr × Obj)} {σ : L2.St} {H : Hp} {s : Shared} {C fI : Addr} {fd : FuncData} {ps : List Str} {sp : Sp} {k : Nat}
  {B newId initId : String} {bmB : List Value}
theorem run_mk {Q : VK} {us bs : List Value} {kw : List (Str × Value)} {vs : List V} (T : ExK X.K C B newId initId bmB)
    (hi : PySem.W.findIn X.K (.ref C) "__init__" = some (some (.ref fI))) (tI : PySem.W.typeIn X.K (.ref fI) = some (.type "function"))
    (F : FnOk X.prog X.w X.K X.mg X.base CX0 k fI fd ps sp) (room : Room (k + 1) X.A) (I : Inv X pins σ H s) (rel : Vals vs bs)
    (binds : ∀ (s : Shared) (self : Value), X.K.In s.heap → BindsTo s fd ⟨self :: us, kw⟩ (ps.zip (self :: bs))) (small : us.length ≤ sizeLine)
    (q : ∀ a, H a = none → sp (.ref a :: vs) (upd H a (exo a C none)) (fun v H2 => v = .non ∧ Q (.ref a) H2) E0) :
    wpAny (model X.prog X.w) X.A (call (.ref C) us kw) (EP X pins σ Q) X.xe s := by
  obtain ⟨nm, N, qn, bs0, bm, hdct, sn, sub, ab, col, dd, k0, k1, k2, k3, k5, hC, same⟩ := PySem.W.excInit_of I.kIn T.made
  obtain ⟨hp, g, dr, tk, os⟩ := s
  have above : hp.objs.size ≤ hp.objs.size + 1 := Nat.le_succ _
  have n0 : H (hp.objs.size + 1) = none := I.hok.fresh above
  have q0 := q _ n0
  have J : Inv X pins σ (upd H (hp.objs.size + 1) (exo (hp.objs.size + 1) C none)) ⟨PySem.EK.madeHeap hp C us, g, dr, tk, os⟩ :=
    I.laid (t' := tk) (h' := PySem.EK.madeHeap hp C us) (fun b o e => PySem.EK.made_keep b o e) above (exo_ok PySem.EK.made_at)
  have rel2 : Vals (V.ref (hp.objs.size + 1) :: vs) (Value.ref (hp.objs.size + 1) :: bs) := .cons rfl rel
  refine wpAny_call (PySem.EK.run_call T.facts same hC (PySem.W.looks_findIn I.kIn hi) (fun self => PySem.W.bind_fn I.kIn self tI) small ?_)
  refine codeAny_mono (F.run _ X.stack _ _ ⟨Value.ref (hp.objs.size + 1) :: us, kw⟩ _ _ _ E0 (room.make C us kw) (J.env0.make C us kw) (binds _ _ J.kIn) rel2 q0) ?_
  intro r s' hr
  cases r with
  | error e => exact (show False from hr).elim
  | ok fl =>
    cases fl with
    | ret u =>
      obtain ⟨v, H2, J2, rv, ev, q2⟩ := J.after hr
      subst ev
      exact ⟨rv, ⟨V.ref (hp.objs.size + 1), H2, J2, rfl, q2⟩⟩
    | next => exact hr.elim
    | brk => exact hr.elim
    | cont => exact hr.elim
end
/-- C(e, ..) -/
def tMk (C : Addr) (sp : Sp) (ta : TA) : TE := fun σ H Q => ta σ H fun vs H1 => vs.length ≤ 100 ∧ ∀ a, H1 a = none →
  sp (.ref a :: vs) (upd H1 a (exo a C none)) (fun v H2 => v = .non ∧ Q (.ref a) H2) E0
def tMkK (C : Addr) (sp : Sp) (gV : List V → List V) (tk : TA) : TE := fun σ H Q => tk σ H fun vs H1 => ∀ a, H1 a = none →
  sp (.ref a :: gV vs) (upd H1 a (exo a C none)) (fun v H2 => v = .non ∧ Q (.ref a) H2) E0
section
variable {X : Cx} {C fI : Addr} {fd : FuncData} {ps ks : List Str} {sp : Sp} {k : Nat} {B newId initId : String} {bmB : List Value}
  {x : Str} {p pos : Pos} {e : Expr} {es : List Expr} {t tk : TA} {kws : List Keyword}
theorem pe_mk (T : ExK X.K C B newId initId bmB)
    (hi : PySem.W.findIn X.K (.ref C) "__init__" = some (some (.ref fI))) (tI : PySem.W.typeIn X.K (.ref fI) = some (.type "function"))
    (F : FnOk X.prog X.w X.K X.mg X.base CX0 k fI fd ps sp) (hb : Binds X.K fd ps []) (room : Room (k + 1) X.A) (hg : Gl X x) (hm : X.mg x = some (.ref C)) (ha : PA X (e :: es) t)
    (hdb : (x == ("__debug__" : Str)) = false := by decide) (he : starEach (e :: es) X.env = (false, eval e X.env) :: starEach es X.env := by rfl)
    (hpl : (backTo pos (starEach es X.env)).any (·.1) = false := by rfl) : PE X (.Call (.Name x p) (e :: es) [] pos) (tMk C sp t) := by
  constructor
  intro pins s σ H Q I h
  refine wpAny_Call_Name_kw (ld_glob I hg hm ?_ hdb)
  refine PySem.W.callWith_K (h₀ := X.base) I.ok.mod.kin T.keep ?_ he hpl
  refine thn (ha.run pos pins s σ H _ I h) ?_
  rintro us s1 ⟨vs, H1, J, r, hl, q⟩
  refine ⟨J.kIn, ?_⟩
  have hlen : (Value.none :: us).length = ps.length := by
    have z := F.len _ _ _ _ (q s1.heap.objs.size (J.hok.fresh (Nat.le_refl _)))
    rw [← z, List.length_cons, List.length_cons, r.length]
  refine run_mk (bs := us) (kw := []) T hi tI F room J r (fun s' self hK => ?_) (by show us.length ≤ sizeLine; rw [← r.length]; exact small_line (by omega)) q
  have z := hb s' (self :: us) hK (by rw [List.append_nil]; exact hlen)
  rw [List.append_nil] at z
  exact z
theorem pe_mkK (T : ExK X.K C B newId initId bmB) {g : List Value → List Value} {gV : List V → List V}
    (hi : PySem.W.findIn X.K (.ref C) "__init__" = some (some (.ref fI))) (tI : PySem.W.typeIn X.K (.ref fI) = some (.type "function"))
    (F : FnOk X.prog X.w X.K X.mg X.base CX0 k fI fd ps sp) (hgV : ∀ vs us, Vals vs us → Vals (gV vs) (g us))
    (hb : ∀ (s : Shared) (self : Value) (ws : List Value), ws.length = ks.length → BindsTo s fd ⟨[self], ks.zip ws⟩ (ps.zip (self :: g ws)))
    (room : Room (k + 1) X.A) (hg : Gl X x) (hm : X.mg x = some (.ref C)) (hkw : PK X kws tk) (hn : ∀ σ H Q, tk σ H Q → tk σ H fun vs H1 => vs.length = ks.length ∧ Q vs H1)
    (hall : (backToKw pos (keywordEach kws X.env)).all (·.1.isSome) = true := by rfl) (hks : (backToKw pos (keywordEach kws X.env)).filterMap (·.1) = ks := by rfl)
    (hdb : (x == ("__debug__" : Str)) = false := by decide)
    (hpl : ((backTo pos (starEach [] X.env)).any (·.1) || (backToKw pos (keywordEach kws X.env)).any (·.1.isNone)) = false := by rfl) :
    PE X (.Call (.Name x p) [] kws pos) (tMkK C sp gV tk) := by
  constructor
  intro pins s σ H Q I h
  refine wpAny_Call_Name_kw (ld_glob I hg hm ?_ hdb)
  refine PySem.W.callWith_KW0 (h₀ := X.base) I.ok.mod.kin T.keep hall ?_ hpl
  refine thn (hkw.run pos pins s σ H _ I (hn _ _ _ h)) ?_
  rintro ws s1 ⟨vs, H1, J, r, hl, q⟩
  refine ⟨J.kIn, ?_⟩
  rw [hks]
  exact run_mk (us := []) (bs := g ws) (kw := ks.zip ws) T hi tI F room J (hgV _ _ r) (fun s' self _ => hb s' self ws (by rw [← r.length]; exact hl)) (small_line (by decide)) q
end
/-- o.f of an exception that has its dict -/
def tGet (C : Addr) (f : Str) (to : TE) : TE := fun σ H Q => to σ H fun x H1 => ∃ (a d : Addr) (fs : List (Str × V)) (v : V), x = .ref a ∧ H1 a = some (exo a C (some d)) ∧ H1 d = some (exd d fs) ∧ fs.lookup f = some v ∧ Q v H1
theorem pe_get {X : Cx} {o : Expr} {to : TE} {f : Str} {pos : Pos} {C : Addr} {B newId initId : String} {bmB : List Value} (T : ExK X.K C B newId initId bmB) (hno : PySem.W.findIn X.K (.ref C) f = some none) (ho : PE X o to)
    (hb : attributeBase o f X.env (eval o X.env) = eval o X.env := by rfl) : PE X (.Attribute o f pos) (tGet C f to) := by
  constructor
  intro pins s σ H Q I h
  refine attr_of hb (thn (ho.run pins s σ H _ I h) ?_)
  rintro u s1 ⟨x, H1, J, r, a, d, fs, v, ex, ea, ed, hv, q⟩
  subst ex
  cases (show u = Value.ref a from r)
  obtain ⟨t1, hobj⟩ := exo_at J.hok ea
  obtain ⟨mA, ns, rel⟩ := exd_at J.hok ed
  have rv := rel f
  rw [hv] at rv
  obtain ⟨u', hu, ru⟩ := RelO.some_of rv
  obtain ⟨od, hod, look⟩ := lookIn_ns ns
  have inst : PySem.W.InstAt s1.heap a { cls := .ref C, dict := some d, data := .fields #[.ref t1, .none, .none, .none, .bool false, .none] } C (some od) := ⟨hobj, rfl, rfl, hod⟩
  exact PySem.PX.exc_get J.kIn inst T.ga T.gt T.sub (PySem.W.findObj_own T.dct hno rfl (by rw [look, hu])) (handed_of ru) ⟨v, H1, J.tok _, ru, q⟩
/-- isinstance(e, c), e an exception -/
def rIsX (K : PySem.W.Frag) : List V → Hp → VK → Prop := fun xs H Q => ∃ (a C : Addr) (d : Option Addr) (c : V) (cv : Value) (b : Bool), xs = [.ref a, c] ∧ H a = some (exo a C d) ∧ (∀ x, d = some x → ∃ fs, H x = some (exd x fs)) ∧
  ClsV c cv ∧ PySem.W.kitOne K (.ref C) cv = some b ∧ Q (.bl b) H
/-- the classes that a law's exceptions are of -/
def ExAll (K : PySem.W.Frag) (P : Addr → Prop) : Prop := ∀ C, P C → ∃ B newId initId bmB, ExK K C B newId initId bmB
theorem call_isX {X : Cx} {P : Addr → Prop} (T : ExAll X.K P) : CallR X (.builtin "isinstance") (fun xs H Q => rIsX X.K xs H Q ∧ ∀ a c, xs = [.ref a, c] → ∀ C d, H a = some (exo a C d) → P C) := by
  intro pins s σ H xs us Q I r h
  obtain ⟨⟨a, C, d, c, cv, b, rfl, ha, hd, hc, e, q⟩, hP⟩ := h
  obtain ⟨u1, u2, rfl, r1, r2⟩ := vals2 r
  cases (show u1 = Value.ref a from r1)
  have e2 := hc.eq r2
  subst e2
  obtain ⟨B, newId, initId, bmB, K0⟩ := T C (hP a c rfl C d ha)
  obtain ⟨t1, hobj⟩ := exo_at I.hok ha
  obtain ⟨cd, hcd, _⟩ := PySem.W.any_some K0.dct
  have hcl : (PySem.W.clsIn X.K C).isSome = true := by
    rw [hcd]
    rfl
  cases d with
  | none =>
    have inst : PySem.W.InstAt s.heap a { cls := .ref C, dict := none, data := .fields #[.ref t1, .none, .none, .none, .bool false, .none] } C none := ⟨hobj, rfl, rfl, trivial⟩
    exact PySem.W.kia_one (PySem.W.kitx_exc hcl K0.ga K0.gt K0.sub K0.cl K0.gg K0.tk K0.mo) I.kIn inst e (fun z => nomatch z) fun tk => ⟨.bl b, H, I.tok tk, rfl, q⟩
  | some x =>
    obtain ⟨fs, ex⟩ := hd x rfl
    obtain ⟨mA, ns, rel⟩ := exd_at I.hok ex
    obtain ⟨od, hod, look⟩ := lookIn_ns ns
    have inst : PySem.W.InstAt s.heap a { cls := .ref C, dict := some x, data := .fields #[.ref t1, .none, .none, .none, .bool false, .none] } C (some od) := ⟨hobj, rfl, rfl, hod⟩
    exact PySem.W.kia_one (PySem.W.kitx_exc hcl K0.ga K0.gt K0.sub K0.cl K0.gg K0.tk K0.mo) I.kIn inst e (fun z => nomatch z) fun tk => ⟨.bl b, H, I.tok tk, rfl, q⟩
end Hx

namespace Hx
open PySem PySem.Spec PyProof.Rows L2
section
variable {X : Cx} {C fI : Addr} {fd : FuncData} {ps : List Str} {sp : Sp} {k : Nat} {B newId initId : String} {bmB : List Value}
  {x : Str} {p pos : Pos} {e : Expr} {es : List Expr} {ta : TA}
/-- raise C(e, ..), C an own class over any built-in one whose __init__ is a def -/
theorem pmk_own2 (T : ExK X.K C B newId initId bmB) (ty : PySem.W.typeIn X.K (.ref C) = some (.type "type")) (hi : PySem.W.findIn X.K (.ref C) "__init__" = some (some (.ref fI))) (tI : PySem.W.typeIn X.K (.ref fI) = some (.type "function"))
    (F1 : FnOk X.prog X.w X.K X.mg X.base CX0 k fI fd ps sp) (room : Room (k + 1) X.A) (hb : Binds X.K fd ps []) (hg : Gl X x) (hm : X.mg x = some (.ref C)) (ha : PA X (e :: es) ta)
    (hdb : (x == ("__debug__" : Str)) = false := by decide) (he : starEach (e :: es) X.env = (false, eval e X.env) :: starEach es X.env := by rfl) (hpl : (backTo pos (starEach es X.env)).any (·.1) = false := by rfl) :
    PMk X (.Call (.Name x p) (e :: es) [] pos) (tMkO C sp [] ta) := by
  intro pins s σ H Q I h
  refine wpAny_Call_Name_kw (ld_glob I hg hm ?_ hdb)
  refine PySem.W.callWith_K (h₀ := X.base) I.ok.mod.kin T.keep (thn (ha.run pos pins s σ H _ I h) fun us s1 ⟨vs, H1, I1, r1, few, q1⟩ => ⟨I1.kIn, ?_⟩) he hpl
  obtain ⟨nm, N, qn, bs0, bm, hdct, sn, sub, ab, col, dd, k0, k1, k2, k3, k5, hC, same⟩ := PySem.W.excInit_of I1.kIn T.made
  obtain ⟨hp, g, dr, tk, os⟩ := s1
  have above : hp.objs.size ≤ hp.objs.size + 1 := Nat.le_succ _
  have n0 : H1 (hp.objs.size + 1) = none := I1.hok.fresh above
  have q0 := q1 _ n0
  rw [List.append_nil] at q0
  have J : Inv X pins σ (upd H1 (hp.objs.size + 1) (exo (hp.objs.size + 1) C none)) ⟨PySem.EK.madeHeap hp C us, g, dr, tk, os⟩ :=
    I1.laid (t' := tk) (h' := PySem.EK.madeHeap hp C us) (fun b o e => PySem.EK.made_keep b o e) above (exo_ok PySem.EK.made_at)
  have rel2 : Vals (V.ref (hp.objs.size + 1) :: vs) (Value.ref (hp.objs.size + 1) :: us) := .cons rfl r1
  have hl : ((Value.ref (hp.objs.size + 1) :: us) ++ []).length = ps.length := by
    rw [List.append_nil, ← rel2.length]
    exact F1.len _ _ _ _ q0
  have small : us.length ≤ sizeLine := by
    rw [← r1.length]
    exact small_line few
  have bind := hb _ (Value.ref (hp.objs.size + 1) :: us) J.kIn hl
  rw [List.append_nil] at bind
  refine wpAny_call (PySem.EK.run_call T.facts same hC (PySem.W.looks_findIn I1.kIn hi) (fun self => PySem.W.bind_fn I1.kIn self tI) small ?_)
  refine codeAny_mono (F1.run _ X.stack _ _ ⟨Value.ref (hp.objs.size + 1) :: us, []⟩ _ _ _ (fun _ _ _ => False) (room.make C us []) (J.env0.make C us []) bind rel2 q0) ?_
  intro r s' hr
  cases r with
  | error e => exact (show False from hr).elim
  | ok fl =>
    cases fl with
    | next => exact hr.elim
    | brk => exact hr.elim
    | cont => exact hr.elim
    | ret u =>
      obtain ⟨v, H2, os2, bare2, un2, hok2, rv, ev, d, fs, ea, ed, hd1, q2⟩ := hr
      subst ev
      obtain ⟨h2, g2, d2, t2, os'⟩ := s'
      exact ⟨rv, mk_end (raises_own T.sub ty) I1 above (fun b o e => PySem.EK.made_keep b o e) un2 hok2 os2 bare2 ea ed hd1 q2⟩
end
end Hx

namespace Hx
open PySem PySem.Spec PyProof.Rows L2
/-! comparing data -/
section
variable {X : Cx}
def rNeQ : R2 := fun x y H Q => ∃ d e, Dq H x d ∧ Dq H y e ∧ SeqAt.shaped d = true ∧ SeqAt.shaped e = true ∧ Q (.bl (!PyData.eqv d e)) H
def rEqQ : R2 := fun x y H Q => ∃ d e, Dq H x d ∧ Dq H y e ∧ SeqAt.shaped d = true ∧ SeqAt.shaped e = true ∧ Q (.bl (PyData.eqv d e)) H
theorem op_neQ (hu : X.A.units + 64 < cLine) : OpR X (compareOp .NotEq) rNeQ := by
  intro pins s σ H x y v u Q I rx ry h
  obtain ⟨d, e, hd, he, sd, se, q⟩ := h
  obtain ⟨as, r1, _⟩ := Dq.reads I d x v hd rx
  obtain ⟨bs, r2, _⟩ := Dq.reads I e y u he ry
  exact SeqAt.compareNe_shaped r1 r2 sd se hu ⟨.bl _, H, I, rfl, q⟩
theorem op_eqQ (hu : X.A.units + 64 < cLine) : OpR X (compareOp .Eq) rEqQ := by
  intro pins s σ H x y v u Q I rx ry h
  obtain ⟨d, e, hd, he, sd, se, q⟩ := h
  obtain ⟨as, r1, _⟩ := Dq.reads I d x v hd rx
  obtain ⟨bs, r2, _⟩ := Dq.reads I e y u he ry
  exact SeqAt.compareEq_shaped r1 r2 sd se hu ⟨.bl _, H, I, rfl, q⟩
end
/-! comprehensions that make data -/
def without (D : Addr) (H : Hp) : Hp := fun b => if b = D then none else H b
def newPart (H H' : Hp) : Hp := fun b => if H b = none then H' b else none
theorem without_some {D b : Addr} {H : Hp} {o : HO} (h : without D H b = some o) : b ≠ D ∧ H b = some o := by
  unfold without at h
  split at h
  · cases h
  · exact ⟨by assumption, h⟩
theorem without_at {D b : Addr} {H : Hp} {o : HO} (n : b ≠ D) (h : H b = some o) : without D H b = some o := by
  unfold without
  rw [if_neg n]
  exact h
theorem newPart_some {b : Addr} {H H' : Hp} {o : HO} (h : newPart H H' b = some o) : H b = none ∧ H' b = some o := by
  unfold newPart at h
  split at h
  · exact ⟨by assumption, h⟩
  · cases h
theorem newPart_at {b : Addr} {H H' : Hp} {o : HO} (n : H b = none) (h : H' b = some o) : newPart H H' b = some o := by
  unfold newPart
  rw [if_pos n]
  exact h
theorem without_same {D : Addr} {H : Hp} : Same (without D H) H := fun b o h => (without_some h).2
theorem newPart_same {H H' : Hp} : Same (newPart H H') H' := fun b o h => (newPart_some h).2
theorem without_upd {D : Addr} {H : Hp} {o : HO} : without D (upd H D o) = without D H := by
  funext b
  unfold without
  split
  · rfl
  · rw [upd_ne (by assumption)]
theorem DqAll.snoc {H : Hp} {v : V} {d : PyData} : ∀ {vs : List V} {ds : List PyData}, DqAll H vs ds → Dq H v d → DqAll H (vs ++ [v]) (ds ++ [d])
  | _, _, .nil, h => .cons h .nil
  | _, _, .cons a r, h => .cons a (DqAll.snoc r h)
theorem DqAll.len {H : Hp} : ∀ {vs : List V} {ds : List PyData}, DqAll H vs ds → vs.length = ds.length
  | _, _, .nil => rfl
  | _, _, .cons _ r => congrArg Nat.succ (DqAll.len r)
/-- what a turn's element must do: a new datum, all else as it was -/
def Gives (te : TE) (σ : L2.St) (H : Hp) (d : PyData) : Prop := ∀ Q : VK, (∀ y H', Same H H' → Dq (newPart H H') y d → Q y H') → te σ H Q
def LcAt (H1 : Hp) (D : Addr) (f : Nat → PyData) (i : Nat) (H' : Hp) : Prop :=
  Same H1 H' ∧ ∃ xs, H' D = some (.lst xs) ∧ DqAll (without D H') xs ((List.range i).map f)
theorem LcAt.start {H1 : Hp} {D : Addr} {f : Nat → PyData} (hD : H1 D = none) : LcAt H1 D f 0 (upd H1 D (.lst [])) := ⟨same_new hD _, [], upd_same, .nil⟩
theorem LcAt.turn {H1 H' H2 : Hp} {D : Addr} {f : Nat → PyData} {i : Nat} {y : V} (hD : H1 D = none) (h : LcAt H1 D f i H') (s : Same H' H2) (hy : Dq (newPart H' H2) y (f i)) (hi : i < 100000) :
    ∃ acc, H2 D = some (.lst acc) ∧ acc.length < sizeLine ∧ LcAt H1 D f (i + 1) (upd H2 D (.lst (acc ++ [y]))) := by
  obtain ⟨s1, xs, hx, ha⟩ := h
  have hlen := ha.len
  rw [List.length_map, List.length_range] at hlen
  refine ⟨xs, s _ _ hx, by rw [hlen]; exact Nat.lt_of_lt_of_le hi (by decide), ?_, xs ++ [y], upd_same, ?_⟩
  · intro b o hb
    rw [upd_ne (ne_of_none hb hD)]
    exact s _ _ (s1 _ _ hb)
  · rw [without_upd, List.range_succ, List.map_append]
    refine DqAll.snoc (DqAll.same (fun b o hb => ?_) _ _ ha) (Dq.same (fun b o hb => ?_) _ _ hy)
    · obtain ⟨n, e⟩ := without_some hb
      exact without_at n (s _ _ e)
    · obtain ⟨n, e⟩ := newPart_some hb
      exact without_at (fun z => by rw [z, hx] at n; cases n) e
theorem lc_data_range {n : Nat} {i0 : Nat} {te : TE} {vs : List Nat} {σ : L2.St} {H1 : Hp} {D : Addr} {Qd : Hp → Prop} (f : Nat → PyData) (hD : H1 D = none) (hn : n ≤ 100000)
    (hw : ∀ x : V, wipe ((wipe σ vs).set i0 (some x)) vs = wipe σ vs)
    (hs : ∀ i H', i < n → Same H1 H' → Gives te ((wipe σ vs).set i0 (some (.int (i : Nat)))) H' (f i))
    (hd : ∀ H' xs, Same H1 H' → H' D = some (.lst xs) → DqAll H' xs ((List.range n).map f) → Qd H') :
    ∃ W : Nat → Nat → Hp → Prop, (∃ m, W 0 m (upd H1 D (.lst []))) ∧ ∀ i m H, W i m H →
      ((Itr 0 n).stop i H ∧ Qd H) ∨ ((Itr 0 n).go i H ∧ ∃ Nx : Hp → Prop, (∀ H', Nx H' → ∃ m', m' < m ∧ W (i + 1) m' H') ∧
        ∀ x H', (Itr 0 n).yld i H x H' → gName i0 x (wipe σ vs) H' fun σ2 H2 => wipe σ2 vs = wipe σ vs ∧ tYes σ2 H2 fun b H3 =>
          if b = true then te σ2 H3 fun y H4 => ∃ acc, H4 D = some (.lst acc) ∧ acc.length < sizeLine ∧ Nx (upd H4 D (.lst (acc ++ [y]))) else Nx H3) := by
  refine lc_range (lo := 0) (n := n) (LcAt H1 D f) (LcAt.start hD) ?_ ?_
  · intro i H' hi h
    refine ⟨hw _, turn_yes ?_⟩
    have e : (V.int (0 + (i : Int))) = V.int ((i : Nat) : Int) := by rw [Int.zero_add]
    rw [e]
    exact hs i H' hi h.1 _ fun y H2 s hy => h.turn hD s hy (by omega)
  · rintro H' ⟨s1, xs, hx, ha⟩
    exact hd H' xs s1 hx (DqAll.same without_same _ _ ha)
theorem lc_data_list {K : PySem.W.Frag} {a : Addr} {ws : List V} {i0 : Nat} {te : TE} {vs : List Nat} {σ : L2.St} {H1 : Hp} {D : Addr} {Qd : Hp → Prop} (f : Nat → PyData) (hD : H1 D = none) (hn : ws.length ≤ 100000)
    (hl : SqL K H1 a ws) (hw : ∀ x : V, wipe ((wipe σ vs).set i0 (some x)) vs = wipe σ vs)
    (hs : ∀ i x H', ws[i]? = some x → Same H1 H' → Gives te ((wipe σ vs).set i0 (some x)) H' (f i))
    (hd : ∀ H' xs, Same H1 H' → H' D = some (.lst xs) → DqAll H' xs ((List.range ws.length).map f) → Qd H') :
    ∃ W : Nat → Nat → Hp → Prop, (∃ m, W 0 m (upd H1 D (.lst []))) ∧ ∀ i m H, W i m H →
      ((Itl K a).stop i H ∧ Qd H) ∨ ((Itl K a).go i H ∧ ∃ Nx : Hp → Prop, (∀ H', Nx H' → ∃ m', m' < m ∧ W (i + 1) m' H') ∧
        ∀ x H', (Itl K a).yld i H x H' → gName i0 x (wipe σ vs) H' fun σ2 H2 => wipe σ2 vs = wipe σ vs ∧ tYes σ2 H2 fun b H3 =>
          if b = true then te σ2 H3 fun y H4 => ∃ acc, H4 D = some (.lst acc) ∧ acc.length < sizeLine ∧ Nx (upd H4 D (.lst (acc ++ [y]))) else Nx H3) := by
  refine lc_list (K := K) (a := a) (xs := ws) (LcAt H1 D f) (LcAt.start hD) (fun i H' _ h => h.1.seq hl) ?_ ?_
  · intro i x H' hi h
    have lt : i < ws.length := (List.getElem?_eq_some_iff.mp hi).1
    refine ⟨hw _, turn_yes ?_⟩
    exact hs i x H' hi h.1 _ fun y H2 s hy => h.turn hD s hy (by omega)
  · rintro H' ⟨s1, xs, hx, ha⟩
    exact hd H' xs s1 hx (DqAll.same without_same _ _ ha)
/-! isinstance of an exception -/
/-- at a stands an exception of the class at C -/
def XAt (H : Hp) (a C : Addr) : Prop := ∃ d, H a = some (exo a C d) ∧ ∀ x, d = some x → ∃ fs, H x = some (exd x fs)
theorem XAt.same {H H' : Hp} {a C : Addr} (h : XAt H a C) (s : Same H H') : XAt H' a C := by
  obtain ⟨d, e, k⟩ := h
  refine ⟨d, s _ _ e, fun x hx => ?_⟩
  obtain ⟨fs, z⟩ := k x hx
  exact ⟨fs, s _ _ z⟩
def tIs (i : Nat) (a C : Addr) (b : Bool) : TE := fun σ H Q => σ[i]? = some (some (.ref a)) ∧ XAt H a C ∧ Q (.bl b) H
section
variable {X : Cx} {a C : Addr} {i : Nat} {x : Str} {p p1 pos : Pos} {ce : Expr} {c : V} {cv : Value} {b : Bool} {B newId initId : String} {bmB : List Value}
theorem call_isK (T : ExK X.K C B newId initId bmB) : CallR X (.builtin "isinstance") (fun xs H Q => ∃ (a : Addr) (c : V) (cv : Value) (b : Bool), xs = [.ref a, c] ∧ XAt H a C ∧ ClsV c cv ∧ PySem.W.kitOne X.K (.ref C) cv = some b ∧ Q (.bl b) H) := by
  intro pins s σ H xs us Q I r h
  obtain ⟨a, c, cv, b, rfl, ⟨d, ha, hd⟩, hc, e, q⟩ := h
  obtain ⟨u1, u2, rfl, r1, r2⟩ := vals2 r
  cases (show u1 = Value.ref a from r1)
  have e2 := hc.eq r2
  subst e2
  obtain ⟨t1, hobj⟩ := exo_at I.hok ha
  obtain ⟨cd, hcd, _⟩ := PySem.W.any_some T.dct
  have hcl : (PySem.W.clsIn X.K C).isSome = true := by
    rw [hcd]
    rfl
  cases d with
  | none =>
    have inst : PySem.W.InstAt s.heap a { cls := .ref C, dict := none, data := .fields #[.ref t1, .none, .none, .none, .bool false, .none] } C none := ⟨hobj, rfl, rfl, trivial⟩
    exact PySem.W.kia_one (PySem.W.kitx_exc hcl T.ga T.gt T.sub T.cl T.gg T.tk T.mo) I.kIn inst e (fun z => nomatch z) fun tk => ⟨.bl b, H, I.tok tk, rfl, q⟩
  | some x =>
    obtain ⟨fs, ex⟩ := hd x rfl
    obtain ⟨mA, ns, rel⟩ := exd_at I.hok ex
    obtain ⟨od, hod, look⟩ := lookIn_ns ns
    have inst : PySem.W.InstAt s.heap a { cls := .ref C, dict := some x, data := .fields #[.ref t1, .none, .none, .none, .bool false, .none] } C (some od) := ⟨hobj, rfl, rfl, hod⟩
    exact PySem.W.kia_one (PySem.W.kitx_exc hcl T.ga T.gt T.sub T.cl T.gg T.tk T.mo) I.kIn inst e (fun z => nomatch z) fun tk => ⟨.bl b, H, I.tok tk, rfl, q⟩
theorem pe_is (T : ExK X.K C B newId initId bmB) (hg : Gl X "isinstance") (hm : X.mg "isinstance" = none) (hx : PE X (.Name x p1) (tVar i)) (hc : PE X ce (tC c)) (cl : ClsV c cv)
    (hk : PySem.W.kitOne X.K (.ref C) cv = some b) (he1 : starEach [.Name x p1, ce] X.env = (false, eval (.Name x p1) X.env) :: starEach [ce] X.env := by rfl)
    (he2 : starEach [ce] X.env = (false, eval ce X.env) :: starEach [] X.env := by rfl)
    (hpl : (backTo pos (starEach [ce] X.env)).any (·.1) = false := by rfl) : PE X (.Call (.Name "isinstance" p) [.Name x p1, ce] [] pos) (tIs i a C b) := by
  constructor
  intro pins s σ H Q I h
  obtain ⟨h1, h2, h3⟩ := h
  exact (pe_callB (call_isK T) hg hm PyProof.Rows.boot_isinstance (pa_cons hx (pa_cons hc pa_nil he2) he1) (by decide) (by decide) he1 hpl).run pins s σ H Q I ⟨_, h1, a, c, cv, b, rfl, h2, cl, hk, h3⟩
end
/-- C(), C an own exception class without __init__ -/
theorem pe_mk0 {X : Cx} {C : Addr} {B newId initId : String} {bmB : List Value} {x : Str} {p pos : Pos} (F : ExcBaseFacts B newId initId bmB) (q : PySem.W.excIn X.K C bmB newId = true)
    (gC : X.mg x = some (.ref C)) (kC : PySem.W.keepIn X.K (.ref C) = true) (hg : Gl X x) (hdb : (x == ("__debug__" : Str)) = false := by decide) :
    PE X (.Call (.Name x p) [] [] pos) (fun σ H Q => ∀ a, H a = none → Q (.ref a) (upd H a (exo a C none))) := by
  constructor
  intro pins s σ H Q I h
  refine wpAny_Call_Name_kw (ld_glob I hg gC ?_ hdb)
  refine PySem.W.callWith_K0 I.kIn kC ?_
  show wpAny _ _ (call (.ref C) []) _ _ _
  obtain ⟨bm, N, nm, qn, bs, hdct, sn, sub, ab, col, dd, k0, k1, k2, k3, k5, mN, hC, hN, hni, T⟩ := exc_obj I.kIn q
  refine wpAny_call_exc_subT F T hC hN hni (fun h' a hm => ?_) (by show 0 ≤ sizeLine; exact Nat.zero_le _)
  have hn : H a = none := I.hok.gone hm.new
  obtain ⟨t, ht, _, _⟩ := hm.there
  exact ⟨.ref a, upd H a (exo a C none), I.laidN hm.keeps hm.new hn (exo_ok ht), rfl, h a hn⟩
end Hx

namespace Hx
open PySem PySem.Spec PyProof.Rows L2
/-- at a stands an exception of the class at C with these fields -/
def EAt (H : Hp) (a C : Addr) (fs : List (Str × V)) : Prop := ∃ d, H a = some (exo a C (some d)) ∧ H d = some (exd d fs)
theorem EAt.same {H H' : Hp} {a C : Addr} {fs : List (Str × V)} (h : EAt H a C fs) (s : Same H H') : EAt H' a C fs := by
  obtain ⟨d, h1, h2⟩ := h
  exact ⟨d, s _ _ h1, s _ _ h2⟩
theorem EAt.x {H : Hp} {a C : Addr} {fs : List (Str × V)} (h : EAt H a C fs) : XAt H a C := by
  obtain ⟨d, h1, h2⟩ := h
  refine ⟨some d, h1, fun x hx => ?_⟩
  cases hx
  exact ⟨fs, h2⟩
/-- an own exception class x at C whose __init__ keeps its one parameter f -/
structure MkC (P : Program) (w : World) (K : PySem.W.Frag) (mg : Str → Option Value) (base : Heap) (x : Str) (C : Addr) (f : Str) : Prop where
  go : ∃ (fI : Addr) (fd : FuncData) (B newId initId : String) (bmB : List Value), ExK K C B newId initId bmB ∧ PySem.W.findIn K (.ref C) "__init__" = some (some (.ref fI)) ∧
    PySem.W.typeIn K (.ref fI) = some (.type "function") ∧ FnOk P w K mg base CX0 1 fI fd ["self", f] (spIn1 C f) ∧ Binds K fd ["self", f] [] ∧
    ∀ (s : Shared) (self w1 : Value), BindsTo s fd ⟨[self], [(f, w1)]⟩ [("self", self), (f, w1)]
  m : mg x = some (.ref C)
  no : PySem.W.findIn K (.ref C) f = some none
structure MkC2 (P : Program) (w : World) (K : PySem.W.Frag) (mg : Str → Option Value) (base : Heap) (x : Str) (C : Addr) (f g : Str) : Prop where
  go : ∃ (fI : Addr) (fd : FuncData) (B newId initId : String) (bmB : List Value), ExK K C B newId initId bmB ∧ PySem.W.findIn K (.ref C) "__init__" = some (some (.ref fI)) ∧
    PySem.W.typeIn K (.ref fI) = some (.type "function") ∧ FnOk P w K mg base CX0 1 fI fd ["self", f, g] (spIn2 C f g) ∧ Binds K fd ["self", f, g] [] ∧
    ∀ (s : Shared) (self w1 w2 : Value), BindsTo s fd ⟨[self], [(g, w2), (f, w1)]⟩ [("self", self), (f, w1), (g, w2)]
  m : mg x = some (.ref C)
  no : PySem.W.findIn K (.ref C) f = some none
  no2 : PySem.W.findIn K (.ref C) g = some none
/-- X(y), y in slot i -/
def tNew (i : Nat) (C : Addr) (f : Str) : TE := fun σ H Q => ∃ v, σ[i]? = some (some v) ∧ ∀ a H', H a = none → Same H H' → EAt H' a C [(f, v)] → Q (.ref a) H'
def tNew2 (i j : Nat) (C : Addr) (f g : Str) : TE := fun σ H Q => ∃ v u, σ[i]? = some (some v) ∧ σ[j]? = some (some u) ∧ ∀ a H', H a = none → Same H H' → EAt H' a C [(g, u), (f, v)] → Q (.ref a) H'
theorem made_same {H : Hp} {a d C : Addr} {o o1 o2 : HO} (na : H a = none) (nd : upd H a o d = none) : Same H (upd (upd (upd H a o) d o1) a o2) := fun b u hb => by
  rw [upd_ne (ne_of_none hb na)]
  exact ((same_new na o).trans (same_new nd o1)) b u hb
section
variable {X : Cx} {x y z f g : Str} {C : Addr} {i j : Nat} {p py pz pos kp kq : Pos}
theorem pe_new (M : MkC X.prog X.w X.K X.mg X.base x C f) (room : Room 2 X.A) (hg : Gl X x) (hy : PE X (.Name y py) (tVar i))
    (hdb : (x == ("__debug__" : Str)) = false := by decide) (he : starEach [.Name y py] X.env = (false, eval (.Name y py) X.env) :: starEach [] X.env := by rfl)
    (hpl : (backTo pos (starEach [] X.env)).any (·.1) = false := by rfl) : PE X (.Call (.Name x p) [.Name y py] [] pos) (tNew i C f) := by
  obtain ⟨fI, fd, B, newId, initId, bmB, T, hi, tI, F, hb, _⟩ := M.go
  constructor
  intro pins s σ H Q I h
  obtain ⟨v, hv, q⟩ := h
  refine (pe_mk T hi tI F hb room hg M.m (pa_cons hy pa_nil he) hdb he hpl).run pins s σ H Q I ⟨v, hv, (by show 1 ≤ 100; decide), fun a na => ?_⟩
  refine ⟨a, v, rfl, upd_same, fun d nd ne => ⟨rfl, q a _ na (made_same (C := C) na nd) ⟨d, upd_same, ?_⟩⟩⟩
  rw [upd_ne ne]
  exact upd_same
theorem pe_newK (M : MkC X.prog X.w X.K X.mg X.base x C f) (room : Room 2 X.A) (hg : Gl X x) (hy : PE X (.Name y py) (tVar i))
    (hdb : (x == ("__debug__" : Str)) = false := by decide)
    (hall : (backToKw pos (keywordEach [⟨some f, .Name y py, kp⟩] X.env)).all (·.1.isSome) = true := by rfl)
    (hks : (backToKw pos (keywordEach [⟨some f, .Name y py, kp⟩] X.env)).filterMap (·.1) = [f] := by rfl)
    (hpl : ((backTo pos (starEach [] X.env)).any (·.1) || (backToKw pos (keywordEach [⟨some f, .Name y py, kp⟩] X.env)).any (·.1.isNone)) = false := by rfl) :
    PE X (.Call (.Name x p) [] [⟨some f, .Name y py, kp⟩] pos) (tNew i C f) := by
  obtain ⟨fI, fd, B, newId, initId, bmB, T, hi, tI, F, _, hb⟩ := M.go
  constructor
  intro pins s σ H Q I h
  obtain ⟨v, hv, q⟩ := h
  refine (pe_mkK (g := id) (gV := id) T hi tI F (fun _ _ r => r) (fun s self ws hl => ?_) room hg M.m (pk_cons hy pk_nil) (fun σ H Q ⟨v, e, q⟩ => ⟨v, e, rfl, q⟩) hall hks hdb hpl).run pins s σ H Q I ⟨v, hv, fun a na => ?_⟩
  · match ws, hl with
    | [w1], _ => exact hb s self w1
  refine ⟨a, v, rfl, upd_same, fun d nd ne => ⟨rfl, q a _ na (made_same (C := C) na nd) ⟨d, upd_same, ?_⟩⟩⟩
  rw [upd_ne ne]
  exact upd_same
theorem made_same2 {H : Hp} {a d : Addr} {o o1 o2 o3 : HO} (na : H a = none) (nd : upd H a o d = none) : Same H (upd (upd (upd (upd H a o) d o1) a o2) d o3) := fun b u hb => by
  have n : b ≠ d := ne_of_none (same_new na o b u hb) nd
  rw [upd_ne n]
  exact made_same (C := a) na nd b u hb
theorem pe_new2 (M : MkC2 X.prog X.w X.K X.mg X.base x C f g) (room : Room 2 X.A) (hg : Gl X x) (hy : PE X (.Name y py) (tVar i)) (hz : PE X (.Name z pz) (tVar j))
    (hdb : (x == ("__debug__" : Str)) = false := by decide) (he : starEach [.Name y py, .Name z pz] X.env = (false, eval (.Name y py) X.env) :: starEach [.Name z pz] X.env := by rfl)
    (he2 : starEach [.Name z pz] X.env = (false, eval (.Name z pz) X.env) :: starEach [] X.env := by rfl)
    (hpl : (backTo pos (starEach [.Name z pz] X.env)).any (·.1) = false := by rfl) : PE X (.Call (.Name x p) [.Name y py, .Name z pz] [] pos) (tNew2 i j C f g) := by
  obtain ⟨fI, fd, B, newId, initId, bmB, T, hi, tI, F, hb, _⟩ := M.go
  constructor
  intro pins s σ H Q I h
  obtain ⟨v, u, hv, hu, q⟩ := h
  refine (pe_mk T hi tI F hb room hg M.m (pa_cons hy (pa_cons hz pa_nil he2) he) hdb he hpl).run pins s σ H Q I ⟨v, hv, u, hu, (by show 2 ≤ 100; decide), fun a na => ?_⟩
  refine ⟨a, v, u, rfl, upd_same, fun d nd ne => ⟨rfl, q a _ na (made_same2 na nd) ⟨d, ?_, upd_same⟩⟩⟩
  rw [upd_ne (Ne.symm ne)]
  exact upd_same
/-- X(g = z, f = y) -/
theorem pe_new2K (M : MkC2 X.prog X.w X.K X.mg X.base x C f g) (room : Room 2 X.A) (hg : Gl X x) (hy : PE X (.Name y py) (tVar i)) (hz : PE X (.Name z pz) (tVar j))
    (hdb : (x == ("__debug__" : Str)) = false := by decide)
    (hall : (backToKw pos (keywordEach [⟨some g, .Name z pz, kp⟩, ⟨some f, .Name y py, kq⟩] X.env)).all (·.1.isSome) = true := by rfl)
    (hks : (backToKw pos (keywordEach [⟨some g, .Name z pz, kp⟩, ⟨some f, .Name y py, kq⟩] X.env)).filterMap (·.1) = [g, f] := by rfl)
    (hpl : ((backTo pos (starEach [] X.env)).any (·.1) || (backToKw pos (keywordEach [⟨some g, .Name z pz, kp⟩, ⟨some f, .Name y py, kq⟩] X.env)).any (·.1.isNone)) = false := by rfl) :
    PE X (.Call (.Name x p) [] [⟨some g, .Name z pz, kp⟩, ⟨some f, .Name y py, kq⟩] pos) (tNew2 i j C f g) := by
  obtain ⟨fI, fd, B, newId, initId, bmB, T, hi, tI, F, _, hb⟩ := M.go
  constructor
  intro pins s σ H Q I h
  obtain ⟨v, u, hv, hu, q⟩ := h
  refine (pe_mkK (g := List.reverse) (gV := List.reverse) T hi tI F (fun _ _ r => r.reverse) (fun s self ws hl => ?_) room hg M.m (pk_cons hz (pk_cons hy pk_nil))
    (fun σ H Q ⟨v, e, u, e2, q⟩ => ⟨v, e, u, e2, rfl, q⟩) hall hks hdb hpl).run pins s σ H Q I ⟨u, hu, v, hv, fun a na => ?_⟩
  · match ws, hl with
    | [w2, w1], _ => exact hb s self w1 w2
  refine ⟨a, v, u, rfl, upd_same, fun d nd ne => ⟨rfl, q a _ na (made_same2 na nd) ⟨d, ?_, upd_same⟩⟩⟩
  rw [upd_ne (Ne.symm ne)]
  exact upd_same
/-- o.f, o an exception of some class that is told where it is read -/
def tGetA (K : PySem.W.Frag) (f : Str) (to : TE) : TE := fun σ H Q => to σ H fun x H1 => ∃ (a C : Addr) (fs : List (Str × V)) (v : V), x = .ref a ∧ EAt H1 a C fs ∧
  (∃ B newId initId bmB, ExK K C B newId initId bmB) ∧ PySem.W.findIn K (.ref C) f = some none ∧ fs.lookup f = some v ∧ Q v H1
theorem pe_getA {o : Expr} {to : TE} (ho : PE X o to) (hb : attributeBase o f X.env (eval o X.env) = eval o X.env := by rfl) : PE X (.Attribute o f pos) (tGetA X.K f to) := by
  constructor
  intro pins s σ H Q I h
  refine attr_of hb (thn (ho.run pins s σ H _ I h) ?_)
  rintro u s1 ⟨x, H1, J, r, a, C, fs, v, ex, ⟨d, ea, ed⟩, ⟨B, newId, initId, bmB, T⟩, hno, hv, q⟩
  subst ex
  cases (show u = Value.ref a from r)
  obtain ⟨t1, hobj⟩ := exo_at J.hok ea
  obtain ⟨mA, ns, rel⟩ := exd_at J.hok ed
  have rv := rel f
  rw [hv] at rv
  obtain ⟨u', hu, ru⟩ := RelO.some_of rv
  obtain ⟨od, hod, look⟩ := lookIn_ns ns
  have inst : PySem.W.InstAt s1.heap a { cls := .ref C, dict := some d, data := .fields #[.ref t1, .none, .none, .none, .bool false, .none] } C (some od) := ⟨hobj, rfl, rfl, hod⟩
  exact PySem.PX.exc_get J.kIn inst T.ga T.gt T.sub (PySem.W.findObj_own T.dct hno rfl (by rw [look, hu])) (handed_of ru) ⟨v, H1, J.tok _, ru, q⟩
end
end Hx

namespace Hx
open PySem PySem.Spec PyProof.Rows L2
theorem made_gone {H : Hp} {a d : Addr} {o1 o2 o3 o4 : HO} (na : H a = none) : upd (del (upd (upd (upd H a o1) d o2) a o3) a) d o4 = upd H d o4 := by
  funext b
  by_cases h : b = d
  · rw [h, upd_same, upd_same]
  · rw [upd_ne h, upd_ne h]
    by_cases k : b = a
    · rw [k, del_same, na]
    · rw [del_ne k, upd_ne k, upd_ne h, upd_ne k]
/-- raise C(y), C an own class that keeps its one parameter as f -/
def tRaise1 (i : Nat) (C : Addr) (f : Str) (W : WX) : TS := fun _ σ H => ∃ v, σ[i]? = some (some v) ∧ ∀ d, H d = none → W (.ref C) (some d) σ (upd H d (.xd [(f, v)]))
theorem ps_raise1 {X : Cx} {W : WX} {x y f : Str} {C : Addr} {i : Nat} {p py pos pos2 : Pos} (M : MkC X.prog X.w X.K X.mg X.base x C f) (ty : PySem.W.typeIn X.K (.ref C) = some (.type "type")) (hc : X.calm = true) (tk : Takes X W) (room : Room 2 X.A)
    (hg : Gl X x) (hy : PE X (.Name y py) (tVar i)) (hdb : (x == ("__debug__" : Str)) = false := by decide) (he : starEach [.Name y py] X.env = (false, eval (.Name y py) X.env) :: starEach [] X.env := by rfl)
    (hpl : (backTo pos (starEach [] X.env)).any (·.1) = false := by rfl) : PS X (.Raise (some (.Call (.Name x p) [.Name y py] [] pos)) none pos2) (tRaise1 i C f W) := by
  obtain ⟨fI, fd, B, newId, initId, bmB, T, hi, tI, F, hb, _⟩ := M.go
  constructor
  intro pins s σ H D I h
  obtain ⟨v, hv, q⟩ := h
  refine (ps_raise hc tk (pmk_own2 T ty hi tI F room hb hg M.m (pa_cons hy pa_nil he) hdb he hpl)).run pins s σ H D I ⟨v, hv, (by show 1 ≤ 1000; decide), fun a na => ⟨a, v, rfl, upd_same, fun d nd ne => ⟨rfl, d, [(f, v)], upd_same, ?_, ?_, ?_⟩⟩⟩
  · rw [upd_ne ne]
    exact upd_same
  · rw [upd_ne ne] at nd
    exact nd
  · rw [made_gone na]
    rw [upd_ne ne] at nd
    exact q d nd
end Hx

namespace Hx
open PySem PySem.Spec PyProof.Rows L2
/-! errors whose context is None, so that another one may be raised in their except suite -/
section
variable {P : Program} {w : World} {K : PySem.W.Frag} {mg : Str → Option Value} {base : Heap}
theorem _root_.L2.Fun.okN {x qual : Str} {st : Stmt} {f : Addr} {fd : FuncData} {N ps : List Str} {k : Nat} {sp : Sp} (F : Fun K x qual st f fd) (S : FnScope N ps (defScope st)) (len : ∀ vs H Q E, sp vs H Q E → vs.length = ps.length)
    (body : ∀ (cdv : Value) (A : Around) (outer : List Env) (s : Shared) (H : Hp) (vs : List V) (Q : VK) (E : XK), Room k (A.deeper (envOfC qual (defScope st) s.heap.objs.size f cdv)) → sp vs H Q E →
      ∃ t, PSs (cxOf (L2N.CX P w) P w K mg base N qual (defScope st) f cdv A outer s H E) (defBody st) t ∧ t { nx := fun _ H' => Q .non H', rt := Q } (start N vs) H) : FnOk P w K mg base (L2N.CX P w) (k + 1) f fd ps sp := by
  obtain ⟨oc, od, kV, doc, pm, an, cdv, ct, osl, rfl, lk, hcd⟩ := F.ex
  exact fn_of lk hcd S len fun A outer s H vs Q E hr hsp => body cdv A outer s H vs Q E hr hsp
theorem passN {X : Cx} : Passes (L2N.CX X.prog X.w) X E0 := fun _ _ _ _ _ _ _ h => by
  obtain ⟨a, B, H', cls, d, _, _, _, _, _, _, _, z⟩ := h
  exact z.elim
end
theorem cxUpN {P : Program} {w : World} : StX.CXUp (L2N.CX P w) := by
  intro outer s H s2 H2 E e s' un kp ho z
  obtain ⟨a, B, H', cls, d, ea, fl, hok, ub, na, os, ag, he⟩ := z
  have nx : ∀ b : Addr, b ∉ ([] : List Addr) := fun b => by simp
  have free : ∀ b o, s.heap.get? b = some o → H b = none → H2 b = none := fun b o q n => un.free b o q n (nx b)
  refine ⟨a, B, H', cls, d, ea, fl, hok, ?_, na, os.trans ho, ag, he⟩
  constructor
  · exact fun b o q n hb => ub.keep b o (kp b o q) (free b o q n) hb
  · exact fun b o q hb => ub.slot b o (kp b o q) hb
  · exact fun b o q n => ub.free b o (kp b o q) (free b o q n)
  · exact fun b o q hb => ub.there b o (kp b o q) hb
  · exact fun b xs q => ub.tups b xs (un.tups b xs q)
  · exact fun b o xs q => ub.frzs b o xs (un.frzs b o xs q)
  · intro b ps q
    obtain ⟨m1, e1⟩ := un.tbls b ps q
    obtain ⟨m2, e2⟩ := ub.tbls b _ e1
    refine ⟨m1 ++ m2, ?_⟩
    rw [e2, Array.append_assoc]
section
variable {X : Cx} {C fI : Addr} {fd : FuncData} {ps : List Str} {sp : Sp} {k : Nat} {B newId initId : String} {bmB : List Value}
  {x : Str} {p pos : Pos} {e : Expr} {es : List Expr} {ta : TA}
theorem pmk_own2N (T : ExK X.K C B newId initId bmB) (ty : PySem.W.typeIn X.K (.ref C) = some (.type "type")) (hi : PySem.W.findIn X.K (.ref C) "__init__" = some (some (.ref fI))) (tI : PySem.W.typeIn X.K (.ref fI) = some (.type "function"))
    (F1 : FnOk X.prog X.w X.K X.mg X.base CX0 k fI fd ps sp) (room : Room (k + 1) X.A) (hb : Binds X.K fd ps []) (hg : Gl X x) (hm : X.mg x = some (.ref C)) (ha : PA X (e :: es) ta)
    (hdb : (x == ("__debug__" : Str)) = false := by decide) (he : starEach (e :: es) X.env = (false, eval e X.env) :: starEach es X.env := by rfl) (hpl : (backTo pos (starEach es X.env)).any (·.1) = false := by rfl) :
    L2N.PMk X (.Call (.Name x p) (e :: es) [] pos) (tMkO C sp [] ta) := by
  intro pins s σ H Q I h
  refine wpAny_Call_Name_kw (ld_glob I hg hm ?_ hdb)
  refine PySem.W.callWith_K (h₀ := X.base) I.ok.mod.kin T.keep (thn (ha.run pos pins s σ H _ I h) fun us s1 ⟨vs, H1, I1, r1, few, q1⟩ => ⟨I1.kIn, ?_⟩) he hpl
  obtain ⟨nm, N, qn, bs0, bm, hdct, sn, sub, ab, col, dd, k0, k1, k2, k3, k5, hC, same⟩ := PySem.W.excInit_of I1.kIn T.made
  obtain ⟨hp, g, dr, tk, os⟩ := s1
  have above : hp.objs.size ≤ hp.objs.size + 1 := Nat.le_succ _
  have n0 : H1 (hp.objs.size + 1) = none := I1.hok.fresh above
  have q0 := q1 _ n0
  rw [List.append_nil] at q0
  have J : Inv X pins σ (upd H1 (hp.objs.size + 1) (exo (hp.objs.size + 1) C none)) ⟨PySem.EK.madeHeap hp C us, g, dr, tk, os⟩ :=
    I1.laid (t' := tk) (h' := PySem.EK.madeHeap hp C us) (fun b o e => PySem.EK.made_keep b o e) above (exo_ok PySem.EK.made_at)
  have rel2 : Vals (V.ref (hp.objs.size + 1) :: vs) (Value.ref (hp.objs.size + 1) :: us) := .cons rfl r1
  have hl : ((Value.ref (hp.objs.size + 1) :: us) ++ []).length = ps.length := by
    rw [List.append_nil, ← rel2.length]
    exact F1.len _ _ _ _ q0
  have small : us.length ≤ sizeLine := by
    rw [← r1.length]
    exact small_line few
  have bind := hb _ (Value.ref (hp.objs.size + 1) :: us) J.kIn hl
  rw [List.append_nil] at bind
  refine wpAny_call (PySem.EK.run_call T.facts same hC (PySem.W.looks_findIn I1.kIn hi) (fun self => PySem.W.bind_fn I1.kIn self tI) small ?_)
  refine codeAny_mono (F1.run _ X.stack _ _ ⟨Value.ref (hp.objs.size + 1) :: us, []⟩ _ _ _ (fun _ _ _ => False) (room.make C us []) (J.env0.make C us []) bind rel2 q0) ?_
  intro r s' hr
  cases r with
  | error e => exact (show False from hr).elim
  | ok fl =>
    cases fl with
    | next => exact hr.elim
    | brk => exact hr.elim
    | cont => exact hr.elim
    | ret u =>
      obtain ⟨v, H2, os2, bare2, un2, hok2, rv, ev, d, fs, ea, ed, hd1, q2⟩ := hr
      subst ev
      obtain ⟨h2, g2, d2, t2, os'⟩ := s'
      obtain ⟨t0, G, J2, kG, ge, hoe, na⟩ := mk_end0 (d2 := d2) (t2 := t2) I1 above (fun b o e => PySem.EK.made_keep b o e) un2 hok2 os2 bare2 ea ed hd1
      exact ⟨rv, _, _, _, ⟨G, g2, d2, t2, os'⟩, _, .ref C, some d, rfl, J2, kG, ge, hoe, ⟨rfl, rfl, fun vs hv => by cases hv; rfl⟩, rfl, rfl, na, rfl, bare2, raises_own T.sub ty, q2⟩
/-- the same while an exception is handled -/
theorem pmk_own2H (T : ExK X.K C B newId initId bmB) (ty : PySem.W.typeIn X.K (.ref C) = some (.type "type")) (hi : PySem.W.findIn X.K (.ref C) "__init__" = some (some (.ref fI))) (tI : PySem.W.typeIn X.K (.ref fI) = some (.type "function"))
    (F1 : L2H.FnH X.prog X.w X.K X.mg X.base CX0 k fI fd ps sp) (room : L2H.RoomH (k + 1) X.A) (hc : L2H.HotC X) (hb : Binds X.K fd ps []) (hg : Gl X x) (hm : X.mg x = some (.ref C)) (ha : PA X (e :: es) ta)
    (hdb : (x == ("__debug__" : Str)) = false := by decide) (he : starEach (e :: es) X.env = (false, eval e X.env) :: starEach es X.env := by rfl) (hpl : (backTo pos (starEach es X.env)).any (·.1) = false := by rfl) :
    L2H.PMk5 X (.Call (.Name x p) (e :: es) [] pos) (tMkO C sp [] ta) := by
  intro pins s σ H Q I h
  obtain ⟨pn, hot, hpn⟩ := hc
  refine wpAny_Call_Name_kw (ld_glob I hg hm ?_ hdb)
  refine PySem.W.callWith_K (h₀ := X.base) I.ok.mod.kin T.keep (thn (ha.run pos pins s σ H _ I h) fun us s1 ⟨vs, H1, I1, r1, few, q1⟩ => ⟨I1.kIn, ?_⟩) he hpl
  obtain ⟨nm, N, qn, bs0, bm, hdct, sn, sub, ab, col, dd, k0, k1, k2, k3, k5, hC, same⟩ := PySem.W.excInit_of I1.kIn T.made
  obtain ⟨hp, g, dr, tk, os⟩ := s1
  have above : hp.objs.size ≤ hp.objs.size + 1 := Nat.le_succ _
  have n0 : H1 (hp.objs.size + 1) = none := I1.hok.fresh above
  have q0 := q1 _ n0
  rw [List.append_nil] at q0
  have J : Inv X pins σ (upd H1 (hp.objs.size + 1) (exo (hp.objs.size + 1) C none)) ⟨PySem.EK.madeHeap hp C us, g, dr, tk, os⟩ :=
    I1.laid (t' := tk) (h' := PySem.EK.madeHeap hp C us) (fun b o e => PySem.EK.made_keep b o e) above (exo_ok PySem.EK.made_at)
  have rel2 : Vals (V.ref (hp.objs.size + 1) :: vs) (Value.ref (hp.objs.size + 1) :: us) := .cons rfl r1
  have hl : ((Value.ref (hp.objs.size + 1) :: us) ++ []).length = ps.length := by
    rw [List.append_nil, ← rel2.length]
    exact F1.len _ _ _ _ q0
  have small : us.length ≤ sizeLine := by
    rw [← r1.length]
    exact small_line few
  have bind := hb _ (Value.ref (hp.objs.size + 1) :: us) J.kIn hl
  rw [List.append_nil] at bind
  have P1 := J.pin pn (List.mem_append_left _ hpn)
  have hpin : L2H.PinOk X.stack (upd H1 (hp.objs.size + 1) (exo (hp.objs.size + 1) C none)) ⟨PySem.EK.madeHeap hp C us, g, dr, tk, os⟩ pn :=
    ⟨P1.1, P1.2.1, fun hmm => (List.mem_cons.mp (J.stkSub pn.1 hmm)).elim P1.2.2.1 P1.2.2.2.1, P1.2.2.2.2⟩
  refine wpAny_call (PySem.EK.run_call T.facts same hC (PySem.W.looks_findIn I1.kIn hi) (fun self => PySem.W.bind_fn I1.kIn self tI) small ?_)
  refine codeAny_mono (F1.run _ X.stack _ _ ⟨Value.ref (hp.objs.size + 1) :: us, []⟩ _ _ _ (fun _ _ _ => False) pn (room.make C us []) ⟨hot.1, hot.2⟩ hpin (J.env0.make C us []) bind rel2 q0) ?_
  intro r s' hr
  cases r with
  | error e => exact (show False from hr).elim
  | ok fl =>
    cases fl with
    | next => exact hr.elim
    | brk => exact hr.elim
    | cont => exact hr.elim
    | ret u =>
      obtain ⟨v, H2, os2, bare2, un2, hok2, rv, ev, d, fs, ea, ed, hd1, q2⟩ := hr
      subst ev
      obtain ⟨h2, g2, d2, t2, os'⟩ := s'
      obtain ⟨t0, G, J2, kG, ge, hoe, na⟩ := mk_end0 (d2 := d2) (t2 := t2) I1 above (fun b o e => PySem.EK.made_keep b o e) un2 hok2 os2 bare2 ea ed hd1
      refine ⟨rv, ⟨_, _, _, ⟨G, g2, d2, t2, os'⟩, _, .ref C, some d, rfl, J2, kG, ge, hoe, ⟨rfl, rfl, fun vs hv => by cases hv; rfl⟩, rfl, rfl, na, rfl, bare2, raises_own T.sub ty, q2⟩, fun a oe vs ea2 hg2 hd2 => ?_⟩
      cases ea2
      have hg3 : h2.get? (hp.objs.size + 1) = some oe := hg2
      rw [hoe] at hg3
      cases hg3
      cases hd2
      show (4 : Nat) < 6
      decide
end
theorem ps_raise1N {X : Cx} {W : WX} {x y f : Str} {C : Addr} {i : Nat} {p py pos pos2 : Pos} (M : MkC X.prog X.w X.K X.mg X.base x C f) (ty : PySem.W.typeIn X.K (.ref C) = some (.type "type")) (hc : X.calm = true) (tk : L2N.Takes X W) (room : Room 2 X.A)
    (hg : Gl X x) (hy : PE X (.Name y py) (tVar i)) (hdb : (x == ("__debug__" : Str)) = false := by decide) (he : starEach [.Name y py] X.env = (false, eval (.Name y py) X.env) :: starEach [] X.env := by rfl)
    (hpl : (backTo pos (starEach [] X.env)).any (·.1) = false := by rfl) : PS X (.Raise (some (.Call (.Name x p) [.Name y py] [] pos)) none pos2) (tRaise1 i C f W) := by
  obtain ⟨fI, fd, B, newId, initId, bmB, T, hi, tI, F, hb, _⟩ := M.go
  constructor
  intro pins s σ H D I h
  obtain ⟨v, hv, q⟩ := h
  refine (L2N.ps_raise hc tk (pmk_own2N T ty hi tI F room hb hg M.m (pa_cons hy pa_nil he) hdb he hpl)).run pins s σ H D I ⟨v, hv, (by show 1 ≤ 1000; decide), fun a na => ⟨a, v, rfl, upd_same, fun d nd ne => ⟨rfl, d, [(f, v)], upd_same, ?_, ?_, ?_⟩⟩⟩
  · rw [upd_ne ne]
    exact upd_same
  · rw [upd_ne ne] at nd
    exact nd
  · rw [made_gone na]
    rw [upd_ne ne] at nd
    exact q d nd
/-- an own exception class whose __init__ may run while an exception is handled -/
structure MkH (P : Program) (w : World) (K : PySem.W.Frag) (mg : Str → Option Value) (base : Heap) (x : Str) (C : Addr) (f : Str) : Prop where
  go : ∃ (fI : Addr) (fd : FuncData) (B newId initId : String) (bmB : List Value), ExK K C B newId initId bmB ∧ PySem.W.findIn K (.ref C) "__init__" = some (some (.ref fI)) ∧
    PySem.W.typeIn K (.ref fI) = some (.type "function") ∧ L2H.FnH P w K mg base CX0 1 fI fd ["self", f] (spIn1 C f) ∧ Binds K fd ["self", f] []
  m : mg x = some (.ref C)
theorem ps_raise1F {X : Cx} {W : WX} {x y f : Str} {C : Addr} {i j : Nat} {p py pos pos2 cpos : Pos} (M : MkH X.prog X.w X.K X.mg X.base x C f) (ty : PySem.W.typeIn X.K (.ref C) = some (.type "type")) (hc : L2H.HotC X) (tk : L2.Takes X W) (room : L2H.RoomH 2 X.A)
    (hg : Gl X x) (hy : PE X (.Name y py) (tVar i)) (hdb : (x == ("__debug__" : Str)) = false := by decide) (he : starEach [.Name y py] X.env = (false, eval (.Name y py) X.env) :: starEach [] X.env := by rfl)
    (hpl : (backTo pos (starEach [] X.env)).any (·.1) = false := by rfl) : PS X (.Raise (some (.Call (.Name x p) [.Name y py] [] pos)) (some (.Constant .none j cpos)) pos2) (tRaise1 i C f W) := by
  obtain ⟨fI, fd, B, newId, initId, bmB, T, hi, tI, F, hb⟩ := M.go
  constructor
  intro pins s σ H D I h
  obtain ⟨v, hv, q⟩ := h
  refine (L2H.ps_raiseHN hc tk (pmk_own2H T ty hi tI F room hc hb hg M.m (pa_cons hy pa_nil he) hdb he hpl)).run pins s σ H D I ⟨v, hv, (by show 1 ≤ 1000; decide), fun a na => ⟨a, v, rfl, upd_same, fun d nd ne => ⟨rfl, d, [(f, v)], upd_same, ?_, ?_, ?_⟩⟩⟩
  · rw [upd_ne ne]
    exact upd_same
  · rw [upd_ne ne] at nd
    exact nd
  · rw [made_gone na]
    rw [upd_ne ne] at nd
    exact q d nd
section
variable {P : Program} {w : World} {K : PySem.W.Frag} {mg : Str → Option Value} {base : Heap} {fI C : Addr} {fd : FuncData} {st : Stmt} {qual f : Str} {q1 q2 q3 q4 : Pos} {B newId initId : String} {bmB : List Value}
theorem ok_in1H (F : Fun K "__init__" qual st fI fd) (S : FnScope ["self", f] ["self", f] (defScope st))
    (hb : defBody st = [.Assign [.Attribute (.Name "self" q1) f q2] (.Name f q3) q4]) (v1 : Vis (defScope st) "self") (v2 : Vis (defScope st) f)
    (hd : (f == ("__debug__" : Str)) = false) (hc : (f == ("__classdict__" : Str)) = false) (T : ExK K C B newId initId bmB) (free : PySem.W.takerIn K C f = some none) :
    L2H.FnH P w K mg base CX0 1 fI fd ["self", f] (spIn1 C f) := by
  obtain ⟨oc, od, kV, doc, pm, an, cdv, ct, osl, rfl, lk, hcd⟩ := F.ex
  refine L2H.fn_ofH lk hcd S (fun vs H Q E h => ?_) (fun A outer s H vs Q E p hot hr h => ?_)
  · obtain ⟨a, v, rfl, _⟩ := h
    rfl
  obtain ⟨a, v, rfl, ha, q⟩ := h
  show ∃ t, PSs _ (defBody st) t ∧ _
  rw [hb]
  refine ⟨_, pss_one (ps_put T free (pe_var (i := 0) rfl v1) (pe_var (i := 1) rfl v2 hd hc)), ?_⟩
  exact ⟨_, rfl, _, rfl, a, rfl, .inl ⟨ha, fun d n ne => q d n ne⟩⟩
end
end Hx

/-! a generator def that raises at its first turn: what its call gives -/
namespace Zg
open PySem PySem.Spec PyProof.Rows L2 GenW
/-- the frame is left, what is pinned stays -/
theorem leaveGN {X : Cx} {W : WX} {E : XK} {s' : Shared} (hs : X.stack = X.env :: X.outer) (hf : X.env.frame = some X.env.locals) (hex : X.ex = []) {E₁ : Value → Shared → Prop} (hW : ∀ cls d σ H, W cls d σ H → E cls d H) {u : Value} (x : L2N.XE X W u s') :
    wpAny (model X.prog X.w) X.A (leaving X.env u) (fun _ s'' => L2N.CX X.prog X.w X.outer X.H_0 X.s_0 E u s'' ∧ ∀ p ∈ X.pn, s''.heap.get? p.1 = some p.2) E₁ s' := by
  obtain ⟨a, B, sI, pins, σ, H, cls, d, rfl, I, nb, up, sky, na, os, ag, w⟩ := x
  have fr : X.A.frames = some (X.env :: X.outer) := by rw [I.ok.frames, hs]
  have apart : ∀ b o, X.s_0.heap.get? b = some o → b ∉ X.fs → b ∉ frs X.stack := fun b o e hb hm => (List.mem_cons.mp (I.stkSub b hm)).elim (fun z => by
    have q := Nat.lt_of_lt_of_le (Heap.lt_size e) I.ok.above
    rw [z] at q
    exact Nat.lt_irrefl _ q) hb
  have ne : ∀ b, b ∉ X.ex := fun b hb => by rw [hex] at hb; cases hb
  have ground : ∀ p ∈ X.pn, B.get? p.1 = some p.2 := fun p hp => by
    obtain ⟨h1, _, h3, h4, _⟩ := I.pin p (List.mem_append_left _ hp)
    exact nb p.1 p.2 h1 fun hm => (List.mem_cons.mp (I.stkSub p.1 hm)).elim h3 h4
  have hokB := I.inGround nb
  have out : ∀ h', HandSPX.FlyingZ B X.outer a (L2N.Zn cls d) h' → s'.heap.UpToSlots h' → (L2N.CX X.prog X.w X.outer X.H_0 X.s_0 E (.ref a) { s' with heap := h' } ∧ ∀ p ∈ X.pn, ({ s' with heap := h' } : Shared).heap.get? p.1 = some p.2) := fun h' fl up' => by
    refine ⟨⟨a, B, H, cls, d, rfl, fl, hokB, ?_, na, os.trans I.os, ag, hW _ _ _ _ w⟩, fun p hp => fl.1 p.1 p.2 (ground p hp)⟩
    constructor
    · exact fun b o e n hb => nb b o (I.base.keep b o e n hb (ne b)) (apart b o e hb)
    · intro b o e hb
      obtain ⟨_, o₀, e₀, hnf⟩ := I.ok.funs.mem hb
      rw [e] at e₀; cases e₀
      obtain ⟨_, e1⟩ := I.base.slot b o e (I.ok.frf b hb) hb (ne b)
      obtain ⟨_, e2⟩ := up b _ e1 hnf
      obtain ⟨sl3, e3⟩ := up' b _ e2 hnf
      exact ⟨sl3, e3⟩
    · exact fun b o e n => I.base.free b o e n (ne b)
    · intro b o e hb
      obtain ⟨o', e1⟩ := I.base.there b o e (ne b)
      exact ⟨o', nb b o' e1 (apart b o e hb)⟩
    · exact I.base.tups
    · exact I.base.frzs
    · exact I.base.tbls
  rw [hs] at sky
  rcases sky with ⟨hB, hn, hl, oe, vs, he, hz, hd, h1⟩ | fl | hd
  · exact PXN.leaving_firstZ L2N.Zn.steady fr hl hf he hB hn hd h1 hz out
  · exact PXN.leaves_onZ L2N.Zn.steady fr hf fl out
  · exact HandSPX.leaves_heldZ hf hd out
/-- the context of a generator def's body -/
def gcxN (P : Program) (w : World) (K : PySem.W.Frag) (mg : Str → Option Value) (base : Heap) (N : List Str) (qual : Str) (scope : Scope) (f : Addr) (cd : Value) (A : Around) (outer : List Env) (s : Shared) (H : Hp) (E : XK) (pn : List (Addr × Obj)) : Cx :=
  { cxOf (L2N.CX P w) P w K mg base N qual scope f cd A outer s H E with
    pn := pn
    xe := fun e s' => wpAny (model P w) (A.deeper (envOfC qual scope s.heap.objs.size f cd)) (leaving (envOfC qual scope s.heap.objs.size f cd) e)
      (fun _ s'' => L2N.CX P w outer H s E e s'' ∧ ∀ p ∈ pn, s''.heap.get? p.1 = some p.2) (fun _ _ => False) s' }
theorem inv_gcxN {P : Program} {w : World} {K : PySem.W.Frag} {mg : Str → Option Value} {base : Heap} {N : List Str} {qual : Str} {scope : Scope} {f : Addr} {cd : Value} {A : Around} {outer : List Env} {s s1 : Shared} {H H' : Hp} {E : XK} {pn : List (Addr × Obj)} {σ : L2.St}
    (I : Inv (gcxOf P w K mg base N qual scope f cd A outer s H E pn) [] σ H' s1) : Inv (gcxN P w K mg base N qual scope f cd A outer s H E pn) [] σ H' s1 :=
  ⟨⟨I.ok.mod, I.ok.kind, I.ok.glob, I.ok.blt, I.ok.above, I.ok.inj, I.ok.has, I.ok.cab, I.ok.hd, I.ok.frames, I.ok.stk, I.ok.exf, I.ok.bs, I.ok.bsz, I.ok.noex, I.ok.exfs, I.ok.funs, I.ok.frf⟩, I.os, I.bare, I.base, I.loc, I.cell, I.free, I.freeC, I.pin, I.hok, I.len⟩
/-- a generator that has not begun and raises when it does; one object of the consumer's stays as it is meanwhile -/
def GRz (P : Program) (w : World) (k : Nat) (outer : List Env) (H : Hp) (s : Shared) (E : XK) (u : Value) (s' : Shared) : Prop :=
  ∃ (a : Addr) (g : Nat) (c : Code), u = .ref a ∧ s.heap.objs.size ≤ a ∧ s'.heap.IsGen a g ∧ s'.gens[g]? = some (.fresh c) ∧ s'.os = s.os ∧ AllBare s'.gens ∧ s'.heap.NoLimit ∧ (∀ b o, s.heap.get? b = some o → s'.heap.get? b = some o) ∧
    ∀ (A : Around) (zp : Addr × Obj) (s2 : Shared), Room k A → A.frames = some outer → s'.heap.objs.size ≤ zp.1 → s2.heap.get? zp.1 = some zp.2 → (∀ v, zp.2.data ≠ .cell v) → (∀ b o, s'.heap.get? b = some o → s2.heap.get? b = some o) → s2.os = s.os → AllBare s2.gens →
      Seg (model P w) A (fun _ _ r s1 => ∃ e, r = .error e ∧ L2N.CX P w outer H s E e s1 ∧ s1.heap.IsGen a g ∧ s1.heap.get? zp.1 = some zp.2) (fun _ _ _ _ _ => False) 0 s2 c ((model P w).den c) [] s2
structure GRaise (P : Program) (w : World) (K : PySem.W.Frag) (mg : Str → Option Value) (base : Heap) (k : Nat) (f : Addr) (fd : FuncData) (ps : List Str) (sp : List V → Hp → XK → Prop) : Prop where
  len : ∀ vs H E, sp vs H E → vs.length = ps.length
  run : ∀ (A : Around) (outer : List Env) (s : Shared) (H : Hp) (args : Args) (us : List Value) (vs : List V) (E : XK), Room k A → Env0 P w K mg base A outer s H → BindsTo s fd args (ps.zip us) → Vals vs us → sp vs H E →
    codeAny (model P w) A (.call (.ref f) args) (fun r s' => match r with | .ok (.ret u) => GRz P w k outer H s E u s' | _ => False) s
theorem graise_of {P : Program} {w : World} {K : PySem.W.Frag} {mg : Str → Option Value} {base : Heap} {k : Nat} {f : Addr} {name qual : Str} {params : Arguments} {body : List Stmt} {scope : Scope} {dV kV doc pm cdv ct oc : Value} {an od : Option Addr}
    {osl : Array (Option Value)} {N ps : List Str} {sp : List V → Hp → XK → Prop} (lk : K.lookup f = some ⟨oc, od, .func (PySem.W.fnOf name qual params body scope dV kV doc pm an cdv ct), osl⟩) (hcd : PySem.W.codeIn K cdv qual = true) (S : GScope N ps scope)
    (len : ∀ vs H E, sp vs H E → vs.length = ps.length)
    (hbody : ∀ (A : Around) (outer : List Env) (s : Shared) (H : Hp) (vs : List V) (E : XK) (pn : List (Addr × Obj)), Room k (A.deeper (envOfC qual scope s.heap.objs.size f cdv)) → sp vs H E →
      ∃ t, PSs (gcxN P w K mg base N qual scope f cdv A outer s H E pn) body t ∧ t { nx := fun _ _ => False, rt := fun _ _ => False } (start N vs) H) :
    GRaise P w K mg base (k + 1) f (PySem.W.fnOf name qual params body scope dV kV doc pm an cdv ct) ps sp := by
  refine ⟨len, fun A outer s H args us vs E hr e0 hb r hsp => ?_⟩
  have hl := len _ _ _ hsp
  have KX : K.In s.heap := e0.mod.kin.keeps fun b o e => (e0.bs b o e).1
  have lim : s.heap.NoLimit := e0.mod.nolimit.keeps fun b o e => (e0.bs b o e).1
  refine codeAny_call_generator hr.depth (KX _ _ lk) rfl S.co S.gen rfl (PySem.W.codeRec_of KX hcd) (hb _ _ _ _ ?_)
  refine wpAny_newFunctionEnv_cells S.kind (fun y hy => ?_) fun env he s1 x => ?_
  · obtain ⟨n, v⟩ := y
    rcases S.par n (List.of_mem_zip hy).1 with q | q
    · exact .inl q
    · exact .inr ⟨q, PySem.W.cellsFrom_some _ _ _ (.inl q)⟩
  subst he
  have lim1 : s1.heap.NoLimit := lim.keeps x.toInCall.keep
  refine ⟨lim1, ?_⟩
  obtain ⟨h1, tk, es1, hk1⟩ := x.done
  have os1 : s1.os = s.os := by rw [es1]
  have gen1 : s1.gens = s.gens := by rw [es1]
  have kp1 : ∀ b o, s.heap.get? b = some o → s1.heap.get? b = some o := x.toInCall.keep
  have sz1 : s.heap.objs.size ≤ s1.heap.objs.size := Nat.le_of_lt x.toInCall.ns.lt
  have lt1 : s.heap.objs.size < s1.heap.objs.size := x.toInCall.ns.lt
  have all : ∀ (go : Obj) (nm qn : Value) (tk2 : Nat), go.cls = .type "generator" → go.data = .fields #[.int s1.gens.size 0, nm, qn] → go.slots = #[] → (s1.heap.push go).get? s1.heap.objs.size = some go →
      GRz P w (k + 1) outer H s E (.ref s1.heap.objs.size) { s1 with gens := s1.gens.push (.fresh (.func body (envOfC qual scope s.heap.objs.size f cdv))), toks := tk2, heap := s1.heap.push go } := by
    intro go nm qn tk2 hc hd hs hp
    have up : ∀ b o, s1.heap.get? b = some o → (s1.heap.push go).get? b = some o := fun b o e => Heap.get?_push_of_some _ e
    refine ⟨s1.heap.objs.size, s1.gens.size, _, rfl, sz1, ⟨go, nm, qn, hp, hc, hd, hs⟩, Array.getElem?_push_size .., os1, AllBare.push (by rw [gen1]; exact e0.bare) rfl, lim1.keeps up, fun b o e => up b o (kp1 b o e), ?_⟩
    intro Aw zp s2 hrw hfr hz1 hz2 hz3 hk2 hos hba
    have e0w : Env0 P w K mg base Aw outer s H := ⟨hfr, e0.mod, e0.bs, e0.bsz, e0.funs, e0.frf, e0.hok, e0.bare⟩
    obtain ⟨t, ht, hq⟩ := hbody Aw outer s H vs E [(s1.heap.objs.size, go), zp] (hrw.deeper _) hsp
    have I1 : Inv (gcxOf P w K mg base N qual scope f cdv Aw outer s H E []) [] (start N vs) H s1 := inv_startG S hrw.hd e0w hl r x
    have kp2 : ∀ b o, s1.heap.get? b = some o → s2.heap.get? b = some o := fun b o e => hk2 b o (up b o e)
    have I2 : Inv (gcxOf P w K mg base N qual scope f cdv Aw outer s H E []) [] (start N vs) H s2 :=
      I1.call' (ch := []) (hos.trans os1.symm) (Un.kept kp2) (I1.hok.kept kp2) hba fun b z => nomatch z
    have young : ∀ b, s1.heap.objs.size ≤ b → H b = none ∧ b ≠ s.heap.objs.size ∧ b ∉ frs outer := fun b hb => ⟨I1.hok.fresh hb, Nat.ne_of_gt (Nat.lt_of_lt_of_le lt1 hb), I1.nofs hb⟩
    have hz1' : s1.heap.objs.size ≤ zp.1 := by
      have q : (s1.heap.push go).objs.size ≤ zp.1 := hz1
      rw [Heap.size_push] at q
      omega
    have I3 : Inv (gcxOf P w K mg base N qual scope f cdv Aw outer s H E [(s1.heap.objs.size, go), zp]) [] (start N vs) H s2 := Inv.pinnedG I2 fun p hpp => by
      have e : p = (s1.heap.objs.size, go) ∨ p = zp := by simpa using hpp
      rcases e with rfl | rfl
      · obtain ⟨y1, y2, y3⟩ := young s1.heap.objs.size (Nat.le_refl _)
        exact ⟨hk2 _ _ hp, y1, y2, y3, fun v q => by rw [hd] at q; cases q⟩
      · obtain ⟨y1, y2, y3⟩ := young p.1 hz1'
        exact ⟨hz2, y1, y2, y3, hz3⟩
    refine seg_func (seg_wrap ?_)
    rw [over_func]
    refine wpAny_mono (ht.run [] s2 (start N vs) H _ (inv_gcxN I3) hq) (fun fl s' z => ?_) (fun e s' he => ?_)
    · cases fl with
      | next => obtain ⟨_, _, _, q⟩ := z; exact q.elim
      | brk => obtain ⟨_, _, _, q⟩ := z; exact q.elim
      | cont => obtain ⟨_, _, _, q⟩ := z; exact q.elim
      | ret u => obtain ⟨_, _, _, _, _, q⟩ := z; exact q.elim
    · refine seg_wrap ?_
      rw [over_func]
      exact wpAny_mono (show wpAny (model P w) (Aw.deeper (envOfC qual scope s.heap.objs.size f cdv)) (leaving (envOfC qual scope s.heap.objs.size f cdv) e) (fun _ s'' => L2N.CX P w outer H s E e s'' ∧ ∀ p ∈ [(s1.heap.objs.size, go), zp], s''.heap.get? p.1 = some p.2) (fun _ _ => False) s' from he)
        (fun _ s'' q => seg_end (.error e) ⟨e, rfl, q.1, ⟨go, nm, qn, q.2 (s1.heap.objs.size, go) List.mem_cons_self, hc, hd, hs⟩, q.2 zp (List.mem_cons_of_mem _ (List.mem_singleton.mpr rfl))⟩) fun _ _ q => q.elim
  exact all _ _ _ _ rfl rfl rfl (Heap.get?_push_size _ rfl)
end Zg

/-! the consumer's object is set while the exception flies -/
namespace Zg
open PySem PySem.Spec PyProof.Rows L2 GenW
/-- an exception of an own class that tells v and nothing else has changed -/
def OnlyE (C : Addr) (H : Hp) (fs : List (Str × V)) : XK := fun cls d H' => cls = .ref C ∧ ∃ dd, d = some dd ∧ H dd = none ∧ H' = upd H dd (.xd fs)
theorem cx_upd {P : Program} {w : World} {outer : List Env} {H : Hp} {sc s1 : Shared} {C : Addr} {fs : List (Str × V)} {e : Value} {z TI TO : Addr} {h'' : Heap} {gens : Array GenState} (hHz : H z = none) (hsz : sc.heap.objs.size ≤ z)
    (hz : IsZip s1.heap z TI TO .ellipsis) (hg : AllBare gens) (hs : Heap.SameBut z s1.heap h'')
    (c : L2N.CX P w outer H sc (OnlyE C H fs) e s1) : L2N.CX P w outer H sc (OnlyE C H fs) e { s1 with heap := h'', gens := gens } := by
  obtain ⟨a, B, H', cls, d, rfl, ⟨st, na0, ff, tr⟩, hok, ub, na, os, ag, hE⟩ := c
  obtain ⟨ec, dd, ed, hdd, eH⟩ := id hE
  obtain ⟨G, g1, g2⟩ := restrict B fun b => decide (b ≠ z)
  have gz : G.get? z = none := g2 z (by simp)
  have gB : ∀ b o, G.get? b = some o → b ≠ z ∧ B.get? b = some o := fun b o q => by
    by_cases hb : b = z
    · rw [hb, gz] at q
      cases q
    · exact ⟨hb, by rw [← g1 b (by simp [hb])]; exact q⟩
  have Bg : ∀ b o, b ≠ z → B.get? b = some o → G.get? b = some o := fun b o hb q => by rw [g1 b (by simp [hb])]; exact q
  have kk : ∀ b o, b ≠ z → s1.heap.get? b = some o → h''.get? b = some o := fun b o hb q => (hs.2 b hb).trans q
  have ddz : dd ≠ z := fun q => by
    have h1 := hok dd (.xd fs) (by rw [eH, upd_same])
    obtain ⟨mA, ⟨o, es, ep, h2, h3, _⟩, _⟩ := h1
    have h4 := st _ _ h2
    rw [q] at h4
    have h5 : s1.heap.get? z = _ := hz
    rw [h5] at h4
    cases h4
    cases h3
  have hz' : H' z = none := by rw [eH, upd_ne (Ne.symm ddz)]; exact hHz
  have old : ∀ b o, sc.heap.get? b = some o → b ≠ z := fun b o q => Nat.ne_of_lt (Nat.lt_of_lt_of_le (Heap.lt_size q) hsz)
  have az : a ≠ z := fun q => by
    obtain ⟨oe, vs, T, oT, ts, h1, h2, _⟩ := tr
    rw [q] at h1
    have h5 : s1.heap.get? z = _ := hz
    rw [h5] at h1
    cases h1
    have h6 := h2.1
    rw [ec] at h6
    cases h6
  refine ⟨a, G, H', cls, d, rfl, ⟨fun b o q => ?_, ?_, ?_, ?_⟩, fun b u q => ?_, ⟨fun b o h1 h2 h3 => ?_, fun b o h1 h2 => ?_, ub.free, fun b o h1 h2 => ?_, ub.tups, ub.frzs, ub.tbls⟩, na, os, hg, hE⟩
  · obtain ⟨q1, q2⟩ := gB b o q
    exact kk b o q1 (st b o q2)
  · cases q : G.get? a with
    | none => rfl
    | some o =>
      obtain ⟨_, q2⟩ := gB a o q
      rw [na0] at q2
      cases q2
  · refine funFrames_none (base := B) (ff.of_keeps fun b o q hd => ⟨o, kk b o (fun hb => ?_) q, rfl⟩) fun L hL => ?_
    · rw [hb] at q
      have h5 : s1.heap.get? z = _ := hz
      rw [h5] at q
      cases q
      exact hd _ rfl
    · cases q : G.get? L with
      | none => rfl
      | some o =>
        obtain ⟨_, q2⟩ := gB L o q
        rw [(ff.mem hL).1] at q2
        cases q2
  · obtain ⟨oe, vs, T, oT, ts, h1, h2, h3, h4, h5, h6, h7, h8, h9⟩ := tr
    have Tz : T ≠ z := fun q => by
      rw [q] at h7
      have q5 : s1.heap.get? z = _ := hz
      rw [q5] at h7
      cases h7
      cases h8
      cases h9
    refine ⟨oe, vs, T, oT, ts, kk _ _ az h1, h2, h3, h4, ?_, h6, kk _ _ Tz h7, h8, h9⟩
    cases q : G.get? T with
    | none => rfl
    | some o =>
      obtain ⟨_, q2⟩ := gB T o q
      rw [h5] at q2
      cases q2
  · refine (hok b u q).stay (fun c v hc y => Bg c v ?_ y) (fun _ y => y) fun _ _ y => y
    rcases hc with y | y
    · rw [y]; exact fun hb => by rw [hb, hz'] at q; cases q
    · exact fun hb => by rw [hb, hz'] at y; cases y
  · exact Bg b o (old b o h1) (ub.keep b o h1 h2 h3)
  · obtain ⟨sl, q⟩ := ub.slot b o h1 h2
    exact ⟨sl, kk b _ (old b o h1) q⟩
  · obtain ⟨o', q⟩ := ub.there b o h1 h2
    exact ⟨o', Bg b o' (old b o h1) q⟩
end Zg

namespace Hx
open PySem PySem.Spec PyProof.Rows L2
/-- the class at C tells its text by a def of its own, whose promise is sp -/
structure TellsBy (P : Program) (w : World) (K : PySem.W.Frag) (mg : Str → Option Value) (base : Heap) (k : Nat) (C : Addr) (sp : Sp) : Prop where
  cls : Cls K C
  go : ∃ (g : Addr) (fd : FuncData), PySem.W.findIn K (.ref C) "__str__" = some (some (.ref g)) ∧ PySem.W.isFn K (.ref g) = true ∧
    FnOk P w K mg base CX0 k g fd ["self"] sp ∧ Binds K fd ["self"] []
/-- str(x): a number, a text, or an object that tells its text -/
def rTell (P : Program) (w : World) (K : PySem.W.Frag) (mg : Str → Option Value) (base : Heap) (k : Nat) : List V → Hp → VK → Prop := fun xs H Q => ∃ x, xs = [x] ∧
  ((∃ i : Int, x = .int i ∧ i.natAbs.log2 < 1920 ∧ Q (.str (toString i)) H) ∨ (∃ y : Str, x = .str y ∧ Q (.str y) H) ∨
    ∃ (a C dx : Addr) (fs : List (Str × V)) (sp : Sp), x = .ref a ∧ H a = some (.ins C dx fs) ∧ TellsBy P w K mg base k C sp ∧
      sp [.ref a] H (fun v H' => ∃ y : Str, v = .str y ∧ Q (.str y) H') E0)
theorem Room.less {k j : Nat} {A : Around} (r : Room k A) (h : j ≤ k) : Room j A := r.mono h
theorem call_tell {X : Cx} {k : Nat} (room : Room (k + 2) X.A) : CallR X (.type "str") (rTell X.prog X.w X.K X.mg X.base k) := by
  intro pins s σ H xs us Q I r h
  obtain ⟨x, rfl, ⟨i, rfl, small, q⟩ | ⟨y, rfl, q⟩ | ⟨a, C, dx, fs, sp, rfl, ha, T, q⟩⟩ := h
  · exact call_str_int pins s σ H _ us Q I r ⟨i, rfl, small, q⟩
  · exact SkE.call_str_str pins s σ H _ us Q I r ⟨y, rfl, q⟩
  · rw [Vals.ref1 r]
    obtain ⟨mA, O, _, _, _, _⟩ := ins_get I.hok ha
    obtain ⟨od, J, _⟩ := O.look
    obtain ⟨g, fd, hs, hf, F, b⟩ := T.go
    refine PySem.W.kso_call (by have := room.units; show _ < _; exact Nat.lt_of_le_of_lt (Nat.le_add_right _ 64) room.in1.in1.units) I.kIn J hs hf ?_
    have go := F.run X.A.in1.in1 X.stack s H ⟨[.ref a], []⟩ [.ref a] [.ref a] _ E0 room.in1.in1 I.env0.in1.in1 (b s [.ref a] I.kIn rfl) (.cons rfl .nil) q
    refine wpAny_call (codeAny_mono go ?_)
    intro r' s' hr
    cases r' with
    | error e => exact (show False from hr).elim
    | ok fl =>
      cases fl with
      | ret u =>
        obtain ⟨v, H', J', rv, y, ev, qy⟩ := I.after hr
        subst ev
        obtain ⟨t, rfl⟩ := rv
        exact ⟨.str y, H', J', ⟨t, rfl⟩, qy⟩
      | next => exact hr.elim
      | brk => exact hr.elim
      | cont => exact hr.elim
end Hx

/-! operators of an own class without slots; a text times a number; a method called by keywords; dead rows -/
namespace Hx
open PySem PySem.Spec PyProof.Rows L2
/-- a row that is never reached -/
theorem ps_dead {X : Cx} {st : Stmt} : PS X st (fun _ _ _ => False) := ⟨fun _ _ _ _ _ _ h => h.elim⟩
section
variable {X : Cx}
theorem op_mul_str : OpR X (binaryOp .Mult) (fun x y H Q => ∃ z k, x = .str z ∧ y = .int k ∧ MulOk z k ∧ Q (.str (Txt.mul z k)) H) := by
  intro pins s σ H x y v u Q I rx ry h
  obtain ⟨z, k, rfl, rfl, hz, q⟩ := h
  obtain ⟨t, rfl⟩ := rx
  obtain ⟨t', rfl⟩ := ry
  exact SB.mul hz (fun t' tk => ⟨.str (Txt.mul z k), H, I.tok _, ⟨_, rfl⟩, q⟩)
end
/-- o.m(k = v, ..) -/
def tMethK (C : Addr) (m : Str) (sp : Sp) (gV : List V → List V → List V) (E : XK) (ta : TE) (tk : TA) : TE := fun σ H Q => ta σ H fun x H1 => ∃ a dx fs, x = .ref a ∧ H1 a = some (.ins C dx fs) ∧ fs.lookup m = none ∧
  tk σ H1 fun zs H2 => sp (gV [x] zs) H2 Q E
section
variable {X : Cx} {CX : CXT} {k : Nat} {f C : Addr} {fd : FuncData} {ps ks : List Str} {sp : Sp} {E : XK} {m : Str} {pos apos : Pos} {o : Expr} {kws : List Keyword} {ta : TE} {tk : TA}
  {g : List Value → List Value → List Value} {gV : List V → List V → List V}
theorem pe_methK {pl : Sem Bool} (he : PE X o ta) (c : Cls X.K C) (hm : Meth X.K C m f) (F : FnOk X.prog X.w X.K X.mg X.base CX k f fd ps sp) (hr : Room k X.A) (hb : KBinds X.K fd ps ks g gV) (hx : Passes CX X E) (hkw : PK X kws tk)
    (hall : (backToKw pos (keywordEach kws X.env)).all (·.1.isSome) = true := by rfl) (hks : (backToKw pos (keywordEach kws X.env)).filterMap (·.1) = ks := by rfl)
    (hpl : ((backTo pos (starEach [] X.env)).any (·.1) || (backToKw pos (keywordEach kws X.env)).any (·.1.isNone)) = false := by rfl)
    (ht : eval (.Call (.Attribute o m apos) [] kws pos) X.env = (do
      let ov ← eval o X.env
      standAt apos.atName
      let (f, first) ← holding [ov] (getMethod ov m pl)
      callWith pos f first (backTo pos (starEach [] X.env)) (backToKw pos (keywordEach kws X.env))) := by rfl) :
    PE X (.Call (.Attribute o m apos) [] kws pos) (tMethK C m sp gV E ta tk) := by
  refine ⟨fun pins s σ H Q I h => ?_⟩
  refine PySem.W.methodCall_KW (pl := pl) (thn (he.run pins s σ H _ I h) fun u s1 ⟨x, H1, I1, rx, a, dx, fs, ex, ea, l, q⟩ => ?_) ht
  subst ex
  obtain rfl : u = Value.ref a := rx
  refine getmeth_ok I1 ea c hm l ?_
  refine PySem.W.callWith_KW0 (first := [.ref a]) (h₀ := X.base) I.ok.mod.kin hm.kp hall ?_ hpl
  refine thn (hkw.run pos pins s1 σ H1 _ I1 q) fun ws s2 ⟨zs, H2, I2, rz, q2⟩ => ⟨I2.kIn, ?_⟩
  rw [hks]
  exact run_fnk (us := [.ref a]) (vs := [.ref a]) F hr hb hx I2 (.cons rfl .nil) rz q2
end
/-- o[i] where the class at C tells its items by a def of its own -/
structure ItemBy (P : Program) (w : World) (K : PySem.W.Frag) (mg : Str → Option Value) (base : Heap) (k : Nat) (C : Addr) (ps : List Str) (sp : Sp) : Prop where
  go : ∃ (g : Addr) (fd : FuncData), PySem.W.findIn K (.ref C) "__getitem__" = some (some (.ref g)) ∧ PySem.W.fnIn K g = true ∧ PySem.W.isFn K (.ref g) = true ∧
    FnOk P w K mg base CX0 k g fd ps sp ∧ Binds K fd ps []
def rItem (C : Addr) (sp : Sp) : R2 := fun x y H Q => ∃ (a dx : Addr) (fs : List (Str × V)), x = .ref a ∧ H a = some (.ins C dx fs) ∧ sp [x, y] H Q E0
section
variable {X : Cx} {k : Nat} {C : Addr} {ps : List Str} {sp : Sp}
theorem run_below {pins : List (Addr × Obj)} {σ : L2.St} {H : Hp} {s : Shared} {Q : VK} {us : List Value} {vs : List V} {A1 : Around} {f : Addr} {fd : FuncData}
    (F : FnOk X.prog X.w X.K X.mg X.base CX0 k f fd ps sp) (hr : Room k A1) (e0 : Env0 X.prog X.w X.K X.mg X.base A1 X.stack s H) (hb : Binds X.K fd ps []) (I : Inv X pins σ H s) (r : Vals vs us) (h : sp vs H Q E0) :
    wpAny (model X.prog X.w) A1 (call (.ref f) us) (EP X pins σ Q) X.xe s := by
  have l := F.len vs H Q E0 h
  have hl : us.length = ps.length := by rw [← r.length]; exact l
  have b := hb s us I.kIn (by rw [List.append_nil]; exact hl)
  rw [List.append_nil] at b
  refine wpAny_call (codeAny_mono (F.run A1 X.stack s H ⟨us, []⟩ us vs Q E0 hr e0 b r h) fun r s' hq => ?_)
  cases r with
  | error e => exact (show False from hq).elim
  | ok fl =>
    cases fl with
    | ret u => exact I.after hq
    | next => exact hq.elim
    | brk => exact hq.elim
    | cont => exact hq.elim
theorem pe_ixO {e i : Expr} {pos : Pos} {te ti : TE} (T : ItemBy X.prog X.w X.K X.mg X.base k C ps sp) (hr : Room (k + 1) X.A) (he : PE X e te) (hi : PE X i ti)
    (hsl : ∀ (a : Addr) (u : Value), subscripted i true (.ref a) u = runValue (.builtin "lifetime.subscript" ⟨[.ref a, u], []⟩)) : PE X (.Subscript e i pos) (tOp (rItem C sp) te ti) := by
  refine ⟨fun pins s σ H Q I h => ?_⟩
  refine Subscript_ (binT he hi I h fun v u s2 x y H2 I2 rx ry q => ?_)
  obtain ⟨a, dx, fs, rfl, ha, q⟩ := q
  cases (show v = Value.ref a from rx)
  obtain ⟨g, fd, h1, h2, h3, F, b⟩ := T.go
  obtain ⟨mA, O, _⟩ := ins_get I2.hok ha
  obtain ⟨od, J, _⟩ := O.look
  obtain ⟨m, hF⟩ := I2.fr
  exact PySem.W.sub_K hF I2.ok.mod.kin J h1 h2 h3 (run_below F hr.in1 I2.env0.in1 b I2 (.cons rx (.cons ry .nil)) q) (hsl _ _)
end
/-- x == y by the class's own def -/
structure EqBy (P : Program) (w : World) (K : PySem.W.Frag) (mg : Str → Option Value) (base : Heap) (k : Nat) (C : Addr) (ps : List Str) (sp : Sp) : Prop where
  go : ∃ (g : Addr) (fd : FuncData), PySem.W.findIn K (.ref C) "__eq__" = some (some (.ref g)) ∧ PySem.W.isFn K (.ref g) = true ∧
    FnOk P w K mg base CX0 k g fd ps sp ∧ Binds K fd ps []
  ne : PySem.W.findIn K (.ref C) "__ne__" = some (some (.builtin "object.__ne__"))
  obj : PySem.W.mroIn K C (.type "object") = some true
  str : PySem.W.notFirst K C (.type "str") = true
  tup : PySem.W.notFirst K C (.type "tuple") = true
/-- the right operand: a text, a tuple, an object of this class -/
def Right (C : Addr) (H : Hp) (y : V) : Prop := (∃ z : Str, y = .str z) ∨ (∃ (b : Addr) (xs : List V), y = .ref b ∧ H b = some (.tup xs)) ∨ ∃ (b dx : Addr) (fs : List (Str × V)), y = .ref b ∧ H b = some (.ins C dx fs)
def rEqO (C : Addr) (sp : Sp) : R2 := fun x y H Q => ∃ (a dx : Addr) (fs : List (Str × V)), x = .ref a ∧ H a = some (.ins C dx fs) ∧ Right C H y ∧ sp [x, y] H (fun v H' => ∃ k, v = .bl k ∧ Q (.bl k) H') E0
def rNeO (C : Addr) (sp : Sp) : R2 := fun x y H Q => ∃ (a dx : Addr) (fs : List (Str × V)), x = .ref a ∧ H a = some (.ins C dx fs) ∧ Right C H y ∧ sp [x, y] H (fun v H' => ∃ k, v = .bl k ∧ Q (.bl (!k)) H') E0
section
variable {X : Cx} {k : Nat} {C : Addr} {ps : List Str} {sp : Sp} {P : Program} {w : World} {K : PySem.W.Frag} {mg : Str → Option Value} {base : Heap}
theorem right_of {pins : List (Addr × Obj)} {σ : L2.St} {H : Hp} {s : Shared} {y : V} {u : Value} (T : EqBy P w K mg base k C ps sp) (I : Inv X pins σ H s) (ry : RelV y u) (r : Right C H y) :
    ∃ tb, PySem.W.Looks (model X.prog X.w) s.heap (typeOf u) tb ∧ PySem.W.notFirst K C tb = true := by
  rcases r with ⟨z, rfl⟩ | ⟨b, xs, rfl, hb⟩ | ⟨b, dx, fs, rfl, hb⟩
  · obtain ⟨t, rfl⟩ := ry
    exact ⟨.type "str", .of_pure rfl, T.str⟩
  · cases (show u = Value.ref b from ry)
    obtain ⟨its, _, ⟨o, ho, hc, _⟩, _⟩ := I.tuple (SqT.of hb)
    exact ⟨.type "tuple", hc ▸ (PySem.W.Looks.ld ho).andThen .now, T.tup⟩
  · cases (show u = Value.ref b from ry)
    obtain ⟨mA, O, _⟩ := ins_get I.hok hb
    obtain ⟨od, J, _⟩ := O.look
    exact ⟨.ref C, J.type, by unfold PySem.W.notFirst; simp⟩
theorem op_eqO (T : EqBy X.prog X.w X.K X.mg X.base k C ps sp) (hr : Room k X.A) : OpR X (compareOp .Eq) (rEqO C sp) := by
  intro pins s σ H x y v u Q I rx ry h
  obtain ⟨a, dx, fs, rfl, ha, r, q⟩ := h
  obtain ⟨tb, hb, hn⟩ := right_of T I ry r
  cases (show v = Value.ref a from rx)
  obtain ⟨g, fd, h1, h2, F, b⟩ := T.go
  obtain ⟨mA, O, _⟩ := ins_get I.hok ha
  obtain ⟨od, J, _⟩ := O.look
  obtain ⟨m, hF⟩ := I.fr
  refine PySem.W.cmp_ofEq (PySem.W.cmp_K (op := .Eq) hr.units0 hF I.ok.mod.kin J hb hn h1 h2 ?_)
  refine wpAny_mono (run_below F hr I.env0 b I (.cons rx (.cons ry .nil)) q) (fun w' s' z => ?_) fun _ _ e => e
  obtain ⟨z', H', I', rz, kk, rfl, qz⟩ := z
  cases (show w' = Value.bool kk from rz)
  exact ⟨.bl kk, H', I', rfl, qz⟩
end
end Hx
namespace Hx
open PySem PySem.Spec PyProof.Rows L2
section
variable {prog : Program} {w : World} {A : Around} {E : Value → Shared → Prop} {s : Shared} {K : PySem.W.Frag} {x C L f : Addr} {h₀ : Heap} {m : Str → Option Value} {ox : Obj} {od : Option Obj} {name : Str} {b tb : Value}
theorem ifBound_B {M : Model} {args : List Value} {id : String} {Q : Option Value → Shared → Prop} (X : K.In s.heap) (I : PySem.W.InstAt s.heap x ox C od) (hs : PySem.W.findIn K (.ref C) name = some (some (.builtin id)))
    (hb : ∀ self, bindSpecial (.builtin id) self = pure (.builtin id, [self])) (h : wpAny M A (call (.builtin id) (.ref x :: args)) (fun v => Q (some v)) E s) : wpAny M A (callSpecialIfBound? (.ref x) name args) Q E s := by
  simp only [callSpecialIfBound?, bindSpecialIfBound?]
  refine wpAny_holding (wpAny_bind (wpAny_bind (wpAny_bind (I.type.here ((PySem.W.looks_findIn X hs).here ?_)))))
  refine wpAny_bind (wpAny_askSetting (wpAny_ite ?_))
  have fin : wpAny M A (call (.builtin id) ([.ref x] ++ args) >>= fun v => pure (some v)) Q E s := wpAny_bind (wpAny_mono h (fun v s' h' => wpAny_pure h') fun _ _ h' => h')
  split
  · exact wpAny_bind ((PySem.W.Looks.of_pure (hb _)).here (wpAny_pure (by exact fin)))
  · exact wpAny_tryCatch (wpAny_bind ((PySem.W.Looks.of_pure (hb _)).here (wpAny_pure (by exact fin))))
theorem objNe_K (hu : A.units < cLine) (X : K.In s.heap) (I : PySem.W.InstAt s.heap x ox C od) (he : PySem.W.findIn K (.ref C) "__eq__" = some (some (.ref f))) (hf : PySem.W.isFn K (.ref f) = true) {Q : Fin → Shared → Prop}
    (hcall : wpAny (model prog w) A (call (.ref f) [.ref x, b]) (fun v s' => ∃ k, v = .bool k ∧ Q (.done (.ret (.bool (!k)))) s') E s) :
    wpAny (model prog w) A (Builtin.«object.__ne__» ⟨[.ref x, b], []⟩) Q E s := by
  unfold Builtin.«object.__ne__»
  repeat (first
    | with_reducible refine wpAny_cRoomFor hu ?_
    | (refine wpAny_bind (m := callSpecialIfBound? (.ref x) (Str.ofString "__eq__") [b])
        (PySem.W.ifBound_K X I he hf (wpAny_mono hcall (fun r s' hr => by
          obtain ⟨k, rfl, hq⟩ := hr
          repeat (first | exact hq | exact wpAny_pure hq | exact wpAny_truthy_bool hq | (refine wpAny_bind (m := truthy (.bool _)) (wpAny_truthy_bool ?_)) | wp_step)) fun _ _ e => e)))
    | wp_step)
theorem ne_K {Q : Value → Shared → Prop} (hu : A.units + 1 < cLine) (F : Fr h₀ L s.heap m) (X₀ : K.In h₀) (I : PySem.W.InstAt s.heap x ox C od) (hb : PySem.W.Looks (model prog w) s.heap (typeOf b) tb) (hn : PySem.W.notFirst K C tb = true)
    (hs : PySem.W.findIn K (.ref C) "__ne__" = some (some (.builtin "object.__ne__"))) (hm : PySem.W.mroIn K C (.type "object") = some true) (he : PySem.W.findIn K (.ref C) "__eq__" = some (some (.ref f))) (hf : PySem.W.isFn K (.ref f) = true)
    (h : wpAny (model prog w) A.in1 (call (.ref f) [.ref x, b]) (fun v s' => ∃ k, v = .bool k ∧ Q (.bool (!k)) s') E s) : wpAny (model prog w) A (richCompare .NotEq (.ref x) b) Q E s := by
  have X := X₀.keeps F.keep
  have FB := PySem.F.cmp_object
  have sub : PySem.W.Looks (model prog w) s.heap (isInstance (.ref x) (.type "object")) true := I.type.andThen (PySem.W.looks_mroIn X hm)
  have one : wpAny (model prog w) A (tryCompare (.ref x) "__ne__" b) (fun r s' => ∃ v, r = some v ∧ Q v s') E s := by
    unfold tryCompare
    refine wpAny_bind (ifBound_B X I hs FB.ne.bind (wpAny_call (codeAny_call_builtin FB.ne.plain PySem.F.cmpEntry_ne ?_)))
    refine @PySem.W.check_slot (model prog w) _ _ s "object.__ne__" "object" "__ne__" (.ref x) [b] [] _ PySem.F.cmpKind_ne PySem.F.cmpSplit_ne sub (PySem.F.cmpArgs_ne (.ref x) b) ?_
    refine objNe_K (A := A.in1) hu X I he hf (wpAny_mono h (fun v s' hv => ?_) fun _ _ e => e)
    obtain ⟨k, rfl, hq⟩ := hv
    exact ⟨k, rfl, wpAny_pure ⟨_, rfl, hq⟩⟩
  unfold richCompare
  simp only [oneThing_ref]
  refine wpAny_holding (wpAny_bind (wpAny_cRoomFor (Nat.lt_of_succ_lt hu) ?_))
  refine wpAny_bind (I.type.here (wpAny_bind (hb.here ?_)))
  split
  · rename_i q
    have e : PySem.W.subIn K tb (.ref C) = some false := by
      rcases Bool.or_eq_true_iff.mp hn with e | e
      · rw [beq_iff_eq.mp e] at q; simp at q
      · exact beq_iff_eq.mp e
    refine wpAny_bind ((PySem.W.looks_subIn X e).here ?_)
    simp only [Bool.false_eq_true, if_false]
    refine wpAny_bind (wpAny_mono one (fun r s' z => ?_) fun _ _ e => e)
    obtain ⟨v, rfl, hq⟩ := z
    exact wpAny_pure hq
  · refine wpAny_bind (wpAny_pure ?_)
    simp only [Bool.false_eq_true, if_false]
    refine wpAny_bind (wpAny_mono one (fun r s' z => ?_) fun _ _ e => e)
    obtain ⟨v, rfl, hq⟩ := z
    exact wpAny_pure hq
end
section
variable {X : Cx} {k : Nat} {C : Addr} {ps : List Str} {sp : Sp}
theorem op_neO (T : EqBy X.prog X.w X.K X.mg X.base k C ps sp) (hr : Room (k + 1) X.A) : OpR X (compareOp .NotEq) (rNeO C sp) := by
  intro pins s σ H x y v u Q I rx ry h
  obtain ⟨a, dx, fs, rfl, ha, r, q⟩ := h
  obtain ⟨tb, hb, hn⟩ := right_of T I ry r
  cases (show v = Value.ref a from rx)
  obtain ⟨g, fd, h1, h2, F, b⟩ := T.go
  obtain ⟨mA, O, _⟩ := ins_get I.hok ha
  obtain ⟨od, J, _⟩ := O.look
  obtain ⟨m, hF⟩ := I.fr
  refine PySem.W.cmp_ofNotEq (ne_K (by have := hr.un; omega) hF I.ok.mod.kin J hb hn T.ne T.obj h1 h2 ?_)
  refine wpAny_mono (run_below F hr.in1 I.env0.in1 b I (.cons rx (.cons ry .nil)) q) (fun w' s' z => ?_) fun _ _ e => e
  obtain ⟨z', H', I', rz, kk, rfl, qz⟩ := z
  cases (show w' = Value.bool kk from rz)
  exact ⟨kk, rfl, .bl (!kk), H', I', rfl, qz⟩
/-- repr(x) of an own object -/
structure ShowsBy (P : Program) (w : World) (K : PySem.W.Frag) (mg : Str → Option Value) (base : Heap) (k : Nat) (C : Addr) (sp : Sp) : Prop where
  go : ∃ (g : Addr) (fd : FuncData), PySem.W.findIn K (.ref C) "__repr__" = some (some (.ref g)) ∧ PySem.W.isFn K (.ref g) = true ∧
    FnOk P w K mg base CX0 k g fd ["self"] sp ∧ Binds K fd ["self"] []
def rShow (C : Addr) (sp : Sp) : List V → Hp → VK → Prop := fun xs H Q => ∃ (a dx : Addr) (fs : List (Str × V)), xs = [.ref a] ∧ H a = some (.ins C dx fs) ∧ sp [.ref a] H (fun v H' => ∃ y : Str, v = .str y ∧ Q (.str y) H') E0
theorem call_show (T : ShowsBy X.prog X.w X.K X.mg X.base k C sp) (hr : Room (k + 1) X.A) : CallR X (.builtin "repr") (rShow C sp) := by
  intro pins s σ H xs us Q I r h
  obtain ⟨a, dx, fs, rfl, ha, q⟩ := h
  rw [Vals.ref1 r]
  obtain ⟨g, fd, h1, h2, F, b⟩ := T.go
  obtain ⟨mA, O, _⟩ := ins_get I.hok ha
  obtain ⟨od, J, _⟩ := O.look
  obtain ⟨m, hF⟩ := I.fr
  refine PySem.W.repr_K hr.in1.units0 hF I.ok.mod.kin J h1 h2 ?_
  refine wpAny_mono (run_below F hr.in1 I.env0.in1 b I (us := [.ref a]) (vs := [.ref a]) (.cons rfl .nil) q) (fun w' s' z => ?_) fun _ _ e => e
  obtain ⟨z', H', I', rz, y, rfl, qz⟩ := z
  obtain ⟨t, rfl⟩ := rz
  exact ⟨.str y, H', I', ⟨t, rfl⟩, qz⟩
end
end Hx

namespace Zg
open PySem PySem.Spec PyProof.Rows L2 GenW
theorem cx_imp {P : Program} {w : World} {outer : List Env} {H : Hp} {sc : Shared} {E E' : XK} {u : Value} {s' : Shared} (h : ∀ c d H, E c d H → E' c d H) (x : L2N.CX P w outer H sc E u s') : L2N.CX P w outer H sc E' u s' := by
  obtain ⟨a, B, H', cls, d, e, fl, hok, ub, na, os, ag, hE⟩ := x
  exact ⟨a, B, H', cls, d, e, fl, hok, ub, na, os, ag, h _ _ _ hE⟩
theorem cx_less {P : Program} {w : World} {outer : List Env} {H : Hp} {sc : Shared} {E : XK} {u : Value} {s' : Shared} (x : L2N.CX P w outer H sc E u s') : CX P w outer H sc E u s' := by
  obtain ⟨a, B, H', cls, d, e, ⟨f1, f2, f3, oe, vs, T, oT, ts, h1, h2, r⟩, hok, ub, na, os, ag, hE⟩ := x
  exact ⟨a, B, H', cls, d, e, ⟨f1, f2, f3, oe, vs, T, oT, ts, h1, L2N.Zn.zc h2, r⟩, hok, ub, na, os, ag, hE⟩
/-- list(zip(range(n), o.m(e))): the generator raises when it is woken, which it is not if n is 0 -/
def tZipG (C CN : Addr) (m : Str) (sp : List V → Hp → XK → Prop) (fs : V → List (Str × V)) (n : Int) (E : XK) (ta : TE) (t : TA) : TE := fun σ H Q => ∀ r, H r = none → ta σ (upd H r (.rng 0 n)) fun x H1 => ∃ a dx fl, x = .ref a ∧ H1 a = some (.ins C dx fl) ∧ fl.lookup m = none ∧
  t σ H1 fun vs H2 => ∃ v, vs = [v] ∧ H2 r = some (.rng 0 n) ∧ sp [x, v] H2 (OnlyE CN H2 (fs v)) ∧ ((n = 1 ∧ ∀ c d H', OnlyE CN H2 (fs v) c d H' → E c d H') ∨ (n = 0 ∧ ∀ p, H2 p = none → Q (.ref p) (upd H2 p (.lst []))))
section
variable {X : Cx} {k : Nat} {f C CN : Addr} {fd : FuncData} {ps : List Str} {sp : List V → Hp → XK → Prop} {fs : V → List (Str × V)} {n : Int} {E : XK} {ta : TE} {t : TA} {o e : Expr} {m : Str} {p1 p2 p3 q1 q2 q3 q4 apos : Pos} {j : Nat} {c0 : Pos}
theorem run_graise {pins : List (Addr × Obj)} {σ : L2.St} {H : Hp} {s : Shared} {us : List Value} {vs : List V} {E : XK} {E1 : Value → Shared → Prop} (F : GRaise X.prog X.w X.K X.mg X.base k f fd ps sp) (hr : Room k X.A) (hb : Binds X.K fd ps [])
    (I : Inv X pins σ H s) (r : Vals vs us) (h : sp vs H E) :
    wpAny (model X.prog X.w) X.A (call (.ref f) us) (fun u s' => GRz X.prog X.w k X.stack H s E u s') E1 s := by
  have hl : us.length = ps.length := by rw [← r.length]; exact F.len _ _ _ h
  have b := hb s us I.kIn (by rw [List.append_nil]; exact hl)
  rw [List.append_nil] at b
  refine wpAny_call (codeAny_mono (F.run X.A X.stack s H ⟨us, []⟩ us vs E hr I.env0 b r h) fun r' s' hq => ?_)
  match r', hq with
  | .error e, hq => exact False.elim hq
  | .ok (.ret u), hq => exact hq
  | .ok .next, hq => exact False.elim hq
  | .ok .brk, hq => exact False.elim hq
  | .ok .cont, hq => exact False.elim hq
/-- o.m(e), a generator -/
theorem eval_gen {pl : Sem Bool} {pins : List (Addr × Obj)} {s : Shared} {σ : L2.St} {H : Hp} {R : V → V → Hp → Prop} (he : PE X o ta) (c : Cls X.K C) (hm : Meth X.K C m f) (F : GRaise X.prog X.w X.K X.mg X.base k f fd ps sp) (hr : Room k X.A) (hb : Binds X.K fd ps []) (ha : PA X [e] t)
    (I : Inv X pins σ H s) (E : V → Hp → XK) (hR : ∀ x v H2, R x v H2 → sp [x, v] H2 (E v H2))
    (h : ta σ H fun x H1 => ∃ a dx fl, x = .ref a ∧ H1 a = some (.ins C dx fl) ∧ fl.lookup m = none ∧ t σ H1 fun vs H2 => ∃ v, vs = [v] ∧ R x v H2)
    (hst : starEach [e] X.env = (false, eval e X.env) :: starEach [] X.env := by rfl) (hpl : (backTo q4 (starEach [] X.env)).any (·.1) = false := by rfl)
    (ht : eval (.Call (.Attribute o m apos) [e] [] q4) X.env = (do
      let ov ← eval o X.env
      standAt apos.atName
      let (f, first) ← holding [ov] (getMethod ov m pl)
      callWith q4 f first (backTo q4 (starEach [e] X.env)) (backToKw q4 (keywordEach [] X.env))) := by rfl) :
    wpAny (model X.prog X.w) X.A (eval (.Call (.Attribute o m apos) [e] [] q4) X.env) (fun u s' => ∃ x v H2 sc, R x v H2 ∧ Inv X pins σ H2 sc ∧ GRz X.prog X.w k X.stack H2 sc (E v H2) u s') X.xe s := by
  refine PySem.W.methodCall_KW (pl := pl) (thn (he.run pins s σ H _ I h) fun u s1 ⟨x, H1, I1, rx, a, dx, fl, ex, ea, l, q⟩ => ?_) ht
  subst ex
  obtain rfl : u = Value.ref a := rx
  refine getmeth_ok I1 ea c hm l ?_
  refine PySem.W.callWith_K (first := [.ref a]) (h₀ := X.base) I.ok.mod.kin hm.kp (thn (ha.run q4 pins s1 σ H1 _ I1 q) fun us s2 ⟨vs, H2, I2, r, q2⟩ => ⟨I2.kIn, ?_⟩) hst hpl
  obtain ⟨v, rfl, hRv⟩ := q2
  exact wpAny_mono (run_graise (us := .ref a :: us) (vs := [.ref a, v]) F hr hb I2 (.cons rfl r) (hR _ v H2 hRv)) (fun u s' g => ⟨_, v, H2, s2, hRv, I2, g⟩) fun _ _ z => z
/-- the zip object that stands, before it is walked -/
def ZUp (X : Cx) (k : Nat) (pins : List (Addr × Obj)) (σ : L2.St) (CN : Addr) (fs : V → List (Str × V)) (n : Int) (T : V → Hp → Prop) (u : Value) (s' : Shared) : Prop :=
  ∃ (a : Addr) (v : V) (H2 : Hp) (sc sg : Shared) (h' : Heap), u = .ref (sg.heap.objs.size + 3) ∧ Inv X pins σ H2 sc ∧ GRz X.prog X.w k X.stack H2 sc (OnlyE CN H2 (fs v)) (.ref a) sg ∧ s' = { sg with heap := h' } ∧
    IsZip h' (sg.heap.objs.size + 3) (sg.heap.objs.size + 1) (sg.heap.objs.size + 2) .none ∧ IsPair h' (sg.heap.objs.size + 1) (.ref sg.heap.objs.size) (.ref a) ∧ IsPair h' (sg.heap.objs.size + 2) .none .none ∧
    IsRangeIter h' sg.heap.objs.size 0 (Builtin.Range.rangeSize 0 n 1) 1 ∧ (∀ c o, sg.heap.get? c = some o → h'.get? c = some o) ∧ T v H2
theorem zip_eval {pl : Sem Bool} {pins : List (Addr × Obj)} {s : Shared} {σ : L2.St} {H : Hp} (hgz : Gl X "zip") (mz : X.mg "zip" = none) (hgr : Gl X "range") (mr : X.mg "range" = none)
    (he : PE X o ta) (c : Cls X.K C) (hm : Meth X.K C m f) (F : GRaise X.prog X.w X.K X.mg X.base k f fd ps sp) (hr : Room k X.A) (hb : Binds X.K fd ps []) (ha : PA X [e] t) (hn : Builtin.Range.small 0 n 1 = true)
    (T : V → Hp → Prop) (I : Inv X pins σ H s)
    (h : ∀ r, H r = none → ta σ (upd H r (.rng 0 n)) fun x H1 => ∃ a dx fl, x = .ref a ∧ H1 a = some (.ins C dx fl) ∧ fl.lookup m = none ∧ t σ H1 fun vs H2 => ∃ v, vs = [v] ∧ H2 r = some (.rng 0 n) ∧ sp [x, v] H2 (OnlyE CN H2 (fs v)) ∧ T v H2)
    (s2' : starEach [.Call (.Name "range" p3) [.Constant (.int n) j c0] [] q3, .Call (.Attribute o m apos) [e] [] q4] X.env = (false, eval (.Call (.Name "range" p3) [.Constant (.int n) j c0] [] q3) X.env) :: starEach [.Call (.Attribute o m apos) [e] [] q4] X.env := by rfl)
    (s3' : starEach [.Call (.Attribute o m apos) [e] [] q4] X.env = (false, eval (.Call (.Attribute o m apos) [e] [] q4) X.env) :: starEach [] X.env := by rfl)
    (s4' : starEach [.Constant (.int n) j c0] X.env = [(false, eval (.Constant (.int n) j c0) X.env)] := by rfl)
    (hpl : (backTo q2 (starEach [.Call (.Attribute o m apos) [e] [] q4] X.env)).any (·.1) = false := by rfl)
    (hst : starEach [e] X.env = (false, eval e X.env) :: starEach [] X.env := by rfl) (hpl4 : (backTo q4 (starEach [] X.env)).any (·.1) = false := by rfl)
    (ht : eval (.Call (.Attribute o m apos) [e] [] q4) X.env = (do
      let ov ← eval o X.env
      standAt apos.atName
      let (f, first) ← holding [ov] (getMethod ov m pl)
      callWith q4 f first (backTo q4 (starEach [e] X.env)) (backToKw q4 (keywordEach [] X.env))) := by rfl) :
    wpAny (model X.prog X.w) X.A (eval (.Call (.Name "zip" p2) [.Call (.Name "range" p3) [.Constant (.int n) j c0] [] q3, .Call (.Attribute o m apos) [e] [] q4] [] q2) X.env) (ZUp X k pins σ CN fs n T) X.xe s := by
  refine Call_ (ld_blt I hgz mz PyProof.Rows.boot_zip (PyProof.Rows.callWith_type1 ?_ s2' hpl))
  rw [s2']
  refine Calls.spliced_cons ?_
  refine Call_ (ld_blt I hgr mr boot_range (PyProof.Rows.callWith_type1 (thn ((pa_cons (X := X) (e := .Constant (.int n) j c0) pe_int pa_nil).run q3 pins s σ H (fun us H' => us = [.int n] ∧ H' = H) I ?_) fun us s1 ⟨vs, H1, I1, r1, q1⟩ => ?_) s4' rfl))
  · exact ⟨rfl, rfl⟩
  obtain ⟨rfl, rfl⟩ := q1
  obtain ⟨u, rfl, ru⟩ := vals1 r1
  obtain ⟨tt, rfl⟩ := ru
  refine call_range_1 ?_
  have hnr : H1 s1.heap.objs.size = none := I1.hok.fresh (Nat.le_refl _)
  have I2 : Inv X pins σ (upd H1 s1.heap.objs.size (.rng 0 n)) { s1 with heap := s1.heap.push { cls := .type "range", data := .fields #[.int 0 s1.toks, .int n tt, .int 1 (s1.toks + 1)] }, toks := s1.toks + 1 + 1 } :=
    I1.laid (fun b o e => Heap.get?_push_of_some _ e) (Nat.le_refl _) (show ObjOk X.prog X.w _ _ _ (.rng 0 n) from ⟨_, _, _, Heap.get?_push_size _ rfl⟩)
  rw [s3']
  show wpAny _ _ (spliced ((false, eval (.Call (.Attribute o m apos) [e] [] q4) X.env) :: backTo q2 (starEach [] X.env))) _ _ _
  refine Calls.spliced_cons ?_
  refine wpAny_mono (eval_gen (pl := pl) (R := fun x v H2 => H2 s1.heap.objs.size = some (.rng 0 n) ∧ sp [x, v] H2 (OnlyE CN H2 (fs v)) ∧ T v H2) he c hm F hr hb ha I2 (fun v H2 => OnlyE CN H2 (fs v)) (fun x v H2 z => z.2.1) (h _ hnr) hst hpl4 ht) (fun u sg g => ?_) fun _ _ z => z
  obtain ⟨x, v, H2, sc, ⟨hr2, _, hT⟩, I3, G⟩ := g
  refine Calls.spliced_nil ?_
  obtain ⟨a, g, cc, rfl, ha1, hg, hgs, hos, hba, hl, hk, wake⟩ := id G
  obtain ⟨t1, t2, t3, er⟩ := I3.hok _ _ hr2
  refine call_zipG (r := s1.heap.objs.size) hn (hk _ _ er) hg fun h' z1 z2 z3 z4 z5 z6 => ?_
  exact ⟨a, v, H2, sc, sg, h', rfl, I3, G, rfl, z1, z2, z3, z4, z6, hT⟩
theorem nolim {h h2 : Heap} {m : Nat} (hl : h.NoLimit) (hm : h.objs.size ≤ m) (k : ∀ c o, c < m → h.get? c = some o → h2.get? c = some o) : h2.NoLimit := by
  obtain ⟨mc, hns, hnn⟩ := hl
  exact ⟨mc, hns.at' fun o e => k _ o (Nat.lt_of_lt_of_le (Heap.lt_size e) hm) e, hnn⟩
/-- list(z) -/
theorem list_zup {pins : List (Addr × Obj)} {s' : Shared} {σ : L2.St} {u : Value} {Q : VK} (hr : Room (k + 6) X.A) (hcalm : X.calm = true) (hx : Passes (L2N.CX X.prog X.w) X E) (hs : PySem.W.subIn X.K (.ref CN) (.type "StopIteration") = some false)
    (h : ZUp X (k + 2) pins σ CN fs n (fun v H2 => (n = 1 ∧ ∀ c d H', OnlyE CN H2 (fs v) c d H' → E c d H') ∨ (n = 0 ∧ ∀ p, H2 p = none → Q (.ref p) (upd H2 p (.lst [])))) u s') :
    wpAny (model X.prog X.w) X.A (call (.type "list") [u]) (EP X pins σ Q) X.xe s' := by
  obtain ⟨a, v, H2, sc, sg, h', rfl, I3, G, rfl, hz, hTI, hTO, hit, hk4, hT⟩ := h
  obtain ⟨a', g, cc, ea, ha1, hg, hgs, hos, hba, hl, hk, wake⟩ := id G
  cases ea
  have alt : Nat.succ a ≤ sg.heap.objs.size := by
    obtain ⟨o, _, _, ho, _⟩ := hg
    exact Heap.lt_size ho
  have scz : sc.heap.objs.size ≤ sg.heap.objs.size := by omega
  have zlt : Nat.succ (sg.heap.objs.size + 3) ≤ h'.objs.size := Heap.lt_size hz
  have ne1 : ∀ {b c : Nat}, b < c → (b : Addr) ≠ (c : Addr) := fun h => Nat.ne_of_lt h
  have ne2 : ∀ {b c : Nat}, c < b → (b : Addr) ≠ (c : Addr) := fun h => Nat.ne_of_gt h
  refine call_list_zip (s := { sg with heap := h' }) hz fun h2 k2 hS => ?_
  obtain ⟨cS, hS⟩ := hS
  have hz2 := k2 _ _ hz
  have kall : ∀ b o, sc.heap.get? b = some o → h2.get? b = some o := fun b o e => k2 _ _ (hk4 _ _ (hk _ _ e))
  rcases hT with ⟨rfl, imp⟩ | ⟨rfl, q⟩
  · refine zipG_raise (s := { sg with heap := h2 }) (A := X.A.in1.in1) (g := g) (c := cc) (left := Builtin.Range.rangeSize 0 1 1) (Er := fun e s1 => L2N.CX X.prog X.w X.stack H2 sc (OnlyE CN H2 (fs v)) e s1 ∧ s1.heap.IsGen a g ∧ IsZip s1.heap (sg.heap.objs.size + 3) (sg.heap.objs.size + 1) (sg.heap.objs.size + 2) .ellipsis)
      (fun h3 k3 => nolim hl (Nat.le_refl _) fun c o c1 e => k3 c o (ne1 (Nat.lt_of_lt_of_le c1 (by omega))) (ne1 c1) (ne1 (Nat.lt_of_lt_of_le c1 (by omega))) (k2 _ _ (hk4 _ _ e))) (by have := hr.dp; show X.A.depth < _; omega) (ne1 (by omega)) (ne1 (by omega)) (ne2 (by omega)) (ne1 (by omega)) (ne1 (by omega)) (ne1 (by omega)) hz2 (k2 _ _ hTI) (k2 _ _ hTO) (k2 _ _ hit) ?_ ?_ hgs ?_ ?_
    · decide
    · obtain ⟨o, nm, qn, ho, r⟩ := hg
      exact ⟨o, nm, qn, k2 _ _ (hk4 _ _ ho), r⟩
    · intro h3 tk k3 z3
      refine wake X.A.in1.in1.in1.in1 (sg.heap.objs.size + 3, _) _ hr.in1.in1.in1.in1 I3.ok.frames (Nat.le_add_right _ _) z3 (fun v q => nomatch q) (fun b o e => ?_) hos (allBare_setGen (s := { sg with heap := h3, toks := tk }) hba rfl)
      have lt : Nat.succ b ≤ sg.heap.objs.size := Heap.lt_size e
      exact k3 b o (ne1 (by omega)) (ne1 (by omega)) (ne1 (by omega)) (k2 _ _ (hk4 _ _ e))
    · rintro e s1 ⟨hc, hg1, hz1⟩
      have hNS : NoStop X.K (OnlyE CN H2 (fs v)) := fun cls d H z => by
        obtain ⟨rfl, _⟩ := z
        exact hs
      have kin : ∀ {s1 : Shared}, L2N.CX X.prog X.w X.stack H2 sc (OnlyE CN H2 (fs v)) e s1 → X.K.In s1.heap := fun {s1} hc => by
        obtain ⟨a, B, H', cls, d, _, fl, _, ub, _⟩ := id hc
        refine I3.ok.mod.kin.keeps fun b o eb => fl.1 b o (ub.keep b o (I3.bs b o eb).1 (I3.bs b o eb).2 fun hm => ?_)
        rcases List.mem_cons.mp (I3.stkSub b hm) with z | z
        · have h1 := Heap.lt_size eb
          have h2 := Nat.le_trans I3.ok.bsz I3.ok.above
          rw [z] at h1
          exact absurd (Nat.lt_of_lt_of_le h1 h2) (Nat.lt_irrefl _)
        · exact I3.ok.nofr eb z
      refine ⟨hg1, notStop_of hNS (kin hc) (cx_less hc), hz1, fun h4 hz4 hs4 => ?_⟩
      have ag : AllBare s1.gens := by
        obtain ⟨_, _, _, _, _, _, _, _, _, _, _, z, _⟩ := id hc
        exact z
      have c2 := cx_upd (gens := (s1.setGen g .finished).gens) (I3.hok.fresh (by omega)) (by omega) hz1 (allBare_setGen ag rfl) hs4 hc
      exact ⟨notStop_of (s' := { s1.setGen g .finished with heap := h4 }) hNS (kin c2) (cx_less c2), hx pins σ H2 sc e _ I3 (cx_imp imp c2)⟩
  · refine zipG_end (s := { sg with heap := h2 }) (A := X.A.in1.in1) (I3.ok.hd hcalm) (ne1 (by omega)) hz2 (k2 _ _ hTI) (k2 _ _ hTO) (k2 _ _ hit) (by decide) fun h3 k3 => ⟨rfl, fun r er => ?_⟩
    subst er
    have hn2 : H2 h'.objs.size = none := I3.hok.fresh (by omega)
    have k5 : ∀ b o, sc.heap.get? b = some o → h3.get? b = some o := fun b o e => by
      have lt : Nat.succ b ≤ sc.heap.objs.size := Heap.lt_size e
      exact k3 b o (ne1 (by omega)) (ne1 (by omega)) (kall b o e)
    exact ⟨.ref h'.objs.size, _, I3.drained (H' := H2) (s' := { sg with heap := h3 }) (S := h'.objs.size) (acc := #[]) (out := []) (ex := []) (by omega) (Nat.zero_le _) (k3 _ _ (ne2 (by omega)) (ne2 (by omega)) hS) .nil .nil hos hba (Un.kept k5) (I3.hok.kept k5) hn2, rfl, q _ hn2⟩
theorem pe_zipgen {pl : Sem Bool} (hgl : Gl X "list") (ml : X.mg "list" = none) (hgz : Gl X "zip") (mz : X.mg "zip" = none) (hgr : Gl X "range") (mr : X.mg "range" = none)
    (he : PE X o ta) (c : Cls X.K C) (hm : Meth X.K C m f) (F : GRaise X.prog X.w X.K X.mg X.base (k + 2) f fd ps sp) (hr : Room (k + 6) X.A) (hb : Binds X.K fd ps []) (ha : PA X [e] t) (hn : Builtin.Range.small 0 n 1 = true) (hcalm : X.calm = true)
    (hx : Passes (L2N.CX X.prog X.w) X E) (hs : PySem.W.subIn X.K (.ref CN) (.type "StopIteration") = some false)
    (s1' : starEach [.Call (.Name "zip" p2) [.Call (.Name "range" p3) [.Constant (.int n) j c0] [] q3, .Call (.Attribute o m apos) [e] [] q4] [] q2] X.env = (false, eval (.Call (.Name "zip" p2) [.Call (.Name "range" p3) [.Constant (.int n) j c0] [] q3, .Call (.Attribute o m apos) [e] [] q4] [] q2) X.env) :: starEach [] X.env := by rfl)
    (s2' : starEach [.Call (.Name "range" p3) [.Constant (.int n) j c0] [] q3, .Call (.Attribute o m apos) [e] [] q4] X.env = (false, eval (.Call (.Name "range" p3) [.Constant (.int n) j c0] [] q3) X.env) :: starEach [.Call (.Attribute o m apos) [e] [] q4] X.env := by rfl)
    (s3' : starEach [.Call (.Attribute o m apos) [e] [] q4] X.env = (false, eval (.Call (.Attribute o m apos) [e] [] q4) X.env) :: starEach [] X.env := by rfl)
    (s4' : starEach [.Constant (.int n) j c0] X.env = [(false, eval (.Constant (.int n) j c0) X.env)] := by rfl)
    (hpl : (backTo q2 (starEach [.Call (.Attribute o m apos) [e] [] q4] X.env)).any (·.1) = false := by rfl)
    (hst : starEach [e] X.env = (false, eval e X.env) :: starEach [] X.env := by rfl) (hpl4 : (backTo q4 (starEach [] X.env)).any (·.1) = false := by rfl)
    (ht : eval (.Call (.Attribute o m apos) [e] [] q4) X.env = (do
      let ov ← eval o X.env
      standAt apos.atName
      let (f, first) ← holding [ov] (getMethod ov m pl)
      callWith q4 f first (backTo q4 (starEach [e] X.env)) (backToKw q4 (keywordEach [] X.env))) := by rfl) :
    PE X (.Call (.Name "list" p1) [.Call (.Name "zip" p2) [.Call (.Name "range" p3) [.Constant (.int n) j c0] [] q3, .Call (.Attribute o m apos) [e] [] q4] [] q2] [] q1) (tZipG C CN m sp fs n E ta t) := by
  refine ⟨fun pins s σ H Q I h => ?_⟩
  refine wpAny_Call_Name_kw (ld_blt I hgl ml boot_list ?_ (by decide) (by decide))
  refine PyProof.Rows.callWith_type1 ?_ s1' rfl
  rw [s1']
  show wpAny _ _ (spliced ((false, eval (.Call (.Name "zip" p2) [.Call (.Name "range" p3) [.Constant (.int n) j c0] [] q3, .Call (.Attribute o m apos) [e] [] q4] [] q2) X.env) :: backTo q1 (starEach [] X.env))) _ _ s
  refine Calls.spliced_cons (wpAny_mono (zip_eval (T := fun v H2 => (n = 1 ∧ ∀ c d H', OnlyE CN H2 (fs v) c d H' → E c d H') ∨ (n = 0 ∧ ∀ p, H2 p = none → Q (.ref p) (upd H2 p (.lst [])))) (pl := pl) hgz mz hgr mr he c hm F (hr.mono (by omega)) hb ha hn I h s2' s3' s4' hpl hst hpl4 ht) (fun u s' z => ?_) fun _ _ z => z)
  exact Calls.spliced_nil (list_zup hr hcalm hx hs z)
end
end Zg

namespace Wp
open PySem PySem.Spec PyProof.Rows L2 Hx

/-- a deck: a list of three ints at d, the first two not negative -/
def DeckAt (H : Hp) (d : Addr) : Prop := ∃ a m c : Int, 0 ≤ a ∧ 0 ≤ m ∧ H d = some (.lst [.int a, .int m, .int c])
def spDeck (K : PySem.W.Frag) : Sp := fun vs H Q _ => ∃ (a : Addr) (ns : List Int) (t : Nat), vs = [.ref a, .int t] ∧
  SqL K H a (ns.map V.int) ∧ ns.length ≤ 63 ∧ ∀ p H', Same H H' → H p = none → DeckAt H' p → Q (.ref p) H'
section
variable {P : Program} {w : World} {K : PySem.W.Frag} {mg : Str → Option Value} {base : Heap}
theorem scDeck : FnScope ["_law_cells", "_law_turn", "_law_cell", "_law_mixed", "_law_each"] ["_law_cells", "_law_turn"] (defScope s_law_deck) :=
  ⟨rfl, rfl, rfl, by decide +kernel, rfl, by decide +kernel, by decide +kernel⟩
theorem ok_deck {f : Addr} {fd : FuncData} (F : Fun K "_law_deck" "_law_deck" s_law_deck f fd) (ml : mg "len" = none) (mi : mg "int" = none)
    (ma : mg "abs" = none) : FnOk P w K mg base CX0 1 f fd ["_law_cells", "_law_turn"] (spDeck K) := by
  refine F.ok scDeck (fun vs H Q E h => ?_) (fun cdv A outer s H vs Q E hr h => ?_)
  · obtain ⟨a, ns, t, rfl, _⟩ := h
    rfl
  obtain ⟨a, ns, t, rfl, hS, h63, q⟩ := h
  refine ⟨_, pss_cons (ps_set (i := 2) scDeck.nd rfl (Or.inl rfl)
      (pe_ifExp (pt_cmpR op_lt (pv 1) (pe_callB call_len_seq (by rfl) ml PySem.boot_len (pa_cons (pv 0) pa_nil)) (nomark _))
        (pe_ix ix_list (pv 0) (pv 1) (fun _ _ => rfl)) (pe_op op_add (pe_op op_mul pe_int (pv 1)) pe_int)))
    (pss_cons (ps_set (i := 3) scDeck.nd rfl (Or.inl rfl) (pe_op op_add pe_int (pe_op op_mul pe_int (pv 1))))
    (pss_cons (ps_for PassesOwn.never rfl (pi_list (pe_op op_cat (pe_slice sl_list (pv 0) po_none (po_some pe_int)) (pe_lst (pa_cons (pv 2) pa_nil))))
        (pg_name (i := 4) scDeck.nd rfl (Or.inl rfl))
        (pss_one (ps_set (i := 3) scDeck.nd rfl (Or.inl rfl)
          (pe_op op_mod (pe_callTy call_int1 (by rfl) mi PyProof.Rows.boot_int (pa_cons (pe_op op_add (pe_op op_mul (pv 3) pe_int) (pv 4)) pa_nil)) pe_int))))
    (pss_one (ps_ret (pe_lst (pa_cons
        (pe_ifExp (PW.pt (pw_or (pt_cmpR op_lt (pv 2) pe_int (nomark _)) (pw_or1 (pt_cmpR op_ge (pv 2) (pe_op op_pow pe_int pe_int) (nomark _)))))
          (pe_callB call_abs (by rfl) ma PyProof.Rows.boot_abs (pa_cons (pv 2) pa_nil)) pe_int)
        (pa_cons (pv 3) (pa_cons pe_int pa_nil)))))))), ?_⟩
  have hl : (ns.map V.int).length = ns.length := List.length_map _
  refine asg_join (fun v H' => H = H' ∧ ∃ c : Int, v = .int c) (fun Q' hQ => ?_) ?_
  · refine ⟨_, rfl, _, rfl, a, _, rfl, .inl hS, _, _, rfl, rfl, _, rfl, ?_⟩
    refine ite2 (fun c => ?_) (fun c => ?_)
    · have c' : (t : Int) < (((ns.map V.int).length : Nat) : Int) := of_decide_eq_true c
      have hlt : t < ns.length := by rw [hl] at c'; omega
      refine ⟨_, rfl, _, rfl, a, _, _, _, rfl, rfl, hS, atI_nat (j := t) (v := V.int ns[t]) ?_, hQ _ _ ⟨rfl, _, rfl⟩⟩
      rw [List.getElem?_map, List.getElem?_eq_getElem hlt]
      rfl
    · exact ⟨_, rfl, _, _, rfl, rfl, .inl ⟨by decide, by decide⟩, _, _, rfl, rfl, hQ _ _ ⟨rfl, _, rfl⟩⟩
  rintro _ _ ⟨rfl, c, rfl⟩
  refine ⟨_, rfl, _, _, rfl, rfl, .inl ⟨by decide, by decide⟩, _, _, rfl, rfl, ?_⟩
  refine ⟨_, rfl, _, rfl, a, _, rfl, hS, fun l hl0 => ?_⟩
  refine ⟨_, rfl, (by show 1 ≤ sizeLine; decide), fun l2 hl2 => ?_⟩
  have hcut := cutV_length (ns.map V.int) none (some 4)
  have allInt : ∀ x ∈ cutV (ns.map V.int) none (some 4) ++ [V.int c], ∃ i, x = V.int i := by
    intro x hx
    rcases List.mem_append.mp hx with hx | hx
    · have hx2 : x ∈ ns.map V.int := List.mem_of_mem_drop (List.mem_of_mem_take hx)
      obtain ⟨i, _, rfl⟩ := List.mem_map.mp hx2
      exact ⟨i, rfl⟩
    · exact ⟨c, by simpa using hx⟩
  refine ⟨l, l2, _, _, rfl, rfl, upd_other upd_same hl2, upd_same, small_line ?_, fun l3 hl3 => ?_⟩
  · rw [List.length_singleton]
    omega
  have s3 : Same H (upd (upd (upd H l (.lst (cutV (ns.map V.int) none (some 4)))) l2 (.lst [V.int c])) l3 (.lst (cutV (ns.map V.int) none (some 4) ++ [V.int c]))) :=
    ((same_new hl0 _).trans (same_new hl2 _)).trans (same_new hl3 _)
  refine ⟨l3, rfl, ⟨_, SqL.of upd_same⟩, for_list (K := K) (a := l3) (xs := cutV (ns.map V.int) none (some 4) ++ [V.int c])
    (fun _ σ H' => Same H H' ∧ H' l3 = some (.lst (cutV (ns.map V.int) none (some 4) ++ [V.int c])) ∧
      ∃ (m : Int) (v : Option V), 0 ≤ m ∧ σ = [some (.ref a), some (.int t), some (.int c), some (.int m), v])
    ⟨s3, upd_same, _, none, ?_, rfl⟩ (fun _ _ _ _ h => SqL.of h.2.1) ?_ ?_⟩
  · omega
  · rintro i x σ H' hx ⟨s4, h4, m, v, hm, rfl⟩
    obtain ⟨n, rfl⟩ := allInt x (List.mem_of_getElem? hx)
    refine ⟨_, rfl, _, _, rfl, rfl, .inr ⟨by decide, by decide⟩, _, rfl, _, _, rfl, rfl, .inl ⟨_, rfl, ?_⟩⟩
    exact ⟨_, _, rfl, rfl, (by decide : (0 : Int) < 2147483629), s4, h4, _, some (.int n), Int.emod_nonneg _ (by decide), rfl⟩
  · rintro σ H' ⟨s4, h4, m, v, hm, rfl⟩
    dsimp only
    refine ret_lst_join (fun v H2 => H' = H2 ∧ ∃ b : Int, 0 ≤ b ∧ v = .int b) (fun Q' hQ => ?_) ?_
    · refine ⟨_, rfl, _, _, rfl, rfl, _, rfl, ?_⟩
      refine ite2 (fun c0 => ?_) (fun c0 => ?_)
      · refine iteT ⟨_, rfl, _, rfl, hQ _ _ ⟨rfl, _, ?_, rfl⟩⟩
        split <;> omega
      · refine ⟨_, rfl, _, _, rfl, rfl, ⟨by decide, by decide, by decide⟩, _, _, rfl, rfl, _, rfl, ?_⟩
        refine ite2 (fun c1 => ?_) (fun c1 => ?_)
        · refine ⟨_, rfl, _, rfl, hQ _ _ ⟨rfl, _, ?_, rfl⟩⟩
          split <;> omega
        · exact hQ _ _ ⟨rfl, 0, Int.le_refl 0, rfl⟩
    rintro _ _ ⟨rfl, b, hb, rfl⟩
    refine ⟨_, rfl, (by show 3 ≤ sizeLine; decide), fun p hp => ?_⟩
    exact q p _ (s4.trans (same_new hp _)) (s4.free hp) ⟨b, m, 0, hb, hm, upd_same⟩
def spCard : Sp := fun vs H Q _ => ∃ (d : Addr) (t : Int), vs = [.ref d, .int t] ∧ 0 < t ∧ t < 1073741824 ∧ DeckAt H d ∧
  ∀ r H', 0 ≤ r → r < t → But d H H' → DeckAt H' d → Q (.int r) H'
theorem scCard : FnScope ["_law_deck_here", "_law_top", "_law_figure"] ["_law_deck_here", "_law_top"] (defScope s_law_card) :=
  ⟨rfl, rfl, rfl, by decide +kernel, rfl, by decide +kernel, by decide +kernel⟩
theorem ok_card {f : Addr} {fd : FuncData} (F : Fun K "_law_card" "_law_card" s_law_card f fd) (mi : mg "int" = none) (md : mg "divmod" = none) :
    FnOk P w K mg base CX0 1 f fd ["_law_deck_here", "_law_top"] spCard := by
  refine F.ok scCard (fun vs H Q E h => ?_) (fun cdv A outer s H vs Q E hr h => ?_)
  · obtain ⟨d, t, rfl, _⟩ := h
    rfl
  obtain ⟨d, t, rfl, t0, t1, ⟨a, m, c, a0, m0, hd⟩, q⟩ := h
  refine ⟨_, pss_cons (ps_asg (pe_op op_add (pe_ix ix_list (pv 0) pe_int (fun _ _ => rfl)) pe_int) (pg_sub (pv 0) pe_int set_list))
    (pss_cons (ps_if (pt_cmpR op_gt (pe_ix ix_list (pv 0) pe_int (fun _ _ => rfl)) pe_int (nomark _))
      (pss_cons (ps_asg (pe_callB call_divmod (by rfl) md PyProof.Rows.boot_divmod (pa_cons (pe_ix ix_list (pv 0) pe_int (fun _ _ => rfl)) (pa_cons (pv 1) pa_nil)))
          (pg_tup (by rfl) (pgs_cons (pg_sub (pv 0) pe_int set_list) (pgs_cons (pg_name (i := 2) scCard.nd rfl (Or.inl rfl)) pgs_nil))))
        (pss_one (ps_ret (pv 2)))) pss_nil)
    (pss_cons (ps_asg (pe_op op_mod (pe_callTy call_int1 (by rfl) mi PyProof.Rows.boot_int (pa_cons
        (pe_op op_add (pe_op op_mul (pe_ix ix_list (pv 0) pe_int (fun _ _ => rfl)) pe_int) (pe_op op_mul pe_int (pe_ix ix_list (pv 0) pe_int (fun _ _ => rfl)))) pa_nil)) pe_int)
        (pg_sub (pv 0) pe_int set_list))
    (pss_one (ps_ret (pe_op op_mod (pe_callTy call_int1 (by rfl) mi PyProof.Rows.boot_int (pa_cons
        (pe_op op_fdiv (pe_ix ix_list (pv 0) pe_int (fun _ _ => rfl)) pe_int) pa_nil)) (pv 1)))))), ?_⟩
  refine ⟨_, rfl, d, _, _, _, rfl, rfl, SqL.of hd, rfl, _, _, rfl, rfl, _, rfl, d, _, _, _, rfl, rfl, hd, rfl, ?_⟩
  refine ⟨_, rfl, d, _, _, _, rfl, rfl, SqL.of upd_same, rfl, _, _, rfl, rfl, _, rfl, ?_⟩
  refine ite2 (fun c0 => ?_) (fun c0 => ?_)
  · refine ⟨_, rfl, d, _, _, _, rfl, rfl, SqL.of upd_same, rfl, _, rfl, _, _, rfl, ⟨t0, t1⟩, fun p hp => ?_⟩
    have npd : d ≠ p := ne_of_none upd_same hp
    refine ⟨p, _, rfl, SqT.of upd_same, rfl, _, _, rfl, ?_⟩
    refine ⟨_, rfl, d, _, _, _, rfl, rfl, by rw [upd_ne npd]; exact upd_same, rfl, ?_⟩
    refine ⟨_, _, rfl, rfl, _, rfl, ?_⟩
    refine q _ _ (Int.emod_nonneg _ (by omega)) (Int.emod_lt_of_pos _ t0) (((But.refl.upd _).new hp _).upd _) ⟨_, _, _, ?_, m0, upd_same⟩
    exact Int.ediv_nonneg a0 (by omega)
  · refine ⟨_, rfl, d, _, _, _, rfl, rfl, SqL.of upd_same, rfl, _, _, rfl, rfl, .inr ⟨by decide, by decide⟩, ?_⟩
    refine ⟨_, rfl, d, _, _, _, rfl, rfl, SqL.of upd_same, rfl, _, _, rfl, rfl, .inl ⟨by decide, by decide⟩, _, _, rfl, rfl, .inl ⟨_, rfl, ?_⟩⟩
    refine ⟨_, _, rfl, rfl, (by decide : (0 : Int) < 2147483629), ?_⟩
    refine ⟨_, rfl, d, _, _, _, rfl, rfl, upd_same, rfl, ?_⟩
    refine ⟨_, rfl, d, _, _, _, rfl, rfl, SqL.of upd_same, rfl, _, _, rfl, rfl, ⟨by decide, by decide⟩, .inl ⟨_, rfl, ?_⟩⟩
    refine ⟨_, rfl, _, _, rfl, rfl, t0, ?_⟩
    refine q _ _ (Int.emod_nonneg _ (by omega)) (Int.emod_lt_of_pos _ t0) ((But.refl.upd _).upd _) ⟨_, _, _, a0, Int.emod_nonneg _ (by decide), upd_same⟩
/-- _law_of, over a list -/
def spOf (K : PySem.W.Frag) : Sp := fun vs H Q _ => ∃ (d l : Addr) (xs : List V), vs = [.ref d, .ref l] ∧ d ≠ l ∧ SqL K H l xs ∧ 0 < xs.length ∧ xs.length ≤ 1000 ∧ DeckAt H d ∧
  ∀ v H', v ∈ xs → But d H H' → DeckAt H' d → Q v H'
theorem scOf : FnScope ["_law_deck_here", "_law_menu"] ["_law_deck_here", "_law_menu"] (defScope s_law_of) :=
  ⟨rfl, rfl, rfl, by decide +kernel, rfl, by decide +kernel, by decide +kernel⟩
theorem ok_of {f fC : Addr} {fd fdC : FuncData} (F : Fun K "_law_of" "_law_of" s_law_of f fd)
    (GC : FnOk P w K mg base CX0 1 fC fdC ["_law_deck_here", "_law_top"] spCard) (bC : Binds K fdC ["_law_deck_here", "_law_top"] [])
    (kC : PySem.W.keepIn K (.ref fC) = true) (mC : mg "_law_card" = some (.ref fC)) (ml : mg "len" = none) :
    FnOk P w K mg base CX0 2 f fd ["_law_deck_here", "_law_menu"] (spOf K) := by
  refine F.ok scOf (fun vs H Q E h => ?_) (fun cdv A outer s H vs Q E hr h => ?_)
  · obtain ⟨d, l, xs, rfl, _⟩ := h
    rfl
  obtain ⟨d, l, xs, rfl, ndl, hl, l0, l1, hd, q⟩ := h
  refine ⟨_, pss_one (ps_ret (pe_ix ix_list (pv 1) (pe_call GC hr rfl mC kC bC .nil pass0 (pa_cons (pv 0) (pa_cons
    (pe_callB call_len_seq (by rfl) ml PySem.boot_len (pa_cons (pv 1) pa_nil)) pa_nil))) (fun _ _ => rfl))), ?_⟩
  refine ⟨_, rfl, _, rfl, _, rfl, l, _, rfl, .inl hl, d, _, rfl, by omega, by omega, hd, fun r H' r0 r1 b hd' => ?_⟩
  obtain ⟨v, hv, ev⟩ := atI_in r0 r1
  exact ⟨l, _, _, _, rfl, rfl, b.seq (Ne.symm ndl) hl, ev, q v H' hv b hd'⟩
end
end Wp

/-! sets of places as numbers: bit by bit -/
namespace Mk
open PySem
theorem band (a b : Nat) : Builtin.bitAnd (a : Int) (b : Int) = ((a &&& b : Nat) : Int) := by
  rw [PyProof.Rows.bitAnd_pp (Int.natCast_nonneg _) (Int.natCast_nonneg _), Int.toNat_natCast, Int.toNat_natCast]
theorem bor (a b : Nat) : Builtin.bitOr (a : Int) (b : Int) = ((a ||| b : Nat) : Int) := by
  rw [Bits.bitOr_pp (Int.natCast_nonneg _) (Int.natCast_nonneg _), Int.toNat_natCast, Int.toNat_natCast]
theorem bxor (a b : Nat) : Builtin.bitXor (a : Int) (b : Int) = ((a ^^^ b : Nat) : Int) := by
  rw [Bits.bitXor_pp (Int.natCast_nonneg _) (Int.natCast_nonneg _), Int.toNat_natCast, Int.toNat_natCast]
theorem pow_ct (k : Nat) : (2 : Int) ^ k = ((2 ^ k : Nat) : Int) := by
  rw [Int.natCast_pow]; rfl
theorem mul_ct (a k : Nat) : (a : Int) * 2 ^ k = ((a * 2 ^ k : Nat) : Int) := by
  rw [pow_ct, Int.natCast_mul]
theorem div_ct (a k : Nat) : (a : Int) / 2 ^ k = ((a / 2 ^ k : Nat) : Int) := by
  rw [pow_ct, Int.natCast_ediv]
theorem mod_ct (a k : Nat) : (a : Int) % 2 ^ k = ((a % 2 ^ k : Nat) : Int) := by
  rw [pow_ct, Int.natCast_emod]
/-- how many bits: 0 for 0 -/
def len (n : Nat) : Nat := Builtin.Int.intBits (n : Int)
theorem len_zero : len 0 = 0 := rfl
theorem len_eq {n : Nat} (h : n ≠ 0) : len n = n.log2 + 1 := by
  unfold len Builtin.Int.intBits
  rw [if_neg (by simpa using h)]
  rfl
theorem bits_lt {n m : Nat} (h : n < 2 ^ m) : Builtin.Int.intBits (n : Int) ≤ m := PyProof.Rows.intBits_le (by simpa using h)
theorem len_le {n m : Nat} (h : n < 2 ^ m) : len n ≤ m := bits_lt h
theorem lt_len (n : Nat) : n < 2 ^ len n := by
  by_cases h : n = 0
  · subst h
    decide
  · rw [len_eq h]
    exact (Nat.log2_lt h).mp (Nat.lt_succ_self _)
/-- the highest bit tells how many there are -/
theorem len_of {n m : Nat} (h1 : n.testBit m = true) (h2 : ∀ i, m < i → n.testBit i = false) : len n = m + 1 := by
  have hne : n ≠ 0 := fun z => by
    subst z
    simp at h1
  have a : n < 2 ^ (m + 1) := Nat.lt_pow_two_of_testBit n fun i hi => h2 i hi
  have b : n ≥ 2 ^ m := Nat.ge_two_pow_of_testBit h1
  have c := len_le a
  have d := lt_len n
  have e : m < len n := by
    have : 2 ^ m < 2 ^ len n := Nat.lt_of_le_of_lt b d
    exact (Nat.pow_lt_pow_iff_right (by decide)).mp this
  omega
theorem bit_out {n i : Nat} (h : len n ≤ i) : n.testBit i = false := Nat.testBit_lt_two_pow (Nat.lt_of_lt_of_le (lt_len n) (Nat.pow_le_pow_right (by decide) h))
theorem eq_zero_of {n : Nat} (h : ∀ i, n.testBit i = false) : n = 0 := Nat.eq_of_testBit_eq fun i => by rw [h i, Nat.zero_testBit]
/-! a pattern again and again -/
/-- x has the places below many of the set in which the pattern comes every w -/
def Tiled (x pat w many : Nat) : Prop := ∀ n, x.testBit n = (decide (n < many) && pat.testBit (n % w))
structure Tiling (pat w x u : Nat) : Prop where
  pos : 0 < u
  dvd : w ∣ u
  lt : x < 2 ^ u
  bit : ∀ n, n < u → x.testBit n = pat.testBit (n % w)
theorem Tiling.start {pat w : Nat} (hw : 0 < w) (h : pat < 2 ^ w) : Tiling pat w pat w := ⟨hw, Nat.dvd_refl _, h, fun n hn => by rw [Nat.mod_eq_of_lt hn]⟩
theorem Tiling.step {pat w x u : Nat} (T : Tiling pat w x u) : Tiling pat w (x ||| x * 2 ^ u) (u * 2) := by
  refine ⟨by have := T.pos; omega, Nat.dvd_trans T.dvd ⟨2, rfl⟩, ?_, fun n hn => ?_⟩
  · refine Nat.or_lt_two_pow (Nat.lt_of_lt_of_le T.lt (Nat.pow_le_pow_right (by decide) (by omega))) ?_
    rw [Nat.mul_two, Nat.pow_add]
    exact Nat.mul_lt_mul_of_lt_of_le T.lt (Nat.le_refl _) (Nat.two_pow_pos u)
  · rw [Nat.testBit_or, Nat.testBit_mul_two_pow]
    by_cases h : n < u
    · rw [decide_eq_false (by omega), Bool.false_and, Bool.or_false, T.bit n h]
    · have e : x.testBit n = false := Nat.testBit_lt_two_pow (Nat.lt_of_lt_of_le T.lt (Nat.pow_le_pow_right (by decide) (by omega)))
      rw [e, decide_eq_true (by omega), Bool.true_and, Bool.false_or, T.bit (n - u) (by omega)]
      obtain ⟨k, hk⟩ := T.dvd
      have : n = (n - u) + w * k := by omega
      conv => rhs; rw [this, Nat.add_mul_mod_self_left]
theorem Tiling.done {pat w x u many : Nat} (T : Tiling pat w x u) (h : many ≤ u) : Tiled (x % 2 ^ many) pat w many := fun n => by
  rw [Nat.testBit_mod_two_pow]
  by_cases c : n < many
  · rw [decide_eq_true c, T.bit n (by omega)]
  · rw [decide_eq_false c]
    rfl
theorem Tiled.lt {x pat w many : Nat} (T : Tiled x pat w many) : x < 2 ^ many := Nat.lt_pow_two_of_testBit x fun i hi => by
  rw [T i, decide_eq_false (by omega)]
  rfl
/-! the figures of a number of base 2 -/
def figs (n : Nat) : List Char := Nat.toDigits 2 n
theorem figs_rev (n : Nat) : (figs n).reverse = (List.range (n.log2 + 1)).map fun i => if n.testBit i then '1' else '0' := by
  induction n using Nat.strongRecOn with
  | _ n ih =>
    by_cases h : n < 2
    · have : n = 0 ∨ n = 1 := by omega
      rcases this with rfl | rfl <;> decide
    · have hd := ih (n / 2) (by omega)
      have e : figs n = figs (n / 2) ++ figs (n % 2) := by
        unfold figs
        rw [Nat.toDigits_append_toDigits (by decide) (by omega) (by omega), Nat.div_add_mod]
      have l : n.log2 = (n / 2).log2 + 1 := by
        conv => lhs; rw [Nat.log2_def]
        rw [if_pos (by omega)]
      have f2 : figs (n % 2) = [if n.testBit 0 then '1' else '0'] := by
        have : n % 2 = 0 ∨ n % 2 = 1 := by omega
        rw [Nat.testBit_zero]
        rcases this with q | q <;> rw [q] <;> decide
      rw [e, List.reverse_append, hd, f2, l, List.range_succ_eq_map (n := (n / 2).log2 + 1), List.map_cons, List.map_map]
      have s : ∀ i, (n / 2).testBit i = n.testBit (i + 1) := fun i => by
        rw [Nat.testBit_succ]
      simp only [List.reverse_cons, List.reverse_nil, List.nil_append, List.cons_append, Function.comp_def, s]
theorem figs_len (n : Nat) : (figs n).length = n.log2 + 1 := by
  have := congrArg List.length (figs_rev n)
  rwa [List.length_reverse, List.length_map, List.length_range] at this
/-- the members, ascending -/
def pos (n : Nat) : List Nat := (List.range (n.log2 + 1)).filter n.testBit
theorem pos_upto (n : Nat) : ∀ {m : Nat}, n < 2 ^ m → pos n = (List.range m).filter n.testBit := fun {m} h => by
  have out : ∀ (k j : Nat), k ≤ j → n < 2 ^ k → (List.range j).filter n.testBit = (List.range k).filter n.testBit := fun k j hk hn => by
    induction j with
    | zero =>
      rw [Nat.le_zero.mp hk]
    | succ j ih =>
      by_cases c : k = j + 1
      · rw [c]
      · rw [List.range_succ, List.filter_append, ih (by omega)]
        have : n.testBit j = false := Nat.testBit_lt_two_pow (Nat.lt_of_lt_of_le hn (Nat.pow_le_pow_right (by decide) (by omega)))
        simp [this]
  unfold pos
  have l2 : n < 2 ^ (n.log2 + 1) := by
    by_cases z : n = 0
    · subst z
      decide
    · exact (Nat.log2_lt z).mp (Nat.lt_succ_self _)
  rcases Nat.le_total (n.log2 + 1) m with q | q
  · exact (out _ _ q l2).symm
  · exact out _ _ q h
/-! the lowest member -/
theorem low_bit {n k : Nat} (h1 : n.testBit k = true) (h2 : ∀ i, i < k → n.testBit i = false) : Builtin.bitAnd (n : Int) (-(n : Int)) = ((2 ^ k : Nat) : Int) := by
  have e1 : n % 2 ^ (k + 1) = 2 ^ k := Nat.eq_of_testBit_eq fun i => by
    rw [Nat.testBit_mod_two_pow, Nat.testBit_two_pow]
    rcases Nat.lt_trichotomy i k with c | c | c
    · rw [h2 i c, Bool.and_false, decide_eq_false (by omega)]
    · subst c
      rw [h1, decide_eq_true (by omega), decide_eq_true rfl]
      rfl
    · rw [decide_eq_false (by omega), decide_eq_false (by omega)]
      rfl
  have e2 := Nat.div_add_mod n (2 ^ (k + 1))
  rw [e1] at e2
  generalize hq : n / 2 ^ (k + 1) = q at e2
  have p0 := Nat.two_pow_pos k
  have hn : n - 1 = 2 ^ (k + 1) * q + (2 ^ k - 1) := by omega
  have npos : 0 < n := by omega
  have e3 : n &&& (n - 1) = 2 ^ (k + 1) * q := Nat.eq_of_testBit_eq fun i => by
    have a := Nat.testBit_two_pow_mul_add q (b := 2 ^ k) (i := k + 1) (by rw [Nat.pow_succ]; omega) i
    have b := Nat.testBit_two_pow_mul_add q (b := 2 ^ k - 1) (i := k + 1) (by rw [Nat.pow_succ]; omega) i
    have c := Nat.testBit_two_pow_mul_add q (b := 0) (i := k + 1) (Nat.two_pow_pos _) i
    rw [e2] at a
    rw [← hn] at b
    rw [Nat.add_zero] at c
    rw [Nat.testBit_and, a, b, c]
    by_cases d : i < k + 1
    · rw [if_pos d, if_pos d, if_pos d, Nat.testBit_two_pow, Nat.testBit_two_pow_sub_one, Nat.zero_testBit]
      by_cases z : k = i
      · rw [decide_eq_false (p := i < k) (by omega), Bool.and_false]
      · rw [decide_eq_false z, Bool.false_and]
    · rw [if_neg d, if_neg d, if_neg d, Bool.and_self]
  unfold Builtin.bitAnd
  rw [decide_eq_true (Int.natCast_nonneg n), decide_eq_false (by omega)]
  show (n : Int) - ((((n : Int).toNat) &&& ((Builtin.bitNot (-(n : Int))).toNat) : Nat) : Int) = _
  have e4 : (Builtin.bitNot (-(n : Int))).toNat = n - 1 := by
    unfold Builtin.bitNot
    omega
  rw [e4, Int.toNat_natCast, e3]
  omega
/-- what a Places keeps -/
structure Kept where
  w : Nat
  cy : Nat
  st : Nat
def Kept.mem (s : Kept) (n : Nat) : Bool := Bool.xor (s.cy.testBit (n % s.w)) (s.st.testBit n)
structure Kept.Ok (s : Kept) : Prop where
  w0 : 0 < s.w
  w1 : s.w ≤ 5000
  cy : s.cy < 2 ^ s.w
  st : s.st < 2 ^ 5000
theorem below_bits {s : Kept} {x many : Nat} (T : Tiled x s.cy s.w many) (h : s.st < 2 ^ many) (n : Nat) : (x ^^^ s.st).testBit n = (decide (n < many) && s.mem n) := by
  rw [Nat.testBit_xor, T n]
  by_cases c : n < many
  · rw [decide_eq_true c, Bool.true_and, Bool.true_and]
    rfl
  · rw [decide_eq_false c, Nat.testBit_lt_two_pow (Nat.lt_of_lt_of_le h (Nat.pow_le_pow_right (by decide) (by omega)))]
    rfl
end Mk

/-! a number's figures of base 2, as a field of a text -/
namespace PySem
open PyProof.Rows
open Builtin Builtin.Str Builtin.Int Builtin.Float
def binText (n : Nat) : Str := ⟨((Mk.figs n).map Char.toNat).toArray⟩
def specB : FormatSpec := { fill := 32, align := 62, type := some 98 }
theorem spec_b (name : String) : parseFormatSpec [98] name 62 = .ok specB := rfl
theorem bin_len (n : Nat) : (binText n).length = n.log2 + 1 := by
  show ((((Mk.figs n).map Char.toNat).toArray).size) = _
  rw [List.size_toArray, List.length_map, Mk.figs_len]
section
variable {prog : Program} {w : World} {A : Around} {E : Value → Shared → Prop} {s : Shared}
theorem field_bin {n : Nat} {t : Tok} {Q : Value → Shared → Prop} (hz : n.log2 ≤ 100000)
    (h : Q (.str (binText n) (s.toks + 1)) { s with toks := s.toks + 1 + 1 }) : wpAny (model prog w) A (formatField (.int (n : Int) t) "b") Q E s := by
  have hlen : (binText n).length ≤ sizeLine := by
    rw [bin_len, sizeLine_eq]
    omega
  show wpAny _ _ (holding [.int n t] (pyFormat (.int n t) "b")) Q E s
  refine wpAny_holding ?_
  unfold pyFormat
  refine wpAny_bind (wpAny_mkStr ?_ (by decide))
  refine wpAny_bind (m := callSpecial? (.int n t) (Str.ofString "__format__") [.str "b" s.toks]) (wpAny_callSpecial?_slot (name := Str.ofString "__format__") (typeIs_int _ _ t) slot_int_format ?_)
  refine wpAny_call (codeAny_call_builtin slot_int_format.plain entry_int_format (slot_int_format.check _ _ _ _ _ _ _ _ (typeIs_int _ _ t) (args_int_format _ _) ?_))
  unfold Builtin.«int.__format__»
  have hne : (("b" : Str).length == 0) = false := by decide +kernel
  have hasc : ((("b" : Str).cps.toList.drop 1).any (· ≥ 128) || (("b" : Str).cps.getD 0 0 ≥ 128 && !([60, 62, 61, 94] : List Nat).contains (("b" : Str).cps.getD 1 0))) = false := by decide +kernel
  have hcp : ("b" : Str).cps.toList = [98] := by decide +kernel
  simp only [selfAndOne, noKeywords, Int.intOfSelf, asInt?, asStr?, List.isEmpty_nil, if_true, pure_bind, bind_pure, bind_assoc, hne, hasc, Bool.false_eq_true, if_false,
    show (Value.str "b" s.toks == Value.none) = false from rfl]
  refine wpAny_bind (wpAny_typeNameOf (T := "str") (typeIs_str _ _ _) (by decide) fun _ => ?_)
  first | refine wpAny_bind (wpAny_typeNameOfCut_int ?_) | refine wpAny_bind (wpAny_typeNameOf_int ?_)
  rw [hcp, spec_b]
  show wpAny _ _ (if _ then _ else _) _ _ _
  rw [if_pos (by decide +kernel)]
  have et : (specB.type.getD (if (("b" : Str).cps.back? == some 0) = true then 0 else 100)) = 98 := rfl
  rw [et]
  show wpAny _ _ (retStr _) _ _ _
  have ev : (-1 - (0 : Int) - (((Nat.toDigits 2 n).map fun c => c.toNat).length : Int)).toNat = 0 := by omega
  unfold retStr
  have e0 : (List.map (fun c : Char => (if ((98 : Nat) == 88) = true then c.toUpper else c).toNat) (Nat.toDigits 2 ((n : Int)).natAbs)) = (Mk.figs n).map Char.toNat := rfl
  have hne0 : ((Mk.figs n).map Char.toNat).isEmpty = false := by
    have := Mk.figs_len n
    cases hf : Mk.figs n with
    | nil =>
      rw [hf] at this
      cases this
    | cons a b => rfl
  have hn0 : decide ((n : Int) < 0) = false := decide_eq_false (by omega)
  refine wpAny_bind (wpAny_mkStr (wpAny_pure ?_) ?hs2)
  case hs2 =>
    refine Nat.le_trans (Nat.le_of_eq (congrArg Str.length ?_)) hlen
    conv => lhs; whnf
    rw [e0, hn0]
    unfold binText
    generalize (Mk.figs n).map Char.toNat = ds at hne0
    have pad : (-1 - (0 : Int) - (ds.length : Int)).toNat = 0 := by omega
    simp [specB, hne0, pad]
    try omega
  dsimp only
  refine wpAny_bind (wpAny_isInstance (typeIs_str _ _ _) isSubtype_str_str (wpAny_pure ?_))
  refine Eq.mp (congrArg (fun z => Q (Value.str z _) _) ?_) h
  conv => rhs; whnf
  rw [e0, hn0]
  unfold binText
  generalize (Mk.figs n).map Char.toNat = ds at hne0
  simp [specB, hne0]
  try omega
end
end PySem

namespace Hx
open PySem PySem.Spec PyProof.Rows L2
section
variable {X : Cx}
/-- f"{e:b}" -/
def tBin (te : TE) : TE := fun σ H Q => te σ H fun x H1 => ∃ n : Nat, x = .int (n : Int) ∧ n.log2 ≤ 100000 ∧ Q (.str (binText n)) H1
theorem pe_bin {e : Expr} {te : TE} {pos p1 p2 p3 : Pos} {k : Nat} (he : PE X e te) : PE X (.JoinedStr [.FormattedValue e (-1) (some (.JoinedStr [.Constant (.str "b") k p1] p2)) p3] pos) (tBin te) := by
  refine pe_joined1 ⟨fun pins s σ H Q I h => ?_⟩
  refine wpAny_FormattedValue_spec (thn (he.run pins s σ H _ I h) fun v s1 ⟨x, H1, I1, r1, n, e1, hz, q⟩ => ?_)
  subst e1
  obtain ⟨t, rfl⟩ := r1
  refine thn ((pe_joined1 (pe_str (x := "b"))).run pins s1 σ H1 (fun v H' => v = .str "b" ∧ H' = H1) I1 ⟨rfl, rfl⟩) fun r s2 ⟨y, H2, I2, r2, e2, e3⟩ => ?_
  subst e2 e3
  obtain ⟨u, rfl⟩ := r2
  exact ⟨_, _, rfl, field_bin hz ⟨.str (binText n), _, (I2.tok _).tok _, ⟨_, rfl⟩, q⟩⟩
end
end Hx

/-! enumerate(text) -/
namespace Hx
open PySem PySem.Spec PyProof.Rows L2
/-- the signs of a text, each in a new pair with its index -/
def Ites (x : Str) : It :=
  ⟨fun i _ => i < x.cps.size, fun i H v H' => ∃ T c, v = .ref T ∧ H T = none ∧ H' = upd H T (.tup [.int (i : Nat), .str ⟨#[c]⟩]) ∧ x.cps[i]? = some c, fun i _ => i = x.cps.size⟩
theorem draws_str {prog : Program} {w : World} {A : Around} (hh : A.handled = none) (it : Addr) (x : Str) (t : Tok) (ty : String) (hty : ty = "str_ascii_iterator" ∨ ty = "str_iterator") :
    Draws prog w A it [it] x.cps.size (fun i v => ∃ c u, x.cps[i]? = some c ∧ v = .str ⟨#[c]⟩ u) (fun i h => h.IsStrIter it ty x t i) := by
  rcases hty with e | e
  · rw [e]; exact Draws.strAscii hh it x t
  · rw [e]; exact Draws.strWide hh it x t
theorem turn_enumS {P : Program} {w : World} {K : PySem.W.Frag} {elts : List Expr} {kk : Nat} {tpos : Pos} (x : Str) (t : Tok) (ty : String) (hty : ty = "str_ascii_iterator" ∨ ty = "str_iterator") (e it : Addr) :
    Turn P w K (.Tuple elts kk tpos) (Ites x) [e, it] e (fun i h => (∃ old, IsEnum h e it ((i : Nat) : Int) old) ∧ h.IsStrIter it ty x t i ∧ e ≠ it) where
  mem := by simp
  obj := fun i h st b hb => by
    obtain ⟨⟨old, he⟩, ⟨o, ho, hc, hd⟩, _⟩ := st
    have e' : b = e ∨ b = it := by simpa using hb
    rcases e' with z | z
    · rw [z]; exact ⟨_, he, fun v q => nomatch q⟩
    · rw [z]; exact ⟨o, ho, fun v q => by rw [hd] at q; cases q⟩
  keep := fun i h h' st k => let ⟨⟨old, he⟩, ⟨o, ho, r⟩, hne⟩ := st; ⟨⟨old, k e (by simp) _ he⟩, ⟨o, k it (by simp) o ho, r⟩, hne⟩
  item := by
    intro X hP hw hK hc i pins s σ H E I hf st hg
    subst hP hw hK
    obtain ⟨⟨old, he⟩, hit, hne⟩ := st
    have hel : e < s.heap.objs.size := Heap.lt_size he
    have hil : it < s.heap.objs.size := by obtain ⟨_, q, _⟩ := hit; exact Heap.lt_size q
    have D := draws_str (prog := X.prog) (w := X.w) (A := X.A.in1) (I.ok.hd hc) it x t ty hty
    refine wpAny_pyNext_enum_itemD D he hit hg hne (by simpa using hne) fun v h' tk hv ho hit' hT hsz hk => ?_
    obtain ⟨c, u, hcx, rfl⟩ := hv
    refine ⟨_, rfl, wpAny_letOwnedTupleGo_enum (s := { s with heap := h', toks := tk + 1 }) ho fun h'' he' sb => ?_⟩
    have hT2 : h''.get? s.heap.objs.size = some { cls := .type "tuple", data := .seq #[.int i tk, .str ⟨#[c]⟩ u] } := (sb.2 _ (Nat.ne_of_gt hel)).trans hT
    have new : ObjOk X.prog X.w (upd H s.heap.objs.size (.tup [.int (i : Nat), .str ⟨#[c]⟩])) h'' s.heap.objs.size (.tup [.int (i : Nat), .str ⟨#[c]⟩]) :=
      ⟨by show 2 ≤ sizeLine; decide, [.int i tk, .str ⟨#[c]⟩ u], .cons ⟨_, rfl⟩ (.cons ⟨_, rfl⟩ .nil), ⟨_, hT2, rfl, _, rfl⟩⟩
    have I1 : Inv X pins σ (upd H s.heap.objs.size (.tup [.int (i : Nat), .str ⟨#[c]⟩])) { s with heap := h'', toks := tk + 1 } :=
      I.turnedNew (ch := [e, it]) (fun b ob hb q => (sb.2 b (fun z => hb (by simp [z]))).trans (hk b ob (fun z => hb (by simp [z])) (fun z => hb (by simp [z])) q)) hf (Nat.le_refl _) new
    refine ⟨.ref s.heap.objs.size, _, I1, rfl, ⟨_, c, rfl, I.hok.fresh (Nat.le_refl _), rfl, hcx⟩, ⟨⟨.str ⟨#[c]⟩ u, ?_⟩, ?_, hne⟩, fun b hb => ?_⟩
    · have e1 : ((i + 1 : Nat) : Int) = (i : Int) + 1 := by omega
      rw [e1]; exact he'
    · obtain ⟨o, ho2, r⟩ := hit'
      exact ⟨o, (sb.2 it (Ne.symm hne)).trans ho2, r⟩
    · have hb' : b < s.heap.objs.size := by
        have e' : b = e ∨ b = it := by simpa using hb
        rcases e' with z | z
        · rw [z]; exact hel
        · rw [z]; exact hil
      rw [upd_ne (Nat.ne_of_lt hb')]
      exact (hf b hb).1
  done := by
    intro X hP hw hK hc i pins s σ H E I hf st hg
    subst hP hw hK
    obtain ⟨⟨old, he⟩, hit, hne⟩ := st
    have hg' : i = x.cps.size := hg
    subst hg'
    obtain ⟨f0, f1, f2, f3, f4, f5⟩ := hf it (by simp)
    have D := draws_str (prog := X.prog) (w := X.w) (A := X.A.in1) (I.ok.hd hc) it x t ty hty
    exact wpAny_pyNext_enum_endD D he hit fun h' eb => ⟨rfl, I.turned (t' := s.toks) (fun b o hb q => eb b o hb q) f0 f1 f3 f4 f5⟩
  self := fun A i s Q E st h => let ⟨⟨_, he⟩, _⟩ := st; wpAny_pyIter_enum he h
def iEnumS (ta : TA) : TI := fun σ H R => ta σ H fun vs H1 => ∃ x : Str, vs = [.str x] ∧ R (Ites x) H1
theorem pi_enumS {X : Cx} {e : Expr} {ta : TA} {p pos tpos : Pos} {elts : List Expr} {kk : Nat} (hg : Gl X "enumerate") (hm : X.mg "enumerate" = none) (ha : PA X [e] ta) (hs : starEach [e] X.env = [(false, eval e X.env)] := by rfl) :
    PI X (.Tuple elts kk tpos) (.Call (.Name "enumerate" p) [e] [] pos) (iEnumS ta) := by
  refine ⟨fun pins s σ H R I h => ?_⟩
  refine Call_ (ld_blt I hg hm boot_enumerate (PyProof.Rows.callWith_type1 (thn (ha.run pos pins s σ H _ I h) fun us s1 ⟨vs, H1, I1, r1, q1⟩ => ?_) hs rfl))
  obtain ⟨x, ex, q⟩ := q1
  subst ex
  cases r1 with
  | cons r rr =>
    cases rr
    obtain ⟨t, rfl⟩ := r
    have hty : strIterType x = "str_ascii_iterator" ∨ strIterType x = "str_iterator" := by
      unfold strIterType
      split
      · exact .inl rfl
      · exact .inr rfl
    refine call_enumerate_str fun h' he hit hsz hk => wpAny_pyIter_enum he ?_
    have I2 : Inv X pins σ H1 { s1 with heap := h' } := I1.kept (t' := s1.toks) hk
    refine ⟨s1.heap.objs.size + 1, [s1.heap.objs.size + 1, s1.heap.objs.size], _, _, H1, rfl, I2, turn_enumS x t _ hty (s1.heap.objs.size + 1) s1.heap.objs.size, ⟨⟨.none, he⟩, hit, Nat.succ_ne_self _⟩, fun b hb => ?_, q⟩
    have e' : b = s1.heap.objs.size + 1 ∨ b = s1.heap.objs.size := by simpa using hb
    have hle : s1.heap.objs.size ≤ b := by
      rcases e' with z | z
      · rw [z]; exact Nat.le_add_right _ _
      · rw [z]; exact Nat.le_refl _
    exact I1.fpOk hle (I1.hok.fresh hle)
end Hx

/-! x[::-1]; bool of an own object; == and != of an own object beside any value -/
namespace Hx
open PySem PySem.Spec PyProof.Rows L2
def SlB (X : Cx) (r : V → Hp → VK → Prop) : Prop :=
  ∀ (pins : List (Addr × Obj)) (s : Shared) (σ : L2.St) (H : Hp) (x : V) (v : Value) (tk : Tok) (sl : Addr) (Q : VK), Inv X pins σ H s → RelV x v → s.heap.IsSliceOf sl .none .none (.int (-1) tk) → r x H Q →
    ∃ T id, typeLookup (.type T) "__getitem__" = pure (some (.builtin id)) ∧ s.TypeIs v T ∧ wpAny (model X.prog X.w) X.A (getItem v (.ref sl)) (EP X pins σ Q) X.xe s
def tBack (r : V → Hp → VK → Prop) (te tk : TE) : TE := fun σ H Q => te σ H fun x H1 => tk σ H1 fun y H2 => y = .int (-1) ∧ r x H2 Q
def revS (z : Str) : Str := ⟨z.cps.toList.reverse.toArray⟩
section
variable {X : Cx} {e k : Expr} {te tk : TE} {pos p2 : Pos}
theorem pe_back {r : V → Hp → VK → Prop} (hr : SlB X r) (he : PE X e te) (hk : PE X k tk) : PE X (.Subscript e (.Slice none none (some k) p2) pos) (tBack r te tk) := by
  refine ⟨fun pins s σ H Q I h => ?_⟩
  refine Subscript_ (thn (he.run pins s σ H _ I h) fun v s1 ⟨x, H1, I1, r1, q1⟩ => ?_)
  refine wpAny_Slice ?_
  rw [evalPart_none, evalPart_some]
  refine wpAny_pure (wpAny_pure ?_)
  refine thn (hk.run pins s1 σ H1 _ I1 q1) fun u s3 ⟨y, H3, I3, r3, q3⟩ => ?_
  obtain ⟨rfl, q⟩ := q3
  obtain ⟨t, rfl⟩ := r3
  have I4 : Inv X pins σ H3 { s3 with heap := s3.heap.push { cls := .type "slice", data := .fields #[.none, .none, .int (-1) t] } } := I3.kept (t' := s3.toks) fun b ob q => Heap.get?_push_of_some _ q
  obtain ⟨T, id, hT, ht, hg⟩ := hr pins { s3 with heap := s3.heap.push { cls := .type "slice", data := .fields #[.none, .none, .int (-1) t] } } σ H3 x v t s3.heap.objs.size Q I4 r1 (Heap.IsSliceOf.new ..) q
  show wpAny (model X.prog X.w) X.A (subscriptTail e (.Slice none none (some k) p2) v (.ref s3.heap.objs.size)) (EP X pins σ Q) X.xe { s3 with heap := s3.heap.push { cls := .type "slice", data := .fields #[.none, .none, .int (-1) t] } }
  exact tail_any (ops := [v, .ref s3.heap.objs.size]) ht hT hg (by with_unfolding_all rfl)
def rBackL (K : PySem.W.Frag) : V → Hp → VK → Prop := fun x H Q => ∃ a xs, x = .ref a ∧ SqL K H a xs ∧ ∀ p, H p = none → Q (.ref p) (upd H p (.lst xs.reverse))
theorem sl_backL : SlB X (rBackL X.K) := by
  intro pins s σ H x v tk sl Q I rx hs h
  obtain ⟨a, xs, rfl, hx, q⟩ := h
  cases rx
  obtain ⟨its, r, ht, hz⟩ := I.list hx
  have hlen := r.length
  refine ⟨"list", _, slot_list_getitem.lookup, ht.isList.typeIs, ?_⟩
  refine wpAny_getItem_list_slice ht.isList hs .none .none (.int (-1) tk) (by decide) ?_ (by rw [List.size_toArray] <;> omega)
  rw [PySem.W.krv_pick]
  refine ⟨.ref s.heap.objs.size, _, I.laid (t' := s.toks) (o := .lst xs.reverse) (fun b ob q => Heap.get?_push_of_some _ q) (Nat.le_refl _) ?_, rfl, q _ (I.hok.fresh (Nat.le_refl _))⟩
  exact ⟨by rw [List.length_reverse]; exact hz, _, 0, r.reverse, Heap.get?_push_size _ rfl⟩
def rBackS : V → Hp → VK → Prop := fun x H Q => ∃ z : Str, x = .str z ∧ z.length ≤ sizeLine ∧ Q (.str (revS z)) H
theorem back_is (x : Str) (u : Tok) : Txt.sliceBy x none none (-1, u) = revS x := by
  have h := step_rev_list x u
  have e : (Txt.sliceBy x none none (-1, u)).cps.toList = x.cps.toList.reverse := by
    rw [h]
    refine List.ext_getElem (by simp [Str.length]) fun i h1 h2 => ?_
    simp only [List.length_map, List.length_range] at h1
    rw [List.getElem_map, List.getElem_range, List.getElem_reverse]
    have hl : x.cps.toList.length = x.length := Array.length_toList
    have : x.length - 1 - i < x.cps.size := by show _ < x.length; omega
    simp [Array.getD, this, hl]
  unfold revS
  rw [← e]
theorem sl_backS : SlB X rBackS := by
  intro pins s σ H x v tk sl Q I rx hs h
  obtain ⟨z, rfl, hz, q⟩ := h
  obtain ⟨t, rfl⟩ := rx
  obtain ⟨os, hos, hcs, hds⟩ := hs
  refine ⟨"str", _, F.slot_str_getitem.lookup, typeIs_str _ _ _, ?_⟩
  refine wpAny_getItem_str_slice (l := none) (u := none) (st := some (-1, tk)) ⟨os, hos, hcs, hds⟩ rfl ?_
  refine post_val_or_str ⟨Nat.le_trans (Txt.sliceBy_le z none none (-1, tk) (show (-1 : Int) ≠ 0 by decide)) hz, fun t' c => ?_⟩
  refine ⟨.str (revS z), H, I.tok _, ⟨t', ?_⟩, q⟩
  show Value.str (Txt.sliceBy z none none (-1, tk)) t' = .str (revS z) t'
  rw [back_is]
end
/-! bool of an own object -/
section
variable {M : Model} {A : Around} {E : Value → Shared → Prop} {s : Shared} {K : PySem.W.Frag} {x C : Addr} {ox : Obj} {od : Option Obj}
theorem truthy_own0 {Q : Bool → Shared → Prop} (X : K.In s.heap) (I : PySem.W.InstAt s.heap x ox C od) (hs : PySem.W.findIn K (.ref C) "__bool__" = some none) (hl : PySem.W.findIn K (.ref C) "__len__" = some none)
    (h : Q true s) : wpAny M A (truthy (.ref x)) Q E s := by
  unfold truthy
  refine wpAny_bind (m := callSpecial? (.ref x) (Str.ofString "__bool__")) (wpAny_bind (wpAny_bind (I.type.here ((PySem.W.looks_findIn X hs).here (wpAny_pure ?_)))))
  refine wpAny_bind (wpAny_bind (I.type.here ((PySem.W.looks_findIn X hl).here ?_)))
  exact wpAny_pure h
theorem meets_bool_own (hs : PySem.W.findIn K (.ref C) "__bool__" = some none) (hl : PySem.W.findIn K (.ref C) "__len__" = some none) :
    Meets (Builtin.«bool.__new__» ⟨[.type "bool", .ref x], []⟩) (fun _ R s => (K.In s.heap ∧ PySem.W.InstAt s.heap x ox C od) ∧ R (.ok (.ret (.bool true))) s) :=
  Meets.of_wp fun prog w A R s hs' => by
    obtain ⟨⟨X, I⟩, hs'⟩ := hs'
    have f1 := F.conv_sub_bool
    repeat (any_goals (first | assumption | (with_reducible refine truthy_own0 X I hs hl ?_) | wp_step))
    all_goals first | exact ⟨_, rfl, hs'⟩ | exact hs' | skip
end
section
variable {X : Cx}
theorem call_boolO : CallR X (.type "bool") (fun xs H Q => ∃ (a C dx : Addr) (fs : List (Str × V)), xs = [.ref a] ∧ H a = some (.ins C dx fs) ∧ PySem.W.findIn X.K (.ref C) "__bool__" = some none ∧ PySem.W.findIn X.K (.ref C) "__len__" = some none ∧ Q (.bl true) H) := by
  intro pins s σ H xs us Q I r h
  obtain ⟨a, C, dx, fs, rfl, ha, h1, h2, q⟩ := h
  rw [Vals.ref1 r]
  obtain ⟨mA, O, _⟩ := ins_get I.hok ha
  obtain ⟨od, J, _⟩ := O.look
  exact call_bool_1 (meets_bool_own h1 h2) ⟨⟨I.kIn, J⟩, rfl, ⟨.bl true, H, I, rfl, q⟩⟩
/-! == and != beside any value -/
/-- the class of a right operand -/
inductive RightT (H : Hp) : V → Value → Prop
  | non : RightT H .non (.type "NoneType")
  | bl (b : Bool) : RightT H (.bl b) (.type "bool")
  | int (i : Int) : RightT H (.int i) (.type "int")
  | str (z : Str) : RightT H (.str z) (.type "str")
  | lst {a : Addr} {xs : List V} (e : H a = some (.lst xs)) : RightT H (.ref a) (.type "list")
  | tup {a : Addr} {xs : List V} (e : H a = some (.tup xs)) : RightT H (.ref a) (.type "tuple")
  | ins {a C dx : Addr} {fs : List (Str × V)} (e : H a = some (.ins C dx fs)) : RightT H (.ref a) (.ref C)
/-- a class with an __eq__ of its own, nothing asked of the right operand -/
structure EqAny (P : Program) (w : World) (K : PySem.W.Frag) (mg : Str → Option Value) (base : Heap) (k : Nat) (C : Addr) (sp : Sp) : Prop where
  go : ∃ (g : Addr) (fd : FuncData) (ps : List Str), PySem.W.findIn K (.ref C) "__eq__" = some (some (.ref g)) ∧ PySem.W.isFn K (.ref g) = true ∧ FnOk P w K mg base CX0 k g fd ps sp ∧ Binds K fd ps []
  ne : PySem.W.findIn K (.ref C) "__ne__" = some (some (.builtin "object.__ne__"))
  obj : PySem.W.mroIn K C (.type "object") = some true
def rEqA (P : Program) (w : World) (K : PySem.W.Frag) (mg : Str → Option Value) (base : Heap) (k : Nat) : R2 := fun x y H Q => ∃ (a C dx : Addr) (fs : List (Str × V)) (sp : Sp) (t : Value), x = .ref a ∧ H a = some (.ins C dx fs) ∧ EqAny P w K mg base k C sp ∧
  RightT H y t ∧ PySem.W.notFirst K C t = true ∧ sp [x, y] H (fun v H' => ∃ b, v = .bl b ∧ Q (.bl b) H') E0
def rNeA (P : Program) (w : World) (K : PySem.W.Frag) (mg : Str → Option Value) (base : Heap) (k : Nat) : R2 := fun x y H Q => ∃ (a C dx : Addr) (fs : List (Str × V)) (sp : Sp) (t : Value), x = .ref a ∧ H a = some (.ins C dx fs) ∧ EqAny P w K mg base k C sp ∧
  RightT H y t ∧ PySem.W.notFirst K C t = true ∧ sp [x, y] H (fun v H' => ∃ b, v = .bl b ∧ Q (.bl (!b)) H') E0
theorem right_any {pins : List (Addr × Obj)} {σ : L2.St} {H : Hp} {s : Shared} {y : V} {u t : Value} (I : Inv X pins σ H s) (ry : RelV y u) (r : RightT H y t) : PySem.W.Looks (model X.prog X.w) s.heap (typeOf u) t := by
  cases r with
  | non => cases ry; exact .of_pure rfl
  | bl b => cases ry; exact .of_pure rfl
  | int i => obtain ⟨t, rfl⟩ := ry; exact .of_pure rfl
  | str z => obtain ⟨t, rfl⟩ := ry; exact .of_pure rfl
  | @lst a xs e =>
    cases (show u = Value.ref a from ry)
    obtain ⟨_, its, n, rv, hg⟩ := (show ObjOk X.prog X.w H s.heap a (.lst xs) from I.hok a _ e)
    exact (PySem.W.Looks.ld hg).andThen .now
  | @tup a xs e =>
    cases (show u = Value.ref a from ry)
    obtain ⟨its, _, ⟨o, ho, hc, _⟩, _⟩ := I.tuple (SqT.of e)
    exact hc ▸ (PySem.W.Looks.ld ho).andThen .now
  | @ins a C dx fs e =>
    cases (show u = Value.ref a from ry)
    obtain ⟨mA, O, _⟩ := ins_get I.hok e
    obtain ⟨od, J, _⟩ := O.look
    exact J.type
variable {k : Nat}
theorem op_eqA (hr : Room k X.A) : OpR X (compareOp .Eq) (rEqA X.prog X.w X.K X.mg X.base k) := by
  intro pins s σ H x y v u Q I rx ry h
  obtain ⟨a, C, dx, fs, sp, t, rfl, ha, T, r, hn, q⟩ := h
  have hb := right_any I ry r
  cases (show v = Value.ref a from rx)
  obtain ⟨g, fd, ps, h1, h2, F, b⟩ := T.go
  obtain ⟨mA, O, _⟩ := ins_get I.hok ha
  obtain ⟨od, J, _⟩ := O.look
  obtain ⟨m, hF⟩ := I.fr
  refine PySem.W.cmp_ofEq (PySem.W.cmp_K (op := .Eq) hr.units0 hF I.ok.mod.kin J hb hn h1 h2 ?_)
  refine wpAny_mono (run_below F hr I.env0 b I (.cons rx (.cons ry .nil)) q) (fun w' s' z => ?_) fun _ _ e => e
  obtain ⟨z', H', I', rz, kk, rfl, qz⟩ := z
  cases (show w' = Value.bool kk from rz)
  exact ⟨.bl kk, H', I', rfl, qz⟩
theorem op_neA (hr : Room (k + 1) X.A) : OpR X (compareOp .NotEq) (rNeA X.prog X.w X.K X.mg X.base k) := by
  intro pins s σ H x y v u Q I rx ry h
  obtain ⟨a, C, dx, fs, sp, t, rfl, ha, T, r, hn, q⟩ := h
  have hb := right_any I ry r
  cases (show v = Value.ref a from rx)
  obtain ⟨g, fd, ps, h1, h2, F, b⟩ := T.go
  obtain ⟨mA, O, _⟩ := ins_get I.hok ha
  obtain ⟨od, J, _⟩ := O.look
  obtain ⟨m, hF⟩ := I.fr
  refine PySem.W.cmp_ofNotEq (ne_K (by have := hr.un; omega) hF I.ok.mod.kin J hb hn T.ne T.obj h1 h2 ?_)
  refine wpAny_mono (run_below F hr.in1 I.env0.in1 b I (.cons rx (.cons ry .nil)) q) (fun w' s' z => ?_) fun _ _ e => e
  obtain ⟨z', H', I', rz, kk, rfl, qz⟩ := z
  cases (show w' = Value.bool kk from rz)
  exact ⟨kk, rfl, .bl (!kk), H', I', rfl, qz⟩
end
end Hx

namespace Wp
open PySem PySem.Spec PyProof.Rows L2 Hx
structure Bp (mg : Str → Option Value) : Prop where
  isinstance : mg "isinstance" = none
  int : mg "int" = none
  bool : mg "bool" = none
  str : mg "str" = none
  len : mg "len" = none
  all : mg "all" = none
  list : mg "list" = none
  tuple : mg "tuple" = none
  range : mg "range" = none
  max : mg "max" = none
  min : mg "min" = none
  repr : mg "repr" = none
  enumerate : mg "enumerate" = none
def spFull : Sp := fun vs H Q _ => ∃ k : Nat, vs = [.int (k : Int)] ∧ k ≤ 100000 ∧ Q (.int ((2 : Int) ^ k - 1)) H
def spLow : Sp := fun vs H Q _ => ∃ n k : Nat, vs = [.int (n : Int), .int (k : Int)] ∧ k ≤ 100000 ∧ Q (.int ((n % 2 ^ k : Nat) : Int)) H
def spTiled : Sp := fun vs H Q _ => ∃ pat w many : Nat, vs = [.int (pat : Int), .int (w : Int), .int (many : Int)] ∧ 0 < w ∧ w ≤ 5000 ∧ pat < 2 ^ w ∧ many ≤ 20000 ∧ ∀ x : Nat, Mk.Tiled x pat w many → Q (.int (x : Int)) H
section
variable {P : Program} {w : World} {K : PySem.W.Frag} {mg : Str → Option Value} {base : Heap} {f f1 f2 : Addr} {fd fd1 fd2 : FuncData}
theorem scFull : FnScope ["many"] ["many"] (defScope s_full) := ⟨rfl, rfl, rfl, by decide +kernel, rfl, by decide +kernel, by decide +kernel⟩
theorem ok_full (F : Fun K "full" "full" s_full f fd) : FnOk P w K mg base CX0 1 f fd ["many"] spFull := by
  refine F.ok scFull (fun vs H Q E h => ?_) (fun cdv A outer s H vs Q E hr h => ?_)
  · obtain ⟨k, rfl, _⟩ := h
    rfl
  obtain ⟨k, rfl, hk, q⟩ := h
  refine ⟨_, pss_one (ps_ret (pe_op op_sub (pe_op op_oneShl pe_int (pv 0)) pe_int)), ?_⟩
  exact ⟨_, rfl, k, rfl, rfl, by omega, _, _, rfl, rfl, q⟩
theorem scLow : FnScope ["bits", "many"] ["bits", "many"] (defScope s_low) := ⟨rfl, rfl, rfl, by decide +kernel, rfl, by decide +kernel, by decide +kernel⟩
theorem ok_low (F : Fun K "low" "low" s_low f fd)
    (G1 : FnOk P w K mg base CX0 1 f1 fd1 ["many"] spFull) (b1 : Binds K fd1 ["many"] []) (k1 : PySem.W.keepIn K (.ref f1) = true) (m1 : mg "full" = some (.ref f1)) :
    FnOk P w K mg base CX0 2 f fd ["bits", "many"] spLow := by
  refine F.ok scLow (fun vs H Q E h => ?_) (fun cdv A outer s H vs Q E hr h => ?_)
  · obtain ⟨n, k, rfl, _⟩ := h
    rfl
  obtain ⟨n, k, rfl, hk, q⟩ := h
  refine ⟨_, pss_one (ps_ret (pe_op op_andM (pv 0) (pe_call G1 hr rfl m1 k1 b1 .nil pass0 (pa_cons (pv 1) pa_nil)))), ?_⟩
  refine ⟨_, rfl, _, rfl, k, rfl, hk, _, k, rfl, rfl, ?_⟩
  rw [Mk.mod_ct]
  exact q
theorem scTiled : FnScope ["pattern", "width", "many"] ["pattern", "width", "many"] (defScope s_tiled) := ⟨rfl, rfl, rfl, by decide +kernel, rfl, by decide +kernel, by decide +kernel⟩
theorem ok_tiled (F : Fun K "tiled" "tiled" s_tiled f fd)
    (G1 : FnOk P w K mg base CX0 2 f1 fd1 ["bits", "many"] spLow) (b1 : Binds K fd1 ["bits", "many"] []) (k1 : PySem.W.keepIn K (.ref f1) = true) (m1 : mg "low" = some (.ref f1)) :
    FnOk P w K mg base CX0 3 f fd ["pattern", "width", "many"] spTiled := by
  refine F.ok scTiled (fun vs H Q E h => ?_) (fun cdv A outer s H vs Q E hr h => ?_)
  · obtain ⟨pat, u, many, rfl, _⟩ := h
    rfl
  obtain ⟨pat, u, many, rfl, u0, u1, lt, mk, q⟩ := h
  refine ⟨_, pss_cons (ps_while PassesOwn.never (pt_cmpR op_lt (pv 1) (pv 2) (nomark _))
      (pss_cons (ps_set (i := 0) scTiled.nd rfl (Or.inl rfl) (pe_op op_or (pv 0) (pe_op op_shlN (pv 0) (pv 1))))
        (pss_one (ps_set (i := 1) scTiled.nd rfl (Or.inl rfl) (pe_op op_mul (pv 1) pe_int)))))
    (pss_one (ps_ret (pe_call G1 hr rfl m1 k1 b1 .nil pass0 (pa_cons (pv 0) (pa_cons (pv 2) pa_nil))))), ?_⟩
  refine ⟨fun m σ H' => ∃ x v : Nat, σ = [some (.int (x : Int)), some (.int (v : Int)), some (.int (many : Int))] ∧ H = H' ∧ Mk.Tiling pat u x v ∧ v ≤ 40000 + u ∧ m = many - v, ⟨_, pat, u, rfl, rfl, Mk.Tiling.start u0 lt, by omega, rfl⟩, ?_⟩
  rintro m σ _ ⟨x, v, rfl, rfl, T, v1, rfl⟩
  refine ⟨_, rfl, _, rfl, _, _, rfl, rfl, _, rfl, ?_⟩
  refine ite2 (fun c => ?_) (fun c => ?_)
  · have c' : v < many := by
      have := of_decide_eq_true c
      omega
    refine ⟨fun σ H' => ∃ x v2 : Nat, σ = [some (.int (x : Int)), some (.int (v2 : Int)), some (.int (many : Int))] ∧ H = H' ∧ Mk.Tiling pat u x v2 ∧ v2 ≤ 40000 + u ∧ v < v2, ?_, ?_⟩
    · rintro σ' H' ⟨x2, v2, rfl, rfl, T2, l2, l3⟩
      exact ⟨many - v2, by omega, x2, v2, rfl, rfl, T2, l2, rfl⟩
    · have vp := T.pos
      refine ⟨_, rfl, _, rfl, _, rfl, _, v, rfl, rfl, shl_ok (n := v) (by simpa using T.lt) (by omega), _, _, rfl, rfl, ?_⟩
      rw [Mk.mul_ct]
      dsimp only
      rw [Mk.bor]
      refine ⟨_, rfl, _, _, rfl, rfl, .inl ⟨by omega, by omega⟩, ?_⟩
      refine ⟨x ||| x * 2 ^ v, v * 2, ?_, rfl, T.step, by omega, by omega⟩
      show [some (V.int _), some (V.int ((v : Int) * 2)), some (V.int _)] = _
      rw [show (v : Int) * 2 = ((v * 2 : Nat) : Int) by omega]
  · have c' : many ≤ v := by
      have : ¬ (v : Int) < (many : Int) := fun z => c (decide_eq_true z)
      omega
    exact ⟨_, rfl, _, rfl, x, many, rfl, by omega, q _ (T.done c')⟩
end
end Wp

namespace Hx
open PySem PySem.Spec PyProof.Rows L2
theorem lc_enumS {x : Str} {g : TG} {tt : TT} {te : TE} {vs : List Nat} {σ : L2.St} {H1 : Hp} {D : Addr} {Qd : Hp → Prop} (I : Nat → Hp → Prop) (h0 : I 0 (upd H1 D (.lst [])))
    (step : ∀ i c H T, x.cps[i]? = some c → I i H → H T = none → g (.ref T) (wipe σ vs) (upd H T (.tup [.int (i : Nat), .str ⟨#[c]⟩])) fun σ2 H2 => wipe σ2 vs = wipe σ vs ∧ tt σ2 H2 fun b H3 =>
      if b = true then te σ2 H3 fun y H4 => ∃ acc, H4 D = some (.lst acc) ∧ acc.length < sizeLine ∧ I (i + 1) (upd H4 D (.lst (acc ++ [y]))) else I (i + 1) H3)
    (done : ∀ H, I x.cps.size H → Qd H) :
    ∃ W : Nat → Nat → Hp → Prop, (∃ m, W 0 m (upd H1 D (.lst []))) ∧ ∀ i m H, W i m H →
      ((Ites x).stop i H ∧ Qd H) ∨ ((Ites x).go i H ∧ ∃ Nx : Hp → Prop, (∀ H', Nx H' → ∃ m', m' < m ∧ W (i + 1) m' H') ∧
        ∀ v H', (Ites x).yld i H v H' → g v (wipe σ vs) H' fun σ2 H2 => wipe σ2 vs = wipe σ vs ∧ tt σ2 H2 fun b H3 =>
          if b = true then te σ2 H3 fun y H4 => ∃ acc, H4 D = some (.lst acc) ∧ acc.length < sizeLine ∧ Nx (upd H4 D (.lst (acc ++ [y]))) else Nx H3) := by
  refine ⟨fun i m H => I i H ∧ i ≤ x.cps.size ∧ m = x.cps.size - i, ⟨_, h0, Nat.zero_le _, rfl⟩, fun i m H ⟨hI, hi, hm⟩ => ?_⟩
  by_cases c : i < x.cps.size
  · refine .inr ⟨c, I (i + 1), fun H' h' => ⟨_, by omega, h', by omega, rfl⟩, ?_⟩
    rintro v H' ⟨T, ch, rfl, hT, rfl, hc⟩
    exact step i ch H T hc hI hT
  · have e : i = x.cps.size := by omega
    subst e
    exact .inl ⟨rfl, done H hI⟩
end Hx
namespace Wp
open PySem PySem.Spec PyProof.Rows L2 Hx
theorem same_at {H H2 : Hp} {D : Addr} {o : HO} (hD : H D = none) (s : Same H H2) : Same H (upd H2 D o) := fun c x h => by
  rw [upd_ne (ne_of_none h hD)]
  exact s c x h
def nats (l : List Nat) : List V := l.map fun i : Nat => V.int (i : Int)
def spPositions : Sp := fun vs H Q _ => ∃ n : Nat, vs = [.int (n : Int)] ∧ n.log2 ≤ 30000 ∧ ∀ D H', Same H H' → H' D = some (.lst (nats (Mk.pos n))) → Q (.ref D) H'
section
variable {P : Program} {w : World} {K : PySem.W.Frag} {mg : Str → Option Value} {base : Heap} {f f1 f2 : Addr} {fd fd1 fd2 : FuncData}
theorem scPositions : FnScope ["bits", "figures", "at", "figure"] ["bits"] (defScope s_positions) := ⟨rfl, rfl, rfl, by decide +kernel, rfl, by decide +kernel, by decide +kernel⟩
theorem rev_bin {n i c : Nat} (h : (revS (binText n)).cps[i]? = some c) : i < n.log2 + 1 ∧ c = (if n.testBit i then 49 else 48) := by
  have e : (revS (binText n)).cps.toList = ((Mk.figs n).reverse).map Char.toNat := by
    show ((((Mk.figs n).map Char.toNat).toArray).toList.reverse.toArray).toList = _
    simp
  rw [← Array.getElem?_toList, e, Mk.figs_rev, List.map_map, List.getElem?_map] at h
  obtain ⟨j, hj, hc⟩ := Option.map_eq_some_iff.mp h
  by_cases lt : i < n.log2 + 1
  · rw [List.getElem?_range lt] at hj
    cases hj
    refine ⟨lt, ?_⟩
    rw [← hc]
    show Char.toNat (if n.testBit i = true then '1' else '0') = _
    split <;> rfl
  · rw [List.getElem?_eq_none (by rw [List.length_range]; omega)] at hj
    cases hj
theorem ok_positions (F : Fun K "positions" "positions" s_positions f fd) (Z : Bp mg) : FnOk P w K mg base CX0 1 f fd ["bits"] spPositions := by
  refine F.ok scPositions (fun vs H Q E h => ?_) (fun cdv A outer s H vs Q E hr h => ?_)
  · obtain ⟨n, rfl, _⟩ := h
    rfl
  obtain ⟨n, rfl, hn, q⟩ := h
  refine ⟨_, pss_cons (ps_set (i := 1) scPositions.nd rfl (Or.inl rfl) (pe_bin (pv 0)))
    (pss_one (ps_ret (pe_lc (own := [("at", 2), ("figure", 3)]) (g := gTup K 2 (gCons (gName 2) (gCons (gName 3) gNil))) (te := tVar 2) rfl scPositions.nd (pi_enumS rfl Z.enumerate (pa_cons (pe_back sl_backS (pv 1) (pe_un un_neg pe_int)) pa_nil))
      (blkOk_by (N := ["bits", "figures", "at", "figure"]) (sc := defScope s_positions) (by decide +kernel))
      (fun _ _ _ _ _ => pg_tup (by rfl) (pgs_cons (pg_name (i := 2) scPositions.nd rfl (Or.inl rfl)) (pgs_cons (pg_name (i := 3) scPositions.nd rfl (Or.inl rfl)) pgs_nil)))
      (fun _ _ _ _ _ => pts_one (pt_cmpR op_eq (pv 3) pe_str (nomark _))) (fun _ _ _ _ _ => pv 2)))), ?_⟩
  have sz : (revS (binText n)).cps.size = n.log2 + 1 := by
    show ((binText n).cps.toList.reverse.toArray).size = _
    rw [List.size_toArray, List.length_reverse, Array.length_toList]
    exact bin_len n
  refine ⟨_, rfl, n, rfl, by omega, ?_⟩
  refine ⟨_, rfl, _, rfl, rfl, _, rfl, ?_, ?_⟩
  · rw [bin_len, sizeLine_eq]
    omega
  refine ⟨_, rfl, fun D hD => ?_⟩
  have nl : ∀ i, (nats ((List.range i).filter n.testBit)).length ≤ i := fun i => by
    unfold nats
    rw [List.length_map]
    exact Nat.le_trans (List.length_filter_le _ _) (by rw [List.length_range]; exact Nat.le_refl _)
  refine lc_enumS (fun i H' => Same H H' ∧ H' D = some (.lst (nats ((List.range i).filter n.testBit)))) ⟨same_new hD _, upd_same⟩ ?_ ?_
  · rintro i c H' T hc ⟨s1, hD1⟩ hT
    obtain ⟨li, hcv⟩ := rev_bin hc
    have s2 := s1.trans (same_new hT (.tup [.int (i : Nat), .str ⟨#[c]⟩]))
    have hD2 := upd_other (o := .tup [.int (i : Nat), .str ⟨#[c]⟩]) hD1 hT
    refine ⟨T, _, rfl, SqT.of upd_same, rfl, _, _, rfl, _, _, rfl, rfl, rfl, ?_⟩
    refine ⟨_, rfl, ?_⟩
    refine ⟨rfl, _, rfl, ?_⟩
    rw [List.range_succ, List.filter_append]
    have one : ("1" : Str) = ⟨#[49]⟩ := by decide +kernel
    have lt : (nats ((List.range i).filter n.testBit)).length < sizeLine := by
      have := nl i
      rw [sizeLine_eq]
      omega
    by_cases b : n.testBit i = true
    · rw [if_pos b] at hcv
      subst hcv
      rw [one, decide_eq_true rfl]
      refine iteT ⟨_, rfl, _, hD2, lt, same_at hD s2, ?_⟩
      rw [upd_same]
      simp [nats, b]
    · rw [if_neg b] at hcv
      subst hcv
      rw [decide_eq_false (by rw [one]; decide)]
      refine iteF ⟨s2, ?_⟩
      simp [b]
      exact hD2
  · rintro H' ⟨s1, hD1⟩
    rw [sz] at hD1
    exact q D H' s1 hD1
end
end Wp

namespace Wp
open PySem PySem.Spec PyProof.Rows L2 Hx
/-- the ways of a statement meet -/
theorem seq_of {t : TS} {u : TS} {D : Ends} {σ : L2.St} {H : Hp} (J : L2.St → Hp → Prop) (hu : ∀ σ' H', J σ' H' → u D σ' H') (ht : ∀ N, (∀ σ' H', J σ' H' → N σ' H') → t { D with nx := N } σ H) : tSeq t u D σ H := ht _ hu
def spPrimes : Sp := fun vs H Q _ => ∃ n : Nat, vs = [.int (n : Int)] ∧ 1 ≤ n ∧ n ≤ 5000 ∧ ∀ (qs : List Nat) D H', (∀ q ∈ qs, 2 ≤ q ∧ q ≤ n) → qs.length ≤ 5000 → Same H H' → H' D = some (.lst (nats qs)) → Q (.ref D) H'
section
variable {P : Program} {w : World} {K : PySem.W.Frag} {mg : Str → Option Value} {base : Heap} {f f1 f2 : Addr} {fd fd1 fd2 : FuncData}
theorem scPrimes : FnScope ["number", "found", "prime"] ["number"] (defScope s_primes_of) := ⟨rfl, rfl, rfl, by decide +kernel, rfl, by decide +kernel, by decide +kernel⟩
/-- what the outer loop keeps -/
structure Prm (n m p : Nat) (qs : List Nat) : Prop where
  m1 : 1 ≤ m
  mn : m ≤ n
  p2 : 2 ≤ p
  least : ∀ d, 2 ≤ d → d ∣ m → p ≤ d
  two : ∀ q ∈ qs, 2 ≤ q ∧ q ≤ n
  few : qs.length + 2 ≤ p
  pn : p ≤ n + 2
theorem ok_primes (F : Fun K "primes_of" "primes_of" s_primes_of f fd) : FnOk P w K mg base CX0 1 f fd ["number"] spPrimes := by
  refine F.ok scPrimes (fun vs H Q E h => ?_) (fun cdv A outer s H vs Q E hr h => ?_)
  · obtain ⟨n, rfl, _⟩ := h
    rfl
  obtain ⟨n, rfl, n1, n2, q⟩ := h
  refine ⟨_, pss_cons (ps_set (i := 1) scPrimes.nd rfl (Or.inl rfl) (pe_lst pa_nil))
    (pss_cons (ps_set (i := 2) scPrimes.nd rfl (Or.inl rfl) pe_int)
    (pss_cons (ps_while PassesOwn.never (pt_cmpR op_gt (pv 0) pe_int (nomark _))
      (pss_cons (ps_if (pt_cmpR op_eq (pe_op op_mod (pv 0) (pv 2)) pe_int (nomark _))
        (pss_one (ps_expr (pe_bm PySem.F.plainAttrs_list PySem.F.slot_list_append PySem.F.type_list_append mt_append (pv 1) (pa_cons (pv 2) pa_nil)))) pss_nil)
      (pss_cons (ps_while PassesOwn.never (pt_cmpR op_eq (pe_op op_mod (pv 0) (pv 2)) pe_int (nomark _))
        (pss_one (ps_set (i := 0) scPrimes.nd rfl (Or.inl rfl) (pe_op op_fdiv (pv 0) (pv 2)))))
      (pss_one (ps_aug (i := 2) scPrimes.nd rfl (.inl rfl) pe_int ip_add)))))
    (pss_one (ps_ret (pv 1))))), ?_⟩
  refine ⟨(by show 0 ≤ sizeLine; decide), fun D hD => ?_⟩
  refine ⟨fun k σ H' => ∃ (m p : Nat) (qs : List Nat), σ = [some (.int (m : Int)), some (.ref D), some (.int (p : Int))] ∧ Same H H' ∧ H' D = some (.lst (nats qs)) ∧ Prm n m p qs ∧ k = m + 1 - p, ⟨_, n, 2, [], rfl, same_new hD _, upd_same, ⟨n1, Nat.le_refl _, Nat.le_refl _, fun d h _ => h, (by simp), (by simp), by omega⟩, rfl⟩, ?_⟩
  rintro k σ H1 ⟨m, p, qs, rfl, s1, hD1, I, rfl⟩
  refine ⟨_, rfl, _, _, rfl, rfl, _, rfl, ?_⟩
  refine ite2 (fun c => ?_) (fun c => ?_)
  · have c' : 1 < m := by
      have := of_decide_eq_true c
      omega
    have pm := I.least m c' (Nat.dvd_refl _)
    have p2 := I.p2
    have nx := I.few
    have im0 := I.mn
    refine ⟨fun σ H' => ∃ (m' p' : Nat) (qs' : List Nat), σ = [some (.int (m' : Int)), some (.ref D), some (.int (p' : Int))] ∧ Same H H' ∧ H' D = some (.lst (nats qs')) ∧ Prm n m' p' qs' ∧ m' + 1 - p' < m + 1 - p, ?_, ?_⟩
    · rintro σ' H' ⟨m', p', qs', rfl, s', h', I', lt⟩
      exact ⟨_, lt, m', p', qs', rfl, s', h', I', rfl⟩
    · refine seq_of (fun σ H' => ∃ qs' : List Nat, σ = [some (.int (m : Int)), some (.ref D), some (.int (p : Int))] ∧ Same H H' ∧ H' D = some (.lst (nats qs')) ∧ (∀ q ∈ qs', 2 ≤ q ∧ q ≤ n) ∧ qs'.length + 2 ≤ p + 1) ?_ ?_
      · rintro σ' H' ⟨qs', rfl, s2, hD2, tw, fw⟩
        refine seq_of (fun σ H' => ∃ m' : Nat, σ = [some (.int (m' : Int)), some (.ref D), some (.int (p : Int))] ∧ Same H H' ∧ H' D = some (.lst (nats qs')) ∧ 1 ≤ m' ∧ m' ≤ m ∧ m' ∣ m ∧ ¬ p ∣ m') ?_ ?_
        · rintro σ' H2 ⟨m', rfl, s3, hD3, m1, mm, md, np⟩
          refine ⟨_, rfl, _, _, rfl, rfl, ?_⟩
          have im := I.mn
          refine ⟨m', p + 1, qs', rfl, s3, hD3, ⟨m1, by omega, by omega, fun d d2 dm => ?_, tw, by omega, by omega⟩, by omega⟩
          have a := I.least d d2 (Nat.dvd_trans dm md)
          have b : d ≠ p := fun z => np (z ▸ dm)
          omega
        · intro N hN
          refine ⟨fun k σ H' => ∃ m' : Nat, σ = [some (.int (m' : Int)), some (.ref D), some (.int (p : Int))] ∧ Same H H' ∧ H' D = some (.lst (nats qs')) ∧ 1 ≤ m' ∧ m' ≤ m ∧ m' ∣ m ∧ m' = k, ⟨_, m, rfl, s2, hD2, by omega, Nat.le_refl _, Nat.dvd_refl _, rfl⟩, ?_⟩
          rintro k σ2 H2 ⟨m', rfl, s3, hD3, m1, mm, md, rfl⟩
          refine ⟨_, rfl, _, rfl, _, _, rfl, rfl, (by omega), ?_⟩
          refine ⟨rfl, _, rfl, ?_⟩
          have em : (m' : Int) % (p : Int) = ((m' % p : Nat) : Int) := (Int.natCast_emod _ _).symm
          refine ite2 (fun c3 => ?_) (fun c3 => ?_)
          · have c4 : m' % p = 0 := by
              have := V.int.inj (of_decide_eq_true c3)
              rw [em] at this
              omega
            have lt : m' / p < m' := Nat.div_lt_self (by omega) (by omega)
            have dp : m' / p ∣ m' := Nat.div_dvd_of_dvd (Nat.dvd_of_mod_eq_zero c4)
            have ge : 1 ≤ m' / p := Nat.div_pos (Nat.le_of_dvd (by omega) (Nat.dvd_of_mod_eq_zero c4)) (by omega)
            refine ⟨fun σ H' => ∃ m2 : Nat, σ = [some (.int (m2 : Int)), some (.ref D), some (.int (p : Int))] ∧ Same H H' ∧ H' D = some (.lst (nats qs')) ∧ 1 ≤ m2 ∧ m2 ≤ m ∧ m2 ∣ m ∧ m2 < m', ?_, ?_⟩
            · rintro σ' H' ⟨m2, rfl, a1, a2, a3, a4, a5, a6⟩
              exact ⟨m2, a6, m2, rfl, a1, a2, a3, a4, a5, rfl⟩
            · refine ⟨_, rfl, _, rfl, _, _, rfl, rfl, ⟨by omega, by omega⟩, ?_⟩
              exact ⟨m' / p, by rw [Int.natCast_ediv]; rfl, s3, hD3, ge, by omega, Nat.dvd_trans dp md, lt⟩
          · have c4 : ¬ p ∣ m' := fun z => c3 (by
              show decide (V.int ((m' : Int) % (p : Int)) = V.int 0) = true
              rw [em, Nat.mod_eq_zero_of_dvd z]
              exact decide_eq_true rfl)
            exact hN _ _ ⟨m', rfl, s3, hD3, m1, mm, md, c4⟩
      · intro N hN
        refine ⟨_, rfl, _, rfl, _, _, rfl, rfl, (by omega), ?_⟩
        refine ⟨rfl, _, rfl, ?_⟩
        refine ite2 (fun c3 => ?_) (fun c3 => ?_)
        · refine ⟨_, rfl, .inl ⟨rfl, _, SqL.of hD1⟩, _, rfl, D, _, _, rfl, rfl, hD1, ?_, ?_⟩
          · unfold nats
            rw [List.length_map, sizeLine_eq]
            have im := I.mn
            omega
          refine hN _ _ ⟨qs ++ [p], rfl, ?_, ?_, ?_, ?_⟩
          · exact same_at hD s1
          · rw [upd_same]
            simp [nats]
          · intro q hq
            rcases List.mem_append.mp hq with z | z
            · exact I.two q z
            · rw [List.mem_singleton.mp z]
              exact ⟨p2, by omega⟩
          · rw [List.length_append]
            show qs.length + 1 + 2 ≤ p + 1
            omega
        · exact hN _ _ ⟨qs, rfl, s1, hD1, I.two, by omega⟩
  · have c' : m ≤ 1 := by
      have : ¬ (m : Int) > 1 := fun z => c (decide_eq_true z)
      omega
    have := I.m1
    have mn := I.mn
    have nx := I.few
    have pn := I.pn
    exact ⟨_, rfl, q qs D H1 I.two (by omega) s1 hD1⟩
end
end Wp

namespace Wp
open PySem PySem.Spec PyProof.Rows L2 Hx
def spLeastW : Sp := fun vs H Q _ => ∃ x u : Nat, vs = [.int (x : Int), .int (u : Int)] ∧ 1 ≤ u ∧ u ≤ 5000 ∧ (∀ q, 2 ≤ q → q ∣ u → x / 2 ^ (u / q) ≠ x % 2 ^ (u - u / q)) ∧ ∀ H', Same H H' → Q (.int (u : Int)) H'
section
variable {P : Program} {w : World} {K : PySem.W.Frag} {mg : Str → Option Value} {base : Heap} {f f1 f2 : Addr} {fd fd1 fd2 : FuncData}
theorem scLeastW : FnScope ["pattern", "width", "prime", "shorter"] ["pattern", "width"] (defScope s_least_width) := ⟨rfl, rfl, rfl, by decide +kernel, rfl, by decide +kernel, by decide +kernel⟩
theorem ok_leastW (F : Fun K "least_width" "least_width" s_least_width f fd)
    (G1 : FnOk P w K mg base CX0 1 f1 fd1 ["number"] spPrimes) (b1 : Binds K fd1 ["number"] []) (k1 : PySem.W.keepIn K (.ref f1) = true) (m1 : mg "primes_of" = some (.ref f1))
    (G2 : FnOk P w K mg base CX0 2 f2 fd2 ["bits", "many"] spLow) (b2 : Binds K fd2 ["bits", "many"] []) (k2 : PySem.W.keepIn K (.ref f2) = true) (m2 : mg "low" = some (.ref f2)) :
    FnOk P w K mg base CX0 3 f fd ["pattern", "width"] spLeastW := by
  refine F.ok scLeastW (fun vs H Q E h => ?_) (fun cdv A outer s H vs Q E hr h => ?_)
  · obtain ⟨x, u, rfl, _⟩ := h
    rfl
  obtain ⟨x, u, rfl, u1, u2, hq, q⟩ := h
  have r1 := hr.mono (by decide : 1 ≤ 2)
  refine ⟨_, pss_cons (ps_for PassesOwn.never rfl (pi_list (pe_call G1 r1 rfl m1 k1 b1 .nil pass0 (pa_cons (pv 1) pa_nil))) (pg_name (i := 2) scLeastW.nd rfl (Or.inl rfl))
      (pss_cons (ps_set (i := 3) scLeastW.nd rfl (Or.inl rfl) (pe_op op_fdiv (pv 1) (pv 2)))
      (pss_one (ps_while PassesOwn.never (PW.pt (pw_and (pt_cmpR op_eq (pe_op op_mod (pv 1) (pv 2)) pe_int (nomark _)) (pw_and1 (pt_cmpR op_eq (pe_op op_shrN (pv 0) (pv 3)) (pe_call G2 hr rfl m2 k2 b2 .nil pass0 (pa_cons (pv 0) (pa_cons (pe_op op_sub (pv 1) (pv 3)) pa_nil))) (nomark _)))))
        (pss_cons (ps_set (i := 0) scLeastW.nd rfl (Or.inl rfl) (pe_call G2 hr rfl m2 k2 b2 .nil pass0 (pa_cons (pv 0) (pa_cons (pv 3) pa_nil))))
        (pss_cons (ps_set (i := 1) scLeastW.nd rfl (Or.inl rfl) (pv 3))
        (pss_one (ps_set (i := 3) scLeastW.nd rfl (Or.inl rfl) (pe_op op_fdiv (pv 1) (pv 2))))))))))
    (pss_one (ps_ret (pv 1))), ?_⟩
  refine ⟨_, rfl, u, rfl, u1, u2, fun qs D H1 two few s1 hD => ?_⟩
  refine ⟨D, rfl, ⟨_, SqL.of hD⟩, for_list (K := K) (a := D) (xs := nats qs) (fun _ σ H' => Same H H' ∧ H' D = some (.lst (nats qs)) ∧ ∃ a b : Option V, σ = [some (.int (x : Int)), some (.int (u : Int)), a, b]) ⟨s1, hD, _, _, rfl⟩ (fun _ _ _ _ h => SqL.of h.2.1) ?_ ?_⟩
  · rintro i y σ H2 hy ⟨s2, hD2, a, b, rfl⟩
    obtain ⟨p, hp, rfl⟩ := List.mem_map.mp (List.mem_of_getElem? hy)
    obtain ⟨p2, pu⟩ := two p hp
    refine ⟨_, rfl, _, rfl, _, _, rfl, rfl, ⟨by omega, by omega⟩, ?_⟩
    have ed : (u : Int) / (p : Int) = ((u / p : Nat) : Int) := (Int.natCast_ediv _ _).symm
    dsimp only
    rw [ed]
    refine ⟨fun m σ H' => Same H H' ∧ H' D = some (.lst (nats qs)) ∧ σ = [some (.int (x : Int)), some (.int (u : Int)), some (.int (p : Int)), some (.int ((u / p : Nat) : Int))], ⟨0, s2, hD2, rfl⟩, ?_⟩
    rintro m σ H3 ⟨s3, hD3, rfl⟩
    refine ⟨_, rfl, _, rfl, _, _, rfl, rfl, (by omega), rfl, _, rfl, ?_⟩
    have em : (u : Int) % (p : Int) = ((u % p : Nat) : Int) := (Int.natCast_emod _ _).symm
    refine ite2 (fun c => ?_) (fun c => ?_)
    · have c4 : p ∣ u := by
        have := V.int.inj (of_decide_eq_true c)
        rw [em] at this
        exact Nat.dvd_of_mod_eq_zero (by omega)
      have lt : u / p ≤ u := Nat.div_le_self _ _
      refine ⟨_, rfl, _, rfl, _, _, rfl, rfl, ?_⟩
      refine ⟨_, rfl, _, rfl, _, rfl, _, _, rfl, rfl, x, u - u / p, ?_, Nat.le_trans (Nat.sub_le _ _) (by omega), rfl, _, rfl, ?_⟩
      · show [V.int _, V.int ((u : Int) - ((u / p : Nat) : Int))] = _
        rw [show (u : Int) - ((u / p : Nat) : Int) = ((u - u / p : Nat) : Int) by omega]
      · rw [Mk.div_ct, decide_eq_false (fun z => hq p p2 c4 (by have := V.int.inj z; omega))]
        exact iteF ⟨s3, hD3, _, _, rfl⟩
    · exact ⟨s3, hD3, _, _, rfl⟩
  · rintro σ H2 ⟨s2, hD2, a, b, rfl⟩
    exact ⟨_, rfl, q H2 s2⟩
end
end Wp

namespace Wp
open PySem PySem.Spec PyProof.Rows L2 Hx
/-- the class of sets of places -/
structure Pd (K : PySem.W.Frag) (mg : Str → Option Value) (C : Addr) : Prop where
  cl : Cls K C
  nW : NoAttr K C "width"
  nC : NoAttr K C "cycle"
  nS : NoAttr K C "strays"
  gC : mg "Places" = some (.ref C)
def flds (s : Mk.Kept) : List (Str × V) := [("width", .int (s.w : Int)), ("cycle", .int (s.cy : Int)), ("strays", .int (s.st : Int))]
/-- a set stands at a -/
def PlAt (C : Addr) (H : Hp) (a : Addr) (s : Mk.Kept) : Prop := ∃ dx, H a = some (.ins C dx (flds s))
theorem PlAt.same {C : Addr} {H H' : Hp} {a : Addr} {k : Mk.Kept} (r : PlAt C H a k) (s : Same H H') : PlAt C H' a k := let ⟨dx, h⟩ := r; ⟨dx, s _ _ h⟩
/-- what a set keeps of bits, a start and a width -/
structure Made (bits start width : Nat) (s : Mk.Kept) : Prop where
  w : s.w = width
  cy : s.cy = bits / 2 ^ start
  st : ∀ n, s.st.testBit n = Bool.xor (decide (n < start) && bits.testBit n) (decide (n < start) && (bits / 2 ^ start).testBit (n % width))
def spInitP (C : Addr) : Sp := fun vs H Q _ => ∃ (a dx : Addr) (bits start width : Nat), vs = [.ref a, .int (bits : Int), .int (start : Int), .int (width : Int)] ∧ H a = some (.ins C dx []) ∧ 1 ≤ width ∧ width ≤ 5000 ∧ start ≤ 20000 ∧ bits < 2 ^ (start + width) ∧
  (∀ q, 2 ≤ q → q ∣ width → (bits / 2 ^ start) / 2 ^ (width / q) ≠ (bits / 2 ^ start) % 2 ^ (width - width / q)) ∧ ∀ s H', Made bits start width s → But a H H' → H' a = some (.ins C dx (flds s)) → Q .non H'
section
variable {P : Program} {w : World} {K : PySem.W.Frag} {mg : Str → Option Value} {base : Heap} {f f1 f2 f3 C : Addr} {fd fd1 fd2 fd3 : FuncData}
theorem scInitP : FnScope ["self", "bits", "start", "width", "pattern"] ["self", "bits", "start", "width"] (defScope s_Places_init) := ⟨rfl, rfl, rfl, by decide +kernel, rfl, by decide +kernel, by decide +kernel⟩
theorem ok_initP (F : Fun K "__init__" "Places.__init__" s_Places_init f fd) (R : Pd K mg C)
    (G1 : FnOk P w K mg base CX0 3 f1 fd1 ["pattern", "width"] spLeastW) (b1 : Binds K fd1 ["pattern", "width"] []) (k1 : PySem.W.keepIn K (.ref f1) = true) (m1 : mg "least_width" = some (.ref f1))
    (G2 : FnOk P w K mg base CX0 2 f2 fd2 ["bits", "many"] spLow) (b2 : Binds K fd2 ["bits", "many"] []) (k2 : PySem.W.keepIn K (.ref f2) = true) (m2 : mg "low" = some (.ref f2))
    (G3 : FnOk P w K mg base CX0 3 f3 fd3 ["pattern", "width", "many"] spTiled) (b3 : Binds K fd3 ["pattern", "width", "many"] []) (k3 : PySem.W.keepIn K (.ref f3) = true) (m3 : mg "tiled" = some (.ref f3)) :
    FnOk P w K mg base CX0 4 f fd ["self", "bits", "start", "width"] (spInitP C) := by
  refine F.ok scInitP (fun vs H Q E h => ?_) (fun cdv A outer s H vs Q E hr h => ?_)
  · obtain ⟨a, dx, x, y, z, rfl, _⟩ := h
    rfl
  obtain ⟨a, dx, bits, start, width, rfl, ha, w1, w2, s1, bl, hN, q⟩ := h
  have r2 := hr.mono (by decide : 2 ≤ 3)
  refine ⟨_, pss_cons (ps_set (i := 4) scInitP.nd rfl (Or.inl rfl) (pe_op op_shrN (pv 1) (pv 2)))
    (pss_cons (ps_fld (pv 0) (pe_call G1 hr rfl m1 k1 b1 .nil pass0 (pa_cons (pv 4) (pa_cons (pv 3) pa_nil))) rfl)
    (pss_cons (ps_fld (pv 0) (pe_call G2 r2 rfl m2 k2 b2 .nil pass0 (pa_cons (pv 4) (pa_cons (pe_fld (pv 0) rfl) pa_nil))) rfl)
    (pss_one (ps_fld (pv 0) (pe_op op_xor (pe_call G2 r2 rfl m2 k2 b2 .nil pass0 (pa_cons (pv 1) (pa_cons (pv 2) pa_nil)))
      (pe_call G3 hr rfl m3 k3 b3 .nil pass0 (pa_cons (pe_fld (pv 0) rfl) (pa_cons (pe_fld (pv 0) rfl) (pa_cons (pv 2) pa_nil))))) rfl)))), ?_⟩
  have lt : bits / 2 ^ start < 2 ^ width := by
    rw [Nat.pow_add, Nat.mul_comm] at bl
    exact Nat.div_lt_of_lt_mul (by rwa [Nat.mul_comm] at bl)
  refine ⟨_, rfl, _, rfl, (bits : Int), start, rfl, rfl, ?_⟩
  rw [Mk.div_ct]
  refine ⟨_, rfl, _, rfl, bits / 2 ^ start, width, rfl, w1, w2, hN, fun H1 t1 => ?_⟩
  refine ⟨_, rfl, a, C, dx, _, rfl, t1 _ _ ha, R.cl, R.nW, (by show 0 < 1000; decide), ?_⟩
  refine ⟨_, rfl, _, rfl, a, C, dx, _, _, rfl, upd_same, R.cl, R.nW, rfl, bits / 2 ^ start, width, rfl, by omega, ?_⟩
  rw [Nat.mod_eq_of_lt lt]
  refine ⟨_, rfl, a, C, dx, _, rfl, upd_same, R.cl, R.nC, (by show 1 < 1000; decide), ?_⟩
  refine ⟨_, rfl, _, rfl, bits, start, rfl, by omega, ?_⟩
  refine ⟨_, rfl, a, C, dx, _, _, rfl, upd_same, R.cl, R.nC, rfl, _, rfl, a, C, dx, _, _, rfl, upd_same, R.cl, R.nW, rfl, _, rfl, bits / 2 ^ start, width, start, rfl, by omega, w2, lt, s1, fun x T => ?_⟩
  refine ⟨_, _, rfl, rfl, ?_⟩
  dsimp only
  rw [Mk.bxor]
  refine ⟨_, rfl, a, C, dx, _, rfl, upd_same, R.cl, R.nS, (by show 2 < 1000; decide), ?_⟩
  refine q ⟨width, bits / 2 ^ start, bits % 2 ^ start ^^^ x⟩ _ ⟨rfl, rfl, fun n => ?_⟩ ?_ upd_same
  · show (bits % 2 ^ start ^^^ x).testBit n = _
    rw [Nat.testBit_xor, Nat.testBit_mod_two_pow, T n]
  · exact (((But.of t1).upd _).upd _).upd _
end
end Wp

/-! periods -/
namespace Mk
/-- s is a period of f -/
def Sh (f : Nat → Bool) (s : Nat) : Prop := ∀ n, f (n + s) = f n
theorem Sh.mul {f : Nat → Bool} {s : Nat} (h : Sh f s) : ∀ k, Sh f (s * k)
  | 0 => fun n => rfl
  | k + 1 => fun n => by rw [Nat.mul_succ, ← Nat.add_assoc, h, h.mul k]
theorem Sh.dvd {f : Nat → Bool} {s t : Nat} (h : Sh f s) (d : s ∣ t) : Sh f t := by
  obtain ⟨k, rfl⟩ := d
  exact h.mul k
theorem Sh.rem {f : Nat → Bool} {a b : Nat} (ha : Sh f a) (hb : Sh f b) : Sh f (b % a) := fun n => by
  rw [← ha.mul (b / a) (n + b % a), Nat.add_assoc, Nat.mod_add_div, hb]
theorem Sh.gcd {f : Nat → Bool} {a b : Nat} : Sh f a → Sh f b → Sh f (Nat.gcd a b) := by
  induction a, b using Nat.gcd.induction with
  | H0 b => intro _ hb; rwa [Nat.gcd_zero_left]
  | H1 a b _ ih => intro ha hb; rw [Nat.gcd_rec]; exact ih (ha.rem hb) ha
theorem Sh.mod {f : Nat → Bool} {s : Nat} (h : Sh f s) (n : Nat) : f n = f (n % s) := by
  have := h.mul (n / s) (n % s)
  rwa [Nat.mod_add_div] at this
/-- w is the least period of f -/
structure Least (f : Nat → Bool) (w : Nat) : Prop where
  pos : 0 < w
  sh : Sh f w
  dvd : ∀ d, 0 < d → Sh f d → w ∣ d
/-- the pattern x of width u, again and again -/
def rep (x u n : Nat) : Bool := x.testBit (n % u)
theorem rep_sh (x u : Nat) : Sh (rep x u) u := fun n => by
  unfold rep
  rw [Nat.add_mod_right]
theorem rep_low {x u w : Nat} (h : Sh (rep x u) w) (w0 : 0 < w) (wu : w ≤ u) (n : Nat) : rep x u n = rep (x % 2 ^ w) w n := by
  have hm := Nat.mod_lt n w0
  rw [h.mod]
  unfold rep
  rw [Nat.mod_eq_of_lt (by omega : n % w < u), Nat.testBit_mod_two_pow, decide_eq_true hm, Bool.true_and]
/-- a pattern that comes again within itself -/
theorem sh_iff {x u d : Nat} (hx : x < 2 ^ u) (d0 : 0 < d) (du : d ∣ u) (u0 : 0 < u) : x / 2 ^ d = x % 2 ^ (u - d) ↔ Sh (rep x u) d := by
  have dle := Nat.le_of_dvd u0 du
  constructor
  · intro e
    have bit : ∀ i, i + d < u → x.testBit (i + d) = x.testBit i := fun i hi => by
      have : (x / 2 ^ d).testBit i = (x % 2 ^ (u - d)).testBit i := congrArg (fun y => Nat.testBit y i) e
      rw [Nat.testBit_div_two_pow, Nat.testBit_mod_two_pow, decide_eq_true (by omega), Bool.true_and] at this
      exact this
    have all : ∀ k r, r + d * k < u → x.testBit (r + d * k) = x.testBit r := fun k => by
      induction k with
      | zero => intro r _; rfl
      | succ k ih =>
        intro r hr
        rw [Nat.mul_succ, ← Nat.add_assoc] at hr ⊢
        rw [bit _ hr, ih r (by omega)]
    have one : ∀ n, rep x u n = x.testBit (n % d) := fun n => by
      unfold rep
      have e1 : n % u % d = n % d := Nat.mod_mod_of_dvd n du
      have e2 := Nat.mod_add_div (n % u) d
      have lt := Nat.mod_lt n u0
      rw [e1] at e2
      have := all (n % u / d) (n % d) (by omega)
      rwa [e2] at this
    intro n
    rw [one, one, Nat.add_mod_right]
  · intro h
    refine Nat.eq_of_testBit_eq fun i => ?_
    rw [Nat.testBit_div_two_pow, Nat.testBit_mod_two_pow]
    by_cases c : i + d < u
    · rw [decide_eq_true (by omega), Bool.true_and]
      have := h i
      unfold rep at this
      rwa [Nat.mod_eq_of_lt c, Nat.mod_eq_of_lt (by omega : i < u)] at this
    · rw [decide_eq_false (by omega), Bool.false_and]
      exact Nat.testBit_lt_two_pow (Nat.lt_of_lt_of_le hx (Nat.pow_le_pow_right (by decide) (by omega)))
/-- where no prime of the list can be taken away, the width is least -/
theorem least_of {f : Nat → Bool} {u w : Nat} {qs : List Nat} (w0 : 0 < w) (wu : w ∣ u) (h : Sh f w) (cov : ∀ d, 2 ≤ d → d ∣ u → ∃ q ∈ qs, q ∣ d) (two : ∀ q ∈ qs, 2 ≤ q) (no : ∀ q ∈ qs, ¬ (q ∣ w ∧ Sh f (w / q))) : Least f w := by
  refine ⟨w0, h, fun d d0 hd => ?_⟩
  have hg := h.gcd hd
  have g1 : Nat.gcd w d ∣ w := Nat.gcd_dvd_left w d
  have g2 : Nat.gcd w d ∣ d := Nat.gcd_dvd_right w d
  generalize Nat.gcd w d = g at hg g1 g2
  obtain ⟨k, rfl⟩ := g1
  by_cases c : k = 1
  · subst c
    rwa [Nat.mul_one]
  · have k0 : k ≠ 0 := fun z => by
      subst z
      omega
    obtain ⟨q, hq, hk⟩ := cov k (by omega) (Nat.dvd_trans (Nat.dvd_mul_left k g) wu)
    obtain ⟨j, rfl⟩ := hk
    have q2 := two q hq
    refine (no q hq ⟨⟨g * j, ?_⟩, ?_⟩).elim
    · rw [Nat.mul_left_comm]
    · have e : g * (q * j) / q = g * j := by
        rw [Nat.mul_left_comm, Nat.mul_div_cancel_left _ (by omega)]
      rw [e]
      exact hg.mul j
/-- what was tried once needs no second try -/
theorem no_more {f : Nat → Bool} {w v q : Nat} (q2 : 2 ≤ q) (vw : v ∣ w) (no : ¬ (q ∣ w ∧ Sh f (w / q))) : ¬ (q ∣ v ∧ Sh f (v / q)) := by
  rintro ⟨⟨k, rfl⟩, h⟩
  obtain ⟨j, rfl⟩ := vw
  rw [Nat.mul_div_cancel_left _ (by omega)] at h
  refine no ⟨⟨k * j, by rw [Nat.mul_assoc]⟩, ?_⟩
  rw [Nat.mul_assoc, Nat.mul_div_cancel_left _ (by omega)]
  exact h.mul j
/-- a set that may be asked and is in its least form -/
structure Kept.Good (s : Kept) : Prop where
  least : Least (rep s.cy s.w) s.w
  cy : s.cy < 2 ^ s.w
theorem Kept.mem_rep {s : Kept} {n : Nat} (h : len s.st ≤ n) : s.mem n = rep s.cy s.w n := by
  unfold Kept.mem rep
  rw [bit_out h, Bool.xor_false]
theorem Kept.st_bit (s : Kept) (n : Nat) : s.st.testBit n = Bool.xor (s.mem n) (rep s.cy s.w n) := by
  unfold Kept.mem rep
  cases s.cy.testBit (n % s.w) <;> cases s.st.testBit n <;> rfl
/-- from begin on the set comes again every size -/
def Kept.From (s : Kept) (begin size : Nat) : Prop := ∀ n, begin ≤ n → s.mem (n + size) = s.mem n
theorem Kept.From.mul {s : Kept} {begin size : Nat} (h : s.From begin size) : ∀ k n, begin ≤ n → s.mem (n + size * k) = s.mem n
  | 0, _, _ => rfl
  | k + 1, n, hn => by rw [Nat.mul_succ, ← Nat.add_assoc, h _ (by omega), h.mul k n hn]
theorem Kept.Good.dvd {s : Kept} (G : s.Good) {begin size : Nat} (s0 : 0 < size) (h : s.From begin size) : s.w ∣ size := by
  refine G.least.dvd size s0 fun n => ?_
  have w0 := G.least.pos
  have big : begin + len s.st ≤ s.w * (begin + len s.st) := Nat.le_mul_of_pos_left _ w0
  have e1 := G.least.sh.mul (begin + len s.st) (n + size)
  have e2 := G.least.sh.mul (begin + len s.st) n
  rw [← e1, ← e2, ← Kept.mem_rep (by omega), ← Kept.mem_rep (by omega), show n + size + s.w * (begin + len s.st) = n + s.w * (begin + len s.st) + size by omega]
  exact h _ (by omega)
theorem Kept.Good.len_le {s : Kept} (G : s.Good) {begin size : Nat} (s0 : 0 < size) (h : s.From begin size) : len s.st ≤ begin := by
  refine Mk.len_le (Nat.lt_pow_two_of_testBit s.st fun n hn => ?_)
  have d := G.dvd s0 h
  have big : len s.st ≤ size * len s.st := Nat.le_mul_of_pos_left _ s0
  have e1 := h.mul (len s.st) n hn
  have e2 := (G.least.sh.dvd d).mul (len s.st) n
  rw [s.st_bit, ← e1, ← e2, Kept.mem_rep (by omega), Bool.xor_self]
theorem Kept.Good.from_len {s : Kept} (G : s.Good) : s.From (len s.st) s.w := fun n hn => by
  rw [Kept.mem_rep (by omega), Kept.mem_rep hn, G.least.sh]
theorem Kept.From.mono {s : Kept} {b c size : Nat} (h : s.From b size) (l : b ≤ c) : s.From c size := fun n hn => h n (by omega)
theorem Kept.From.dvd {s : Kept} {b size t : Nat} (h : s.From b size) (d : size ∣ t) : s.From b t := by
  obtain ⟨k, rfl⟩ := d
  exact fun n hn => h.mul k n hn
end Mk

namespace Wp
open PySem PySem.Spec PyProof.Rows L2 Hx
def spPrimesC : Sp := fun vs H Q _ => ∃ n : Nat, vs = [.int (n : Int)] ∧ 1 ≤ n ∧ n ≤ 5000 ∧ ∀ (qs : List Nat) D H', (∀ q ∈ qs, 2 ≤ q ∧ q ≤ n) → (∀ d, 2 ≤ d → d ∣ n → ∃ q ∈ qs, q ∣ d) → qs.length ≤ 5000 → Same H H' → H' D = some (.lst (nats qs)) → Q (.ref D) H'
section
variable {P : Program} {w : World} {K : PySem.W.Frag} {mg : Str → Option Value} {base : Heap} {f f1 f2 : Addr} {fd fd1 fd2 : FuncData}
/-- what the outer loop keeps -/
structure PrmC (n m p : Nat) (qs : List Nat) : Prop where
  m1 : 1 ≤ m
  mn : m ≤ n
  p2 : 2 ≤ p
  least : ∀ d, 2 ≤ d → d ∣ m → p ≤ d
  two : ∀ q ∈ qs, 2 ≤ q ∧ q ≤ n
  few : qs.length + 2 ≤ p
  pn : p ≤ n + 2
  cov : ∀ d, 2 ≤ d → d ∣ n → (∃ q ∈ qs, q ∣ d) ∨ d ∣ m
theorem ok_primesC (F : Fun K "primes_of" "primes_of" s_primes_of f fd) : FnOk P w K mg base CX0 1 f fd ["number"] spPrimesC := by
  refine F.ok scPrimes (fun vs H Q E h => ?_) (fun cdv A outer s H vs Q E hr h => ?_)
  · obtain ⟨n, rfl, _⟩ := h
    rfl
  obtain ⟨n, rfl, n1, n2, q⟩ := h
  refine ⟨_, pss_cons (ps_set (i := 1) scPrimes.nd rfl (Or.inl rfl) (pe_lst pa_nil))
    (pss_cons (ps_set (i := 2) scPrimes.nd rfl (Or.inl rfl) pe_int)
    (pss_cons (ps_while PassesOwn.never (pt_cmpR op_gt (pv 0) pe_int (nomark _))
      (pss_cons (ps_if (pt_cmpR op_eq (pe_op op_mod (pv 0) (pv 2)) pe_int (nomark _))
        (pss_one (ps_expr (pe_bm PySem.F.plainAttrs_list PySem.F.slot_list_append PySem.F.type_list_append mt_append (pv 1) (pa_cons (pv 2) pa_nil)))) pss_nil)
      (pss_cons (ps_while PassesOwn.never (pt_cmpR op_eq (pe_op op_mod (pv 0) (pv 2)) pe_int (nomark _))
        (pss_one (ps_set (i := 0) scPrimes.nd rfl (Or.inl rfl) (pe_op op_fdiv (pv 0) (pv 2)))))
      (pss_one (ps_aug (i := 2) scPrimes.nd rfl (.inl rfl) pe_int ip_add)))))
    (pss_one (ps_ret (pv 1))))), ?_⟩
  refine ⟨(by show 0 ≤ sizeLine; decide), fun D hD => ?_⟩
  refine ⟨fun k σ H' => ∃ (m p : Nat) (qs : List Nat), σ = [some (.int (m : Int)), some (.ref D), some (.int (p : Int))] ∧ Same H H' ∧ H' D = some (.lst (nats qs)) ∧ PrmC n m p qs ∧ k = m + 1 - p, ⟨_, n, 2, [], rfl, same_new hD _, upd_same, ⟨n1, Nat.le_refl _, Nat.le_refl _, fun d h _ => h, (by simp), (by simp), by omega, fun d _ h => .inr h⟩, rfl⟩, ?_⟩
  rintro k σ H1 ⟨m, p, qs, rfl, s1, hD1, I, rfl⟩
  refine ⟨_, rfl, _, _, rfl, rfl, _, rfl, ?_⟩
  refine ite2 (fun c => ?_) (fun c => ?_)
  · have c' : 1 < m := by
      have := of_decide_eq_true c
      omega
    have pm := I.least m c' (Nat.dvd_refl _)
    have p2 := I.p2
    have nx := I.few
    have im0 := I.mn
    refine ⟨fun σ H' => ∃ (m' p' : Nat) (qs' : List Nat), σ = [some (.int (m' : Int)), some (.ref D), some (.int (p' : Int))] ∧ Same H H' ∧ H' D = some (.lst (nats qs')) ∧ PrmC n m' p' qs' ∧ m' + 1 - p' < m + 1 - p, ?_, ?_⟩
    · rintro σ' H' ⟨m', p', qs', rfl, s', h', I', lt⟩
      exact ⟨_, lt, m', p', qs', rfl, s', h', I', rfl⟩
    · refine seq_of (fun σ H' => ∃ qs' : List Nat, σ = [some (.int (m : Int)), some (.ref D), some (.int (p : Int))] ∧ Same H H' ∧ H' D = some (.lst (nats qs')) ∧ (∀ q ∈ qs', 2 ≤ q ∧ q ≤ n) ∧ qs'.length + 2 ≤ p + 1 ∧ (∀ d, 2 ≤ d → d ∣ n → (∃ q ∈ qs', q ∣ d) ∨ d ∣ m) ∧ (p ∣ m → p ∈ qs')) ?_ ?_
      · rintro σ' H' ⟨qs', rfl, s2, hD2, tw, fw, cv, pin⟩
        refine seq_of (fun σ H' => ∃ m' : Nat, σ = [some (.int (m' : Int)), some (.ref D), some (.int (p : Int))] ∧ Same H H' ∧ H' D = some (.lst (nats qs')) ∧ 1 ≤ m' ∧ m' ≤ m ∧ m' ∣ m ∧ ¬ p ∣ m' ∧ (∀ d, 2 ≤ d → d ∣ n → (∃ q ∈ qs', q ∣ d) ∨ d ∣ m')) ?_ ?_
        · rintro σ' H2 ⟨m', rfl, s3, hD3, m1, mm, md, np, cv2⟩
          refine ⟨_, rfl, _, _, rfl, rfl, ?_⟩
          have im := I.mn
          refine ⟨m', p + 1, qs', rfl, s3, hD3, ⟨m1, by omega, by omega, fun d d2 dm => ?_, tw, by omega, by omega, cv2⟩, by omega⟩
          have a := I.least d d2 (Nat.dvd_trans dm md)
          have b : d ≠ p := fun z => np (z ▸ dm)
          omega
        · intro N hN
          refine ⟨fun k σ H' => ∃ m' : Nat, σ = [some (.int (m' : Int)), some (.ref D), some (.int (p : Int))] ∧ Same H H' ∧ H' D = some (.lst (nats qs')) ∧ 1 ≤ m' ∧ m' ≤ m ∧ m' ∣ m ∧ (∀ d, 2 ≤ d → d ∣ n → (∃ q ∈ qs', q ∣ d) ∨ d ∣ m') ∧ m' = k, ⟨_, m, rfl, s2, hD2, by omega, Nat.le_refl _, Nat.dvd_refl _, cv, rfl⟩, ?_⟩
          rintro k σ2 H2 ⟨m', rfl, s3, hD3, m1, mm, md, cv3, rfl⟩
          refine ⟨_, rfl, _, rfl, _, _, rfl, rfl, (by omega), ?_⟩
          refine ⟨rfl, _, rfl, ?_⟩
          have em : (m' : Int) % (p : Int) = ((m' % p : Nat) : Int) := (Int.natCast_emod _ _).symm
          refine ite2 (fun c3 => ?_) (fun c3 => ?_)
          · have c4 : m' % p = 0 := by
              have := V.int.inj (of_decide_eq_true c3)
              rw [em] at this
              omega
            have lt : m' / p < m' := Nat.div_lt_self (by omega) (by omega)
            have dp : m' / p ∣ m' := Nat.div_dvd_of_dvd (Nat.dvd_of_mod_eq_zero c4)
            have ge : 1 ≤ m' / p := Nat.div_pos (Nat.le_of_dvd (by omega) (Nat.dvd_of_mod_eq_zero c4)) (by omega)
            have pm' : p ∣ m' := Nat.dvd_of_mod_eq_zero c4
            have cvn : ∀ d, 2 ≤ d → d ∣ n → (∃ q ∈ qs', q ∣ d) ∨ d ∣ m' / p := fun d d2 dn => by
              rcases cv3 d d2 dn with z | z
              · exact .inl z
              · by_cases pd : p ∣ d
                · exact .inl ⟨p, pin (Nat.dvd_trans pm' md), pd⟩
                · refine .inr ?_
                  have g1 : Nat.gcd d p ∣ d := Nat.gcd_dvd_left d p
                  have g2 : Nat.gcd d p ∣ p := Nat.gcd_dvd_right d p
                  have g3 := Nat.le_of_dvd (by omega) g2
                  have g4 : 0 < Nat.gcd d p := Nat.gcd_pos_of_pos_left p (by omega)
                  have cop : Nat.gcd d p = 1 := by
                    apply Classical.byContradiction
                    intro c
                    have := I.least (Nat.gcd d p) (by omega) (Nat.dvd_trans g1 (Nat.dvd_trans z md))
                    have e : Nat.gcd d p = p := by omega
                    rw [e] at g1
                    exact pd g1
                  obtain ⟨k, rfl⟩ := pm'
                  rw [Nat.mul_div_cancel_left _ (by omega)]
                  exact Nat.Coprime.dvd_of_dvd_mul_left cop z
            refine ⟨fun σ H' => ∃ m2 : Nat, σ = [some (.int (m2 : Int)), some (.ref D), some (.int (p : Int))] ∧ Same H H' ∧ H' D = some (.lst (nats qs')) ∧ 1 ≤ m2 ∧ m2 ≤ m ∧ m2 ∣ m ∧ (∀ d, 2 ≤ d → d ∣ n → (∃ q ∈ qs', q ∣ d) ∨ d ∣ m2) ∧ m2 < m', ?_, ?_⟩
            · rintro σ' H' ⟨m2, rfl, a1, a2, a3, a4, a5, a7, a6⟩
              exact ⟨m2, a6, m2, rfl, a1, a2, a3, a4, a5, a7, rfl⟩
            · refine ⟨_, rfl, _, rfl, _, _, rfl, rfl, ⟨by omega, by omega⟩, ?_⟩
              exact ⟨m' / p, by rw [Int.natCast_ediv]; rfl, s3, hD3, ge, by omega, Nat.dvd_trans dp md, cvn, lt⟩
          · have c4 : ¬ p ∣ m' := fun z => c3 (by
              show decide (V.int ((m' : Int) % (p : Int)) = V.int 0) = true
              rw [em, Nat.mod_eq_zero_of_dvd z]
              exact decide_eq_true rfl)
            exact hN _ _ ⟨m', rfl, s3, hD3, m1, mm, md, c4, cv3⟩
      · intro N hN
        refine ⟨_, rfl, _, rfl, _, _, rfl, rfl, (by omega), ?_⟩
        refine ⟨rfl, _, rfl, ?_⟩
        refine ite2 (fun c3 => ?_) (fun c3 => ?_)
        · refine ⟨_, rfl, .inl ⟨rfl, _, SqL.of hD1⟩, _, rfl, D, _, _, rfl, rfl, hD1, ?_, ?_⟩
          · unfold nats
            rw [List.length_map, sizeLine_eq]
            have im := I.mn
            omega
          refine hN _ _ ⟨qs ++ [p], rfl, ?_, ?_, ?_, ?_, fun d d2 dn => (I.cov d d2 dn).imp (fun ⟨q, hq, hd⟩ => ⟨q, List.mem_append_left _ hq, hd⟩) id, fun _ => List.mem_append_right _ List.mem_cons_self⟩
          · exact same_at hD s1
          · rw [upd_same]
            simp [nats]
          · intro q hq
            rcases List.mem_append.mp hq with z | z
            · exact I.two q z
            · rw [List.mem_singleton.mp z]
              exact ⟨p2, by omega⟩
          · rw [List.length_append]
            show qs.length + 1 + 2 ≤ p + 1
            omega
        · refine hN _ _ ⟨qs, rfl, s1, hD1, I.two, by omega, I.cov, fun z => (c3 ?_).elim⟩
          have em : (m : Int) % (p : Int) = ((m % p : Nat) : Int) := (Int.natCast_emod _ _).symm
          show decide (V.int ((m : Int) % (p : Int)) = V.int 0) = true
          rw [em, Nat.mod_eq_zero_of_dvd z]
          exact decide_eq_true rfl
  · have c' : m ≤ 1 := by
      have : ¬ (m : Int) > 1 := fun z => c (decide_eq_true z)
      omega
    have := I.m1
    have mn := I.mn
    have nx := I.few
    have pn := I.pn
    refine ⟨_, rfl, q qs D H1 I.two (fun d d2 dn => ?_) (by omega) s1 hD1⟩
    rcases I.cov d d2 dn with z | z
    · exact z
    · have := Nat.le_of_dvd (by omega) z
      omega
end
end Wp

namespace Wp
open PySem PySem.Spec PyProof.Rows L2 Hx
def spLeastG : Sp := fun vs H Q _ => ∃ x u : Nat, vs = [.int (x : Int), .int (u : Int)] ∧ 1 ≤ u ∧ u ≤ 5000 ∧ x < 2 ^ u ∧ ∀ w H', Mk.Least (Mk.rep x u) w → w ∣ u → Same H H' → Q (.int (w : Int)) H'
section
variable {P : Program} {w : World} {K : PySem.W.Frag} {mg : Str → Option Value} {base : Heap} {f f1 f2 f3 C : Addr} {fd fd1 fd2 fd3 : FuncData}
theorem nats_len0 (l : List Nat) : (nats l).length = l.length := List.length_map _
theorem ok_leastG (F : Fun K "least_width" "least_width" s_least_width f fd)
    (G1 : FnOk P w K mg base CX0 1 f1 fd1 ["number"] spPrimesC) (b1 : Binds K fd1 ["number"] []) (k1 : PySem.W.keepIn K (.ref f1) = true) (m1 : mg "primes_of" = some (.ref f1))
    (G2 : FnOk P w K mg base CX0 2 f2 fd2 ["bits", "many"] spLow) (b2 : Binds K fd2 ["bits", "many"] []) (k2 : PySem.W.keepIn K (.ref f2) = true) (m2 : mg "low" = some (.ref f2)) :
    FnOk P w K mg base CX0 3 f fd ["pattern", "width"] spLeastG := by
  refine F.ok scLeastW (fun vs H Q E h => ?_) (fun cdv A outer s H vs Q E hr h => ?_)
  · obtain ⟨x, u, rfl, _⟩ := h
    rfl
  obtain ⟨x, u, rfl, u1, u2, hx, q⟩ := h
  have r1 := hr.mono (by decide : 1 ≤ 2)
  refine ⟨_, pss_cons (ps_for PassesOwn.never rfl (pi_list (pe_call G1 r1 rfl m1 k1 b1 .nil pass0 (pa_cons (pv 1) pa_nil))) (pg_name (i := 2) scLeastW.nd rfl (Or.inl rfl))
      (pss_cons (ps_set (i := 3) scLeastW.nd rfl (Or.inl rfl) (pe_op op_fdiv (pv 1) (pv 2)))
      (pss_one (ps_while PassesOwn.never (PW.pt (pw_and (pt_cmpR op_eq (pe_op op_mod (pv 1) (pv 2)) pe_int (nomark _)) (pw_and1 (pt_cmpR op_eq (pe_op op_shrN (pv 0) (pv 3)) (pe_call G2 hr rfl m2 k2 b2 .nil pass0 (pa_cons (pv 0) (pa_cons (pe_op op_sub (pv 1) (pv 3)) pa_nil))) (nomark _)))))
        (pss_cons (ps_set (i := 0) scLeastW.nd rfl (Or.inl rfl) (pe_call G2 hr rfl m2 k2 b2 .nil pass0 (pa_cons (pv 0) (pa_cons (pv 3) pa_nil))))
        (pss_cons (ps_set (i := 1) scLeastW.nd rfl (Or.inl rfl) (pv 3))
        (pss_one (ps_set (i := 3) scLeastW.nd rfl (Or.inl rfl) (pe_op op_fdiv (pv 1) (pv 2))))))))))
    (pss_one (ps_ret (pv 1))), ?_⟩
  refine ⟨_, rfl, u, rfl, u1, u2, fun qs D H1 two cov few s1 hD => ?_⟩
  refine ⟨D, rfl, ⟨_, SqL.of hD⟩, for_list (K := K) (a := D) (xs := nats qs) (fun i σ H' => Same H H' ∧ H' D = some (.lst (nats qs)) ∧ ∃ (v : Nat) (a b : Option V), σ = [some (.int ((x % 2 ^ v : Nat) : Int)), some (.int (v : Int)), a, b] ∧ 0 < v ∧ v ∣ u ∧ Mk.Sh (Mk.rep x u) v ∧ ∀ q ∈ qs.take i, ¬ (q ∣ v ∧ Mk.Sh (Mk.rep x u) (v / q)))
    ⟨s1, hD, u, _, _, by rw [Nat.mod_eq_of_lt hx]; rfl, u1, Nat.dvd_refl _, Mk.rep_sh x u, by simp⟩ (fun _ _ _ _ h => SqL.of h.2.1) ?_ ?_⟩
  · rintro i y σ H2 hy ⟨s2, hD2, v, a, b, rfl, v0, vu, sv, no⟩
    obtain ⟨p, hp, rfl⟩ := List.mem_map.mp (List.mem_of_getElem? hy)
    have hp2 : qs[i]? = some p := by
      unfold nats at hy
      rw [List.getElem?_map] at hy
      obtain ⟨p', h1, h2⟩ := Option.map_eq_some_iff.mp hy
      have := V.int.inj h2
      rw [h1]
      exact congrArg some (by omega)
    obtain ⟨p2, pu⟩ := two p hp
    have vle := Nat.le_of_dvd u1 vu
    refine ⟨_, rfl, _, rfl, _, _, rfl, rfl, ⟨by omega, by omega⟩, ?_⟩
    have ed : ∀ z : Nat, (z : Int) / (p : Int) = ((z / p : Nat) : Int) := fun z => (Int.natCast_ediv _ _).symm
    dsimp only
    rw [ed]
    refine ⟨fun m σ H' => Same H H' ∧ H' D = some (.lst (nats qs)) ∧ ∃ v : Nat, σ = [some (.int ((x % 2 ^ v : Nat) : Int)), some (.int (v : Int)), some (.int (p : Int)), some (.int ((v / p : Nat) : Int))] ∧ 0 < v ∧ v ∣ u ∧ Mk.Sh (Mk.rep x u) v ∧ (∀ q ∈ qs.take i, ¬ (q ∣ v ∧ Mk.Sh (Mk.rep x u) (v / q))) ∧ v = m, ⟨v, s2, hD2, v, rfl, v0, vu, sv, no, rfl⟩, ?_⟩
    clear s2 hD2 v0 vu sv no vle
    rintro m σ H3 ⟨s3, hD3, v, rfl, v0, vu, sv, no, rfl⟩
    have vle := Nat.le_of_dvd u1 vu
    refine ⟨_, rfl, _, rfl, _, _, rfl, rfl, (by omega), rfl, _, rfl, ?_⟩
    have em : (v : Int) % (p : Int) = ((v % p : Nat) : Int) := (Int.natCast_emod _ _).symm
    have out : ¬ (p ∣ v ∧ Mk.Sh (Mk.rep x u) (v / p)) → ∀ q ∈ qs.take (i + 1), ¬ (q ∣ v ∧ Mk.Sh (Mk.rep x u) (v / q)) := fun n q hq => by
      rw [List.take_succ, hp2] at hq
      rcases List.mem_append.mp hq with z | z
      · exact no q z
      · have e : q = p := by simpa using z
        rw [e]
        exact n
    refine ite2 (fun c => ?_) (fun c => ?_)
    · have c4 : p ∣ v := by
        have := V.int.inj (of_decide_eq_true c)
        rw [em] at this
        exact Nat.dvd_of_mod_eq_zero (by omega)
      have lt : v / p < v := Nat.div_lt_self v0 (by omega)
      have sp : 0 < v / p := Nat.div_pos (Nat.le_of_dvd v0 c4) (by omega)
      have sd : v / p ∣ v := Nat.div_dvd_of_dvd c4
      refine ⟨_, rfl, _, rfl, _, _, rfl, rfl, ?_⟩
      refine ⟨_, rfl, _, rfl, _, rfl, _, _, rfl, rfl, x % 2 ^ v, v - v / p, ?_, Nat.le_trans (Nat.sub_le _ _) (by omega), rfl, _, rfl, ?_⟩
      · show [V.int _, V.int ((v : Int) - ((v / p : Nat) : Int))] = _
        rw [show (v : Int) - ((v / p : Nat) : Int) = ((v - v / p : Nat) : Int) by omega]
      · rw [Mk.div_ct]
        have lt2 : x % 2 ^ v < 2 ^ v := Nat.mod_lt _ (Nat.two_pow_pos _)
        have iff1 := Mk.sh_iff lt2 sp sd v0
        have same : Mk.rep x u = Mk.rep (x % 2 ^ v) v := funext fun n => Mk.rep_low sv v0 vle n
        rw [← same] at iff1
        refine ite2 (fun d => ?_) (fun d => ?_)
        · have sh2 := iff1.mp (by have := V.int.inj (of_decide_eq_true d); omega)
          refine ⟨fun σ H' => Same H H' ∧ H' D = some (.lst (nats qs)) ∧ ∃ v' : Nat, σ = [some (.int ((x % 2 ^ v' : Nat) : Int)), some (.int (v' : Int)), some (.int (p : Int)), some (.int ((v' / p : Nat) : Int))] ∧ 0 < v' ∧ v' ∣ u ∧ Mk.Sh (Mk.rep x u) v' ∧ (∀ q ∈ qs.take i, ¬ (q ∣ v' ∧ Mk.Sh (Mk.rep x u) (v' / q))) ∧ v' < v, ?_, ?_⟩
          · rintro σ' H' ⟨a1, a2, v', a3, a4, a5, a6, a7, a8⟩
            exact ⟨v', a8, a1, a2, v', a3, a4, a5, a6, a7, rfl⟩
          · refine ⟨_, rfl, _, rfl, x % 2 ^ v, v / p, rfl, by omega, ?_⟩
            refine ⟨_, rfl, _, rfl, _, rfl, _, _, rfl, rfl, ⟨by omega, by omega⟩, ?_⟩
            dsimp only
            rw [ed]
            refine ⟨s3, hD3, v / p, ?_, sp, Nat.dvd_trans sd vu, sh2, fun q hq => Mk.no_more (two q (List.mem_of_mem_take hq)).1 sd (no q hq), lt⟩
            have e : x % 2 ^ v % 2 ^ (v / p) = x % 2 ^ (v / p) := Nat.mod_mod_of_dvd x (Nat.pow_dvd_pow 2 (Nat.le_of_lt lt))
            rw [e]
            rfl
        · refine ⟨s3, hD3, v, _, _, rfl, v0, vu, sv, out fun ⟨_, z⟩ => d (decide_eq_true (congrArg V.int ?_))⟩
          have := iff1.mpr z
          rw [this]
    · refine ⟨s3, hD3, v, _, _, rfl, v0, vu, sv, out fun ⟨z, _⟩ => c ?_⟩
      show decide (V.int ((v : Int) % (p : Int)) = V.int 0) = true
      rw [em, Nat.mod_eq_zero_of_dvd z]
      exact decide_eq_true rfl
  · rintro σ H2 ⟨s2, hD2, v, a, b, rfl, v0, vu, sv, no⟩
    have ll : (nats qs).length = qs.length := nats_len0 qs
    rw [ll, List.take_length] at no
    exact ⟨_, rfl, q v H2 (Mk.least_of v0 vu sv cov (fun q hq => (two q hq).1) no) vu s2⟩
end
end Wp

namespace Mk
/-- a set that may be asked -/
structure Kept.Fit (s : Kept) : Prop where
  w0 : 0 < s.w
  w1 : s.w ≤ 5000
  cy : s.cy < 2 ^ s.w
  st : len s.st ≤ 10000
theorem Kept.Fit.lt {s : Kept} (h : s.Fit) {m : Nat} (hm : len s.st ≤ m) : s.st < 2 ^ m := Nat.lt_of_lt_of_le (lt_len s.st) (Nat.pow_le_pow_right (by decide) hm)
/-- the members from lo on, so many places -/
def Kept.from (s : Kept) (lo many : Nat) : List Nat := (List.range many).filter fun i => s.mem (lo + i)
theorem log2_le {n m : Nat} (h : n < 2 ^ m) : n.log2 ≤ m := by
  by_cases z : n = 0
  · subst z
    exact Nat.zero_le _
  · have := (Nat.log2_lt z).mpr h
    omega
theorem pos_below {x m : Nat} {f : Nat → Bool} (h : ∀ n, x.testBit n = (decide (n < m) && f n)) : pos x = (List.range m).filter f ∧ x < 2 ^ m := by
  have lt : x < 2 ^ m := Nat.lt_pow_two_of_testBit x fun i hi => by rw [h i, decide_eq_false (by omega)]; rfl
  refine ⟨?_, lt⟩
  rw [pos_upto x lt]
  refine List.filter_congr fun n hn => ?_
  rw [h n, decide_eq_true (List.mem_range.mp hn), Bool.true_and]
end Mk
namespace Wp
open PySem PySem.Spec PyProof.Rows L2 Hx
def spBitsB (C : Addr) : Sp := fun vs H Q _ => ∃ (a : Addr) (s : Mk.Kept) (many : Nat), vs = [.ref a, .int (many : Int)] ∧ PlAt C H a s ∧ s.Fit ∧ Mk.len s.st ≤ many ∧ many ≤ 20000 ∧ ∀ x : Nat, (∀ n, x.testBit n = (decide (n < many) && s.mem n)) → Q (.int (x : Int)) H
def spStart (C : Addr) : Sp := fun vs H Q _ => ∃ (a : Addr) (s : Mk.Kept), vs = [.ref a] ∧ PlAt C H a s ∧ Q (.int (Mk.len s.st : Int)) H
def spPeriod (C : Addr) : Sp := fun vs H Q _ => ∃ (a : Addr) (s : Mk.Kept), vs = [.ref a] ∧ PlAt C H a s ∧ Q (.int (s.w : Int)) H
def spBelowP (C : Addr) : Sp := fun vs H Q _ => ∃ (a : Addr) (s : Mk.Kept), vs = [.ref a] ∧ PlAt C H a s ∧ s.Fit ∧ ∀ p H', Same H H' → H' p = some (.tup (nats (s.from 0 (Mk.len s.st)))) → Q (.ref p) H'
def spRestsP (C : Addr) : Sp := fun vs H Q _ => ∃ (a : Addr) (s : Mk.Kept), vs = [.ref a] ∧ PlAt C H a s ∧ s.Fit ∧ ∀ p H', Same H H' → H' p = some (.tup (nats (s.from (Mk.len s.st) s.w))) → Q (.ref p) H'
/-- the least member, of those below many -/
def spLeastP (C : Addr) : Sp := fun vs H Q _ => ∃ (a : Addr) (s : Mk.Kept), vs = [.ref a] ∧ PlAt C H a s ∧ s.Fit ∧ (((∀ n, n < Mk.len s.st + s.w → s.mem n = false) ∧ Q .non H) ∨ ∃ k, k < Mk.len s.st + s.w ∧ s.mem k = true ∧ (∀ n, n < k → s.mem n = false) ∧ Q (.int (k : Int)) H)
def spFinite (C : Addr) : Sp := fun vs H Q _ => ∃ (a : Addr) (s : Mk.Kept), vs = [.ref a] ∧ PlAt C H a s ∧ Q (.bl (decide (s.cy = 0))) H
def spHas (C : Addr) : Sp := fun vs H Q _ => ∃ (a : Addr) (s : Mk.Kept) (n : Nat), vs = [.ref a, .int (n : Int)] ∧ PlAt C H a s ∧ s.Fit ∧ Q (.bl (s.mem n)) H
def spTruth (C : Addr) : Sp := fun vs H Q _ => ∃ (a : Addr) (s : Mk.Kept), vs = [.ref a] ∧ PlAt C H a s ∧ Q (.bl (decide (s.cy ||| s.st ≠ 0))) H
/-- a property of the class -/
def PropD (P : Program) (w : World) (K : PySem.W.Frag) (mg : Str → Option Value) (base : Heap) (C : Addr) (k : Nat) (m : Str) (sp : Sp) : Prop := ∃ (p g : Addr) (fd : FuncData), PropOf K C m p g ∧ FnOk P w K mg base CX0 k g fd ["self"] sp ∧ Binds K fd ["self"] []
section
variable {P : Program} {w : World} {K : PySem.W.Frag} {mg : Str → Option Value} {base : Heap} {f f1 f2 f3 C : Addr} {fd fd1 fd2 fd3 : FuncData}
theorem scBitsB : FnScope ["places", "many"] ["places", "many"] (defScope s_bits_below) := ⟨rfl, rfl, rfl, by decide +kernel, rfl, by decide +kernel, by decide +kernel⟩
theorem ok_bitsB (F : Fun K "bits_below" "bits_below" s_bits_below f fd) (R : Pd K mg C)
    (G3 : FnOk P w K mg base CX0 3 f3 fd3 ["pattern", "width", "many"] spTiled) (b3 : Binds K fd3 ["pattern", "width", "many"] []) (k3 : PySem.W.keepIn K (.ref f3) = true) (m3 : mg "tiled" = some (.ref f3)) :
    FnOk P w K mg base CX0 4 f fd ["places", "many"] (spBitsB C) := by
  refine F.ok scBitsB (fun vs H Q E h => ?_) (fun cdv A outer s H vs Q E hr h => ?_)
  · obtain ⟨a, s, m, rfl, _⟩ := h
    rfl
  obtain ⟨a, s, many, rfl, ⟨dx, ha⟩, fit, l1, l2, q⟩ := h
  refine ⟨_, pss_one (ps_ret (pe_op op_xor (pe_call G3 hr rfl m3 k3 b3 .nil pass0 (pa_cons (pe_fld (pv 0) rfl) (pa_cons (pe_fld (pv 0) rfl) (pa_cons (pv 1) pa_nil)))) (pe_fld (pv 0) rfl))), ?_⟩
  refine ⟨_, rfl, a, C, dx, _, _, rfl, ha, R.cl, R.nC, rfl, _, rfl, a, C, dx, _, _, rfl, ha, R.cl, R.nW, rfl, _, rfl, s.cy, s.w, many, rfl, fit.w0, fit.w1, fit.cy, l2, fun x T => ?_⟩
  refine ⟨_, rfl, a, C, dx, _, _, rfl, ha, R.cl, R.nS, rfl, _, _, rfl, rfl, ?_⟩
  dsimp only
  rw [Mk.bxor]
  exact q _ (Mk.below_bits T (fit.lt l1))
theorem scStart : FnScope ["self"] ["self"] (defScope s_Places_start) := ⟨rfl, rfl, rfl, by decide +kernel, rfl, by decide +kernel, by decide +kernel⟩
theorem ok_start (F : Fun K "start" "Places.start" s_Places_start f fd) (R : Pd K mg C) : FnOk P w K mg base CX0 1 f fd ["self"] (spStart C) := by
  refine F.ok scStart (fun vs H Q E h => ?_) (fun cdv A outer s H vs Q E hr h => ?_)
  · obtain ⟨a, s, rfl, _⟩ := h
    rfl
  obtain ⟨a, s, rfl, ⟨dx, ha⟩, q⟩ := h
  exact ⟨_, pss_one (ps_ret (pe_bits (pe_fld (pv 0) rfl))), _, rfl, a, C, dx, _, _, rfl, ha, R.cl, R.nS, rfl, _, rfl, q⟩
theorem scPeriod : FnScope ["self"] ["self"] (defScope s_Places_period) := ⟨rfl, rfl, rfl, by decide +kernel, rfl, by decide +kernel, by decide +kernel⟩
theorem ok_period (F : Fun K "period" "Places.period" s_Places_period f fd) (R : Pd K mg C) : FnOk P w K mg base CX0 1 f fd ["self"] (spPeriod C) := by
  refine F.ok scPeriod (fun vs H Q E h => ?_) (fun cdv A outer s H vs Q E hr h => ?_)
  · obtain ⟨a, s, rfl, _⟩ := h
    rfl
  obtain ⟨a, s, rfl, ⟨dx, ha⟩, q⟩ := h
  exact ⟨_, pss_one (ps_ret (pe_fld (pv 0) rfl)), _, rfl, a, C, dx, _, _, rfl, ha, R.cl, R.nW, rfl, q⟩
theorem scBelowP : FnScope ["self"] ["self"] (defScope s_Places_below) := ⟨rfl, rfl, rfl, by decide +kernel, rfl, by decide +kernel, by decide +kernel⟩
theorem nats_len (l : List Nat) : (nats l).length = l.length := List.length_map _
theorem from_len (s : Mk.Kept) (lo many : Nat) : (s.from lo many).length ≤ many := by
  unfold Mk.Kept.from
  exact Nat.le_trans (List.length_filter_le _ _) (by rw [List.length_range]; exact Nat.le_refl _)
theorem ok_below (F : Fun K "below" "Places.below" s_Places_below f fd) (R : Pd K mg C) (Z : Bp mg) (S : PropD P w K mg base C 1 "start" (spStart C))
    (G1 : FnOk P w K mg base CX0 1 f1 fd1 ["bits"] spPositions) (b1 : Binds K fd1 ["bits"] []) (k1 : PySem.W.keepIn K (.ref f1) = true) (m1 : mg "positions" = some (.ref f1))
    (G2 : FnOk P w K mg base CX0 4 f2 fd2 ["places", "many"] (spBitsB C)) (b2 : Binds K fd2 ["places", "many"] []) (k2 : PySem.W.keepIn K (.ref f2) = true) (m2 : mg "bits_below" = some (.ref f2)) :
    FnOk P w K mg base CX0 5 f fd ["self"] (spBelowP C) := by
  refine F.ok scBelowP (fun vs H Q E h => ?_) (fun cdv A outer s H vs Q E hr h => ?_)
  · obtain ⟨a, s, rfl, _⟩ := h
    rfl
  obtain ⟨a, s, rfl, ⟨dx, ha⟩, fit, q⟩ := h
  obtain ⟨p0, g0, fd0, po, GS, bS⟩ := S
  have r1 := hr.mono (by decide : 1 ≤ 4)
  have r2 := hr.mono (by decide : 2 ≤ 4)
  refine ⟨_, pss_one (ps_ret (pe_callTy call_tuple_of (by rfl) Z.tuple (by decide +kernel) (pa_cons (pe_call G1 r1 rfl m1 k1 b1 .nil pass0 (pa_cons (pe_call G2 hr rfl m2 k2 b2 .nil pass0 (pa_cons (pv 0) (pa_cons (pe_prop (pv 0) R.cl po GS r2 bS .nil pass0 rfl) pa_nil))) pa_nil)) pa_nil))), ?_⟩
  have fst := fit.st
  refine ⟨_, rfl, _, rfl, a, dx, _, rfl, ha, a, s, rfl, ⟨dx, ha⟩, a, s, Mk.len s.st, rfl, ⟨dx, ha⟩, fit, Nat.le_refl _, by omega, fun x hx => ?_⟩
  obtain ⟨e, lt⟩ := Mk.pos_below hx
  have l2 := Mk.log2_le lt
  refine ⟨x, rfl, by omega, fun D H1 s1 hD => ⟨D, _, rfl, .inl ⟨SqL.of hD, fun l hl => ?_⟩⟩⟩
  refine q l _ (s1.trans (same_new hl _)) ?_
  rw [upd_same, e]
  unfold Mk.Kept.from
  simp only [Nat.zero_add]
theorem scRestsP : FnScope ["self", "start"] ["self"] (defScope s_Places_rests) := ⟨rfl, rfl, rfl, by decide +kernel, rfl, by decide +kernel, by decide +kernel⟩
theorem ok_rests (F : Fun K "rests" "Places.rests" s_Places_rests f fd) (R : Pd K mg C) (Z : Bp mg) (S : PropD P w K mg base C 1 "start" (spStart C))
    (G1 : FnOk P w K mg base CX0 1 f1 fd1 ["bits"] spPositions) (b1 : Binds K fd1 ["bits"] []) (k1 : PySem.W.keepIn K (.ref f1) = true) (m1 : mg "positions" = some (.ref f1))
    (G2 : FnOk P w K mg base CX0 4 f2 fd2 ["places", "many"] (spBitsB C)) (b2 : Binds K fd2 ["places", "many"] []) (k2 : PySem.W.keepIn K (.ref f2) = true) (m2 : mg "bits_below" = some (.ref f2)) :
    FnOk P w K mg base CX0 5 f fd ["self"] (spRestsP C) := by
  refine F.ok scRestsP (fun vs H Q E h => ?_) (fun cdv A outer s H vs Q E hr h => ?_)
  · obtain ⟨a, s, rfl, _⟩ := h
    rfl
  obtain ⟨a, s, rfl, ⟨dx, ha⟩, fit, q⟩ := h
  obtain ⟨p0, g0, fd0, po, GS, bS⟩ := S
  have r1 := hr.mono (by decide : 1 ≤ 4)
  have r2 := hr.mono (by decide : 2 ≤ 4)
  refine ⟨_, pss_cons (ps_set (i := 1) scRestsP.nd rfl (Or.inl rfl) (pe_prop (pv 0) R.cl po GS r2 bS .nil pass0 rfl))
    (pss_one (ps_ret (pe_callTy call_tuple_of (by rfl) Z.tuple (by decide +kernel) (pa_cons (pe_call G1 r1 rfl m1 k1 b1 .nil pass0 (pa_cons (pe_op op_shrN (pe_call G2 hr rfl m2 k2 b2 .nil pass0 (pa_cons (pv 0) (pa_cons (pe_op op_add (pv 1) (pe_fld (pv 0) rfl)) pa_nil))) (pv 1)) pa_nil)) pa_nil)))), ?_⟩
  have fst := fit.st
  have fw := fit.w1
  refine ⟨_, rfl, a, dx, _, rfl, ha, a, s, rfl, ⟨dx, ha⟩, ?_⟩
  refine ⟨_, rfl, _, rfl, _, rfl, a, C, dx, _, _, rfl, ha, R.cl, R.nW, rfl, _, _, rfl, rfl, a, s, Mk.len s.st + s.w, ?_, ⟨dx, ha⟩, fit, by omega, by omega, fun x hx => ?_⟩
  · show [V.ref a, V.int ((Mk.len s.st : Int) + (s.w : Int))] = _
    rw [Int.natCast_add]
  have hy : ∀ n, (x / 2 ^ Mk.len s.st).testBit n = (decide (n < s.w) && s.mem (Mk.len s.st + n)) := fun n => by
    rw [Nat.testBit_div_two_pow, hx, Nat.add_comm n]
    by_cases c : n < s.w
    · rw [decide_eq_true c, decide_eq_true (by omega)]
    · rw [decide_eq_false c, decide_eq_false (by omega), Bool.false_and]
  obtain ⟨e, lt⟩ := Mk.pos_below hy
  have l2 := Mk.log2_le lt
  refine ⟨_, rfl, (x : Int), Mk.len s.st, rfl, rfl, x / 2 ^ Mk.len s.st, ?_, by omega, fun D H1 s1 hD => ⟨D, _, rfl, .inl ⟨SqL.of hD, fun l hl => ?_⟩⟩⟩
  · rw [Mk.div_ct]
    rfl
  refine q l _ (s1.trans (same_new hl _)) ?_
  rw [upd_same, e]
  rfl
theorem scLeastP : FnScope ["self", "bits"] ["self"] (defScope s_Places_least) := ⟨rfl, rfl, rfl, by decide +kernel, rfl, by decide +kernel, by decide +kernel⟩
theorem ok_leastP (F : Fun K "least" "Places.least" s_Places_least f fd) (R : Pd K mg C) (S : PropD P w K mg base C 1 "start" (spStart C))
    (G2 : FnOk P w K mg base CX0 4 f2 fd2 ["places", "many"] (spBitsB C)) (b2 : Binds K fd2 ["places", "many"] []) (k2 : PySem.W.keepIn K (.ref f2) = true) (m2 : mg "bits_below" = some (.ref f2)) :
    FnOk P w K mg base CX0 5 f fd ["self"] (spLeastP C) := by
  refine F.ok scLeastP (fun vs H Q E h => ?_) (fun cdv A outer s H vs Q E hr h => ?_)
  · obtain ⟨a, s, rfl, _⟩ := h
    rfl
  obtain ⟨a, s, rfl, ⟨dx, ha⟩, fit, q⟩ := h
  obtain ⟨p0, g0, fd0, po, GS, bS⟩ := S
  have r2 := hr.mono (by decide : 2 ≤ 4)
  refine ⟨_, pss_cons (ps_set (i := 1) scLeastP.nd rfl (Or.inl rfl) (pe_call G2 hr rfl m2 k2 b2 .nil pass0 (pa_cons (pv 0) (pa_cons (pe_op op_add (pe_prop (pv 0) R.cl po GS r2 bS .nil pass0 rfl) (pe_fld (pv 0) rfl)) pa_nil))))
    (pss_one (ps_ret (pe_ifExp (pt_truth (pv 1) (fun _ => rfl)) (pe_op op_sub (pe_bits (pe_op op_and (pv 1) (pe_un un_neg (pv 1)))) pe_int) pe_non))), ?_⟩
  have fst := fit.st
  have fw := fit.w1
  refine ⟨_, rfl, _, rfl, a, dx, _, rfl, ha, a, s, rfl, ⟨dx, ha⟩, _, rfl, a, C, dx, _, _, rfl, ha, R.cl, R.nW, rfl, _, _, rfl, rfl, a, s, Mk.len s.st + s.w, ?_, ⟨dx, ha⟩, fit, by omega, by omega, fun x hx => ?_⟩
  · show [V.ref a, V.int ((Mk.len s.st : Int) + (s.w : Int))] = _
    rw [Int.natCast_add]
  rcases q with ⟨no, q⟩ | ⟨k, lt, yes, no, q⟩
  · have x0 : x = 0 := Mk.eq_zero_of fun n => by
      rw [hx n]
      by_cases c : n < Mk.len s.st + s.w
      · rw [no n c, Bool.and_false]
      · rw [decide_eq_false c, Bool.false_and]
    subst x0
    exact ⟨_, rfl, false, rfl, iteF q⟩
  · have b1 : x.testBit k = true := by rw [hx k, decide_eq_true lt, yes]; rfl
    have b2 : ∀ n, n < k → x.testBit n = false := fun n hn => by rw [hx n, no n hn, Bool.and_false]
    have lb := Mk.low_bit b1 b2
    have xn : x ≠ 0 := fun z => by
      rw [z] at b1
      simp at b1
    have tr : ((x : Int) != 0) = true := by
      simp [xn]
    refine ⟨_, rfl, _, rfl, ?_⟩
    rw [tr]
    refine iteT ⟨_, rfl, _, rfl, _, rfl, _, _, rfl, rfl, _, rfl, ?_⟩
    dsimp only
    rw [lb]
    have e : Builtin.Int.intBits ((2 ^ k : Nat) : Int) = k + 1 := Mk.len_of (n := 2 ^ k) (m := k) (by rw [Nat.testBit_two_pow]; exact decide_eq_true rfl) fun i hi => by
      rw [Nat.testBit_two_pow]
      exact decide_eq_false (by omega)
    rw [e]
    refine ⟨_, _, rfl, rfl, ?_⟩
    show Q (.int (((k + 1 : Nat) : Int) - 1)) H
    rw [show ((k + 1 : Nat) : Int) - 1 = (k : Int) by omega]
    exact q
theorem scHas : FnScope ["self", "n", "bits"] ["self", "n"] (defScope s_Places_contains) := ⟨rfl, rfl, rfl, by decide +kernel, rfl, by decide +kernel, by decide +kernel⟩
def spIsIntN : Sp := fun vs H Q _ => ∃ i : Int, vs = [.int i] ∧ Q (.bl true) H
theorem ok_has (F : Fun K "__contains__" "Places.__contains__" s_Places_contains f fd) (R : Pd K mg C)
    (G1 : FnOk P w K mg base CX0 1 f1 fd1 ["value"] spIsIntN) (b1 : Binds K fd1 ["value"] []) (k1 : PySem.W.keepIn K (.ref f1) = true) (m1 : mg "is_integer" = some (.ref f1)) :
    FnOk P w K mg base CX0 2 f fd ["self", "n"] (spHas C) := by
  refine F.ok scHas (fun vs H Q E h => ?_) (fun cdv A outer s H vs Q E hr h => ?_)
  · obtain ⟨a, s, n, rfl, _⟩ := h
    rfl
  obtain ⟨a, s, n, rfl, ⟨dx, ha⟩, fit, q⟩ := h
  refine ⟨_, pss_cons (ps_if (PW.pt (pw_or (pt_not (pt_val (pe_call G1 hr rfl m1 k1 b1 .nil pass0 (pa_cons (pv 1) pa_nil)))) (pw_or1 (pt_cmpR op_lt (pv 1) pe_int (nomark _))))) (pss_one (ps_ret pe_bl)) pss_nil)
    (pss_cons (ps_set (i := 2) scHas.nd rfl (Or.inl rfl) (pe_op op_shrN (pe_fld (pv 0) rfl) (pe_op op_mod (pv 1) (pe_fld (pv 0) rfl))))
    (pss_cons (ps_if (pt_cmpR op_lt (pv 1) (pe_bits (pe_fld (pv 0) rfl)) (nomark _)) (pss_one (ps_set (i := 2) scHas.nd rfl (Or.inl rfl) (pe_op op_xor (pv 2) (pe_op op_shrN (pe_fld (pv 0) rfl) (pv 1))))) pss_nil)
    (pss_one (ps_ret (pe_cmpR op_eq (pe_op op_and (pv 2) pe_int) pe_int (nomark _)))))), ?_⟩
  refine ⟨_, rfl, n, rfl, _, rfl, iteF ⟨_, rfl, _, _, rfl, rfl, _, rfl, ?_⟩⟩
  rw [decide_eq_false (by omega)]
  refine iteF ?_
  have w0 := fit.w0
  have em : (n : Int) % (s.w : Int) = ((n % s.w : Nat) : Int) := (Int.natCast_emod _ _).symm
  refine ⟨_, rfl, a, C, dx, _, _, rfl, ha, R.cl, R.nC, rfl, _, rfl, _, rfl, a, C, dx, _, _, rfl, ha, R.cl, R.nW, rfl, _, _, rfl, rfl, (by omega), ?_⟩
  dsimp only
  rw [em]
  refine ⟨_, _, rfl, rfl, ?_⟩
  rw [Mk.div_ct]
  have fin : ∀ y : Nat, y.testBit 0 = s.mem n → ∀ H', H = H' → tRet (tOp rEq (tOp (rI0 fun i j => V.int (Builtin.bitAnd i j)) (tVar 2) (tC (V.int 1))) (tC (V.int 1))) { nx := fun x H' => Q V.non H', rt := Q } [some (V.ref a), some (V.int (n : Int)), some (V.int (y : Int))] H' := by
    rintro y hy _ rfl
    refine ⟨_, rfl, _, _, rfl, rfl, rfl, ?_⟩
    have e1 : Builtin.bitAnd (y : Int) 1 = ((y &&& 1 : Nat) : Int) := Mk.band y 1
    have e2 : decide (V.int (Builtin.bitAnd (y : Int) 1) = V.int 1) = y.testBit 0 := by
      rw [e1, Nat.testBit_zero, Nat.and_one_is_mod, decide_eq_decide]
      exact ⟨fun z => by have := V.int.inj z; omega, fun z => by rw [z]; rfl⟩
    show Q (.bl (decide (V.int (Builtin.bitAnd (y : Int) 1) = V.int 1))) H
    rw [e2, hy]
    exact q
  refine ⟨_, rfl, _, rfl, a, C, dx, _, _, rfl, ha, R.cl, R.nS, rfl, _, rfl, _, _, rfl, rfl, _, rfl, ?_⟩
  refine ite2 (fun c => ?_) (fun c => ?_)
  · refine ⟨_, rfl, _, rfl, a, C, dx, _, _, rfl, ha, R.cl, R.nS, rfl, _, rfl, _, n, rfl, rfl, _, _, rfl, rfl, ?_⟩
    dsimp only
    rw [Mk.div_ct, Mk.bxor]
    refine fin _ ?_ _ rfl
    rw [Nat.testBit_xor, Nat.testBit_div_two_pow, Nat.testBit_div_two_pow, Nat.zero_add, Nat.zero_add]
    rfl
  · refine fin _ ?_ _ rfl
    have out : s.st.testBit n = false := Mk.bit_out (by
      have : ¬ (n : Int) < (Builtin.Int.intBits (s.st : Int) : Nat) := fun z => c (decide_eq_true z)
      unfold Mk.len
      omega)
    rw [Nat.testBit_div_two_pow, Nat.zero_add]
    show _ = Bool.xor (s.cy.testBit (n % s.w)) (s.st.testBit n)
    rw [out, Bool.xor_false]
theorem scTruth : FnScope ["self"] ["self"] (defScope s_Places_bool) := ⟨rfl, rfl, rfl, by decide +kernel, rfl, by decide +kernel, by decide +kernel⟩
theorem ok_truthP (F : Fun K "__bool__" "Places.__bool__" s_Places_bool f fd) (R : Pd K mg C) (Z : Bp mg) : FnOk P w K mg base CX0 1 f fd ["self"] (spTruth C) := by
  refine F.ok scTruth (fun vs H Q E h => ?_) (fun cdv A outer s H vs Q E hr h => ?_)
  · obtain ⟨a, s, rfl, _⟩ := h
    rfl
  obtain ⟨a, s, rfl, ⟨dx, ha⟩, q⟩ := h
  refine ⟨_, pss_one (ps_ret (pe_callTy call_bool1 (by rfl) Z.bool (by decide +kernel) (pa_cons (pe_op op_or (pe_fld (pv 0) rfl) (pe_fld (pv 0) rfl)) pa_nil))), ?_⟩
  refine ⟨_, rfl, a, C, dx, _, _, rfl, ha, R.cl, R.nC, rfl, _, rfl, a, C, dx, _, _, rfl, ha, R.cl, R.nS, rfl, _, _, rfl, rfl, .inl ⟨_, rfl, ?_⟩⟩
  rw [Mk.bor]
  have e : (((s.cy ||| s.st : Nat) : Int) != 0) = decide (s.cy ||| s.st ≠ 0) := by
    by_cases z : s.cy ||| s.st = 0
    · rw [z]
      rfl
    · rw [decide_eq_true z]
      simp [z]
  rw [e]
  exact q
end
end Wp

namespace Mk
/-- the first multiple of W from L on -/
def up (L W : Nat) : Nat := L + (W - L % W) % W
theorem neg_mod (L : Nat) {W : Nat} (hW : 0 < W) : (-(L : Int)) % (W : Int) = (((W - L % W) % W : Nat) : Int) := by
  have hr := Nat.mod_lt L hW
  have e : (-(L : Int)) = ((W - L % W : Nat) : Int) + (W : Int) * (-((L / W : Nat) : Int) - 1) := by
    have h := Nat.div_add_mod L W
    have h2 : ((W * (L / W) + L % W : Nat) : Int) = (L : Int) := by rw [h]
    rw [Int.natCast_add, Int.natCast_mul] at h2
    rw [Int.mul_sub, Int.mul_neg, Int.mul_one]
    omega
  rw [e, Int.add_mul_emod_self_left, ← Int.natCast_emod]
/-- what these pairs tell, below many -/
def told (l : List (Nat × Nat)) (many n : Nat) : Bool := l.any fun x => if x.1 = 0 then decide (x.2 = n) else decide (x.2 ≤ n) && decide (n < many) && decide ((n - x.2) % x.1 = 0)
theorem told_snoc (l : List (Nat × Nat)) (x : Nat × Nat) (many n : Nat) : told (l ++ [x]) many n = (told l many n || told [x] many n) := by
  unfold told
  rw [List.any_append]
theorem told_out {l : List (Nat × Nat)} {many n : Nat} (h : ∀ y ∈ l, y.2 < many) (hn : many ≤ n) : told l many n = false := by
  unfold told
  rw [List.any_eq_false]
  intro y hy
  have := h y hy
  split
  · simp only [decide_eq_true_eq]
    omega
  · rw [decide_eq_false (p := n < many) (by omega), Bool.and_false, Bool.false_and]
    exact Bool.false_ne_true
end Mk
namespace Wp
open PySem PySem.Spec PyProof.Rows L2 Hx
/-- tuples of two numbers -/
def PrsAt (H : Hp) (vs : List V) (l : List (Nat × Nat)) : Prop := vs.length = l.length ∧ ∀ (i : Nat) (v : V), vs[i]? = some v → ∃ (t : Addr) (x : Nat × Nat), v = V.ref t ∧ l[i]? = some x ∧ H t = some (.tup [V.int (x.1 : Int), V.int (x.2 : Int)])
theorem PrsAt.same {H H' : Hp} {vs : List V} {l : List (Nat × Nat)} (h : PrsAt H vs l) (s : Same H H') : PrsAt H' vs l := ⟨h.1, fun i v hv => (h.2 i v hv).imp fun t q => q.imp fun x r => ⟨r.1, r.2.1, s _ _ r.2.2⟩⟩
def IsMax (m : Nat) (l : List Nat) : Prop := m ∈ l ∧ ∀ y ∈ l, y ≤ m
def spGath (C : Addr) : Sp := fun vs H Q _ => ∃ (pa : Addr) (ps : List V) (l : List (Nat × Nat)) (W L : Nat), vs = [.ref pa] ∧ H pa = some (.lst ps) ∧ PrsAt H ps l ∧ l.length ≤ 100 ∧ IsMax W (1 :: l.map Prod.fst) ∧ IsMax L (0 :: l.map fun x => x.2 + 1) ∧ W ≤ 5000 ∧ L ≤ 10000 ∧
  (∀ bits : Nat, (∀ n, bits.testBit n = Mk.told l (Mk.up L W + W) n) → ∀ q, 2 ≤ q → q ∣ W → (bits / 2 ^ Mk.up L W) / 2 ^ (W / q) ≠ (bits / 2 ^ Mk.up L W) % 2 ^ (W - W / q)) ∧
  ∀ (bits : Nat) (s : Mk.Kept), (∀ n, bits.testBit n = Mk.told l (Mk.up L W + W) n) → Made bits (Mk.up L W) W s → ∀ a H', Same H H' → PlAt C H' a s → Q (.ref a) H'
section
variable {P : Program} {w : World} {K : PySem.W.Frag} {mg : Str → Option Value} {base : Heap} {f f1 f2 f3 C : Addr} {fd fd1 fd2 fd3 : FuncData}
def NG : List Str := ["pairs", "width", "least", "start", "bits", "step", "first"]
theorem scGath : FnScope NG ["pairs"] (defScope s_gathered) := ⟨rfl, rfl, rfl, by decide +kernel, rfl, by decide +kernel, by decide +kernel⟩
def gPair (K : PySem.W.Frag) : TG := gTup K 2 (gCons (gName 5) (gCons (gName 6) gNil))
theorem lc_prs {pa D : Addr} {ps : List V} {l : List (Nat × Nat)} {te : TE} {σ : L2.St} {H1 : Hp} {Qd : Hp → Prop} (fn : Nat × Nat → Nat) (hD : H1 D = none) (hp : H1 pa = some (.lst ps)) (pr : PrsAt H1 ps l) (few : l.length ≤ 100)
    (hte : ∀ (x : Nat × Nat) H (Qv : VK), Qv (.int (fn x : Nat)) H → te (((wipe σ [5, 6]).set 5 (some (.int (x.1 : Int)))).set 6 (some (.int (x.2 : Int)))) H Qv)
    (hw : ∀ u v : Option V, wipe (((wipe σ [5, 6]).set 5 u).set 6 v) [5, 6] = wipe σ [5, 6])
    (hd : ∀ H', Same H1 H' → H' D = some (.lst (nats (l.map fn))) → Qd H') :
    ∃ W : Nat → Nat → Hp → Prop, (∃ m, W 0 m (upd H1 D (.lst []))) ∧ ∀ i m H, W i m H →
      ((Itl K pa).stop i H ∧ Qd H) ∨ ((Itl K pa).go i H ∧ ∃ Nx : Hp → Prop, (∀ H', Nx H' → ∃ m', m' < m ∧ W (i + 1) m' H') ∧ ∀ x H', (Itl K pa).yld i H x H' → gPair K x (wipe σ [5, 6]) H' fun σ2 H2 => wipe σ2 [5, 6] = wipe σ [5, 6] ∧ tYes σ2 H2 fun b H3 =>
        if b = true then te σ2 H3 fun y H4 => ∃ acc, H4 D = some (.lst acc) ∧ acc.length < sizeLine ∧ Nx (upd H4 D (.lst (acc ++ [y]))) else Nx H3) := by
  refine lc_list (K := K) (a := pa) (xs := ps) (fun i H' => Same H1 H' ∧ H' D = some (.lst (nats ((l.take i).map fn)))) ⟨same_new hD _, upd_same⟩ (fun i H' _ h => SqL.of (h.1 _ _ hp)) ?_ ?_
  · rintro i v H' hv ⟨s1, hD1⟩
    obtain ⟨t, x, rfl, hx, ht⟩ := pr.2 i v hv
    refine ⟨t, _, rfl, SqT.of (s1 _ _ ht), rfl, _, _, rfl, _, _, rfl, rfl, hw _ _, turn_yes ?_⟩
    refine hte x H' _ ⟨_, hD1, ?_, same_at hD s1, ?_⟩
    · rw [nats_len, List.length_map, List.length_take, sizeLine_eq]
      omega
    · rw [upd_same, List.take_succ, hx]
      simp [nats]
  · rintro H' ⟨s1, hD1⟩
    rw [pr.1, List.take_length] at hD1
    exact hd H' s1 hD1
theorem born_same {H H' : Hp} {a dx : Addr} {o1 o2 : HO} (na : H a = none) (nd : H dx = none) (b : But a (upd (upd H dx o1) a o2) H') : Same H H' := fun c o h => by
  have n1 := ne_of_none h na
  have n2 := ne_of_none h nd
  refine b c o n1 ?_
  rw [upd_ne n1, upd_ne n2]
  exact h
theorem max_is {m : Nat} {l : List Nat} (h : IsMax m l) {k : Int} (h1 : k ∈ l.map fun n : Nat => (n : Int)) (h2 : ∀ y, y ∈ (l.map fun n : Nat => (n : Int)) → y ≤ k) : k = (m : Int) := by
  obtain ⟨n, hn, rfl⟩ := List.mem_map.mp h1
  have a := h.2 n hn
  have b := h2 (m : Int) (List.mem_map.mpr ⟨m, h.1, rfl⟩)
  omega
theorem nats_ints (l : List Nat) : nats l = (l.map fun n : Nat => (n : Int)).map V.int := by
  rw [List.map_map]
  rfl
theorem ok_gath (F : Fun K "gathered" "gathered" s_gathered f fd) (R : Pd K mg C) (Z : Bp mg) (M : Mk K C f1)
    (G1 : FnOk P w K mg base CX0 4 f1 fd1 ["self", "bits", "start", "width"] (spInitP C)) (b1 : Binds K fd1 ["self", "bits", "start", "width"] [])
    (G3 : FnOk P w K mg base CX0 3 f3 fd3 ["pattern", "width", "many"] spTiled) (b3 : Binds K fd3 ["pattern", "width", "many"] []) (k3 : PySem.W.keepIn K (.ref f3) = true) (m3 : mg "tiled" = some (.ref f3)) :
    FnOk P w K mg base CX0 6 f fd ["pairs"] (spGath C) := by
  refine F.ok scGath (fun vs H Q E h => ?_) (fun cdv A outer s H vs Q E hr h => ?_)
  · obtain ⟨pa, ps, l, W, L, rfl, _⟩ := h
    rfl
  obtain ⟨pa, ps, l, W, L, rfl, hp, pr, few, mW, mL, W1, L1, hN, q⟩ := h
  have r3 := hr.mono (by decide : 3 ≤ 5)
  refine ⟨_, pss_cons (ps_set (i := 1) scGath.nd rfl (Or.inl rfl) (pe_callB (cr_max rfl) (by rfl) Z.max PyProof.Rows.boot_max (pa_cons (pe_lst (pa_cons pe_int (StX.pa_star
        (pe_lc (own := [("step", 5), ("first", 6)]) (g := gPair K) (tt := tYes) (te := tVar 5) rfl scGath.nd (pi_list (pv 0)) (blkOk_by (N := NG) (sc := defScope s_gathered) (by decide +kernel))
          (fun _ _ _ _ _ => pg_tup (by rfl) (pgs_cons (pg_name (i := 5) scGath.nd rfl (Or.inl rfl)) (pgs_cons (pg_name (i := 6) scGath.nd rfl (Or.inl rfl)) pgs_nil))) (fun _ _ _ _ _ => pts_nil) (fun _ _ _ _ _ => pv 5)) pa_nil))) pa_nil)))
    (pss_cons (ps_set (i := 2) scGath.nd rfl (Or.inl rfl) (pe_callB (cr_max rfl) (by rfl) Z.max PyProof.Rows.boot_max (pa_cons (pe_lst (pa_cons pe_int (StX.pa_star
        (pe_lc (own := [("step", 5), ("first", 6)]) (g := gPair K) (tt := tYes) rfl scGath.nd (pi_list (pv 0)) (blkOk_by (N := NG) (sc := defScope s_gathered) (by decide +kernel))
          (fun _ _ _ _ _ => pg_tup (by rfl) (pgs_cons (pg_name (i := 5) scGath.nd rfl (Or.inl rfl)) (pgs_cons (pg_name (i := 6) scGath.nd rfl (Or.inl rfl)) pgs_nil))) (fun _ _ _ _ _ => pts_nil) (fun _ _ _ _ _ => pe_op op_add (pv 6) pe_int)) pa_nil))) pa_nil)))
    (pss_cons (ps_set (i := 3) scGath.nd rfl (Or.inl rfl) (pe_op op_add (pv 2) (pe_op op_mod (pe_un un_neg (pv 2)) (pv 1))))
    (pss_cons (ps_set (i := 4) scGath.nd rfl (Or.inl rfl) pe_int)
    (pss_cons (ps_for PassesOwn.never rfl (pi_list (pv 0)) (pg_tup (by rfl) (pgs_cons (pg_name (i := 5) scGath.nd rfl (Or.inl rfl)) (pgs_cons (pg_name (i := 6) scGath.nd rfl (Or.inl rfl)) pgs_nil)))
      (pss_one (ps_set (i := 4) scGath.nd rfl (Or.inl rfl) (pe_op op_or (pv 4) (pe_op op_shlN (pe_ifExp (pt_cmpR op_gt (pv 5) pe_int (nomark _))
        (pe_call G3 r3 rfl m3 k3 b3 .nil pass0 (pa_cons pe_int (pa_cons (pv 5) (pa_cons (pe_op op_sub (pe_op op_add (pv 3) (pv 1)) (pv 6)) pa_nil)))) pe_int) (pv 6))))))
    (pss_one (ps_ret (pe_make M G1 hr rfl R.gC b1 .nil pass0 (pa_cons (pv 4) (pa_cons (pv 3) (pa_cons (pv 1) pa_nil)))))))))), ?_⟩
  -- the width
  refine ⟨_, rfl, pa, rfl, ⟨ps, SqL.of hp⟩, fun D1 hD1 => ?_⟩
  refine lc_prs Prod.fst hD1 hp pr few (fun x H Qv h => ⟨_, rfl, h⟩) (fun u v => rfl) fun H1 s1 h1 => ?_
  refine ⟨D1, _, rfl, .inr (SqL.of h1), ?_, fun D2 hD2 => ?_⟩
  · show ([V.int 1] ++ (nats (l.map Prod.fst) ++ [])).length ≤ sizeLine
    rw [List.append_nil, List.length_append, nats_len, List.length_map, sizeLine_eq]
    show 1 + l.length ≤ _
    omega
  have n1 : (V.int 1 :: (nats (l.map Prod.fst) ++ [])) = ((1 :: l.map Prod.fst).map fun n : Nat => (n : Int)).map V.int := by
    rw [List.append_nil, nats_ints]
    rfl
  refine ⟨D2, (1 :: l.map Prod.fst).map fun n : Nat => (n : Int), rfl, SqL.of (by rw [upd_same, n1]), by simp, fun m hm hle => ?_⟩
  obtain rfl := max_is mW hm hle
  have s2 := s1.trans (same_new hD2 (.lst (V.int 1 :: (nats (l.map Prod.fst) ++ []))))
  generalize upd H1 D2 (.lst (V.int 1 :: (nats (l.map Prod.fst) ++ []))) = H2 at s2 ⊢
  clear s1 h1 hD1 hD2 n1 hm hle
  -- the least
  refine ⟨_, rfl, pa, rfl, ⟨ps, SqL.of (s2 _ _ hp)⟩, fun D3 hD3 => ?_⟩
  refine lc_prs (fun x : Nat × Nat => x.2 + 1) hD3 (s2 _ _ hp) (pr.same s2) few (fun x H Qv h => ⟨_, rfl, _, _, rfl, rfl, by rw [Int.natCast_add] at h; exact h⟩) (fun u v => rfl) fun H3 s3 h3 => ?_
  refine ⟨D3, _, rfl, .inr (SqL.of h3), ?_, fun D4 hD4 => ?_⟩
  · show ([V.int 0] ++ (nats (l.map fun x : Nat × Nat => x.2 + 1) ++ [])).length ≤ sizeLine
    rw [List.append_nil, List.length_append, nats_len, List.length_map, sizeLine_eq]
    show 1 + l.length ≤ _
    omega
  have n3 : (V.int 0 :: (nats (l.map fun x : Nat × Nat => x.2 + 1) ++ [])) = ((0 :: l.map fun x : Nat × Nat => x.2 + 1).map fun n : Nat => (n : Int)).map V.int := by
    rw [List.append_nil, nats_ints]
    rfl
  refine ⟨D4, (0 :: l.map fun x : Nat × Nat => x.2 + 1).map fun n : Nat => (n : Int), rfl, SqL.of (by rw [upd_same, n3]), by simp, fun m hm hle => ?_⟩
  obtain rfl := max_is mL hm hle
  have s4 := (s2.trans s3).trans (same_new hD4 (.lst (V.int 0 :: (nats (l.map fun x : Nat × Nat => x.2 + 1) ++ []))))
  generalize upd H3 D4 (.lst (V.int 0 :: (nats (l.map fun x : Nat × Nat => x.2 + 1) ++ []))) = H4 at s4 ⊢
  clear s2 s3 h3 hD3 hD4 n3 hm hle
  have W0 : 1 ≤ W := mW.2 1 List.mem_cons_self
  -- the start
  refine ⟨_, rfl, _, rfl, _, rfl, _, rfl, _, _, rfl, rfl, (by omega), ?_⟩
  dsimp only
  rw [Mk.neg_mod L W0]
  refine ⟨_, _, rfl, rfl, ?_⟩
  have eU : (L : Int) + (((W - L % W) % W : Nat) : Int) = ((Mk.up L W : Nat) : Int) := by
    rw [← Int.natCast_add]
    rfl
  dsimp only
  rw [eU]
  have uL : L ≤ Mk.up L W := Nat.le_add_right _ _
  have uM : Mk.up L W < L + W := by
    have := Nat.mod_lt (W - L % W) W0
    unfold Mk.up
    omega
  refine ⟨_, rfl, pa, rfl, ⟨ps, SqL.of (s4 _ _ hp)⟩, for_list (K := K) (a := pa) (xs := ps) (fun i σ H' => Same H H' ∧ ∃ (x : Nat) (u v : Option V), (∀ n, x.testBit n = Mk.told (l.take i) (Mk.up L W + W) n) ∧ σ = [some (.ref pa), some (.int (W : Int)), some (.int (L : Int)), some (.int (Mk.up L W : Nat)), some (.int (x : Int)), u, v])
    ⟨s4, 0, none, none, fun n => by rw [Nat.zero_testBit]; rfl, rfl⟩ (fun _ _ _ _ h => SqL.of (h.1 _ _ hp)) ?_ ?_⟩
  · rintro i v σ H5 hv ⟨s5, x, u1, v1, hx, rfl⟩
    obtain ⟨t, y, rfl, hy, ht⟩ := pr.2 i v hv
    have ym : y ∈ l := List.mem_of_getElem? hy
    have yL : y.2 + 1 ≤ L := mL.2 _ (List.mem_cons_of_mem _ (List.mem_map.mpr ⟨y, ym, rfl⟩))
    have yW : y.1 ≤ W := mW.2 _ (List.mem_cons_of_mem _ (List.mem_map.mpr ⟨y, ym, rfl⟩))
    refine ⟨t, _, rfl, SqT.of (s5 _ _ ht), rfl, _, _, rfl, _, _, rfl, rfl, ?_⟩
    have nx : ∀ z : Nat, (∀ n, (z * 2 ^ y.2).testBit n = Mk.told [y] (Mk.up L W + W) n) → ∀ n, (x ||| z * 2 ^ y.2).testBit n = Mk.told (l.take (i + 1)) (Mk.up L W + W) n := fun z hz n => by
      rw [Nat.testBit_or, hx, hz, List.take_succ, hy]
      exact (Mk.told_snoc _ _ _ _).symm
    by_cases c : y.1 = 0
    · refine ⟨_, rfl, _, rfl, _, _, rfl, rfl, _, rfl, ?_⟩
      rw [decide_eq_false (by omega)]
      refine iteF ⟨_, rfl, ((1 : Nat) : Int), y.2, rfl, rfl, shl_ok (n := 1) (by decide) (by omega), _, _, rfl, rfl, ?_⟩
      dsimp only
      rw [Mk.mul_ct, Mk.bor]
      refine ⟨s5, _, _, _, nx 1 fun n => ?_, rfl⟩
      rw [Nat.one_mul, Nat.testBit_two_pow]
      unfold Mk.told
      rw [List.any_cons, List.any_nil, Bool.or_false, if_pos c]
    · refine ⟨_, rfl, _, rfl, _, _, rfl, rfl, _, rfl, ?_⟩
      rw [decide_eq_true (by omega)]
      refine iteT ⟨_, rfl, _, rfl, _, rfl, _, _, rfl, rfl, _, rfl, _, _, rfl, rfl, 1, y.1, Mk.up L W + W - y.2, ?_, by omega, by omega, ?_, by omega, fun z hz => ?_⟩
      · show [V.int 1, V.int (y.1 : Int), V.int ((Mk.up L W : Int) + (W : Int) - (y.2 : Int))] = _
        rw [show (Mk.up L W : Int) + (W : Int) - (y.2 : Int) = ((Mk.up L W + W - y.2 : Nat) : Int) by omega]
        rfl
      · exact Nat.one_lt_two_pow c
      have zl := hz.lt
      refine ⟨_, rfl, (z : Int), y.2, rfl, rfl, shl_ok (n := Mk.up L W + W - y.2) (by simpa using zl) (by omega), _, _, rfl, rfl, ?_⟩
      dsimp only
      rw [Mk.mul_ct, Mk.bor]
      refine ⟨s5, _, _, _, nx z fun n => ?_, rfl⟩
      rw [Nat.testBit_mul_two_pow, hz]
      unfold Mk.told
      rw [List.any_cons, List.any_nil, Bool.or_false, if_neg c]
      by_cases d : y.2 ≤ n
      · rw [decide_eq_true d, Bool.true_and, Bool.true_and]
        have e1 : decide (n - y.2 < Mk.up L W + W - y.2) = decide (n < Mk.up L W + W) := decide_eq_decide.mpr (by omega)
        have e2 : (1 : Nat).testBit ((n - y.2) % y.1) = decide ((n - y.2) % y.1 = 0) := by
          rw [show (1 : Nat) = 2 ^ 0 from rfl, Nat.testBit_two_pow]
          exact decide_eq_decide.mpr (by omega)
        rw [e1, e2]
      · rw [decide_eq_false d, Bool.false_and, Bool.false_and, Bool.false_and]
  · rintro σ H5 ⟨s5, x, u, v, hx, rfl⟩
    rw [pr.1, List.take_length] at hx
    have xl : x < 2 ^ (Mk.up L W + W) := Nat.lt_pow_two_of_testBit x fun i hi => by
      rw [hx]
      exact Mk.told_out (fun y ym => by
        have := mL.2 _ (List.mem_cons_of_mem _ (List.mem_map.mpr ⟨y, ym, rfl⟩))
        omega) hi
    refine ⟨_, rfl, _, rfl, _, rfl, fun a dx na nd ne => ⟨a, dx, x, Mk.up L W, W, rfl, upd_same, W0, W1, by omega, xl, hN x hx, fun k H' mk bt ha => ⟨rfl, ?_⟩⟩⟩
    exact q x k hx mk a H' (s5.trans (born_same na nd bt)) ⟨dx, ha⟩
end
end Wp

/-! endless rows with a head and a loop, in plain lists -/
namespace Rw
theorem getD_appL {a b : List Nat} {i : Nat} (h : i < a.length) : (a ++ b).getD i 0 = a.getD i 0 := by
  rw [List.getD_eq_getElem?_getD, List.getElem?_append_left h, ← List.getD_eq_getElem?_getD]
theorem getD_appR {a b : List Nat} {i : Nat} (h : a.length ≤ i) : (a ++ b).getD i 0 = b.getD (i - a.length) 0 := by
  rw [List.getD_eq_getElem?_getD, List.getElem?_append_right h, ← List.getD_eq_getElem?_getD]
theorem getD_get {a : List Nat} {i : Nat} (h : i < a.length) : a.getD i 0 = a[i] := by
  rw [List.getD_eq_getElem?_getD, List.getElem?_eq_getElem h]
  rfl
/-- n times a -/
def rep (n : Nat) (a : List Nat) : List Nat := (List.replicate n a).flatten
def lp (g : List Nat) (n : Nat) : Nat := g.getD (n % g.length) 0
def sg (f g : List Nat) (n : Nat) : Nat := if n < f.length then f.getD n 0 else lp g (n - f.length)
def Prim (g : List Nat) : Prop := ∀ m, 0 < m → m < g.length → ∃ i, lp g i ≠ lp g (i + m)
structure Norm (f g : List Nat) : Prop where
  pos : 0 < g.length
  prim : Prim g
  last : 0 < f.length → f.getD (f.length - 1) 0 ≠ lp g (g.length - 1)
theorem rep_zero (a : List Nat) : rep 0 a = [] := rfl
theorem rep_succ (n : Nat) (a : List Nat) : rep (n + 1) a = a ++ rep n a := by
  unfold rep
  rw [List.replicate_succ, List.flatten_cons]
theorem rep_length (n : Nat) (a : List Nat) : (rep n a).length = n * a.length := by
  induction n with
  | zero => rw [rep_zero, Nat.zero_mul]; rfl
  | succ n ih => rw [rep_succ, List.length_append, ih, Nat.succ_mul, Nat.add_comm]
theorem rep_getD {a : List Nat} : ∀ (n i : Nat), i < n * a.length → (rep n a).getD i 0 = a.getD (i % a.length) 0
  | 0, i, h => by rw [Nat.zero_mul] at h; exact absurd h (Nat.not_lt_zero _)
  | n + 1, i, h => by
    rw [rep_succ]
    by_cases c : i < a.length
    · rw [getD_appL c, Nat.mod_eq_of_lt c]
    · have c' : a.length ≤ i := Nat.le_of_not_lt c
      rw [getD_appR c', rep_getD n (i - a.length) (by rw [Nat.succ_mul] at h; omega)]
      rw [Nat.mod_eq_sub_mod c']
theorem lp_mod (g : List Nat) (n : Nat) : lp g (n % g.length) = lp g n := by
  unfold lp
  rw [Nat.mod_mod]
theorem lp_add (g : List Nat) (n k : Nat) : lp g (n + g.length * k) = lp g n := by
  unfold lp
  rw [Nat.add_mul_mod_self_left]
theorem lp_add1 (g : List Nat) (n : Nat) : lp g (n + g.length) = lp g n := by
  have := lp_add g n 1
  rwa [Nat.mul_one] at this
theorem lp_lt {g : List Nat} {n : Nat} (h : n < g.length) : lp g n = g.getD n 0 := by
  unfold lp
  rw [Nat.mod_eq_of_lt h]
theorem lp_rep {a : List Nat} {n : Nat} (ha : 0 < a.length) (hn : 0 < n) (i : Nat) : lp (rep n a) i = lp a i := by
  unfold lp
  rw [rep_length]
  have hp : 0 < n * a.length := Nat.mul_pos hn ha
  rw [rep_getD n _ (Nat.mod_lt _ hp), Nat.mod_mul_left_mod]
/-- the least string that makes the loop, told by its length -/
structure Least (a l : List Nat) : Prop where
  pos : 0 < a.length
  k : ∃ n, 0 < n ∧ l = rep n a
  min : ∀ m, 0 < m → m < a.length → ∀ b : List Nat, b.length = m → ∀ n, l ≠ rep n b
theorem ext_getD {a b : List Nat} (h : a.length = b.length) (e : ∀ i, i < a.length → a.getD i 0 = b.getD i 0) : a = b := by
  refine List.ext_getElem h fun i h1 h2 => ?_
  have := e i h1
  rwa [getD_get h1, getD_get h2] at this
theorem rep_rep (n m : Nat) (b : List Nat) : rep n (rep m b) = rep (n * m) b := by
  induction n with
  | zero => rw [rep_zero, Nat.zero_mul, rep_zero]
  | succ n ih =>
    rw [rep_succ, ih, Nat.succ_mul, Nat.add_comm]
    induction m with
    | zero => rw [rep_zero, Nat.zero_add]; rfl
    | succ m ih2 =>
      have e : m + 1 + n * (m + 1) = (m + n * (m + 1)) + 1 := by omega
      rw [e, rep_succ, rep_succ, List.append_assoc]
      congr 1
      clear ih ih2 e
      generalize n * (m + 1) = k
      induction m with
      | zero => rw [rep_zero, Nat.zero_add]; rfl
      | succ m ih3 =>
        rw [rep_succ, List.append_assoc, ih3, show m + 1 + k = (m + k) + 1 by omega, rep_succ]
/-- a string of at most four signs with no shorter one that makes it is the same under no turn -/
theorem prim_of_least {a l : List Nat} (h : Least a l) (h4 : a.length ≤ 4) : Prim a := by
  obtain ⟨n, hn, hl⟩ := h.k
  have no : ∀ m, 0 < m → m < a.length → ∀ b : List Nat, b.length = m → ∀ k, a ≠ rep k b := by
    intro m m0 m1 b hb k e
    exact h.min m m0 m1 b hb (n * k) (by rw [hl, e, rep_rep])
  clear hl hn
  have hp := h.pos
  clear h
  intro m m0 m1
  refine Classical.byContradiction fun z => ?_
  have same : ∀ i, lp a i = lp a (i + m) := fun i => Classical.byContradiction fun q => z ⟨i, q⟩
  clear z
  match a, h4, hp, m1, no, same with
  | [], _, hp, _, _, _ => exact absurd hp (Nat.lt_irrefl _)
  | [x], _, _, m1, _, _ => exact absurd m1 (by simp; omega)
  | [x, y], _, _, m1, no, same =>
    have : m = 1 := by simp at m1; omega
    subst this
    have e0 : x = y := by have q := same 0; simpa [lp] using q
    subst e0
    exact no 1 (by decide) (by simp) [x] rfl 2 rfl
  | [x, y, u], _, _, m1, no, same =>
    have : m = 1 ∨ m = 2 := by simp at m1; omega
    rcases this with rfl | rfl
    · have e0 : x = y := by have q := same 0; simpa [lp] using q
      have e1 : y = u := by have q := same 1; simpa [lp] using q
      subst e0 e1
      exact no 1 (by decide) (by simp) [x] rfl 3 rfl
    · have e0 : x = u := by have q := same 0; simpa [lp] using q
      have e1 : y = x := by have q := same 1; simpa [lp] using q
      subst e0 e1
      exact no 1 (by decide) (by simp) [y] rfl 3 rfl
  | [x, y, u, v], _, _, m1, no, same =>
    have : m = 1 ∨ m = 2 ∨ m = 3 := by simp at m1; omega
    rcases this with rfl | rfl | rfl
    · have e0 : x = y := by have q := same 0; simpa [lp] using q
      have e1 : y = u := by have q := same 1; simpa [lp] using q
      have e2 : u = v := by have q := same 2; simpa [lp] using q
      subst e0 e1 e2
      exact no 1 (by decide) (by simp) [x] rfl 4 rfl
    · have e0 : x = u := by have q := same 0; simpa [lp] using q
      have e1 : y = v := by have q := same 1; simpa [lp] using q
      subst e0 e1
      exact no 2 (by decide) (by simp) [x, y] rfl 2 rfl
    · have e0 : x = v := by have q := same 0; simpa [lp] using q
      have e1 : y = x := by have q := same 1; simpa [lp] using q
      have e2 : u = y := by have q := same 2; simpa [lp] using q
      subst e0 e1 e2
      exact no 1 (by decide) (by simp) [u] rfl 4 rfl
  | _ :: _ :: _ :: _ :: _ :: _, h4, _, _, _, _ => exact absurd h4 (by simp)
/-- the loop's place from which it goes on when so many signs of the head are taken back -/
structure Back (many : Nat) (h a : List Nat) : Prop where
  le : many ≤ h.length
  same : ∀ i, i < many → h.getD (h.length - 1 - i) 0 = a.getD (a.length - 1 - i % a.length) 0
  stop : many < h.length → h.getD (h.length - 1 - many) 0 ≠ a.getD (a.length - 1 - many % a.length) 0
/-- the place (-many) % p -/
def back (many p : Nat) : Nat := (p - many % p) % p
def turned (at_ : Nat) (a : List Nat) : List Nat := a.drop at_ ++ a.take at_
theorem turned_length {at_ : Nat} {a : List Nat} (h : at_ ≤ a.length) : (turned at_ a).length = a.length := by
  unfold turned
  rw [List.length_append, List.length_drop, List.length_take]
  omega
theorem turned_lp {at_ : Nat} {a : List Nat} (h : at_ < a.length) (i : Nat) : lp (turned at_ a) i = lp a (at_ + i) := by
  have hl := turned_length (Nat.le_of_lt h)
  unfold lp
  rw [hl]
  have hp : 0 < a.length := Nat.lt_of_le_of_lt (Nat.zero_le _) h
  have hi := Nat.mod_lt i hp
  rw [Nat.add_mod, Nat.mod_eq_of_lt h]
  generalize i % a.length = j at hi
  unfold turned
  by_cases c : j < a.length - at_
  · rw [getD_appL (by rw [List.length_drop]; exact c), Nat.mod_eq_of_lt (by omega)]
    rw [List.getD_eq_getElem?_getD, List.getElem?_drop, ← List.getD_eq_getElem?_getD]
  · rw [getD_appR (by rw [List.length_drop]; omega), List.length_drop]
    have e : (at_ + j) % a.length = at_ + j - a.length := by
      rw [Nat.mod_eq_sub_mod (by omega), Nat.mod_eq_of_lt (by omega)]
    rw [e, List.getD_eq_getElem?_getD, List.getElem?_take_of_lt (by omega), ← List.getD_eq_getElem?_getD]
    congr 1
    omega
theorem back_lt {many p : Nat} (hp : 0 < p) : back many p < p := Nat.mod_lt _ hp
theorem back_add {many p : Nat} (hp : 0 < p) : (back many p + many) % p = 0 := by
  unfold back
  have h1 := Nat.mod_lt many hp
  rw [Nat.add_mod, Nat.mod_mod]
  by_cases c : many % p = 0
  · rw [c, Nat.sub_zero, Nat.mod_self]
    rfl
  · rw [Nat.mod_eq_of_lt (a := p - many % p) (by omega), Nat.sub_add_cancel (Nat.le_of_lt h1), Nat.mod_self]
theorem lp_back {a : List Nat} {many : Nat} (hp : 0 < a.length) (n : Nat) : lp a (back many a.length + many + n) = lp a n := by
  unfold lp
  rw [Nat.add_mod, back_add hp, Nat.zero_add, Nat.mod_mod]
theorem getD_take {h : List Nat} {n i : Nat} (c : i < n) : (h.take n).getD i 0 = h.getD i 0 := by
  rw [List.getD_eq_getElem?_getD, List.getElem?_take_of_lt c, ← List.getD_eq_getElem?_getD]
/-- a.getD (p - 1 - i % p) is the loop at (-1 - i) -/
theorem lp_behind {a : List Nat} (hp : 0 < a.length) {i at_ : Nat} (e : (at_ + i + 1) % a.length = 0) : a.getD (a.length - 1 - i % a.length) 0 = lp a at_ := by
  unfold lp
  have h1 := Nat.mod_lt i hp
  have h2 := Nat.mod_lt at_ hp
  have e2 : (at_ % a.length + i % a.length + 1) % a.length = 0 := by
    rw [show at_ % a.length + i % a.length + 1 = at_ % a.length + (i % a.length + 1) by omega, Nat.add_mod, Nat.mod_mod, ← Nat.add_mod]
    rw [show at_ + (i % a.length + 1) = (at_ + 1) + i % a.length by omega, Nat.add_mod, Nat.mod_mod, ← Nat.add_mod, show at_ + 1 + i = at_ + i + 1 by omega]
    exact e
  generalize at_ % a.length = x at *
  generalize i % a.length = y at *
  have : x + y + 1 = a.length := by
    rcases Nat.lt_or_ge (x + y + 1) a.length with q | q
    · rw [Nat.mod_eq_of_lt q] at e2; omega
    · rw [Nat.mod_eq_sub_mod q, Nat.mod_eq_of_lt (by omega)] at e2; omega
  rw [show a.length - 1 - y = x by omega]
/-- what Round keeps -/
theorem norm_made {h l a : List Nat} {many : Nat} (L : Least a l) (h4 : a.length ≤ 4) (B : Back many h a) :
    Norm (h.take (h.length - many)) (turned (back many a.length) a) ∧ ∀ n, sg (h.take (h.length - many)) (turned (back many a.length) a) n = sg h l n := by
  have hp := L.pos
  have hb := back_lt (many := many) hp
  have le := B.le
  have tl := turned_length (Nat.le_of_lt hb)
  have fl : (h.take (h.length - many)).length = h.length - many := by rw [List.length_take]; omega
  have lpl : ∀ i, lp l i = lp a i := by
    obtain ⟨n, hn, rfl⟩ := L.k
    exact lp_rep hp hn
  constructor
  · refine ⟨by rw [tl]; exact hp, ?_, ?_⟩
    · intro m m0 m1
      rw [tl] at m1
      obtain ⟨i, hi⟩ := prim_of_least L h4 m m0 m1
      refine ⟨many + i, ?_⟩
      rw [turned_lp hb, turned_lp hb, ← Nat.add_assoc, lp_back hp, ← Nat.add_assoc, ← Nat.add_assoc, Nat.add_assoc _ i m, lp_back hp]
      exact hi
    · intro f0
      rw [fl] at f0 ⊢
      rw [tl, getD_take (by omega), turned_lp hb]
      have st := B.stop (by omega)
      rw [show h.length - many - 1 = h.length - 1 - many by omega]
      have e := lp_behind (a := a) hp (i := many) (at_ := back many a.length + (a.length - 1)) (by
        rw [show back many a.length + (a.length - 1) + many + 1 = (back many a.length + many) + a.length by omega, Nat.add_mod_right]
        exact back_add hp)
      rw [e] at st
      exact st
  · intro n
    unfold sg
    rw [fl]
    by_cases c : n < h.length - many
    · rw [if_pos c, if_pos (by omega), getD_take c]
    · rw [if_neg c, turned_lp hb]
      by_cases c2 : n < h.length
      · rw [if_pos c2]
        have hi : h.length - 1 - n < many := by omega
        have s := B.same _ hi
        rw [show h.length - 1 - (h.length - 1 - n) = n by omega] at s
        rw [s]
        refine (lp_behind hp ?_).symm
        rw [show back many a.length + (n - (h.length - many)) + (h.length - 1 - n) + 1 = back many a.length + many by omega]
        exact back_add hp
      · rw [if_neg c2, lpl]
        have e := lp_back (a := a) (many := many) hp (n - h.length)
        rw [show back many a.length + (n - (h.length - many)) = back many a.length + many + (n - h.length) by omega]
        exact e
theorem chain {s : Nat → Nat} {k L : Nat} : ∀ p, (∀ j, j < p → s (k + j * L) = s (k + j * L + L)) → s k = s (k + p * L)
  | 0, _ => by rw [Nat.zero_mul, Nat.add_zero]
  | p + 1, h => by
    rw [chain p fun j hj => h j (by omega), h p (by omega), Nat.succ_mul, Nat.add_assoc]
theorem sg_far {f g : List Nat} {n : Nat} (h : f.length ≤ n) : sg f g n = lp g (n - f.length) := by
  unfold sg
  rw [if_neg (by omega)]
theorem sg_last {f g : List Nat} (N : Norm f g) (h : 0 < f.length) {L : Nat} (hL : 0 < L) : sg f g (f.length - 1) ≠ sg f g (f.length - 1 + g.length * L) := by
  have hp := N.pos
  obtain ⟨M, rfl⟩ : ∃ M, L = M + 1 := ⟨L - 1, by omega⟩
  rw [sg_far (n := f.length - 1 + g.length * (M + 1)) (by rw [Nat.mul_succ]; omega)]
  rw [show f.length - 1 + g.length * (M + 1) - f.length = (g.length - 1) + g.length * M by rw [Nat.mul_succ]; omega, lp_add]
  unfold sg
  rw [if_pos (by omega)]
  exact N.last h
/-- in a window of 40: no shorter head -/
theorem no_head {f g : List Nat} (N : Norm f g) (f8 : f.length ≤ 8) (g4 : g.length ≤ 4) {size L : Nat} (hs : size < f.length) (l0 : 0 < L) (l8 : L ≤ 8) (w : ∀ k, size ≤ k → k < 40 - L → sg f g k = sg f g (k + L)) : False := by
  refine sg_last N (by omega) l0 (chain g.length fun j hj => ?_)
  have : (j + 1) * L ≤ 4 * 8 := Nat.mul_le_mul (by omega) l8
  have e : (j + 1) * L = j * L + L := Nat.succ_mul j L
  exact w _ (by omega) (by omega)
theorem no_loop {f g : List Nat} (N : Norm f g) (f8 : f.length ≤ 8) (g4 : g.length ≤ 4) {L : Nat} (l0 : 0 < L) (l8 : L < g.length) (w : ∀ k, f.length ≤ k → k < 40 - L → sg f g k = sg f g (k + L)) : False := by
  obtain ⟨i, hi⟩ := N.prim L l0 l8
  refine hi ?_
  have hm := Nat.mod_lt i N.pos
  have e := w (f.length + i % g.length) (by omega) (by omega)
  rw [sg_far (by omega), sg_far (by omega), show f.length + i % g.length - f.length = i % g.length by omega, show f.length + i % g.length + L - f.length = i % g.length + L by omega, lp_mod] at e
  rw [e]
  unfold lp
  rw [Nat.mod_add_mod]
theorem hits {f g : List Nat} {k : Nat} (h : f.length ≤ k) : sg f g k = sg f g (k + g.length) := by
  rw [sg_far h, sg_far (by omega), show k + g.length - f.length = (k - f.length) + g.length by omega, lp_add1]
/-- of two normal forms of one row the heads are equally long -/
theorem head_le {f g f2 g2 : List Nat} (N2 : Norm f2 g2) (p : 0 < g.length) (e : ∀ n, sg f2 g2 n = sg f g n) : f2.length ≤ f.length := by
  refine Classical.byContradiction fun c => ?_
  refine sg_last N2 (by omega) p ?_
  rw [e, e, Nat.mul_comm]
  have : ∀ j, sg f g (f2.length - 1) = sg f g (f2.length - 1 + j * g.length) := by
    intro j
    refine chain (s := sg f g) j fun i _ => hits (by omega)
  rw [this g2.length, Nat.mul_comm]
theorem sg_map_head {f g : List Nat} {n : Nat} (h : n ≤ f.length) : (List.range n).map (sg f g) = f.take n := by
  refine ext_getD (by rw [List.length_map, List.length_range, List.length_take]; omega) fun i hi => ?_
  rw [List.length_map, List.length_range] at hi
  rw [getD_take hi, List.getD_eq_getElem?_getD, List.getElem?_map, List.getElem?_range hi]
  show sg f g i = _
  unfold sg
  rw [if_pos (by omega)]
/-- the first signs, as they are told -/
theorem first_signs {f g : List Nat} {t n : Nat} (hp : 0 < g.length) (h : n ≤ f.length + t * g.length) : (f ++ rep t g).take n = (List.range n).map (sg f g) := by
  have hl : (f ++ rep t g).length = f.length + t * g.length := by rw [List.length_append, rep_length]
  refine ext_getD (by rw [List.length_map, List.length_range, List.length_take, hl]; omega) fun i hi => ?_
  rw [List.length_take, hl] at hi
  have hi2 : i < n := by omega
  rw [getD_take hi2, List.getD_eq_getElem?_getD (l := List.map _ _), List.getElem?_map, List.getElem?_range hi2]
  show _ = sg f g i
  unfold sg
  by_cases c : i < f.length
  · rw [if_pos c, getD_appL c]
  · rw [if_neg c, getD_appR (by omega), rep_getD t _ (by omega)]
    rfl
theorem map_range_take (s : Nat → Nat) {n m : Nat} (h : m ≤ n) : ((List.range n).map s).take m = (List.range m).map s := by
  rw [← List.map_take, List.take_range, Nat.min_eq_left h]
/-- the piece of the line that is the loop -/
theorem loop_piece {f g : List Nat} {n : Nat} (h : f.length + g.length ≤ n) : (((List.range n).map (sg f g)).drop f.length).take g.length = g := by
  refine ext_getD (by rw [List.length_take, List.length_drop, List.length_map, List.length_range]; omega) fun i hi => ?_
  rw [List.length_take, List.length_drop, List.length_map, List.length_range] at hi
  rw [getD_take (by omega), List.getD_eq_getElem?_getD, List.getElem?_drop, List.getElem?_map, List.getElem?_range (by omega)]
  show sg f g (f.length + i) = _
  rw [sg_far (by omega), show f.length + i - f.length = i by omega, lp_lt (by omega)]
theorem head_piece {f g : List Nat} {n : Nat} (h : f.length ≤ n) : ((List.range n).map (sg f g)).take f.length = f := by
  rw [map_range_take _ h, sg_map_head (Nat.le_refl _), List.take_length]
/-- the same row with a turn of the loop in its head -/
theorem sg_longer {h l : List Nat} (hp : 0 < l.length) {t : Nat} (ht : 0 < t) (n : Nat) : sg (h ++ l) (rep t l) n = sg h l n := by
  unfold sg
  rw [List.length_append]
  by_cases c : n < h.length
  · rw [if_pos c, if_pos (by omega), getD_appL c]
  · rw [if_neg c]
    by_cases c2 : n < h.length + l.length
    · rw [if_pos c2, getD_appR (by omega), lp_lt (by omega)]
    · rw [if_neg c2, lp_rep hp ht, ← lp_add1 l, show n - (h.length + l.length) + l.length = n - h.length by omega]
end Rw

namespace Hx
open PySem PySem.Spec PyProof.Rows L2
section
variable {X : Cx} {CX : CXT} {k : Nat} {f : Addr} {sp : Sp} {E : XK} {x : Str} {e : Expr} {es : List Expr} {t : TA} {p pos : Pos}
/-- x(e, ..), x a def of the module with a star -/
theorem pe_callR (F : FnR X.prog X.w X.K X.mg X.base CX k f sp) (hr : Room k X.A) (hk : PySem.W.keepIn X.K (.ref f) = true) (hg : Gl X x) (hm : X.mg x = some (.ref f)) (hx : Passes CX X E) (ha : PA X (e :: es) t) (hd : (x == ("__debug__" : Str)) = false := by decide)
    (he : starEach (e :: es) X.env = (false, eval e X.env) :: starEach es X.env := by rfl) (hpl : (backTo pos (starEach es X.env)).any (·.1) = false := by rfl) :
    PE X (.Call (.Name x p) (e :: es) [] pos) (fun σ H Q => t σ H fun vs H1 => sp vs H1 Q E) := by
  refine ⟨fun pins s σ H Q I h => ?_⟩
  refine wpAny_Call_Name_kw (ld_glob I hg hm ?_ hd)
  refine PySem.W.callWith_K (h₀ := X.base) I.ok.mod.kin hk (thn (ha.run pos pins s σ H _ I h) fun us s1 ⟨vs, H1, I1, r, q⟩ => ⟨I1.kIn, ?_⟩) he hpl
  exact wpAny_call (run_fnR F hr hx I1 r q)
theorem pe_callR0 (F : FnR X.prog X.w X.K X.mg X.base CX k f sp) (hr : Room k X.A) (hk : PySem.W.keepIn X.K (.ref f) = true) (hg : Gl X x) (hm : X.mg x = some (.ref f)) (hx : Passes CX X E) (hd : (x == ("__debug__" : Str)) = false := by decide) :
    PE X (.Call (.Name x p) [] [] pos) (fun σ H Q => sp [] H Q E) := by
  refine ⟨fun pins s σ H Q I h => ?_⟩
  refine wpAny_Call_Name_kw (ld_glob I hg hm ?_ hd)
  exact PySem.W.callWith_K0 I.kIn hk (wpAny_call (run_fnR F hr hx I .nil h))
theorem bind_star0 {B : List Value → Sem (List (Str × Value))} {pv : Str} (h0 : B [] = (newTuple [] >>= fun t => pure [(pv, t)])) (h1 : ∀ r rs, B (r :: rs) = (newTuple (r :: rs) >>= fun t => pure [(pv, t)])) :
    ∀ us rest : List Value, us.length = ([] : List Str).length → B (us ++ rest) = (newTuple rest >>= fun t => pure (([] : List Str).zip us ++ [(pv, t)]))
  | [], [], _ => h0
  | [], r :: rs, _ => h1 r rs
end
end Hx
namespace Mk
/-- the set of these numbers, as it is kept -/
structure IsNums (ms : List Nat) (s : Kept) : Prop where
  w : s.w = 1
  cy : s.cy = 0
  st : ∀ n, s.st.testBit n = decide (n ∈ ms)
/-- the set of b, b + p, .. -/
structure IsSteps (b p : Nat) (s : Kept) : Prop where
  w : s.w = p
  cy : s.cy = 2 ^ (b % p)
  st : ∀ n, s.st.testBit n = decide (n < b ∧ n % p = b % p)
theorem up_one (L : Nat) : up L 1 = L := by
  unfold up
  omega
theorem up_mod (L : Nat) {W : Nat} (hW : 0 < W) : up L W % W = 0 := by
  unfold up
  have hr := Nat.mod_lt L hW
  have h := Nat.div_add_mod L W
  by_cases c : L % W = 0
  · rw [c, Nat.sub_zero, Nat.mod_self, Nat.add_zero, c]
  · rw [Nat.mod_eq_of_lt (by omega : W - L % W < W)]
    rw [show L + (W - L % W) = W * (L / W + 1) by rw [Nat.mul_add, Nat.mul_one]; omega]
    exact Nat.mul_mod_right _ _
theorem told_nums (ms : List Nat) (many n : Nat) : told (ms.map fun m => (0, m)) many n = decide (n ∈ ms) := by
  unfold told
  induction ms with
  | nil => rfl
  | cons m r ih =>
    rw [List.map_cons, List.any_cons, ih, if_pos rfl]
    by_cases c : m = n
    · subst c
      simp
    · rw [decide_eq_false c, Bool.false_or]
      exact decide_eq_decide.mpr ⟨fun h => List.mem_cons_of_mem _ h, fun h => (List.mem_cons.mp h).resolve_left fun z => c z.symm⟩
theorem told_steps (b p many n : Nat) (hp : p ≠ 0) : told [(p, b)] many n = (decide (b ≤ n) && decide (n < many) && decide ((n - b) % p = 0)) := by
  unfold told
  rw [List.any_cons, List.any_nil, Bool.or_false, if_neg hp]
theorem sub_mod_zero {n b p : Nat} (h : b ≤ n) (hp : 0 < p) : (n - b) % p = 0 ↔ n % p = b % p := by
  constructor
  · intro z
    obtain ⟨k, hk⟩ := Nat.dvd_of_mod_eq_zero z
    rw [show n = b + p * k by omega, Nat.add_mul_mod_self_left]
  · intro z
    have e1 := Nat.div_add_mod n p
    have e2 := Nat.div_add_mod b p
    rw [z] at e1
    have e3 : n - b = p * (n / p) - p * (b / p) := by omega
    rw [e3, ← Nat.mul_sub]
    exact Nat.mul_mod_right _ _
/-- one bit comes not again within -/
theorem one_bit {r p q : Nat} (hr : r < p) (hq : 2 ≤ q) (hd : q ∣ p) : (2 ^ r) / 2 ^ (p / q) ≠ (2 ^ r) % 2 ^ (p - p / q) := by
  intro z
  obtain ⟨h, rfl⟩ := hd
  have hq0 : 0 < q := by omega
  rw [Nat.mul_div_cancel_left _ hq0] at z
  have h2 : 2 * h ≤ q * h := Nat.mul_le_mul_right h hq
  have bit : ∀ i, decide (r = i + h) = (decide (i < q * h - h) && decide (r = i)) := fun i => by
    have := congrArg (fun y => Nat.testBit y i) z
    simpa only [Nat.testBit_div_two_pow, Nat.testBit_mod_two_pow, Nat.testBit_two_pow] using this
  have h1 : 0 < h := by
    rcases Nat.eq_zero_or_pos h with e | e
    · subst e
      omega
    · exact e
  rcases Nat.lt_or_ge r h with c | c
  · have := bit r
    rw [decide_eq_false (by omega), decide_eq_true (by omega), decide_eq_true rfl] at this
    exact Bool.false_ne_true this
  · have := bit (r - h)
    rw [decide_eq_true (by omega), decide_eq_false (p := r = r - h) (by omega), Bool.and_false] at this
    exact Bool.false_ne_true this.symm
theorem nums_made {ms : List Nat} {L bits : Nat} {s : Kept} (hm : ∀ m ∈ ms, m < L) (hb : ∀ n, bits.testBit n = told (ms.map fun m => (0, m)) (L + 1) n) (h1 : s.w = 1) (h2 : s.cy = bits / 2 ^ L)
    (h3 : ∀ n, s.st.testBit n = Bool.xor (decide (n < L) && bits.testBit n) (decide (n < L) && (bits / 2 ^ L).testBit (n % 1))) : IsNums ms s := by
  have z : bits / 2 ^ L = 0 := by
    refine Nat.div_eq_of_lt (Nat.lt_pow_two_of_testBit bits fun i hi => ?_)
    rw [hb, told_nums]
    exact decide_eq_false fun c => by
      have := hm i c
      omega
  refine ⟨h1, by rw [h2, z], fun n => ?_⟩
  rw [h3, z, Nat.zero_testBit, Bool.and_false, Bool.xor_false, hb, told_nums]
  by_cases c : n ∈ ms
  · have := hm n c
    rw [decide_eq_true c, decide_eq_true this]
    rfl
  · rw [decide_eq_false c, Bool.and_false]
theorem steps_bits {b p S bits : Nat} (hp : 0 < p) (hS : b < S) (hS2 : S % p = 0) (hb : ∀ n, bits.testBit n = told [(p, b)] (S + p) n) : bits / 2 ^ S = 2 ^ (b % p) := by
  refine Nat.eq_of_testBit_eq fun i => ?_
  rw [Nat.testBit_div_two_pow, hb, told_steps _ _ _ _ (by omega), Nat.testBit_two_pow, decide_eq_true (by omega), Bool.true_and]
  have hr := Nat.mod_lt b hp
  rw [Bool.eq_iff_iff, Bool.and_eq_true_iff, decide_eq_true_eq, decide_eq_true_eq, decide_eq_true_eq, sub_mod_zero (by omega) hp]
  have e : (i + S) % p = i % p := by
    rw [Nat.add_mod, hS2, Nat.add_zero, Nat.mod_mod]
  rw [e]
  constructor
  · rintro ⟨h, z⟩
    rw [Nat.mod_eq_of_lt (by omega)] at z
    exact z.symm
  · intro z
    subst z
    exact ⟨by omega, Nat.mod_mod _ _⟩
theorem steps_made {b p S bits : Nat} {s : Kept} (hp : 0 < p) (hS : b < S) (hS2 : S % p = 0) (hb : ∀ n, bits.testBit n = told [(p, b)] (S + p) n) (h1 : s.w = p) (h2 : s.cy = bits / 2 ^ S)
    (h3 : ∀ n, s.st.testBit n = Bool.xor (decide (n < S) && bits.testBit n) (decide (n < S) && (bits / 2 ^ S).testBit (n % p))) : IsSteps b p s := by
  have z := steps_bits hp hS hS2 hb
  refine ⟨h1, by rw [h2, z], fun n => ?_⟩
  rw [h3, z, hb, told_steps _ _ _ _ (by omega), Nat.testBit_two_pow]
  by_cases c : n < S
  · rw [decide_eq_true c, Bool.true_and, Bool.true_and, decide_eq_true (p := n < S + p) (by omega), Bool.and_true]
    by_cases d : b ≤ n
    · have e : decide ((n - b) % p = 0) = decide (b % p = n % p) := decide_eq_decide.mpr ((sub_mod_zero d hp).trans ⟨fun x => x.symm, fun x => x.symm⟩)
      rw [decide_eq_true d, Bool.true_and, e, Bool.xor_self, decide_eq_false (by omega)]
    · rw [decide_eq_false d, Bool.false_and, Bool.false_xor]
      exact decide_eq_decide.mpr ⟨fun x => ⟨by omega, x.symm⟩, fun x => x.2.symm⟩
  · rw [decide_eq_false c, Bool.false_and, Bool.false_and, Bool.xor_self, decide_eq_false (by omega)]
end Mk

namespace Mk
/-- a set made of bits, a start and a width -/
structure Means (bits start width : Nat) (s : Kept) : Prop where
  good : s.Good
  w : s.w ∣ width
  st : len s.st ≤ start
  low : ∀ n, n < start → s.mem n = bits.testBit n
  far : ∀ n, start ≤ n → s.mem n = bits.testBit (start + n % width)
theorem means_of {bits start width w x : Nat} (w0 : 0 < width) (sd : width ∣ start) (hb : bits < 2 ^ (start + width)) (L : Least (rep (bits / 2 ^ start) width) w) (wd : w ∣ width) (T : Tiled x (bits / 2 ^ start % 2 ^ w) w start) :
    Means bits start width ⟨w, bits / 2 ^ start % 2 ^ w, bits % 2 ^ start ^^^ x⟩ := by
  have wle := Nat.le_of_dvd w0 wd
  have wp := L.pos
  have rp : ∀ n, rep (bits / 2 ^ start) width n = rep (bits / 2 ^ start % 2 ^ w) w n := fun n => rep_low L.sh wp wle n
  have lst : (bits % 2 ^ start ^^^ x) < 2 ^ start := Nat.xor_lt_two_pow (Nat.mod_lt _ (Nat.two_pow_pos _)) T.lt
  have ll := len_le lst
  refine ⟨⟨?_, Nat.mod_lt _ (Nat.two_pow_pos _)⟩, wd, ll, fun n hn => ?_, fun n hn => ?_⟩
  · have e : rep (bits / 2 ^ start) width = rep (bits / 2 ^ start % 2 ^ w) w := funext rp
    show Least (rep (bits / 2 ^ start % 2 ^ w) w) w
    rw [← e]
    exact L
  · show Bool.xor ((bits / 2 ^ start % 2 ^ w).testBit (n % w)) ((bits % 2 ^ start ^^^ x).testBit n) = _
    rw [Nat.testBit_xor, T n]
    generalize (bits / 2 ^ start % 2 ^ w).testBit (n % w) = c
    rw [Nat.testBit_mod_two_pow, decide_eq_true hn, Bool.true_and, Bool.true_and]
    cases c <;> cases bits.testBit n <;> rfl
  · have e1 : Kept.mem ⟨w, bits / 2 ^ start % 2 ^ w, bits % 2 ^ start ^^^ x⟩ n = rep (bits / 2 ^ start % 2 ^ w) w n := Kept.mem_rep (by show len (bits % 2 ^ start ^^^ x) ≤ n; omega)
    rw [e1, ← rp]
    unfold rep
    rw [Nat.testBit_div_two_pow, Nat.add_comm]
theorem Means.from {bits start width : Nat} {s : Kept} (M : Means bits start width s) : s.From start width := fun n hn => by
  rw [M.far _ (by omega), M.far _ hn, Nat.add_mod_right]
/-- what a frame gives of each operand -/
theorem far_bit {s : Kept} (G : s.Good) {start width : Nat} (sd : width ∣ start) (wd : s.w ∣ width) (ll : len s.st ≤ start) {n : Nat} (hn : start ≤ n) : s.mem (start + n % width) = s.mem n := by
  have w0 := G.least.pos
  rw [Kept.mem_rep (by omega), Kept.mem_rep (by omega)]
  unfold rep
  obtain ⟨k, rfl⟩ := sd
  rw [Nat.add_mod, Nat.mod_mod_of_dvd n wd, Nat.mod_eq_zero_of_dvd (Nat.dvd_trans wd (Nat.dvd_mul_right width k)), Nat.zero_add, Nat.mod_mod]
theorem nums_good {ms : List Nat} {s : Kept} (h : IsNums ms s) : s.Good := by
  have hw := h.w
  have hc := h.cy
  refine ⟨⟨by omega, by rw [hw]; intro n; unfold rep; rw [Nat.mod_one, Nat.mod_one], fun d _ _ => by rw [hw]; exact Nat.one_dvd d⟩, ?_⟩
  rw [hc]
  exact Nat.two_pow_pos _
theorem steps_good {b p : Nat} {s : Kept} (hp : 0 < p) (h : IsSteps b p s) : s.Good := by
  have hw := h.w
  have hc := h.cy
  have lt : s.cy < 2 ^ s.w := by
    rw [hc, hw]
    exact (Nat.pow_lt_pow_iff_right (by decide)).mpr (Nat.mod_lt b hp)
  refine ⟨⟨by omega, rep_sh _ _, fun d d0 hd => ?_⟩, lt⟩
  have hg := (rep_sh s.cy s.w).gcd hd
  have g1 : Nat.gcd s.w d ∣ s.w := Nat.gcd_dvd_left _ _
  have g2 : Nat.gcd s.w d ∣ d := Nat.gcd_dvd_right _ _
  generalize Nat.gcd s.w d = g at hg g1 g2
  have g0 : 0 < g := Nat.pos_of_dvd_of_pos g1 (by omega)
  obtain ⟨k, hk⟩ := g1
  by_cases c : k = 1
  · rw [hk, c, Nat.mul_one]
    exact g2
  · have k0 : k ≠ 0 := fun z => by
      rw [z] at hk
      omega
    have e := (sh_iff lt g0 ⟨k, hk⟩ (by omega)).mpr hg
    rw [hc] at e
    have eg : s.w / k = g := by rw [hk, Nat.mul_div_cancel _ (by omega)]
    refine (one_bit (r := b % p) (p := s.w) (q := k) (by rw [hw]; exact Nat.mod_lt b hp) (by omega) ⟨g, by rw [hk, Nat.mul_comm]⟩ ?_).elim
    rw [eg]
    exact e
end Mk
namespace Wp
open PySem PySem.Spec PyProof.Rows L2 Hx
def spInitG (C : Addr) : Sp := fun vs H Q _ => ∃ (a dx : Addr) (bits start width : Nat), vs = [.ref a, .int (bits : Int), .int (start : Int), .int (width : Int)] ∧ H a = some (.ins C dx []) ∧ 1 ≤ width ∧ width ≤ 5000 ∧ start ≤ 20000 ∧ width ∣ start ∧ bits < 2 ^ (start + width) ∧
  ∀ s H', Mk.Means bits start width s → But a H H' → H' a = some (.ins C dx (flds s)) → Q .non H'
section
variable {P : Program} {w : World} {K : PySem.W.Frag} {mg : Str → Option Value} {base : Heap} {f f1 f2 f3 C : Addr} {fd fd1 fd2 fd3 : FuncData}
theorem ok_initG (F : Fun K "__init__" "Places.__init__" s_Places_init f fd) (R : Pd K mg C)
    (G1 : FnOk P w K mg base CX0 3 f1 fd1 ["pattern", "width"] spLeastG) (b1 : Binds K fd1 ["pattern", "width"] []) (k1 : PySem.W.keepIn K (.ref f1) = true) (m1 : mg "least_width" = some (.ref f1))
    (G2 : FnOk P w K mg base CX0 2 f2 fd2 ["bits", "many"] spLow) (b2 : Binds K fd2 ["bits", "many"] []) (k2 : PySem.W.keepIn K (.ref f2) = true) (m2 : mg "low" = some (.ref f2))
    (G3 : FnOk P w K mg base CX0 3 f3 fd3 ["pattern", "width", "many"] spTiled) (b3 : Binds K fd3 ["pattern", "width", "many"] []) (k3 : PySem.W.keepIn K (.ref f3) = true) (m3 : mg "tiled" = some (.ref f3)) :
    FnOk P w K mg base CX0 4 f fd ["self", "bits", "start", "width"] (spInitG C) := by
  refine F.ok scInitP (fun vs H Q E h => ?_) (fun cdv A outer s H vs Q E hr h => ?_)
  · obtain ⟨a, dx, x, y, z, rfl, _⟩ := h
    rfl
  obtain ⟨a, dx, bits, start, width, rfl, ha, w1, w2, s1, sd, bl, q⟩ := h
  have r2 := hr.mono (by decide : 2 ≤ 3)
  refine ⟨_, pss_cons (ps_set (i := 4) scInitP.nd rfl (Or.inl rfl) (pe_op op_shrN (pv 1) (pv 2)))
    (pss_cons (ps_fld (pv 0) (pe_call G1 hr rfl m1 k1 b1 .nil pass0 (pa_cons (pv 4) (pa_cons (pv 3) pa_nil))) rfl)
    (pss_cons (ps_fld (pv 0) (pe_call G2 r2 rfl m2 k2 b2 .nil pass0 (pa_cons (pv 4) (pa_cons (pe_fld (pv 0) rfl) pa_nil))) rfl)
    (pss_one (ps_fld (pv 0) (pe_op op_xor (pe_call G2 r2 rfl m2 k2 b2 .nil pass0 (pa_cons (pv 1) (pa_cons (pv 2) pa_nil)))
      (pe_call G3 hr rfl m3 k3 b3 .nil pass0 (pa_cons (pe_fld (pv 0) rfl) (pa_cons (pe_fld (pv 0) rfl) (pa_cons (pv 2) pa_nil))))) rfl)))), ?_⟩
  have lt : bits / 2 ^ start < 2 ^ width := by
    rw [Nat.pow_add, Nat.mul_comm] at bl
    exact Nat.div_lt_of_lt_mul (by rwa [Nat.mul_comm] at bl)
  refine ⟨_, rfl, _, rfl, (bits : Int), start, rfl, rfl, ?_⟩
  rw [Mk.div_ct]
  refine ⟨_, rfl, _, rfl, bits / 2 ^ start, width, rfl, w1, w2, lt, fun v H1 L vd t1 => ?_⟩
  have vle := Nat.le_of_dvd w1 vd
  refine ⟨_, rfl, a, C, dx, _, rfl, t1 _ _ ha, R.cl, R.nW, (by show 0 < 1000; decide), ?_⟩
  refine ⟨_, rfl, _, rfl, a, C, dx, _, _, rfl, upd_same, R.cl, R.nW, rfl, bits / 2 ^ start, v, rfl, by omega, ?_⟩
  refine ⟨_, rfl, a, C, dx, _, rfl, upd_same, R.cl, R.nC, (by show 1 < 1000; decide), ?_⟩
  refine ⟨_, rfl, _, rfl, bits, start, rfl, by omega, ?_⟩
  refine ⟨_, rfl, a, C, dx, _, _, rfl, upd_same, R.cl, R.nC, rfl, _, rfl, a, C, dx, _, _, rfl, upd_same, R.cl, R.nW, rfl, _, rfl, bits / 2 ^ start % 2 ^ v, v, start, rfl, L.pos, by omega, Nat.mod_lt _ (Nat.two_pow_pos _), s1, fun x T => ?_⟩
  refine ⟨_, _, rfl, rfl, ?_⟩
  dsimp only
  rw [Mk.bxor]
  refine ⟨_, rfl, a, C, dx, _, rfl, upd_same, R.cl, R.nS, (by show 2 < 1000; decide), ?_⟩
  refine q ⟨v, bits / 2 ^ start % 2 ^ v, bits % 2 ^ start ^^^ x⟩ _ (Mk.means_of w1 sd bl L vd T) ?_ upd_same
  exact (((But.of t1).upd _).upd _).upd _
end
end Wp

namespace Mk
/-- the set s tells of each place what g tells of two sets -/
structure OpOf (g : Bool → Bool → Bool) (s1 s2 s : Kept) : Prop where
  good : s.Good
  mem : ∀ n, s.mem n = g (s1.mem n) (s2.mem n)
theorem op_means {g : Bool → Bool → Bool} {s1 s2 s : Kept} {bits start width : Nat} (G1 : s1.Good) (G2 : s2.Good) (sd : width ∣ start) (d1 : s1.w ∣ width) (d2 : s2.w ∣ width) (w0 : 0 < width) (l1 : len s1.st ≤ start) (l2 : len s2.st ≤ start)
    (hb : ∀ n, bits.testBit n = (decide (n < start + width) && g (s1.mem n) (s2.mem n))) (M : Means bits start width s) : OpOf g s1 s2 s := by
  refine ⟨M.good, fun n => ?_⟩
  by_cases c : n < start
  · rw [M.low n c, hb, decide_eq_true (by omega), Bool.true_and]
  · have hm := Nat.mod_lt n w0
    rw [M.far n (by omega), hb, decide_eq_true (by omega), Bool.true_and, far_bit G1 sd d1 l1 (by omega), far_bit G2 sd d2 l2 (by omega)]
theorem bits_lt2 {bits many : Nat} {f : Nat → Bool} (hb : ∀ n, bits.testBit n = (decide (n < many) && f n)) : bits < 2 ^ many := Nat.lt_pow_two_of_testBit bits fun i hi => by
  rw [hb, decide_eq_false (by omega), Bool.false_and]
theorem full_bit (many n : Nat) : (2 ^ many - 1).testBit n = decide (n < many) := Nat.testBit_two_pow_sub_one many n
end Mk
namespace Hx
open PySem PySem.Spec PyProof.Rows L2
/-- the class at C has the operator by a def of its own, and no error comes -/
structure BinOwn0 (P : Program) (w : World) (K : PySem.W.Frag) (mg : Str → Option Value) (base : Heap) (k : Nat) (C : Addr) (op : Operator) (sp : Sp) : Prop where
  go : ∃ (g : Addr) (fd : FuncData) (ps : List Str), PySem.W.findIn K (.ref C) (PySem.dunder op.info.2) = some (some (.ref g)) ∧ PySem.W.isFn K (.ref g) = true ∧ FnOk P w K mg base CX0 k g fd ps sp ∧ Binds K fd ps []
  first : PySem.W.selfFirst K C = true
def rBin0 (P : Program) (w : World) (K : PySem.W.Frag) (mg : Str → Option Value) (base : Heap) (k : Nat) (op : Operator) : R2 := fun x y H Q => ∃ (a b C dx dy : Addr) (fs gs : List (Str × V)) (sp : Sp), x = .ref a ∧ y = .ref b ∧ H a = some (.ins C dx fs) ∧ H b = some (.ins C dy gs) ∧
  BinOwn0 P w K mg base k C op sp ∧ sp [x, y] H (fun v H' => ∃ r, v = .ref r ∧ Q (.ref r) H') E0
section
variable {X : Cx} {k : Nat} {op : Operator}
/-- x op y, both own objects of one class -/
theorem op_bin0 (hr : Room k X.A) : OpR X (binaryOp op) (rBin0 X.prog X.w X.K X.mg X.base k op) := by
  intro pins s σ H x y v u Q I rx ry h
  obtain ⟨a, b, C, dx, dy, fs, gs, sp, rfl, rfl, ha, hb, T, q⟩ := h
  cases (show v = Value.ref a from rx)
  cases (show u = Value.ref b from ry)
  obtain ⟨g, fd, ps, h1, h2, F, bb⟩ := T.go
  obtain ⟨mA, O, _⟩ := ins_get I.hok ha
  obtain ⟨od, J, _⟩ := O.look
  obtain ⟨mB, OB, _⟩ := ins_get I.hok hb
  obtain ⟨odB, JB, _⟩ := OB.look
  obtain ⟨m, hF⟩ := I.fr
  refine PySem.W.binop_K hF I.ok.mod.kin J JB.type T.first h1 h2 ?_
  refine wpAny_mono (run_below F hr I.env0 bb I (.cons rx (.cons ry .nil)) q) (fun w' s' z => ?_) fun _ _ e => e
  obtain ⟨z', H', I', rz, r', rfl, qz⟩ := z
  cases (show w' = Value.ref r' from rz)
  exact ⟨.ref r', H', I', rfl, qz⟩
end
end Hx
namespace Wp
open PySem PySem.Spec PyProof.Rows L2 Hx
def spLcm : Sp := fun vs H Q _ => ∃ x y : Nat, vs = [.int (x : Int), .int (y : Int)] ∧ 1 ≤ x ∧ 1 ≤ y ∧ x ≤ 5000 ∧ y ≤ 5000 ∧ Q (.int (Nat.lcm x y : Nat)) H
def spFrame (C : Addr) : Sp := fun vs H Q _ => ∃ (a b : Addr) (s1 s2 : Mk.Kept), vs = [.ref a, .ref b] ∧ PlAt C H a s1 ∧ PlAt C H b s2 ∧ 1 ≤ s1.w ∧ 1 ≤ s2.w ∧ s1.w ≤ 5000 ∧ s2.w ≤ 5000 ∧
  ∀ p H', Same H H' → H' p = some (.tup [.int (Mk.up (max (Mk.len s1.st) (Mk.len s2.st)) (Nat.lcm s1.w s2.w) : Nat), .int (Nat.lcm s1.w s2.w : Nat)]) → Q (.ref p) H'
def spCkP (C : Addr) : Sp := fun vs H Q _ => ∃ (a : Addr) (s : Mk.Kept), vs = [.ref a] ∧ PlAt C H a s ∧ Q .non H
def spOpp : Sp := fun vs H Q _ => ∃ x many : Nat, vs = [.int (x : Int), .int (many : Int)] ∧ many ≤ 100000 ∧ Q (.int ((x ^^^ (2 ^ many - 1) : Nat) : Int)) H
def spBinP (C : Addr) (g : Bool → Bool → Bool) : Sp := fun vs H Q _ => ∃ (a b : Addr) (s1 s2 : Mk.Kept), vs = [.ref a, .ref b] ∧ PlAt C H a s1 ∧ PlAt C H b s2 ∧ s1.Good ∧ s2.Good ∧ Nat.lcm s1.w s2.w ≤ 2000 ∧ Mk.len s1.st ≤ 5000 ∧ Mk.len s2.st ≤ 5000 ∧
  ∀ c s H', Same H H' → PlAt C H' c s → Mk.OpOf g s1 s2 s → Q (.ref c) H'
section
variable {P : Program} {w : World} {K : PySem.W.Frag} {mg : Str → Option Value} {base : Heap} {f f1 f2 f3 f4 f5 C : Addr} {fd fd1 fd2 fd3 fd4 fd5 : FuncData}
theorem scLcm : FnScope ["one", "other", "left", "right"] ["one", "other"] (defScope s_common_width) := ⟨rfl, rfl, rfl, by decide +kernel, rfl, by decide +kernel, by decide +kernel⟩
theorem ok_lcm (F : Fun K "common_width" "common_width" s_common_width f fd) : FnOk P w K mg base CX0 1 f fd ["one", "other"] spLcm := by
  refine F.ok scLcm (fun vs H Q E h => ?_) (fun cdv A outer s H vs Q E hr h => ?_)
  · obtain ⟨x, y, rfl, _⟩ := h
    rfl
  obtain ⟨x, y, rfl, x1, y1, x2, y2, q⟩ := h
  refine ⟨_, pss_cons (ps_par (i := 2) (j := 3) rfl scLcm.nd rfl rfl (by decide) rfl rfl (pa_cons (pv 0) (pa_cons (pv 1) pa_nil)) rfl)
    (pss_cons (ps_while PassesOwn.never (pt_cmpR op_gt (pv 3) pe_int (nomark _)) (pss_one (ps_par (i := 2) (j := 3) rfl scLcm.nd rfl rfl (by decide) rfl rfl (pa_cons (pv 3) (pa_cons (pe_op op_mod (pv 2) (pv 3)) pa_nil)) rfl)))
    (pss_one (ps_ret (pe_op op_fdiv (pe_op op_mul (pv 0) (pv 1)) (pv 2))))), ?_⟩
  refine ⟨_, rfl, _, rfl, ⟨_, _, rfl, ?_⟩⟩
  refine ⟨fun m σ H' => ∃ l r : Nat, σ = [some (.int (x : Int)), some (.int (y : Int)), some (.int (l : Int)), some (.int (r : Int))] ∧ H = H' ∧ 1 ≤ l ∧ l ≤ 5000 ∧ r ≤ 5000 ∧ Nat.gcd l r = Nat.gcd x y ∧ m = r, ⟨_, x, y, rfl, rfl, x1, x2, y2, rfl, rfl⟩, ?_⟩
  rintro m σ _ ⟨l, r, rfl, rfl, l1, l2, l3, hg, hm⟩
  refine ⟨_, rfl, _, _, rfl, rfl, _, rfl, ?_⟩
  refine ite2 (fun c => ?_) (fun c => ?_)
  · have r1 : 1 ≤ r := by
      have := of_decide_eq_true c
      omega
    refine ⟨fun σ H' => ∃ l' r' : Nat, σ = [some (.int (x : Int)), some (.int (y : Int)), some (.int (l' : Int)), some (.int (r' : Int))] ∧ H = H' ∧ 1 ≤ l' ∧ l' ≤ 5000 ∧ r' ≤ 5000 ∧ Nat.gcd l' r' = Nat.gcd x y ∧ r' < r, ?_, ?_⟩
    · rintro σ' H' ⟨l', r', a1, a2, a3, a4, a5, a6, a7⟩
      exact ⟨r', by omega, l', r', a1, a2, a3, a4, a5, a6, rfl⟩
    · refine ⟨_, rfl, _, rfl, _, rfl, _, _, rfl, rfl, by omega, ⟨_, _, rfl, ?_⟩⟩
      have lt := Nat.mod_lt l r1
      refine ⟨r, l % r, ?_, rfl, r1, l3, by omega, ?_, lt⟩
      · dsimp only
        rw [← Int.natCast_emod]
        rfl
      · rw [← hg, Nat.gcd_comm r (l % r), ← Nat.gcd_rec, Nat.gcd_comm]
  · have r0 : r = 0 := by
      have : ¬ (r : Int) > 0 := fun z => c (decide_eq_true z)
      omega
    subst r0
    rw [Nat.gcd_zero_right] at hg
    refine ⟨_, rfl, _, rfl, _, _, rfl, rfl, .inl ⟨by omega, by omega⟩, _, rfl, _, _, rfl, rfl, ⟨by omega, by omega⟩, ?_⟩
    dsimp only
    rw [← Int.natCast_mul, ← Int.natCast_ediv, hg]
    exact q
end
end Wp

namespace Wp
open PySem PySem.Spec PyProof.Rows L2 Hx
def spWithinN : Sp := fun vs H Q _ => ∃ i l m : Int, vs = [.int i, .int l, .int m] ∧ l ≤ i ∧ i ≤ m ∧ Q (.bl true) H
def spCkWN : Sp := fun vs H Q _ => ∃ i l m : Int, vs = [.int i, .int l, .int m] ∧ l ≤ i ∧ i ≤ m ∧ Q .non H
def spNumsB (C : Addr) : Sp := fun vs H Q _ => ∃ (pi : Addr) (ms : List Nat), vs = [.ref pi] ∧ H pi = some (.tup (nats ms)) ∧ ms.length ≤ 50 ∧ (∀ m ∈ ms, m ≤ 1000) ∧ ∀ a s H', Same H H' → PlAt C H' a s → Mk.IsNums ms s → Q (.ref a) H'
def spNums (C : Addr) : Sp := fun vs H Q E => ∃ ws rest : List V, vs = ws ++ rest ∧ ws.length = ([] : List Str).length ∧ rest.length ≤ sizeLine ∧ ∀ p, H p = Option.none → spNumsB C (ws ++ [V.ref p]) (upd H p (.tup rest)) Q E
def spSteps (C : Addr) : Sp := fun vs H Q _ => ∃ b p : Nat, vs = [.int (b : Int), .int (p : Int)] ∧ b ≤ 1000 ∧ 1 ≤ p ∧ p ≤ 12 ∧ ∀ a s H', Same H H' → PlAt C H' a s → Mk.IsSteps b p s → Q (.ref a) H'
section
variable {P : Program} {w : World} {K : PySem.W.Frag} {mg : Str → Option Value} {base : Heap} {f f1 f2 f3 C : Addr} {fd fd1 fd2 fd3 : FuncData}
theorem scIsIntN : FnScope ["value"] ["value"] (defScope s_is_integer) := ⟨rfl, rfl, rfl, by decide +kernel, rfl, by decide +kernel, by decide +kernel⟩
theorem ok_isintN (F : Fun K "is_integer" "is_integer" s_is_integer f fd) (Z : Bp mg) : FnOk P w K mg base CX0 1 f fd ["value"] spIsIntN := by
  refine F.ok scIsIntN (fun vs H Q E h => ?_) (fun cdv A outer s H vs Q E hr h => ?_)
  · obtain ⟨i, rfl, _⟩ := h
    rfl
  obtain ⟨i, rfl, q⟩ := h
  refine ⟨_, pss_one (ps_ret (pe_and (pe_callB call_isi (by rfl) Z.isinstance PyProof.Rows.boot_isinstance (pa_cons (pv 0) (pa_cons (pe_bty (T := "int") rfl Z.int (by decide +kernel)) pa_nil)))
    (pe_one (pe_not (pe_callB call_isi (by rfl) Z.isinstance PyProof.Rows.boot_isinstance (pa_cons (pv 0) (pa_cons (pe_bty (T := "bool") rfl Z.bool (by decide +kernel)) pa_nil))))))), ?_⟩
  refine ⟨_, rfl, _, _, .type "int", _, true, rfl, .ty "int", .base (.int i), kit_ty (by decide +kernel), _, rfl, iteT ?_⟩
  exact ⟨_, rfl, _, _, .type "int", _, false, rfl, .ty "bool", .base (.int i), kit_ty (by decide +kernel), _, rfl, q⟩
theorem scWithinN : FnScope ["value", "least", "most"] ["value", "least", "most"] (defScope s_is_within) := ⟨rfl, rfl, rfl, by decide +kernel, rfl, by decide +kernel, by decide +kernel⟩
theorem ok_withinN (F : Fun K "is_within" "is_within" s_is_within f fd) (GI : FnOk P w K mg base CX0 1 f1 fd1 ["value"] spIsIntN) (bI : Binds K fd1 ["value"] []) (kI : PySem.W.keepIn K (.ref f1) = true) (mI : mg "is_integer" = some (.ref f1)) :
    FnOk P w K mg base CX0 2 f fd ["value", "least", "most"] spWithinN := by
  refine F.ok scWithinN (fun vs H Q E h => ?_) (fun cdv A outer s H vs Q E hr h => ?_)
  · obtain ⟨v, l, m, rfl, _⟩ := h
    rfl
  obtain ⟨i, l, m, rfl, h1, h2, q⟩ := h
  refine ⟨_, pss_one (ps_ret (pe_and (pe_call GI hr rfl mI kI bI .nil pass0 (pa_cons (pv 0) pa_nil)) (pe_one (pe_chain op_le op_le (pv 1) (pv 0) (pv 2))))), ?_⟩
  refine ⟨_, rfl, i, rfl, _, rfl, iteT ?_⟩
  refine ⟨_, rfl, _, rfl, _, _, rfl, rfl, _, rfl, ?_⟩
  rw [decide_eq_true h1]
  refine iteT ⟨_, rfl, _, _, rfl, rfl, ?_⟩
  dsimp only
  rw [decide_eq_true h2]
  exact q
theorem scCkWN : FnScope ["given", "least", "most"] ["given", "least", "most"] (defScope s_check_within) := ⟨rfl, rfl, rfl, by decide +kernel, rfl, by decide +kernel, by decide +kernel⟩
theorem ok_ckWN (F : Fun K "check_within" "check_within" s_check_within f fd) (GI : FnOk P w K mg base CX0 2 f1 fd1 ["value", "least", "most"] spWithinN) (bI : Binds K fd1 ["value", "least", "most"] []) (kI : PySem.W.keepIn K (.ref f1) = true) (mI : mg "is_within" = some (.ref f1)) :
    FnOk P w K mg base CX0 3 f fd ["given", "least", "most"] spCkWN := by
  refine F.ok scCkWN (fun vs H Q E h => ?_) (fun cdv A outer s H vs Q E hr h => ?_)
  · obtain ⟨v, l, m, rfl, _⟩ := h
    rfl
  obtain ⟨i, l, m, rfl, h1, h2, q⟩ := h
  refine ⟨_, pss_one (ps_if (pt_not (pt_val (pe_call GI hr rfl mI kI bI .nil pass0 (pa_cons (pv 0) (pa_cons (pv 1) (pa_cons (pv 2) pa_nil)))))) (pss_one ps_dead) pss_nil), ?_⟩
  exact ⟨_, rfl, _, rfl, _, rfl, i, l, m, rfl, h1, h2, _, rfl, iteF q⟩
def NN : List Str := ["members", "member"]
theorem scNums : FnScope NN (([] : List Str) ++ [("members" : Str)]) (defScope s_numbers) := ⟨rfl, rfl, rfl, by decide +kernel, rfl, by decide +kernel, by decide +kernel⟩
theorem max_ex (a : Nat) : ∀ l : List Nat, ∃ m, IsMax m (a :: l)
  | [] => ⟨a, List.mem_cons_self, fun y hy => by rw [List.mem_singleton.mp hy]; exact Nat.le_refl _⟩
  | b :: r => by
    obtain ⟨m, h1, h2⟩ := max_ex b r
    rcases Nat.le_total a m with c | c
    · exact ⟨m, List.mem_cons_of_mem _ h1, fun y hy => by
        rcases List.mem_cons.mp hy with rfl | z
        · exact c
        · exact h2 y z⟩
    · exact ⟨a, List.mem_cons_self, fun y hy => by
        rcases List.mem_cons.mp hy with rfl | z
        · exact Nat.le_refl _
        · exact Nat.le_trans (h2 y z) c⟩
theorem PrsAt.updL {H : Hp} {D : Addr} {acc z : List V} {vs : List V} {l : List (Nat × Nat)} (hD : H D = some (.lst acc)) (h : PrsAt H vs l) : PrsAt (upd H D (.lst z)) vs l :=
  ⟨h.1, fun i v hv => (h.2 i v hv).imp fun t q => q.imp fun x r => ⟨r.1, r.2.1, by
    have n : t ≠ D := fun e => by
      have := r.2.2
      rw [e, hD] at this
      cases this
    rw [upd_ne n]
    exact r.2.2⟩⟩
theorem PrsAt.snoc {H : Hp} {vs : List V} {l : List (Nat × Nat)} {t : Addr} {x : Nat × Nat} (h : PrsAt H vs l) (ht : H t = some (.tup [V.int (x.1 : Int), V.int (x.2 : Int)])) : PrsAt H (vs ++ [V.ref t]) (l ++ [x]) := by
  refine ⟨by rw [List.length_append, List.length_append, h.1]; rfl, fun i v hv => ?_⟩
  by_cases c : i < vs.length
  · rw [List.getElem?_append_left c] at hv
    obtain ⟨t', x', a, b, d⟩ := h.2 i v hv
    exact ⟨t', x', a, by rw [List.getElem?_append_left (by rw [← h.1]; exact c)]; exact b, d⟩
  · rw [List.getElem?_append_right (by omega)] at hv
    obtain ⟨e1, e2⟩ : i - vs.length = 0 ∧ v = V.ref t := by
      cases k : i - vs.length with
      | zero =>
        rw [k] at hv
        exact ⟨rfl, (Option.some.inj hv).symm⟩
      | succ n =>
        rw [k] at hv
        cases hv
    have hl := h.1
    exact ⟨t, x, e2, by rw [List.getElem?_append_right (by omega), ← hl, e1]; rfl, ht⟩
theorem ok_nums (F : Fun K "numbers" "numbers" s_numbers f fd) {t : Tok} (mM : mg "MOST_MEMBER" = some (.int 1000 t))
    (G1 : FnOk P w K mg base CX0 3 f1 fd1 ["given", "least", "most"] spCkWN) (b1 : Binds K fd1 ["given", "least", "most"] []) (k1 : PySem.W.keepIn K (.ref f1) = true) (m1 : mg "check_within" = some (.ref f1))
    (G2 : FnOk P w K mg base CX0 6 f2 fd2 ["pairs"] (spGath C)) (b2 : Binds K fd2 ["pairs"] []) (k2 : PySem.W.keepIn K (.ref f2) = true) (m2 : mg "gathered" = some (.ref f2)) :
    FnR P w K mg base CX0 7 f (spNums C) := by
  obtain ⟨oc, od, kV, doc, pm, an, cdv, ct, osl, rfl, lk, hcd⟩ := F.ex
  refine StX.fn_star (ps := []) (pv := "members") (sp := spNumsB C) lk hcd scNums StX.cxUp_none (bind_star0 (B := fun us => bindArgs (PySem.W.fnOf "numbers" "numbers" (defArgs s_numbers) (defBody s_numbers) (defScope s_numbers) .none kV doc pm an cdv ct) ⟨us, []⟩) rfl fun r rs => rfl) fun A outer s H vs Q E hr h => ?_
  obtain ⟨pi, ms, rfl, hpi, few, hm, q⟩ := h
  have r3 := hr.mono (by decide : 3 ≤ 6)
  refine ⟨_, PSs.nox (pss_cons (ps_for PassesOwn.never rfl (pi_tup (pv 0)) (pg_name (i := 1) scNums.nd rfl (Or.inl rfl)) (pss_one (ps_expr (pe_call G1 r3 rfl m1 k1 b1 .nil pass0 (pa_cons (pv 1) (pa_cons pe_int (pa_cons (pe_gint rfl mM) pa_nil)))))))
    (pss_one (ps_ret (pe_call G2 hr rfl m2 k2 b2 .nil pass0 (pa_cons (pe_lc (own := [("member", 1)]) (g := gName 1) (tt := tYes) rfl scNums.nd (pi_tup (pv 0)) (blkOk_by (N := NN) (sc := defScope s_numbers) (by decide +kernel))
      (fun _ _ _ _ _ => pg_name (i := 1) scNums.nd rfl (Or.inl rfl)) (fun _ _ _ _ _ => pts_nil) (fun _ _ _ _ _ => pe_tup (pa_cons pe_int (pa_cons (pv 1) pa_nil)))) pa_nil))))), ?_⟩
  have len : (nats ms).length = ms.length := nats_len ms
  refine ⟨_, rfl, pi, rfl, ⟨_, SqT.of hpi⟩, for_tup (K := K) (a := pi) (xs := nats ms) (fun _ σ H' => H = H' ∧ ∃ v : Option V, σ = [some (.ref pi), v]) ⟨rfl, _, rfl⟩ (fun _ _ _ _ h => SqT.of (h.1 ▸ hpi)) ?_ ?_⟩
  · rintro i v σ _ hv ⟨rfl, u, rfl⟩
    obtain ⟨m, mm, rfl⟩ := List.mem_map.mp (List.mem_of_getElem? hv)
    have := hm m mm
    exact ⟨_, rfl, (m : Int), 0, 1000, rfl, by omega, by omega, rfl, _, rfl⟩
  rintro σ _ ⟨rfl, u, rfl⟩
  refine ⟨_, rfl, pi, rfl, ⟨_, SqT.of hpi⟩, fun D hD => ?_⟩
  refine lc_tup (K := K) (a := pi) (xs := nats ms) (fun i H' => Same H H' ∧ ∃ vs, H' D = some (.lst vs) ∧ vs.length = min i ms.length ∧ PrsAt H' vs ((ms.take i).map fun m => (0, m))) ⟨same_new hD _, [], upd_same, by simp, rfl, fun i v hv => by cases hv⟩ (fun _ _ _ h => SqT.of (h.1 _ _ hpi)) ?_ ?_
  · rintro i v H1 hv ⟨s1, vs, hD1, l1, pr⟩
    obtain ⟨m, mm, rfl⟩ := List.mem_map.mp (List.mem_of_getElem? hv)
    have hi : ms[i]? = some m := by
      unfold nats at hv
      rw [List.getElem?_map] at hv
      obtain ⟨m', h1, h2⟩ := Option.map_eq_some_iff.mp hv
      have := V.int.inj h2
      rw [h1]
      exact congrArg some (by omega)
    refine ⟨rfl, turn_yes ?_⟩
    refine ⟨_, rfl, (by show 2 ≤ sizeLine; decide), fun T hT => ?_⟩
    have hD2 := upd_other (o := .tup [V.int 0, V.int (m : Int)]) hD1 hT
    refine ⟨vs, hD2, ?_, ?_⟩
    · rw [l1, sizeLine_eq]
      omega
    have s2 := s1.trans (same_new hT (.tup [V.int 0, V.int (m : Int)]))
    refine ⟨same_at hD s2, _, upd_same, ?_, ?_⟩
    · have : i < ms.length := (List.getElem?_eq_some_iff.mp hi).1
      rw [List.length_append, l1]
      show min i ms.length + 1 = _
      omega
    · rw [List.take_succ, hi, List.map_append]
      exact PrsAt.updL hD2 (PrsAt.snoc (x := (0, m)) (pr.same (same_new hT _)) upd_same)
  · rintro H1 ⟨s1, vs, hD1, l1, pr⟩
    rw [len, List.take_length] at pr
    obtain ⟨L, mL⟩ : ∃ L, IsMax L (0 :: (ms.map fun m => (0, m)).map fun x : Nat × Nat => x.2 + 1) := max_ex _ _
    have lm : ∀ m ∈ ms, m < L := fun m mm => by
      have := mL.2 (m + 1) (List.mem_cons_of_mem _ (List.mem_map.mpr ⟨(0, m), List.mem_map.mpr ⟨m, mm, rfl⟩, rfl⟩))
      omega
    have L1 : L ≤ 10000 := by
      rcases List.mem_cons.mp mL.1 with z | z
      · omega
      · obtain ⟨x, hx, e⟩ := List.mem_map.mp z
        obtain ⟨m, mm, rfl⟩ := List.mem_map.mp hx
        have := hm m mm
        show L ≤ 10000
        have e' : m + 1 = L := e
        omega
    refine ⟨D, vs, _, 1, L, rfl, hD1, pr, by rw [List.length_map]; omega, ⟨List.mem_cons_self, fun y hy => ?_⟩, mL, by omega, L1, fun bits hb q0 q2 qd => ?_, fun bits s hb md a H2 s2 pl => ?_⟩
    · rcases List.mem_cons.mp hy with z | z
      · omega
      · obtain ⟨x, hx, e⟩ := List.mem_map.mp z
        obtain ⟨m, mm, rfl⟩ := List.mem_map.mp hx
        have e' : 0 = y := e
        omega
    · have := Nat.le_of_dvd (by decide) qd
      omega
    · rw [Mk.up_one] at hb md
      exact q a s H2 (s1.trans s2) pl (Mk.nums_made lm hb md.w md.cy md.st)
end
end Wp

namespace Wp
open PySem PySem.Spec PyProof.Rows L2 Hx
section
variable {P : Program} {w : World} {K : PySem.W.Frag} {mg : Str → Option Value} {base : Heap} {f f1 f2 f3 C : Addr} {fd fd1 fd2 fd3 : FuncData}
theorem scSteps : FnScope ["first", "step"] ["first", "step"] (defScope s_steps) := ⟨rfl, rfl, rfl, by decide +kernel, rfl, by decide +kernel, by decide +kernel⟩
theorem ok_steps (F : Fun K "steps" "steps" s_steps f fd) {t t2 : Tok} (mM : mg "MOST_MEMBER" = some (.int 1000 t)) (mS : mg "MOST_STEP" = some (.int 12 t2))
    (G1 : FnOk P w K mg base CX0 3 f1 fd1 ["given", "least", "most"] spCkWN) (b1 : Binds K fd1 ["given", "least", "most"] []) (k1 : PySem.W.keepIn K (.ref f1) = true) (m1 : mg "check_within" = some (.ref f1))
    (G2 : FnOk P w K mg base CX0 6 f2 fd2 ["pairs"] (spGath C)) (b2 : Binds K fd2 ["pairs"] []) (k2 : PySem.W.keepIn K (.ref f2) = true) (m2 : mg "gathered" = some (.ref f2)) :
    FnOk P w K mg base CX0 7 f fd ["first", "step"] (spSteps C) := by
  refine F.ok scSteps (fun vs H Q E h => ?_) (fun cdv A outer s H vs Q E hr h => ?_)
  · obtain ⟨b, p, rfl, _⟩ := h
    rfl
  obtain ⟨b, p, rfl, hb, p1, p2, q⟩ := h
  have r3 := hr.mono (by decide : 3 ≤ 6)
  refine ⟨_, pss_cons (ps_expr (pe_call G1 r3 rfl m1 k1 b1 .nil pass0 (pa_cons (pv 0) (pa_cons pe_int (pa_cons (pe_gint rfl mM) pa_nil)))))
    (pss_cons (ps_expr (pe_call G1 r3 rfl m1 k1 b1 .nil pass0 (pa_cons (pv 1) (pa_cons pe_int (pa_cons (pe_gint rfl mS) pa_nil)))))
    (pss_one (ps_ret (pe_call G2 hr rfl m2 k2 b2 .nil pass0 (pa_cons (pe_lst (pa_cons (pe_tup (pa_cons (pv 1) (pa_cons (pv 0) pa_nil))) pa_nil)) pa_nil))))), ?_⟩
  refine ⟨_, rfl, (b : Int), 0, 1000, rfl, by omega, by omega, ?_⟩
  refine ⟨_, rfl, (p : Int), 1, 12, rfl, by omega, by omega, ?_⟩
  refine ⟨_, rfl, _, rfl, (by show 2 ≤ sizeLine; decide), fun T hT => ⟨(by show 1 ≤ sizeLine; decide), fun D hD => ?_⟩⟩
  have s1 := (same_new hT (.tup [V.int (p : Int), V.int (b : Int)]))
  have s2 := same_new hD (.lst [V.ref T])
  have pr : PrsAt (upd (upd H T (.tup [V.int (p : Int), V.int (b : Int)])) D (.lst [V.ref T])) [V.ref T] [(p, b)] := by
    have z : PrsAt (upd (upd H T (.tup [V.int (p : Int), V.int (b : Int)])) D (.lst [V.ref T])) ([] ++ [V.ref T]) ([] ++ [(p, b)]) := PrsAt.snoc ⟨rfl, fun i v hv => by cases hv⟩ (s2 _ _ upd_same)
    exact z
  have p0 : 0 < p := p1
  have hS : b < Mk.up (b + 1) p := Nat.lt_of_lt_of_le (Nat.lt_succ_self b) (Nat.le_add_right _ _)
  have hS2 := Mk.up_mod (b + 1) p0
  refine ⟨D, [V.ref T], [(p, b)], p, b + 1, rfl, upd_same, pr, (by show 1 ≤ 100; decide), ⟨?_, fun y hy => ?_⟩, ⟨?_, fun y hy => ?_⟩, by omega, by omega, fun bits hb q0 q2 qd => ?_, fun bits s hb md a H2 s3 pl => ?_⟩
  · exact List.mem_cons_of_mem _ List.mem_cons_self
  · rcases List.mem_cons.mp hy with z | z
    · omega
    · have e : y = p := List.mem_singleton.mp z
      omega
  · exact List.mem_cons_of_mem _ List.mem_cons_self
  · rcases List.mem_cons.mp hy with z | z
    · omega
    · have e : y = b + 1 := List.mem_singleton.mp z
      omega
  · rw [Mk.steps_bits p0 hS hS2 hb]
    exact Mk.one_bit (Nat.mod_lt b p0) q2 qd
  · exact q a s H2 ((s1.trans s2).trans s3) pl (Mk.steps_made p0 hS hS2 hb md.w md.cy md.st)
end
end Wp

namespace Wp
open PySem PySem.Spec PyProof.Rows L2 Hx
theorem eqv_bools : ∀ a b : List Bool, PyData.eqvAll (a.map PyData.bool) (b.map PyData.bool) = decide (a = b)
  | [], [] => rfl
  | x :: xs, y :: ys => by
    show (PyData.eqv (.bool x) (.bool y) && PyData.eqvAll (xs.map PyData.bool) (ys.map PyData.bool)) = _
    rw [eqv_bools xs ys]
    have e : PyData.eqv (.bool x) (.bool y) = decide (x = y) := by cases x <;> cases y <;> rfl
    rw [e, Bool.eq_iff_iff, Bool.and_eq_true_iff, decide_eq_true_eq, decide_eq_true_eq, decide_eq_true_eq]
    exact ⟨fun ⟨h1, h2⟩ => by rw [h1, h2], fun h => List.cons.inj h⟩
  | [], _ :: _ => rfl
  | _ :: _, [] => rfl
theorem bools_lay : ∀ bs : List Bool, PyData.canLayAll0 (bs.map PyData.bool) = true ∧ PyData.depthAll (bs.map PyData.bool) = 0
  | [] => ⟨rfl, rfl⟩
  | b :: r => by
    obtain ⟨h1, h2⟩ := bools_lay r
    refine ⟨?_, ?_⟩
    · show (true && PyData.canLayAll0 (r.map PyData.bool)) = true
      rw [h1]
      rfl
    · show max 0 (PyData.depthAll (r.map PyData.bool)) = 0
      rw [h2]
      rfl
theorem shaped_bools (bs : List Bool) : SeqAt.shaped (.list (bs.map PyData.bool)) = true := by
  obtain ⟨h1, h2⟩ := bools_lay bs
  show (PyData.canLayAll0 (bs.map PyData.bool) && decide (PyData.depthAll (bs.map PyData.bool) + 1 ≤ 64)) = true
  rw [h1, h2]
  rfl
theorem dq_bools {H : Hp} : ∀ bs : List Bool, DqAll H (bs.map V.bl) (bs.map PyData.bool)
  | [] => .nil
  | b :: bs => .cons (.bl b) (dq_bools bs)
def bls (l : List Bool) : List V := l.map V.bl
/-- what the law finds of marks: places below begin, then a wheel -/
structure Shape (ml : List Bool) (begin pace start : Nat) : Prop where
  p1 : 1 ≤ pace
  p2 : pace ≤ ml.length - begin
  dv : (ml.length - begin) % pace = 0
  turn : (ml.drop begin).drop pace ++ (ml.drop begin).take pace = ml.drop begin
  lst : ∀ k, 1 ≤ k → k < pace → (ml.length - begin) % k = 0 → (ml.drop begin).drop k ++ (ml.drop begin).take k ≠ ml.drop begin
  s1 : start ≤ begin
  down : ∀ i, start ≤ i → i < begin → ml.getD i false = ml.getD (i + pace) false
  stop : 0 < start → ml.getD (start - 1) false ≠ ml.getD (start - 1 + pace) false
def shapeV (start pace : Nat) (pb pr : Addr) (ml : List Bool) (begin : Nat) : List V :=
  [.int (start : Int), .int (pace : Int), .ref pb, .ref pr, (((List.range ml.length).filter fun i => ml.getD i false).map fun i : Nat => V.int (i : Int)).headD .non, .bl (!(ml.drop begin).any id), .bl (ml.any id)]
def tPace (K : PySem.W.Frag) : TT := tAnd (tTest (tOp rEq (tOp (rI (fun _ j => 0 < j) fun i j => V.int (i % j)) (tCB (fun xs H Q => (∃ i, xs = [.int i] ∧ Q (.int i) H) ∨ ∃ k, xs = [.bl k] ∧ Q (.int (if k then 1 else 0)) H) (tCons (tVar 4) tNil)) (tVar 10)) (tC (.int 0))))
  (tTest (tOp rEqQ (tOp rCat (tSl (rSlL K) (tVar 2) (tPart (tVar 10)) tNoPart) (tSl (rSlL K) (tVar 2) tNoPart (tPart (tVar 10)))) (tVar 2)))
def spShape (K : PySem.W.Frag) : Sp := fun vs H Q _ => ∃ (a : Addr) (ml : List Bool) (begin : Nat), vs = [.ref a, .int (begin : Int)] ∧ SqL K H a (bls ml) ∧ begin < ml.length ∧ ml.length ≤ 3000 ∧
  ∀ pace start, Shape ml begin pace start → ∀ p pb pr H', Same H H' → H' p = some (.lst (shapeV start pace pb pr ml begin)) → H' pb = some (.tup (nats ((List.range start).filter fun i => ml.getD i false))) →
    H' pr = some (.tup (nats ((List.range pace).filter fun i => ml.getD (start + i) false))) → Q (.ref p) H'
end Wp

namespace Wp
open PySem PySem.Spec PyProof.Rows L2 Hx
theorem name_seq {i : Nat} {x : V} {t u : TS} {D : Ends} {r : VK} {b e : L2.St → Hp → Prop} {σ : L2.St} {H : Hp} (h : tSeq t u D (σ.set i (some x)) H) : gName i x σ H (Ends.nx { nx := tSeq t u D, rt := r, bk := b, ct := e }) := h
theorem cutV_from (xs : List V) (k : Nat) : cutV xs (some (k : Int)) none = xs.drop k := by
  unfold cutV
  rw [HT.sIx_nat, HT.sIx_none]
  rcases Nat.le_total k xs.length with c | c
  · rw [Nat.min_eq_left c, List.take_of_length_le (by rw [List.length_drop]; exact Nat.le_refl _)]
  · rw [Nat.min_eq_right c, List.drop_eq_nil_of_le c, List.drop_eq_nil_of_le (Nat.le_refl _), List.take_nil]
theorem cutV_to (xs : List V) (k : Nat) : cutV xs none (some (k : Int)) = xs.take k := by
  unfold cutV
  rw [HT.sIx_nat, HT.sIx_none, List.drop_zero, Nat.sub_zero]
  rcases Nat.le_total k xs.length with c | c
  · rw [Nat.min_eq_left c]
  · rw [Nat.min_eq_right c, List.take_of_length_le (Nat.le_refl _), List.take_of_length_le c]
theorem lc_filt {lo n i0 : Nat} {tt : TT} {vs : List Nat} {σ : L2.St} {H1 : Hp} {D : Addr} {Qd : Hp → Prop} (fb : Nat → Bool) (hD : H1 D = none) (hn : n ≤ 5000) (hw : ∀ x : V, wipe ((wipe σ vs).set i0 (some x)) vs = wipe σ vs)
    (hv : ∀ x : V, ((wipe σ vs).set i0 (some x))[i0]? = some (some x))
    (ht : ∀ i H' (R : Bool → Hp → Prop), i < n → Same H1 H' → (∀ H2, Same H' H2 → R (fb (lo + i)) H2) → tt ((wipe σ vs).set i0 (some (.int ((lo + i : Nat) : Int)))) H' R)
    (hd : ∀ H', Same H1 H' → H' D = some (.lst (nats (((List.range n).map (lo + ·)).filter fb))) → Qd H') :
    ∃ W : Nat → Nat → Hp → Prop, (∃ m, W 0 m (upd H1 D (.lst []))) ∧ ∀ i m H, W i m H →
      ((Itr (lo : Int) n).stop i H ∧ Qd H) ∨ ((Itr (lo : Int) n).go i H ∧ ∃ Nx : Hp → Prop, (∀ H', Nx H' → ∃ m', m' < m ∧ W (i + 1) m' H') ∧ ∀ x H', (Itr (lo : Int) n).yld i H x H' → gName i0 x (wipe σ vs) H' fun σ2 H2 => wipe σ2 vs = wipe σ vs ∧ tt σ2 H2 fun b H3 =>
        if b = true then tVar i0 σ2 H3 fun y H4 => ∃ acc, H4 D = some (.lst acc) ∧ acc.length < sizeLine ∧ Nx (upd H4 D (.lst (acc ++ [y]))) else Nx H3) := by
  refine lc_range (lo := (lo : Int)) (n := n) (fun i H' => Same H1 H' ∧ H' D = some (.lst (nats (((List.range i).map (lo + ·)).filter fb)))) ⟨same_new hD _, upd_same⟩ ?_ ?_
  · rintro i H' hi ⟨s1, hD1⟩
    have e : (lo : Int) + (i : Int) = ((lo + i : Nat) : Int) := by omega
    rw [e]
    refine ⟨hw _, ht i H' _ hi s1 fun H2 s2 => ?_⟩
    have hD2 := s2 _ _ hD1
    have sn : ((List.range (i + 1)).map (lo + ·)).filter fb = ((List.range i).map (lo + ·)).filter fb ++ (if fb (lo + i) then [lo + i] else []) := by
      rw [List.range_succ, List.map_append, List.filter_append]
      cases b : fb (lo + i) <;> simp [b]
    rw [sn]
    cases b : fb (lo + i) with
    | false => exact iteF ⟨s1.trans s2, by rw [if_neg Bool.false_ne_true, List.append_nil]; exact hD2⟩
    | true =>
      refine iteT ⟨_, hv _, _, hD2, ?_, same_at hD (s1.trans s2), ?_⟩
      · rw [nats_len, sizeLine_eq]
        have := List.length_filter_le fb ((List.range i).map (lo + ·))
        rw [List.length_map, List.length_range] at this
        omega
      · rw [upd_same, if_pos rfl]
        unfold nats
        rw [List.map_append]
        rfl
  · rintro H' ⟨s1, hD1⟩
    exact hd H' s1 hD1
theorem first_of (fb : Nat → Bool) (lo : Nat) : ∀ n, (∃ i, i < n ∧ fb (lo + i) = true) → ∃ i r, i < n ∧ ((List.range n).map (lo + ·)).filter fb = (lo + i) :: r ∧ fb (lo + i) = true ∧ ∀ j, j < i → fb (lo + j) = false
  | 0, h => by
    obtain ⟨i, hi, _⟩ := h
    omega
  | n + 1, h => by
    have sn : ((List.range (n + 1)).map (lo + ·)).filter fb = ((List.range n).map (lo + ·)).filter fb ++ (if fb (lo + n) then [lo + n] else []) := by
      rw [List.range_succ, List.map_append, List.filter_append]
      cases b : fb (lo + n) <;> simp [b]
    by_cases c : ∃ i, i < n ∧ fb (lo + i) = true
    · obtain ⟨i, r, h1, h2, h3, h4⟩ := first_of fb lo n c
      exact ⟨i, _, by omega, by rw [sn, h2, List.cons_append], h3, h4⟩
    · have no : ∀ j, j < n → fb (lo + j) = false := fun j hj => by
        cases b : fb (lo + j) with
        | false => rfl
        | true => exact (c ⟨j, hj, b⟩).elim
      obtain ⟨i, hi, hb⟩ := h
      have e : i = n := by
        rcases Nat.lt_or_ge i n with z | z
        · rw [no i z] at hb
          cases hb
        · omega
      subst e
      refine ⟨i, [], by omega, ?_, hb, no⟩
      rw [sn, if_pos hb]
      have z : ((List.range i).map (lo + ·)).filter fb = [] := by
        rw [List.filter_eq_nil_iff]
        intro x hx
        obtain ⟨j, hj, rfl⟩ := List.mem_map.mp hx
        rw [no j (List.mem_range.mp hj)]
        exact Bool.false_ne_true
      rw [z]
      rfl
theorem bls_at {l : List Bool} {i : Nat} (h : i < l.length) : (bls l)[i]? = some (.bl (l.getD i false)) := by
  unfold bls
  rw [List.getElem?_map, List.getElem?_eq_getElem h, List.getD_eq_getElem?_getD, List.getElem?_eq_getElem h]
  rfl
theorem in_bls : ∀ l : List Bool, inV (.bl true) (bls l) = l.any id
  | [] => rfl
  | b :: r => by
    have := in_bls r
    unfold inV bls at this ⊢
    rw [List.map_cons, List.any_cons, List.any_cons, this]
    cases b <;> rfl
theorem flat_bls (l : List Bool) : (bls l).all flatV = true := by
  unfold bls
  rw [List.all_map, List.all_eq_true]
  intro b _
  cases b <;> rfl
theorem any_head (ml : List Bool) : (!decide ((nats ((List.range ml.length).filter fun i => ml.getD i false)).headD .non = .non)) = ml.any id := by
  cases hl : (List.range ml.length).filter fun i => ml.getD i false with
  | nil =>
    show (!decide (V.non = V.non)) = _
    rw [decide_eq_true rfl]
    symm
    show ml.any id = false
    rw [List.any_eq_false]
    intro x hx
    obtain ⟨i, hi, e⟩ := List.getElem_of_mem hx
    have := List.filter_eq_nil_iff.mp hl i (List.mem_range.mpr hi)
    rw [List.getD_eq_getElem?_getD, List.getElem?_eq_getElem hi, e] at this
    exact this
  | cons x r =>
    have hx : x ∈ (List.range ml.length).filter fun i => ml.getD i false := by rw [hl]; exact List.mem_cons_self
    obtain ⟨h1, h2⟩ := List.mem_filter.mp hx
    have hi := List.mem_range.mp h1
    show (!decide (V.int (x : Int) = V.non)) = _
    rw [decide_eq_false (fun z => by cases z)]
    symm
    show ml.any id = true
    rw [List.any_eq_true]
    refine ⟨_, List.getElem_mem hi, ?_⟩
    rw [List.getD_eq_getElem?_getD, List.getElem?_eq_getElem hi] at h2
    exact h2
theorem head_at (l : List Nat) : atI (nats l ++ [V.non]) 0 = some ((nats l).headD .non) := by
  cases l with
  | nil => exact atI_nat (j := 0) rfl
  | cons x r => exact atI_nat (j := 0) rfl
end Wp

namespace Wp
open PySem PySem.Spec PyProof.Rows L2 Hx
section
variable {P : Program} {w : World} {K : PySem.W.Frag} {mg : Str → Option Value} {base : Heap} {f f1 f2 f3 C : Addr} {fd fd1 fd2 fd3 : FuncData}
def NS : List Str := ["_law_marks", "_law_begin", "_law_wheel", "_law_start", "_law_size", "_law_pace", "_law_turn", "_law_below", "_law_rests", "_law_found", "_law_k", "_law_spot"]
end
end Wp

namespace Wp
open PySem PySem.Spec PyProof.Rows L2 Hx
def spNumsL (C : Addr) : Sp := fun vs H Q _ => ∃ (p : Addr) (ms : List Nat), vs = [.ref p] ∧ H p = some (.lst (nats ms)) ∧ ms.length ≤ 4 ∧ (∀ m ∈ ms, m ≤ 1000) ∧ ∀ a s H', Same H H' → PlAt C H' a s → Mk.IsNums ms s → Q (.ref a) H'
theorem nums_call {C : Addr} {ms : List Nat} {H : Hp} {Q : VK} {E : XK} (few : ms.length ≤ 50) (hm : ∀ m ∈ ms, m ≤ 1000) (q : ∀ a s H', Same H H' → PlAt C H' a s → Mk.IsNums ms s → Q (.ref a) H') : spNums C (nats ms) H Q E := by
  refine ⟨[], nats ms, rfl, rfl, by rw [nats_len, sizeLine_eq]; omega, fun pi hpi => ⟨pi, ms, rfl, upd_same, few, hm, fun a s H' s1 pl is => q a s H' ((same_new hpi _).trans s1) pl is⟩⟩
theorem dq_nats {H : Hp} : ∀ l : List Nat, DqAll H (nats l) (l.map fun n : Nat => PyData.int (n : Int))
  | [] => .nil
  | n :: r => .cons (.int _) (dq_nats r)
section
variable {P : Program} {w : World} {K : PySem.W.Frag} {mg : Str → Option Value} {base : Heap} {f f1 f2 f3 C : Addr} {fd fd1 fd2 fd3 : FuncData}
theorem scNumsL : FnScope ["_law_members"] ["_law_members"] (defScope s_law_numbers) := ⟨rfl, rfl, rfl, by decide +kernel, rfl, by decide +kernel, by decide +kernel⟩
theorem ok_numsL (F : Fun K "_law_numbers" "_law_numbers" s_law_numbers f fd) (Z : Bp mg)
    (G : FnR P w K mg base CX0 7 f1 (spNums C)) (k1 : PySem.W.keepIn K (.ref f1) = true) (m1 : mg "numbers" = some (.ref f1)) :
    FnOk P w K mg base CX0 8 f fd ["_law_members"] (spNumsL C) := by
  refine F.ok scNumsL (fun vs H Q E h => ?_) (fun cdv A outer s H vs Q E hr h => ?_)
  · obtain ⟨p, ms, rfl, _⟩ := h
    rfl
  obtain ⟨p, ms, rfl, hp, few, hm, q⟩ := h
  refine ⟨_, pss_cons (ps_if (pt_cmpR op_lt (pe_callB call_len_seq (by rfl) Z.len PySem.boot_len (pa_cons (pv 0) pa_nil)) pe_int (nomark _))
      (pss_one (ps_ret (pe_ifExp (pt_cmpR (op_eqQ hr.units) (pv 0) (pe_lst pa_nil) (nomark _)) (pe_callR0 G hr k1 rfl m1 pass0) (pe_callR G hr k1 rfl m1 pass0 (pa_cons (pe_ix ix_list (pv 0) pe_int (fun _ _ => rfl)) pa_nil))))) pss_nil)
    (pss_cons (ps_if (pt_cmpR op_eq (pe_callB call_len_seq (by rfl) Z.len PySem.boot_len (pa_cons (pv 0) pa_nil)) pe_int (nomark _))
      (pss_one (ps_ret (pe_callR G hr k1 rfl m1 pass0 (pa_cons (pe_ix ix_list (pv 0) pe_int (fun _ _ => rfl)) (pa_cons (pe_ix ix_list (pv 0) pe_int (fun _ _ => rfl)) pa_nil))))) pss_nil)
    (pss_cons (ps_if (pt_cmpR op_eq (pe_callB call_len_seq (by rfl) Z.len PySem.boot_len (pa_cons (pv 0) pa_nil)) pe_int (nomark _))
      (pss_one (ps_ret (pe_callR G hr k1 rfl m1 pass0 (pa_cons (pe_ix ix_list (pv 0) pe_int (fun _ _ => rfl)) (pa_cons (pe_ix ix_list (pv 0) pe_int (fun _ _ => rfl)) (pa_cons (pe_ix ix_list (pv 0) pe_int (fun _ _ => rfl)) pa_nil)))))) pss_nil)
    (pss_one (ps_ret (pe_callR G hr k1 rfl m1 pass0 (pa_cons (pe_ix ix_list (pv 0) pe_int (fun _ _ => rfl)) (pa_cons (pe_ix ix_list (pv 0) pe_int (fun _ _ => rfl)) (pa_cons (pe_ix ix_list (pv 0) pe_int (fun _ _ => rfl)) (pa_cons (pe_ix ix_list (pv 0) pe_int (fun _ _ => rfl)) pa_nil))))))))), ?_⟩
  have hS : SqL K H p (nats ms) := SqL.of hp
  refine ⟨_, rfl, p, _, rfl, .inl hS, _, _, rfl, rfl, _, rfl, ?_⟩
  rw [nats_len]
  match ms, few, hm, hp, hS, q with
  | [], few, hm, hp, hS, q =>
    refine iteT ⟨_, rfl, (by show 0 ≤ sizeLine; decide), fun D hD => ?_⟩
    have s1 := same_new hD (.lst [])
    refine ⟨.list [], .list [], .lst (s1 _ _ hp) .nil, .lst upd_same .nil, rfl, rfl, _, rfl, ?_⟩
    exact iteT (nums_call (ms := []) (by decide) hm fun a s H' s2 pl is => q a s H' (s1.trans s2) pl is)
  | [m], few, hm, hp, hS, q =>
    refine iteT ⟨_, rfl, (by show 0 ≤ sizeLine; decide), fun D hD => ?_⟩
    have s1 := same_new hD (.lst [])
    refine ⟨.list [.int (m : Int)], .list [], .lst (s1 _ _ hp) (.cons (.int _) .nil), .lst upd_same .nil, ?_, rfl, _, rfl, ?_⟩
    · rfl
    refine iteF ⟨_, rfl, p, _, 0, _, rfl, rfl, SqL.of (s1 _ _ hp), atI_nat (j := 0) rfl, ?_⟩
    exact nums_call (ms := [m]) (by show 1 ≤ 50; decide) hm fun a s H' s2 pl is => q a s H' (s1.trans s2) pl is
  | [m, m2], few, hm, hp, hS, q =>
    refine iteF ⟨_, rfl, p, _, rfl, .inl hS, rfl, _, rfl, iteT ?_⟩
    refine ⟨_, rfl, p, _, 0, _, rfl, rfl, hS, atI_nat (j := 0) rfl, _, rfl, p, _, 1, _, rfl, rfl, hS, atI_nat (j := 1) rfl, ?_⟩
    exact nums_call (ms := [m, m2]) (by show 2 ≤ 50; decide) hm q
  | [m, m2, m3], few, hm, hp, hS, q =>
    refine iteF ⟨_, rfl, p, _, rfl, .inl hS, rfl, _, rfl, iteF ⟨_, rfl, p, _, rfl, .inl hS, rfl, _, rfl, iteT ?_⟩⟩
    refine ⟨_, rfl, p, _, 0, _, rfl, rfl, hS, atI_nat (j := 0) rfl, _, rfl, p, _, 1, _, rfl, rfl, hS, atI_nat (j := 1) rfl, _, rfl, p, _, 2, _, rfl, rfl, hS, atI_nat (j := 2) rfl, ?_⟩
    exact nums_call (ms := [m, m2, m3]) (by show 3 ≤ 50; decide) hm q
  | [m, m2, m3, m4], few, hm, hp, hS, q =>
    refine iteF ⟨_, rfl, p, _, rfl, .inl hS, rfl, _, rfl, iteF ⟨_, rfl, p, _, rfl, .inl hS, rfl, _, rfl, iteF ?_⟩⟩
    refine ⟨_, rfl, p, _, 0, _, rfl, rfl, hS, atI_nat (j := 0) rfl, _, rfl, p, _, 1, _, rfl, rfl, hS, atI_nat (j := 1) rfl, _, rfl, p, _, 2, _, rfl, rfl, hS, atI_nat (j := 2) rfl, _, rfl, p, _, 3, _, rfl, rfl, hS, atI_nat (j := 3) rfl, ?_⟩
    exact nums_call (ms := [m, m2, m3, m4]) (by show 4 ≤ 50; decide) hm q
  | _ :: _ :: _ :: _ :: _ :: r, few, hm, hp, hS, q =>
    exfalso
    simp only [List.length_cons] at few
    omega
end
end Wp

/-! bool(x), x an object with a __bool__ of its own -/
namespace PySem.W
open PyProof.Rows
section
variable {prog : Program} {w : World} {A : Around} {E : Value → Shared → Prop} {s : Shared} {K : Frag} {x C f : Addr} {ox : Obj} {od : Option Obj}
theorem kbo_truth {Q : Bool → Shared → Prop} (X : K.In s.heap) (I : InstAt s.heap x ox C od) (hs : findIn K (.ref C) "__bool__" = some (some (.ref f))) (hf : isFn K (.ref f) = true)
    (h : wpAny (model prog w) A (call (.ref f) [.ref x]) (fun r s' => ∃ b, r = .bool b ∧ Q b s') E s) : wpAny (model prog w) A (truthy (.ref x)) Q E s := by
  unfold truthy
  refine wpAny_bind (m := callSpecial? (.ref x) (Str.ofString "__bool__")) (special_fn X I hs (beq_iff_eq.mp hf) (wpAny_mono h (fun r s' hr => ?_) fun _ _ z => z))
  obtain ⟨b, rfl, hq⟩ := hr
  exact wpAny_pure hq
theorem kbo_call {Q : Value → Shared → Prop} (X : K.In s.heap) (I : InstAt s.heap x ox C od) (hs : findIn K (.ref C) "__bool__" = some (some (.ref f))) (hf : isFn K (.ref f) = true)
    (h : wpAny (model prog w) A.in1.in1 (call (.ref f) [.ref x]) (fun r s' => ∃ b, r = .bool b ∧ Q (.bool b) s') E s) : wpAny (model prog w) A (call (.type "bool") [.ref x]) Q E s := by
  refine callType_codes (T := "bool") (Bi := Builtin.«object.__init__») (Q₁ := fun r s₁ => ∃ b, r = .bool b ∧ Q r s₁) PySem.F.called_bool (PySem.F.typeCall_bool_1 _) PySem.F.entry_object_init ?_ ?_
  · refine codeAny_of_tree ?_
    show wpAny _ A.in1.in1 (do checkBuiltinCall "bool.__new__" ⟨[.type "bool", .ref x], []⟩; again (.builtin "bool.__new__" ⟨[.type "bool", .ref x], []⟩)) _ _ s
    refine wpAny_bind (wpAny_of_eq (PySem.F.newCall_bool_1 _) (wpAny_pure ⟨plainId_quiet (by decide +kernel) _, codeAny_builtin PySem.F.entry_bool_new ?_⟩))
    rw [Around.under_plainId (by decide +kernel) _]
    have f1 := PySem.F.conv_sub_bool
    repeat (any_goals (first | assumption | (with_reducible refine kbo_truth X I hs hf (wpAny_mono h ?_ ?_)) | wp_step))
    · intro v s' hv
      obtain ⟨b, hb, hq⟩ := hv
      exact ⟨b, hb, wpAny_pure ⟨b, rfl, hq⟩⟩
    · intro v s' hv
      exact hv
  · rintro obj s₁ ⟨b, rfl, hq⟩
    exact ⟨typeIs_bool _ _, PySem.F.args_object_init_2 _ _, object_init_meets PySem.F.called_bool.init.lookup PySem.F.called_bool.made (by decide) prog w A.in1 _ s₁ ⟨typeIs_bool _ _, rfl, hq⟩⟩
end
end PySem.W
namespace Hx
open PySem PySem.Spec PyProof.Rows L2
/-- the class at C has a __bool__ of its own -/
structure BoolBy (P : Program) (w : World) (K : PySem.W.Frag) (mg : Str → Option Value) (base : Heap) (k : Nat) (C : Addr) (sp : Sp) : Prop where
  go : ∃ (g : Addr) (fd : FuncData), PySem.W.findIn K (.ref C) "__bool__" = some (some (.ref g)) ∧ PySem.W.isFn K (.ref g) = true ∧ FnOk P w K mg base CX0 k g fd ["self"] sp ∧ Binds K fd ["self"] []
def rBoolB (P : Program) (w : World) (K : PySem.W.Frag) (mg : Str → Option Value) (base : Heap) (k : Nat) : List V → Hp → VK → Prop := fun xs H Q => ∃ (a C dx : Addr) (fs : List (Str × V)) (sp : Sp), xs = [.ref a] ∧ H a = some (.ins C dx fs) ∧ BoolBy P w K mg base k C sp ∧
  sp [.ref a] H (fun v H' => ∃ b : Bool, v = .bl b ∧ Q (.bl b) H') E0
theorem call_boolB {X : Cx} {k : Nat} (room : Room (k + 2) X.A) : CallR X (.type "bool") (rBoolB X.prog X.w X.K X.mg X.base k) := by
  intro pins s σ H xs us Q I r h
  obtain ⟨a, C, dx, fs, sp, rfl, ha, T, q⟩ := h
  rw [Vals.ref1 r]
  obtain ⟨mA, O, _, _, _, _⟩ := ins_get I.hok ha
  obtain ⟨od, J, _⟩ := O.look
  obtain ⟨g, fd, hs, hf, F, b⟩ := T.go
  refine PySem.W.kbo_call I.kIn J hs hf ?_
  have go := F.run X.A.in1.in1 X.stack s H ⟨[.ref a], []⟩ [.ref a] [.ref a] _ E0 room.in1.in1 I.env0.in1.in1 (b s [.ref a] I.kIn rfl) (.cons rfl .nil) q
  refine wpAny_call (codeAny_mono go ?_)
  intro r2 s2 hr
  match r2, hr with
  | .error e, hr => exact (show False from hr).elim
  | .ok (.ret u), hr =>
    obtain ⟨v, H2, J2, rv, y, ev, qy⟩ := I.after hr
    subst ev
    cases (show u = Value.bool y from rv)
    exact ⟨y, rfl, .bl y, H2, J2, rfl, qy⟩
  | .ok .next, hr => exact hr.elim
  | .ok .brk, hr => exact hr.elim
  | .ok .cont, hr => exact hr.elim
end Hx

/-! v in x, x an object with a __contains__ of its own -/
namespace PySem.W
open PyProof.Rows
section
variable {prog : Program} {w : World} {A : Around} {E : Value → Shared → Prop} {s : Shared} {K : Frag} {x C f : Addr} {ox : Obj} {od : Option Obj}
theorem kco_has {v : Value} {Q : Bool → Shared → Prop} (X : K.In s.heap) (I : InstAt s.heap x ox C od) (hs : findIn K (.ref C) "__contains__" = some (some (.ref f))) (hf : isFn K (.ref f) = true)
    (h : wpAny (model prog w) A (call (.ref f) [.ref x, v]) (fun r s' => ∃ b, r = .bool b ∧ Q b s') E s) : wpAny (model prog w) A (contains (.ref x) v) Q E s := by
  unfold contains
  refine wpAny_holding ?_
  show wpAny _ A (specialOf (.ref x) (Str.ofString "__contains__") >>= _) Q E s
  refine wpAny_bind (wpAny_bind (I.type.here ((looks_findIn X hs).here ?_)))
  show wpAny _ A (if (some (Value.ref f) == some Value.none) = true then _ else _) Q E s
  rw [if_neg (by simp)]
  refine wpAny_bind (m := callSpecialUnlessNone? (.ref x) (Str.ofString "__contains__") [v] _) ?_
  refine wpAny_bind (wpAny_bind (I.type.here ((looks_findIn X hs).here (wpAny_holding (wpAny_bind ((bind_fn X _ (beq_iff_eq.mp hf)).here ?_))))))
  show wpAny _ A (if (Value.ref f == Value.none) = true then _ else _) _ E s
  rw [if_neg (by simp)]
  refine wpAny_bind (wpAny_mono h (fun r s' hr => wpAny_pure ?_) fun _ _ z => z)
  obtain ⟨b, rfl, hq⟩ := hr
  exact wpAny_pure hq
end
end PySem.W
namespace Hx
open PySem PySem.Spec PyProof.Rows L2
/-- the class at C has a __contains__ of its own -/
structure HasBy (P : Program) (w : World) (K : PySem.W.Frag) (mg : Str → Option Value) (base : Heap) (k : Nat) (C : Addr) (sp : Sp) : Prop where
  go : ∃ (g : Addr) (fd : FuncData) (ps : List Str), PySem.W.findIn K (.ref C) "__contains__" = some (some (.ref g)) ∧ PySem.W.isFn K (.ref g) = true ∧ FnOk P w K mg base CX0 k g fd ps sp ∧ Binds K fd ps []
def rHasO (P : Program) (w : World) (K : PySem.W.Frag) (mg : Str → Option Value) (base : Heap) (k : Nat) : R2 := fun x y H Q => ∃ (a C dx : Addr) (fs : List (Str × V)) (sp : Sp), y = .ref a ∧ H a = some (.ins C dx fs) ∧ HasBy P w K mg base k C sp ∧
  sp [y, x] H (fun v H' => ∃ b : Bool, v = .bl b ∧ Q (.bl b) H') E0
section
variable {X : Cx} {k : Nat}
theorem op_inO (hr : Room k X.A) : OpR X (compareOp .In) (rHasO X.prog X.w X.K X.mg X.base k) := by
  intro pins s σ H x y v u Q I rx ry h
  obtain ⟨a, C, dx, fs, sp, rfl, ha, T, q⟩ := h
  cases (show u = Value.ref a from ry)
  obtain ⟨g, fd, ps, h1, h2, F, b⟩ := T.go
  obtain ⟨mA, O, _⟩ := ins_get I.hok ha
  obtain ⟨od, J, _⟩ := O.look
  show wpAny _ _ (do return Value.bool (← contains (.ref a) v)) _ _ s
  refine wpAny_bind (PySem.W.kco_has I.kIn J h1 h2 (wpAny_mono (run_below F hr I.env0 b I (.cons ry (.cons rx .nil)) q) (fun w' s' z => ?_) fun _ _ e => e))
  obtain ⟨z', H', I', rz, kk, rfl, qz⟩ := z
  cases (show w' = Value.bool kk from rz)
  exact ⟨kk, rfl, wpAny_pure ⟨.bl kk, H', I', rfl, qz⟩⟩
end
end Hx

namespace Wp
open PySem PySem.Spec PyProof.Rows L2 Hx
def intsD (l : List Nat) : List PyData := l.map fun n : Nat => PyData.int (n : Int)
theorem small_int {n : Nat} (h : n < 100000) : PyData.leavesShort 13 (.int (n : Int)) = true ∧ (PyData.int (n : Int)).showable = true := by
  constructor
  · show decide ((PyData.shown (.int (n : Int))).length ≤ 13) = true
    exact decide_eq_true (PyData.shown_int_le (by show n < 10 ^ 12; omega))
  · show decide ((n : Int).natAbs.log2 < 1920) = true
    refine decide_eq_true ?_
    have : (n : Int).natAbs.log2 ≤ 17 := Mk.log2_le (m := 17) (by show n < 2 ^ 17; omega)
    omega
theorem small_ints : ∀ {l : List Nat}, (∀ n ∈ l, n < 100000) → PyData.leavesShortAll 13 (intsD l) = true ∧ PyData.showableAll (intsD l) = true ∧ PyData.depthAll (intsD l) = 0 ∧ PyData.bulkAll (intsD l) = l.length
  | [], _ => ⟨rfl, rfl, rfl, rfl⟩
  | n :: r, h => by
    obtain ⟨h1, h2, h3, h4⟩ := small_ints (l := r) fun x hx => h x (List.mem_cons_of_mem _ hx)
    obtain ⟨a, b⟩ := small_int (h n List.mem_cons_self)
    refine ⟨?_, ?_, ?_, ?_⟩
    · show (PyData.leavesShort 13 (.int (n : Int)) && PyData.leavesShortAll 13 (intsD r)) = true
      rw [a, h1]; rfl
    · show (PyData.showable (.int (n : Int)) && PyData.showableAll (intsD r)) = true
      rw [b, h2]; rfl
    · show max 0 (PyData.depthAll (intsD r)) = 0
      rw [h3]; rfl
    · show 0 + 1 + PyData.bulkAll (intsD r) = r.length + 1
      rw [h4]; omega
def leD : List Nat → PyData
  | [] => .none
  | n :: _ => .int (n : Int)
def shapeD (start pace : Nat) (b r l : List Nat) (f e : Bool) : PyData := .list [.int (start : Int), .int (pace : Int), .tuple (intsD b), .tuple (intsD r), leD l, .bool f, .bool e]
theorem small_shape {start pace : Nat} {b r l : List Nat} {f e : Bool} (h1 : start < 100000) (h2 : pace < 100000) (hb : ∀ n ∈ b, n < 100000) (hr : ∀ n ∈ r, n < 100000) (hl : ∀ n ∈ l, n < 100000) (lb : b.length ≤ 3000) (lr : r.length ≤ 3000) : Small (shapeD start pace b r l f e) := by
  obtain ⟨a1, a2⟩ := small_int h1
  obtain ⟨b1, b2⟩ := small_int h2
  obtain ⟨c1, c2, c3, c4⟩ := small_ints hb
  obtain ⟨d1, d2, d3, d4⟩ := small_ints hr
  have le : PyData.leavesShort 13 (leD l) = true ∧ (leD l).showable = true ∧ (leD l).depth = 0 ∧ (leD l).bulk = 0 := by
    cases l with
    | nil => exact ⟨rfl, rfl, rfl, rfl⟩
    | cons n t =>
      obtain ⟨x, y⟩ := small_int (hl n List.mem_cons_self)
      exact ⟨x, y, rfl, rfl⟩
  obtain ⟨e1, e2, e3, e4⟩ := le
  have ls : (shapeD start pace b r l f e).leavesShort 13 = true := by
    show (_ && (_ && (PyData.leavesShortAll 13 (intsD b) && (PyData.leavesShortAll 13 (intsD r) && (PyData.leavesShort 13 (leD l) && (true && (true && true))))))) = true
    rw [a1, b1, c1, d1, e1]; rfl
  refine ⟨?_, ?_, ?_⟩
  · show (_ && (_ && (PyData.showableAll (intsD b) && (PyData.showableAll (intsD r) && ((leD l).showable && (true && (true && true))))))) = true
    rw [a2, b2, c2, d2, e2]; rfl
  · show max 0 (max 0 (max (PyData.depthAll (intsD b) + 1) (max (PyData.depthAll (intsD r) + 1) (max (leD l).depth (max 0 (max 0 0)))))) + 1 ≤ 20
    rw [c3, d3, e3]; decide
  · have sb := PyData.shown_le_bulk 13 (by decide) _ ls
    have bb : (shapeD start pace b r l f e).bulk = 0 + 1 + (0 + 1 + (PyData.bulkAll (intsD b) + 1 + (PyData.bulkAll (intsD r) + 1 + ((leD l).bulk + 1 + (0 + 1 + (0 + 1 + 0)))))) := rfl
    rw [bb, c4, d4, e4] at sb
    omega
theorem dq_shape {H : Hp} {p pb pr : Addr} {start pace : Nat} {b r l : List Nat} {f e : Bool} {lv : V} (hp : H p = some (.lst [.int (start : Int), .int (pace : Int), .ref pb, .ref pr, lv, .bl f, .bl e])) (hlv : lv = (nats l).headD .non)
    (hb : H pb = some (.tup (nats b))) (hr : H pr = some (.tup (nats r))) : Dq H (.ref p) (shapeD start pace b r l f e) := by
  have d : Dq H lv (leD l) := by
    subst hlv
    cases l with
    | nil => exact .non
    | cons n t => exact .int _
  exact .lst hp (.cons (.int _) (.cons (.int _) (.cons (.tup hb (dq_nats b)) (.cons (.tup hr (dq_nats r)) (.cons d (.cons (.bl _) (.cons (.bl _) .nil)))))))
end Wp

namespace Wp
open PySem PySem.Spec PyProof.Rows L2 Hx
/-- what a set of places can do -/
structure Can (P : Program) (w : World) (K : PySem.W.Frag) (mg : Str → Option Value) (base : Heap) (C : Addr) : Prop where
  pd : Pd K mg C
  start : PropD P w K mg base C 1 "start" (spStart C)
  period : PropD P w K mg base C 1 "period" (spPeriod C)
  below : PropD P w K mg base C 5 "below" (spBelowP C)
  rests : PropD P w K mg base C 5 "rests" (spRestsP C)
  least : PropD P w K mg base C 5 "least" (spLeastP C)
  fin : PropD P w K mg base C 1 "is_finite" (spFinite C)
  bool : BoolBy P w K mg base 1 C (spTruth C)
  has : HasBy P w K mg base 2 C (spHas C)
  kC : PySem.W.kitOne K (.ref C) (.ref C) = some true
  ha : PySem.W.findIn K (.ref C) "__class__" = some (some (.builtin "object.__class__"))
  hn : PySem.W.specialIn K (.builtin "object.__class__") "__get__" = some (some (.builtin "getset_descriptor.__get__"))
  htk : PySem.W.takesIn K (.builtin "object.__class__") = some true
  hm : PySem.W.mroIn K C (.type "object") = some true
def spTold (C : Addr) : Sp := fun vs H Q _ => ∃ (a : Addr) (s : Mk.Kept), vs = [.ref a] ∧ PlAt C H a s ∧ s.Fit ∧ ∀ p pb pr H', Same H H' →
  H' p = some (.lst [.int (Mk.len s.st : Int), .int (s.w : Int), .ref pb, .ref pr, (nats (s.from 0 (Mk.len s.st + s.w))).headD .non, .bl (decide (s.cy = 0)), .bl (decide (s.cy ||| s.st ≠ 0))]) →
  H' pb = some (.tup (nats (s.from 0 (Mk.len s.st)))) → H' pr = some (.tup (nats (s.from (Mk.len s.st) s.w))) → Q (.ref p) H'
section
variable {P : Program} {w : World} {K : PySem.W.Frag} {mg : Str → Option Value} {base : Heap} {f f1 f2 f3 C : Addr} {fd fd1 fd2 fd3 : FuncData}
end
end Wp

namespace Wp
open PySem PySem.Spec PyProof.Rows L2 Hx
/-- the marks are those of the set -/
structure Agree (ml : List Bool) (begin : Nat) (s : Mk.Kept) : Prop where
  sh : ∀ pace start, Shape ml begin pace start → start = Mk.len s.st ∧ pace = s.w
  bits : ∀ n, n < ml.length → ml.getD n false = s.mem n
  fit : s.Fit
  lt : begin < ml.length
  few : ml.length ≤ 3000
  inb : Mk.len s.st + s.w ≤ ml.length
  hd : (nats ((List.range ml.length).filter fun i => ml.getD i false)).headD .non = (nats (s.from 0 (Mk.len s.st + s.w))).headD .non
  fin : (!(ml.drop begin).any id) = decide (s.cy = 0)
  any : ml.any id = decide (s.cy ||| s.st ≠ 0)
theorem from_lt {s : Mk.Kept} {lo many n : Nat} (h : n ∈ s.from lo many) : n < many := List.mem_range.mp (List.mem_filter.mp h).1
def spIsSet (K : PySem.W.Frag) (C : Addr) : Sp := fun vs H Q _ => ∃ (a ma : Addr) (s : Mk.Kept) (ml : List Bool) (begin : Nat), vs = [.ref a, .ref ma, .int (begin : Int)] ∧ PlAt C H a s ∧ SqL K H ma (bls ml) ∧ Agree ml begin s ∧ ∀ H', Same H H' → Q (.bl true) H'
def markAt (ml : List Bool) (begin n : Nat) : Bool := if n < ml.length then ml.getD n false else ml.getD (begin + (n - begin) % (ml.length - begin)) false
def spMark (K : PySem.W.Frag) : Sp := fun vs H Q _ => ∃ (ma : Addr) (ml : List Bool) (begin n : Nat), vs = [.ref ma, .int (begin : Int), .int (n : Int)] ∧ SqL K H ma (bls ml) ∧ begin < ml.length ∧ Q (.bl (markAt ml begin n)) H
section
variable {P : Program} {w : World} {K : PySem.W.Frag} {mg : Str → Option Value} {base : Heap} {f f1 f2 f3 C : Addr} {fd fd1 fd2 fd3 : FuncData}
end
end Wp

namespace Mk
theorem lcm_pos2 {a b : Nat} (ha : 1 ≤ a) (hb : 1 ≤ b) : 0 < Nat.lcm a b := Nat.lcm_pos ha hb
theorem max_int (a b : Nat) : (if (b : Int) > (a : Int) then (b : Int) else (a : Int)) = ((max a b : Nat) : Int) := by
  split <;> omega
theorem up_lt (L : Nat) {W : Nat} (h : 0 < W) : up L W < L + W := by
  have := Nat.mod_lt (W - L % W) h
  unfold up
  omega
theorem le_up (L W : Nat) : L ≤ up L W := Nat.le_add_right _ _
end Mk
namespace Wp
open PySem PySem.Spec PyProof.Rows L2 Hx
/-- what isinstance looks at -/
structure IsP (K : PySem.W.Frag) (C : Addr) : Prop where
  kC : PySem.W.kitOne K (.ref C) (.ref C) = some true
  ha : PySem.W.findIn K (.ref C) "__class__" = some (some (.builtin "object.__class__"))
  hn : PySem.W.specialIn K (.builtin "object.__class__") "__get__" = some (some (.builtin "getset_descriptor.__get__"))
  htk : PySem.W.takesIn K (.builtin "object.__class__") = some true
  hm : PySem.W.mroIn K C (.type "object") = some true
def spUnP (C : Addr) : Sp := fun vs H Q _ => ∃ (a : Addr) (s1 : Mk.Kept), vs = [.ref a] ∧ PlAt C H a s1 ∧ s1.Good ∧ s1.w ≤ 2000 ∧ Mk.len s1.st ≤ 5000 ∧ ∀ c s H', Same H H' → PlAt C H' c s → Mk.OpOf (fun x _ => !x) s1 s1 s → Q (.ref c) H'
section
variable {P : Program} {w : World} {K : PySem.W.Frag} {mg : Str → Option Value} {base : Heap} {f f1 f2 f3 f4 f5 C : Addr} {fd fd1 fd2 fd3 fd4 fd5 : FuncData}
theorem scFrame : FnScope ["one", "other", "width", "least"] ["one", "other"] (defScope s_frame) := ⟨rfl, rfl, rfl, by decide +kernel, rfl, by decide +kernel, by decide +kernel⟩
theorem ok_frame (F : Fun K "frame" "frame" s_frame f fd) (R : Pd K mg C) (Z : Bp mg) (S : PropD P w K mg base C 1 "start" (spStart C))
    (G1 : FnOk P w K mg base CX0 1 f1 fd1 ["one", "other"] spLcm) (b1 : Binds K fd1 ["one", "other"] []) (k1 : PySem.W.keepIn K (.ref f1) = true) (m1 : mg "common_width" = some (.ref f1)) :
    FnOk P w K mg base CX0 3 f fd ["one", "other"] (spFrame C) := by
  refine F.ok scFrame (fun vs H Q E h => ?_) (fun cdv A outer s H vs Q E hr h => ?_)
  · obtain ⟨a, b, s1, s2, rfl, _⟩ := h
    rfl
  obtain ⟨a, b, s1, s2, rfl, ⟨dx, ha⟩, ⟨dy, hb⟩, w1, w2, w3, w4, q⟩ := h
  obtain ⟨p0, g0, fd0, po, GS, bS⟩ := S
  have r1 := hr.mono (by decide : 1 ≤ 2)
  refine ⟨_, pss_cons (ps_set (i := 2) scFrame.nd rfl (Or.inl rfl) (pe_call G1 r1 rfl m1 k1 b1 .nil pass0 (pa_cons (pe_fld (pv 0) rfl) (pa_cons (pe_fld (pv 1) rfl) pa_nil))))
    (pss_cons (ps_set (i := 3) scFrame.nd rfl (Or.inl rfl) (pe_callB (call_max2 rfl) (by rfl) Z.max PyProof.Rows.boot_max (pa_cons (pe_prop (pv 0) R.cl po GS hr bS .nil pass0 rfl) (pa_cons (pe_prop (pv 1) R.cl po GS hr bS .nil pass0 rfl) pa_nil))))
    (pss_one (ps_ret (pe_tup (pa_cons (pe_op op_add (pv 3) (pe_op op_mod (pe_un un_neg (pv 3)) (pv 2))) (pa_cons (pv 2) pa_nil)))))), ?_⟩
  refine ⟨_, rfl, a, C, dx, _, _, rfl, ha, R.cl, R.nW, rfl, _, rfl, b, C, dy, _, _, rfl, hb, R.cl, R.nW, rfl, s1.w, s2.w, rfl, w1, w2, w3, w4, ?_⟩
  have W0 := Mk.lcm_pos2 w1 w2
  refine ⟨_, rfl, a, dx, _, rfl, ha, a, s1, rfl, ⟨dx, ha⟩, _, rfl, b, dy, _, rfl, hb, b, s2, rfl, ⟨dy, hb⟩, _, _, rfl, ?_⟩
  rw [Mk.max_int]
  generalize max (Mk.len s1.st) (Mk.len s2.st) = L at q ⊢
  generalize Nat.lcm s1.w s2.w = W at q W0 ⊢
  refine ⟨_, rfl, _, rfl, _, rfl, _, rfl, _, _, rfl, rfl, (by omega), ?_⟩
  dsimp only
  rw [Mk.neg_mod L W0]
  refine ⟨_, _, rfl, rfl, ?_⟩
  have eU : (L : Int) + (((W - L % W) % W : Nat) : Int) = ((Mk.up L W : Nat) : Int) := by
    rw [← Int.natCast_add]
    rfl
  dsimp only
  rw [eU]
  refine ⟨_, rfl, (by show 2 ≤ sizeLine; decide), fun p hp => ?_⟩
  exact q p _ (same_new hp _) upd_same
theorem scCkP : FnScope ["given"] ["given"] (defScope s_check_places) := ⟨rfl, rfl, rfl, by decide +kernel, rfl, by decide +kernel, by decide +kernel⟩
theorem ok_ckP (F : Fun K "check_places" "check_places" s_check_places f fd) (R : Pd K mg C) (Z : Bp mg) (D : IsP K C) : FnOk P w K mg base CX0 1 f fd ["given"] (spCkP C) := by
  refine F.ok scCkP (fun vs H Q E h => ?_) (fun cdv A outer s H vs Q E hr h => ?_)
  · obtain ⟨a, s, rfl, _⟩ := h
    rfl
  obtain ⟨a, s, rfl, ⟨dx, ha⟩, q⟩ := h
  refine ⟨_, pss_one (ps_if (pt_not (pt_val (pe_callB call_isi (by rfl) Z.isinstance PyProof.Rows.boot_isinstance (pa_cons (pv 0) (pa_cons (pe_gref rfl R.gC) pa_nil))))) (pss_one ps_dead) pss_nil), ?_⟩
  have ty : TyX K H (.ref a) (.ref C) := .base (.ins ha R.cl D.ha D.hn D.htk D.hm)
  exact ⟨_, rfl, _, _, .ref C, _, true, rfl, .own C, ty, D.kC, _, rfl, iteF q⟩
theorem scOpp : FnScope ["bits", "many"] ["bits", "many"] (defScope s_opposite) := ⟨rfl, rfl, rfl, by decide +kernel, rfl, by decide +kernel, by decide +kernel⟩
theorem ok_opp (F : Fun K "opposite" "opposite" s_opposite f fd)
    (G1 : FnOk P w K mg base CX0 1 f1 fd1 ["many"] spFull) (b1 : Binds K fd1 ["many"] []) (k1 : PySem.W.keepIn K (.ref f1) = true) (m1 : mg "full" = some (.ref f1)) : FnOk P w K mg base CX0 2 f fd ["bits", "many"] spOpp := by
  refine F.ok scOpp (fun vs H Q E h => ?_) (fun cdv A outer s H vs Q E hr h => ?_)
  · obtain ⟨x, many, rfl, _⟩ := h
    rfl
  obtain ⟨x, many, rfl, hk, q⟩ := h
  refine ⟨_, pss_one (ps_ret (pe_op op_xor (pv 0) (pe_call G1 hr rfl m1 k1 b1 .nil pass0 (pa_cons (pv 1) pa_nil)))), ?_⟩
  refine ⟨_, rfl, _, rfl, many, rfl, hk, _, _, rfl, rfl, ?_⟩
  have e : (2 : Int) ^ many - 1 = ((2 ^ many - 1 : Nat) : Int) := by
    have := Nat.two_pow_pos many
    rw [Mk.pow_ct]
    omega
  dsimp only
  rw [e, Mk.bxor]
  exact q
theorem opp_bit {x many : Nat} {m : Nat → Bool} (hx : ∀ n, x.testBit n = (decide (n < many) && m n)) (n : Nat) : (x ^^^ (2 ^ many - 1)).testBit n = (decide (n < many) && !m n) := by
  rw [Nat.testBit_xor, hx, Mk.full_bit]
  cases decide (n < many) <;> cases m n <;> rfl
def NO : List Str := ["self", "other", "start", "width", "many"]
theorem up_dvd (L : Nat) {W : Nat} (h : 0 < W) : W ∣ Mk.up L W := Nat.dvd_of_mod_eq_zero (Mk.up_mod L h)
theorem sc_or : FnScope NO ["self", "other"] (defScope s_Places_or) := ⟨rfl, rfl, rfl, by decide +kernel, rfl, by decide +kernel, by decide +kernel⟩
theorem ok_or (F : Fun K "__or__" "Places.__or__" s_Places_or f fd) (R : Pd K mg C) (M : Mk K C f1) (MI : FnOk P w K mg base CX0 4 f1 fd1 ["self", "bits", "start", "width"] (spInitG C)) (bI : Binds K fd1 ["self", "bits", "start", "width"] [])
    (GK : FnOk P w K mg base CX0 1 f2 fd2 ["given"] (spCkP C)) (bK : Binds K fd2 ["given"] []) (kK : PySem.W.keepIn K (.ref f2) = true) (mK : mg "check_places" = some (.ref f2))
    (GF : FnOk P w K mg base CX0 3 f3 fd3 ["one", "other"] (spFrame C)) (bF : Binds K fd3 ["one", "other"] []) (kF : PySem.W.keepIn K (.ref f3) = true) (mF : mg "frame" = some (.ref f3))
    (GB : FnOk P w K mg base CX0 4 f4 fd4 ["places", "many"] (spBitsB C)) (bB : Binds K fd4 ["places", "many"] []) (kB : PySem.W.keepIn K (.ref f4) = true) (mB : mg "bits_below" = some (.ref f4)) :
    FnOk P w K mg base CX0 6 f fd ["self", "other"] (spBinP C (fun x y => x || y)) := by
  refine F.ok sc_or (fun vs H Q E h => ?_) (fun cdv A outer s H vs Q E hr h => ?_)
  · obtain ⟨a, b, s1, s2, rfl, _⟩ := h
    rfl
  obtain ⟨a, b, s1, s2, rfl, pa, pb, g1, g2, lw, ll1, ll2, q⟩ := h
  have r1 := hr.mono (by decide : 1 ≤ 5)
  have r2 := hr.mono (by decide : 2 ≤ 5)
  have r3 := hr.mono (by decide : 3 ≤ 5)
  have r4 := hr.mono (by decide : 4 ≤ 5)
  refine ⟨_, pss_cons (ps_expr (pe_call GK r1 rfl mK kK bK .nil pass0 (pa_cons (pv 1) pa_nil)))
    (pss_cons (ps_asg (pe_call GF r3 rfl mF kF bF .nil pass0 (pa_cons (pv 0) (pa_cons (pv 1) pa_nil))) (pg_tup (by rfl) (pgs_cons (pg_name (i := 2) sc_or.nd rfl (Or.inl rfl)) (pgs_cons (pg_name (i := 3) sc_or.nd rfl (Or.inl rfl)) pgs_nil))))
    (pss_cons (ps_set (i := 4) sc_or.nd rfl (Or.inl rfl) (pe_op op_add (pv 2) (pv 3)))
    (pss_one (ps_ret (pe_make M MI hr rfl R.gC bI .nil pass0 (pa_cons (pe_op op_or (pe_call GB r4 rfl mB kB bB .nil pass0 (pa_cons (pv 0) (pa_cons (pv 4) pa_nil))) (pe_call GB r4 rfl mB kB bB .nil pass0 (pa_cons (pv 1) (pa_cons (pv 4) pa_nil)))) (pa_cons (pv 2) (pa_cons (pv 3) pa_nil)))))))), ?_⟩
  have W0 := Mk.lcm_pos2 g1.least.pos g2.least.pos
  have d1 : s1.w ∣ Nat.lcm s1.w s2.w := Nat.dvd_lcm_left _ _
  have d2 : s2.w ∣ Nat.lcm s1.w s2.w := Nat.dvd_lcm_right _ _
  have e1 := Nat.le_of_dvd W0 d1
  have e2 := Nat.le_of_dvd W0 d2
  have u1 := Mk.le_up (max (Mk.len s1.st) (Mk.len s2.st)) (Nat.lcm s1.w s2.w)
  have u2 := Mk.up_lt (max (Mk.len s1.st) (Mk.len s2.st)) W0
  have u3 := up_dvd (max (Mk.len s1.st) (Mk.len s2.st)) W0
  have fit1 : s1.Fit := ⟨g1.least.pos, by omega, g1.cy, by omega⟩
  have fit2 : s2.Fit := ⟨g2.least.pos, by omega, g2.cy, by omega⟩
  refine ⟨_, rfl, b, s2, rfl, pb, ?_⟩
  refine ⟨_, rfl, _, rfl, a, b, s1, s2, rfl, pa, pb, g1.least.pos, g2.least.pos, by omega, by omega, fun p H1 t1 hp => ?_⟩
  refine ⟨p, _, rfl, SqT.of hp, rfl, _, _, rfl, _, _, rfl, rfl, ?_⟩
  have pa1 := pa.same t1
  have pb1 := pb.same t1
  refine ⟨_, rfl, _, rfl, _, _, rfl, rfl, ?_⟩
  refine ⟨_, rfl, _, rfl, a, s1, Mk.up (max (Mk.len s1.st) (Mk.len s2.st)) (Nat.lcm s1.w s2.w) + Nat.lcm s1.w s2.w, ?_, pa1, fit1, by omega, by omega, fun x hx => ?_⟩
  · dsimp only
    rw [Int.natCast_add]
    rfl
  refine ⟨_, rfl, _, rfl, b, s2, Mk.up (max (Mk.len s1.st) (Mk.len s2.st)) (Nat.lcm s1.w s2.w) + Nat.lcm s1.w s2.w, ?_, pb1, fit2, by omega, by omega, fun y hy => ?_⟩
  · dsimp only
    rw [Int.natCast_add]
    rfl
  refine ⟨_, _, rfl, rfl, ?_⟩
  dsimp only
  rw [Mk.bor]
  have hb : ∀ n, (x ||| y).testBit n = (decide (n < Mk.up (max (Mk.len s1.st) (Mk.len s2.st)) (Nat.lcm s1.w s2.w) + Nat.lcm s1.w s2.w) && (fun x y => x || y) (s1.mem n) (s2.mem n)) := fun n => by
    rw [Nat.testBit_or, hx, hy]
    cases decide (n < Mk.up (max (Mk.len s1.st) (Mk.len s2.st)) (Nat.lcm s1.w s2.w) + Nat.lcm s1.w s2.w) <;> cases s1.mem n <;> cases s2.mem n <;> rfl
  refine ⟨_, rfl, _, rfl, fun c dc na nd ne => ⟨c, dc, _, Mk.up (max (Mk.len s1.st) (Mk.len s2.st)) (Nat.lcm s1.w s2.w), Nat.lcm s1.w s2.w, rfl, upd_same, W0, by omega, by omega, u3, Mk.bits_lt2 hb, fun k H' mk bt ha => ⟨rfl, ?_⟩⟩⟩
  exact q c k H' (t1.trans (born_same na nd bt)) ⟨dc, ha⟩ (Mk.op_means g1 g2 u3 d1 d2 W0 (by omega) (by omega) hb mk)
theorem sc_and : FnScope NO ["self", "other"] (defScope s_Places_and) := ⟨rfl, rfl, rfl, by decide +kernel, rfl, by decide +kernel, by decide +kernel⟩
theorem ok_and (F : Fun K "__and__" "Places.__and__" s_Places_and f fd) (R : Pd K mg C) (M : Mk K C f1) (MI : FnOk P w K mg base CX0 4 f1 fd1 ["self", "bits", "start", "width"] (spInitG C)) (bI : Binds K fd1 ["self", "bits", "start", "width"] [])
    (GK : FnOk P w K mg base CX0 1 f2 fd2 ["given"] (spCkP C)) (bK : Binds K fd2 ["given"] []) (kK : PySem.W.keepIn K (.ref f2) = true) (mK : mg "check_places" = some (.ref f2))
    (GF : FnOk P w K mg base CX0 3 f3 fd3 ["one", "other"] (spFrame C)) (bF : Binds K fd3 ["one", "other"] []) (kF : PySem.W.keepIn K (.ref f3) = true) (mF : mg "frame" = some (.ref f3))
    (GB : FnOk P w K mg base CX0 4 f4 fd4 ["places", "many"] (spBitsB C)) (bB : Binds K fd4 ["places", "many"] []) (kB : PySem.W.keepIn K (.ref f4) = true) (mB : mg "bits_below" = some (.ref f4)) :
    FnOk P w K mg base CX0 6 f fd ["self", "other"] (spBinP C (fun x y => x && y)) := by
  refine F.ok sc_and (fun vs H Q E h => ?_) (fun cdv A outer s H vs Q E hr h => ?_)
  · obtain ⟨a, b, s1, s2, rfl, _⟩ := h
    rfl
  obtain ⟨a, b, s1, s2, rfl, pa, pb, g1, g2, lw, ll1, ll2, q⟩ := h
  have r1 := hr.mono (by decide : 1 ≤ 5)
  have r2 := hr.mono (by decide : 2 ≤ 5)
  have r3 := hr.mono (by decide : 3 ≤ 5)
  have r4 := hr.mono (by decide : 4 ≤ 5)
  refine ⟨_, pss_cons (ps_expr (pe_call GK r1 rfl mK kK bK .nil pass0 (pa_cons (pv 1) pa_nil)))
    (pss_cons (ps_asg (pe_call GF r3 rfl mF kF bF .nil pass0 (pa_cons (pv 0) (pa_cons (pv 1) pa_nil))) (pg_tup (by rfl) (pgs_cons (pg_name (i := 2) sc_and.nd rfl (Or.inl rfl)) (pgs_cons (pg_name (i := 3) sc_and.nd rfl (Or.inl rfl)) pgs_nil))))
    (pss_cons (ps_set (i := 4) sc_and.nd rfl (Or.inl rfl) (pe_op op_add (pv 2) (pv 3)))
    (pss_one (ps_ret (pe_make M MI hr rfl R.gC bI .nil pass0 (pa_cons (pe_op op_and (pe_call GB r4 rfl mB kB bB .nil pass0 (pa_cons (pv 0) (pa_cons (pv 4) pa_nil))) (pe_call GB r4 rfl mB kB bB .nil pass0 (pa_cons (pv 1) (pa_cons (pv 4) pa_nil)))) (pa_cons (pv 2) (pa_cons (pv 3) pa_nil)))))))), ?_⟩
  have W0 := Mk.lcm_pos2 g1.least.pos g2.least.pos
  have d1 : s1.w ∣ Nat.lcm s1.w s2.w := Nat.dvd_lcm_left _ _
  have d2 : s2.w ∣ Nat.lcm s1.w s2.w := Nat.dvd_lcm_right _ _
  have e1 := Nat.le_of_dvd W0 d1
  have e2 := Nat.le_of_dvd W0 d2
  have u1 := Mk.le_up (max (Mk.len s1.st) (Mk.len s2.st)) (Nat.lcm s1.w s2.w)
  have u2 := Mk.up_lt (max (Mk.len s1.st) (Mk.len s2.st)) W0
  have u3 := up_dvd (max (Mk.len s1.st) (Mk.len s2.st)) W0
  have fit1 : s1.Fit := ⟨g1.least.pos, by omega, g1.cy, by omega⟩
  have fit2 : s2.Fit := ⟨g2.least.pos, by omega, g2.cy, by omega⟩
  refine ⟨_, rfl, b, s2, rfl, pb, ?_⟩
  refine ⟨_, rfl, _, rfl, a, b, s1, s2, rfl, pa, pb, g1.least.pos, g2.least.pos, by omega, by omega, fun p H1 t1 hp => ?_⟩
  refine ⟨p, _, rfl, SqT.of hp, rfl, _, _, rfl, _, _, rfl, rfl, ?_⟩
  have pa1 := pa.same t1
  have pb1 := pb.same t1
  refine ⟨_, rfl, _, rfl, _, _, rfl, rfl, ?_⟩
  refine ⟨_, rfl, _, rfl, a, s1, Mk.up (max (Mk.len s1.st) (Mk.len s2.st)) (Nat.lcm s1.w s2.w) + Nat.lcm s1.w s2.w, ?_, pa1, fit1, by omega, by omega, fun x hx => ?_⟩
  · dsimp only
    rw [Int.natCast_add]
    rfl
  refine ⟨_, rfl, _, rfl, b, s2, Mk.up (max (Mk.len s1.st) (Mk.len s2.st)) (Nat.lcm s1.w s2.w) + Nat.lcm s1.w s2.w, ?_, pb1, fit2, by omega, by omega, fun y hy => ?_⟩
  · dsimp only
    rw [Int.natCast_add]
    rfl
  refine ⟨_, _, rfl, rfl, ?_⟩
  dsimp only
  rw [Mk.band]
  have hb : ∀ n, (x &&& y).testBit n = (decide (n < Mk.up (max (Mk.len s1.st) (Mk.len s2.st)) (Nat.lcm s1.w s2.w) + Nat.lcm s1.w s2.w) && (fun x y => x && y) (s1.mem n) (s2.mem n)) := fun n => by
    rw [Nat.testBit_and, hx, hy]
    cases decide (n < Mk.up (max (Mk.len s1.st) (Mk.len s2.st)) (Nat.lcm s1.w s2.w) + Nat.lcm s1.w s2.w) <;> cases s1.mem n <;> cases s2.mem n <;> rfl
  refine ⟨_, rfl, _, rfl, fun c dc na nd ne => ⟨c, dc, _, Mk.up (max (Mk.len s1.st) (Mk.len s2.st)) (Nat.lcm s1.w s2.w), Nat.lcm s1.w s2.w, rfl, upd_same, W0, by omega, by omega, u3, Mk.bits_lt2 hb, fun k H' mk bt ha => ⟨rfl, ?_⟩⟩⟩
  exact q c k H' (t1.trans (born_same na nd bt)) ⟨dc, ha⟩ (Mk.op_means g1 g2 u3 d1 d2 W0 (by omega) (by omega) hb mk)
theorem sc_sub : FnScope NO ["self", "other"] (defScope s_Places_sub) := ⟨rfl, rfl, rfl, by decide +kernel, rfl, by decide +kernel, by decide +kernel⟩
theorem ok_sub (F : Fun K "__sub__" "Places.__sub__" s_Places_sub f fd) (R : Pd K mg C) (M : Mk K C f1) (MI : FnOk P w K mg base CX0 4 f1 fd1 ["self", "bits", "start", "width"] (spInitG C)) (bI : Binds K fd1 ["self", "bits", "start", "width"] [])
    (GK : FnOk P w K mg base CX0 1 f2 fd2 ["given"] (spCkP C)) (bK : Binds K fd2 ["given"] []) (kK : PySem.W.keepIn K (.ref f2) = true) (mK : mg "check_places" = some (.ref f2))
    (GF : FnOk P w K mg base CX0 3 f3 fd3 ["one", "other"] (spFrame C)) (bF : Binds K fd3 ["one", "other"] []) (kF : PySem.W.keepIn K (.ref f3) = true) (mF : mg "frame" = some (.ref f3))
    (GB : FnOk P w K mg base CX0 4 f4 fd4 ["places", "many"] (spBitsB C)) (bB : Binds K fd4 ["places", "many"] []) (kB : PySem.W.keepIn K (.ref f4) = true) (mB : mg "bits_below" = some (.ref f4))
    (GO : FnOk P w K mg base CX0 2 f5 fd5 ["bits", "many"] spOpp) (bO : Binds K fd5 ["bits", "many"] []) (kO : PySem.W.keepIn K (.ref f5) = true) (mO : mg "opposite" = some (.ref f5)) :
    FnOk P w K mg base CX0 6 f fd ["self", "other"] (spBinP C (fun x y => x && !y)) := by
  refine F.ok sc_sub (fun vs H Q E h => ?_) (fun cdv A outer s H vs Q E hr h => ?_)
  · obtain ⟨a, b, s1, s2, rfl, _⟩ := h
    rfl
  obtain ⟨a, b, s1, s2, rfl, pa, pb, g1, g2, lw, ll1, ll2, q⟩ := h
  have r1 := hr.mono (by decide : 1 ≤ 5)
  have r2 := hr.mono (by decide : 2 ≤ 5)
  have r3 := hr.mono (by decide : 3 ≤ 5)
  have r4 := hr.mono (by decide : 4 ≤ 5)
  refine ⟨_, pss_cons (ps_expr (pe_call GK r1 rfl mK kK bK .nil pass0 (pa_cons (pv 1) pa_nil)))
    (pss_cons (ps_asg (pe_call GF r3 rfl mF kF bF .nil pass0 (pa_cons (pv 0) (pa_cons (pv 1) pa_nil))) (pg_tup (by rfl) (pgs_cons (pg_name (i := 2) sc_sub.nd rfl (Or.inl rfl)) (pgs_cons (pg_name (i := 3) sc_sub.nd rfl (Or.inl rfl)) pgs_nil))))
    (pss_cons (ps_set (i := 4) sc_sub.nd rfl (Or.inl rfl) (pe_op op_add (pv 2) (pv 3)))
    (pss_one (ps_ret (pe_make M MI hr rfl R.gC bI .nil pass0 (pa_cons (pe_op op_and (pe_call GB r4 rfl mB kB bB .nil pass0 (pa_cons (pv 0) (pa_cons (pv 4) pa_nil))) (pe_call GO r2 rfl mO kO bO .nil pass0 (pa_cons (pe_call GB r4 rfl mB kB bB .nil pass0 (pa_cons (pv 1) (pa_cons (pv 4) pa_nil))) (pa_cons (pv 4) pa_nil)))) (pa_cons (pv 2) (pa_cons (pv 3) pa_nil)))))))), ?_⟩
  have W0 := Mk.lcm_pos2 g1.least.pos g2.least.pos
  have d1 : s1.w ∣ Nat.lcm s1.w s2.w := Nat.dvd_lcm_left _ _
  have d2 : s2.w ∣ Nat.lcm s1.w s2.w := Nat.dvd_lcm_right _ _
  have e1 := Nat.le_of_dvd W0 d1
  have e2 := Nat.le_of_dvd W0 d2
  have u1 := Mk.le_up (max (Mk.len s1.st) (Mk.len s2.st)) (Nat.lcm s1.w s2.w)
  have u2 := Mk.up_lt (max (Mk.len s1.st) (Mk.len s2.st)) W0
  have u3 := up_dvd (max (Mk.len s1.st) (Mk.len s2.st)) W0
  have fit1 : s1.Fit := ⟨g1.least.pos, by omega, g1.cy, by omega⟩
  have fit2 : s2.Fit := ⟨g2.least.pos, by omega, g2.cy, by omega⟩
  refine ⟨_, rfl, b, s2, rfl, pb, ?_⟩
  refine ⟨_, rfl, _, rfl, a, b, s1, s2, rfl, pa, pb, g1.least.pos, g2.least.pos, by omega, by omega, fun p H1 t1 hp => ?_⟩
  refine ⟨p, _, rfl, SqT.of hp, rfl, _, _, rfl, _, _, rfl, rfl, ?_⟩
  have pa1 := pa.same t1
  have pb1 := pb.same t1
  refine ⟨_, rfl, _, rfl, _, _, rfl, rfl, ?_⟩
  refine ⟨_, rfl, _, rfl, a, s1, Mk.up (max (Mk.len s1.st) (Mk.len s2.st)) (Nat.lcm s1.w s2.w) + Nat.lcm s1.w s2.w, ?_, pa1, fit1, by omega, by omega, fun x hx => ?_⟩
  · dsimp only
    rw [Int.natCast_add]
    rfl
  refine ⟨_, rfl, _, rfl, b, s2, Mk.up (max (Mk.len s1.st) (Mk.len s2.st)) (Nat.lcm s1.w s2.w) + Nat.lcm s1.w s2.w, ?_, pb1, fit2, by omega, by omega, fun y hy => ?_⟩
  · dsimp only
    rw [Int.natCast_add]
    rfl
  refine ⟨_, rfl, y, Mk.up (max (Mk.len s1.st) (Mk.len s2.st)) (Nat.lcm s1.w s2.w) + Nat.lcm s1.w s2.w, ?_, by omega, ?_⟩
  · dsimp only
    rw [Int.natCast_add]
    rfl
  have hy := opp_bit hy
  refine ⟨_, _, rfl, rfl, ?_⟩
  dsimp only
  rw [Mk.band]
  have hb : ∀ n, (x &&& (y ^^^ (2 ^ (Mk.up (max (Mk.len s1.st) (Mk.len s2.st)) (Nat.lcm s1.w s2.w) + Nat.lcm s1.w s2.w) - 1))).testBit n = (decide (n < Mk.up (max (Mk.len s1.st) (Mk.len s2.st)) (Nat.lcm s1.w s2.w) + Nat.lcm s1.w s2.w) && (fun x y => x && !y) (s1.mem n) (s2.mem n)) := fun n => by
    rw [Nat.testBit_and, hx, hy]
    cases decide (n < Mk.up (max (Mk.len s1.st) (Mk.len s2.st)) (Nat.lcm s1.w s2.w) + Nat.lcm s1.w s2.w) <;> cases s1.mem n <;> cases s2.mem n <;> rfl
  refine ⟨_, rfl, _, rfl, fun c dc na nd ne => ⟨c, dc, _, Mk.up (max (Mk.len s1.st) (Mk.len s2.st)) (Nat.lcm s1.w s2.w), Nat.lcm s1.w s2.w, rfl, upd_same, W0, by omega, by omega, u3, Mk.bits_lt2 hb, fun k H' mk bt ha => ⟨rfl, ?_⟩⟩⟩
  exact q c k H' (t1.trans (born_same na nd bt)) ⟨dc, ha⟩ (Mk.op_means g1 g2 u3 d1 d2 W0 (by omega) (by omega) hb mk)
theorem sc_xor : FnScope NO ["self", "other"] (defScope s_Places_xor) := ⟨rfl, rfl, rfl, by decide +kernel, rfl, by decide +kernel, by decide +kernel⟩
theorem ok_xor (F : Fun K "__xor__" "Places.__xor__" s_Places_xor f fd) (R : Pd K mg C) (M : Mk K C f1) (MI : FnOk P w K mg base CX0 4 f1 fd1 ["self", "bits", "start", "width"] (spInitG C)) (bI : Binds K fd1 ["self", "bits", "start", "width"] [])
    (GK : FnOk P w K mg base CX0 1 f2 fd2 ["given"] (spCkP C)) (bK : Binds K fd2 ["given"] []) (kK : PySem.W.keepIn K (.ref f2) = true) (mK : mg "check_places" = some (.ref f2))
    (GF : FnOk P w K mg base CX0 3 f3 fd3 ["one", "other"] (spFrame C)) (bF : Binds K fd3 ["one", "other"] []) (kF : PySem.W.keepIn K (.ref f3) = true) (mF : mg "frame" = some (.ref f3))
    (GB : FnOk P w K mg base CX0 4 f4 fd4 ["places", "many"] (spBitsB C)) (bB : Binds K fd4 ["places", "many"] []) (kB : PySem.W.keepIn K (.ref f4) = true) (mB : mg "bits_below" = some (.ref f4)) :
    FnOk P w K mg base CX0 6 f fd ["self", "other"] (spBinP C (fun x y => Bool.xor x y)) := by
  refine F.ok sc_xor (fun vs H Q E h => ?_) (fun cdv A outer s H vs Q E hr h => ?_)
  · obtain ⟨a, b, s1, s2, rfl, _⟩ := h
    rfl
  obtain ⟨a, b, s1, s2, rfl, pa, pb, g1, g2, lw, ll1, ll2, q⟩ := h
  have r1 := hr.mono (by decide : 1 ≤ 5)
  have r2 := hr.mono (by decide : 2 ≤ 5)
  have r3 := hr.mono (by decide : 3 ≤ 5)
  have r4 := hr.mono (by decide : 4 ≤ 5)
  refine ⟨_, pss_cons (ps_expr (pe_call GK r1 rfl mK kK bK .nil pass0 (pa_cons (pv 1) pa_nil)))
    (pss_cons (ps_asg (pe_call GF r3 rfl mF kF bF .nil pass0 (pa_cons (pv 0) (pa_cons (pv 1) pa_nil))) (pg_tup (by rfl) (pgs_cons (pg_name (i := 2) sc_xor.nd rfl (Or.inl rfl)) (pgs_cons (pg_name (i := 3) sc_xor.nd rfl (Or.inl rfl)) pgs_nil))))
    (pss_cons (ps_set (i := 4) sc_xor.nd rfl (Or.inl rfl) (pe_op op_add (pv 2) (pv 3)))
    (pss_one (ps_ret (pe_make M MI hr rfl R.gC bI .nil pass0 (pa_cons (pe_op op_xor (pe_call GB r4 rfl mB kB bB .nil pass0 (pa_cons (pv 0) (pa_cons (pv 4) pa_nil))) (pe_call GB r4 rfl mB kB bB .nil pass0 (pa_cons (pv 1) (pa_cons (pv 4) pa_nil)))) (pa_cons (pv 2) (pa_cons (pv 3) pa_nil)))))))), ?_⟩
  have W0 := Mk.lcm_pos2 g1.least.pos g2.least.pos
  have d1 : s1.w ∣ Nat.lcm s1.w s2.w := Nat.dvd_lcm_left _ _
  have d2 : s2.w ∣ Nat.lcm s1.w s2.w := Nat.dvd_lcm_right _ _
  have e1 := Nat.le_of_dvd W0 d1
  have e2 := Nat.le_of_dvd W0 d2
  have u1 := Mk.le_up (max (Mk.len s1.st) (Mk.len s2.st)) (Nat.lcm s1.w s2.w)
  have u2 := Mk.up_lt (max (Mk.len s1.st) (Mk.len s2.st)) W0
  have u3 := up_dvd (max (Mk.len s1.st) (Mk.len s2.st)) W0
  have fit1 : s1.Fit := ⟨g1.least.pos, by omega, g1.cy, by omega⟩
  have fit2 : s2.Fit := ⟨g2.least.pos, by omega, g2.cy, by omega⟩
  refine ⟨_, rfl, b, s2, rfl, pb, ?_⟩
  refine ⟨_, rfl, _, rfl, a, b, s1, s2, rfl, pa, pb, g1.least.pos, g2.least.pos, by omega, by omega, fun p H1 t1 hp => ?_⟩
  refine ⟨p, _, rfl, SqT.of hp, rfl, _, _, rfl, _, _, rfl, rfl, ?_⟩
  have pa1 := pa.same t1
  have pb1 := pb.same t1
  refine ⟨_, rfl, _, rfl, _, _, rfl, rfl, ?_⟩
  refine ⟨_, rfl, _, rfl, a, s1, Mk.up (max (Mk.len s1.st) (Mk.len s2.st)) (Nat.lcm s1.w s2.w) + Nat.lcm s1.w s2.w, ?_, pa1, fit1, by omega, by omega, fun x hx => ?_⟩
  · dsimp only
    rw [Int.natCast_add]
    rfl
  refine ⟨_, rfl, _, rfl, b, s2, Mk.up (max (Mk.len s1.st) (Mk.len s2.st)) (Nat.lcm s1.w s2.w) + Nat.lcm s1.w s2.w, ?_, pb1, fit2, by omega, by omega, fun y hy => ?_⟩
  · dsimp only
    rw [Int.natCast_add]
    rfl
  refine ⟨_, _, rfl, rfl, ?_⟩
  dsimp only
  rw [Mk.bxor]
  have hb : ∀ n, (x ^^^ y).testBit n = (decide (n < Mk.up (max (Mk.len s1.st) (Mk.len s2.st)) (Nat.lcm s1.w s2.w) + Nat.lcm s1.w s2.w) && (fun x y => Bool.xor x y) (s1.mem n) (s2.mem n)) := fun n => by
    rw [Nat.testBit_xor, hx, hy]
    cases decide (n < Mk.up (max (Mk.len s1.st) (Mk.len s2.st)) (Nat.lcm s1.w s2.w) + Nat.lcm s1.w s2.w) <;> cases s1.mem n <;> cases s2.mem n <;> rfl
  refine ⟨_, rfl, _, rfl, fun c dc na nd ne => ⟨c, dc, _, Mk.up (max (Mk.len s1.st) (Mk.len s2.st)) (Nat.lcm s1.w s2.w), Nat.lcm s1.w s2.w, rfl, upd_same, W0, by omega, by omega, u3, Mk.bits_lt2 hb, fun k H' mk bt ha => ⟨rfl, ?_⟩⟩⟩
  exact q c k H' (t1.trans (born_same na nd bt)) ⟨dc, ha⟩ (Mk.op_means g1 g2 u3 d1 d2 W0 (by omega) (by omega) hb mk)
theorem sc_invert : FnScope ["self", "start", "width", "many"] ["self"] (defScope s_Places_invert) := ⟨rfl, rfl, rfl, by decide +kernel, rfl, by decide +kernel, by decide +kernel⟩
theorem ok_invert (F : Fun K "__invert__" "Places.__invert__" s_Places_invert f fd) (R : Pd K mg C) (M : Mk K C f1) (MI : FnOk P w K mg base CX0 4 f1 fd1 ["self", "bits", "start", "width"] (spInitG C)) (bI : Binds K fd1 ["self", "bits", "start", "width"] [])
    (GF : FnOk P w K mg base CX0 3 f3 fd3 ["one", "other"] (spFrame C)) (bF : Binds K fd3 ["one", "other"] []) (kF : PySem.W.keepIn K (.ref f3) = true) (mF : mg "frame" = some (.ref f3))
    (GB : FnOk P w K mg base CX0 4 f4 fd4 ["places", "many"] (spBitsB C)) (bB : Binds K fd4 ["places", "many"] []) (kB : PySem.W.keepIn K (.ref f4) = true) (mB : mg "bits_below" = some (.ref f4))
    (GO : FnOk P w K mg base CX0 2 f5 fd5 ["bits", "many"] spOpp) (bO : Binds K fd5 ["bits", "many"] []) (kO : PySem.W.keepIn K (.ref f5) = true) (mO : mg "opposite" = some (.ref f5)) :
    FnOk P w K mg base CX0 6 f fd ["self"] (spUnP C) := by
  refine F.ok sc_invert (fun vs H Q E h => ?_) (fun cdv A outer s H vs Q E hr h => ?_)
  · obtain ⟨a, s1, rfl, _⟩ := h
    rfl
  obtain ⟨a, s1, rfl, pa, g1, lw, ll1, q⟩ := h
  have r2 := hr.mono (by decide : 2 ≤ 5)
  have r3 := hr.mono (by decide : 3 ≤ 5)
  have r4 := hr.mono (by decide : 4 ≤ 5)
  refine ⟨_, pss_cons (ps_asg (pe_call GF r3 rfl mF kF bF .nil pass0 (pa_cons (pv 0) (pa_cons (pv 0) pa_nil))) (pg_tup (by rfl) (pgs_cons (pg_name (i := 1) sc_invert.nd rfl (Or.inl rfl)) (pgs_cons (pg_name (i := 2) sc_invert.nd rfl (Or.inl rfl)) pgs_nil))))
    (pss_cons (ps_set (i := 3) sc_invert.nd rfl (Or.inl rfl) (pe_op op_add (pv 1) (pv 2)))
    (pss_one (ps_ret (pe_make M MI hr rfl R.gC bI .nil pass0 (pa_cons (pe_call GO r2 rfl mO kO bO .nil pass0 (pa_cons (pe_call GB r4 rfl mB kB bB .nil pass0 (pa_cons (pv 0) (pa_cons (pv 3) pa_nil))) (pa_cons (pv 3) pa_nil))) (pa_cons (pv 1) (pa_cons (pv 2) pa_nil))))))), ?_⟩
  have W0 := g1.least.pos
  have el : Nat.lcm s1.w s1.w = s1.w := Nat.lcm_self s1.w
  have em : max (Mk.len s1.st) (Mk.len s1.st) = Mk.len s1.st := Nat.max_self _
  have u1 := Mk.le_up (Mk.len s1.st) s1.w
  have u2 := Mk.up_lt (Mk.len s1.st) W0
  have u3 := up_dvd (Mk.len s1.st) W0
  have fit1 : s1.Fit := ⟨g1.least.pos, by omega, g1.cy, by omega⟩
  refine ⟨_, rfl, _, rfl, a, a, s1, s1, rfl, pa, pa, g1.least.pos, g1.least.pos, by omega, by omega, fun p H1 t1 hp => ?_⟩
  rw [el, em] at hp
  refine ⟨p, _, rfl, SqT.of hp, rfl, _, _, rfl, _, _, rfl, rfl, ?_⟩
  have pa1 := pa.same t1
  refine ⟨_, rfl, _, rfl, _, _, rfl, rfl, ?_⟩
  refine ⟨_, rfl, _, rfl, a, s1, Mk.up (Mk.len s1.st) s1.w + s1.w, ?_, pa1, fit1, by omega, by omega, fun x hx => ?_⟩
  · dsimp only
    rw [Int.natCast_add]
    rfl
  refine ⟨_, rfl, x, Mk.up (Mk.len s1.st) s1.w + s1.w, ?_, by omega, ?_⟩
  · dsimp only
    rw [Int.natCast_add]
    rfl
  have hb : ∀ n, (x ^^^ (2 ^ (Mk.up (Mk.len s1.st) s1.w + s1.w) - 1)).testBit n = (decide (n < Mk.up (Mk.len s1.st) s1.w + s1.w) && (fun x _ => !x) (s1.mem n) (s1.mem n)) := opp_bit hx
  refine ⟨_, rfl, _, rfl, fun c dc na nd ne => ⟨c, dc, _, Mk.up (Mk.len s1.st) s1.w, s1.w, rfl, upd_same, W0, by omega, by omega, u3, Mk.bits_lt2 hb, fun k H' mk bt ha => ⟨rfl, ?_⟩⟩⟩
  exact q c k H' (t1.trans (born_same na nd bt)) ⟨dc, ha⟩ (Mk.op_means g1 g1 u3 (Nat.dvd_refl _) (Nat.dvd_refl _) W0 (by omega) (by omega) hb mk)
end
end Wp

namespace Wp
open PySem PySem.Spec PyProof.Rows L2 Hx
/-! the checks that raise -/
/-- no integer: of another class, or True, False -/
def NotI (K : PySem.W.Frag) (H : Hp) (v : V) : Prop := ∃ t bi bb, TyX K H v t ∧ PySem.W.kitOne K t (.type "int") = some bi ∧ PySem.W.kitOne K t (.type "bool") = some bb ∧ (bi && !bb) = false
/-- an error that tells v; nothing else has changed -/
def TellsAt (E : XK) (C : Addr) (v : V) (H : Hp) : Prop := ∀ d, H d = none → E (.ref C) (some d) (upd H d (.xd [("given", v)]))
def Tells (E : XK) (C : Addr) (v : V) (H : Hp) : Prop := ∀ H', Same H H' → TellsAt E C v H'
def BadIn (K : PySem.W.Frag) (H : Hp) (l m : Int) (v : V) : Prop := (∃ i, v = .int i ∧ ¬ (l ≤ i ∧ i ≤ m)) ∨ NotI K H v
def spInt (K : PySem.W.Frag) : Sp := fun vs H Q _ => ∃ v, vs = [v] ∧ ((∃ i, v = .int i ∧ Q (.bl true) H) ∨ (NotI K H v ∧ Q (.bl false) H))
def spWith (K : PySem.W.Frag) : Sp := fun vs H Q _ => ∃ (v : V) (l m : Int), vs = [v, .int l, .int m] ∧ ((∃ i, v = .int i ∧ l ≤ i ∧ i ≤ m ∧ Q (.bl true) H) ∨ (BadIn K H l m v ∧ Q (.bl false) H))
def spCkW (K : PySem.W.Frag) (CN : Addr) : Sp := fun vs H Q E => ∃ (v : V) (l m : Int), vs = [v, .int l, .int m] ∧ ((∃ i, v = .int i ∧ l ≤ i ∧ i ≤ m ∧ Q .non H) ∨ (BadIn K H l m v ∧ TellsAt E CN v H))
def BadC (K : PySem.W.Frag) (H : Hp) (v : V) : Prop := (∃ i : Int, v = .int i ∧ i < 0) ∨ NotI K H v
def spCnt (K : PySem.W.Frag) : Sp := fun vs H Q _ => ∃ v, vs = [v] ∧ BadC K H v ∧ Q (.bl false) H
def spCkC (K : PySem.W.Frag) (CN : Addr) : Sp := fun vs H Q E => ∃ v, vs = [v] ∧ BadC K H v ∧ TellsAt E CN v H
/-- no set of places -/
def NotP (K : PySem.W.Frag) (C : Addr) (H : Hp) (v : V) : Prop := ∃ t, TyX K H v t ∧ PySem.W.kitOne K t (.ref C) = some false
def spCkPX (K : PySem.W.Frag) (C CP : Addr) : Sp := fun vs H Q E => ∃ v, vs = [v] ∧ NotP K C H v ∧ TellsAt E CP v H
section
variable {P : Program} {w : World} {K : PySem.W.Frag} {mg : Str → Option Value} {base : Heap} {f f1 f2 f3 C CN CP : Addr} {fd fd1 fd2 fd3 : FuncData}
theorem ok_intX (F : Fun K "is_integer" "is_integer" s_is_integer f fd) (Z : Bp mg) : FnOk P w K mg base CX0 1 f fd ["value"] (spInt K) := by
  refine F.ok scIsIntN (fun vs H Q E h => ?_) (fun cdv A outer s H vs Q E hr h => ?_)
  · obtain ⟨v, rfl, _⟩ := h
    rfl
  obtain ⟨v, rfl, h⟩ := h
  refine ⟨_, pss_one (ps_ret (pe_and (pe_callB call_isi (by rfl) Z.isinstance PyProof.Rows.boot_isinstance (pa_cons (pv 0) (pa_cons (pe_bty (T := "int") rfl Z.int (by decide +kernel)) pa_nil)))
    (pe_one (pe_not (pe_callB call_isi (by rfl) Z.isinstance PyProof.Rows.boot_isinstance (pa_cons (pv 0) (pa_cons (pe_bty (T := "bool") rfl Z.bool (by decide +kernel)) pa_nil))))))), ?_⟩
  rcases h with ⟨i, rfl, q⟩ | ⟨⟨t, bi, bb, ty, k1, k2, e⟩, q⟩
  · refine ⟨_, rfl, _, _, .type "int", _, true, rfl, .ty "int", .base (.int i), kit_ty (by decide +kernel), _, rfl, iteT ?_⟩
    exact ⟨_, rfl, _, _, .type "int", _, false, rfl, .ty "bool", .base (.int i), kit_ty (by decide +kernel), _, rfl, q⟩
  · refine ⟨_, rfl, _, _, t, _, bi, rfl, .ty "int", ty, k1, _, rfl, ?_⟩
    cases bi with
    | false => exact iteF q
    | true =>
      refine iteT ⟨_, rfl, _, _, t, _, bb, rfl, .ty "bool", ty, k2, _, rfl, ?_⟩
      cases bb with
      | true => exact q
      | false => cases e
theorem ok_withX (F : Fun K "is_within" "is_within" s_is_within f fd) (GI : FnOk P w K mg base CX0 1 f1 fd1 ["value"] (spInt K)) (bI : Binds K fd1 ["value"] []) (kI : PySem.W.keepIn K (.ref f1) = true) (mI : mg "is_integer" = some (.ref f1)) :
    FnOk P w K mg base CX0 2 f fd ["value", "least", "most"] (spWith K) := by
  refine F.ok scWithinN (fun vs H Q E h => ?_) (fun cdv A outer s H vs Q E hr h => ?_)
  · obtain ⟨v, l, m, rfl, _⟩ := h
    rfl
  obtain ⟨v, l, m, rfl, h⟩ := h
  refine ⟨_, pss_one (ps_ret (pe_and (pe_call GI hr rfl mI kI bI .nil pass0 (pa_cons (pv 0) pa_nil)) (pe_one (pe_chain op_le op_le (pv 1) (pv 0) (pv 2))))), ?_⟩
  rcases h with ⟨i, rfl, h1, h2, q⟩ | ⟨⟨i, rfl, n⟩ | n, q⟩
  · refine ⟨_, rfl, _, rfl, .inl ⟨i, rfl, _, rfl, iteT ?_⟩⟩
    refine ⟨_, rfl, _, rfl, _, _, rfl, rfl, _, rfl, ?_⟩
    rw [decide_eq_true h1]
    refine iteT ⟨_, rfl, _, _, rfl, rfl, ?_⟩
    dsimp only
    rw [decide_eq_true h2]
    exact q
  · refine ⟨_, rfl, _, rfl, .inl ⟨i, rfl, _, rfl, iteT ?_⟩⟩
    refine ⟨_, rfl, _, rfl, _, _, rfl, rfl, _, rfl, ?_⟩
    by_cases c : l ≤ i
    · rw [decide_eq_true c]
      refine iteT ⟨_, rfl, _, _, rfl, rfl, ?_⟩
      dsimp only
      rw [decide_eq_false (fun z => n ⟨c, z⟩)]
      exact q
    · rw [decide_eq_false c]
      exact iteF q
  · exact ⟨_, rfl, _, rfl, .inr ⟨n, _, rfl, iteF q⟩⟩
theorem ok_ckWX (F : Fun K "check_within" "check_within" s_check_within f fd) (M : MkC P w K mg base "InvalidNumber" CN "given") (ty : PySem.W.typeIn K (.ref CN) = some (.type "type"))
    (GW : FnOk P w K mg base CX0 2 f1 fd1 ["value", "least", "most"] (spWith K)) (bW : Binds K fd1 ["value", "least", "most"] []) (kW : PySem.W.keepIn K (.ref f1) = true) (mW : mg "is_within" = some (.ref f1)) :
    FnOk P w K mg base (L2N.CX P w) 3 f fd ["given", "least", "most"] (spCkW K CN) := by
  refine F.okN scCkWN (fun vs H Q E h => ?_) (fun cdv A outer s H vs Q E hr h => ?_)
  · obtain ⟨v, l, m, rfl, _⟩ := h
    rfl
  obtain ⟨v, l, m, rfl, h⟩ := h
  refine ⟨_, pss_one (ps_if (pt_not (pt_val (pe_call GW hr rfl mW kW bW .nil pass0 (pa_cons (pv 0) (pa_cons (pv 1) (pa_cons (pv 2) pa_nil)))))) (pss_one (ps_raise1N M ty rfl (L2N.takes_of rfl rfl rfl rfl) hr rfl (pv 0))) pss_nil), ?_⟩
  rcases h with ⟨i, rfl, h1, h2, q⟩ | ⟨b, t⟩
  · exact ⟨_, rfl, _, rfl, _, rfl, _, l, m, rfl, .inl ⟨i, rfl, h1, h2, _, rfl, iteF q⟩⟩
  · exact ⟨_, rfl, _, rfl, _, rfl, _, l, m, rfl, .inr ⟨b, _, rfl, iteT ⟨_, rfl, t⟩⟩⟩
theorem scIsCountX : FnScope ["value"] ["value"] (defScope s_is_count) := ⟨rfl, rfl, rfl, by decide +kernel, rfl, by decide +kernel, by decide +kernel⟩
theorem ok_cntX (F : Fun K "is_count" "is_count" s_is_count f fd)
    (G1 : FnOk P w K mg base CX0 1 f1 fd1 ["value"] (spInt K)) (b1 : Binds K fd1 ["value"] []) (k1 : PySem.W.keepIn K (.ref f1) = true) (m1 : mg "is_integer" = some (.ref f1)) :
    FnOk P w K mg base CX0 2 f fd ["value"] (spCnt K) := by
  refine F.ok scIsCountX (fun vs H Q E h => ?_) (fun cdv A outer s H vs Q E hr h => ?_)
  · obtain ⟨v, rfl, _⟩ := h
    rfl
  obtain ⟨v, rfl, h, q⟩ := h
  refine ⟨_, pss_one (ps_ret (pe_and (pe_call G1 hr rfl m1 k1 b1 .nil pass0 (pa_cons (pv 0) pa_nil)) (pe_one (pe_cmpR op_ge (pv 0) pe_int (nomark _))))), ?_⟩
  rcases h with ⟨i, rfl, i0⟩ | n
  · refine ⟨_, rfl, _, rfl, .inl ⟨i, rfl, _, rfl, iteT ?_⟩⟩
    refine ⟨_, rfl, _, _, rfl, rfl, ?_⟩
    dsimp only
    rw [decide_eq_false (by omega)]
    exact q
  · exact ⟨_, rfl, _, rfl, .inr ⟨n, _, rfl, iteF q⟩⟩
theorem scCkCX : FnScope ["given"] ["given"] (defScope s_check_count) := ⟨rfl, rfl, rfl, by decide +kernel, rfl, by decide +kernel, by decide +kernel⟩
theorem ok_ckCX (F : Fun K "check_count" "check_count" s_check_count f fd) (M : MkC P w K mg base "InvalidNumber" CN "given") (ty : PySem.W.typeIn K (.ref CN) = some (.type "type"))
    (G1 : FnOk P w K mg base CX0 2 f1 fd1 ["value"] (spCnt K)) (b1 : Binds K fd1 ["value"] []) (k1 : PySem.W.keepIn K (.ref f1) = true) (m1 : mg "is_count" = some (.ref f1)) :
    FnOk P w K mg base (L2N.CX P w) 3 f fd ["given"] (spCkC K CN) := by
  refine F.okN scCkCX (fun vs H Q E h => ?_) (fun cdv A outer s H vs Q E hr h => ?_)
  · obtain ⟨v, rfl, _⟩ := h
    rfl
  obtain ⟨v, rfl, b, t⟩ := h
  refine ⟨_, pss_one (ps_if (pt_not (pt_val (pe_call G1 hr rfl m1 k1 b1 .nil pass0 (pa_cons (pv 0) pa_nil))))
    (pss_one (ps_raise1N M ty rfl (L2N.takes_of rfl rfl rfl rfl) hr rfl (pv 0))) pss_nil), ?_⟩
  exact ⟨_, rfl, _, rfl, b, _, rfl, iteT ⟨_, rfl, t⟩⟩
theorem ok_ckPX (F : Fun K "check_places" "check_places" s_check_places f fd) (R : Pd K mg C) (Z : Bp mg) (M : MkC P w K mg base "NotPlaces" CP "given") (ty : PySem.W.typeIn K (.ref CP) = some (.type "type")) : FnOk P w K mg base (L2N.CX P w) 3 f fd ["given"] (spCkPX K C CP) := by
  refine F.okN scCkP (fun vs H Q E h => ?_) (fun cdv A outer s H vs Q E hr h => ?_)
  · obtain ⟨v, rfl, _⟩ := h
    rfl
  obtain ⟨v, rfl, ⟨t, ty', k⟩, tl⟩ := h
  refine ⟨_, pss_one (ps_if (pt_not (pt_val (pe_callB call_isi (by rfl) Z.isinstance PyProof.Rows.boot_isinstance (pa_cons (pv 0) (pa_cons (pe_gref rfl R.gC) pa_nil))))) (pss_one (ps_raise1N M ty rfl (L2N.takes_of rfl rfl rfl rfl) hr rfl (pv 0))) pss_nil), ?_⟩
  exact ⟨_, rfl, _, _, t, _, false, rfl, .own C, ty', k, _, rfl, iteT ⟨_, rfl, tl⟩⟩
end
end Wp

namespace Wp
open PySem PySem.Spec PyProof.Rows L2 Hx
theorem TyX.same {K : PySem.W.Frag} {H H' : Hp} {v : V} {t : Value} (h : TyX K H v t) (s : Same H H') : TyX K H' v t := by
  cases h with
  | base h =>
    refine .base ?_
    cases h with
    | non => exact .non
    | bl x => exact .bl x
    | int i => exact .int i
    | str x => exact .str x
    | flt x => exact .flt x
    | lst e => exact .lst (s _ _ e)
    | frz e => exact .frz (s _ _ e)
    | tup e => exact .tup (s _ _ e)
    | dK e => exact .dK (s _ _ e)
    | dT e => exact .dT (s _ _ e)
    | ins e c1 c2 c3 c4 c5 => exact .ins (s _ _ e) c1 c2 c3 c4 c5
  | byt b => exact .byt b
  | set e => exact .set (s _ _ e)
  | kList e c => exact .kList e c
  | kTuple e c => exact .kTuple e c
  | kDict e c => exact .kDict e c
  | fTuple e => exact .fTuple (s _ _ e)
  | fDict e => exact .fDict (s _ _ e)
theorem NotI.same {K : PySem.W.Frag} {H H' : Hp} {v : V} (h : NotI K H v) (s : Same H H') : NotI K H' v := let ⟨t, x, y, a, b⟩ := h; ⟨t, x, y, TyX.same a s, b⟩
theorem NotP.same {K : PySem.W.Frag} {C : Addr} {H H' : Hp} {v : V} (h : NotP K C H v) (s : Same H H') : NotP K C H' v := let ⟨t, a, b⟩ := h; ⟨t, TyX.same a s, b⟩
theorem BadIn.same {K : PySem.W.Frag} {H H' : Hp} {l m : Int} {v : V} (h : BadIn K H l m v) (s : Same H H') : BadIn K H' l m v := h.imp_right fun n => n.same s
theorem BadC.same {K : PySem.W.Frag} {H H' : Hp} {v : V} (h : BadC K H v) (s : Same H H') : BadC K H' v := h.imp_right fun n => n.same s
theorem Tells.same {E : XK} {C : Addr} {v : V} {H H' : Hp} (t : Tells E C v H) (s : Same H H') : Tells E C v H' := fun H2 s2 => t H2 (s.trans s2)
theorem Tells.here {E : XK} {C : Addr} {v : V} {H : Hp} (t : Tells E C v H) : TellsAt E C v H := t H (Same.refl H)
/-- the members, all of them right, or the first wrong one -/
def Mems (K : PySem.W.Frag) (C CN : Addr) (xs : List V) (H : Hp) (Q : VK) (E : XK) : Prop := (∃ ms, xs = nats ms ∧ (∀ m ∈ ms, m ≤ 1000) ∧ ∀ a s H', Same H H' → PlAt C H' a s → Mk.IsNums ms s → Q (.ref a) H') ∨
  ∃ (j : Nat) (v : V), xs[j]? = some v ∧ (∀ i x, i < j → xs[i]? = some x → ∃ m : Nat, x = .int (m : Int) ∧ m ≤ 1000) ∧ BadIn K H 0 1000 v ∧ Tells E CN v H
def spNumsXB (K : PySem.W.Frag) (C CN : Addr) : Sp := fun vs H Q E => ∃ (pi : Addr) (xs : List V), vs = [.ref pi] ∧ H pi = some (.tup xs) ∧ xs.length ≤ 50 ∧ Mems K C CN xs H Q E
def spNumsX (K : PySem.W.Frag) (C CN : Addr) : Sp := fun vs H Q E => ∃ ws rest : List V, vs = ws ++ rest ∧ ws.length = ([] : List Str).length ∧ rest.length ≤ sizeLine ∧ ∀ p, H p = Option.none → spNumsXB K C CN (ws ++ [V.ref p]) (upd H p (.tup rest)) Q E
theorem numsX_call {K : PySem.W.Frag} {C CN : Addr} {xs : List V} {H : Hp} {Q : VK} {E : XK} (few : xs.length ≤ 50) (h : Mems K C CN xs H Q E) : spNumsX K C CN xs H Q E := by
  refine ⟨[], xs, rfl, rfl, by rw [sizeLine_eq]; omega, fun p hp => ⟨p, xs, rfl, upd_same, few, ?_⟩⟩
  have s := same_new hp (.tup xs)
  rcases h with ⟨ms, e, hm, q⟩ | ⟨j, v, hj, bef, bad, t⟩
  · exact .inl ⟨ms, e, hm, fun a k H' s2 pl is => q a k H' (s.trans s2) pl is⟩
  · exact .inr ⟨j, v, hj, bef, bad.same s, t.same s⟩
/-- a beginning and a step -/
def spStepsX (K : PySem.W.Frag) (C CN : Addr) : Sp := fun vs H Q E => ∃ u v : V, vs = [u, v] ∧
  ((∃ b p : Nat, u = .int (b : Int) ∧ v = .int (p : Int) ∧ b ≤ 1000 ∧ 1 ≤ p ∧ p ≤ 12 ∧ ∀ a s H', Same H H' → PlAt C H' a s → Mk.IsSteps b p s → Q (.ref a) H') ∨
   (BadIn K H 0 1000 u ∧ TellsAt E CN u H) ∨ (∃ i : Int, u = .int i ∧ 0 ≤ i ∧ i ≤ 1000 ∧ BadIn K H 1 12 v ∧ TellsAt E CN v H))
section
variable {P : Program} {w : World} {K : PySem.W.Frag} {mg : Str → Option Value} {base : Heap} {f f1 f2 f3 C CN CP : Addr} {fd fd1 fd2 fd3 : FuncData}
theorem ok_numsX (F : Fun K "numbers" "numbers" s_numbers f fd) {t : Tok} (mM : mg "MOST_MEMBER" = some (.int 1000 t))
    (G1 : FnOk P w K mg base (L2N.CX P w) 3 f1 fd1 ["given", "least", "most"] (spCkW K CN)) (b1 : Binds K fd1 ["given", "least", "most"] []) (k1 : PySem.W.keepIn K (.ref f1) = true) (m1 : mg "check_within" = some (.ref f1))
    (G2 : FnOk P w K mg base CX0 6 f2 fd2 ["pairs"] (spGath C)) (b2 : Binds K fd2 ["pairs"] []) (k2 : PySem.W.keepIn K (.ref f2) = true) (m2 : mg "gathered" = some (.ref f2)) :
    FnR P w K mg base (L2N.CX P w) 7 f (spNumsX K C CN) := by
  obtain ⟨oc, od, kV, doc, pm, an, cdv, ct, osl, rfl, lk, hcd⟩ := F.ex
  refine StX.fn_star (ps := []) (pv := "members") (sp := spNumsXB K C CN) lk hcd scNums cxUpN (bind_star0 (B := fun us => bindArgs (PySem.W.fnOf "numbers" "numbers" (defArgs s_numbers) (defBody s_numbers) (defScope s_numbers) .none kV doc pm an cdv ct) ⟨us, []⟩) rfl fun r rs => rfl) fun A outer s H vs Q E hr h => ?_
  obtain ⟨pi, xs, rfl, hpi, few, h⟩ := h
  have r3 := hr.mono (by decide : 3 ≤ 6)
  have tk := L2N.takes_of (X := cxOf (L2N.CX P w) P w K mg base NN "numbers" (defScope s_numbers) f cdv A outer s H E) rfl rfl rfl rfl
  refine ⟨_, pss_cons (ps_for (passes_of rfl) rfl (pi_tup (pv 0)) (pg_name (i := 1) scNums.nd rfl (Or.inl rfl)) (pss_one (ps_expr (pe_callS G1 r3 rfl m1 k1 b1 (fun σ => L2N.passAt tk σ) (pa_cons (pv 1) (pa_cons pe_int (pa_cons (pe_gint rfl mM) pa_nil)))))))
    (pss_one (ps_ret (pe_call G2 hr rfl m2 k2 b2 .nil pass0 (pa_cons (pe_lc (own := [("member", 1)]) (g := gName 1) (tt := tYes) rfl scNums.nd (pi_tup (pv 0)) (blkOk_by (N := NN) (sc := defScope s_numbers) (by decide +kernel))
      (fun _ _ _ _ _ => pg_name (i := 1) scNums.nd rfl (Or.inl rfl)) (fun _ _ _ _ _ => pts_nil) (fun _ _ _ _ _ => pe_tup (pa_cons pe_int (pa_cons (pv 1) pa_nil)))) pa_nil)))), ?_⟩
  have hS : SqT K H pi xs := SqT.of hpi
  rcases h with ⟨ms, rfl, hm, q⟩ | ⟨j, v, hj, bef, bad, tl⟩
  case inr =>
    refine ⟨_, rfl, pi, rfl, ⟨_, hS⟩, for_tup (K := K) (a := pi) (xs := xs) (fun i σ H' => H = H' ∧ i ≤ j ∧ ∃ u : Option V, σ = [some (.ref pi), u]) ⟨rfl, Nat.zero_le _, _, rfl⟩ (fun _ _ _ _ h => h.1 ▸ hS) ?_ ?_⟩
    · rintro i y σ H' hy ⟨rfl, hi, u, rfl⟩
      by_cases c : i = j
      · subst c
        rw [hj] at hy
        cases hy
        exact ⟨_, rfl, v, 0, 1000, rfl, .inr ⟨bad, tl.here⟩⟩
      · obtain ⟨m, rfl, m1⟩ := bef i y (by omega) hy
        exact ⟨_, rfl, _, 0, 1000, rfl, .inl ⟨(m : Int), rfl, by omega, by omega, rfl, by omega, _, rfl⟩⟩
    · rintro σ H' ⟨_, hi, _⟩
      have lt := (List.getElem?_eq_some_iff.mp hj).1
      exact absurd lt (by omega)
  rw [nats_len] at few
  have len : (nats ms).length = ms.length := nats_len ms
  refine ⟨_, rfl, pi, rfl, ⟨_, hS⟩, for_tup (K := K) (a := pi) (xs := nats ms) (fun _ σ H' => H = H' ∧ ∃ v : Option V, σ = [some (.ref pi), v]) ⟨rfl, _, rfl⟩ (fun _ _ _ _ h => h.1 ▸ hS) ?_ ?_⟩
  · rintro i v σ _ hv ⟨rfl, u, rfl⟩
    obtain ⟨m, mm, rfl⟩ := List.mem_map.mp (List.mem_of_getElem? hv)
    have := hm m mm
    exact ⟨_, rfl, _, 0, 1000, rfl, .inl ⟨(m : Int), rfl, by omega, by omega, rfl, _, rfl⟩⟩
  rintro σ _ ⟨rfl, u, rfl⟩
  refine ⟨_, rfl, pi, rfl, ⟨_, SqT.of hpi⟩, fun D hD => ?_⟩
  refine lc_tup (K := K) (a := pi) (xs := nats ms) (fun i H' => Same H H' ∧ ∃ vs, H' D = some (.lst vs) ∧ vs.length = min i ms.length ∧ PrsAt H' vs ((ms.take i).map fun m => (0, m))) ⟨same_new hD _, [], upd_same, by simp, rfl, fun i v hv => by cases hv⟩ (fun _ _ _ h => SqT.of (h.1 _ _ hpi)) ?_ ?_
  · rintro i v H1 hv ⟨s1, vs, hD1, l1, pr⟩
    obtain ⟨m, mm, rfl⟩ := List.mem_map.mp (List.mem_of_getElem? hv)
    have hi : ms[i]? = some m := by
      unfold nats at hv
      rw [List.getElem?_map] at hv
      obtain ⟨m', h1, h2⟩ := Option.map_eq_some_iff.mp hv
      have := V.int.inj h2
      rw [h1]
      exact congrArg some (by omega)
    refine ⟨rfl, turn_yes ?_⟩
    refine ⟨_, rfl, (by show 2 ≤ sizeLine; decide), fun T hT => ?_⟩
    have hD2 := upd_other (o := .tup [V.int 0, V.int (m : Int)]) hD1 hT
    refine ⟨vs, hD2, ?_, ?_⟩
    · rw [l1, sizeLine_eq]
      omega
    have s2 := s1.trans (same_new hT (.tup [V.int 0, V.int (m : Int)]))
    refine ⟨same_at hD s2, _, upd_same, ?_, ?_⟩
    · have : i < ms.length := (List.getElem?_eq_some_iff.mp hi).1
      rw [List.length_append, l1]
      show min i ms.length + 1 = _
      omega
    · rw [List.take_succ, hi, List.map_append]
      exact PrsAt.updL hD2 (PrsAt.snoc (x := (0, m)) (pr.same (same_new hT _)) upd_same)
  · rintro H1 ⟨s1, vs, hD1, l1, pr⟩
    rw [len, List.take_length] at pr
    obtain ⟨L, mL⟩ : ∃ L, IsMax L (0 :: (ms.map fun m => (0, m)).map fun x : Nat × Nat => x.2 + 1) := max_ex _ _
    have lm : ∀ m ∈ ms, m < L := fun m mm => by
      have := mL.2 (m + 1) (List.mem_cons_of_mem _ (List.mem_map.mpr ⟨(0, m), List.mem_map.mpr ⟨m, mm, rfl⟩, rfl⟩))
      omega
    have L1 : L ≤ 10000 := by
      rcases List.mem_cons.mp mL.1 with z | z
      · omega
      · obtain ⟨x, hx, e⟩ := List.mem_map.mp z
        obtain ⟨m, mm, rfl⟩ := List.mem_map.mp hx
        have := hm m mm
        show L ≤ 10000
        have e' : m + 1 = L := e
        omega
    refine ⟨D, vs, _, 1, L, rfl, hD1, pr, by rw [List.length_map]; omega, ⟨List.mem_cons_self, fun y hy => ?_⟩, mL, by omega, L1, fun bits hb q0 q2 qd => ?_, fun bits s hb md a H2 s2 pl => ?_⟩
    · rcases List.mem_cons.mp hy with z | z
      · omega
      · obtain ⟨x, hx, e⟩ := List.mem_map.mp z
        obtain ⟨m, mm, rfl⟩ := List.mem_map.mp hx
        have e' : 0 = y := e
        omega
    · have := Nat.le_of_dvd (by decide) qd
      omega
    · rw [Mk.up_one] at hb md
      exact q a s H2 (s1.trans s2) pl (Mk.nums_made lm hb md.w md.cy md.st)
theorem ok_stepsX (F : Fun K "steps" "steps" s_steps f fd) {t t2 : Tok} (mM : mg "MOST_MEMBER" = some (.int 1000 t)) (mS : mg "MOST_STEP" = some (.int 12 t2))
    (G1 : FnOk P w K mg base (L2N.CX P w) 3 f1 fd1 ["given", "least", "most"] (spCkW K CN)) (b1 : Binds K fd1 ["given", "least", "most"] []) (k1 : PySem.W.keepIn K (.ref f1) = true) (m1 : mg "check_within" = some (.ref f1))
    (G2 : FnOk P w K mg base CX0 6 f2 fd2 ["pairs"] (spGath C)) (b2 : Binds K fd2 ["pairs"] []) (k2 : PySem.W.keepIn K (.ref f2) = true) (m2 : mg "gathered" = some (.ref f2)) :
    FnOk P w K mg base (L2N.CX P w) 7 f fd ["first", "step"] (spStepsX K C CN) := by
  refine F.okN scSteps (fun vs H Q E h => ?_) (fun cdv A outer s H vs Q E hr h => ?_)
  · obtain ⟨u, v, rfl, _⟩ := h
    rfl
  obtain ⟨u, v, rfl, h⟩ := h
  have r3 := hr.mono (by decide : 3 ≤ 6)
  have tk := L2N.takes_of (X := cxOf (L2N.CX P w) P w K mg base ["first", "step"] "steps" (defScope s_steps) f cdv A outer s H E) rfl rfl rfl rfl
  refine ⟨_, pss_cons (ps_expr (pe_callS G1 r3 rfl m1 k1 b1 (fun σ => L2N.passAt tk σ) (pa_cons (pv 0) (pa_cons pe_int (pa_cons (pe_gint rfl mM) pa_nil)))))
    (pss_cons (ps_expr (pe_callS G1 r3 rfl m1 k1 b1 (fun σ => L2N.passAt tk σ) (pa_cons (pv 1) (pa_cons pe_int (pa_cons (pe_gint rfl mS) pa_nil)))))
    (pss_one (ps_ret (pe_call G2 hr rfl m2 k2 b2 .nil pass0 (pa_cons (pe_lst (pa_cons (pe_tup (pa_cons (pv 1) (pa_cons (pv 0) pa_nil))) pa_nil)) pa_nil))))), ?_⟩
  rcases h with ⟨b, p, rfl, rfl, hb, p1, p2, q⟩ | ⟨bad, tl⟩ | ⟨i, rfl, i0, i1, bad, tl⟩
  case inr.inl => exact ⟨_, rfl, u, 0, 1000, rfl, .inr ⟨bad, tl⟩⟩
  case inr.inr => exact ⟨_, rfl, _, 0, 1000, rfl, .inl ⟨i, rfl, i0, i1, _, rfl, v, 1, 12, rfl, .inr ⟨bad, tl⟩⟩⟩
  refine ⟨_, rfl, _, 0, 1000, rfl, .inl ⟨(b : Int), rfl, by omega, by omega, ?_⟩⟩
  refine ⟨_, rfl, _, 1, 12, rfl, .inl ⟨(p : Int), rfl, by omega, by omega, ?_⟩⟩
  refine ⟨_, rfl, _, rfl, (by show 2 ≤ sizeLine; decide), fun T hT => ⟨(by show 1 ≤ sizeLine; decide), fun D hD => ?_⟩⟩
  have s1 := (same_new hT (.tup [V.int (p : Int), V.int (b : Int)]))
  have s2 := same_new hD (.lst [V.ref T])
  have pr : PrsAt (upd (upd H T (.tup [V.int (p : Int), V.int (b : Int)])) D (.lst [V.ref T])) [V.ref T] [(p, b)] := by
    have z : PrsAt (upd (upd H T (.tup [V.int (p : Int), V.int (b : Int)])) D (.lst [V.ref T])) ([] ++ [V.ref T]) ([] ++ [(p, b)]) := PrsAt.snoc ⟨rfl, fun i v hv => by cases hv⟩ (s2 _ _ upd_same)
    exact z
  have p0 : 0 < p := p1
  have hS : b < Mk.up (b + 1) p := Nat.lt_of_lt_of_le (Nat.lt_succ_self b) (Nat.le_add_right _ _)
  have hS2 := Mk.up_mod (b + 1) p0
  refine ⟨D, [V.ref T], [(p, b)], p, b + 1, rfl, upd_same, pr, (by show 1 ≤ 100; decide), ⟨?_, fun y hy => ?_⟩, ⟨?_, fun y hy => ?_⟩, by omega, by omega, fun bits hb q0 q2 qd => ?_, fun bits s hb md a H2 s3 pl => ?_⟩
  · exact List.mem_cons_of_mem _ List.mem_cons_self
  · rcases List.mem_cons.mp hy with z | z
    · omega
    · have e : y = p := List.mem_singleton.mp z
      omega
  · exact List.mem_cons_of_mem _ List.mem_cons_self
  · rcases List.mem_cons.mp hy with z | z
    · omega
    · have e : y = b + 1 := List.mem_singleton.mp z
      omega
  · rw [Mk.steps_bits p0 hS hS2 hb]
    exact Mk.one_bit (Nat.mod_lt b p0) q2 qd
  · exact q a s H2 ((s1.trans s2).trans s3) pl (Mk.steps_made p0 hS hS2 hb md.w md.cy md.st)
end
end Wp

namespace Wp
open PySem PySem.Spec PyProof.Rows L2 Hx
/-! the operators with what is no set, members from what is no number -/
def nevS : TS := fun _ _ _ => False
theorem pss_nev {X : Cx} {b : List Stmt} : PSs X b nevS := ⟨fun _ _ _ _ _ _ h => h.elim⟩
def spBadOp (K : PySem.W.Frag) (C CP : Addr) : Sp := fun vs H _ E => ∃ (a : Addr) (v : V), vs = [.ref a, v] ∧ NotP K C H v ∧ TellsAt E CP v H
def spMemX (K : PySem.W.Frag) (CN : Addr) : List V → Hp → XK → Prop := fun vs H E => ∃ (a : Addr) (v : V), vs = [.ref a, v] ∧ BadC K H v ∧ TellsAt E CN v H
def NMem : List Str := ["self", "first", "member", "start", "rests", "turn", "rest"]
section
variable {P : Program} {w : World} {K : PySem.W.Frag} {mg : Str → Option Value} {base : Heap} {f f1 f2 C CN CP : Addr} {fd fd1 fd2 : FuncData}
theorem ok_orX (F : Fun K "__or__" "Places.__or__" s_Places_or f fd)
    (GK : FnOk P w K mg base (L2N.CX P w) 3 f2 fd2 ["given"] (spCkPX K C CP)) (bK : Binds K fd2 ["given"] []) (kK : PySem.W.keepIn K (.ref f2) = true) (mK : mg "check_places" = some (.ref f2)) :
    FnOk P w K mg base (L2N.CX P w) 4 f fd ["self", "other"] (spBadOp K C CP) := by
  refine F.okN sc_or (fun vs H Q E h => ?_) (fun cdv A outer s H vs Q E hr h => ?_)
  · obtain ⟨a, v, rfl, _⟩ := h
    rfl
  obtain ⟨a, v, rfl, n, t⟩ := h
  have tk := L2N.takes_of (X := cxOf (L2N.CX P w) P w K mg base NO "Places.__or__" (defScope s_Places_or) f cdv A outer s H E) rfl rfl rfl rfl
  refine ⟨_, pss_cons (ps_expr (pe_callS GK hr rfl mK kK bK (fun σ => L2N.passAt tk σ) (pa_cons (pv 1) pa_nil))) pss_nev, ?_⟩
  exact ⟨_, rfl, v, rfl, n, t⟩
theorem ok_andX (F : Fun K "__and__" "Places.__and__" s_Places_and f fd)
    (GK : FnOk P w K mg base (L2N.CX P w) 3 f2 fd2 ["given"] (spCkPX K C CP)) (bK : Binds K fd2 ["given"] []) (kK : PySem.W.keepIn K (.ref f2) = true) (mK : mg "check_places" = some (.ref f2)) :
    FnOk P w K mg base (L2N.CX P w) 4 f fd ["self", "other"] (spBadOp K C CP) := by
  refine F.okN sc_and (fun vs H Q E h => ?_) (fun cdv A outer s H vs Q E hr h => ?_)
  · obtain ⟨a, v, rfl, _⟩ := h
    rfl
  obtain ⟨a, v, rfl, n, t⟩ := h
  have tk := L2N.takes_of (X := cxOf (L2N.CX P w) P w K mg base NO "Places.__and__" (defScope s_Places_and) f cdv A outer s H E) rfl rfl rfl rfl
  refine ⟨_, pss_cons (ps_expr (pe_callS GK hr rfl mK kK bK (fun σ => L2N.passAt tk σ) (pa_cons (pv 1) pa_nil))) pss_nev, ?_⟩
  exact ⟨_, rfl, v, rfl, n, t⟩
theorem ok_subX (F : Fun K "__sub__" "Places.__sub__" s_Places_sub f fd)
    (GK : FnOk P w K mg base (L2N.CX P w) 3 f2 fd2 ["given"] (spCkPX K C CP)) (bK : Binds K fd2 ["given"] []) (kK : PySem.W.keepIn K (.ref f2) = true) (mK : mg "check_places" = some (.ref f2)) :
    FnOk P w K mg base (L2N.CX P w) 4 f fd ["self", "other"] (spBadOp K C CP) := by
  refine F.okN sc_sub (fun vs H Q E h => ?_) (fun cdv A outer s H vs Q E hr h => ?_)
  · obtain ⟨a, v, rfl, _⟩ := h
    rfl
  obtain ⟨a, v, rfl, n, t⟩ := h
  have tk := L2N.takes_of (X := cxOf (L2N.CX P w) P w K mg base NO "Places.__sub__" (defScope s_Places_sub) f cdv A outer s H E) rfl rfl rfl rfl
  refine ⟨_, pss_cons (ps_expr (pe_callS GK hr rfl mK kK bK (fun σ => L2N.passAt tk σ) (pa_cons (pv 1) pa_nil))) pss_nev, ?_⟩
  exact ⟨_, rfl, v, rfl, n, t⟩
theorem ok_xorX (F : Fun K "__xor__" "Places.__xor__" s_Places_xor f fd)
    (GK : FnOk P w K mg base (L2N.CX P w) 3 f2 fd2 ["given"] (spCkPX K C CP)) (bK : Binds K fd2 ["given"] []) (kK : PySem.W.keepIn K (.ref f2) = true) (mK : mg "check_places" = some (.ref f2)) :
    FnOk P w K mg base (L2N.CX P w) 4 f fd ["self", "other"] (spBadOp K C CP) := by
  refine F.okN sc_xor (fun vs H Q E h => ?_) (fun cdv A outer s H vs Q E hr h => ?_)
  · obtain ⟨a, v, rfl, _⟩ := h
    rfl
  obtain ⟨a, v, rfl, n, t⟩ := h
  have tk := L2N.takes_of (X := cxOf (L2N.CX P w) P w K mg base NO "Places.__xor__" (defScope s_Places_xor) f cdv A outer s H E) rfl rfl rfl rfl
  refine ⟨_, pss_cons (ps_expr (pe_callS GK hr rfl mK kK bK (fun σ => L2N.passAt tk σ) (pa_cons (pv 1) pa_nil))) pss_nev, ?_⟩
  exact ⟨_, rfl, v, rfl, n, t⟩
theorem scMem : GScope NMem ["self", "first"] (defScope s_Places_members) := ⟨rfl, by decide +kernel, by decide +kernel, by decide +kernel, rfl, by decide +kernel, by decide +kernel⟩
theorem ok_memR (F : Fun K "members" "Places.members" s_Places_members f fd)
    (GC : FnOk P w K mg base (L2N.CX P w) 3 f1 fd1 ["given"] (spCkC K CN)) (bC : Binds K fd1 ["given"] []) (kC : PySem.W.keepIn K (.ref f1) = true) (mC : mg "check_count" = some (.ref f1)) :
    Zg.GRaise P w K mg base 4 f fd ["self", "first"] (spMemX K CN) := by
  obtain ⟨oc, od, kV, doc, pm, an, cdv, ct, osl, rfl, lk, hcd⟩ := F.ex
  refine Zg.graise_of (N := NMem) lk hcd scMem (fun vs H E h => ?_) (fun A outer s H vs E pn hr h => ?_)
  · obtain ⟨a, v, rfl, _⟩ := h
    rfl
  obtain ⟨a, v, rfl, b, t⟩ := h
  have tk : L2N.Takes (Zg.gcxN P w K mg base NMem "Places.members" (defScope s_Places_members) f cdv A outer s H E pn) (fun cls d _ H => E cls d H) := fun u s' x => Zg.leaveGN (X := Zg.gcxN P w K mg base NMem "Places.members" (defScope s_Places_members) f cdv A outer s H E pn) (W := fun cls d _ H => E cls d H) (E := E) rfl rfl rfl (fun _ _ _ _ h => h) x
  refine ⟨_, pss_cons (ps_expr (pe_callS GC hr rfl mC kC bC (fun σ => L2N.passAt tk σ) (pa_cons (pv 1) pa_nil))) pss_nev, ?_⟩
  exact ⟨_, rfl, v, rfl, b, t⟩
end
end Wp

/-! repr of a list and a tuple that hold one own object -/
namespace Hx
open PySem PySem.Spec PyProof.Rows L2
theorem frames_under_loop (A : Around) (args : Args) : (A.under (.builtin "list.__repr__.loop" args)).frames = A.frames := by
  first | rfl | simp [Around.under, Code.envs, Code.env?, Code.isFrame, pushEnvs]
theorem hd_under_loop (A : Around) (args : Args) : (A.under (.builtin "list.__repr__.loop" args)).handled = A.handled := by
  first | rfl | simp [Around.under]
theorem dp_under_loop (A : Around) (args : Args) : (A.under (.builtin "list.__repr__.loop" args)).depth = A.depth + 1 := by
  first | rfl | simp [Around.under, Code.weight, Code.isCreation, Code.isGuard, Code.isCaller, Code.frames, Code.isFrame, guardIds]
theorem frames_under_tup (A : Around) (args : Args) : (A.under (.builtin "tuple.__repr__" args)).frames = A.frames := by
  first | rfl | simp [Around.under, Code.envs, Code.env?, Code.isFrame, pushEnvs]
theorem hd_under_tup (A : Around) (args : Args) : (A.under (.builtin "tuple.__repr__" args)).handled = A.handled := by
  first | rfl | simp [Around.under]
theorem dp_under_tup (A : Around) (args : Args) : (A.under (.builtin "tuple.__repr__" args)).depth = A.depth + 1 := by
  first | rfl | simp [Around.under, Code.weight, Code.isCreation, Code.isGuard, Code.isCaller, Code.frames, Code.isFrame, guardIds]
section
variable {prog : Program} {w : World} {A : Around} {E : Value → Shared → Prop} {s : Shared} {K : PySem.W.Frag} {x C f : Addr} {ox : Obj} {od : Option Obj}
/-- repr(x) within another repr -/
theorem under_own {base : Nat} {Q : Str → Shared → Prop} (hb : base ≤ sizeLine) (hu : A.units < cLine) (X : K.In s.heap) (I : PySem.W.InstAt s.heap x ox C od) (hs : PySem.W.findIn K (.ref C) "__repr__" = some (some (.ref f))) (hf : PySem.W.isFn K (.ref f) = true)
    (h : wpAny (model prog w) A (call (.ref f) [.ref x]) (fun v s' => ∃ y t, v = .str y t ∧ Q y s') E s) : wpAny (model prog w) A (pyReprUnder base (.ref x)) Q E s := by
  refine wpAny_pyReprUnder_ref hb ?_
  unfold pyReprObjUnder pyReprObjBy
  refine wpAny_bind (wpAny_cRoomFor hu ?_)
  refine wpAny_bind (wpAny_bind (I.type.here ((PySem.W.looks_findIn X hs).here ?_)))
  show wpAny _ _ (if (some (Value.ref f)).isNone = true then _ else _) _ _ _
  rw [if_neg (by simp)]
  refine wpAny_bind ?_
  simp only [callSpecialIfBoundBy?, bindSpecialIfBound?]
  refine wpAny_holding (wpAny_bind (wpAny_bind (wpAny_bind (I.type.here ((PySem.W.looks_findIn X hs).here ?_)))))
  refine wpAny_bind (wpAny_askSetting (wpAny_ite ?_))
  have fin : wpAny (model prog w) A (call (.ref f) ([.ref x] ++ []) >>= fun v => pure (some v)) (fun r s' => wpAny (model prog w) A (match r with
      | some r => (do if ← isInstance r (.type "str") then pure r else raiseError "TypeError" s!"__repr__ returned non-string (type {← typeNameOf r})")
      | none => unsupported "repr:special-get-raises") (fun v s' => ∃ y u, v = .str y u ∧ Q y s') E s') E s := by
    refine wpAny_bind (wpAny_mono h (fun v s' h' => ?_) fun _ _ h' => h')
    obtain ⟨y, t, rfl, q⟩ := h'
    refine wpAny_pure (wpAny_bind (wpAny_isInstance (T := "str") (b := true) rfl isSubtype_str_str (wpAny_pure ⟨_, _, rfl, q⟩)))
  split
  · exact wpAny_bind ((PySem.W.bind_fn X _ (beq_iff_eq.mp hf)).here (wpAny_pure (by exact fin)))
  · exact wpAny_tryCatch (wpAny_bind ((PySem.W.bind_fn X _ (beq_iff_eq.mp hf)).here (wpAny_pure (by exact fin))))
end
/-- repr of [x], of (x,), x an own object -/
def rRepr1 (C : Addr) (sp : Sp) : List V → Hp → VK → Prop := fun xs H Q => ∃ (p a dx : Addr) (fs : List (Str × V)), xs = [.ref p] ∧ H a = some (.ins C dx fs) ∧
  ((H p = some (.lst [.ref a]) ∧ ∀ P, H P = none → sp [.ref a] (upd H P (.lst [])) (fun v H' => ∃ y : Str, v = .str y ∧ (listText [y]).length ≤ sizeLine ∧ H' P = some (.lst []) ∧ H' p = some (.lst [.ref a]) ∧ Q (.str (listText [y])) (upd H' P (.lst [.str y]))) E0) ∨
   (H p = some (.tup [.ref a]) ∧ sp [.ref a] H (fun v H' => ∃ y : Str, v = .str y ∧ (tupleText [y]).length ≤ sizeLine ∧ Q (.str (tupleText [y])) H') E0))
section
variable {X : Cx} {k : Nat} {C : Addr} {sp : Sp}
theorem call_repr1 (T : ShowsBy X.prog X.w X.K X.mg X.base k C sp) (hr : Room (k + 4) X.A) (gd : X.A.guards = some []) : CallR X (.builtin "repr") (rRepr1 C sp) := by
  intro pins s σ H xs us Q I r h
  obtain ⟨p, a, dx, fs, rfl, ha, h⟩ := h
  rw [Vals.ref1 r]
  obtain ⟨g, fd, h1, h2, FF, b⟩ := T.go
  have un := hr.un
  have dp := hr.dp
  have e0 := I.env0
  rcases h with ⟨hp, q⟩ | ⟨hp, q⟩
  · obtain ⟨z, its, n, rl, el, e⟩ := I.lstM hp
    obtain ⟨u, rfl, ru⟩ := vals1 rl
    cases (show u = Value.ref a from ru)
    have hTy : s.TypeIs (.ref p) "list" := ⟨_, e, rfl⟩
    refine call_repr_slot (by omega) hTy PySem.F.slot_list_repr.toG ?_
    refine wpAny_call (codeAny_call_builtin PySem.F.slot_list_repr.plain PySem.F.entry_list_repr (PySem.F.slot_list_repr.check _ _ _ _ _ _ _ _ hTy (PySem.F.args_list_repr_1 _) ?_))
    refine wpAny_list_repr_head (A := X.A.in1.in1) gd (fun v rest kw hm => nomatch hm) e rfl ?_
    refine wpAny_bind (m := newList []) (wpAny_newObj_type ?_)
    refine wpAny_pure ⟨PySem.F.quiet_list_repr_loop _, ?_⟩
    have hn : H s.heap.objs.size = none := I.hok.fresh (Nat.le_refl _)
    have hne : p ≠ s.heap.objs.size := Nat.ne_of_lt (Heap.lt_size e)
    have hP : (s.heap.push { cls := .type "list", dict := none, data := .seq #[] 0, slots := #[] }).get? s.heap.objs.size = some { cls := .type "list", dict := none, data := .seq #[] 0, slots := #[] } := Heap.get?_push_size _ rfl
    have I1 : Inv X pins σ (upd H s.heap.objs.size (.lst [])) { s with heap := s.heap.push { cls := .type "list", dict := none, data := .seq #[] 0, slots := #[] }, toks := s.toks } :=
      I.laid (fun b o e => Heap.get?_push_of_some _ e) (Nat.le_refl _) (show ObjOk X.prog X.w _ _ _ (.lst []) from ⟨Nat.zero_le _, [], 0, .nil, hP⟩)
    refine codeAny_builtin PySem.F.entry_list_repr_loop ?_
    show wpAny _ _ (Builtin.«list.__repr__.loop» ⟨[.ref p, .int (0 : Nat) 0, .ref s.heap.objs.size, .int (0 : Nat) 0], []⟩) _ _ _
    rw [repr_loop_tree]
    refine wpAny_bind (wpAny_listItems (o := { cls := .type "list", data := .seq #[.ref a] n }) (Heap.get?_push_of_some _ e) rfl ?_)
    refine wpAny_bind (m := holding [.ref a] (pyReprUnder 1 (.ref a))) (wpAny_holding ?_)
    have ha1 : upd H s.heap.objs.size (.lst []) a = some (.ins C dx fs) := by
      rw [upd_ne (fun z => by rw [z, hn] at ha; cases ha)]
      exact ha
    obtain ⟨mA, O, _⟩ := ins_get I1.hok ha1
    obtain ⟨od, J, _⟩ := O.look
    refine under_own (by decide) ?_ I1.kIn J h1 h2 ?_
    · rw [units_under_list_loop]
      show X.A.units + 1 + 1 < _
      omega
    have hroom : Room k (X.A.in1.under (.builtin "list.__repr__.loop" ⟨[.ref p, rawInt (0 : Nat), .ref s.heap.objs.size, rawInt (0 : Nat)], []⟩)) := by
      refine ⟨by rw [hd_under_loop]; exact hr.hd, ?_, ?_⟩
      · rw [dp_under_loop]
        show X.A.depth + 1 + 3 * k + 5 < _
        omega
      · rw [units_under_list_loop]
        show X.A.units + 1 + 1 + 16 * k + 200 < _
        omega
    have e1 := I1.env0
    refine wpAny_mono (run_below FF hroom ⟨by rw [frames_under_loop]; exact e1.frames, e1.mod, e1.bs, e1.bsz, e1.funs, e1.frf, e1.hok, e1.bare⟩ b I1 (us := [.ref a]) (vs := [.ref a]) (.cons rfl .nil) (q _ hn)) (fun w' s' z => ?_) fun _ _ e => e
    obtain ⟨z', H', I', rz, y, rfl, yl, hP', hp', qz⟩ := z
    obtain ⟨t, rfl⟩ := rz
    refine ⟨y, t, rfl, ?_⟩
    have yle : y.length ≤ sizeLine := Nat.le_trans (listText_mem_le List.mem_cons_self) yl
    refine wpAny_bind (wpAny_mkStr ?_ yle)
    obtain ⟨z2, its2, n2, rl2, el2, e2⟩ := I'.lstM hP'
    cases rl2
    refine wpAny_bind ?_
    show wpAny _ _ (updateSeq s.heap.objs.size _) _ _ _
    refine wpAny_updateSeq e2 rfl (wpAny_pure ⟨PySem.F.quiet_list_repr_loop _, ?_⟩) (by seq_fits)
    obtain ⟨_, its3, n3, rl3, el3, e3⟩ := I'.lstM hp'
    obtain ⟨u3, rfl, ru3⟩ := vals1 rl3
    cases (show u3 = Value.ref a from ru3)
    have I2 : Inv X pins σ (upd H' s.heap.objs.size (.lst [.str y])) { s' with heap := s'.heap.update s.heap.objs.size (Obj.mapSeq (·.push (.str y s'.toks))), toks := s'.toks + 1 } :=
      I'.lset (its := []) (its' := [.str y s'.toks]) hP' e2 rfl (.cons ⟨_, rfl⟩ .nil) (by show 1 ≤ sizeLine; decide)
    refine codeAny_builtin PySem.F.entry_list_repr_loop ?_
    show wpAny _ _ (Builtin.«list.__repr__.loop» ⟨[.ref p, .int (1 : Nat) 0, .ref s.heap.objs.size, .int _ 0], []⟩) _ _ _
    rw [repr_loop_tree]
    refine wpAny_bind (wpAny_listItems (o := { cls := .type "list", data := .seq #[.ref a] n3 }) ((Heap.get?_update_other _ _ (fun h : s.heap.objs.size = p => hne h.symm)).trans e3) rfl ?_)
    show wpAny _ _ (reprEnd (.ref s.heap.objs.size)) _ _ _
    unfold reprEnd
    refine wpAny_bind (wpAny_listItems (Heap.get?_update_self _ e2 rfl) rfl ?_)
    rw [show (Array.push (#[] : Array Value) (.str y s'.toks)).toList = strValues [(y, s'.toks)] from rfl, repr_fold]
    refine wpAny_bind (wpAny_pure ?_)
    refine wpAny_bind (wpAny_mkStr (wpAny_pure ?_) yl)
    refine ⟨_, _, rfl, .str (listText [y]), _, I2.kept fun _ _ e => e, ⟨_, rfl⟩, qz⟩
  · obtain ⟨its, rl, ⟨o, e, hcl, n, hd⟩, _⟩ := I.tuple (SqT.of hp)
    obtain ⟨u, rfl, ru⟩ := vals1 rl
    cases (show u = Value.ref a from ru)
    have hTy : s.TypeIs (.ref p) "tuple" := ⟨_, e, hcl⟩
    refine call_repr_slot (by omega) hTy PySem.F.slot_tuple_repr ?_
    refine wpAny_call (codeAny_call_builtin_own (Code.quiet_builtin _ (by decide +kernel)) PySem.F.entry_tuple_repr (PySem.F.slot_tuple_repr.check _ _ _ _ _ _ _ _ hTy (PySem.F.args_tuple_repr_1 _) ?_))
    show wpOwn _ _ _ (Builtin.tupleReprAt 0 ⟨[.ref p], []⟩) _ _ _
    rw [tuple_repr_tree, tupleReprUnderWay_eq]
    refine wpOwn_bind (wpOwn_stackTailAny (g := []) gd (tupGuardF_off _) (tupGuardF_pos _) ?_)
    refine wpOwn_of_wpAny ?_
    show wpAny _ _ (tupleReprRest 0 (.ref p)) _ _ s
    unfold tupleReprRest Builtin.Tuple.tupleItemsOf
    refine wpAny_bind (wpAny_bind (wpAny_seqItems e hd (wpAny_pure ?_)))
    rw [← Array.forIn_toList]
    show wpAny _ _ (forIn [Value.ref a] _ tupBody >>= _) _ _ _
    rw [List.forIn_cons]
    refine wpAny_bind (wpAny_bind (wpAny_bind ?_))
    obtain ⟨mA, O, _⟩ := ins_get I.hok ha
    obtain ⟨od, J, _⟩ := O.look
    refine under_own (by decide) ?_ I.kIn J h1 h2 ?_
    · rw [units_under_tuple_repr]
      show X.A.units + 1 + 1 < _
      omega
    have hroom : Room k (X.A.in1.under (.builtin "tuple.__repr__" ⟨[.ref p], []⟩)) := by
      refine ⟨by rw [hd_under_tup]; exact hr.hd, ?_, ?_⟩
      · rw [dp_under_tup]
        show X.A.depth + 1 + 3 * k + 5 < _
        omega
      · rw [units_under_tuple_repr]
        show X.A.units + 1 + 1 + 16 * k + 200 < _
        omega
    refine wpAny_mono (run_below FF hroom ⟨by rw [frames_under_tup]; exact e0.frames, e0.mod, e0.bs, e0.bsz, e0.funs, e0.frf, e0.hok, e0.bare⟩ b I (us := [.ref a]) (vs := [.ref a]) (.cons rfl .nil) q) (fun w' s' z => ?_) fun _ _ e => e
    obtain ⟨z', H', I', rz, y, rfl, yl, qz⟩ := z
    obtain ⟨t, rfl⟩ := rz
    refine ⟨y, t, rfl, wpAny_pure ?_⟩
    show wpAny _ _ (forIn [] _ tupBody) _ _ _
    rw [List.forIn_nil]
    refine wpAny_pure (wpAny_bind (wpAny_mkStr (wpAny_pure ?_) yl))
    exact ⟨_, _, rfl, .str (tupleText [y]), _, I'.kept fun _ _ e => e, ⟨_, rfl⟩, qz⟩
end
end Hx

namespace Hx
open PySem PySem.Spec PyProof.Rows L2
/-- repr of data, up to a line in length -/
def rReprL : List V → Hp → VK → Prop := fun xs H Q => ∃ v d, xs = [v] ∧ Dq H v d ∧ d.showable = true ∧ d.depth ≤ 20 ∧ d.shown.length ≤ sizeLine ∧ Q (.str d.shown) H
/-- repr(x) of an own object, its class in the reading -/
def rShowA (P : Program) (w : World) (K : PySem.W.Frag) (mg : Str → Option Value) (base : Heap) (k : Nat) : List V → Hp → VK → Prop := fun xs H Q => ∃ (a C dx : Addr) (fs : List (Str × V)) (sp : Sp), xs = [.ref a] ∧ H a = some (.ins C dx fs) ∧ Hx.ShowsBy P w K mg base k C sp ∧
  sp [.ref a] H (fun v H' => ∃ y : Str, v = .str y ∧ Q (.str y) H') E0
section
variable {X : Cx} {k : Nat}
theorem call_reprL (gd : X.A.guards = some []) (hu : X.A.units + 64 < cLine) (hm : Mods X.base) : CallR X (.builtin "repr") rReprL := by
  intro pins s σ H xs us Q I r h
  obtain ⟨v, d, rfl, hd, h1, h2, hz, q⟩ := h
  obtain ⟨u, rfl, ru⟩ := vals1 r
  obtain ⟨as, hr, ha⟩ := Dq.reads I d v u hd ru
  have hno : sysModules ∉ as := fun z => by
    obtain ⟨o, e⟩ := ha _ z
    obtain ⟨b, eb⟩ := hm
    have n := (I.bs _ _ eb).2
    rw [n] at e
    cases e
  have fin : ∀ (h' : Heap) (tu : Tok) (tk : Nat), (∀ b o, s.heap.get? b = some o → h'.get? b = some o) → EP X pins σ Q (.str d.shown tu) { s with heap := h', toks := tk } :=
    fun h' tu tk k => ⟨.str d.shown, H, I.kept (t' := tk) k, ⟨_, rfl⟩, q⟩
  cases hd with
  | non => cases ru; exact P.repr_of_none (fin _ _ _ fun _ _ z => z)
  | bl b => cases ru; exact P.repr_of_bool (fin _ _ _ fun _ _ z => z)
  | int i =>
    obtain ⟨t, rfl⟩ := ru
    exact P.repr_of_int (of_decide_eq_true h1) (fin _ _ _ fun _ _ z => z)
  | str x =>
    obtain ⟨t, rfl⟩ := ru
    exact P.repr_of_str (fin _ _ _ fun _ _ z => z) hz
  | lst _ _ => cases ru; exact repr_of_reads' hr h1 (fun _ => hno) gd (by omega) (fun _ _ z => z) fin hz
  | tup _ _ => cases ru; exact repr_of_reads' hr h1 (fun _ => hno) gd (by omega) (fun _ _ z => z) fin hz
  | dct _ _ => cases ru; exact repr_of_reads' hr h1 (fun _ => hno) gd (by omega) (fun _ _ z => z) fin hz
theorem call_showA (hr : Room (k + 1) X.A) : CallR X (.builtin "repr") (rShowA X.prog X.w X.K X.mg X.base k) := by
  intro pins s σ H xs us Q I r h
  obtain ⟨a, C, dx, fs, sp, rfl, ha, T, q⟩ := h
  exact call_show T hr pins s σ H _ us Q I r ⟨a, dx, fs, rfl, ha, q⟩
end
end Hx

/-! repr of a list and a tuple that hold one own object, while an exception is handled -/
namespace Hx
open PySem PySem.Spec PyProof.Rows L2 L2H HotX
structure ShowsH (P : Program) (w : World) (K : PySem.W.Frag) (mg : Str → Option Value) (base : Heap) (k : Nat) (C : Addr) (sp : Sp) : Prop where
  go : ∃ (g : Addr) (fd : FuncData), PySem.W.findIn K (.ref C) "__repr__" = some (some (.ref g)) ∧ PySem.W.isFn K (.ref g) = true ∧ FnH P w K mg base CX0 k g fd ["self"] sp ∧ Binds K fd ["self"] []
section
variable {X : Cx} {k : Nat} {C : Addr} {sp : Sp}
theorem run_hot {pins : List (Addr × Obj)} {σ : L2.St} {H : Hp} {s : Shared} {Q : VK} {us : List Value} {vs : List V} {A1 : Around} {f : Addr} {fd : FuncData} {ps : List Str} {p : Addr × Obj}
    (F : FnH X.prog X.w X.K X.mg X.base CX0 k f fd ps sp) (hr : RoomH k A1) (hot : Hot1 A1 p) (hp : p ∈ X.pn) (e0 : Env0 X.prog X.w X.K X.mg X.base A1 X.stack s H) (hb : Binds X.K fd ps []) (I : Inv X pins σ H s) (r : Vals vs us) (h : sp vs H Q E0) :
    wpAny (model X.prog X.w) A1 (call (.ref f) us) (EP X pins σ Q) X.xe s := by
  have l := F.len vs H Q E0 h
  have hl : us.length = ps.length := by rw [← r.length]; exact l
  have b := hb s us I.kIn (by rw [List.append_nil]; exact hl)
  rw [List.append_nil] at b
  have P1 := I.pin p (List.mem_append_left _ hp)
  have hpin : PinOk X.stack H s p := ⟨P1.1, P1.2.1, fun hm => (List.mem_cons.mp (I.stkSub p.1 hm)).elim P1.2.2.1 P1.2.2.2.1, P1.2.2.2.2⟩
  refine wpAny_call (codeAny_mono (F.run A1 X.stack s H ⟨us, []⟩ us vs Q E0 p hr hot hpin e0 b r h) fun r s' hq => ?_)
  match r, hq with
  | .error e, hq => exact (show False from hq).elim
  | .ok (.ret u), hq => exact I.after hq
  | .ok .next, hq => exact hq.elim
  | .ok .brk, hq => exact hq.elim
  | .ok .cont, hq => exact hq.elim
theorem call_repr1H (T : ShowsH X.prog X.w X.K X.mg X.base k C sp) (hr : RoomH (k + 4) X.A) (hc : HotC X) (gd : X.A.guards = some []) : CallR X (.builtin "repr") (rRepr1 C sp) := by
  intro pins s σ H xs us Q I r h
  obtain ⟨p, a, dx, fs, rfl, ha, h⟩ := h
  rw [Vals.ref1 r]
  obtain ⟨g, fd, h1, h2, FF, b⟩ := T.go
  have un := hr.un
  have dp := hr.dp
  have e0 := I.env0
  obtain ⟨pe, hot, hpe⟩ := hc
  rcases h with ⟨hp, q⟩ | ⟨hp, q⟩
  · obtain ⟨z, its, n, rl, el, e⟩ := I.lstM hp
    obtain ⟨u, rfl, ru⟩ := vals1 rl
    cases (show u = Value.ref a from ru)
    have hTy : s.TypeIs (.ref p) "list" := ⟨_, e, rfl⟩
    refine call_repr_slot (by omega) hTy PySem.F.slot_list_repr.toG ?_
    refine wpAny_call (codeAny_call_builtin PySem.F.slot_list_repr.plain PySem.F.entry_list_repr (PySem.F.slot_list_repr.check _ _ _ _ _ _ _ _ hTy (PySem.F.args_list_repr_1 _) ?_))
    refine wpAny_list_repr_head (A := X.A.in1.in1) gd (fun v rest kw hm => nomatch hm) e rfl ?_
    refine wpAny_bind (m := newList []) (wpAny_newObj_type ?_)
    refine wpAny_pure ⟨PySem.F.quiet_list_repr_loop _, ?_⟩
    have hn : H s.heap.objs.size = none := I.hok.fresh (Nat.le_refl _)
    have hne : p ≠ s.heap.objs.size := Nat.ne_of_lt (Heap.lt_size e)
    have hP : (s.heap.push { cls := .type "list", dict := none, data := .seq #[] 0, slots := #[] }).get? s.heap.objs.size = some { cls := .type "list", dict := none, data := .seq #[] 0, slots := #[] } := Heap.get?_push_size _ rfl
    have I1 : Inv X pins σ (upd H s.heap.objs.size (.lst [])) { s with heap := s.heap.push { cls := .type "list", dict := none, data := .seq #[] 0, slots := #[] }, toks := s.toks } :=
      I.laid (fun b o e => Heap.get?_push_of_some _ e) (Nat.le_refl _) (show ObjOk X.prog X.w _ _ _ (.lst []) from ⟨Nat.zero_le _, [], 0, .nil, hP⟩)
    refine codeAny_builtin PySem.F.entry_list_repr_loop ?_
    show wpAny _ _ (Builtin.«list.__repr__.loop» ⟨[.ref p, .int (0 : Nat) 0, .ref s.heap.objs.size, .int (0 : Nat) 0], []⟩) _ _ _
    rw [repr_loop_tree]
    refine wpAny_bind (wpAny_listItems (o := { cls := .type "list", data := .seq #[.ref a] n }) (Heap.get?_push_of_some _ e) rfl ?_)
    refine wpAny_bind (m := holding [.ref a] (pyReprUnder 1 (.ref a))) (wpAny_holding ?_)
    have ha1 : upd H s.heap.objs.size (.lst []) a = some (.ins C dx fs) := by
      rw [upd_ne (fun z => by rw [z, hn] at ha; cases ha)]
      exact ha
    obtain ⟨mA, O, _⟩ := ins_get I1.hok ha1
    obtain ⟨od, J, _⟩ := O.look
    refine under_own (by decide) ?_ I1.kIn J h1 h2 ?_
    · rw [units_under_list_loop]
      show X.A.units + 1 + 1 < _
      omega
    have hroom : RoomH k (X.A.in1.under (.builtin "list.__repr__.loop" ⟨[.ref p, rawInt (0 : Nat), .ref s.heap.objs.size, rawInt (0 : Nat)], []⟩)) := by
      refine ⟨?_, ?_⟩
      · rw [dp_under_loop]
        show X.A.depth + 1 + 3 * k + 5 < _
        omega
      · rw [units_under_list_loop]
        show X.A.units + 1 + 1 + 16 * k + 200 < _
        omega
    have e1 := I1.env0
    refine wpAny_mono (run_hot FF hroom ⟨by rw [hd_under_loop]; exact hot.1, hot.2⟩ hpe ⟨by rw [frames_under_loop]; exact e1.frames, e1.mod, e1.bs, e1.bsz, e1.funs, e1.frf, e1.hok, e1.bare⟩ b I1 (us := [.ref a]) (vs := [.ref a]) (.cons rfl .nil) (q _ hn)) (fun w' s' z => ?_) fun _ _ e => e
    obtain ⟨z', H', I', rz, y, rfl, yl, hP', hp', qz⟩ := z
    obtain ⟨t, rfl⟩ := rz
    refine ⟨y, t, rfl, ?_⟩
    have yle : y.length ≤ sizeLine := Nat.le_trans (listText_mem_le List.mem_cons_self) yl
    refine wpAny_bind (wpAny_mkStr ?_ yle)
    obtain ⟨z2, its2, n2, rl2, el2, e2⟩ := I'.lstM hP'
    cases rl2
    refine wpAny_bind ?_
    show wpAny _ _ (updateSeq s.heap.objs.size _) _ _ _
    refine wpAny_updateSeq e2 rfl (wpAny_pure ⟨PySem.F.quiet_list_repr_loop _, ?_⟩) (by seq_fits)
    obtain ⟨_, its3, n3, rl3, el3, e3⟩ := I'.lstM hp'
    obtain ⟨u3, rfl, ru3⟩ := vals1 rl3
    cases (show u3 = Value.ref a from ru3)
    have I2 : Inv X pins σ (upd H' s.heap.objs.size (.lst [.str y])) { s' with heap := s'.heap.update s.heap.objs.size (Obj.mapSeq (·.push (.str y s'.toks))), toks := s'.toks + 1 } :=
      I'.lset (its := []) (its' := [.str y s'.toks]) hP' e2 rfl (.cons ⟨_, rfl⟩ .nil) (by show 1 ≤ sizeLine; decide)
    refine codeAny_builtin PySem.F.entry_list_repr_loop ?_
    show wpAny _ _ (Builtin.«list.__repr__.loop» ⟨[.ref p, .int (1 : Nat) 0, .ref s.heap.objs.size, .int _ 0], []⟩) _ _ _
    rw [repr_loop_tree]
    refine wpAny_bind (wpAny_listItems (o := { cls := .type "list", data := .seq #[.ref a] n3 }) ((Heap.get?_update_other _ _ (fun h : s.heap.objs.size = p => hne h.symm)).trans e3) rfl ?_)
    show wpAny _ _ (reprEnd (.ref s.heap.objs.size)) _ _ _
    unfold reprEnd
    refine wpAny_bind (wpAny_listItems (Heap.get?_update_self _ e2 rfl) rfl ?_)
    rw [show (Array.push (#[] : Array Value) (.str y s'.toks)).toList = strValues [(y, s'.toks)] from rfl, repr_fold]
    refine wpAny_bind (wpAny_pure ?_)
    refine wpAny_bind (wpAny_mkStr (wpAny_pure ?_) yl)
    refine ⟨_, _, rfl, .str (listText [y]), _, I2.kept fun _ _ e => e, ⟨_, rfl⟩, qz⟩
  · obtain ⟨its, rl, ⟨o, e, hcl, n, hd⟩, _⟩ := I.tuple (SqT.of hp)
    obtain ⟨u, rfl, ru⟩ := vals1 rl
    cases (show u = Value.ref a from ru)
    have hTy : s.TypeIs (.ref p) "tuple" := ⟨_, e, hcl⟩
    refine call_repr_slot (by omega) hTy PySem.F.slot_tuple_repr ?_
    refine wpAny_call (codeAny_call_builtin_own (Code.quiet_builtin _ (by decide +kernel)) PySem.F.entry_tuple_repr (PySem.F.slot_tuple_repr.check _ _ _ _ _ _ _ _ hTy (PySem.F.args_tuple_repr_1 _) ?_))
    show wpOwn _ _ _ (Builtin.tupleReprAt 0 ⟨[.ref p], []⟩) _ _ _
    rw [tuple_repr_tree, tupleReprUnderWay_eq]
    refine wpOwn_bind (wpOwn_stackTailAny (g := []) gd (tupGuardF_off _) (tupGuardF_pos _) ?_)
    refine wpOwn_of_wpAny ?_
    show wpAny _ _ (tupleReprRest 0 (.ref p)) _ _ s
    unfold tupleReprRest Builtin.Tuple.tupleItemsOf
    refine wpAny_bind (wpAny_bind (wpAny_seqItems e hd (wpAny_pure ?_)))
    rw [← Array.forIn_toList]
    show wpAny _ _ (forIn [Value.ref a] _ tupBody >>= _) _ _ _
    rw [List.forIn_cons]
    refine wpAny_bind (wpAny_bind (wpAny_bind ?_))
    obtain ⟨mA, O, _⟩ := ins_get I.hok ha
    obtain ⟨od, J, _⟩ := O.look
    refine under_own (by decide) ?_ I.kIn J h1 h2 ?_
    · rw [units_under_tuple_repr]
      show X.A.units + 1 + 1 < _
      omega
    have hroom : RoomH k (X.A.in1.under (.builtin "tuple.__repr__" ⟨[.ref p], []⟩)) := by
      refine ⟨?_, ?_⟩
      · rw [dp_under_tup]
        show X.A.depth + 1 + 3 * k + 5 < _
        omega
      · rw [units_under_tuple_repr]
        show X.A.units + 1 + 1 + 16 * k + 200 < _
        omega
    refine wpAny_mono (run_hot FF hroom ⟨by rw [hd_under_tup]; exact hot.1, hot.2⟩ hpe ⟨by rw [frames_under_tup]; exact e0.frames, e0.mod, e0.bs, e0.bsz, e0.funs, e0.frf, e0.hok, e0.bare⟩ b I (us := [.ref a]) (vs := [.ref a]) (.cons rfl .nil) q) (fun w' s' z => ?_) fun _ _ e => e
    obtain ⟨z', H', I', rz, y, rfl, yl, qz⟩ := z
    obtain ⟨t, rfl⟩ := rz
    refine ⟨y, t, rfl, wpAny_pure ?_⟩
    show wpAny _ _ (forIn [] _ tupBody) _ _ _
    rw [List.forIn_nil]
    refine wpAny_pure (wpAny_bind (wpAny_mkStr (wpAny_pure ?_) yl))
    exact ⟨_, _, rfl, .str (tupleText [y]), _, I'.kept fun _ _ e => e, ⟨_, rfl⟩, qz⟩
/-- repr(v): data, or a list or tuple that holds one own object -/
def rReprH (C : Addr) (sp : Sp) : List V → Hp → VK → Prop := fun xs H Q => rReprL xs H Q ∨ rRepr1 C sp xs H Q
theorem call_reprH (T : ShowsH X.prog X.w X.K X.mg X.base k C sp) (hr : RoomH (k + 4) X.A) (hc : HotC X) (gd : X.A.guards = some []) (hm : Mods X.base) : CallR X (.builtin "repr") (rReprH C sp) := by
  intro pins s σ H xs us Q I r h
  rcases h with h | h
  · exact call_reprL gd (by have := hr.un; omega) hm pins s σ H xs us Q I r h
  · exact call_repr1H T hr hc gd pins s σ H xs us Q I r h
/-- the same where none is handled -/
theorem call_reprC (T : ShowsBy X.prog X.w X.K X.mg X.base k C sp) (hr : Room (k + 4) X.A) (gd : X.A.guards = some []) (hm : Mods X.base) : CallR X (.builtin "repr") (rReprH C sp) := by
  intro pins s σ H xs us Q I r h
  rcases h with h | h
  · exact call_reprL gd (by have := hr.un; omega) hm pins s σ H xs us Q I r h
  · exact call_repr1 T hr gd pins s σ H xs us Q I r h
end
end Hx

/-! (errors whose context is None) try with several clauses 'except x as n' -/
namespace Hx
open PySem PySem.Spec PyProof.Rows L2
/-- what is wished behind a clause's suite: the name is gone -/
def GoneN (i : Nat) (D : Ends) : Ends := { nx := fun σ' H' => D.nx (σ'.set i none) H', rt := D.rt, bk := fun σ' H' => D.bk (σ'.set i none) H', ct := fun σ' H' => D.ct (σ'.set i none) H' }
def wClausesN (K : PySem.W.Frag) (i : Nat) (Wout : WX) (D : Ends) : List (Value × (Addr → Value → Option Addr → TS)) → WX
  | [] => Wout
  | (c, ts) :: r => fun cls d σ H => ∃ b, PySem.W.exmOne K cls c = some b ∧ (b = true → ∀ a, H a = none → i < σ.length → ts a cls d (GoneN i D) (σ.set i (some (.ref a))) H) ∧ (b = false → wClausesN K i Wout D r cls d σ H)
inductive ClausesN (X : Cx) (n : Str) : List ExceptHandler → List (Value × (Addr → Value → Option Addr → TS)) → Prop
  | nil : ClausesN X n [] []
  | cons {x : Str} {c : Value} {ts : Addr → Value → Option Addr → TS} {b₀ : Stmt} {suite : List Stmt} {np pos' : Pos} {hds : List ExceptHandler} {l : List (Value × (Addr → Value → Option Addr → TS))} (hc : Names X x c)
      (hsu : ∀ (a : Addr) (oe : Obj) (cls : Value) (d : Option Addr) (pn : List (Addr × Obj)), L2N.Zn cls d oe → (∃ vs, oe.data = .fields vs) → PSs (X.suite a ((a, oe) :: pn)) (b₀ :: suite) (ts a cls d)) (r : ClausesN X n hds l) :
      ClausesN X n (.ExceptHandler (some (.Name x np)) (some n) (b₀ :: suite) pos' :: hds) ((c, ts) :: l)
section
variable {X : Cx} {n : Str} {i : Nat} {body : List Stmt} {h₀ : ExceptHandler} {hds : List ExceptHandler} {l : List (Value × (Addr → Value → Option Addr → TS))} {pos : Pos} {tb : WX → TS} {Wout : WX}
theorem ps_try_clausesN (hs : X.stack = X.env :: X.outer) (hf : X.env.frame = some X.env.locals) (hN : X.N.Nodup) (hi : X.N[i]? = some n) (hln : X.env.kindOf n = some .local) (tk : L2N.Takes X Wout)
    (hb : ∀ (W : WX) (pn : List (Addr × Obj)) (xe : Value → Shared → Prop), L2N.Takes (X.tr pn xe) W → PassesOwn (model X.prog X.w) X.A X.env xe → PSs (X.tr pn xe) body (tb W))
    (hh : ClausesN X n (h₀ :: hds) l) : PS X (.Try body (h₀ :: hds) [] [] pos) (fun D σ H => tb (wClausesN X.K i Wout D l) D σ H) := by
  constructor
  intro pins s σ H D I h
  have ok := I.ok
  have frames : X.A.frames = some (X.env :: X.outer) := by rw [ok.frames, hs]
  have loc : Loc X.env.scope n := .inl hln
  refine wpAny_Try_except ?_
  refine wpAny_mono ((hb (wClausesN X.K i Wout D l) (X.pn ++ pins) (fun e s₁ => wpAny (model X.prog X.w) X.A (noteFrame e X.env) (fun _ s₂ => wpAny (model X.prog X.w) X.A (setFlight e none) (fun _ s₃ =>
    wpAny (model X.prog X.w) X.A (handleBy e X.env (h₀ :: hds)) (SP X pins D) X.xe s₃) X.xe s₂) X.xe s₁) (fun u s' xx => ?_) PassesOwn.looking).run [] s σ H D (I.toTry _) h) (fun f s1 hsp => ?_) (fun e s1 he => he)
  case refine_2 =>
    cases f with
    | next => obtain ⟨σ', H', J', q⟩ := hsp; exact wpAny_execs_nil ⟨σ', H', J'.ofTry ok, q⟩
    | brk => obtain ⟨σ', H', J', q⟩ := hsp; exact ⟨σ', H', J'.ofTry ok, q⟩
    | cont => obtain ⟨σ', H', J', q⟩ := hsp; exact ⟨σ', H', J'.ofTry ok, q⟩
    | ret u => obtain ⟨v, σ', H', J', r, q⟩ := hsp; exact ⟨v, σ', H', J'.ofTry ok, r, q⟩
  obtain ⟨a, B, sI, pins', σ', H', cls, d, rfl, J', nb, up, sky, na, os, ag, w⟩ := xx
  have J : Inv X pins σ' H' sI := J'.ofTry ok
  have sky' : Sky B (X.env :: X.outer) a (L2N.Zn cls d) X.env.locals s'.heap := by rw [← hs]; exact sky
  show wpAny (model X.prog X.w) X.A (noteFrame (.ref a) X.env) _ _ _
  refine L2N.Sky.land L2N.Zn.steady frames hf sky' fun h3 fl3 up3 => ?_
  have J3 : Inv X pins σ' H' { s' with heap := h3 } := J.landed nb fl3.1 (up.trans up3) os ag
  obtain ⟨oe3, vs3, he3, hz3, hd3⟩ := fl3.there
  have off : a ∉ frs (X.env :: X.outer) := fun hm => by
    obtain ⟨_, o', e', hnf⟩ := fl3.2.2.1.mem hm
    rw [he3] at e'
    cases e'
    exact hnf _ hd3
  have offL : a ≠ X.env.locals := fun z => off (List.mem_filterMap.mpr ⟨X.env, List.mem_cons_self, by rw [hf, z]⟩)
  have offF : a ∉ X.fs := fun hm => by
    obtain ⟨e, he, q⟩ := List.mem_filterMap.mp hm
    exact off (List.mem_filterMap.mpr ⟨e, List.mem_cons_of_mem _ he, q⟩)
  have S3 := J3.suite he3 hd3 na offL offF
  have go : ∀ {hds' : List ExceptHandler} {l' : List (Value × (Addr → Value → Option Addr → TS))}, ClausesN X n hds' l' → wClausesN X.K i Wout D l' cls d σ' H' →
      wpAny (model X.prog X.w) X.A (handleBy (.ref a) X.env hds') (SP X pins D) X.xe { s' with heap := h3 } := by
    intro hds' l' hk
    induction hk with
    | nil =>
      intro w
      refine wpAny_handleBy_nil ?_
      obtain ⟨k1, k2, k3, oe, vs, T, oT, ts', he, hz, hd, h1, hr⟩ := id fl3
      unfold PySem.passOn
      refine wpAny_bind (wpAny_field he hd h1 ?_)
      rw [if_neg (show ¬ ((Value.ref T == Value.none) = true) from by simp)]
      have away : wpAny (model X.prog X.w) X.A (setFlight (.ref a) X.env.frame) (fun _ s4 => wpAny (model X.prog X.w) X.A (throw (.ref a) : Sem Flow) (SP X pins D) X.xe s4) X.xe { s' with heap := h3 } := by
        rw [hf]
        refine HandSPX.setFlight_upZ fl3 fun h4 hh4 up4 => wpAny_throw (tk _ _ ?_)
        exact ⟨a, B, sI, pins, σ', H', cls, d, rfl, J, nb, (up.trans up3).trans up4, .inr (.inr (by rw [hs]; exact hh4)), na, os, ag, w⟩
      first
        | exact wpAny_bind (wpAny_pure (wpAny_bind away))
        | exact wpAny_bind away
    | @cons x c ts b₀ suite np pos' hds2 l2 hc hsu r ih =>
      intro w
      obtain ⟨b, hb1, yes, no⟩ := w
      refine wpAny_handleBy_cons (codeAny_handlers_test ?_) (by intro q; cases q)
      have LT : PySem.W.Looks (model X.prog X.w) h3 (typeOf (.ref a)) cls := fun A Q E s k q => wpAny_typeOf_ref (k _ _ he3) (by rw [hz3.1]; exact q)
      have LM := PySem.W.exm_one (M := model X.prog X.w) (J3.kIn) LT hb1
      have test : ∀ {Q : Value → Shared → Prop} {E : Value → Shared → Prop}, Q c { s' with heap := h3 } → wpAny (model X.prog X.w) (X.A.mark (some (.ref a))) (eval (.Name x np) X.env) Q E { s' with heap := h3 } := fun {Q E} q => by
        obtain ⟨hg, hdbg, hm | ⟨hm, hv, hnn⟩⟩ := hc
        · exact ld_glob (X := X.suite a ((a, oe3) :: (X.pn ++ pins))) S3 hg hm q hdbg
        · exact ld_blt (X := X.suite a ((a, oe3) :: (X.pn ++ pins))) S3 hg hm hv q hnn hdbg
      refine test (LM.here ?_)
      cases b with
      | false =>
        show wpAny _ X.A (handleBy (.ref a) X.env hds2) _ _ _
        exact ih (no rfl)
      | true =>
        refine codeAny_handlers_suite_as ?_
        refine HandSPX.lands_againZ fl3 fun h4 fl4 up4 => ?_
        have J4 : Inv X pins σ' H' { s' with heap := h4 } := J.landed nb fl4.1 ((up.trans up3).trans up4) os ag
        obtain ⟨oe4, vs4, he4, hz4, hd4⟩ := fl4.there
        have S4 := J4.suite he4 hd4 na offL offF
        refine store_ok (X := X.suite a ((a, oe4) :: (X.pn ++ pins))) (v := .ref a) S4 hN hi loc rfl (fun s5 S5 => ?_) (.inr hln)
        refine wpAny_mono ((hsu a oe4 cls d (X.pn ++ pins) hz4 ⟨_, hd4⟩).run [] s5 _ H' _ S5 (yes rfl a na (by rw [J.len]; exact (List.getElem?_eq_some_iff.mp hi).1))) (fun f s6 hsp => ?_) (fun _ _ z => False.elim z)
        have last : ∀ {σ6 : L2.St} {H6 : Hp} {Q : Shared → Prop}, Inv (X.suite a ((a, oe4) :: (X.pn ++ pins))) [] σ6 H6 s6 → (∀ s7, Inv X pins (σ6.set i none) H6 s7 → Q s7) →
            wpAny (model X.prog X.w) X.A (do bindName X.env n .none; unbindBehindTheSuite X.env n pos') (fun _ s7 => Q s7) X.xe s6 := fun {σ6 H6 Q} S6 hq => gone_ok (S6.unsuite ok) hN hi hln hq
        cases f with
        | next => obtain ⟨σ6, H6, S6, q6⟩ := hsp; exact last S6 fun s7 J7 => ⟨_, _, J7, q6⟩
        | brk => obtain ⟨σ6, H6, S6, q6⟩ := hsp; exact last S6 fun s7 J7 => ⟨_, _, J7, q6⟩
        | cont => obtain ⟨σ6, H6, S6, q6⟩ := hsp; exact last S6 fun s7 J7 => ⟨_, _, J7, q6⟩
        | ret u => obtain ⟨v6, σ6, H6, S6, r6, q6⟩ := hsp; exact last S6 fun s7 J7 => ⟨_, _, _, J7, r6, q6⟩
  exact go hh w
end
end Hx

/-! try with several clauses 'except x as n' -/
namespace Hx
open PySem PySem.Spec PyProof.Rows L2
/-- what is wished behind a clause's suite: the name is gone -/
def Gone (i : Nat) (D : Ends) : Ends := { nx := fun σ' H' => D.nx (σ'.set i none) H', rt := D.rt, bk := fun σ' H' => D.bk (σ'.set i none) H', ct := fun σ' H' => D.ct (σ'.set i none) H' }
def wClauses (K : PySem.W.Frag) (i : Nat) (Wout : WX) (D : Ends) : List (Value × (Addr → Value → Option Addr → TS)) → WX
  | [] => Wout
  | (c, ts) :: r => fun cls d σ H => ∃ b, PySem.W.exmOne K cls c = some b ∧ (b = true → ∀ a, H a = none → i < σ.length → ts a cls d (Gone i D) (σ.set i (some (.ref a))) H) ∧ (b = false → wClauses K i Wout D r cls d σ H)
inductive Clauses (X : Cx) (n : Str) : List ExceptHandler → List (Value × (Addr → Value → Option Addr → TS)) → Prop
  | nil : Clauses X n [] []
  | cons {x : Str} {c : Value} {ts : Addr → Value → Option Addr → TS} {b₀ : Stmt} {suite : List Stmt} {np pos' : Pos} {hds : List ExceptHandler} {l : List (Value × (Addr → Value → Option Addr → TS))} (hc : Names X x c)
      (hsu : ∀ (a : Addr) (oe : Obj) (cls : Value) (d : Option Addr) (pn : List (Addr × Obj)), Zc cls d oe → (∃ vs, oe.data = .fields vs) → PSs (X.suite a ((a, oe) :: pn)) (b₀ :: suite) (ts a cls d)) (r : Clauses X n hds l) :
      Clauses X n (.ExceptHandler (some (.Name x np)) (some n) (b₀ :: suite) pos' :: hds) ((c, ts) :: l)
section
variable {X : Cx} {n : Str} {i : Nat} {body : List Stmt} {h₀ : ExceptHandler} {hds : List ExceptHandler} {l : List (Value × (Addr → Value → Option Addr → TS))} {pos : Pos} {tb : WX → TS} {Wout : WX}
theorem ps_try_clauses (hs : X.stack = X.env :: X.outer) (hf : X.env.frame = some X.env.locals) (hN : X.N.Nodup) (hi : X.N[i]? = some n) (hln : X.env.kindOf n = some .local) (tk : Takes X Wout)
    (hb : ∀ (W : WX) (pn : List (Addr × Obj)) (xe : Value → Shared → Prop), Takes (X.tr pn xe) W → PassesOwn (model X.prog X.w) X.A X.env xe → PSs (X.tr pn xe) body (tb W))
    (hh : Clauses X n (h₀ :: hds) l) : PS X (.Try body (h₀ :: hds) [] [] pos) (fun D σ H => tb (wClauses X.K i Wout D l) D σ H) := by
  constructor
  intro pins s σ H D I h
  have ok := I.ok
  have frames : X.A.frames = some (X.env :: X.outer) := by rw [ok.frames, hs]
  have loc : Loc X.env.scope n := .inl hln
  refine wpAny_Try_except ?_
  refine wpAny_mono ((hb (wClauses X.K i Wout D l) (X.pn ++ pins) (fun e s₁ => wpAny (model X.prog X.w) X.A (noteFrame e X.env) (fun _ s₂ => wpAny (model X.prog X.w) X.A (setFlight e none) (fun _ s₃ =>
    wpAny (model X.prog X.w) X.A (handleBy e X.env (h₀ :: hds)) (SP X pins D) X.xe s₃) X.xe s₂) X.xe s₁) (fun u s' xx => ?_) PassesOwn.looking).run [] s σ H D (I.toTry _) h) (fun f s1 hsp => ?_) (fun e s1 he => he)
  case refine_2 =>
    cases f with
    | next => obtain ⟨σ', H', J', q⟩ := hsp; exact wpAny_execs_nil ⟨σ', H', J'.ofTry ok, q⟩
    | brk => obtain ⟨σ', H', J', q⟩ := hsp; exact ⟨σ', H', J'.ofTry ok, q⟩
    | cont => obtain ⟨σ', H', J', q⟩ := hsp; exact ⟨σ', H', J'.ofTry ok, q⟩
    | ret u => obtain ⟨v, σ', H', J', r, q⟩ := hsp; exact ⟨v, σ', H', J'.ofTry ok, r, q⟩
  obtain ⟨a, B, sI, pins', σ', H', cls, d, rfl, J', nb, up, sky, na, os, ag, w⟩ := xx
  have J : Inv X pins σ' H' sI := J'.ofTry ok
  have sky' : Sky B (X.env :: X.outer) a (Zc cls d) X.env.locals s'.heap := by rw [← hs]; exact sky
  show wpAny (model X.prog X.w) X.A (noteFrame (.ref a) X.env) _ _ _
  refine Sky.land Zc.steady frames hf sky' fun h3 fl3 up3 => ?_
  have J3 : Inv X pins σ' H' { s' with heap := h3 } := J.landed nb fl3.1 (up.trans up3) os ag
  obtain ⟨oe3, vs3, he3, hz3, hd3⟩ := fl3.there
  have off : a ∉ frs (X.env :: X.outer) := fun hm => by
    obtain ⟨_, o', e', hnf⟩ := fl3.2.2.1.mem hm
    rw [he3] at e'
    cases e'
    exact hnf _ hd3
  have offL : a ≠ X.env.locals := fun z => off (List.mem_filterMap.mpr ⟨X.env, List.mem_cons_self, by rw [hf, z]⟩)
  have offF : a ∉ X.fs := fun hm => by
    obtain ⟨e, he, q⟩ := List.mem_filterMap.mp hm
    exact off (List.mem_filterMap.mpr ⟨e, List.mem_cons_of_mem _ he, q⟩)
  have S3 := J3.suite he3 hd3 na offL offF
  have go : ∀ {hds' : List ExceptHandler} {l' : List (Value × (Addr → Value → Option Addr → TS))}, Clauses X n hds' l' → wClauses X.K i Wout D l' cls d σ' H' →
      wpAny (model X.prog X.w) X.A (handleBy (.ref a) X.env hds') (SP X pins D) X.xe { s' with heap := h3 } := by
    intro hds' l' hk
    induction hk with
    | nil =>
      intro w
      refine wpAny_handleBy_nil ?_
      obtain ⟨k1, k2, k3, oe, vs, T, oT, ts', he, hz, hd, h1, hr⟩ := id fl3
      unfold PySem.passOn
      refine wpAny_bind (wpAny_field he hd h1 ?_)
      rw [if_neg (show ¬ ((Value.ref T == Value.none) = true) from by simp)]
      have away : wpAny (model X.prog X.w) X.A (setFlight (.ref a) X.env.frame) (fun _ s4 => wpAny (model X.prog X.w) X.A (throw (.ref a) : Sem Flow) (SP X pins D) X.xe s4) X.xe { s' with heap := h3 } := by
        rw [hf]
        refine HandSPX.setFlight_upZ fl3 fun h4 hh4 up4 => wpAny_throw (tk _ _ ?_)
        exact ⟨a, B, sI, pins, σ', H', cls, d, rfl, J, nb, (up.trans up3).trans up4, .inr (.inr (by rw [hs]; exact hh4)), na, os, ag, w⟩
      first
        | exact wpAny_bind (wpAny_pure (wpAny_bind away))
        | exact wpAny_bind away
    | @cons x c ts b₀ suite np pos' hds2 l2 hc hsu r ih =>
      intro w
      obtain ⟨b, hb1, yes, no⟩ := w
      refine wpAny_handleBy_cons (codeAny_handlers_test ?_) (by intro q; cases q)
      have LT : PySem.W.Looks (model X.prog X.w) h3 (typeOf (.ref a)) cls := fun A Q E s k q => wpAny_typeOf_ref (k _ _ he3) (by rw [hz3.1]; exact q)
      have LM := PySem.W.exm_one (M := model X.prog X.w) (J3.kIn) LT hb1
      have test : ∀ {Q : Value → Shared → Prop} {E : Value → Shared → Prop}, Q c { s' with heap := h3 } → wpAny (model X.prog X.w) (X.A.mark (some (.ref a))) (eval (.Name x np) X.env) Q E { s' with heap := h3 } := fun {Q E} q => by
        obtain ⟨hg, hdbg, hm | ⟨hm, hv, hnn⟩⟩ := hc
        · exact ld_glob (X := X.suite a ((a, oe3) :: (X.pn ++ pins))) S3 hg hm q hdbg
        · exact ld_blt (X := X.suite a ((a, oe3) :: (X.pn ++ pins))) S3 hg hm hv q hnn hdbg
      refine test (LM.here ?_)
      cases b with
      | false =>
        show wpAny _ X.A (handleBy (.ref a) X.env hds2) _ _ _
        exact ih (no rfl)
      | true =>
        refine codeAny_handlers_suite_as ?_
        refine HandSPX.lands_againZ fl3 fun h4 fl4 up4 => ?_
        have J4 : Inv X pins σ' H' { s' with heap := h4 } := J.landed nb fl4.1 ((up.trans up3).trans up4) os ag
        obtain ⟨oe4, vs4, he4, hz4, hd4⟩ := fl4.there
        have S4 := J4.suite he4 hd4 na offL offF
        refine store_ok (X := X.suite a ((a, oe4) :: (X.pn ++ pins))) (v := .ref a) S4 hN hi loc rfl (fun s5 S5 => ?_) (.inr hln)
        refine wpAny_mono ((hsu a oe4 cls d (X.pn ++ pins) hz4 ⟨_, hd4⟩).run [] s5 _ H' _ S5 (yes rfl a na (by rw [J.len]; exact (List.getElem?_eq_some_iff.mp hi).1))) (fun f s6 hsp => ?_) (fun _ _ z => False.elim z)
        have last : ∀ {σ6 : L2.St} {H6 : Hp} {Q : Shared → Prop}, Inv (X.suite a ((a, oe4) :: (X.pn ++ pins))) [] σ6 H6 s6 → (∀ s7, Inv X pins (σ6.set i none) H6 s7 → Q s7) →
            wpAny (model X.prog X.w) X.A (do bindName X.env n .none; unbindBehindTheSuite X.env n pos') (fun _ s7 => Q s7) X.xe s6 := fun {σ6 H6 Q} S6 hq => gone_ok (S6.unsuite ok) hN hi hln hq
        cases f with
        | next => obtain ⟨σ6, H6, S6, q6⟩ := hsp; exact last S6 fun s7 J7 => ⟨_, _, J7, q6⟩
        | brk => obtain ⟨σ6, H6, S6, q6⟩ := hsp; exact last S6 fun s7 J7 => ⟨_, _, J7, q6⟩
        | cont => obtain ⟨σ6, H6, S6, q6⟩ := hsp; exact last S6 fun s7 J7 => ⟨_, _, J7, q6⟩
        | ret u => obtain ⟨v6, σ6, H6, S6, r6, q6⟩ := hsp; exact last S6 fun s7 J7 => ⟨_, _, _, J7, r6, q6⟩
  exact go hh w
end
end Hx

/-! a def that calls what it gets, and tells an error by its name and the repr of what it was given -/
namespace Hx
open PySem PySem.Spec PyProof.Rows L2 LamX
/-- the classes of errors of its clauses -/
structure ExcX (K : PySem.W.Frag) (mg : Str → Option Value) (L : List (Str × Addr)) : Prop where
  xf : ∀ p ∈ L, XfC K p.2
  no : ∀ p ∈ L, PySem.W.findIn K (.ref p.2) "given" = some none
  m : ∀ p ∈ L, mg p.1 = some (.ref p.2)
  exm : ∀ p ∈ L, ∀ r ∈ L, PySem.W.exmOne K (.ref p.2) (.ref r.2) = some (decide (p.1 = r.1))
  db : ∀ p ∈ L, (p.1 == ("__debug__" : Str)) = false
inductive HdsL : List Str → List ExceptHandler → Prop
  | nil : HdsL [] []
  | cons {nm : Str} {ns : List Str} {hds : List ExceptHandler} {p1 p2 p3 p4 p5 p6 p7 p8 p9 : Pos} {j k : Nat} : HdsL ns hds →
    HdsL (nm :: ns) (.ExceptHandler (some (.Name nm p1)) (some "e") [.Return (some (.Tuple [.Constant (.str nm) j p2, .Call (.Name "repr" p3) [.Attribute (.Name "e" p4) "given" p5] [] p6] k p7)) p8] p9 :: hds)
def tsOf (i : Nat) (p : Str × Addr) (a : Addr) (cls : Value) (d : Option Addr) : TS := tRet (tTup (tCons (tC (.str p.1)) (tCons (tCB rReprL (tCons (tXf a cls d p.2 "given" (tVar i)) tNil)) tNil)))
theorem clauses_of {X : Cx} {i : Nat} {L : List (Str × Addr)} (EX : ExcX X.K X.mg L) (gl : ∀ p ∈ L, Gl X p.1) (gr : Gl X "repr") (mr : X.mg "repr" = none) (hi : X.N[i]? = some ("e" : Str)) (hv : Vis X.env.scope "e")
    (gd : X.A.guards = some []) (hu : X.A.units + 64 < cLine) (hm : Mods X.base) :
    ∀ {M : List (Str × Addr)} {hds : List ExceptHandler}, (∀ p ∈ M, p ∈ L) → HdsL (M.map (·.1)) hds → Clauses X "e" hds (M.map fun p => (Value.ref p.2, tsOf i p)) := by
  intro M
  induction M with
  | nil =>
    intro hds _ h
    cases h
    exact .nil
  | cons p M ih =>
    intro hds sub h
    have hp := sub p List.mem_cons_self
    cases h with
    | cons r =>
      refine .cons ⟨gl p hp, EX.db p hp, .inl (EX.m p hp)⟩ (fun a oe cls d pn hz hd => ?_) (ih (fun q hq => sub q (List.mem_cons_of_mem _ hq)) r)
      exact pss_one (ps_ret (pe_tup (pa_cons pe_str (pa_cons (pe_callB (call_reprL gd hu hm) gr mr PyProof.Rows.boot_repr (pa_cons (pe_xf (EX.xf p hp) (EX.no p hp) hz hd (pe_var (i := i) hi hv)) pa_nil)) pa_nil))))
/-- an error that is told: what it was given is small data -/
def CaughtE (L : List (Str × Addr)) (Q : VK) : XK := fun cls d H' => ∃ (p : Str × Addr) (dd : Addr) (v : V) (dt : PyData), p ∈ L ∧ cls = .ref p.2 ∧ d = some dd ∧ H' dd = some (.xd [("given", v)]) ∧ Dq H' v dt ∧ dt.showable = true ∧ dt.depth ≤ 20 ∧ dt.shown.length ≤ sizeLine ∧
  ∀ q, H' q = none → Q (.ref q) (upd H' q (.tup [.str p.1, .str dt.shown]))
def TCaught (L : List (Str × Addr)) : (XK → Hp → VK → Prop) → Hp → VK → Prop := fun tl H Q => tl (CaughtE L Q) H fun v H' => ∃ x, some (some v) = some (some x) ∧ ([V.str "told", x].length ≤ sizeLine ∧ ∀ q, H' q = none → Q (.ref q) (upd H' q (.tup [.str "told", x])))
theorem caught_w {K : PySem.W.Frag} {mg : Str → Option Value} {L : List (Str × Addr)} (EX : ExcX K mg L) {i : Nat} {D : Ends} {Wout : WX} {cls : Value} {d : Option Addr} {σ : L2.St} {H : Hp} (h : CaughtE L D.rt cls d H) :
    ∀ {M : List (Str × Addr)}, (∀ p ∈ M, p ∈ L) → (∃ p ∈ M, cls = .ref p.2) → wClauses K i Wout D (M.map fun p => (Value.ref p.2, tsOf i p)) cls d σ H := by
  obtain ⟨p, dd, v, dt, hp, rfl, rfl, hd, hv, s1, s2, s3, q⟩ := h
  intro M
  induction M with
  | nil =>
    rintro _ ⟨r, hr, _⟩
    cases hr
  | cons r M ih =>
    rintro sub ⟨x, hx, ex⟩
    have hr := sub r List.mem_cons_self
    refine ⟨_, EX.exm p hp r hr, fun c a na hi => ?_, fun c => ?_⟩
    · have e1 : p.1 = r.1 := of_decide_eq_true c
      have e2 : p.2 = r.2 := by
        exact Value.ref.inj (Option.some.inj ((EX.m p hp).symm.trans (by rw [e1]; exact EX.m r hr)))
      refine ⟨.ref a, ?_, rfl, by rw [e2], dd, _, v, rfl, hd, rfl, v, dt, rfl, hv, s1, s2, s3, (by show 2 ≤ sizeLine; decide), fun q' hq' => ?_⟩
      · rw [List.getElem?_set_self hi]
      · rw [← e1]
        exact q q' hq'
    · refine ih (fun y hy => sub y (List.mem_cons_of_mem _ hy)) ?_
      rcases List.mem_cons.mp hx with rfl | hx
      · have e1 : p.1 = x.1 := by
          have hx' := sub x List.mem_cons_self
          have e3 := EX.exm p hp x hx'
          have e4 : p.2 = x.2 := Value.ref.inj ex
          have e5 := EX.exm x hx' x hx'
          rw [← e4] at e5 e3
          rw [e3] at e5
          have e6 := Option.some.inj e5
          rw [c] at e6
          simp at e6
        rw [decide_eq_true e1] at c
        cases c
      · exact ⟨x, hx, ex⟩
/-- try: told = act() / except C as e: return (name, repr(e.given)) .. / return ('told', told) -/
theorem caught_gives {X : Cx} {L : List (Str × Addr)} {Ng : List Str} {x a q : Str} {sg : Scope} {g : Addr} {cdg : Value} {h₀ : ExceptHandler} {hds : List ExceptHandler} {p1 p2 p3 p4 p5 p6 p7 p8 p9 : Pos} {j k : Nat}
    (EX : ExcX X.K X.mg L) (hNd : Ng.Nodup) (hN : Ng = [a, "_law_told", "e"]) (hL : HdsL (L.map (·.1)) (h₀ :: hds)) (gl : ∀ p ∈ L, sg.names.lookup p.1 = some .globalImplicit) (gr : sg.names.lookup ("repr" : Str) = some .globalImplicit) (mr : X.mg "repr" = none)
    (lt : sg.names.lookup ("_law_told" : Str) = some .local) (le : sg.names.lookup ("e" : Str) = some .local) (gd : X.A.guards = some []) (hm : Mods X.base)
    (hu : ∀ (s : Shared), (X.A.deeper (envOfC x sg s.heap.objs.size g cdg)).units + 64 < cLine) :
    GivesTo X Ng x sg g cdg [.Try [.Assign [.Name "_law_told" p1] (.Call (.Name a p2) [] [] p3) p4] (h₀ :: hds) [] [] p5, .Return (some (.Tuple [.Constant (.str "told") j p6, .Name "_law_told" p7] k p8)) p9] a q (TCaught L) := by
  subst hN
  intro f c' s H Q tl act hc h
  let X' := (cxOf C8.CX0 X.prog X.w X.K X.mg X.base [a, "_law_told", "e"] x sg g cdg X.A X.stack s H C8.E0).nox
  have cl : Clauses X' "e" (h₀ :: hds) (L.map fun p => (Value.ref p.2, tsOf 2 p)) :=
    clauses_of (X := X') EX gl gr mr rfl (.inl le) gd (hu s) hm (fun _ h => h) hL
  refine ⟨_, pss_cons (ps_try_clauses (X := X') (i := 2) (n := "e")
      (tb := fun W D σ H => ∃ Ech : XK, (∀ cls d σ' H', Ech cls d H' → W cls d σ' H') ∧ σ[0]? = some (some (.ref f)) ∧ H c' = some (CodeO c' q) ∧ tl Ech H fun v H1 => D.nx (σ.set 1 (some v)) H1)
      rfl rfl hNd rfl le LamX.takes0 (fun W pn xe tk _ => ?_) cl) (pss_one (ps_ret (pe_tup (pa_cons pe_str (pa_cons (pe_var (i := 1) rfl (.inl lt)) pa_nil))))), ?_⟩
  · refine ⟨fun pins s' σ H' D I h' => ?_⟩
    obtain ⟨Ech, hW, h1, h2, h3⟩ := h'
    have hp := act W pn xe Ech p2 p3 tk hW
    have hq := pss_one (ps_set (i := 1) (pos := p4) (pos' := p1) hNd rfl (Or.inl lt) hp)
    exact hq.run pins s' σ H' D I ⟨h1, h2, h3⟩
  · exact ⟨CaughtE L Q, fun cls d σ' H' hE => caught_w EX hE (fun _ h => h) (by obtain ⟨p, dd, v, dt, hp, e, _⟩ := hE; exact ⟨p, hp, e⟩), rfl, hc, h⟩
end Hx

/-! _law_caught(lambda: ..) where what is told in the except suite runs an own __repr__ -/
namespace Hx
open PySem PySem.Spec PyProof.Rows L2 LamX L2H HotX
/-- the lambda's frame; what leaves it has no context -/
def lamCxN (X : Cx) (A : Around) (outer : List Env) (s : Shared) (H : Hp) (E : XK) (scope : Scope) (f c' : Addr) : Cx :=
  { lamCx X A outer s H E scope f c' with
    xe := fun e s' => wpAny (model X.prog X.w) (A.deeper (lamEnv X scope s.heap.objs.size f c')) (leaving (lamEnv X scope s.heap.objs.size f c') e) (fun _ s'' => L2N.CX X.prog X.w outer H s E e s'') (fun e' s'' => L2N.CX X.prog X.w outer H s E e' s'') s' }
theorem inv_lamN {X : Cx} {A : Around} {outer : List Env} {s s1 : Shared} {H H' : Hp} {E : XK} {scope : Scope} {f c' : Addr} {pins : List (Addr × Obj)} {σ : L2.St} (I : Inv (lamCx X A outer s H E scope f c') pins σ H' s1) : Inv (lamCxN X A outer s H E scope f c') pins σ H' s1 :=
  ⟨⟨I.ok.mod, I.ok.kind, I.ok.glob, I.ok.blt, I.ok.above, I.ok.inj, I.ok.has, I.ok.cab, I.ok.hd, I.ok.frames, I.ok.stk, I.ok.exf, I.ok.bs, I.ok.bsz, I.ok.noex, I.ok.exfs, I.ok.funs, I.ok.frf⟩, I.os, I.bare, I.base, I.loc, I.cell, I.free, I.freeC, I.pin, I.hok, I.len⟩
section
variable {X : Cx} {pins : List (Addr × Obj)} {σ : L2.St} {H HZ : Hp} {s s1 : Shared}
/-- a(), in the def that got the lambda -/
theorem pe_actN {Eg : XK} {Ng : List Str} {qg : Str} {sg : Scope} {g f c' : Addr} {cdg pm ctv : Value} {params : Arguments} {body : Expr} {scope : Scope} {k i : Nat} {a : Str} {pn : List (Addr × Obj)} {xe : Value → Shared → Prop} {W : WX} {E : XK} {tb : TE} {p1 p2 : Pos}
    (I : Inv X pins σ H s) (L : LamS X.env.scope scope) (hf : s.heap.get? f = some (PySem.W.kla_obj "<lambda>" (X.env.qual ++ "<lambda>") params body scope (cloFrom X.env.cells scope.names []) pm c' ctv)) (hfn : H f = none) (hfr : f ∉ frs X.stack)
    (hbind : bindArgs (PySem.W.kla_fn "<lambda>" (X.env.qual ++ "<lambda>") params body scope (cloFrom X.env.cells scope.names []) pm (.ref c') ctv) ⟨[], []⟩ = pure [])
    (tk : L2N.Takes ((cxOf C8.CX0 X.prog X.w X.K X.mg X.base Ng qg sg g cdg X.A X.stack s H Eg).tr pn xe) W) (hW : ∀ cls d σ' H', E cls d H' → W cls d σ' H') (hr : Room (k + 1) (X.A.deeper (envOfC qg sg s.heap.objs.size g cdg)))
    (hbody : ∀ (A : Around) (outer : List Env) (s : Shared) (H : Hp), Room k (A.deeper (lamEnv X scope s.heap.objs.size f c')) → PE (lamCxN X A outer s H E scope f c') body tb)
    (hN : Ng[i]? = some a) (hv : Vis sg a) (hd : (a == ("__debug__" : Str)) = false := by decide) (hcd : (a == ("__classdict__" : Str)) = false := by decide) :
    PE ((cxOf C8.CX0 X.prog X.w X.K X.mg X.base Ng qg sg g cdg X.A X.stack s H Eg).tr pn xe) (.Call (.Name a p1) [] [] p2)
      (fun σZ HZ Q => σZ[i]? = some (some (.ref f)) ∧ HZ c' = some (CodeO c' (X.env.qual ++ "<lambda>")) ∧ tb σ HZ Q) := by
  refine ⟨fun pinsZ sZ σZ HZ Q IZ h => ?_⟩
  obtain ⟨hs, hc, ht⟩ := h
  refine wpAny_Call_Name_kw (thn ((pe_var (pos := p1) (i := i) hN hv hd hcd).run pinsZ sZ σZ HZ (fun v H1 => v = .ref f ∧ H1 = HZ) IZ ⟨.ref f, hs, rfl, rfl⟩) fun u s1 ⟨v, H1, I1, r1, q1⟩ => ?_)
  obtain ⟨rfl, rfl⟩ := q1
  obtain rfl : u = Value.ref f := r1
  have un : Un (frs X.stack) [] H H1 s.heap s1.heap := I1.base
  have of1 := un.keep f _ hf hfn hfr (fun z => nomatch z)
  refine PySem.W.callWith_F0 ⟨_, _, _, _, of1⟩ ?_
  obtain ⟨⟨oc, vs, t, hoc, hdc, hvc⟩, _, _⟩ := I1.hok c' _ hc
  refine wpAny_call (codeAny_mono (R := CR (L2N.CX X.prog X.w) (envOfC qg sg s.heap.objs.size g cdg :: X.stack) X.prog X.w H1 s1 Q E) ?_ fun r s' hq => ?_)
  · refine PySem.W.kla_callFunE hr.depth of1 rfl L.co L.gen rfl ⟨c', oc, vs, t, rfl, hoc, hdc, hvc⟩ ?_
    rw [List.append_nil, hbind]
    refine wpAny_pure (wpAny_newFunctionEnv (fun y hy => (L.own y hy).2) (fun y hy => absurd hy (by simp)) (fun h₁ hns hsb => ⟨I1.nolimit.fresh _ hsb, ?_⟩) L.kind)
    show codeAny _ _ (.expr body (lamEnv X scope s1.heap.objs.size f c')) _ _
    have J := inv_lamN (lam_start2 (E := E) (f := f) (c' := c') (tk := s1.toks + ([] : List (Str × Value)).length) I L I1.env0 hr.hd un hns fun b o e => hsb.extBut b o (Nat.ne_of_lt (Heap.lt_size e)) (Heap.get?_push_of_some _ e))
    refine PySem.W.kla_codeExpr (wpAny_mono ((hbody _ _ s1 H1 (hr.deeper _)).run [] _ _ H1 Q J ht) (fun v s' hq => ?_) fun e s' hq => hq)
    obtain ⟨w', H', J', rv, q⟩ := hq
    exact ⟨w', H', J'.os, J'.bare, J'.base, J'.hok, rv, q⟩
  match r, hq with
  | .error e, hq => exact L2N.passes_call tk hW pinsZ σZ H1 s1 e s' I1 hq
  | .ok (.ret u), hq => exact I1.after hq
  | .ok .next, hq => exact False.elim hq
  | .ok .brk, hq => exact False.elim hq
  | .ok .cont, hq => exact False.elim hq
end
/-- what a def makes of the lambda that it calls as a -/
def GivesN (X : Cx) (Ng : List Str) (x : Str) (sg : Scope) (g : Addr) (cdg : Value) (bg : List Stmt) (a : Str) (q : Str) (TT : (XK → Hp → VK → Prop) → Hp → VK → Prop) : Prop :=
  ∀ (f c' : Addr) (s : Shared) (H : Hp) (Q : VK) (tl : XK → Hp → VK → Prop),
    (∀ (W : WX) (pn : List (Addr × Obj)) (xe : Value → Shared → Prop) (E : XK) (p1 p2 : Pos), L2N.Takes ((cxOf C8.CX0 X.prog X.w X.K X.mg X.base Ng x sg g cdg X.A X.stack s H C8.E0).tr pn xe) W → (∀ cls d σ' H', E cls d H' → W cls d σ' H') →
      PE ((cxOf C8.CX0 X.prog X.w X.K X.mg X.base Ng x sg g cdg X.A X.stack s H C8.E0).tr pn xe) (.Call (.Name a p1) [] [] p2) (fun σZ HZ Q => σZ[0]? = some (some (.ref f)) ∧ HZ c' = some (CodeO c' q) ∧ tl E HZ Q)) →
    H c' = some (CodeO c' q) → TT tl H Q →
    ∃ t, PSs (cxOf C8.CX0 X.prog X.w X.K X.mg X.base Ng x sg g cdg X.A X.stack s H C8.E0).nox bg t ∧ t { nx := fun _ H' => Q .non H', rt := Q } (L2.start Ng [.ref f]) H
section
variable {X : Cx}
theorem pe_lamN {T : List (Addr × Str)} {TT : (XK → Hp → VK → Prop) → Hp → VK → Prop} {x a : Str} {g c P : Addr} {k : Nat} {pg : Arguments} {bg : List Stmt} {sg : Scope} {dV kV doc pm cdv ct oc : Value} {an od : Option Addr} {osl : Array (Option Value)} {Ng : List Str}
    {params : Arguments} {body : Expr} {scope : Scope} {t : XK → TE} {p lpos pos : Pos} (hg : Gl X x) (hm : X.mg x = some (.ref g)) (hk : PySem.W.keepIn X.K (.ref g) = true)
    (lk : X.K.lookup g = some ⟨oc, od, .func (PySem.W.fnOf x x pg bg sg dV kV doc pm an cdv ct), osl⟩) (hcg : PySem.W.codeIn X.K cdv x = true) (hb : L2.Binds X.K (PySem.W.fnOf x x pg bg sg dV kV doc pm an cdv ct) [a] []) (Sg : FnScope Ng [a] sg) (hNg : Ng[0]? = some a) (hva : Vis sg a)
    (hG : GivesN X Ng x sg g cdv bg a (X.env.qual ++ "<lambda>") TT)
    (TB : TabB X.base X.mg c P) (hcode : X.env.code = .ref c) (hmT : (P, X.env.qual ++ "<lambda>") ∈ T) (hu : ∀ p ∈ T, p.1 = P → p.2 = X.env.qual ++ "<lambda>") (hr : Room (k + 2) X.A) (L : LamS X.env.scope scope) (hdef : defaultsOf params X.env = ([], []))
    (hbind : ∀ (q : Str) (cl : List (Str × Addr)) (pm cv ctv : Value), bindArgs (PySem.W.kla_fn "<lambda>" q params body scope cl pm cv ctv) ⟨[], []⟩ = pure [])
    (hbody : ∀ (A : Around) (outer : List Env) (s : Shared) (H : Hp) (E : XK) (f c' : Addr), Room k (A.deeper (lamEnv X scope s.heap.objs.size f c')) → PE (lamCxN X A outer s H E scope f c') body (t E))
    (hdb : (x == ("__debug__" : Str)) = false := by decide) (hd : (a == ("__debug__" : Str)) = false := by decide) (hcd : (a == ("__classdict__" : Str)) = false := by decide) :
    PE X (.Call (.Name x p) [.Lambda params body scope lpos] [] pos) (tLam T TT t) := by
  refine ⟨fun pins s σ H Q I h => ?_⟩
  obtain ⟨hT, h⟩ := h
  refine wpAny_Call_Name_kw (ld_glob I hg hm ?_ hdb)
  refine PySem.W.callWith_K (h₀ := X.base) I.ok.mod.kin hk ?_ (by rfl) (by rfl)
  show wpAny _ _ (spliced ((false, eval (.Lambda params body scope lpos) X.env) :: backTo pos (starEach [] X.env))) _ _ s
  refine Calls.spliced_cons (lam_make2 I TB hcode hmT hu hT hdef (L.has I.ok) fun f c' pm' ctv H1 s' I1 eN T1 hf hfn hfr hco => ?_)
  refine Calls.spliced_nil ⟨I1.kIn, ?_⟩
  refine wpAny_call (codeAny_mono (R := CR C8.CX0 X.stack X.prog X.w H1 s' Q C8.E0) (run_ofS (N := Ng) (ps := [a]) (us := [.ref f]) (vs := [.ref f]) lk hcg Sg hr I1.env0 (hb s' [.ref f] I1.kIn rfl) (.cons rfl .nil) rfl fun hr' => ?_) fun r s2 hq => ?_)
  · obtain ⟨t', ht', hq'⟩ := hG f c' s' H1 Q (fun E H' Q' => t E σ H' Q') (fun W pn xe E p1 p2 tk hW => pe_actN (i := 0) I1 L hf hfn hfr (hbind _ _ _ _ _) tk hW hr' (fun A outer s H hr2 => hbody A outer s H E f c' hr2) hNg hva hd hcd) hco (h H1 eN T1)
    exact ⟨t', ht'.nox, hq'⟩
  match r, hq with
  | .error e, hq => exact (show False from hq).elim
  | .ok (.ret u), hq => exact I1.after hq
  | .ok .next, hq => exact False.elim hq
  | .ok .brk, hq => exact False.elim hq
  | .ok .cont, hq => exact False.elim hq
theorem takes0N {X : Cx} : L2N.Takes X (fun _ _ _ _ => False) := fun _ _ x => by
  obtain ⟨_, _, _, _, _, _, _, _, _, _, _, _, _, _, _, _, z⟩ := x
  exact z.elim
end
/-! the clauses -/
def tsOfN (C : Addr) (sp : Sp) (i : Nat) (p : Str × Addr) (a : Addr) (cls : Value) (d : Option Addr) : TS := tRet (tTup (tCons (tC (.str p.1)) (tCons (tCB (rReprH C sp) (tCons (tXf a cls d p.2 "given" (tVar i)) tNil)) tNil)))
theorem clauses_ofN {X : Cx} {k i : Nat} {C : Addr} {sp : Sp} {L : List (Str × Addr)} (EX : ExcX X.K X.mg L) (T : ShowsH X.prog X.w X.K X.mg X.base k C sp) (gl : ∀ p ∈ L, Gl X p.1) (gr : Gl X "repr") (mr : X.mg "repr" = none) (hi : X.N[i]? = some ("e" : Str)) (hv : Vis X.env.scope "e")
    (gd : X.A.guards = some []) (hr : RoomH (k + 4) X.A) (hm : Mods X.base) :
    ∀ {M : List (Str × Addr)} {hds : List ExceptHandler}, (∀ p ∈ M, p ∈ L) → HdsL (M.map (·.1)) hds → ClausesN X "e" hds (M.map fun p => (Value.ref p.2, tsOfN C sp i p)) := by
  intro M
  induction M with
  | nil =>
    intro hds _ h
    cases h
    exact .nil
  | cons p M ih =>
    intro hds sub h
    have hp := sub p List.mem_cons_self
    cases h with
    | cons r =>
      refine .cons ⟨gl p hp, EX.db p hp, .inl (EX.m p hp)⟩ (fun a oe cls d pn hz hd => ?_) (ih (fun q hq => sub q (List.mem_cons_of_mem _ hq)) r)
      obtain ⟨vs, hvs⟩ := id hd
      have hot : HotC (X.suite a ((a, oe) :: pn)) := ⟨(a, oe), ⟨rfl, vs, hvs, hz.2.2 vs hvs⟩, List.mem_cons_self⟩
      exact pss_one (ps_ret (pe_tup (pa_cons pe_str (pa_cons (pe_callB (call_reprH (X := X.suite a ((a, oe) :: pn)) T ⟨hr.dp, hr.un⟩ hot gd hm) gr mr PyProof.Rows.boot_repr (pa_cons (pe_xf (EX.xf p hp) (EX.no p hp) (L2N.Zn.zc hz) hd (pe_var (i := i) hi hv)) pa_nil)) pa_nil))))
/-- an error that is told -/
def CaughtN (C : Addr) (sp : Sp) (L : List (Str × Addr)) (Q : VK) : XK := fun cls d H' => ∃ (p : Str × Addr) (dd : Addr) (v : V), p ∈ L ∧ cls = .ref p.2 ∧ d = some dd ∧ H' dd = some (.xd [("given", v)]) ∧
  rReprH C sp [v] H' fun y H2 => [V.str p.1, y].length ≤ sizeLine ∧ ∀ q, H2 q = none → Q (.ref q) (upd H2 q (.tup [.str p.1, y]))
def TCaughtN (C : Addr) (sp : Sp) (L : List (Str × Addr)) : (XK → Hp → VK → Prop) → Hp → VK → Prop := fun tl H Q => tl (CaughtN C sp L Q) H fun v H' => ∃ x, some (some v) = some (some x) ∧ ([V.str "told", x].length ≤ sizeLine ∧ ∀ q, H' q = none → Q (.ref q) (upd H' q (.tup [.str "told", x])))
theorem caught_wN {K : PySem.W.Frag} {mg : Str → Option Value} {C : Addr} {sp : Sp} {L : List (Str × Addr)} (EX : ExcX K mg L) {i : Nat} {D : Ends} {Wout : WX} {cls : Value} {d : Option Addr} {σ : L2.St} {H : Hp} (h : CaughtN C sp L D.rt cls d H) :
    ∀ {M : List (Str × Addr)}, (∀ p ∈ M, p ∈ L) → (∃ p ∈ M, cls = .ref p.2) → wClausesN K i Wout D (M.map fun p => (Value.ref p.2, tsOfN C sp i p)) cls d σ H := by
  obtain ⟨p, dd, v, hp, rfl, rfl, hd, q⟩ := h
  intro M
  induction M with
  | nil =>
    rintro _ ⟨r, hr, _⟩
    cases hr
  | cons r M ih =>
    rintro sub ⟨x, hx, ex⟩
    have hr := sub r List.mem_cons_self
    refine ⟨_, EX.exm p hp r hr, fun c a na hi => ?_, fun c => ?_⟩
    · have e1 : p.1 = r.1 := of_decide_eq_true c
      have e2 : p.2 = r.2 := Value.ref.inj (Option.some.inj ((EX.m p hp).symm.trans (by rw [e1]; exact EX.m r hr)))
      refine ⟨.ref a, by rw [List.getElem?_set_self hi], rfl, by rw [e2], dd, _, v, rfl, hd, rfl, ?_⟩
      rw [← e1]
      exact q
    · refine ih (fun y hy => sub y (List.mem_cons_of_mem _ hy)) ?_
      rcases List.mem_cons.mp hx with rfl | hx
      · have hx' := sub x List.mem_cons_self
        have e3 := EX.exm p hp x hx'
        have e5 := EX.exm x hx' x hx'
        rw [← Value.ref.inj ex] at e5 e3
        rw [e3] at e5
        have e6 := Option.some.inj e5
        rw [c] at e6
        simp at e6
      · exact ⟨x, hx, ex⟩
/-- try: told = act() / except C as e: return (name, repr(e.given)) .. / return ('told', told) -/
theorem caught_givesN {X : Cx} {k : Nat} {C : Addr} {sp : Sp} {L : List (Str × Addr)} {Ng : List Str} {x a q : Str} {sg : Scope} {g : Addr} {cdg : Value} {h₀ : ExceptHandler} {hds : List ExceptHandler} {p1 p2 p3 p4 p5 p6 p7 p8 p9 : Pos} {j k2 : Nat}
    (EX : ExcX X.K X.mg L) (T : ShowsH X.prog X.w X.K X.mg X.base k C sp) (hNd : Ng.Nodup) (hN : Ng = [a, "_law_told", "e"]) (hL : HdsL (L.map (·.1)) (h₀ :: hds)) (gl : ∀ p ∈ L, sg.names.lookup p.1 = some .globalImplicit) (gr : sg.names.lookup ("repr" : Str) = some .globalImplicit) (mr : X.mg "repr" = none)
    (lt : sg.names.lookup ("_law_told" : Str) = some .local) (le : sg.names.lookup ("e" : Str) = some .local) (gd : X.A.guards = some []) (hm : Mods X.base)
    (hr : ∀ (s : Shared), RoomH (k + 4) (X.A.deeper (envOfC x sg s.heap.objs.size g cdg))) :
    GivesN X Ng x sg g cdg [.Try [.Assign [.Name "_law_told" p1] (.Call (.Name a p2) [] [] p3) p4] (h₀ :: hds) [] [] p5, .Return (some (.Tuple [.Constant (.str "told") j p6, .Name "_law_told" p7] k2 p8)) p9] a q (TCaughtN C sp L) := by
  subst hN
  intro f c' s H Q tl act hc h
  let X' := (cxOf C8.CX0 X.prog X.w X.K X.mg X.base [a, "_law_told", "e"] x sg g cdg X.A X.stack s H C8.E0).nox
  have cl : ClausesN X' "e" (h₀ :: hds) (L.map fun p => (Value.ref p.2, tsOfN C sp 2 p)) :=
    clauses_ofN (X := X') EX T gl gr mr rfl (.inl le) gd (hr s) hm (fun _ h => h) hL
  refine ⟨_, pss_cons (ps_try_clausesN (X := X') (i := 2) (n := "e")
      (tb := fun W D σ H => ∃ Ech : XK, (∀ cls d σ' H', Ech cls d H' → W cls d σ' H') ∧ σ[0]? = some (some (.ref f)) ∧ H c' = some (CodeO c' q) ∧ tl Ech H fun v H1 => D.nx (σ.set 1 (some v)) H1)
      rfl rfl hNd rfl le takes0N (fun W pn xe tk _ => ?_) cl) (pss_one (ps_ret (pe_tup (pa_cons pe_str (pa_cons (pe_var (i := 1) rfl (.inl lt)) pa_nil))))), ?_⟩
  · refine ⟨fun pins s' σ H' D I h' => ?_⟩
    obtain ⟨Ech, hW, h1, h2, h3⟩ := h'
    have hq := pss_one (ps_set (i := 1) (pos := p4) (pos' := p1) hNd rfl (Or.inl lt) (act W pn xe Ech p2 p3 tk hW))
    exact hq.run pins s' σ H' D I ⟨h1, h2, h3⟩
  · exact ⟨CaughtN C sp L Q, fun cls d σ' H' hE => caught_wN EX hE (fun _ h => h) (by obtain ⟨p, dd, v, hp, e, _⟩ := hE; exact ⟨p, hp, e⟩), rfl, hc, h⟩
end Hx

/-! a list comprehension while an exception is handled -/
namespace Hx
open PySem PySem.Spec PyProof.Rows L2 L2H HotX
/-- how an iterator turns while the exception at p is handled -/
structure TurnP (P : Program) (w : World) (K : PySem.W.Frag) (A : Around) (p : Addr × Obj) (tg : Expr) (J : It) (fp : List Addr) (it : Addr) (tn : Nat → Heap → Prop) : Prop where
  obj : ∀ i h, tn i h → ∀ b ∈ fp, ∃ o, h.get? b = some o ∧ ∀ v, o.data ≠ .cell v
  keep : ∀ i h h', tn i h → (∀ b ∈ fp, ∀ o, h.get? b = some o → h'.get? b = some o) → tn i h'
  item : ∀ (X : Cx), X.prog = P → X.w = w → X.K = K → X.A = A → ∀ (i : Nat) (pins : List (Addr × Obj)) (s : Shared) (σ : L2.St) (H : Hp) (E : Value → Shared → Prop), p ∈ X.pn ++ pins → Inv X pins σ H s → (∀ b ∈ fp, FpOk X pins H b) → tn i s.heap → J.go i H →
    wpAny (model P w) A (pyNext (.ref it)) (fun r s1 => ∃ u, r = some u ∧
      wpAny (model P w) A (letOwnedTupleGo tg (.ref it) u) (fun _ s2 => ∃ x H', Inv X pins σ H' s2 ∧ RelV x u ∧ J.yld i H x H' ∧ tn (i + 1) s2.heap ∧ ∀ b ∈ fp, H' b = none) E s1) E s
  done : ∀ (X : Cx), X.prog = P → X.w = w → X.K = K → X.A = A → ∀ (i : Nat) (pins : List (Addr × Obj)) (s : Shared) (σ : L2.St) (H : Hp) (E : Value → Shared → Prop), p ∈ X.pn ++ pins → Inv X pins σ H s → (∀ b ∈ fp, FpOk X pins H b) → tn i s.heap → J.stop i H →
    wpAny (model P w) A (pyNext (.ref it)) (fun r s1 => r = none ∧ Inv X pins σ H s1) E s
  self : ∀ (A : Around) (i : Nat) (s : Shared) (Q : Value → Shared → Prop) (E : Value → Shared → Prop), tn i s.heap → Q (.ref it) s → wpAny (model P w) A (pyIter (.ref it)) Q E s
/-- what is walked, then -/
structure PIP (X : Cx) (p : Addr × Obj) (tg iter : Expr) (wi : TI) : Prop where
  run : ∀ (pins : List (Addr × Obj)) (s : Shared) (σ : L2.St) (H : Hp) (R : It → Hp → Prop), Inv X pins σ H s → wi σ H R →
    wpAny (model X.prog X.w) X.A (eval iter X.env) (fun v s1 => wpAny (model X.prog X.w) X.A (pyIter v) (fun itv s2 => ∃ (it : Addr) (fp : List Addr) (tn : Nat → Heap → Prop) (J : It) (H' : Hp), itv = .ref it ∧ Inv X pins σ H' s2 ∧ TurnP X.prog X.w X.K X.A p tg J fp it tn ∧ tn 0 s2.heap ∧ (∀ b ∈ fp, FpOk X pins H' b) ∧ R J H') X.xe s1) X.xe s
/-- the context of a block, the exception's object with it -/
abbrev Cx.blkP (X : Cx) (p : Addr × Obj) (s : Shared) (H : Hp) (scope : Scope) (cenv : Env) (fp : List Addr) : Cx := { X.blk s H scope cenv fp with pn := [p] }
section
variable {X : Cx} {p : Addr × Obj}
theorem Inv.toP {Y : Cx} {σ : L2.St} {H : Hp} {s : Shared} (I : Inv Y [] σ H s) (hp : s.heap.get? p.1 = some p.2 ∧ H p.1 = none ∧ p.1 ≠ Y.env.locals ∧ p.1 ∉ Y.fs ∧ ∀ v, p.2.data ≠ .cell v) : Inv { Y with pn := [p] } [] σ H s :=
  ⟨⟨I.ok.mod, I.ok.kind, I.ok.glob, I.ok.blt, I.ok.above, I.ok.inj, I.ok.has, I.ok.cab, I.ok.hd, I.ok.frames, I.ok.stk, I.ok.exf, I.ok.bs, I.ok.bsz, I.ok.noex, I.ok.exfs, I.ok.funs, I.ok.frf⟩, I.os, I.bare, I.base, I.loc, I.cell, I.free, I.freeC,
    fun q hq => by
      have e : q = p := by simpa using (show q ∈ [p] ++ ([] : List (Addr × Obj)) from hq)
      rw [e]
      exact hp, I.hok, I.len⟩
theorem pe_lcP {elt tg iter : Expr} {ifs : List Expr} {scope : Scope} {own : List (Str × Nat)} {pos : Pos} {wi : TI} {g : TG} {tt : TT} {te : TE} (hp : p ∈ X.pn) (hN : X.N.Nodup) (hi : PIP X p tg iter wi) (ok : BlkOk X.N X.env.scope scope own)
    (hg : ∀ (s : Shared) (H : Hp) (C : Addr) (cl : List (Str × Addr)) (fp : List Addr), PG (Cx.blkP X p s H scope (compEnvC scope cl C X.env) fp) tg g) (ht : ∀ (s : Shared) (H : Hp) (C : Addr) (cl : List (Str × Addr)) (fp : List Addr), PTs (Cx.blkP X p s H scope (compEnvC scope cl C X.env) fp) ifs tt)
    (he : ∀ (s : Shared) (H : Hp) (C : Addr) (cl : List (Str × Addr)) (fp : List Addr), PE (Cx.blkP X p s H scope (compEnvC scope cl C X.env) fp) elt te) (hs : ∀ x, foldedSetIterable iter X.env x = pure x := by intro _; rfl) :
    PE X (.ListComp elt [⟨tg, iter, ifs, 0⟩] scope pos) (tLc wi g tt te (own.map (·.2))) := by
  refine ⟨fun pins s σ H Q I h => ?_⟩
  rw [eval_ListComp]
  have cap : ∀ y ∈ scope.names, y.2 = .free → ∃ c, X.env.cells.lookup y.1 = some c := fun y hy e => (ok.free y hy e).elim (fun k => I.ok.has _ (.inl k)) fun k => I.ok.has _ (.inr k)
  refine wpAny_comprehension_free (use := none) rfl hs (closure_ok cap) ok.kind (fun y hy e => by rw [ok.uniq y hy, e]) (thn (hi.run pins s σ H _ I h) fun xv s1 hx => thn hx fun itv s2 h2 => ?_)
  obtain ⟨it, fp, tn, J, H2, rfl, I2, T, st2, f2, q⟩ := h2
  refine wpAny_newObj_type (newEnv_comp ?_) (by show 0 ≤ sizeLine; decide)
  generalize hD : s2.heap.objs.size = D
  have nD : H2 D = none := I2.hok.fresh (Nat.le_of_eq hD)
  obtain ⟨W, ⟨m0, w0⟩, turn⟩ := q D nD
  generalize hs3 : ({ s2 with heap := s2.heap.push { cls := .type "list", data := .seq ([] : List Value).toArray } } : Shared) = s3
  have e3 : s3.heap = s2.heap.push { cls := .type "list", data := .seq ([] : List Value).toArray } := by rw [← hs3]
  have I3 : Inv X pins σ (upd H2 D (.lst [])) s3 := by
    rw [← hs3]
    refine I2.laid (t' := s2.toks) (fun b o e => Heap.get?_push_of_some _ e) (Nat.le_of_eq hD) ⟨Nat.zero_le _, [], 0, .nil, ?_⟩
    rw [← hD]
    exact Heap.get?_push_size _ rfl
  have lt2 : ∀ b ∈ fp, b < s2.heap.objs.size := fun b hb => let ⟨o, e, _⟩ := T.obj _ _ st2 b hb; Heap.lt_size e
  have f3 : ∀ b ∈ fp, FpOk X pins (upd H2 D (.lst [])) b ∧ b < s3.heap.objs.size := fun b hb => by
    refine ⟨⟨?_, (f2 b hb).2⟩, by rw [e3, Heap.size_push]; exact Nat.lt_succ_of_lt (lt2 b hb)⟩
    rw [upd_ne (by rw [← hD]; exact Nat.ne_of_lt (lt2 b hb))]
    exact (f2 b hb).1
  have st3 : tn 0 s3.heap := T.keep _ _ _ st2 fun b _ o e => by rw [e3]; exact Heap.get?_push_of_some _ e
  have I4' := block_start I3 ok hN f3
  have pg := hg s3 (upd H2 D (.lst [])) s3.heap.objs.size (cellsFrom (s3.heap.objs.size + 1) scope.names (cloFrom X.env.cells scope.names [])) fp
  have pt := ht s3 (upd H2 D (.lst [])) s3.heap.objs.size (cellsFrom (s3.heap.objs.size + 1) scope.names (cloFrom X.env.cells scope.names [])) fp
  have pe := he s3 (upd H2 D (.lst [])) s3.heap.objs.size (cellsFrom (s3.heap.objs.size + 1) scope.names (cloFrom X.env.cells scope.names [])) fp
  show codeAny _ _ (.compStart (.ListComp elt [⟨tg, iter, ifs, 0⟩] scope pos) 0 (.ref it) (.ref D) (compEnvC scope (cellsFrom (s3.heap.objs.size + 1) scope.names (cloFrom X.env.cells scope.names [])) s3.heap.objs.size X.env)) (compPost (model X.prog X.w) X.A X.xe none (EP X pins σ Q) (.ref D) s3.heap.objs.size) _
  have nf : ∀ b ∈ fp, (upd H2 D (.lst [])) b = none := fun b hb => (f3 b hb).1.1
  obtain ⟨p1, p2, p3, p4, p5⟩ := I3.pin p (List.mem_append_left _ hp)
  have pf : ∀ b ∈ fp, p.1 ≠ b := fun b hb => (f3 b hb).1.2.2.2.2.2 p (List.mem_append_left _ hp)
  have plt : p.1 < s3.heap.objs.size := Heap.lt_size p1
  generalize hce : compEnvC scope (cellsFrom (s3.heap.objs.size + 1) scope.names (cloFrom X.env.cells scope.names [])) s3.heap.objs.size X.env = ce at I4' pg pt pe ⊢
  have cL : ce.locals = s3.heap.objs.size := by subst hce; rfl
  generalize hH3 : upd H2 D (.lst []) = H3 at I3 I4' pg pt pe w0 nf f3 p2
  generalize hs4 : ({ s3 with heap := pushCells (s3.heap.push { cls := .type "dict", data := .dict #[] }) scope.names } : Shared) = s4 at I4' ⊢
  have up4 : ∀ b o, s3.heap.get? b = some o → s4.heap.get? b = some o := fun b o e => by rw [← hs4]; exact pushCells_keeps _ _ _ _ (Heap.get?_push_of_some _ e)
  have st4 : tn 0 s4.heap := T.keep _ _ _ st3 fun b _ o e => up4 b o e
  have I4 : Inv (Cx.blkP X p s3 H3 scope ce fp) [] (wipe σ (own.map (·.2))) H3 s4 := Inv.toP I4' ⟨up4 _ _ p1, p2, by show p.1 ≠ ce.locals; rw [cL]; exact Nat.ne_of_lt plt, fun hm => (List.mem_cons.mp (I3.stkSub _ hm)).elim p3 p4, p5⟩
  have stat : ∀ {σ' : L2.St} {H' : Hp} {s' : Shared}, Inv (Cx.blkP X p s3 H3 scope ce fp) [] σ' H' s' → (∀ b ∈ fp, H' b = none) → ∀ b ∈ fp, FpOk (Cx.blkP X p s3 H3 scope ce fp) [] H' b := fun {σ' H' s'} I' hn b hb =>
    ⟨hn b hb, (I'.ok.exf b hb).1, I'.ok.exfs b hb, .inl hb, fun x c e => (I'.ok.exf b hb).2 x c e, fun y hy => by
      have ey : y = p := by simpa using (show y ∈ [p] ++ ([] : List (Addr × Obj)) from hy)
      rw [ey]
      exact pf b hb⟩
  have loop : codeAny (model X.prog X.w) X.A (.compLoop (.ListComp elt [⟨tg, iter, ifs, 0⟩] scope pos) 0 (.ref it) (.ref D) ce) (compPost (model X.prog X.w) X.A X.xe none (EP X pins σ Q) (.ref D) s3.heap.objs.size) s4 := by
    refine compLoop_any (fun n s' => ∃ i H', Inv (Cx.blkP X p s3 H3 scope ce fp) [] (wipe σ (own.map (·.2))) H' s' ∧ tn i s'.heap ∧ (∀ b ∈ fp, H' b = none) ∧ W i n H') ?_ m0 ⟨0, H3, I4, st4, nf, w0⟩
    rintro n s5 ⟨i, H5, I5, st5, n5, w5⟩
    have pm : p ∈ [p] ++ ([] : List (Addr × Obj)) := List.mem_append_left _ (List.mem_singleton.mpr rfl)
    rcases turn i n H5 w5 with ⟨stop, qq⟩ | ⟨go, Nx, hNx, step⟩
    · refine thnF (T.done (Cx.blkP X p s3 H3 scope ce fp) rfl rfl rfl rfl i [] s5 _ H5 (fun _ _ => False) pm I5 (stat I5 n5) st5 stop) fun r s6 ⟨hr, I6⟩ => ?_
      subst hr
      have I7 : Inv X pins σ H5 s6 := I3.call' (ch := fp) I6.os I6.base I6.hok I6.bare fun b hb => ⟨(f3 b hb).1.2.2.2.1, (f3 b hb).1.2.1, (f3 b hb).1.2.2.2.2.1, (f3 b hb).1.2.2.2.2.2⟩
      have nC : H5 s3.heap.objs.size = none := by
        have z : H5 ce.locals = none := I6.free
        rwa [cL] at z
      obtain ⟨m, hn, _⟩ := I6.loc
      have hn : s6.heap.Ns ce.locals m := hn
      rw [cL] at hn
      obtain ⟨c0, c1, c2, c3, c4, c5⟩ := I3.fpOk (Nat.le_refl s3.heap.objs.size) nC
      exact ⟨m, hn, fun h'' sb => ⟨.ref D, H5, I7.turned (t' := s6.toks) (fun b o hb e => (sb.2 b hb).trans e) c0 c1 c3 c4 c5, rfl, qq⟩⟩
    · refine thnF (T.item (Cx.blkP X p s3 H3 scope ce fp) rfl rfl rfl rfl i [] s5 _ H5 (fun _ _ => False) pm I5 (stat I5 n5) st5 go) fun r s6 ⟨u, hr, h6⟩ => ?_
      subst hr
      refine thnF h6 fun _ s7 ⟨x, H7, I7, r7, y7, st7, n7⟩ => ?_
      refine thnF (pg.run _ s7 _ H7 x u _ (I7.pinned (stat I7 n7) (T.obj _ _ st7)) r7 (step x H7 y7)) fun _ s8 ⟨σ8, H8, I8, hw8, q8⟩ => ?_
      refine thnF (pt.run _ s8 σ8 H8 _ I8 q8) fun b s9 ⟨H9, I9, q9⟩ => ?_
      have next : ∀ {s' : Shared} {H' : Hp}, Inv (Cx.blkP X p s3 H3 scope ce fp) ([] ++ pinsAt fp s7.heap) σ8 H' s' → Nx H' → ∃ m, m < n ∧ ∃ i H', Inv (Cx.blkP X p s3 H3 scope ce fp) [] (wipe σ (own.map (·.2))) H' s' ∧ tn i s'.heap ∧ (∀ b ∈ fp, H' b = none) ∧ W i m H' := by
        intro s' H' I' nx
        obtain ⟨m', hm, w'⟩ := hNx H' nx
        have still : ∀ b ∈ fp, ∀ o, s7.heap.get? b = some o → s'.heap.get? b = some o ∧ H' b = none := fun b hb o e =>
          let z := I'.pin (b, o) (List.mem_append_right _ (List.mem_append_right _ (mem_pinsAt hb e)))
          ⟨z.1, z.2.1⟩
        have hl : (wipe σ (own.map (·.2))).length = σ8.length := by rw [← hw8, wipe_length]
        refine ⟨m', hm, i + 1, H', (I'.unpinned (pins := [])).weak hl (fun j v e => ?_), T.keep _ _ _ st7 fun b hb o e => (still b hb o e).1, fun b hb => ?_, w'⟩
        · rw [← hw8] at e
          exact (wipe_some e).1
        · obtain ⟨o, e, _⟩ := T.obj _ _ st7 b hb
          exact (still b hb o e).2
      cases b with
      | false =>
        simp only [Bool.false_eq_true, if_false] at q9 ⊢
        exact next I9 q9
      | true =>
        simp only [if_true] at q9 ⊢
        refine thnF (pe.run _ s9 σ8 H9 _ I9 q9) fun z s10 ⟨yv, H10, I10, r10, acc, hD10, hz10, nx⟩ => ?_
        exact app_ok (X := Cx.blkP X p s3 H3 scope ce fp) I10 hD10 hz10 r10 fun s11 I11 => next I11 nx
  exact codeAny_compStart_list loop (T.self X.A 0 _ _ _ st4 loop)
end
end Hx

/-! enumerate(text) while an exception is handled -/
namespace Hx
open PySem PySem.Spec PyProof.Rows L2 L2H HotX
section
variable {prog : Program} {w : World} {A : Around} {E : Value → Shared → Prop} {s : Shared}
theorem ascii_end_hot {it x1 : Addr} {x : Str} {t : Tok} {i : Nat} {Q : Value → Shared → Prop} (hot : HotAt A x1 s.heap) (nx : x1 ≠ it)
    (hit : s.heap.IsStrIter it "str_ascii_iterator" x t i) (hx : x.cps[i]? = none)
    (hE : ∀ h' e, Heap.ExtBut it s.heap h' → (∃ o, h'.get? e = some o ∧ o.cls = .type "StopIteration") → E (.ref e) { s with heap := h' }) :
    wpAny (model prog w) A (Builtin.SmallTypes.nextOf (.ref it)) Q E s := by
  obtain ⟨o, ho, hc, hd⟩ := id hit
  obtain ⟨hh, o1, vs1, h1, d1, c1⟩ := hot
  unfold Builtin.SmallTypes.nextOf
  refine wpAny_bind (wpAny_callSpecial?_slot (name := Str.ofString "__next__") hit.typeIs F.slot_str_ascii_iterator_next
    (wpAny_call_entry F.slot_str_ascii_iterator_next hit.typeIs F.entry_str_ascii_iterator_next ?_ (F.args_str_ascii_iterator_next_1 _)))
  show wpAny _ _ (field (.ref it) 0 >>= _) _ _ s
  refine wpAny_bind (wpAny_field ho hd (x := .str x t) rfl ?_)
  show wpAny _ _ (field (.ref it) 1 >>= _) _ _ s
  refine wpAny_bind (wpAny_field ho hd (x := .int i 0) rfl ?_)
  simp only [Int.toNat_natCast, hx]
  refine wpAny_bind (wpAny_rule (wpAny_bind (wpAny_setField ho hd (by simp) (wpAny_bind (wpAny_letGo ?_)))))
  show wpAny _ _ (newExc (.type "StopIteration") [] >>= _) _ _ _
  refine wpAny_bind ?_
  simp only [newExc, newTuple]
  refine wpAny_bind (wpAny_newObj_type ?_ (by size_fits))
  refine wpAny_bind (m := firstArgMember _ _) (wpAny_of_eq (a := Value.none) (by first | rfl | (simp only [firstArgMember]; rfl)) ?_)
  refine wpAny_newObj_type ?_ (by size_fits)
  have b1 : ((s.heap.update it (Obj.mapFields (·.setIfInBounds 0 Value.none))).push { cls := .type "tuple", data := .seq #[] }).get? x1 = some o1 := Heap.get?_push_of_some _ ((Heap.get?_update_other _ _ (Ne.symm nx)).trans h1)
  refine raiseNew_hot ⟨hh, o1, vs1, Heap.get?_push_of_some _ b1, d1, c1⟩ (Nat.ne_of_lt (Heap.lt_size b1)) (Heap.get?_push_size _ rfl) rfl (by first | (simp; done) | (simp; omega) | decide) ?_
  refine hE _ _ (fun b u hb e => ?_) ⟨_, Heap.get?_update_self _ (Heap.get?_push_size _ rfl) rfl, rfl⟩
  have e1 : ((s.heap.update it (Obj.mapFields (·.setIfInBounds 0 Value.none))).push { cls := .type "tuple", data := .seq #[] }).get? b = some u := Heap.get?_push_of_some _ ((Heap.get?_update_other _ _ (Ne.symm hb)).trans e)
  rw [Heap.get?_update_other _ _ (Nat.ne_of_gt (Heap.lt_size e1))]
  exact Heap.get?_push_of_some _ e1
theorem wide_end_hot {it x1 : Addr} {x : Str} {t : Tok} {i : Nat} {Q : Value → Shared → Prop} (hot : HotAt A x1 s.heap) (nx : x1 ≠ it)
    (hit : s.heap.IsStrIter it "str_iterator" x t i) (hx : x.cps[i]? = none)
    (hE : ∀ h' e, Heap.ExtBut it s.heap h' → (∃ o, h'.get? e = some o ∧ o.cls = .type "StopIteration") → E (.ref e) { s with heap := h' }) :
    wpAny (model prog w) A (Builtin.SmallTypes.nextOf (.ref it)) Q E s := by
  obtain ⟨o, ho, hc, hd⟩ := id hit
  obtain ⟨hh, o1, vs1, h1, d1, c1⟩ := hot
  unfold Builtin.SmallTypes.nextOf
  refine wpAny_bind (wpAny_callSpecial?_slot (name := Str.ofString "__next__") hit.typeIs F.slot_str_iterator_next
    (wpAny_call_entry F.slot_str_iterator_next hit.typeIs F.entry_str_iterator_next ?_ (F.args_str_iterator_next_1 _)))
  show wpAny _ _ (field (.ref it) 0 >>= _) _ _ s
  refine wpAny_bind (wpAny_field ho hd (x := .str x t) rfl ?_)
  show wpAny _ _ (field (.ref it) 1 >>= _) _ _ s
  refine wpAny_bind (wpAny_field ho hd (x := .int i 0) rfl ?_)
  simp only [Int.toNat_natCast, hx]
  refine wpAny_bind (wpAny_rule (wpAny_bind (wpAny_setField ho hd (by simp) (wpAny_bind (wpAny_letGo ?_)))))
  show wpAny _ _ (newExc (.type "StopIteration") [] >>= _) _ _ _
  refine wpAny_bind ?_
  simp only [newExc, newTuple]
  refine wpAny_bind (wpAny_newObj_type ?_ (by size_fits))
  refine wpAny_bind (m := firstArgMember _ _) (wpAny_of_eq (a := Value.none) (by first | rfl | (simp only [firstArgMember]; rfl)) ?_)
  refine wpAny_newObj_type ?_ (by size_fits)
  have b1 : ((s.heap.update it (Obj.mapFields (·.setIfInBounds 0 Value.none))).push { cls := .type "tuple", data := .seq #[] }).get? x1 = some o1 := Heap.get?_push_of_some _ ((Heap.get?_update_other _ _ (Ne.symm nx)).trans h1)
  refine raiseNew_hot ⟨hh, o1, vs1, Heap.get?_push_of_some _ b1, d1, c1⟩ (Nat.ne_of_lt (Heap.lt_size b1)) (Heap.get?_push_size _ rfl) rfl (by first | (simp; done) | (simp; omega) | decide) ?_
  refine hE _ _ (fun b u hb e => ?_) ⟨_, Heap.get?_update_self _ (Heap.get?_push_size _ rfl) rfl, rfl⟩
  have e1 : ((s.heap.update it (Obj.mapFields (·.setIfInBounds 0 Value.none))).push { cls := .type "tuple", data := .seq #[] }).get? b = some u := Heap.get?_push_of_some _ ((Heap.get?_update_other _ _ (Ne.symm hb)).trans e)
  rw [Heap.get?_update_other _ _ (Nat.ne_of_gt (Heap.lt_size e1))]
  exact Heap.get?_push_of_some _ e1
end
theorem draws_hot {prog : Program} {w : World} {A : Around} {x1 : Addr} {o1 : Obj} {vs1 : Array Value} (hh : A.handled = some (.ref x1)) (d1 : o1.data = .fields vs1) (c1 : vs1[2]? = some .none) (it : Addr) (nx : x1 ≠ it) (x : Str) (t : Tok) (ty : String) (hty : ty = "str_ascii_iterator" ∨ ty = "str_iterator") :
    Draws prog w A it [it, x1] x.cps.size (fun i v => ∃ c u, x.cps[i]? = some c ∧ v = .str ⟨#[c]⟩ u) (fun i h => h.IsStrIter it ty x t i ∧ h.get? x1 = some o1) := by
  refine ⟨fun i h st => let ⟨⟨o, ho, _⟩, _⟩ := st; ⟨o, ho⟩, fun i h h' st k => ?_, fun i s Q E hi st hQ => ?_, fun s Q E st hE => ?_⟩
  · obtain ⟨⟨o, ho, r⟩, h1⟩ := st
    exact ⟨⟨o, k it (by simp) o ho, r⟩, k x1 (by simp) _ h1⟩
  · obtain ⟨st, h1⟩ := st
    have hx : x.cps[i]? = some x.cps[i] := by simp [hi]
    rcases hty with rfl | rfl
    · exact wpAny_nextOf_ascii_item st hx fun h' st' sb => hQ _ h' _ ⟨_, _, hx, rfl⟩ ⟨st', (sb.2 _ nx).trans h1⟩ sb
    · exact wpAny_nextOf_wide_item st hx fun h' st' sb => hQ _ h' _ ⟨_, _, hx, rfl⟩ ⟨st', (sb.2 _ nx).trans h1⟩ sb
  · obtain ⟨st, h1⟩ := st
    have hx : x.cps[x.cps.size]? = none := by simp
    rcases hty with rfl | rfl
    · exact ascii_end_hot ⟨hh, o1, vs1, h1, d1, c1⟩ nx st hx hE
    · exact wide_end_hot ⟨hh, o1, vs1, h1, d1, c1⟩ nx st hx hE
theorem turn_enumP {P : Program} {w : World} {K : PySem.W.Frag} {A : Around} {p : Addr × Obj} (hot : Hot1 A p) {elts : List Expr} {kk : Nat} {tpos : Pos} (x : Str) (t : Tok) (ty : String) (hty : ty = "str_ascii_iterator" ∨ ty = "str_iterator") (e it : Addr) :
    TurnP P w K A p (.Tuple elts kk tpos) (Ites x) [e, it] e (fun i h => (∃ old, IsEnum h e it ((i : Nat) : Int) old) ∧ h.IsStrIter it ty x t i ∧ e ≠ it) where
  obj := fun i h st b hb => by
    obtain ⟨⟨old, he⟩, ⟨o, ho, hc, hd⟩, _⟩ := st
    have e' : b = e ∨ b = it := by simpa using hb
    rcases e' with z | z
    · rw [z]; exact ⟨_, he, fun v q => nomatch q⟩
    · rw [z]; exact ⟨o, ho, fun v q => by rw [hd] at q; cases q⟩
  keep := fun i h h' st k => let ⟨⟨old, he⟩, ⟨o, ho, r⟩, hne⟩ := st; ⟨⟨old, k e (by simp) _ he⟩, ⟨o, k it (by simp) o ho, r⟩, hne⟩
  item := by
    intro X hP hw hK hA i pins s σ H E hp I hf st hg
    subst hP hw hK hA
    obtain ⟨hh, vs1, d1, c1⟩ := hot
    obtain ⟨⟨old, he⟩, hit, hne⟩ := st
    obtain ⟨p1, _⟩ := I.pin p hp
    have nit : p.1 ≠ it := (hf it (by simp)).2.2.2.2.2 p hp
    have nee : p.1 ≠ e := (hf e (by simp)).2.2.2.2.2 p hp
    have hel : e < s.heap.objs.size := Heap.lt_size he
    have hil : it < s.heap.objs.size := by obtain ⟨_, q, _⟩ := hit; exact Heap.lt_size q
    have D := draws_hot (prog := X.prog) (w := X.w) (A := X.A.in1) hh d1 c1 it nit x t ty hty
    refine wpAny_pyNext_enum_itemD D he ⟨hit, p1⟩ hg hne (by simp [hne, Ne.symm nee]) fun v h' tk hv ho hit' hT hsz hk => ?_
    obtain ⟨c, u, hcx, rfl⟩ := hv
    refine ⟨_, rfl, wpAny_letOwnedTupleGo_enum (s := { s with heap := h', toks := tk + 1 }) ho fun h'' he' sb => ?_⟩
    have hT2 : h''.get? s.heap.objs.size = some { cls := .type "tuple", data := .seq #[.int i tk, .str ⟨#[c]⟩ u] } := (sb.2 _ (Nat.ne_of_gt hel)).trans hT
    have new : ObjOk X.prog X.w (upd H s.heap.objs.size (.tup [.int (i : Nat), .str ⟨#[c]⟩])) h'' s.heap.objs.size (.tup [.int (i : Nat), .str ⟨#[c]⟩]) :=
      ⟨by show 2 ≤ sizeLine; decide, [.int i tk, .str ⟨#[c]⟩ u], .cons ⟨_, rfl⟩ (.cons ⟨_, rfl⟩ .nil), ⟨_, hT2, rfl, _, rfl⟩⟩
    have I1 : Inv X pins σ (upd H s.heap.objs.size (.tup [.int (i : Nat), .str ⟨#[c]⟩])) { s with heap := h'', toks := tk + 1 } :=
      I.turnedNew (ch := [e, it]) (fun b ob hb q => (sb.2 b (fun z => hb (by simp [z]))).trans (hk b ob (fun z => hb (by simp [z])) (fun z => hb (by simp [z])) q)) hf (Nat.le_refl _) new
    refine ⟨.ref s.heap.objs.size, _, I1, rfl, ⟨_, c, rfl, I.hok.fresh (Nat.le_refl _), rfl, hcx⟩, ⟨⟨.str ⟨#[c]⟩ u, ?_⟩, ?_, hne⟩, fun b hb => ?_⟩
    · have e1 : ((i + 1 : Nat) : Int) = (i : Int) + 1 := by omega
      rw [e1]; exact he'
    · obtain ⟨⟨o, ho2, r⟩, _⟩ := hit'
      exact ⟨o, (sb.2 it (Ne.symm hne)).trans ho2, r⟩
    · have hb' : b < s.heap.objs.size := by
        have e' : b = e ∨ b = it := by simpa using hb
        rcases e' with z | z
        · rw [z]; exact hel
        · rw [z]; exact hil
      rw [upd_ne (Nat.ne_of_lt hb')]
      exact (hf b hb).1
  done := by
    intro X hP hw hK hA i pins s σ H E hp I hf st hg
    subst hP hw hK hA
    obtain ⟨hh, vs1, d1, c1⟩ := hot
    obtain ⟨⟨old, he⟩, hit, hne⟩ := st
    have hg' : i = x.cps.size := hg
    subst hg'
    obtain ⟨p1, _⟩ := I.pin p hp
    obtain ⟨f0, f1, f2, f3, f4, f5⟩ := hf it (by simp)
    have nit : p.1 ≠ it := f5 p hp
    have D := draws_hot (prog := X.prog) (w := X.w) (A := X.A.in1) hh d1 c1 it nit x t ty hty
    exact wpAny_pyNext_enum_endD D he ⟨hit, p1⟩ fun h' eb => ⟨rfl, I.turned (t' := s.toks) (fun b o hb q => eb b o hb q) f0 f1 f3 f4 f5⟩
  self := fun A i s Q E st h => let ⟨⟨_, he⟩, _⟩ := st; wpAny_pyIter_enum he h
theorem pi_enumP {X : Cx} {p : Addr × Obj} (hot : Hot1 X.A p) {e : Expr} {ta : TA} {q0 pos tpos : Pos} {elts : List Expr} {kk : Nat} (hg : Gl X "enumerate") (hm : X.mg "enumerate" = none) (ha : PA X [e] ta) (hs : starEach [e] X.env = [(false, eval e X.env)] := by rfl) :
    PIP X p (.Tuple elts kk tpos) (.Call (.Name "enumerate" q0) [e] [] pos) (iEnumS ta) := by
  refine ⟨fun pins s σ H R I h => ?_⟩
  refine Call_ (ld_blt I hg hm boot_enumerate (PyProof.Rows.callWith_type1 (thn (ha.run pos pins s σ H _ I h) fun us s1 ⟨vs, H1, I1, r1, q1⟩ => ?_) hs rfl))
  obtain ⟨x, ex, q⟩ := q1
  subst ex
  cases r1 with
  | cons r rr =>
    cases rr
    obtain ⟨t, rfl⟩ := r
    have hty : strIterType x = "str_ascii_iterator" ∨ strIterType x = "str_iterator" := by
      unfold strIterType
      split
      · exact .inl rfl
      · exact .inr rfl
    refine call_enumerate_str fun h' he hit hsz hk => wpAny_pyIter_enum he ?_
    have I2 : Inv X pins σ H1 { s1 with heap := h' } := I1.kept (t' := s1.toks) hk
    refine ⟨s1.heap.objs.size + 1, [s1.heap.objs.size + 1, s1.heap.objs.size], _, _, H1, rfl, I2, turn_enumP hot x t _ hty (s1.heap.objs.size + 1) s1.heap.objs.size, ⟨⟨.none, he⟩, hit, Nat.succ_ne_self _⟩, fun b hb => ?_, q⟩
    have e' : b = s1.heap.objs.size + 1 ∨ b = s1.heap.objs.size := by simpa using hb
    have hle : s1.heap.objs.size ≤ b := by
      rcases e' with z | z
      · rw [z]; exact Nat.le_add_right _ _
      · rw [z]; exact Nat.le_refl _
    exact I1.fpOk hle (I1.hok.fresh hle)
end Hx

/-! a tuple taken apart while an exception is handled -/
namespace Hx
open PySem PySem.Spec PyProof.Rows L2 L2H HotX
section
variable {prog : Program} {w : World} {A : Around} {E : Value → Shared → Prop} {s : Shared}
theorem tuple_end_hot {it t x1 : Addr} {i : Nat} {items} {Q : Option Value → Shared → Prop} (hot : HotAt A x1 s.heap) (nx : x1 ≠ it)
    (hit : IsTupIter s.heap it t i) (ht : IsTup s.heap t items) (hx : items[i]? = none)
    (hQ : ∀ h', Heap.ExtBut it s.heap h' → Q none { s with heap := h' }) : wpAny (model prog w) A (pyNext (.ref it)) Q E s := by
  obtain ⟨o, ho, hc, hd⟩ := id hit
  obtain ⟨ol, hol, _, nl, hdl⟩ := ht
  obtain ⟨hh, o1, vs1, h1, d1, c1⟩ := hot
  unfold pyNext
  refine wpAny_bind (wpAny_attempt (wpAny_callSpecial?_slot (name := Str.ofString "__next__") hit.typeIs slot_tupleiter_next
    (wpAny_call_entry slot_tupleiter_next hit.typeIs entry_tupleiter_next ?_ (args_tupleiter_next _))))
  show wpAny _ _ (field (.ref it) 0 >>= _) _ _ s
  refine wpAny_bind (wpAny_field ho hd (x := .ref t) rfl ?_)
  show wpAny _ _ (if (Value.ref t == Value.none) = true then _ else _) _ _ s
  rw [if_neg (show ¬ ((Value.ref t == Value.none) = true) from Bool.false_ne_true)]
  show wpAny _ _ (field (.ref it) 1 >>= _) _ _ s
  refine wpAny_bind (wpAny_field ho hd (x := .int i 0) rfl ?_)
  show wpAny _ _ (seqItems? (.ref t) >>= _) _ _ s
  refine wpAny_bind (wpAny_seqItems hol hdl ?_)
  simp only [Int.toNat_natCast, hx]
  refine wpAny_bind (wpAny_rule (wpAny_bind (wpAny_setField ho hd (by simp) ?_)))
  show wpAny _ _ (newExc (.type "StopIteration") [] >>= _) _ _ _
  refine wpAny_bind ?_
  simp only [newExc, newTuple]
  refine wpAny_bind (wpAny_newObj_type ?_ (by size_fits))
  refine wpAny_bind (m := firstArgMember _ _) (wpAny_of_eq (a := Value.none) (by first | rfl | (simp only [firstArgMember]; rfl)) ?_)
  refine wpAny_newObj_type ?_ (by size_fits)
  have b1 : ((s.heap.update it (Obj.mapFields (·.setIfInBounds 0 Value.none))).push { cls := .type "tuple", data := .seq #[] }).get? x1 = some o1 := Heap.get?_push_of_some _ ((Heap.get?_update_other _ _ (Ne.symm nx)).trans h1)
  refine raiseNew_hot ⟨hh, o1, vs1, Heap.get?_push_of_some _ b1, d1, c1⟩ (Nat.ne_of_lt (Heap.lt_size b1)) (Heap.get?_push_size _ rfl) rfl (by first | (simp; done) | (simp; omega) | decide) ?_
  refine wpAny_bind (wpAny_isInstance (T := "StopIteration") (b := true) ⟨_, Heap.get?_update_self _ (Heap.get?_push_size _ rfl) rfl, rfl⟩ isSubtype_stop ?_)
  refine wpAny_pure (hQ _ fun b u hb e => ?_)
  have e1 : ((s.heap.update it (Obj.mapFields (·.setIfInBounds 0 Value.none))).push { cls := .type "tuple", data := .seq #[] }).get? b = some u := Heap.get?_push_of_some _ ((Heap.get?_update_other _ _ (Ne.symm hb)).trans e)
  rw [Heap.get?_update_other _ _ (Nat.ne_of_gt (Heap.lt_size e1))]
  exact Heap.get?_push_of_some _ e1
theorem assign_tuple_hot {env : Env} {elts : List Expr} {k} {pos : Pos} {t x1 : Addr} {items : Array Value} {Q : Unit → Shared → Prop} (hot : HotAt A x1 s.heap) (ht : IsTup s.heap t items)
    (hn : (assignEach elts env).length = items.size) (hstar : (assignEach elts env).findIdx? (·.1) = none)
    (h : ∀ h', Heap.ExtBut s.heap.objs.size s.heap h' → wpAny (model prog w) A (assignInOrder ((assignEach elts env).map (·.2)) items.toList) Q E { s with heap := h' }) :
    wpAny (model prog w) A (assign (.Tuple elts k pos) env (.ref t)) Q E s := by
  rw [assign_Tuple]
  refine wpAny_bind (wpAny_standAt ?_)
  unfold unpack
  rw [hn, hstar]
  refine wpAny_bind (wpAny_holding ?_)
  obtain ⟨hh, o1, vs1, h1, d1, c1⟩ := hot
  have tne : t ≠ s.heap.objs.size := by obtain ⟨o, ho, _⟩ := ht; exact Nat.ne_of_lt (Heap.lt_size ho)
  have xne : x1 ≠ s.heap.objs.size := Nat.ne_of_lt (Heap.lt_size h1)
  unfold unpackItems
  refine wpAny_bind ?_
  unfold notIterableAtAll
  refine wpAny_bind (wpAny_specialOf ht.typeIs slot_tuple_iter.lookup ?_)
  refine wpAny_pure ?_
  simp only [Bool.false_eq_true, if_false]
  refine wpAny_bind (wpAny_holding (iter_tuple ht ?_))
  refine wpAny_bind (wpAny_holding (draw_tuple tne items.size 0 _ _ ⟨_, Heap.get?_push_size _ rfl, rfl, rfl⟩ (ht.push _) (by omega) fun h₁ hit₁ hs₁ => ?_))
  have hall : List.take items.size (List.drop 0 items.toList) = items.toList := by
    rw [List.drop_zero]; exact List.take_of_length_le (by simp)
  rw [hall, if_neg (by simp)]
  have ht₁ : IsTup h₁ t items := (ht.push _).extBut hs₁.extBut tne
  have hx₁ : h₁.get? x1 = some o1 := hs₁.extBut _ _ xne (Heap.get?_push_of_some _ h1)
  refine wpAny_bind (wpAny_holding (tuple_end_hot ⟨hh, o1, vs1, hx₁, d1, c1⟩ xne hit₁ ht₁ (by simp) fun h₂ he₂ => ?_))
  simp only [Option.isSome_none, Bool.false_eq_true, if_false]
  exact wpAny_pure (h h₂ fun b o hb e => he₂ b o hb (hs₁.extBut b o hb (Heap.get?_push_of_some _ e)))
end
theorem pg_tupH {X : Cx} {es : List Expr} {k : Nat} {t : TGs} {n : Nat} {pos : Pos} (hc : HotC X) (h : PGs X es t)
    (hn : (assignEach es X.env).length = n := by rfl) (hst : (assignEach es X.env).findIdx? (·.1) = none := by rfl) : PG X (.Tuple es k pos) (gTup X.K n t) := by
  refine ⟨fun pins s σ H v u Q I r hw => ?_⟩
  obtain ⟨a, xs, e1, hq, hl, hw⟩ := hw
  subst e1
  cases r
  obtain ⟨its, rv, ht, hz⟩ := I.tuple hq
  obtain ⟨x1, hot⟩ := hc.at I
  refine assign_tuple_hot hot ht (by simp [hn, ← hl, rv.length]) hst fun h' hx => ?_
  have I1 : Inv X pins σ H { s with heap := h' } := I.kept (t' := s.toks) fun b o e => hx b o (Nat.ne_of_lt (Heap.lt_size e)) e
  exact h.run pins _ σ H xs _ Q I1 (by simpa using rv) hw
end Hx

namespace Wp
open PySem PySem.Spec PyProof.Rows L2 Hx
def spFar : Sp := fun vs H Q _ => ∃ (d : Addr) (k : Int), vs = [.ref d, .int k] ∧ 0 ≤ k ∧ k ≤ 100 ∧ DeckAt H d ∧ ∀ (n : Nat) H', But d H H' → DeckAt H' d → Q (.int (n : Nat)) H'
theorem DeckAt.but {d D : Addr} {H : Hp} (h : DeckAt H d) (n : d ≠ D) (o : HO) : DeckAt (upd H D o) d := by
  obtain ⟨a, m, c, h1, h2, e⟩ := h
  exact ⟨a, m, c, h1, h2, by rw [upd_ne n]; exact e⟩
theorem DeckAt.some {d : Addr} {H : Hp} (h : DeckAt H d) : ∃ o, H d = Option.some o := let ⟨_, _, _, _, _, e⟩ := h; ⟨_, e⟩
theorem DeckAt.ne {d D : Addr} {H : Hp} (h : DeckAt H d) (n : H D = none) : d ≠ D := by
  obtain ⟨o, e⟩ := h.some
  exact ne_of_none e n
section
variable {P : Program} {w : World} {K : PySem.W.Frag} {mg : Str → Option Value} {base : Heap} {f f1 f2 f3 C : Addr} {fd fd1 fd2 fd3 : FuncData}
def spMem (K : PySem.W.Frag) (C : Addr) : Sp := fun vs H Q _ => ∃ (d a ma : Addr) (s : Mk.Kept) (ml : List Bool) (begin : Nat), vs = [.ref d, .ref a, .ref ma, .int (begin : Int)] ∧ DeckAt H d ∧ PlAt C H a s ∧ s.Fit ∧ SqL K H ma (bls ml) ∧ ma ≠ d ∧ begin < ml.length ∧ ml.length ≤ 3000 ∧
  (∀ n, markAt ml begin n = s.mem n) ∧ ∀ H', But d H H' → DeckAt H' d → Q (.bl true) H'
theorem PlAt.ne {C : Addr} {H : Hp} {a d : Addr} {s : Mk.Kept} (h : PlAt C H a s) (hd : DeckAt H d) : a ≠ d := fun e => by
  obtain ⟨dx, ha⟩ := h
  obtain ⟨x, y, z, _, _, hh⟩ := hd
  rw [e, hh] at ha
  cases ha
theorem PlAt.but {C d : Addr} {H H' : Hp} {a : Addr} {s : Mk.Kept} (h : PlAt C H a s) (n : a ≠ d) (b : But d H H') : PlAt C H' a s := h.imp fun dx e => b _ _ n e
theorem small_bool (b : Bool) : Small (.bool b) := by cases b <;> exact ⟨rfl, by decide, by decide +kernel⟩
def NM : List Str := ["_law_deck_here", "_law_mine", "_law_marks", "_law_begin", "_law_spots", "_law_spot", "_law_k"]
theorem rg_nat {z : Int} {v : V} (h : v ∈ rgV 0 z) : ∃ n : Nat, v = .int (n : Int) := by
  unfold rgV at h
  obtain ⟨i, _, e⟩ := List.mem_map.mp h
  exact ⟨i, by rw [← e, Int.zero_add]⟩
end
end Wp

namespace Mk
theorem getD_marks (f : Nat → Bool) (m n : Nat) : ((List.range m).map f).getD n false = (decide (n < m) && f n) := by
  rw [List.getD_eq_getElem?_getD, List.getElem?_map]
  by_cases c : n < m
  · rw [List.getElem?_range c, decide_eq_true c]
    rfl
  · rw [List.getElem?_eq_none (by rw [List.length_range]; omega), decide_eq_false c]
    rfl
theorem any_marks {l : List Bool} : l.any id = true ↔ ∃ n, n < l.length ∧ l.getD n false = true := by
  rw [List.any_eq_true]
  constructor
  · rintro ⟨x, hx, e⟩
    obtain ⟨i, hi, e2⟩ := List.getElem_of_mem hx
    refine ⟨i, hi, ?_⟩
    rw [List.getD_eq_getElem?_getD, List.getElem?_eq_getElem hi, e2]
    exact e
  · rintro ⟨n, hn, e⟩
    rw [List.getD_eq_getElem?_getD, List.getElem?_eq_getElem hn] at e
    exact ⟨_, List.getElem_mem hn, e⟩
theorem getD_drop (l : List Bool) (b n : Nat) : (l.drop b).getD n false = l.getD (b + n) false := by
  rw [List.getD_eq_getElem?_getD, List.getD_eq_getElem?_getD, List.getElem?_drop]
theorem mem_far {s : Kept} {n : Nat} (h : len s.st ≤ n) : s.mem n = s.cy.testBit (n % s.w) := by
  unfold Kept.mem
  rw [bit_out h, Bool.xor_false]
theorem mem_back {s : Kept} (w0 : 0 < s.w) {n : Nat} (h : len s.st ≤ n) : s.mem n = s.mem (len s.st + (n - len s.st) % s.w) := by
  rw [mem_far h, mem_far (Nat.le_add_right _ _)]
  have e : (len s.st + (n - len s.st) % s.w) % s.w = n % s.w := by
    rw [Nat.add_mod, Nat.mod_mod, ← Nat.add_mod, Nat.add_sub_cancel' h]
  rw [e]
/-- the least member is found early -/
theorem head_same {s : Kept} (w0 : 0 < s.w) {k : Nat} (h : len s.st + s.w ≤ k) : ((List.range k).filter fun i => s.mem i).head? = (s.from 0 (len s.st + s.w)).head? := by
  have e0 : s.from 0 (len s.st + s.w) = (List.range (len s.st + s.w)).filter fun i => s.mem i := by
    unfold Kept.from
    simp only [Nat.zero_add]
  rw [e0]
  obtain ⟨r, rfl⟩ : ∃ r, k = len s.st + s.w + r := ⟨_, (Nat.add_sub_cancel' h).symm⟩
  rw [List.range_add, List.filter_append]
  cases hl : (List.range (len s.st + s.w)).filter fun i => s.mem i with
  | cons x t => rfl
  | nil =>
    have no : ∀ n, n < len s.st + s.w → s.mem n = false := fun n hn => by
      have := List.filter_eq_nil_iff.mp hl n (List.mem_range.mpr hn)
      cases b : s.mem n with
      | false => rfl
      | true => exact (this b).elim
    have z : ((List.range r).map (len s.st + s.w + ·)).filter (fun i => s.mem i) = [] := by
      rw [List.filter_eq_nil_iff]
      intro x hx
      obtain ⟨j, hj, rfl⟩ := List.mem_map.mp hx
      rw [mem_back w0 (by omega), no _ (by have := Nat.mod_lt (len s.st + s.w + j - len s.st) w0; omega)]
      exact Bool.false_ne_true
    rw [z]
    rfl
end Mk
namespace Wp
open PySem PySem.Spec PyProof.Rows L2 Hx
theorem headD_nats {l m : List Nat} (h : l.head? = m.head?) : (nats l).headD .non = (nats m).headD .non := by
  cases l with
  | nil =>
    cases m with
    | nil => rfl
    | cons y t => cases h
  | cons x r =>
    cases m with
    | nil => cases h
    | cons y t => rw [Option.some.inj h]; rfl
/-- what is to be shown of marks -/
theorem agree_of {ml : List Bool} {begin : Nat} {s : Mk.Kept} (fit : s.Fit) (sh : ∀ pace start, Shape ml begin pace start → start = Mk.len s.st ∧ pace = s.w) (bits : ∀ n, n < ml.length → ml.getD n false = s.mem n)
    (lt : begin < ml.length) (few : ml.length ≤ 3000) (inb : Mk.len s.st + s.w ≤ ml.length) (fin : (ml.drop begin).any id = true ↔ s.cy ≠ 0) (any : ml.any id = true ↔ s.cy ||| s.st ≠ 0) : Agree ml begin s := by
  refine ⟨sh, bits, fit, lt, few, inb, headD_nats ?_, ?_, ?_⟩
  · have e : ((List.range ml.length).filter fun i => ml.getD i false) = (List.range ml.length).filter fun i => s.mem i := List.filter_congr fun n hn => bits n (List.mem_range.mp hn)
    rw [e]
    exact Mk.head_same fit.w0 inb
  · by_cases c : s.cy = 0
    · rw [decide_eq_true c]
      cases b : (ml.drop begin).any id with
      | false => rfl
      | true => exact (fin.mp b c).elim
    · rw [decide_eq_false c, fin.mpr c]
      rfl
  · by_cases c : s.cy ||| s.st = 0
    · rw [decide_eq_false (not_not_intro c)]
      cases b : ml.any id with
      | false => rfl
      | true => exact (any.mp b c).elim
    · rw [decide_eq_true c, any.mpr c]
theorem or_ne {a b : Nat} : a ||| b ≠ 0 ↔ a ≠ 0 ∨ b ≠ 0 := by
  constructor
  · intro h
    by_cases c : a = 0
    · right
      intro z
      rw [c, z] at h
      exact h rfl
    · exact .inl c
  · intro h z
    have e : ∀ i, (a ||| b).testBit i = false := fun i => by rw [z, Nat.zero_testBit]
    rcases h with h | h
    · exact h (Mk.eq_zero_of fun i => by
        have := e i
        rw [Nat.testBit_or, Bool.or_eq_false_iff] at this
        exact this.1)
    · exact h (Mk.eq_zero_of fun i => by
        have := e i
        rw [Nat.testBit_or, Bool.or_eq_false_iff] at this
        exact this.2)
/-! numbers -/
def numsM (ms : List Nat) (M : Nat) : List Bool := (List.range (M + 1)).map fun n => decide (n ∈ ms)
theorem numsM_len (ms : List Nat) (M : Nat) : (numsM ms M).length = M + 1 := by
  unfold numsM
  rw [List.length_map, List.length_range]
theorem nums_mem {ms : List Nat} {s : Mk.Kept} (h : Mk.IsNums ms s) (n : Nat) : s.mem n = decide (n ∈ ms) := by
  unfold Mk.Kept.mem
  rw [h.cy, h.st, Nat.zero_testBit, Bool.false_xor]
theorem nums_bits {ms : List Nat} {s : Mk.Kept} {M : Nat} (h : Mk.IsNums ms s) (n : Nat) (hn : n < M + 1) : (numsM ms M).getD n false = s.mem n := by
  unfold numsM
  rw [Mk.getD_marks, decide_eq_true hn, Bool.true_and, nums_mem h]
theorem nums_stlt {ms : List Nat} {s : Mk.Kept} {M : Nat} (h : Mk.IsNums ms s) (hm : ∀ m ∈ ms, m < M) : s.st < 2 ^ M := Nat.lt_pow_two_of_testBit s.st fun i hi => by
  rw [h.st]
  exact decide_eq_false fun z => by
    have := hm i z
    omega
theorem agree_nums {ms : List Nat} {s : Mk.Kept} {M : Nat} (h : Mk.IsNums ms s) (hm : ∀ m ∈ ms, m < M) (M1 : M ≤ 1001) : Agree (numsM ms M) M s := by
  have st := nums_stlt h hm
  have sl := Mk.len_le st
  have hw := h.w
  have hM : s.mem M = false := by
    rw [nums_mem h]
    exact decide_eq_false fun z => by
      have := hm M z
      omega
  have out : ∀ i, M ≤ i → s.mem i = false := fun i hi => by
    rw [nums_mem h]
    exact decide_eq_false fun z => by
      have := hm i z
      omega
  have ms_st : ∀ i, s.mem i = s.st.testBit i := fun i => by rw [nums_mem h, h.st]
  refine agree_of ⟨by omega, by omega, by rw [h.cy]; exact Nat.two_pow_pos _, by omega⟩ ?_ (fun n hn => nums_bits h n (by rwa [numsM_len] at hn)) (by rw [numsM_len]; omega) (by rw [numsM_len]; omega) (by rw [numsM_len]; omega) ?_ ?_
  · intro pace start S
    have p1 := S.p1
    have p2 := S.p2
    rw [numsM_len] at p2
    have e : pace = 1 := by omega
    subst e
    refine ⟨?_, hw.symm⟩
    have s1 := S.s1
    have dn : ∀ k, k ≤ M - start → s.mem (M - k) = false := fun k => by
      induction k with
      | zero => intro _; exact hM
      | succ k ih =>
        intro hk
        have := S.down (M - (k + 1)) (by omega) (by omega)
        rw [nums_bits h _ (by omega), nums_bits h _ (by omega), show M - (k + 1) + 1 = M - k by omega, ih (by omega)] at this
        exact this
    have up : ∀ i, start ≤ i → s.st.testBit i = false := fun i hi => by
      rw [← ms_st]
      by_cases c : i < M
      · have := dn (M - i) (by omega)
        rwa [show M - (M - i) = i by omega] at this
      · exact out i (by omega)
    by_cases c : start = 0
    · have : s.st = 0 := Mk.eq_zero_of fun i => up i (by omega)
      rw [this, c]
      rfl
    · have := S.stop (by omega)
      rw [nums_bits h _ (by omega), nums_bits h _ (by omega), show start - 1 + 1 = start by omega, ms_st start, up start (Nat.le_refl _), ms_st] at this
      have b1 : s.st.testBit (start - 1) = true := by
        cases b : s.st.testBit (start - 1) with
        | true => rfl
        | false => exact (this b).elim
      have := Mk.len_of b1 fun i hi => up i (by omega)
      omega
  · rw [Mk.any_marks]
    constructor
    · rintro ⟨n, hn, e⟩
      rw [List.length_drop, numsM_len] at hn
      rw [Mk.getD_drop, nums_bits h _ (by omega), out _ (by omega)] at e
      cases e
    · intro z
      exact (z h.cy).elim
  · rw [Mk.any_marks, or_ne]
    constructor
    · rintro ⟨n, hn, e⟩
      rw [numsM_len] at hn
      rw [nums_bits h _ hn, ms_st] at e
      right
      intro z
      rw [z, Nat.zero_testBit] at e
      cases e
    · rintro (z | z)
      · exact (z h.cy).elim
      · obtain ⟨i, hi⟩ : ∃ i, s.st.testBit i = true := by
          apply Classical.byContradiction
          intro no
          exact z (Mk.eq_zero_of fun i => by
            cases b : s.st.testBit i with
            | false => rfl
            | true => exact (no ⟨i, b⟩).elim)
        have li : i < M := by
          apply Classical.byContradiction
          intro c
          have := out i (by omega)
          rw [ms_st, hi] at this
          cases this
        exact ⟨i, by rw [numsM_len]; omega, by rw [nums_bits h _ (by omega), ms_st]; exact hi⟩
theorem mark_nums {ms : List Nat} {s : Mk.Kept} {M : Nat} (h : Mk.IsNums ms s) (hm : ∀ m ∈ ms, m < M) (n : Nat) : markAt (numsM ms M) M n = s.mem n := by
  unfold markAt
  rw [numsM_len]
  by_cases c : n < M + 1
  · rw [if_pos c, nums_bits h n c]
  · rw [if_neg c, show M + 1 - M = 1 by omega, Nat.mod_one, Nat.add_zero, nums_bits h M (by omega), nums_mem h, nums_mem h, decide_eq_false, decide_eq_false]
    · intro z
      have := hm n z
      omega
    · intro z
      have := hm M z
      omega
/-! steps -/
def stepsM (b p : Nat) : List Bool := (List.range (b + p)).map fun n => decide (b ≤ n) && decide ((n - b) % p = 0)
theorem stepsM_len (b p : Nat) : (stepsM b p).length = b + p := by
  unfold stepsM
  rw [List.length_map, List.length_range]
theorem steps_mem {b p : Nat} {s : Mk.Kept} (h : Mk.IsSteps b p s) (hp : 0 < p) (n : Nat) : s.mem n = (decide (b ≤ n) && decide ((n - b) % p = 0)) := by
  unfold Mk.Kept.mem
  rw [h.cy, h.st, h.w, Nat.testBit_two_pow]
  by_cases c : b ≤ n
  · have e : decide ((n - b) % p = 0) = decide (b % p = n % p) := decide_eq_decide.mpr ((Mk.sub_mod_zero c hp).trans ⟨fun x => x.symm, fun x => x.symm⟩)
    rw [decide_eq_true c, Bool.true_and, e, decide_eq_false (p := n < b ∧ n % p = b % p) (by omega), Bool.xor_false]
  · rw [decide_eq_false c, Bool.false_and]
    have e : decide (n < b ∧ n % p = b % p) = decide (b % p = n % p) := decide_eq_decide.mpr ⟨fun x => x.2.symm, fun x => ⟨by omega, x.symm⟩⟩
    rw [e, Bool.xor_self]
theorem steps_bits2 {b p : Nat} {s : Mk.Kept} (h : Mk.IsSteps b p s) (hp : 0 < p) (n : Nat) (hn : n < b + p) : (stepsM b p).getD n false = s.mem n := by
  unfold stepsM
  rw [Mk.getD_marks, decide_eq_true hn, Bool.true_and, steps_mem h hp]
theorem agree_steps {b p : Nat} {s : Mk.Kept} (h : Mk.IsSteps b p s) (hp : 0 < p) (p1 : p ≤ 12) (b1 : b ≤ 1000) : Agree (stepsM b p) b s := by
  have st : s.st < 2 ^ b := Nat.lt_pow_two_of_testBit s.st fun i hi => by
    rw [h.st]
    exact decide_eq_false (by omega)
  have sl := Mk.len_le st
  have hw := h.w
  have atb : s.mem b = true := by
    rw [steps_mem h hp, decide_eq_true (Nat.le_refl _), Nat.sub_self, Nat.zero_mod]
    rfl
  have low : ∀ i, i < b → s.mem i = false := fun i hi => by rw [steps_mem h hp, decide_eq_false (by omega)]; rfl
  have cy0 : s.cy ≠ 0 := by
    rw [h.cy]
    exact Nat.ne_of_gt (Nat.two_pow_pos _)
  refine agree_of ⟨by omega, by omega, ?_, by omega⟩ ?_ (fun n hn => steps_bits2 h hp n (by rwa [stepsM_len] at hn)) (by rw [stepsM_len]; omega) (by rw [stepsM_len]; omega) (by rw [stepsM_len]; omega) ?_ ?_
  · rw [h.cy, hw]
    exact (Nat.pow_lt_pow_iff_right (by decide)).mpr (Nat.mod_lt b hp)
  · intro pace start S
    have q1 := S.p1
    have q2 := S.p2
    rw [stepsM_len] at q2
    have ep : pace = p := by
      apply Classical.byContradiction
      intro c
      have t := congrArg (fun l : List Bool => l.getD 0 false) S.turn
      have ll : ((stepsM b p).drop b).length = p := by rw [List.length_drop, stepsM_len]; omega
      have e1 : (((stepsM b p).drop b).drop pace ++ ((stepsM b p).drop b).take pace).getD 0 false = (stepsM b p).getD (b + pace) false := by
        rw [List.getD_eq_getElem?_getD, List.getElem?_append_left (by rw [List.length_drop, ll]; omega), List.getElem?_drop, List.getElem?_drop, List.getD_eq_getElem?_getD]
        rfl
      have e2 : ((stepsM b p).drop b).getD 0 false = (stepsM b p).getD b false := Mk.getD_drop _ _ _
      have t : (((stepsM b p).drop b).drop pace ++ ((stepsM b p).drop b).take pace).getD 0 false = ((stepsM b p).drop b).getD 0 false := t
      rw [e1, e2, steps_bits2 h hp _ (by omega), steps_bits2 h hp _ (by omega), atb, steps_mem h hp, decide_eq_true (by omega), Nat.add_sub_cancel_left, Nat.mod_eq_of_lt (by omega), decide_eq_false (by omega)] at t
      cases t
    subst ep
    refine ⟨?_, hw.symm⟩
    have s1 := S.s1
    have up : ∀ i, start ≤ i → s.st.testBit i = false := fun i hi => by
      rw [h.st]
      refine decide_eq_false fun ⟨l1, l2⟩ => ?_
      have d1 : (b - i) % pace = 0 := (Mk.sub_mod_zero (by omega) hp).mpr l2.symm
      have d2 : pace ≤ b - i := Nat.le_of_dvd (by omega) (Nat.dvd_of_mod_eq_zero d1)
      have := S.down (b - pace) (by omega) (by omega)
      rw [steps_bits2 h hp _ (by omega), steps_bits2 h hp _ (by omega), show b - pace + pace = b by omega, atb, low _ (by omega)] at this
      cases this
    by_cases c : start = 0
    · have : s.st = 0 := Mk.eq_zero_of fun i => up i (by omega)
      rw [this, c]
      rfl
    · have := S.stop (by omega)
      rw [steps_bits2 h hp _ (by omega), steps_bits2 h hp _ (by omega), low _ (by omega)] at this
      have m1 : s.mem (start - 1 + pace) = true := by
        cases b : s.mem (start - 1 + pace) with
        | true => rfl
        | false => exact (this b.symm).elim
      rw [steps_mem h hp, Bool.and_eq_true_iff, decide_eq_true_eq, decide_eq_true_eq] at m1
      obtain ⟨m1, m2⟩ := m1
      have m3 := (Mk.sub_mod_zero m1 hp).mp m2
      rw [Nat.add_mod_right] at m3
      have b1 : s.st.testBit (start - 1) = true := by
        rw [h.st]
        exact decide_eq_true ⟨by omega, m3⟩
      have := Mk.len_of b1 fun i hi => up i (by omega)
      omega
  · rw [Mk.any_marks]
    refine ⟨fun _ => cy0, fun _ => ⟨0, by rw [List.length_drop, stepsM_len]; omega, ?_⟩⟩
    rw [Mk.getD_drop, Nat.add_zero, steps_bits2 h hp _ (by omega), atb]
  · rw [Mk.any_marks, or_ne]
    refine ⟨fun _ => .inl cy0, fun _ => ⟨b, by rw [stepsM_len]; omega, ?_⟩⟩
    rw [steps_bits2 h hp _ (by omega), atb]
theorem mark_steps {b p : Nat} {s : Mk.Kept} (h : Mk.IsSteps b p s) (hp : 0 < p) (n : Nat) : markAt (stepsM b p) b n = s.mem n := by
  unfold markAt
  rw [stepsM_len]
  by_cases c : n < b + p
  · rw [if_pos c, steps_bits2 h hp n c]
  · have hm := Nat.mod_lt (n - b) hp
    rw [if_neg c, Nat.add_sub_cancel_left, steps_bits2 h hp _ (by omega), steps_mem h hp, steps_mem h hp, Nat.add_sub_cancel_left, Nat.mod_mod, decide_eq_true (Nat.le_add_right _ _), decide_eq_true (p := b ≤ n) (by omega)]
end Wp

namespace Wp
open PySem PySem.Spec PyProof.Rows L2 Hx
/-- the marks of a set up to its second wheel -/
def marksOf (s : Mk.Kept) (begin size : Nat) : List Bool := (List.range (begin + size)).map s.mem
theorem marksOf_len (s : Mk.Kept) (begin size : Nat) : (marksOf s begin size).length = begin + size := by
  unfold marksOf
  rw [List.length_map, List.length_range]
theorem marksOf_at {s : Mk.Kept} {begin size n : Nat} (h : n < begin + size) : (marksOf s begin size).getD n false = s.mem n := by
  unfold marksOf
  rw [Mk.getD_marks, decide_eq_true h, Bool.true_and]
theorem mark_gen {s : Mk.Kept} {begin size : Nat} (s0 : 0 < size) (h : s.From begin size) (n : Nat) : markAt (marksOf s begin size) begin n = s.mem n := by
  unfold markAt
  rw [marksOf_len]
  by_cases c : n < begin + size
  · rw [if_pos c, marksOf_at c]
  · have hm := Nat.mod_lt (n - begin) s0
    rw [if_neg c, Nat.add_sub_cancel_left, marksOf_at (by omega)]
    have := h.mul ((n - begin) / size) (begin + (n - begin) % size) (by omega)
    rw [Nat.add_assoc, Nat.mod_add_div, show begin + (n - begin) = n by omega] at this
    exact this.symm
theorem wheel_at {s : Mk.Kept} {begin size i : Nat} (h : i < size) : ((marksOf s begin size).drop begin)[i]? = some (s.mem (begin + i)) := by
  unfold marksOf
  rw [List.getElem?_drop, List.getElem?_map, List.getElem?_range (by omega)]
  rfl
theorem wheel_len {s : Mk.Kept} {begin size : Nat} : ((marksOf s begin size).drop begin).length = size := by
  rw [List.length_drop, marksOf_len]
  omega
theorem turn_at {s : Mk.Kept} {begin size k i : Nat} (hk : k ≤ size) (h : i < size) : (((marksOf s begin size).drop begin).drop k ++ ((marksOf s begin size).drop begin).take k)[i]? = some (s.mem (begin + if i + k < size then i + k else i + k - size)) := by
  have l1 : (((marksOf s begin size).drop begin).drop k).length = size - k := by rw [List.length_drop, wheel_len]
  by_cases c : i + k < size
  · rw [if_pos c, List.getElem?_append_left (by omega), List.getElem?_drop, Nat.add_comm k i, wheel_at c]
  · rw [if_neg c, List.getElem?_append_right (by omega), l1, List.getElem?_take, if_pos (by omega), show i - (size - k) = i + k - size by omega, wheel_at (by omega)]
theorem agree_gen {s : Mk.Kept} {begin size : Nat} (G : s.Good) (s0 : 0 < size) (h : s.From begin size) (l1 : begin ≤ 2000) (l2 : size ≤ 1000) : Agree (marksOf s begin size) begin s := by
  have w0 := G.least.pos
  have wd := G.dvd s0 h
  have wle := Nat.le_of_dvd s0 wd
  have ll := G.len_le s0 h
  have far : ∀ n, begin ≤ n → s.mem n = Mk.rep s.cy s.w n := fun n hn => Mk.Kept.mem_rep (by omega)
  have cyE : s.cy ≠ 0 ↔ ∃ i, i < size ∧ s.mem (begin + i) = true := by
    constructor
    · intro z
      obtain ⟨i, hi⟩ : ∃ i, s.cy.testBit i = true := by
        apply Classical.byContradiction
        intro no
        exact z (Mk.eq_zero_of fun i => by
          cases b : s.cy.testBit i with
          | false => rfl
          | true => exact (no ⟨i, b⟩).elim)
      have iw : i < s.w := by
        apply Classical.byContradiction
        intro c
        rw [Nat.testBit_lt_two_pow (Nat.lt_of_lt_of_le G.cy (Nat.pow_le_pow_right (by decide) (by omega)))] at hi
        cases hi
      refine ⟨(i + s.w * begin - begin) % s.w, Nat.lt_of_lt_of_le (Nat.mod_lt _ w0) wle, ?_⟩
      have big : begin ≤ s.w * begin := Nat.le_mul_of_pos_left _ w0
      rw [far _ (by omega)]
      have e : (begin + (i + s.w * begin - begin) % s.w) % s.w = i % s.w := by
        rw [Nat.add_mod, Nat.mod_mod, ← Nat.add_mod, show begin + (i + s.w * begin - begin) = i + s.w * begin by omega, Nat.add_mul_mod_self_left]
      unfold Mk.rep
      rw [e, Nat.mod_eq_of_lt iw]
      exact hi
    · rintro ⟨i, hi, e⟩ z
      rw [far _ (by omega)] at e
      unfold Mk.rep at e
      rw [z, Nat.zero_testBit] at e
      cases e
  refine agree_of ⟨w0, by omega, G.cy, by omega⟩ ?_ (fun n hn => marksOf_at (by rwa [marksOf_len] at hn)) (by rw [marksOf_len]; omega) (by rw [marksOf_len]; omega) (by rw [marksOf_len]; omega) ?_ ?_
  · intro pace start S
    have q1 := S.p1
    have q2 := S.p2
    have q3 := S.dv
    have lenW : (marksOf s begin size).length - begin = size := by rw [marksOf_len]; omega
    rw [lenW] at q2 q3
    have pd := Nat.dvd_of_mod_eq_zero q3
    -- a turn that changes nothing is a period
    have sh : Mk.Sh (Mk.rep s.cy s.w) pace := by
      have shS := G.least.sh.dvd wd
      have one : ∀ i, i < size → Mk.rep s.cy s.w (begin + i + pace) = Mk.rep s.cy s.w (begin + i) := fun i hi => by
        have t := congrArg (fun l : List Bool => l[i]?) S.turn
        have t : (((marksOf s begin size).drop begin).drop pace ++ ((marksOf s begin size).drop begin).take pace)[i]? = ((marksOf s begin size).drop begin)[i]? := t
        rw [turn_at q2 hi, wheel_at hi] at t
        have t := Option.some.inj t
        rw [far _ (by omega), far _ (by omega)] at t
        rw [← t]
        by_cases c : i + pace < size
        · rw [if_pos c, Nat.add_assoc]
        · rw [if_neg c, ← shS (begin + (i + pace - size)), show begin + (i + pace - size) + size = begin + i + pace by omega]
      intro n
      have big : begin ≤ s.w * begin := Nat.le_mul_of_pos_left _ w0
      have e1 := G.least.sh.mul begin (n + pace)
      have e2 := G.least.sh.mul begin n
      rw [← e1, ← e2]
      have e3 := shS.mul ((n + s.w * begin - begin) / size) (begin + (n + s.w * begin - begin) % size)
      have e4 := shS.mul ((n + s.w * begin - begin) / size) (begin + (n + s.w * begin - begin) % size + pace)
      have e5 := Nat.mod_add_div (n + s.w * begin - begin) size
      have lt := Nat.mod_lt (n + s.w * begin - begin) s0
      rw [show begin + (n + s.w * begin - begin) % size + size * ((n + s.w * begin - begin) / size) = n + s.w * begin by omega] at e3
      rw [show begin + (n + s.w * begin - begin) % size + pace + size * ((n + s.w * begin - begin) / size) = n + pace + s.w * begin by omega] at e4
      rw [e3, e4, one _ lt]
    have wp := G.least.dvd pace q1 sh
    have wle2 := Nat.le_of_dvd q1 wp
    have ep : pace = s.w := by
      apply Classical.byContradiction
      intro c
      refine S.lst s.w w0 (by omega) (by rw [lenW]; exact Nat.mod_eq_zero_of_dvd wd) ?_
      refine List.ext_getElem? fun i => ?_
      by_cases hi : i < size
      · rw [turn_at (by omega) hi, wheel_at hi]
        refine congrArg some ?_
        rw [far _ (by omega), far _ (by omega)]
        by_cases d : i + s.w < size
        · rw [if_pos d, ← Nat.add_assoc, G.least.sh]
        · rw [if_neg d, ← G.least.sh.dvd wd (begin + (i + s.w - size)), show begin + (i + s.w - size) + size = begin + i + s.w by omega, G.least.sh]
      · rw [List.getElem?_eq_none (by rw [List.length_append, List.length_drop, List.length_take, wheel_len]; omega), List.getElem?_eq_none (by rw [wheel_len]; omega)]
    refine ⟨?_, ep⟩
    have s1 := S.s1
    have dn : ∀ i, start ≤ i → s.mem (i + s.w) = s.mem i := fun i hi => by
      by_cases c : i < begin
      · have := S.down i hi c
        rw [marksOf_at (by omega), marksOf_at (by omega), ep] at this
        exact this.symm
      · rw [far _ (by omega), far _ (by omega), G.least.sh]
    have up : ∀ i, start ≤ i → s.st.testBit i = false := fun i hi => by
      have fr : s.From start s.w := fun n hn => dn n hn
      have big : (Mk.len s.st) ≤ s.w * (Mk.len s.st) := Nat.le_mul_of_pos_left _ w0
      have e := fr.mul ((Mk.len s.st)) i hi
      rw [s.st_bit, ← e, Mk.Kept.mem_rep (Nat.le_trans (show Mk.len s.st ≤ s.w * (Mk.len s.st) from big) (Nat.le_add_left _ _)), G.least.sh.mul, Bool.xor_self]
    by_cases c : start = 0
    · have : s.st = 0 := Mk.eq_zero_of fun i => up i (by omega)
      rw [this, c]
      rfl
    · have st := S.stop (by omega)
      rw [marksOf_at (by omega), marksOf_at (by omega), ep] at st
      have e1 : s.mem (start - 1 + s.w) = Mk.rep s.cy s.w (start - 1) := by
        have := s.st_bit (start - 1 + s.w)
        rw [up _ (by omega), G.least.sh] at this
        cases a : s.mem (start - 1 + s.w) <;> cases b : Mk.rep s.cy s.w (start - 1) <;> rw [a, b] at this <;> first | rfl | cases this
      have b1 : s.st.testBit (start - 1) = true := by
        rw [s.st_bit, ← e1]
        cases a : s.mem (start - 1) <;> cases b : s.mem (start - 1 + s.w) <;> rw [a, b] at st <;> first | rfl | exact (st rfl).elim
      have := Mk.len_of b1 fun i hi => up i (by omega)
      omega
  · rw [Mk.any_marks, cyE]
    constructor
    · rintro ⟨n, hn, e⟩
      rw [wheel_len] at hn
      rw [Mk.getD_drop, marksOf_at (by omega)] at e
      exact ⟨n, hn, e⟩
    · rintro ⟨n, hn, e⟩
      refine ⟨n, by rw [wheel_len]; exact hn, ?_⟩
      rw [Mk.getD_drop, marksOf_at (by omega)]
      exact e
  · rw [Mk.any_marks, or_ne]
    constructor
    · rintro ⟨n, hn, e⟩
      rw [marksOf_len] at hn
      rw [marksOf_at hn] at e
      apply Classical.byContradiction
      intro no
      have c0 : s.cy = 0 := Classical.byContradiction fun z => no (.inl z)
      have t0 : s.st = 0 := Classical.byContradiction fun z => no (.inr z)
      unfold Mk.Kept.mem at e
      rw [c0, t0, Nat.zero_testBit, Nat.zero_testBit] at e
      cases e
    · intro z
      have viaC : s.cy ≠ 0 → ∃ n, n < (marksOf s begin size).length ∧ (marksOf s begin size).getD n false = true := fun z => by
        obtain ⟨i, hi, e⟩ := cyE.mp z
        exact ⟨begin + i, by rw [marksOf_len]; omega, by rw [marksOf_at (by omega)]; exact e⟩
      rcases z with z | z
      · exact viaC z
      · by_cases c0 : s.cy = 0
        · obtain ⟨i, hi⟩ : ∃ i, s.st.testBit i = true := by
            apply Classical.byContradiction
            intro no
            exact z (Mk.eq_zero_of fun i => by
              cases b : s.st.testBit i with
              | false => rfl
              | true => exact (no ⟨i, b⟩).elim)
          have il : i < Mk.len s.st := by
            apply Classical.byContradiction
            intro c
            rw [Mk.bit_out (by omega)] at hi
            cases hi
          refine ⟨i, by rw [marksOf_len]; omega, ?_⟩
          rw [marksOf_at (by omega)]
          unfold Mk.Kept.mem
          rw [c0, hi, Nat.zero_testBit]
          rfl
        · exact viaC c0
end Wp

/-! x op y by the left operand's own def, whatever stands at the right -/
namespace PySem.W
open Lean Elab Tactic Meta PySem PySem.Calls PyProof.Rows
section
variable {prog : Program} {w : World} {A : Around} {E : Value → Shared → Prop} {s : Shared} {K : Frag} {x C D L f g : Addr} {h₀ : Heap} {m : Str → Option Value} {ox : Obj} {od : Option Obj} {T : String}
theorem own_binT {op : Operator} {b : Value} {fo ro rc : Option Value} {Q : Value → Shared → Prop} (F : Fr h₀ L s.heap m) (X₀ : K.In h₀) (I : InstAt s.heap x ox C od) (hb : Looks (model prog w) s.heap (typeOf b) (.type T)) (hc : selfFirst K C = true)
    (hs : findIn K (.ref C) (PySem.dunder op.info.2) = some (some (.ref f))) (hf : isFn K (.ref f) = true) (hr : findIn K (.ref C) (dunderR op.info.2) = some rc) (hp : rc = none ∨ ∃ g : Addr, rc = some (.ref g))
    (h1 : findIn K (.type T) (PySem.dunder op.info.2) = some fo) (h2 : findIn K (.type T) (dunderR op.info.2) = some ro) (hsub : subIn K (.type T) (.ref C) = some false)
    (h : wpAny (model prog w) A (call (.ref f) [.ref x, b]) (CmpBack Q) E s) : wpAny (model prog w) A (binaryOp op (.ref x) b) Q E s := by
  have X := X₀.keeps F.keep
  obtain ⟨cd, rest, hcd, hm⟩ := ksp_first hc
  rcases hi : op.info with ⟨sym, nm'⟩
  rw [hi] at hs hr h1 h2
  dsimp only at hs hr h1 h2
  have one := ksp_try X I hs hf h
  obtain ⟨hh, g, d, tt, os⟩ := s
  have L1 : Looks (model prog w) hh (typeOf (.ref x)) (.ref C) := I.type
  have L2 : Looks (model prog w) hh (typeOf b) (.type T) := hb
  have L3 : Looks (model prog w) hh (fillsNumberSlot (.ref C) nm') true := fills_K X hcd hm hs
  have L4 : Looks (model prog w) hh (fillsNumberSlot (.type T) nm') ((fo.isSome && !isSeqSlot fo) || (ro.isSome && !isSeqSlot ro)) := ksp_fillsT X h1 h2
  have L5 : Looks (model prog w) hh (isSubtype (.type T) (.ref C)) false := looks_subIn X hsub
  have L6 : Looks (model prog w) hh (numberSlotInPython (.ref C) nm') true := ksp_inPy X hs hr hp
  have L7 : Looks (model prog w) hh (numberSlotInPython (.type T) nm') false := Looks.of_pure rfl
  have L8 : Looks (model prog w) hh (typeLookup (.type T) (dunderR nm')) ro := looks_findIn X h2
  generalize ((fo.isSome && !isSeqSlot fo) || (ro.isSome && !isSeqSlot ro)) = right at L4
  have hne : (Value.ref C == Value.type T) = false := Bool.eq_false_iff.mpr fun q => by cases beq_iff_eq.mp q
  simp only [binaryOp, hi]
  refine wpAny_holding (wpAny_bind ?_)
  unfold binaryOp1
  refine wpAny_bind (L1.at (wpAny_bind (L2.at (wpAny_bind (L3.at ?_)))))
  simp only [hne, Bool.false_eq_true, if_false]
  cases right with
  | false =>
    ksp_lk
    refine wpAny_mono one (fun r s' hr' => ?_) fun _ _ e => e
    obtain ⟨v, rfl, hq⟩ := hr'
    ksp_lk
    exact hq
  | true =>
    ksp_lk
    refine wpAny_mono one (fun r s' hr' => ?_) fun _ _ e => e
    obtain ⟨v, rfl, hq⟩ := hr'
    ksp_lk
    exact hq
/-- the right operand is of another own class that has the operator, too -/
theorem own_binR {op : Operator} {b : Value} {rc rd : Option Value} {Q : Value → Shared → Prop} (F : Fr h₀ L s.heap m) (X₀ : K.In h₀) (I : InstAt s.heap x ox C od) (hb : Looks (model prog w) s.heap (typeOf b) (.ref D)) (hc : selfFirst K C = true) (hcd : selfFirst K D = true)
    (hs : findIn K (.ref C) (PySem.dunder op.info.2) = some (some (.ref f))) (hf : isFn K (.ref f) = true) (hr : findIn K (.ref C) (dunderR op.info.2) = some rc) (hp : rc = none ∨ ∃ g : Addr, rc = some (.ref g))
    (h1 : findIn K (.ref D) (PySem.dunder op.info.2) = some (some (.ref g))) (h2 : findIn K (.ref D) (dunderR op.info.2) = some rd) (hp2 : rd = none ∨ ∃ g : Addr, rd = some (.ref g)) (hsub : subIn K (.ref D) (.ref C) = some false) (hne : C ≠ D)
    (h : wpAny (model prog w) A (call (.ref f) [.ref x, b]) (CmpBack Q) E s) : wpAny (model prog w) A (binaryOp op (.ref x) b) Q E s := by
  have X := X₀.keeps F.keep
  obtain ⟨cd, rest, hcc, hm⟩ := ksp_first hc
  obtain ⟨cd2, rest2, hcc2, hm2⟩ := ksp_first hcd
  rcases hi : op.info with ⟨sym, nm'⟩
  rw [hi] at hs hr h1 h2
  dsimp only at hs hr h1 h2
  have one := ksp_try X I hs hf h
  obtain ⟨hh, gg, d, tt, os⟩ := s
  have L1 : Looks (model prog w) hh (typeOf (.ref x)) (.ref C) := I.type
  have L2 : Looks (model prog w) hh (typeOf b) (.ref D) := hb
  have L3 : Looks (model prog w) hh (fillsNumberSlot (.ref C) nm') true := fills_K X hcc hm hs
  have L4 : Looks (model prog w) hh (fillsNumberSlot (.ref D) nm') true := fills_K X hcc2 hm2 h1
  have L5 : Looks (model prog w) hh (isSubtype (.ref D) (.ref C)) false := looks_subIn X hsub
  have L6 : Looks (model prog w) hh (numberSlotInPython (.ref C) nm') true := ksp_inPy X hs hr hp
  have L7 : Looks (model prog w) hh (numberSlotInPython (.ref D) nm') true := ksp_inPy X h1 h2 hp2
  have hne2 : (Value.ref C == Value.ref D) = false := Bool.eq_false_iff.mpr fun q => hne (Value.ref.inj (beq_iff_eq.mp q))
  simp only [binaryOp, hi]
  refine wpAny_holding (wpAny_bind ?_)
  unfold binaryOp1
  refine wpAny_bind (L1.at (wpAny_bind (L2.at (wpAny_bind (L3.at ?_)))))
  simp only [hne2, Bool.false_eq_true, if_false]
  ksp_lk
  refine wpAny_mono one (fun r s' hr' => ?_) fun _ _ e => e
  obtain ⟨v, rfl, hq⟩ := hr'
  ksp_lk
  exact hq
end
end PySem.W
namespace Hx
open PySem PySem.Spec PyProof.Rows L2
/-- the class at C has the operator by a def of its own, which may let an error out -/
structure BinOwn (P : Program) (w : World) (K : PySem.W.Frag) (mg : Str → Option Value) (base : Heap) (k : Nat) (C : Addr) (op : Operator) (sp : Sp) : Prop where
  go : ∃ (g : Addr) (fd : FuncData) (ps : List Str), PySem.W.findIn K (.ref C) (PySem.dunder op.info.2) = some (some (.ref g)) ∧ PySem.W.isFn K (.ref g) = true ∧ FnOk P w K mg base (L2.CX P w) k g fd ps sp ∧ Binds K fd ps []
  first : PySem.W.selfFirst K C = true
  refl : PySem.W.findIn K (.ref C) (dunderR op.info.2) = some none
/-- what the class of the right operand is asked for -/
inductive BinR (K : PySem.W.Frag) (C : Addr) (op : Operator) : Value → Prop
  | ty {T : String} {fo ro : Option Value} : PySem.W.findIn K (.type T) (PySem.dunder op.info.2) = some fo → PySem.W.findIn K (.type T) (dunderR op.info.2) = some ro → PySem.W.subIn K (.type T) (.ref C) = some false → BinR K C op (.type T)
  | same : BinR K C op (.ref C)
  | other {D g : Addr} : C ≠ D → PySem.W.selfFirst K D = true → PySem.W.findIn K (.ref D) (PySem.dunder op.info.2) = some (some (.ref g)) → PySem.W.findIn K (.ref D) (dunderR op.info.2) = some none → PySem.W.subIn K (.ref D) (.ref C) = some false → BinR K C op (.ref D)
/-- the class of the right operand, as it stands -/
inductive RightB (H : Hp) : V → Value → Prop
  | non : RightB H .non (.type "NoneType")
  | bl (b : Bool) : RightB H (.bl b) (.type "bool")
  | int (i : Int) : RightB H (.int i) (.type "int")
  | str (z : Str) : RightB H (.str z) (.type "str")
  | lst {a : Addr} {xs : List V} : H a = some (.lst xs) → RightB H (.ref a) (.type "list")
  | tup {a : Addr} {xs : List V} : H a = some (.tup xs) → RightB H (.ref a) (.type "tuple")
  | dK {a : Addr} {ks : List (Key × V)} : H a = some (.dK ks) → RightB H (.ref a) (.type "dict")
  | ins {a C dx : Addr} {fs : List (Str × V)} : H a = some (.ins C dx fs) → RightB H (.ref a) (.ref C)
def rBinA (P : Program) (w : World) (K : PySem.W.Frag) (mg : Str → Option Value) (base : Heap) (k : Nat) (op : Operator) (E : XK) : R2 := fun x y H Q => ∃ (a C dx : Addr) (fs : List (Str × V)) (sp : Sp) (t : Value), x = .ref a ∧ H a = some (.ins C dx fs) ∧
  BinOwn P w K mg base k C op sp ∧ RightB H y t ∧ BinR K C op t ∧ sp [x, y] H (fun v H' => ∃ r, v = .ref r ∧ Q (.ref r) H') E
section
variable {X : Cx} {k : Nat} {op : Operator} {E : XK}
theorem right_b {pins : List (Addr × Obj)} {σ : L2.St} {H : Hp} {s : Shared} {y : V} {u t : Value} (I : Inv X pins σ H s) (ry : RelV y u) (r : RightB H y t) : PySem.W.Looks (model X.prog X.w) s.heap (typeOf u) t := by
  cases r with
  | non => cases ry; exact .of_pure rfl
  | bl b => cases ry; exact .of_pure rfl
  | int i => obtain ⟨t, rfl⟩ := ry; exact .of_pure rfl
  | str z => obtain ⟨t, rfl⟩ := ry; exact .of_pure rfl
  | @lst a xs e =>
    cases (show u = Value.ref a from ry)
    obtain ⟨_, its, n, rv, hg⟩ := (show ObjOk X.prog X.w H s.heap a (.lst xs) from I.hok a _ e)
    exact (PySem.W.Looks.ld hg).andThen .now
  | @tup a xs e =>
    cases (show u = Value.ref a from ry)
    obtain ⟨its, _, ⟨o, ho, hc, _⟩, _⟩ := I.tuple (SqT.of e)
    exact hc ▸ (PySem.W.Looks.ld ho).andThen .now
  | @dK a ks e =>
    cases (show u = Value.ref a from ry)
    obtain ⟨_, _, vs, rk, o, des, ep, hg, hx, hd, _⟩ := (show ObjOk X.prog X.w H s.heap a (.dK ks) from I.hok a _ e)
    exact hx.1 ▸ (PySem.W.Looks.ld hg).andThen .now
  | @ins a C dx fs e =>
    cases (show u = Value.ref a from ry)
    obtain ⟨mA, O, _⟩ := ins_get I.hok e
    obtain ⟨od, J, _⟩ := O.look
    exact J.type
theorem run_belowE {pins : List (Addr × Obj)} {σ : L2.St} {H : Hp} {s : Shared} {Q : VK} {us : List Value} {vs : List V} {A1 : Around} {f : Addr} {fd : FuncData} {ps : List Str} {sp : Sp}
    (F : FnOk X.prog X.w X.K X.mg X.base (L2.CX X.prog X.w) k f fd ps sp) (hr : Room k A1) (e0 : Env0 X.prog X.w X.K X.mg X.base A1 X.stack s H) (hb : Binds X.K fd ps []) (hx : Passes (L2.CX X.prog X.w) X E) (I : Inv X pins σ H s) (r : Vals vs us) (h : sp vs H Q E) :
    wpAny (model X.prog X.w) A1 (call (.ref f) us) (EP X pins σ Q) X.xe s := by
  have l := F.len vs H Q E h
  have hl : us.length = ps.length := by rw [← r.length]; exact l
  have b := hb s us I.kIn (by rw [List.append_nil]; exact hl)
  rw [List.append_nil] at b
  refine wpAny_call (codeAny_mono (F.run A1 X.stack s H ⟨us, []⟩ us vs Q E hr e0 b r h) fun r s' hq => ?_)
  cases r with
  | error e => exact hx pins σ H s e s' I hq
  | ok fl =>
    cases fl with
    | ret u => exact I.after hq
    | next => exact hq.elim
    | brk => exact hq.elim
    | cont => exact hq.elim
/-- x op y, x an own object -/
theorem op_binA (hr : Room k X.A) (hx : Passes (L2.CX X.prog X.w) X E) : OpR X (binaryOp op) (rBinA X.prog X.w X.K X.mg X.base k op E) := by
  intro pins s σ H x y v u Q I rx ry h
  obtain ⟨a, C, dx, fs, sp, t, rfl, ha, T, r, br, q⟩ := h
  have hb := right_b I ry r
  cases (show v = Value.ref a from rx)
  obtain ⟨g, fd, ps, h1, h2, F, b⟩ := T.go
  obtain ⟨mA, O, _⟩ := ins_get I.hok ha
  obtain ⟨od, J, _⟩ := O.look
  obtain ⟨m, hF⟩ := I.fr
  have run : wpAny (model X.prog X.w) X.A (call (.ref g) [.ref a, u]) (PySem.W.CmpBack (EP X pins σ Q)) X.xe s := by
    refine wpAny_mono (run_belowE F hr I.env0 b hx I (.cons rx (.cons ry .nil)) q) (fun w' s' z => ?_) fun _ _ e => e
    obtain ⟨z', H', I', rz, r', rfl, qz⟩ := z
    cases (show w' = Value.ref r' from rz)
    exact ⟨.ref r', H', I', rfl, qz⟩
  cases br with
  | ty b1 b2 b3 => exact PySem.W.own_binT hF I.ok.mod.kin J hb T.first h1 h2 T.refl (.inl rfl) b1 b2 b3 run
  | same => exact PySem.W.binop_K hF I.ok.mod.kin J hb T.first h1 h2 run
  | other n b1 b2 b3 b4 => exact PySem.W.own_binR hF I.ok.mod.kin J hb T.first b1 h1 h2 T.refl (.inl rfl) b2 b3 (.inl rfl) b4 n run
end
end Hx

/-! == and != beside any value, a dict too -/
namespace Hx
open PySem PySem.Spec PyProof.Rows L2
def rEqB (P : Program) (w : World) (K : PySem.W.Frag) (mg : Str → Option Value) (base : Heap) (k : Nat) : R2 := fun x y H Q => ∃ (a C dx : Addr) (fs : List (Str × V)) (sp : Sp) (t : Value), x = .ref a ∧ H a = some (.ins C dx fs) ∧ EqAny P w K mg base k C sp ∧
  RightB H y t ∧ PySem.W.notFirst K C t = true ∧ sp [x, y] H (fun v H' => ∃ b, v = .bl b ∧ Q (.bl b) H') E0
def rNeB (P : Program) (w : World) (K : PySem.W.Frag) (mg : Str → Option Value) (base : Heap) (k : Nat) : R2 := fun x y H Q => ∃ (a C dx : Addr) (fs : List (Str × V)) (sp : Sp) (t : Value), x = .ref a ∧ H a = some (.ins C dx fs) ∧ EqAny P w K mg base k C sp ∧
  RightB H y t ∧ PySem.W.notFirst K C t = true ∧ sp [x, y] H (fun v H' => ∃ b, v = .bl b ∧ Q (.bl (!b)) H') E0
section
variable {X : Cx} {k : Nat}
theorem op_eqB (hr : Room k X.A) : OpR X (compareOp .Eq) (rEqB X.prog X.w X.K X.mg X.base k) := by
  intro pins s σ H x y v u Q I rx ry h
  obtain ⟨a, C, dx, fs, sp, t, rfl, ha, T, r, hn, q⟩ := h
  have hb := right_b I ry r
  cases (show v = Value.ref a from rx)
  obtain ⟨g, fd, ps, h1, h2, F, b⟩ := T.go
  obtain ⟨mA, O, _⟩ := ins_get I.hok ha
  obtain ⟨od, J, _⟩ := O.look
  obtain ⟨m, hF⟩ := I.fr
  refine PySem.W.cmp_ofEq (PySem.W.cmp_K (op := .Eq) hr.units0 hF I.ok.mod.kin J hb hn h1 h2 ?_)
  refine wpAny_mono (run_below F hr I.env0 b I (.cons rx (.cons ry .nil)) q) (fun w' s' z => ?_) fun _ _ e => e
  obtain ⟨z', H', I', rz, kk, rfl, qz⟩ := z
  cases (show w' = Value.bool kk from rz)
  exact ⟨.bl kk, H', I', rfl, qz⟩
theorem op_neB (hr : Room (k + 1) X.A) : OpR X (compareOp .NotEq) (rNeB X.prog X.w X.K X.mg X.base k) := by
  intro pins s σ H x y v u Q I rx ry h
  obtain ⟨a, C, dx, fs, sp, t, rfl, ha, T, r, hn, q⟩ := h
  have hb := right_b I ry r
  cases (show v = Value.ref a from rx)
  obtain ⟨g, fd, ps, h1, h2, F, b⟩ := T.go
  obtain ⟨mA, O, _⟩ := ins_get I.hok ha
  obtain ⟨od, J, _⟩ := O.look
  obtain ⟨m, hF⟩ := I.fr
  refine PySem.W.cmp_ofNotEq (ne_K (by have := hr.un; omega) hF I.ok.mod.kin J hb hn T.ne T.obj h1 h2 ?_)
  refine wpAny_mono (run_below F hr.in1 I.env0.in1 b I (.cons rx (.cons ry .nil)) q) (fun w' s' z => ?_) fun _ _ e => e
  obtain ⟨z', H', I', rz, kk, rfl, qz⟩ := z
  cases (show w' = Value.bool kk from rz)
  exact ⟨kk, rfl, .bl (!kk), H', I', rfl, qz⟩
end
end Hx

namespace Wp
open PySem PySem.Spec PyProof.Rows L2 Hx
/-! == and repr of sets -/
theorem num_ok : ∀ n : Nat, n ≤ 1400 → PyData.strOk (toString (n : Int) : Str) = true ∧ (toString (n : Int) : Str).length ≤ 4 := by decide +kernel
theorem log_ok {n : Nat} (h : n ≤ 1400) : (n : Int).natAbs.log2 < 1920 := by
  have z : (n : Int).natAbs ≤ 1400 := by omega
  exact Nat.lt_of_le_of_lt (Nat.le_trans (Nat.log2_le_self _) z) (by decide)
theorem strOk_iff {x : Str} : PyData.strOk x = true ↔ ∀ c ∈ x.cps.toList, c < 0x110000 := by
  unfold PyData.strOk
  rw [← Array.all_toList, List.all_eq_true]
  exact ⟨fun h c hc => of_decide_eq_true (h c hc), fun h c hc => decide_eq_true (h c hc)⟩
theorem ok_app {x y : Str} (hx : PyData.strOk x = true) (hy : PyData.strOk y = true) : PyData.strOk (x ++ y) = true := by
  rw [strOk_iff] at hx hy ⊢
  intro c hc
  have e : (x ++ y).cps.toList = x.cps.toList ++ y.cps.toList := TL.tl_append _ _
  rw [e] at hc
  rcases List.mem_append.mp hc with h | h
  · exact hx c h
  · exact hy c h
/-- what a set can do that its repr asks for -/
structure CanR (P : Program) (w : World) (K : PySem.W.Frag) (mg : Str → Option Value) (base : Heap) (C : Addr) : Prop where
  pd : Pd K mg C
  start : PropD P w K mg base C 1 "start" (spStart C)
  period : PropD P w K mg base C 1 "period" (spPeriod C)
  below : PropD P w K mg base C 5 "below" (spBelowP C)
  rests : PropD P w K mg base C 5 "rests" (spRestsP C)
/-- how a set is told -/
def lineP (lb st lr w : Nat) : Str := (((((((("Places(" : Str) ++ toString (lb : Int)) ++ " below ") ++ toString (st : Int)) ++ ", ") ++ toString (lr : Int)) ++ " of ") ++ toString (w : Int)) ++ ")"
theorem line_ok {lb st lr w : Nat} (h1 : lb ≤ 1400) (h2 : st ≤ 1400) (h3 : lr ≤ 1400) (h4 : w ≤ 1400) : PyData.strOk (lineP lb st lr w) = true ∧ (lineP lb st lr w).length ≤ 40 := by
  obtain ⟨a1, a2⟩ := num_ok lb h1
  obtain ⟨b1, b2⟩ := num_ok st h2
  obtain ⟨c1, c2⟩ := num_ok lr h3
  obtain ⟨d1, d2⟩ := num_ok w h4
  refine ⟨?_, ?_⟩
  · exact ok_app (ok_app (ok_app (ok_app (ok_app (ok_app (ok_app (ok_app (by decide +kernel) a1) (by decide +kernel)) b1) (by decide +kernel)) c1) (by decide +kernel)) d1) (by decide +kernel)
  · unfold lineP
    simp only [PySem.Str.length_append, (by decide +kernel : ("Places(" : Str).length = 7), (by decide +kernel : (" below " : Str).length = 7), (by decide +kernel : (", " : Str).length = 2), (by decide +kernel : (" of " : Str).length = 4), (by decide +kernel : (")" : Str).length = 1)]
    omega
def lineOf (s : Mk.Kept) : Str := lineP (s.from 0 (Mk.len s.st)).length (Mk.len s.st) (s.from (Mk.len s.st) s.w).length s.w
def spEqP (K : PySem.W.Frag) (C : Addr) : Sp := fun vs H Q _ => ∃ (a : Addr) (s : Mk.Kept) (y : V), vs = [.ref a, y] ∧ PlAt C H a s ∧
  ((∃ t, TyX K H y t ∧ PySem.W.kitOne K t (.ref C) = some false ∧ Q (.bl false) H) ∨ ∃ (b : Addr) (t : Mk.Kept), y = .ref b ∧ PlAt C H b t ∧ Q (.bl (decide (s.w = t.w ∧ s.cy = t.cy ∧ s.st = t.st))) H)
def spReprP (C : Addr) : Sp := fun vs H Q _ => ∃ (a : Addr) (s : Mk.Kept), vs = [.ref a] ∧ PlAt C H a s ∧ s.Fit ∧ Mk.len s.st ≤ 1400 ∧ s.w ≤ 1400 ∧ ∀ H', Same H H' → Q (.str (lineOf s)) H'
section
variable {P : Program} {w : World} {K : PySem.W.Frag} {mg : Str → Option Value} {base : Heap} {f f1 f2 f3 C : Addr} {fd fd1 fd2 fd3 : FuncData}
theorem int_nat (a b : Nat) : decide (V.int (a : Int) = V.int (b : Int)) = decide (a = b) := decide_eq_decide.mpr ⟨fun h => by have := V.int.inj h; omega, fun h => by rw [h]⟩
theorem scEqP : FnScope ["self", "other"] ["self", "other"] (defScope s_Places_eq) := ⟨rfl, rfl, rfl, by decide +kernel, rfl, by decide +kernel, by decide +kernel⟩
theorem ok_eqP (F : Fun K "__eq__" "Places.__eq__" s_Places_eq f fd) (R : Pd K mg C) (Z : Bp mg) (D : IsP K C) : FnOk P w K mg base CX0 1 f fd ["self", "other"] (spEqP K C) := by
  refine F.ok scEqP (fun vs H Q E h => ?_) (fun cdv A outer s H vs Q E hr h => ?_)
  · obtain ⟨a, s, y, rfl, _⟩ := h
    rfl
  obtain ⟨a, s, y, rfl, pl, h⟩ := h
  refine ⟨_, pss_cons (ps_if (pt_not (pt_val (pe_callB call_isi (by rfl) Z.isinstance PyProof.Rows.boot_isinstance (pa_cons (pv 1) (pa_cons (pe_gref rfl R.gC) pa_nil))))) (pss_one (ps_ret pe_bl)) pss_nil)
    (pss_one (ps_ret (pe_and (pe_cmpR op_eq (pe_fld (pv 0) rfl) (pe_fld (pv 1) rfl) (nomark _)) (pe_and (pe_cmpR op_eq (pe_fld (pv 0) rfl) (pe_fld (pv 1) rfl) (nomark _)) (pe_one (pe_cmpR op_eq (pe_fld (pv 0) rfl) (pe_fld (pv 1) rfl) (nomark _))))))), ?_⟩
  rcases h with ⟨t, ty, k, q⟩ | ⟨b, t, rfl, pb, q⟩
  · exact ⟨_, rfl, _, _, t, _, false, rfl, .own C, ty, k, _, rfl, iteT q⟩
  · obtain ⟨dx, ha⟩ := pl
    obtain ⟨dy, hb⟩ := pb
    have ty : TyX K H (.ref b) (.ref C) := .base (.ins hb R.cl D.ha D.hn D.htk D.hm)
    refine ⟨_, rfl, _, _, .ref C, _, true, rfl, .own C, ty, D.kC, _, rfl, iteF ?_⟩
    refine ⟨_, rfl, a, C, dx, _, _, rfl, ha, R.cl, R.nW, rfl, _, rfl, b, C, dy, _, _, rfl, hb, R.cl, R.nW, rfl, rfl, ?_⟩
    rw [int_nat]
    refine ⟨_, rfl, ite2 (fun c1 => ?_) (fun c1 => ?_)⟩
    · refine ⟨_, rfl, a, C, dx, _, _, rfl, ha, R.cl, R.nC, rfl, _, rfl, b, C, dy, _, _, rfl, hb, R.cl, R.nC, rfl, rfl, ?_⟩
      rw [int_nat]
      refine ⟨_, rfl, ite2 (fun c2 => ?_) (fun c2 => ?_)⟩
      · refine ⟨_, rfl, a, C, dx, _, _, rfl, ha, R.cl, R.nS, rfl, _, rfl, b, C, dy, _, _, rfl, hb, R.cl, R.nS, rfl, rfl, ?_⟩
        rw [int_nat]
        rw [show decide (s.st = t.st) = decide (s.w = t.w ∧ s.cy = t.cy ∧ s.st = t.st) from decide_eq_decide.mpr ⟨fun h => ⟨of_decide_eq_true c1, of_decide_eq_true c2, h⟩, fun h => h.2.2⟩]
        exact q
      · have e : decide (s.w = t.w ∧ s.cy = t.cy ∧ s.st = t.st) = false := decide_eq_false fun z => c2 (decide_eq_true z.2.1)
        rw [e] at q
        exact q
    · have e : decide (s.w = t.w ∧ s.cy = t.cy ∧ s.st = t.st) = false := decide_eq_false fun z => c1 (decide_eq_true z.1)
      rw [e] at q
      exact q
theorem scReprP : FnScope ["self"] ["self"] (defScope s_Places_repr) := ⟨rfl, rfl, rfl, by decide +kernel, rfl, by decide +kernel, by decide +kernel⟩
theorem empty_app : (Str.empty ++ ("Places(" : Str)) = "Places(" := by decide +kernel
theorem ok_reprP (F : Fun K "__repr__" "Places.__repr__" s_Places_repr f fd) (D : CanR P w K mg base C) (Z : Bp mg) : FnOk P w K mg base CX0 7 f fd ["self"] (spReprP C) := by
  refine F.ok scReprP (fun vs H Q E h => ?_) (fun cdv A outer s H vs Q E hr h => ?_)
  · obtain ⟨a, s, rfl, _⟩ := h
    rfl
  obtain ⟨a, s, rfl, pl, fit, l1, l2, q⟩ := h
  obtain ⟨p1, g1, fd1, po1, G1, b1⟩ := D.start
  obtain ⟨p2, g2, fd2, po2, G2, b2⟩ := D.period
  obtain ⟨p3, g3, fd3, po3, G3, b3⟩ := D.below
  obtain ⟨p4, g4, fd4, po4, G4, b4⟩ := D.rests
  have R := D.pd
  have r2 := hr.mono (by decide : 2 ≤ 6)
  refine ⟨_, pss_one (ps_ret (pe_joined (.cons pe_str (.cons (pe_fmt (pe_callB call_len_seq (by rfl) Z.len PySem.boot_len (pa_cons (pe_prop (pv 0) R.cl po3 G3 hr b3 .nil pass0 rfl) pa_nil)))
    (.cons pe_str (.cons (pe_fmt (pe_prop (pv 0) R.cl po1 G1 r2 b1 .nil pass0 rfl)) (.cons pe_str (.cons (pe_fmt (pe_callB call_len_seq (by rfl) Z.len PySem.boot_len (pa_cons (pe_prop (pv 0) R.cl po4 G4 hr b4 .nil pass0 rfl) pa_nil)))
    (.cons pe_str (.cons (pe_fmt (pe_prop (pv 0) R.cl po2 G2 r2 b2 .nil pass0 rfl)) (.cons pe_str .nil))))))))))), ?_⟩
  obtain ⟨dx, ha⟩ := pl
  have L1 : (s.from 0 (Mk.len s.st)).length ≤ 1400 := Nat.le_trans (from_len s 0 _) l1
  have L2 : (s.from (Mk.len s.st) s.w).length ≤ 1400 := Nat.le_trans (from_len s _ _) l2
  obtain ⟨a1, a2⟩ := num_ok _ L1
  obtain ⟨b1', b2'⟩ := num_ok _ l1
  obtain ⟨c1, c2⟩ := num_ok _ L2
  obtain ⟨d1, d2⟩ := num_ok _ l2
  refine ⟨"Places(", rfl, small_line (by decide +kernel), ?_⟩
  rw [empty_app]
  refine ⟨_, rfl, a, dx, _, rfl, ha, a, s, rfl, ⟨dx, ha⟩, fit, fun pb H1 s1 hb => ?_⟩
  have ha1 := s1 _ _ ha
  refine ⟨pb, _, rfl, .inr (SqT.of hb), .inr ⟨_, rfl, ?_, _, rfl, ?_, " below ", rfl, ?_, ?_⟩⟩
  all_goals try rw [nats_len]
  · exact log_ok L1
  · simp only [PySem.Str.length_append, (by decide +kernel : ("Places(" : Str).length = 7)]
    exact small_line (by omega)
  · simp only [PySem.Str.length_append, (by decide +kernel : ("Places(" : Str).length = 7), (by decide +kernel : (" below " : Str).length = 7)]
    exact small_line (by omega)
  refine ⟨_, rfl, a, dx, _, rfl, ha1, a, s, rfl, ⟨dx, ha1⟩, .inr ⟨_, rfl, log_ok l1, _, rfl, ?_, ", ", rfl, ?_, ?_⟩⟩
  · simp only [PySem.Str.length_append, (by decide +kernel : ("Places(" : Str).length = 7), (by decide +kernel : (" below " : Str).length = 7)]
    exact small_line (by omega)
  · simp only [PySem.Str.length_append, (by decide +kernel : ("Places(" : Str).length = 7), (by decide +kernel : (" below " : Str).length = 7), (by decide +kernel : (", " : Str).length = 2)]
    exact small_line (by omega)
  refine ⟨_, rfl, a, dx, _, rfl, ha1, a, s, rfl, ⟨dx, ha1⟩, fit, fun pr H2 s2 hr2 => ?_⟩
  have ha2 := s2 _ _ ha1
  refine ⟨pr, _, rfl, .inr (SqT.of hr2), .inr ⟨_, rfl, ?_, _, rfl, ?_, " of ", rfl, ?_, ?_⟩⟩
  all_goals try rw [nats_len]
  · exact log_ok L2
  · simp only [PySem.Str.length_append, (by decide +kernel : ("Places(" : Str).length = 7), (by decide +kernel : (" below " : Str).length = 7), (by decide +kernel : (", " : Str).length = 2)]
    exact small_line (by omega)
  · simp only [PySem.Str.length_append, (by decide +kernel : ("Places(" : Str).length = 7), (by decide +kernel : (" below " : Str).length = 7), (by decide +kernel : (", " : Str).length = 2), (by decide +kernel : (" of " : Str).length = 4)]
    exact small_line (by omega)
  refine ⟨_, rfl, a, dx, _, rfl, ha2, a, s, rfl, ⟨dx, ha2⟩, .inr ⟨_, rfl, log_ok l2, _, rfl, ?_, ")", rfl, ?_, ?_⟩⟩
  · simp only [PySem.Str.length_append, (by decide +kernel : ("Places(" : Str).length = 7), (by decide +kernel : (" below " : Str).length = 7), (by decide +kernel : (", " : Str).length = 2), (by decide +kernel : (" of " : Str).length = 4)]
    exact small_line (by omega)
  · simp only [PySem.Str.length_append, (by decide +kernel : ("Places(" : Str).length = 7), (by decide +kernel : (" below " : Str).length = 7), (by decide +kernel : (", " : Str).length = 2), (by decide +kernel : (" of " : Str).length = 4), (by decide +kernel : (")" : Str).length = 1)]
    exact small_line (by omega)
  exact q H2 (s1.trans s2)
end
end Wp

/-! what Places.__repr__ rests on, while an exception is handled -/
namespace Hx
open PySem PySem.Spec PyProof.Rows L2 L2H HotX
section
variable {P : Program} {w : World} {K : PySem.W.Frag} {mg : Str → Option Value} {base : Heap}
theorem okH {x qual : Str} {st : Stmt} {f : Addr} {fd : FuncData} {N ps : List Str} {k : Nat} {sp : Sp} (F : Fun K x qual st f fd) (S : FnScope N ps (defScope st)) (len : ∀ vs H Q E, sp vs H Q E → vs.length = ps.length)
    (hbody : ∀ (cdv : Value) (A : Around) (outer : List Env) (s : Shared) (H : Hp) (vs : List V) (Q : VK) (E : XK) (p : Addr × Obj), Hot1 A p → RoomH k (A.deeper (envOfC qual (defScope st) s.heap.objs.size f cdv)) → sp vs H Q E →
      ∃ t, PSs (cxH CX0 P w K mg base N qual (defScope st) f cdv A outer s H E p).nox (defBody st) t ∧ t { nx := fun _ H' => Q .non H', rt := Q } (L2.start N vs) H) : FnH P w K mg base CX0 (k + 1) f fd ps sp := by
  obtain ⟨oc, od, kV, doc, pm, an, cdv, ct, osl, rfl, lk, hcd⟩ := F.ex
  refine fn_ofH lk hcd S len fun A outer s H vs Q E p hot hr hsp => ?_
  obtain ⟨t, h, q⟩ := hbody cdv A outer s H vs Q E p hot hr hsp
  exact ⟨t, h.nox, q⟩
end
section
variable {X : Cx} {k : Nat} {f C pp g a dx : Addr} {fs : List (Str × V)} {fd : FuncData} {ps : List Str} {sp : Sp} {x m : Str} {q pos : Pos} {e : Expr} {es : List Expr} {ta : TE} {t : TA}
theorem pcH (hc : HotC X) (F : FnH X.prog X.w X.K X.mg X.base CX0 k f fd ps sp) (hr : RoomH k X.A) (hg : Gl X x) (hm : X.mg x = some (.ref f)) (hk : PySem.W.keepIn X.K (.ref f) = true) (hb : Binds X.K fd ps []) (ha : PA X (e :: es) t)
    (hdb : (x == ("__debug__" : Str)) = false := by decide) (he : starEach (e :: es) X.env = (false, eval e X.env) :: starEach es X.env := by rfl) (hpl : (backTo pos (starEach es X.env)).any (·.1) = false := by rfl) :
    PE X (.Call (.Name x q) (e :: es) [] pos) (tCall sp [] E0 t) := by
  refine ⟨fun pins s σ H Q I h => ?_⟩
  refine wpAny_Call_Name_kw (ld_glob I hg hm ?_ hdb)
  refine PySem.W.callWith_K (h₀ := X.base) I.ok.mod.kin hk (thn (ha.run pos pins s σ H _ I h) fun us s1 ⟨vs, H1, I1, r, q1⟩ => ⟨I1.kIn, ?_⟩) he hpl
  refine run_fnH (E := fun _ => E0) F hr hc hb (fun _ _ _ _ _ _ z => z.elim) I1 r ?_
  have q2 : sp (vs ++ []) H1 Q E0 := q1
  rwa [List.append_nil] at q2
theorem ppH (hc : HotC X) (he : PE X e ta) (c : Cls X.K C) (hp : PropOf X.K C m pp g) (F : FnH X.prog X.w X.K X.mg X.base CX0 k g fd ps sp) (hr : RoomH (k + 1) X.A) (hb : Binds X.K fd ps [])
    (hab : attributeBase e m X.env (eval e X.env) = eval e X.env) : PE X (.Attribute e m pos) (tProp C sp [] E0 ta) := by
  refine ⟨fun pins s σ H Q I h => ?_⟩
  refine attr_of hab (thn (he.run pins s σ H _ I h) fun u s1 ⟨x, H1, I1, rx, a, dx, fs, ex, ea, q⟩ => ?_)
  subst ex
  obtain rfl : u = Value.ref a := rx
  obtain ⟨mA, O, _, _, _, _⟩ := ins_get I1.hok ea
  obtain ⟨od, J, _⟩ := O.look
  obtain ⟨rest, hrec⟩ := hp.rec_
  have I2 := I1.tok (s1.toks + 1)
  have hl : ([Value.ref a] ++ []).length = ps.length := by
    rw [← F.len _ _ _ _ q]
    rfl
  have hcl : (PySem.W.clsIn X.K C).isSome = true := by
    obtain ⟨cd, z, _⟩ := PySem.W.any_some c.hd
    rw [z]
    rfl
  obtain ⟨p, hot, hpn⟩ := hc
  have P1 := I2.pin p (List.mem_append_left _ hpn)
  have hpin : PinOk X.stack H1 { s1 with toks := s1.toks + 1 } p := ⟨P1.1, P1.2.1, fun hm => (List.mem_cons.mp (I2.stkSub p.1 hm)).elim P1.2.2.1 P1.2.2.2.1, P1.2.2.2.2⟩
  have hr1 : RoomH k X.A.in1 := ⟨by have := hr.dp; show X.A.depth + 3 * k + 5 < _; omega, by have := hr.un; show X.A.units + 1 + 16 * k + 200 < _; omega⟩
  refine PySem.W.get_bind I1.kIn J (PySem.W.plainGet_of (c.get m)).1 (PySem.W.findObj_data hcl hp.at_ hp.get hp.tak) (PySem.W.plainGet_of (c.get m)).2 (wpAny_call (PySem.W.prop_get (s := { s1 with toks := s1.toks + 1 }) I1.kIn hrec ?_))
  refine codeAny_mono (F.run X.A.in1 X.stack { s1 with toks := s1.toks + 1 } H1 ⟨[.ref a], []⟩ [.ref a] [.ref a] Q E0 p hr1 hot hpin I2.env0.in1 (hb _ [.ref a] I2.kIn hl) (.cons rfl .nil) q) fun r s' hq => ?_
  match r, hq with
  | .error er, hq => exact (show False from hq).elim
  | .ok (.ret u), hq =>
    obtain ⟨v, H', I3, rv, q3⟩ := I2.after hq
    show wpAny _ _ (handedOut u) _ _ _
    rw [PySem.W.handedOut_of (handed_of rv)]
    exact wpAny_pure ⟨v, H', I3, rv, q3⟩
  | .ok .next, hq => exact hq.elim
  | .ok .brk, hq => exact hq.elim
  | .ok .cont, hq => exact hq.elim
end
end Hx
namespace Wp
open PySem PySem.Spec PyProof.Rows L2 Hx L2H
def PropDH (P : Program) (w : World) (K : PySem.W.Frag) (mg : Str → Option Value) (base : Heap) (C : Addr) (k : Nat) (m : Str) (sp : Sp) : Prop := ∃ (p g : Addr) (fd : FuncData), PropOf K C m p g ∧ FnH P w K mg base CX0 k g fd ["self"] sp ∧ Binds K fd ["self"] []
structure CanH (P : Program) (w : World) (K : PySem.W.Frag) (mg : Str → Option Value) (base : Heap) (C : Addr) : Prop where
  pd : Pd K mg C
  start : PropDH P w K mg base C 1 "start" (spStart C)
  period : PropDH P w K mg base C 1 "period" (spPeriod C)
  below : PropDH P w K mg base C 5 "below" (spBelowP C)
  rests : PropDH P w K mg base C 5 "rests" (spRestsP C)
section
variable {P : Program} {w : World} {K : PySem.W.Frag} {mg : Str → Option Value} {base : Heap} {f f1 f2 f3 C : Addr} {fd fd1 fd2 fd3 : FuncData}
theorem hot_full (F : Fun K "full" "full" s_full f fd) : FnH P w K mg base CX0 1 f fd ["many"] spFull := by
  refine okH F scFull (fun vs H Q E h => ?_) (fun cdv A outer s H vs Q E p hot hr h => ?_)
  · obtain ⟨k, rfl, _⟩ := h
    rfl
  obtain ⟨k, rfl, hk, q⟩ := h
  refine ⟨_, pss_one (ps_ret (pe_op op_sub (pe_op op_oneShl pe_int (pv 0)) pe_int)), ?_⟩
  exact ⟨_, rfl, k, rfl, rfl, by omega, _, _, rfl, rfl, q⟩
theorem hot_low (F : Fun K "low" "low" s_low f fd)
    (G1 : FnH P w K mg base CX0 1 f1 fd1 ["many"] spFull) (b1 : Binds K fd1 ["many"] []) (k1 : PySem.W.keepIn K (.ref f1) = true) (m1 : mg "full" = some (.ref f1)) :
    FnH P w K mg base CX0 2 f fd ["bits", "many"] spLow := by
  refine okH F scLow (fun vs H Q E h => ?_) (fun cdv A outer s H vs Q E p hot hr h => ?_)
  · obtain ⟨n, k, rfl, _⟩ := h
    rfl
  obtain ⟨n, k, rfl, hk, q⟩ := h
  refine ⟨_, pss_one (ps_ret (pe_op op_andM (pv 0) (pcH ⟨_, hot, (List.mem_singleton.mpr rfl)⟩ G1 hr rfl m1 k1 b1 (pa_cons (pv 1) pa_nil)))), ?_⟩
  refine ⟨_, rfl, _, rfl, k, rfl, hk, _, k, rfl, rfl, ?_⟩
  rw [Mk.mod_ct]
  exact q
theorem hot_tiled (F : Fun K "tiled" "tiled" s_tiled f fd)
    (G1 : FnH P w K mg base CX0 2 f1 fd1 ["bits", "many"] spLow) (b1 : Binds K fd1 ["bits", "many"] []) (k1 : PySem.W.keepIn K (.ref f1) = true) (m1 : mg "low" = some (.ref f1)) :
    FnH P w K mg base CX0 3 f fd ["pattern", "width", "many"] spTiled := by
  refine okH F scTiled (fun vs H Q E h => ?_) (fun cdv A outer s H vs Q E p hot hr h => ?_)
  · obtain ⟨pat, u, many, rfl, _⟩ := h
    rfl
  obtain ⟨pat, u, many, rfl, u0, u1, lt, mk, q⟩ := h
  refine ⟨_, pss_cons (ps_while PassesOwn.never (pt_cmpR op_lt (pv 1) (pv 2) (nomark _))
      (pss_cons (ps_set (i := 0) scTiled.nd rfl (Or.inl rfl) (pe_op op_or (pv 0) (pe_op op_shlN (pv 0) (pv 1))))
        (pss_one (ps_set (i := 1) scTiled.nd rfl (Or.inl rfl) (pe_op op_mul (pv 1) pe_int)))))
    (pss_one (ps_ret (pcH ⟨_, hot, (List.mem_singleton.mpr rfl)⟩ G1 hr rfl m1 k1 b1 (pa_cons (pv 0) (pa_cons (pv 2) pa_nil))))), ?_⟩
  refine ⟨fun m σ H' => ∃ x v : Nat, σ = [some (.int (x : Int)), some (.int (v : Int)), some (.int (many : Int))] ∧ H = H' ∧ Mk.Tiling pat u x v ∧ v ≤ 40000 + u ∧ m = many - v, ⟨_, pat, u, rfl, rfl, Mk.Tiling.start u0 lt, by omega, rfl⟩, ?_⟩
  rintro m σ _ ⟨x, v, rfl, rfl, T, v1, rfl⟩
  refine ⟨_, rfl, _, rfl, _, _, rfl, rfl, _, rfl, ?_⟩
  refine ite2 (fun c => ?_) (fun c => ?_)
  · have c' : v < many := by
      have := of_decide_eq_true c
      omega
    refine ⟨fun σ H' => ∃ x v2 : Nat, σ = [some (.int (x : Int)), some (.int (v2 : Int)), some (.int (many : Int))] ∧ H = H' ∧ Mk.Tiling pat u x v2 ∧ v2 ≤ 40000 + u ∧ v < v2, ?_, ?_⟩
    · rintro σ' H' ⟨x2, v2, rfl, rfl, T2, l2, l3⟩
      exact ⟨many - v2, by omega, x2, v2, rfl, rfl, T2, l2, rfl⟩
    · have vp := T.pos
      refine ⟨_, rfl, _, rfl, _, rfl, _, v, rfl, rfl, shl_ok (n := v) (by simpa using T.lt) (by omega), _, _, rfl, rfl, ?_⟩
      rw [Mk.mul_ct]
      dsimp only
      rw [Mk.bor]
      refine ⟨_, rfl, _, _, rfl, rfl, .inl ⟨by omega, by omega⟩, ?_⟩
      refine ⟨x ||| x * 2 ^ v, v * 2, ?_, rfl, T.step, by omega, by omega⟩
      show [some (V.int _), some (V.int ((v : Int) * 2)), some (V.int _)] = _
      rw [show (v : Int) * 2 = ((v * 2 : Nat) : Int) by omega]
  · have c' : many ≤ v := by
      have : ¬ (v : Int) < (many : Int) := fun z => c (decide_eq_true z)
      omega
    exact ⟨_, rfl, _, rfl, x, many, rfl, by omega, q _ (T.done c')⟩
theorem hot_positions (F : Fun K "positions" "positions" s_positions f fd) (Z : Bp mg) : FnH P w K mg base CX0 1 f fd ["bits"] spPositions := by
  refine okH F scPositions (fun vs H Q E h => ?_) (fun cdv A outer s H vs Q E p hot hr h => ?_)
  · obtain ⟨n, rfl, _⟩ := h
    rfl
  obtain ⟨n, rfl, hn, q⟩ := h
  refine ⟨_, pss_cons (ps_set (i := 1) scPositions.nd rfl (Or.inl rfl) (pe_bin (pv 0)))
    (pss_one (ps_ret (pe_lcP (own := [("at", 2), ("figure", 3)]) (g := gTup K 2 (gCons (gName 2) (gCons (gName 3) gNil))) (te := tVar 2) (List.mem_singleton.mpr rfl) scPositions.nd (pi_enumP hot rfl Z.enumerate (pa_cons (pe_back sl_backS (pv 1) (pe_un un_neg pe_int)) pa_nil))
      (blkOk_by (N := ["bits", "figures", "at", "figure"]) (sc := defScope s_positions) (by decide +kernel))
      (fun _ _ _ _ _ => pg_tupH ⟨_, hot, (List.mem_singleton.mpr rfl)⟩ (pgs_cons (pg_name (i := 2) scPositions.nd rfl (Or.inl rfl)) (pgs_cons (pg_name (i := 3) scPositions.nd rfl (Or.inl rfl)) pgs_nil)))
      (fun _ _ _ _ _ => pts_one (pt_cmpR op_eq (pv 3) pe_str (nomark _))) (fun _ _ _ _ _ => pv 2)))), ?_⟩
  have sz : (revS (binText n)).cps.size = n.log2 + 1 := by
    show ((binText n).cps.toList.reverse.toArray).size = _
    rw [List.size_toArray, List.length_reverse, Array.length_toList]
    exact bin_len n
  refine ⟨_, rfl, n, rfl, by omega, ?_⟩
  refine ⟨_, rfl, _, rfl, rfl, _, rfl, ?_, ?_⟩
  · rw [bin_len, sizeLine_eq]
    omega
  refine ⟨_, rfl, fun D hD => ?_⟩
  have nl : ∀ i, (nats ((List.range i).filter n.testBit)).length ≤ i := fun i => by
    unfold nats
    rw [List.length_map]
    exact Nat.le_trans (List.length_filter_le _ _) (by rw [List.length_range]; exact Nat.le_refl _)
  refine lc_enumS (fun i H' => Same H H' ∧ H' D = some (.lst (nats ((List.range i).filter n.testBit)))) ⟨same_new hD _, upd_same⟩ ?_ ?_
  · rintro i c H' T hc ⟨s1, hD1⟩ hT
    obtain ⟨li, hcv⟩ := rev_bin hc
    have s2 := s1.trans (same_new hT (.tup [.int (i : Nat), .str ⟨#[c]⟩]))
    have hD2 := upd_other (o := .tup [.int (i : Nat), .str ⟨#[c]⟩]) hD1 hT
    refine ⟨T, _, rfl, SqT.of upd_same, rfl, _, _, rfl, _, _, rfl, rfl, rfl, ?_⟩
    refine ⟨_, rfl, ?_⟩
    refine ⟨rfl, _, rfl, ?_⟩
    rw [List.range_succ, List.filter_append]
    have one : ("1" : Str) = ⟨#[49]⟩ := by decide +kernel
    have lt : (nats ((List.range i).filter n.testBit)).length < sizeLine := by
      have := nl i
      rw [sizeLine_eq]
      omega
    by_cases b : n.testBit i = true
    · rw [if_pos b] at hcv
      subst hcv
      rw [one, decide_eq_true rfl]
      refine iteT ⟨_, rfl, _, hD2, lt, same_at hD s2, ?_⟩
      rw [upd_same]
      simp [nats, b]
    · rw [if_neg b] at hcv
      subst hcv
      rw [decide_eq_false (by rw [one]; decide)]
      refine iteF ⟨s2, ?_⟩
      simp [b]
      exact hD2
  · rintro H' ⟨s1, hD1⟩
    rw [sz] at hD1
    exact q D H' s1 hD1
theorem hot_bitsB (F : Fun K "bits_below" "bits_below" s_bits_below f fd) (R : Pd K mg C)
    (G3 : FnH P w K mg base CX0 3 f3 fd3 ["pattern", "width", "many"] spTiled) (b3 : Binds K fd3 ["pattern", "width", "many"] []) (k3 : PySem.W.keepIn K (.ref f3) = true) (m3 : mg "tiled" = some (.ref f3)) :
    FnH P w K mg base CX0 4 f fd ["places", "many"] (spBitsB C) := by
  refine okH F scBitsB (fun vs H Q E h => ?_) (fun cdv A outer s H vs Q E p hot hr h => ?_)
  · obtain ⟨a, s, m, rfl, _⟩ := h
    rfl
  obtain ⟨a, s, many, rfl, ⟨dx, ha⟩, fit, l1, l2, q⟩ := h
  refine ⟨_, pss_one (ps_ret (pe_op op_xor (pcH ⟨_, hot, (List.mem_singleton.mpr rfl)⟩ G3 hr rfl m3 k3 b3 (pa_cons (pe_fld (pv 0) rfl) (pa_cons (pe_fld (pv 0) rfl) (pa_cons (pv 1) pa_nil)))) (pe_fld (pv 0) rfl))), ?_⟩
  refine ⟨_, rfl, a, C, dx, _, _, rfl, ha, R.cl, R.nC, rfl, _, rfl, a, C, dx, _, _, rfl, ha, R.cl, R.nW, rfl, _, rfl, s.cy, s.w, many, rfl, fit.w0, fit.w1, fit.cy, l2, fun x T => ?_⟩
  refine ⟨_, rfl, a, C, dx, _, _, rfl, ha, R.cl, R.nS, rfl, _, _, rfl, rfl, ?_⟩
  dsimp only
  rw [Mk.bxor]
  exact q _ (Mk.below_bits T (fit.lt l1))
theorem hot_start (F : Fun K "start" "Places.start" s_Places_start f fd) (R : Pd K mg C) : FnH P w K mg base CX0 1 f fd ["self"] (spStart C) := by
  refine okH F scStart (fun vs H Q E h => ?_) (fun cdv A outer s H vs Q E p hot hr h => ?_)
  · obtain ⟨a, s, rfl, _⟩ := h
    rfl
  obtain ⟨a, s, rfl, ⟨dx, ha⟩, q⟩ := h
  exact ⟨_, pss_one (ps_ret (pe_bits (pe_fld (pv 0) rfl))), _, rfl, a, C, dx, _, _, rfl, ha, R.cl, R.nS, rfl, _, rfl, q⟩
theorem hot_period (F : Fun K "period" "Places.period" s_Places_period f fd) (R : Pd K mg C) : FnH P w K mg base CX0 1 f fd ["self"] (spPeriod C) := by
  refine okH F scPeriod (fun vs H Q E h => ?_) (fun cdv A outer s H vs Q E p hot hr h => ?_)
  · obtain ⟨a, s, rfl, _⟩ := h
    rfl
  obtain ⟨a, s, rfl, ⟨dx, ha⟩, q⟩ := h
  exact ⟨_, pss_one (ps_ret (pe_fld (pv 0) rfl)), _, rfl, a, C, dx, _, _, rfl, ha, R.cl, R.nW, rfl, q⟩
theorem hot_below (F : Fun K "below" "Places.below" s_Places_below f fd) (R : Pd K mg C) (Z : Bp mg) (S : PropDH P w K mg base C 1 "start" (spStart C))
    (G1 : FnH P w K mg base CX0 1 f1 fd1 ["bits"] spPositions) (b1 : Binds K fd1 ["bits"] []) (k1 : PySem.W.keepIn K (.ref f1) = true) (m1 : mg "positions" = some (.ref f1))
    (G2 : FnH P w K mg base CX0 4 f2 fd2 ["places", "many"] (spBitsB C)) (b2 : Binds K fd2 ["places", "many"] []) (k2 : PySem.W.keepIn K (.ref f2) = true) (m2 : mg "bits_below" = some (.ref f2)) :
    FnH P w K mg base CX0 5 f fd ["self"] (spBelowP C) := by
  refine okH F scBelowP (fun vs H Q E h => ?_) (fun cdv A outer s H vs Q E p hot hr h => ?_)
  · obtain ⟨a, s, rfl, _⟩ := h
    rfl
  obtain ⟨a, s, rfl, ⟨dx, ha⟩, fit, q⟩ := h
  obtain ⟨p0, g0, fd0, po, GS, bS⟩ := S
  have r1 := hr.mono (by decide : 1 ≤ 4)
  have r2 := hr.mono (by decide : 2 ≤ 4)
  refine ⟨_, pss_one (ps_ret (pe_callTy call_tuple_of (by rfl) Z.tuple (by decide +kernel) (pa_cons (pcH ⟨_, hot, (List.mem_singleton.mpr rfl)⟩ G1 r1 rfl m1 k1 b1 (pa_cons (pcH ⟨_, hot, (List.mem_singleton.mpr rfl)⟩ G2 hr rfl m2 k2 b2 (pa_cons (pv 0) (pa_cons (ppH ⟨_, hot, (List.mem_singleton.mpr rfl)⟩ (pv 0) R.cl po GS r2 bS rfl) pa_nil))) pa_nil)) pa_nil))), ?_⟩
  have fst := fit.st
  refine ⟨_, rfl, _, rfl, a, dx, _, rfl, ha, a, s, rfl, ⟨dx, ha⟩, a, s, Mk.len s.st, rfl, ⟨dx, ha⟩, fit, Nat.le_refl _, by omega, fun x hx => ?_⟩
  obtain ⟨e, lt⟩ := Mk.pos_below hx
  have l2 := Mk.log2_le lt
  refine ⟨x, rfl, by omega, fun D H1 s1 hD => ⟨D, _, rfl, .inl ⟨SqL.of hD, fun l hl => ?_⟩⟩⟩
  refine q l _ (s1.trans (same_new hl _)) ?_
  rw [upd_same, e]
  unfold Mk.Kept.from
  simp only [Nat.zero_add]
theorem hot_rests (F : Fun K "rests" "Places.rests" s_Places_rests f fd) (R : Pd K mg C) (Z : Bp mg) (S : PropDH P w K mg base C 1 "start" (spStart C))
    (G1 : FnH P w K mg base CX0 1 f1 fd1 ["bits"] spPositions) (b1 : Binds K fd1 ["bits"] []) (k1 : PySem.W.keepIn K (.ref f1) = true) (m1 : mg "positions" = some (.ref f1))
    (G2 : FnH P w K mg base CX0 4 f2 fd2 ["places", "many"] (spBitsB C)) (b2 : Binds K fd2 ["places", "many"] []) (k2 : PySem.W.keepIn K (.ref f2) = true) (m2 : mg "bits_below" = some (.ref f2)) :
    FnH P w K mg base CX0 5 f fd ["self"] (spRestsP C) := by
  refine okH F scRestsP (fun vs H Q E h => ?_) (fun cdv A outer s H vs Q E p hot hr h => ?_)
  · obtain ⟨a, s, rfl, _⟩ := h
    rfl
  obtain ⟨a, s, rfl, ⟨dx, ha⟩, fit, q⟩ := h
  obtain ⟨p0, g0, fd0, po, GS, bS⟩ := S
  have r1 := hr.mono (by decide : 1 ≤ 4)
  have r2 := hr.mono (by decide : 2 ≤ 4)
  refine ⟨_, pss_cons (ps_set (i := 1) scRestsP.nd rfl (Or.inl rfl) (ppH ⟨_, hot, (List.mem_singleton.mpr rfl)⟩ (pv 0) R.cl po GS r2 bS rfl))
    (pss_one (ps_ret (pe_callTy call_tuple_of (by rfl) Z.tuple (by decide +kernel) (pa_cons (pcH ⟨_, hot, (List.mem_singleton.mpr rfl)⟩ G1 r1 rfl m1 k1 b1 (pa_cons (pe_op op_shrN (pcH ⟨_, hot, (List.mem_singleton.mpr rfl)⟩ G2 hr rfl m2 k2 b2 (pa_cons (pv 0) (pa_cons (pe_op op_add (pv 1) (pe_fld (pv 0) rfl)) pa_nil))) (pv 1)) pa_nil)) pa_nil)))), ?_⟩
  have fst := fit.st
  have fw := fit.w1
  refine ⟨_, rfl, a, dx, _, rfl, ha, a, s, rfl, ⟨dx, ha⟩, ?_⟩
  refine ⟨_, rfl, _, rfl, _, rfl, a, C, dx, _, _, rfl, ha, R.cl, R.nW, rfl, _, _, rfl, rfl, a, s, Mk.len s.st + s.w, ?_, ⟨dx, ha⟩, fit, by omega, by omega, fun x hx => ?_⟩
  · show [V.ref a, V.int ((Mk.len s.st : Int) + (s.w : Int))] = _
    rw [Int.natCast_add]
  have hy : ∀ n, (x / 2 ^ Mk.len s.st).testBit n = (decide (n < s.w) && s.mem (Mk.len s.st + n)) := fun n => by
    rw [Nat.testBit_div_two_pow, hx, Nat.add_comm n]
    by_cases c : n < s.w
    · rw [decide_eq_true c, decide_eq_true (by omega)]
    · rw [decide_eq_false c, decide_eq_false (by omega), Bool.false_and]
  obtain ⟨e, lt⟩ := Mk.pos_below hy
  have l2 := Mk.log2_le lt
  refine ⟨_, rfl, (x : Int), Mk.len s.st, rfl, rfl, x / 2 ^ Mk.len s.st, ?_, by omega, fun D H1 s1 hD => ⟨D, _, rfl, .inl ⟨SqL.of hD, fun l hl => ?_⟩⟩⟩
  · rw [Mk.div_ct]
    rfl
  refine q l _ (s1.trans (same_new hl _)) ?_
  rw [upd_same, e]
  rfl
theorem hot_reprP (F : Fun K "__repr__" "Places.__repr__" s_Places_repr f fd) (D : CanH P w K mg base C) (Z : Bp mg) : FnH P w K mg base CX0 7 f fd ["self"] (spReprP C) := by
  refine okH F scReprP (fun vs H Q E h => ?_) (fun cdv A outer s H vs Q E p hot hr h => ?_)
  · obtain ⟨a, s, rfl, _⟩ := h
    rfl
  obtain ⟨a, s, rfl, pl, fit, l1, l2, q⟩ := h
  obtain ⟨p1, g1, fd1, po1, G1, b1⟩ := D.start
  obtain ⟨p2, g2, fd2, po2, G2, b2⟩ := D.period
  obtain ⟨p3, g3, fd3, po3, G3, b3⟩ := D.below
  obtain ⟨p4, g4, fd4, po4, G4, b4⟩ := D.rests
  have R := D.pd
  have r2 := hr.mono (by decide : 2 ≤ 6)
  refine ⟨_, pss_one (ps_ret (pe_joined (.cons pe_str (.cons (pe_fmt (pe_callB call_len_seq (by rfl) Z.len PySem.boot_len (pa_cons (ppH ⟨_, hot, (List.mem_singleton.mpr rfl)⟩ (pv 0) R.cl po3 G3 hr b3 rfl) pa_nil)))
    (.cons pe_str (.cons (pe_fmt (ppH ⟨_, hot, (List.mem_singleton.mpr rfl)⟩ (pv 0) R.cl po1 G1 r2 b1 rfl)) (.cons pe_str (.cons (pe_fmt (pe_callB call_len_seq (by rfl) Z.len PySem.boot_len (pa_cons (ppH ⟨_, hot, (List.mem_singleton.mpr rfl)⟩ (pv 0) R.cl po4 G4 hr b4 rfl) pa_nil)))
    (.cons pe_str (.cons (pe_fmt (ppH ⟨_, hot, (List.mem_singleton.mpr rfl)⟩ (pv 0) R.cl po2 G2 r2 b2 rfl)) (.cons pe_str .nil))))))))))), ?_⟩
  obtain ⟨dx, ha⟩ := pl
  have L1 : (s.from 0 (Mk.len s.st)).length ≤ 1400 := Nat.le_trans (from_len s 0 _) l1
  have L2 : (s.from (Mk.len s.st) s.w).length ≤ 1400 := Nat.le_trans (from_len s _ _) l2
  obtain ⟨a1, a2⟩ := num_ok _ L1
  obtain ⟨b1', b2'⟩ := num_ok _ l1
  obtain ⟨c1, c2⟩ := num_ok _ L2
  obtain ⟨d1, d2⟩ := num_ok _ l2
  refine ⟨"Places(", rfl, small_line (by decide +kernel), ?_⟩
  rw [empty_app]
  refine ⟨_, rfl, a, dx, _, rfl, ha, a, s, rfl, ⟨dx, ha⟩, fit, fun pb H1 s1 hb => ?_⟩
  have ha1 := s1 _ _ ha
  refine ⟨pb, _, rfl, .inr (SqT.of hb), .inr ⟨_, rfl, ?_, _, rfl, ?_, " below ", rfl, ?_, ?_⟩⟩
  all_goals try rw [nats_len]
  · exact log_ok L1
  · simp only [PySem.Str.length_append, (by decide +kernel : ("Places(" : Str).length = 7)]
    exact small_line (by omega)
  · simp only [PySem.Str.length_append, (by decide +kernel : ("Places(" : Str).length = 7), (by decide +kernel : (" below " : Str).length = 7)]
    exact small_line (by omega)
  refine ⟨_, rfl, a, dx, _, rfl, ha1, a, s, rfl, ⟨dx, ha1⟩, .inr ⟨_, rfl, log_ok l1, _, rfl, ?_, ", ", rfl, ?_, ?_⟩⟩
  · simp only [PySem.Str.length_append, (by decide +kernel : ("Places(" : Str).length = 7), (by decide +kernel : (" below " : Str).length = 7)]
    exact small_line (by omega)
  · simp only [PySem.Str.length_append, (by decide +kernel : ("Places(" : Str).length = 7), (by decide +kernel : (" below " : Str).length = 7), (by decide +kernel : (", " : Str).length = 2)]
    exact small_line (by omega)
  refine ⟨_, rfl, a, dx, _, rfl, ha1, a, s, rfl, ⟨dx, ha1⟩, fit, fun pr H2 s2 hr2 => ?_⟩
  have ha2 := s2 _ _ ha1
  refine ⟨pr, _, rfl, .inr (SqT.of hr2), .inr ⟨_, rfl, ?_, _, rfl, ?_, " of ", rfl, ?_, ?_⟩⟩
  all_goals try rw [nats_len]
  · exact log_ok L2
  · simp only [PySem.Str.length_append, (by decide +kernel : ("Places(" : Str).length = 7), (by decide +kernel : (" below " : Str).length = 7), (by decide +kernel : (", " : Str).length = 2)]
    exact small_line (by omega)
  · simp only [PySem.Str.length_append, (by decide +kernel : ("Places(" : Str).length = 7), (by decide +kernel : (" below " : Str).length = 7), (by decide +kernel : (", " : Str).length = 2), (by decide +kernel : (" of " : Str).length = 4)]
    exact small_line (by omega)
  refine ⟨_, rfl, a, dx, _, rfl, ha2, a, s, rfl, ⟨dx, ha2⟩, .inr ⟨_, rfl, log_ok l2, _, rfl, ?_, ")", rfl, ?_, ?_⟩⟩
  · simp only [PySem.Str.length_append, (by decide +kernel : ("Places(" : Str).length = 7), (by decide +kernel : (" below " : Str).length = 7), (by decide +kernel : (", " : Str).length = 2), (by decide +kernel : (" of " : Str).length = 4)]
    exact small_line (by omega)
  · simp only [PySem.Str.length_append, (by decide +kernel : ("Places(" : Str).length = 7), (by decide +kernel : (" below " : Str).length = 7), (by decide +kernel : (", " : Str).length = 2), (by decide +kernel : (" of " : Str).length = 4), (by decide +kernel : (")" : Str).length = 1)]
    exact small_line (by omega)
  exact q H2 (s1.trans s2)
end
end Wp

/-! x op y by the left operand's own def, errors without context -/
namespace Hx
open PySem PySem.Spec PyProof.Rows L2
/-- the class at C has the operator by a def of its own, which may let an error out -/
structure BinOwnN (P : Program) (w : World) (K : PySem.W.Frag) (mg : Str → Option Value) (base : Heap) (k : Nat) (C : Addr) (op : Operator) (sp : Sp) : Prop where
  go : ∃ (g : Addr) (fd : FuncData) (ps : List Str), PySem.W.findIn K (.ref C) (PySem.dunder op.info.2) = some (some (.ref g)) ∧ PySem.W.isFn K (.ref g) = true ∧ FnOk P w K mg base (L2N.CX P w) k g fd ps sp ∧ Binds K fd ps []
  first : PySem.W.selfFirst K C = true
  refl : PySem.W.findIn K (.ref C) (dunderR op.info.2) = some none
def rBinN (P : Program) (w : World) (K : PySem.W.Frag) (mg : Str → Option Value) (base : Heap) (k : Nat) (op : Operator) (E : XK) : R2 := fun x y H Q => ∃ (a C dx : Addr) (fs : List (Str × V)) (sp : Sp) (t : Value), x = .ref a ∧ H a = some (.ins C dx fs) ∧
  BinOwnN P w K mg base k C op sp ∧ RightB H y t ∧ BinR K C op t ∧ sp [x, y] H (fun v H' => ∃ r, v = .ref r ∧ Q (.ref r) H') E
section
variable {X : Cx} {k : Nat} {op : Operator} {E : XK}
theorem run_belowN {pins : List (Addr × Obj)} {σ : L2.St} {H : Hp} {s : Shared} {Q : VK} {us : List Value} {vs : List V} {A1 : Around} {f : Addr} {fd : FuncData} {ps : List Str} {sp : Sp}
    (F : FnOk X.prog X.w X.K X.mg X.base (L2N.CX X.prog X.w) k f fd ps sp) (hr : Room k A1) (e0 : Env0 X.prog X.w X.K X.mg X.base A1 X.stack s H) (hb : Binds X.K fd ps []) (hx : Passes (L2N.CX X.prog X.w) X E) (I : Inv X pins σ H s) (r : Vals vs us) (h : sp vs H Q E) :
    wpAny (model X.prog X.w) A1 (call (.ref f) us) (EP X pins σ Q) X.xe s := by
  have l := F.len vs H Q E h
  have hl : us.length = ps.length := by rw [← r.length]; exact l
  have b := hb s us I.kIn (by rw [List.append_nil]; exact hl)
  rw [List.append_nil] at b
  refine wpAny_call (codeAny_mono (F.run A1 X.stack s H ⟨us, []⟩ us vs Q E hr e0 b r h) fun r s' hq => ?_)
  cases r with
  | error e => exact hx pins σ H s e s' I hq
  | ok fl =>
    cases fl with
    | ret u => exact I.after hq
    | next => exact hq.elim
    | brk => exact hq.elim
    | cont => exact hq.elim
/-- x op y, x an own object -/
theorem op_binN (hr : Room k X.A) (hx : Passes (L2N.CX X.prog X.w) X E) : OpR X (binaryOp op) (rBinN X.prog X.w X.K X.mg X.base k op E) := by
  intro pins s σ H x y v u Q I rx ry h
  obtain ⟨a, C, dx, fs, sp, t, rfl, ha, T, r, br, q⟩ := h
  have hb := right_b I ry r
  cases (show v = Value.ref a from rx)
  obtain ⟨g, fd, ps, h1, h2, F, b⟩ := T.go
  obtain ⟨mA, O, _⟩ := ins_get I.hok ha
  obtain ⟨od, J, _⟩ := O.look
  obtain ⟨m, hF⟩ := I.fr
  have run : wpAny (model X.prog X.w) X.A (call (.ref g) [.ref a, u]) (PySem.W.CmpBack (EP X pins σ Q)) X.xe s := by
    refine wpAny_mono (run_belowN F hr I.env0 b hx I (.cons rx (.cons ry .nil)) q) (fun w' s' z => ?_) fun _ _ e => e
    obtain ⟨z', H', I', rz, r', rfl, qz⟩ := z
    cases (show w' = Value.ref r' from rz)
    exact ⟨.ref r', H', I', rfl, qz⟩
  cases br with
  | ty b1 b2 b3 => exact PySem.W.own_binT hF I.ok.mod.kin J hb T.first h1 h2 T.refl (.inl rfl) b1 b2 b3 run
  | same => exact PySem.W.binop_K hF I.ok.mod.kin J hb T.first h1 h2 run
  | other n b1 b2 b3 b4 => exact PySem.W.own_binR hF I.ok.mod.kin J hb T.first b1 h1 h2 T.refl (.inl rfl) b2 b3 (.inl rfl) b4 n run
end
end Hx

namespace Wp
open PySem PySem.Spec PyProof.Rows L2 Hx
/-! what the law draws: values of other kinds -/
structure Fits (d : PyData) : Prop where
  s : d.showable = true
  dep : d.depth ≤ 20
  len : d.shown.length ≤ 1000
  ok : PyData.strOk d.shown = true
theorem Fits.line {d : PyData} (h : Fits d) : d.shown.length ≤ sizeLine := Nat.le_trans h.len (by decide)
def fitsB (d : PyData) : Bool := d.showable && (decide (d.depth ≤ 20) && (decide (d.shown.length ≤ 1000) && PyData.strOk d.shown))
theorem fits_by {d : PyData} (h : fitsB d = true) : Fits d := by
  unfold fitsB at h
  simp only [Bool.and_eq_true, decide_eq_true_eq] at h
  exact ⟨h.1, h.2.1, h.2.2.1, h.2.2.2⟩
/-- a value, as it stands, and what it is as data -/
inductive OddA (H : Hp) : V → PyData → Prop
  | non : OddA H .non .none
  | bl (b : Bool) : OddA H (.bl b) (.bool b)
  | int {i : Int} : fitsB (.int i) = true → OddA H (.int i) (.int i)
  | str {x : Str} : fitsB (.str x) = true → OddA H (.str x) (.str x)
  | tup0 {p : Addr} : H p = some (.tup []) → OddA H (.ref p) (.tuple [])
  | lst0 {p : Addr} : H p = some (.lst []) → OddA H (.ref p) (.list [])
  | lst1 {p : Addr} : H p = some (.lst [.int 1]) → OddA H (.ref p) (.list [.int 1])
  | dct0 {p : Addr} : H p = some (.dK []) → OddA H (.ref p) (.dict [])
  | tup1 {p : Addr} {i : Int} : fitsB (.tuple [.int i]) = true → H p = some (.tup [.int i]) → OddA H (.ref p) (.tuple [.int i])
theorem OddA.same {H H' : Hp} {v : V} {d : PyData} (h : OddA H v d) (s : Same H H') : OddA H' v d := by
  cases h with
  | non => exact .non
  | bl b => exact .bl b
  | int h => exact .int h
  | str h => exact .str h
  | tup0 h => exact .tup0 (s _ _ h)
  | lst0 h => exact .lst0 (s _ _ h)
  | lst1 h => exact .lst1 (s _ _ h)
  | dct0 h => exact .dct0 (s _ _ h)
  | tup1 f h => exact .tup1 f (s _ _ h)
theorem DeckAt.same {H H' : Hp} {d : Addr} (s : Same H H') (h : DeckAt H d) : DeckAt H' d := by
  obtain ⟨a, m, c, h1, h2, e⟩ := h
  exact ⟨a, m, c, h1, h2, s _ _ e⟩
theorem deck_not {H : Hp} {d p : Addr} {o : HO} (h : DeckAt H d) (e : H p = some o) (n : ∀ a m c : Int, o ≠ .lst [.int a, .int m, .int c]) : p ≠ d := by
  rintro rfl
  obtain ⟨a, m, c, _, _, q⟩ := h
  rw [e] at q
  exact n a m c (Option.some.inj q)
theorem OddA.but {H H' : Hp} {v : V} {dt : PyData} {d : Addr} (h : OddA H v dt) (hd : DeckAt H d) (b : But d H H') : OddA H' v dt := by
  cases h with
  | non => exact .non
  | bl b => exact .bl b
  | int h => exact .int h
  | str h => exact .str h
  | tup0 h => exact .tup0 (b _ _ (deck_not hd h fun _ _ _ z => nomatch z) h)
  | lst0 h => exact .lst0 (b _ _ (deck_not hd h fun _ _ _ z => by cases z) h)
  | lst1 h => exact .lst1 (b _ _ (deck_not hd h fun _ _ _ z => by cases z) h)
  | dct0 h => exact .dct0 (b _ _ (deck_not hd h fun _ _ _ z => nomatch z) h)
  | tup1 f h => exact .tup1 f (b _ _ (deck_not hd h fun _ _ _ z => nomatch z) h)
theorem OddA.dq {H : Hp} {v : V} {d : PyData} (h : OddA H v d) : Dq H v d := by
  cases h with
  | non => exact .non
  | bl b => exact .bl b
  | int h => exact .int _
  | str h => exact .str _
  | tup0 h => exact .tup h .nil
  | lst0 h => exact .lst h .nil
  | lst1 h => exact .lst h (.cons (.int 1) .nil)
  | dct0 h => exact .dct h .nil
  | tup1 f h => exact .tup h (.cons (.int _) .nil)
theorem OddA.fits {H : Hp} {v : V} {d : PyData} (h : OddA H v d) : Fits d := by
  cases h with
  | non => exact fits_by (by decide +kernel)
  | bl b => cases b <;> exact fits_by (by decide +kernel)
  | int h => exact fits_by h
  | str h => exact fits_by h
  | tup0 h => exact fits_by (by decide +kernel)
  | lst0 h => exact fits_by (by decide +kernel)
  | lst1 h => exact fits_by (by decide +kernel)
  | dct0 h => exact fits_by (by decide +kernel)
  | tup1 f h => exact fits_by f
theorem OddA.right {H : Hp} {v : V} {d : PyData} (h : OddA H v d) : ∃ T ∈ types7, RightB H v (.type T) := by
  cases h with
  | non => exact ⟨_, by decide, .non⟩
  | bl b => exact ⟨_, by decide, .bl b⟩
  | int h => exact ⟨_, by decide, .int _⟩
  | str h => exact ⟨_, by decide, .str _⟩
  | tup0 h => exact ⟨_, by decide, .tup h⟩
  | lst0 h => exact ⟨_, by decide, .lst h⟩
  | lst1 h => exact ⟨_, by decide, .lst h⟩
  | dct0 h => exact ⟨_, by decide, .dK h⟩
  | tup1 f h => exact ⟨_, by decide, .tup h⟩
theorem right_tyB {K : PySem.W.Frag} {H : Hp} {y : V} {T : String} (h : RightB H y (.type T)) : TyX K H y (.type T) := by
  cases h with
  | non => exact .base .non
  | bl b => exact .base (.bl b)
  | int i => exact .base (.int i)
  | str z => exact .base (.str z)
  | lst e => exact .base (.lst e)
  | tup e => exact .base (.tup e)
  | dK e => exact .base (.dK e)
theorem notI_ty {K : PySem.W.Frag} {H : Hp} {v : V} {T : String} {bi bb : Bool} (h : RightB H v (.type T)) (k1 : PySem.W.kitOne K (.type T) (.type "int") = some bi) (k2 : PySem.W.kitOne K (.type T) (.type "bool") = some bb) (e : (bi && !bb) = false) : NotI K H v :=
  ⟨_, bi, bb, right_tyB h, k1, k2, e⟩
theorem OddA.notI {K : PySem.W.Frag} {H : Hp} {v : V} {d : PyData} (h : OddA H v d) (n : ∀ i, v ≠ .int i) : NotI K H v := by
  cases h with
  | non => exact notI_ty (bi := false) (bb := false) .non (kit_ty (by decide +kernel)) (kit_ty (by decide +kernel)) rfl
  | bl b => exact notI_ty (bi := true) (bb := true) (.bl b) (kit_ty (by decide +kernel)) (kit_ty (by decide +kernel)) rfl
  | int h => exact absurd rfl (n _)
  | str h => exact notI_ty (bi := false) (bb := false) (.str _) (kit_ty (by decide +kernel)) (kit_ty (by decide +kernel)) rfl
  | tup0 h => exact notI_ty (bi := false) (bb := false) (.tup h) (kit_ty (by decide +kernel)) (kit_ty (by decide +kernel)) rfl
  | lst0 h => exact notI_ty (bi := false) (bb := false) (.lst h) (kit_ty (by decide +kernel)) (kit_ty (by decide +kernel)) rfl
  | lst1 h => exact notI_ty (bi := false) (bb := false) (.lst h) (kit_ty (by decide +kernel)) (kit_ty (by decide +kernel)) rfl
  | dct0 h => exact notI_ty (bi := false) (bb := false) (.dK h) (kit_ty (by decide +kernel)) (kit_ty (by decide +kernel)) rfl
  | tup1 f h => exact notI_ty (bi := false) (bb := false) (.tup h) (kit_ty (by decide +kernel)) (kit_ty (by decide +kernel)) rfl
theorem OddA.badIn {K : PySem.W.Frag} {H : Hp} {v : V} {d : PyData} {l m : Int} (h : OddA H v d) (n : ∀ i, v = .int i → ¬ (l ≤ i ∧ i ≤ m)) : BadIn K H l m v := by
  by_cases c : ∃ i, v = .int i
  · obtain ⟨i, rfl⟩ := c
    exact .inl ⟨i, rfl, n i rfl⟩
  · exact .inr (h.notI fun i e => c ⟨i, e⟩)
theorem OddA.badC {K : PySem.W.Frag} {H : Hp} {v : V} {d : PyData} (h : OddA H v d) (n : ∀ i, v = .int i → i < 0) : BadC K H v := by
  by_cases c : ∃ i, v = .int i
  · obtain ⟨i, rfl⟩ := c
    exact .inl ⟨i, rfl, n i rfl⟩
  · exact .inr (h.notI fun i e => c ⟨i, e⟩)
/-- a drawn value: right, or not -/
inductive Val (H : Hp) (l m : Int) : V → Bool → PyData → Prop
  | good (n : Nat) : l ≤ (n : Int) → (n : Int) ≤ m → Val H l m (.int (n : Int)) true (.int (n : Int))
  | bad {v : V} {d : PyData} : OddA H v d → (∀ i, v = .int i → ¬ (l ≤ i ∧ i ≤ m)) → d ≠ .list [] → Val H l m v false d
theorem Val.same {H H' : Hp} {l m : Int} {v : V} {b : Bool} {d : PyData} (h : Val H l m v b d) (s : Same H H') : Val H' l m v b d := by
  cases h with
  | good n a b => exact .good n a b
  | bad o n e => exact .bad (o.same s) n e
theorem Val.but {H H' : Hp} {l m : Int} {v : V} {b : Bool} {d : PyData} {dk : Addr} (h : Val H l m v b d) (hd : DeckAt H dk) (s : But dk H H') : Val H' l m v b d := by
  cases h with
  | good n a b => exact .good n a b
  | bad o n e => exact .bad (o.but hd s) n e
def spValue : Sp := fun vs H Q _ => ∃ (d : Addr) (l m : Int), vs = [.ref d, .int l, .int m] ∧ ((l = 0 ∧ m = 1000) ∨ (l = 1 ∧ m = 12)) ∧ DeckAt H d ∧
  ∀ p v b dt H', But d H H' → DeckAt H' d → p ≠ d → H' p = some (.tup [v, .bl b]) → Val H' l m v b dt → Q (.ref p) H'
section
variable {P : Program} {w : World} {K : PySem.W.Frag} {mg : Str → Option Value} {base : Heap} {f fC fO : Addr} {fd fdC fdO : FuncData}
theorem scValue : FnScope ["_law_deck_here", "_law_least", "_law_most", "_law_odd"] ["_law_deck_here", "_law_least", "_law_most"] (defScope s_law_value) := ⟨rfl, rfl, rfl, by decide +kernel, rfl, by decide +kernel, by decide +kernel⟩
theorem ok_value (F : Fun K "_law_value" "_law_value" s_law_value f fd)
    (GC : FnOk P w K mg base CX0 1 fC fdC ["_law_deck_here", "_law_top"] spCard) (bC : Binds K fdC ["_law_deck_here", "_law_top"] []) (kC : PySem.W.keepIn K (.ref fC) = true) (mC : mg "_law_card" = some (.ref fC))
    (GO : FnOk P w K mg base CX0 2 fO fdO ["_law_deck_here", "_law_menu"] (spOf K)) (bO : Binds K fdO ["_law_deck_here", "_law_menu"] []) (kO : PySem.W.keepIn K (.ref fO) = true) (mO : mg "_law_of" = some (.ref fO)) :
    FnOk P w K mg base CX0 3 f fd ["_law_deck_here", "_law_least", "_law_most"] spValue := by
  refine F.ok scValue (fun vs H Q E h => ?_) (fun cdv A outer s H vs Q E hr h => ?_)
  · obtain ⟨d, l, m, rfl, _⟩ := h
    rfl
  obtain ⟨d, l, m, rfl, lm, hd, q⟩ := h
  refine ⟨_, pss_cons (ps_if (pt_cmpR op_gt (pe_call GC (hr.mono (by decide)) rfl mC kC bC .nil pass0 (pa_cons (pv 0) (pa_cons pe_int pa_nil))) pe_int (nomark _))
      (pss_one (ps_ret (pe_tup (pa_cons (pe_call GO hr rfl mO kO bO .nil pass0 (pa_cons (pv 0) (pa_cons (pe_lst (pa_cons (pv 1) (pa_cons (pv 2) (pa_cons (pe_op op_fdiv (pe_op op_add (pv 1) (pv 2)) pe_int) pa_nil)))) pa_nil))) (pa_cons pe_bl pa_nil))))) pss_nil)
    (pss_cons (ps_set (i := 3) scValue.nd rfl (Or.inl rfl) (pe_lst (pa_cons (pe_op op_sub (pv 1) pe_int) (pa_cons (pe_op op_add (pv 2) pe_int) (pa_cons pe_non (pa_cons pe_bl (pa_cons pe_bl (pa_cons pe_str (pa_cons (pe_tup pa_nil) (pa_cons (pe_lst (pa_cons pe_int pa_nil))
      (pa_cons pe_dnewK (pa_cons (pe_op op_pow pe_int pe_int) (pa_cons (pe_un un_neg (pe_op op_pow pe_int pe_int)) (pa_cons (pe_tup (pa_cons pe_int pa_nil)) pa_nil))))))))))))))
    (pss_one (ps_ret (pe_tup (pa_cons (pe_call GO hr rfl mO kO bO .nil pass0 (pa_cons (pv 0) (pa_cons (pv 3) pa_nil))) (pa_cons pe_bl pa_nil)))))), ?_⟩
  refine ⟨_, rfl, d, _, rfl, by decide, by decide, hd, fun r H1 r0 r1 b1 hd1 => ?_⟩
  refine ⟨_, _, rfl, rfl, _, rfl, ?_⟩
  refine ite2 (fun c => ?_) (fun c => ?_)
  · refine ⟨_, rfl, _, rfl, _, rfl, _, rfl, _, rfl, _, _, rfl, rfl, _, _, rfl, rfl, ⟨by decide, by decide⟩, (by show 3 ≤ sizeLine; decide), fun p np => ?_⟩
    have s1 := same_new np (.lst [V.int l, V.int m, V.int ((l + m) / 2)])
    have hd2 := DeckAt.same s1 hd1
    have npd : p ≠ d := fun z => by
      obtain ⟨a, m', c', _, _, e⟩ := hd1
      rw [← z, np] at e
      cases e
    refine ⟨d, p, [V.int l, V.int m, V.int ((l + m) / 2)], rfl, Ne.symm npd, SqL.of upd_same, (by show 0 < 3; decide), (by show 3 ≤ 1000; decide), hd2, fun v H2 hv b2 hd3 => ⟨(by show 2 ≤ sizeLine; decide), fun t nt => ?_⟩⟩
    have s3 := same_new nt (.tup [v, V.bl true])
    obtain ⟨n, rfl, n1, n2⟩ : ∃ n : Nat, v = .int (n : Int) ∧ l ≤ (n : Int) ∧ (n : Int) ≤ m := by
      rcases lm with ⟨rfl, rfl⟩ | ⟨rfl, rfl⟩
      · simp only [List.mem_cons, List.not_mem_nil, or_false] at hv
        rcases hv with rfl | rfl | rfl
        · exact ⟨0, rfl, by decide, by decide⟩
        · exact ⟨1000, rfl, by decide, by decide⟩
        · exact ⟨500, rfl, by decide, by decide⟩
      · simp only [List.mem_cons, List.not_mem_nil, or_false] at hv
        rcases hv with rfl | rfl | rfl
        · exact ⟨1, rfl, by decide, by decide⟩
        · exact ⟨12, rfl, by decide, by decide⟩
        · exact ⟨6, rfl, by decide, by decide⟩
    refine q t _ true _ _ (fun c o nc e => s3 _ _ (b2 c o nc (s1 _ _ (b1 c o nc e)))) (DeckAt.same s3 hd3) (fun z => ?_) upd_same (.good n n1 n2)
    obtain ⟨a, m', c', _, _, e⟩ := hd3
    rw [← z, nt] at e
    cases e
  · refine ⟨_, rfl, _, _, rfl, rfl, _, rfl, _, _, rfl, rfl, (by show 0 ≤ sizeLine; decide), fun p1 n1 => ⟨(by show 1 ≤ sizeLine; decide), fun p2 n2 => fun p3 n3 => ⟨_, _, rfl, rfl, ⟨by decide, by decide, by decide⟩, _, _, rfl, rfl, ⟨by decide, by decide, by decide⟩, _, rfl, (by show 1 ≤ sizeLine; decide), fun p4 n4 => ⟨(by show 12 ≤ sizeLine; decide), fun p n => ?_⟩⟩⟩⟩
    obtain ⟨ms, eth⟩ : ∃ k : List V, ([V.int (l - 1), .int (m + 1), .non, .bl true, .bl false, .str "3", .ref p1, .ref p2, .ref p3, .int (10 ^ (30 : Int).toNat), .int (-(10 ^ (30 : Int).toNat)), .ref p4] : List V) = k := ⟨_, rfl⟩
    rw [eth]
    have s5 := (((same_new n1 (.tup [])).trans (same_new n2 (.lst [V.int 1]))).trans ((same_new n3 (.dK [])).trans (same_new n4 (.tup [V.int 2])))).trans (same_new n (.lst ms))
    have g4 := upd_other (o := .lst ms) (upd_same (H := upd (upd (upd H1 p1 (.tup [])) p2 (.lst [V.int 1])) p3 (.dK [])) (a := p4) (o := HO.tup [V.int 2])) n
    have g3 := upd_other (o := .lst ms) (upd_other (o := .tup [V.int 2]) (upd_same (H := upd (upd H1 p1 (.tup [])) p2 (.lst [V.int 1])) (a := p3) (o := HO.dK [])) n4) n
    have g2 := upd_other (o := .lst ms) (upd_other (o := .tup [V.int 2]) (upd_other (o := .dK []) (upd_same (H := upd H1 p1 (.tup [])) (a := p2) (o := HO.lst [V.int 1])) n3) n4) n
    have g1 := upd_other (o := .lst ms) (upd_other (o := .tup [V.int 2]) (upd_other (o := .dK []) (upd_other (o := .lst [V.int 1]) (upd_same (H := H1) (a := p1) (o := HO.tup [])) n2) n3) n4) n
    have g0 : upd (upd (upd (upd (upd H1 p1 (.tup [])) p2 (.lst [V.int 1])) p3 (.dK [])) p4 (.tup [V.int 2])) p (.lst ms) p = some (.lst ms) := upd_same
    have lms : ms.length = 12 := by rw [← eth] <;> rfl
    have npd : p ≠ d := fun z => by
      obtain ⟨a, m', c', _, _, e⟩ := hd1
      have e2 := s5 d _ e
      rw [← z, g0] at e2
      have e3 : ms = [V.int a, V.int m', V.int c'] := by injection (Option.some.inj e2)
      rw [e3] at lms
      cases lms
    generalize (upd (upd (upd (upd (upd H1 p1 (.tup [])) p2 (.lst [V.int 1])) p3 (.dK [])) p4 (.tup [V.int 2])) p (.lst ms)) = H5 at *
    have hd5 := DeckAt.same s5 hd1
    refine ⟨_, rfl, _, rfl, d, p, ms, rfl, Ne.symm npd, SqL.of g0, by omega, by omega, hd5, fun v H7 hv b7 hd7 => ⟨(by show 2 ≤ sizeLine; decide), fun t nt => ?_⟩⟩
    have s3 := same_new nt (.tup [v, V.bl false])
    obtain ⟨dt, od, nb, ne⟩ : ∃ dt, OddA H5 v dt ∧ (∀ i, v = .int i → ¬ (l ≤ i ∧ i ≤ m)) ∧ dt ≠ .list [] := by
      rw [← eth] at hv
      simp only [List.mem_cons, List.not_mem_nil, or_false] at hv
      rcases hv with rfl | rfl | rfl | rfl | rfl | rfl | rfl | rfl | rfl | rfl | rfl | rfl
      · refine ⟨_, .int ?_, fun i e => by cases e; omega, fun z => nomatch z⟩
        rcases lm with ⟨rfl, rfl⟩ | ⟨rfl, rfl⟩ <;> decide +kernel
      · refine ⟨_, .int ?_, fun i e => by cases e; omega, fun z => nomatch z⟩
        rcases lm with ⟨rfl, rfl⟩ | ⟨rfl, rfl⟩ <;> decide +kernel
      · exact ⟨_, .non, (fun i e => nomatch e), by intro z; cases z⟩
      · exact ⟨_, .bl _, (fun i e => nomatch e), by intro z; cases z⟩
      · exact ⟨_, .bl _, (fun i e => nomatch e), by intro z; cases z⟩
      · exact ⟨_, .str (by decide +kernel), (fun i e => nomatch e), by intro z; cases z⟩
      · exact ⟨_, .tup0 g1, (fun i e => nomatch e), by intro z; cases z⟩
      · exact ⟨_, .lst1 g2, (fun i e => nomatch e), by intro z; cases z⟩
      · exact ⟨_, .dct0 g3, (fun i e => nomatch e), by intro z; cases z⟩
      · refine ⟨_, .int (by decide +kernel), fun i e => ?_, fun z => nomatch z⟩
        have e2 : i = 10 ^ (30 : Int).toNat := (V.int.inj e).symm
        have big : (10 : Int) ^ (30 : Int).toNat = 1000000000000000000000000000000 := by decide +kernel
        omega
      · refine ⟨_, .int (by decide +kernel), fun i e => ?_, fun z => nomatch z⟩
        have e2 : i = -(10 ^ (30 : Int).toNat) := (V.int.inj e).symm
        have big : (10 : Int) ^ (30 : Int).toNat = 1000000000000000000000000000000 := by decide +kernel
        omega
      · exact ⟨_, .tup1 (by decide +kernel) g4, (fun i e => nomatch e), by intro z; cases z⟩
    refine q t v false dt _ (fun c o nc e => s3 _ _ (b7 c o nc (s5 _ _ (b1 c o nc e)))) (DeckAt.same s3 hd7) (fun z => ?_) upd_same (.bad ((od.but hd5 b7).same s3) nb ne)
    obtain ⟨a, m', c', _, _, e⟩ := hd7
    rw [← z, nt] at e
    cases e
end
end Wp

namespace Hx
open PySem PySem.Spec PyProof.Rows L2
/-- == of lists: data, or of different lengths -/
def rEqL : R2 := fun x y H Q => rEqQ x y H Q ∨ ∃ (a b : Addr) (xs ys : List V), x = .ref a ∧ y = .ref b ∧ H a = some (.lst xs) ∧ H b = some (.lst ys) ∧ xs.length ≠ ys.length ∧ Q (.bl false) H
theorem op_eqL {X : Cx} (hu : X.A.units + 64 < cLine) : OpR X (compareOp .Eq) rEqL := by
  intro pins s σ H x y v u Q I rx ry h
  rcases h with h | ⟨a, b, xs, ys, rfl, rfl, ha, hb, n, q⟩
  · exact op_eqQ hu pins s σ H x y v u Q I rx ry h
  · cases (show v = Value.ref a from rx)
    cases (show u = Value.ref b from ry)
    obtain ⟨_, i1, n1, r1, l1, e1⟩ := I.lstM ha
    obtain ⟨_, i2, n2, r2, l2, e2⟩ := I.lstM hb
    refine PySem.W.cmp_ofEq (SeqAt.RcAt.lists_lengths (A := X.A) (items := i1.toArray) (items2 := i2.toArray) ⟨_, e1, rfl, _, rfl⟩ ⟨_, e2, rfl, _, rfl⟩ ?_ (by omega) _ _ _ _ ⟨.bl false, H, I, rfl, q⟩)
    rw [bne_iff_ne, List.size_toArray, List.size_toArray, ← l1, ← l2]
    exact n
end Hx
namespace Wp
open PySem PySem.Spec PyProof.Rows L2 Hx
/-- a pair (value, whether it is right), as it stands -/
abbrev Ent := V × Bool × PyData
def PairAt (H : Hp) (x : V) (e : Ent) : Prop := ∃ t, x = .ref t ∧ H t = some (.tup [e.1, .bl e.2.1]) ∧ (e.2.1 = false → OddA H e.1 e.2.2)
def PairsAt (H : Hp) (xs : List V) (L : List Ent) : Prop := xs.length = L.length ∧ ∀ (i : Nat) (x : V), xs[i]? = some x → ∃ e, L[i]? = some e ∧ PairAt H x e
theorem PairAt.same {H H' : Hp} {x : V} {e : Ent} (h : PairAt H x e) (s : Same H H') : PairAt H' x e := let ⟨t, a, b, c⟩ := h; ⟨t, a, s _ _ b, fun z => (c z).same s⟩
theorem PairsAt.same {H H' : Hp} {xs : List V} {L : List Ent} (h : PairsAt H xs L) (s : Same H H') : PairsAt H' xs L := ⟨h.1, fun (i : Nat) x hx => let ⟨e, a, b⟩ := h.2 i x hx; ⟨e, a, b.same s⟩⟩
theorem PairAt.but {H H' : Hp} {x : V} {e : Ent} {d : Addr} (h : PairAt H x e) (hd : DeckAt H d) (s : But d H H') : PairAt H' x e := let ⟨t, a, b, c⟩ := h; ⟨t, a, s _ _ (deck_not hd b fun _ _ _ z => nomatch z) b, fun z => (c z).but hd s⟩
theorem PairsAt.but {H H' : Hp} {xs : List V} {L : List Ent} {d : Addr} (h : PairsAt H xs L) (hd : DeckAt H d) (s : But d H H') : PairsAt H' xs L := ⟨h.1, fun (i : Nat) x hx => let ⟨e, a, b⟩ := h.2 i x hx; ⟨e, a, b.but hd s⟩⟩
def wrongs (L : List Ent) : List Ent := L.filter fun e => !e.2.1
def dueV (L : List Ent) : List V := match wrongs L with
  | [] => []
  | e :: _ => [.str "InvalidNumber", .str e.2.2.shown]
def gEnt (K : PySem.W.Frag) (i j : Nat) : TG := gTup K 2 (gCons (gName i) (gCons (gName j) gNil))
/-- [.. for thing, is_good in pairs (if ..)] -/
theorem lc_ents {K : PySem.W.Frag} {pa D : Addr} {xs : List V} {L : List Ent} {σ : L2.St} {H1 : Hp} {i j : Nat} {tt : TT} {Qd : Hp → Prop} (kb : Bool → Bool) (hD : H1 D = none) (hp : H1 pa = some (.lst xs)) (pr : PairsAt H1 xs L) (few : xs.length ≤ 10)
    (hw : ∀ u v : Option V, wipe (((wipe σ [i, j]).set i u).set j v) [i, j] = wipe σ [i, j]) (hv : ∀ u v : Option V, (((wipe σ [i, j]).set i u).set j v)[i]? = some u)
    (ht : ∀ (x : V) (b : Bool) H' (R : Bool → Hp → Prop), R (kb b) H' → tt (((wipe σ [i, j]).set i (some x)).set j (some (.bl b))) H' R)
    (hd : ∀ H', Same H1 H' → H' D = some (.lst ((L.filter fun e => kb e.2.1).map (·.1))) → Qd H') :
    ∃ W : Nat → Nat → Hp → Prop, (∃ m, W 0 m (upd H1 D (.lst []))) ∧ ∀ i' m H, W i' m H →
      ((Itl K pa).stop i' H ∧ Qd H) ∨ ((Itl K pa).go i' H ∧ ∃ Nx : Hp → Prop, (∀ H', Nx H' → ∃ m', m' < m ∧ W (i' + 1) m' H') ∧ ∀ x H', (Itl K pa).yld i' H x H' → gEnt K i j x (wipe σ [i, j]) H' fun σ2 H2 => wipe σ2 [i, j] = wipe σ [i, j] ∧ tt σ2 H2 fun b H3 =>
        if b = true then tVar i σ2 H3 fun y H4 => ∃ acc, H4 D = some (.lst acc) ∧ acc.length < sizeLine ∧ Nx (upd H4 D (.lst (acc ++ [y]))) else Nx H3) := by
  refine lc_list (K := K) (a := pa) (xs := xs) (fun n H' => Same H1 H' ∧ H' D = some (.lst (((L.take n).filter fun e => kb e.2.1).map (·.1)))) ⟨same_new hD _, upd_same⟩ (fun i H' _ h => SqL.of (h.1 _ _ hp)) ?_ ?_
  · rintro n v H' hv' ⟨s1, hD1⟩
    obtain ⟨e, he, t, rfl, hT, _⟩ := pr.2 n v hv'
    refine ⟨t, _, rfl, SqT.of (s1 _ _ hT), rfl, _, _, rfl, _, _, rfl, rfl, hw _ _, ht _ _ _ _ ?_⟩
    have sn : ((L.take (n + 1)).filter fun e => kb e.2.1).map (·.1) = ((L.take n).filter fun e => kb e.2.1).map (·.1) ++ (if kb e.2.1 then [e.1] else []) := by
      rw [List.take_succ, he, List.filter_append, List.map_append]
      cases b : kb e.2.1 <;> simp [b]
    rw [sn]
    cases b : kb e.2.1 with
    | false => exact iteF ⟨s1, by rw [if_neg Bool.false_ne_true, List.append_nil]; exact hD1⟩
    | true =>
      refine iteT ⟨_, hv _ _, _, hD1, ?_, same_at hD s1, ?_⟩
      · rw [List.length_map, sizeLine_eq]
        have h1 := List.length_filter_le (fun e : Ent => kb e.2.1) (L.take n)
        have h2 := List.length_take_le n L
        have h3 : L.length ≤ 10 := by rw [← pr.1]; exact few
        have h4 : (L.take n).length ≤ L.length := by rw [List.length_take]; exact Nat.min_le_right _ _
        omega
      · rw [upd_same, if_pos rfl]
  · rintro H' ⟨s1, hD1⟩
    rw [pr.1, List.take_length] at hD1
    exact hd H' s1 hD1
def spDue : Sp := fun vs H Q _ => ∃ (p : Addr) (xs : List V) (L : List Ent), vs = [.ref p] ∧ H p = some (.lst xs) ∧ PairsAt H xs L ∧ xs.length ≤ 10 ∧ ∀ r H', Same H H' → H' r = some (.tup (dueV L)) → Q (.ref r) H'
def NDue : List Str := ["_law_pairs", "_law_wrong", "_law_thing", "_law_is_good"]
section
variable {P : Program} {w : World} {K : PySem.W.Frag} {mg : Str → Option Value} {base : Heap} {f fC fO : Addr} {fd fdC fdO : FuncData}
theorem scDue : FnScope NDue ["_law_pairs"] (defScope s_law_due) := ⟨rfl, rfl, rfl, by decide +kernel, rfl, by decide +kernel, by decide +kernel⟩
theorem ok_due (F : Fun K "_law_due" "_law_due" s_law_due f fd) (mR : mg "repr" = none) (hm : Mods base) : GOk P w K mg base CX0 1 f fd ["_law_pairs"] spDue := by
  refine gok0 F scDue (fun vs H Q E h => ?_) (fun cdv A outer s H vs Q E hr gd h => ?_)
  · obtain ⟨p, xs, L, rfl, _⟩ := h
    rfl
  obtain ⟨p, xs, L, rfl, hp, pr, few, q⟩ := h
  have hu : (A.deeper (envOfC "_law_due" (defScope s_law_due) s.heap.objs.size f cdv)).units + 64 < cLine := hr.units
  refine ⟨_, pss_cons (ps_setLc (i := 1) (own := [("_law_thing", 2), ("_law_is_good", 3)]) (g := gEnt K 2 3) (te := tVar 2) rfl scDue.nd rfl rfl (sw_true rfl rfl rfl rfl) (pi_list (pv 0)) (blkOk_by (N := NDue) (sc := defScope s_law_due) (by decide +kernel))
        (fun _ _ _ _ _ => pg_tup (by rfl) (pgs_cons (pg_name (i := 2) scDue.nd rfl (Or.inl rfl)) (pgs_cons (pg_name (i := 3) scDue.nd rfl (Or.inl rfl)) pgs_nil))) (fun _ _ _ _ _ => pts_one (pt_not (pt_val (pv 3)))) (fun _ _ _ _ _ => pv 2))
    (pss_one (ps_ret (pe_ifExp (pt_cmpR (op_eqL hu) (pv 1) (pe_lst pa_nil) (nomark _)) (pe_tup pa_nil) (pe_tup (pa_cons pe_str (pa_cons (pe_callB (call_reprL gd hu hm) (by rfl) mR PyProof.Rows.boot_repr (pa_cons (pe_ix ix_list (pv 1) pe_int (fun _ _ => rfl)) pa_nil)) pa_nil)))))), ?_⟩
  refine ⟨_, rfl, p, rfl, ⟨xs, SqL.of hp⟩, fun D hD => ?_⟩
  refine lc_ents (fun b => !b) hD hp pr few (fun u v => rfl) (fun u v => rfl) (fun x b H' R h => ⟨_, rfl, _, rfl, h⟩) fun H1 s1 h1 => ?_
  have pr1 := pr.same s1
  refine ⟨_, rfl, (by show 0 ≤ sizeLine; decide), fun D2 nD2 => ?_⟩
  have s2 := same_new nD2 (.lst [])
  have h2 := s2 _ _ h1
  cases hw : wrongs L with
  | nil =>
    have hw' : (L.filter fun e => !e.2.1) = [] := hw
    rw [hw'] at h2
    refine .inl ⟨.list [], .list [], .lst h2 .nil, .lst upd_same .nil, rfl, rfl, _, rfl, iteT ⟨(by show 0 ≤ sizeLine; decide), fun r nr => ?_⟩⟩
    refine q r _ ((s1.trans s2).trans (same_new nr _)) ?_
    unfold dueV
    rw [hw]
    exact upd_same
  | cons e es =>
    have hw' : (L.filter fun e => !e.2.1) = e :: es := hw
    rw [hw'] at h2
    refine .inr ⟨D, D2, _, [], rfl, rfl, h2, upd_same, by simp, _, rfl, iteF ?_⟩
    obtain ⟨eL, ew⟩ := List.mem_filter.mp (show e ∈ L.filter fun e => !e.2.1 by rw [hw']; exact List.mem_cons_self)
    obtain ⟨i, hi⟩ := List.mem_iff_getElem?.mp eL
    have il : i < xs.length := by rw [pr.1]; exact (List.getElem?_eq_some_iff.mp hi).1
    obtain ⟨e', he', t, _, _, od⟩ := (pr1.same s2).2 i _ (List.getElem?_eq_getElem il)
    rw [hi] at he'
    cases he'
    have od := od (by simpa using ew)
    refine ⟨_, rfl, D, _, 0, _, rfl, rfl, SqL.of h2, atI_nat (j := 0) rfl, ?_⟩
    have ft := od.fits
    refine ⟨_, _, rfl, od.dq, ft.s, ft.dep, ft.line, (by show 2 ≤ sizeLine; decide), fun r nr => ?_⟩
    refine q r _ ((s1.trans s2).trans (same_new nr _)) ?_
    unfold dueV
    rw [hw]
    exact upd_same
end
end Wp

namespace Wp
open PySem PySem.Spec PyProof.Rows L2 Hx
theorem shaped_due {x y : Str} (h : PyData.strOk x = true) (h2 : PyData.strOk y = true) : SeqAt.shaped (.tuple [.str x, .str y]) = true := by
  show ((PyData.strOk x && (PyData.strOk y && true)) && decide (max 0 (max 0 0) + 1 ≤ 64)) = true
  rw [h, h2]
  rfl
theorem eqv_same {d : PyData} (h : SeqAt.shaped d = true) : PyData.eqv d d = true := SeqAt.eqv_refl_plain d (PyData.plain_of_canLay0 d (SeqAt.canLay_of_shaped h))
theorem wrong_fits {H : Hp} {xs : List V} {L : List Ent} {e : Ent} {es : List Ent} (pr : PairsAt H xs L) (hw : wrongs L = e :: es) : OddA H e.1 e.2.2 := by
  obtain ⟨eL, ew⟩ := List.mem_filter.mp (show e ∈ L.filter fun e => !e.2.1 by rw [show (L.filter fun e => !e.2.1) = e :: es from hw]; exact List.mem_cons_self)
  obtain ⟨i, hi⟩ := List.mem_iff_getElem?.mp eL
  have il : i < xs.length := by rw [pr.1]; exact (List.getElem?_eq_some_iff.mp hi).1
  obtain ⟨e', he', t, _, _, od⟩ := pr.2 i _ (List.getElem?_eq_getElem il)
  rw [hi] at he'
  cases he'
  exact od (by simpa using ew)
def spIsDue (C : Addr) : Sp := fun vs H Q _ => ∃ (t p : Addr) (made : Str) (xs : List V) (L : List Ent), vs = [.ref t, .ref p, .str made] ∧ H p = some (.lst xs) ∧ PairsAt H xs L ∧ xs.length ≤ 10 ∧
  ((wrongs L ≠ [] ∧ H t = some (.tup (dueV L))) ∨ (wrongs L = [] ∧ ∃ (a : Addr) (k : Mk.Kept), H t = some (.tup [.str "told", .ref a]) ∧ PlAt C H a k ∧ k.Fit ∧ Mk.len k.st ≤ 1400 ∧ k.w ≤ 1400 ∧ made = lineOf k)) ∧ ∀ H', Same H H' → Q (.bl true) H'
def NID : List Str := ["_law_told", "_law_pairs", "_law_made", "_law_due_here"]
section
variable {P : Program} {w : World} {K : PySem.W.Frag} {mg : Str → Option Value} {base : Heap} {f fD C : Addr} {fd fdD : FuncData}
theorem scIsDue : FnScope NID ["_law_told", "_law_pairs", "_law_made"] (defScope s_law_is_due) := ⟨rfl, rfl, rfl, by decide +kernel, rfl, by decide +kernel, by decide +kernel⟩
theorem ok_is_due (F : Fun K "_law_is_due" "_law_is_due" s_law_is_due f fd) (mR : mg "repr" = none) (T : ShowsBy P w K mg base 7 C (spReprP C))
    (GD : GOk P w K mg base CX0 1 fD fdD ["_law_pairs"] spDue) (bD : Binds K fdD ["_law_pairs"] []) (kD : PySem.W.keepIn K (.ref fD) = true) (mD : mg "_law_due" = some (.ref fD)) :
    GOk P w K mg base CX0 9 f fd ["_law_told", "_law_pairs", "_law_made"] (spIsDue C) := by
  refine gok0 F scIsDue (fun vs H Q E h => ?_) (fun cdv A outer s H vs Q E hr gd h => ?_)
  · obtain ⟨t, p, made, xs, L, rfl, _⟩ := h
    rfl
  obtain ⟨t, p, made, xs, L, rfl, hp, pr, few, h, q⟩ := h
  have r1 := hr.mono (by decide : 1 ≤ 8)
  refine ⟨_, pss_cons (ps_set (i := 3) scIsDue.nd rfl (Or.inl rfl) (pe_callG GD r1 gd rfl mD kD bD .nil pass0 (pa_cons (pv 1) pa_nil)))
    (pss_one (ps_ret (pe_ifExp (pt_cmpR (op_neQ hr.units) (pv 3) (pe_tup pa_nil) (nomark _)) (pe_cmpR (op_eqQ hr.units) (pv 0) (pv 3) (nomark _))
      (pe_and (pe_cmpR op_eq (pe_ix ix_tup (pv 0) pe_int (fun _ _ => rfl)) pe_str (nomark _)) (pe_one (pe_cmpR op_eq (pe_callB (call_show T hr) (by rfl) mR PyProof.Rows.boot_repr (pa_cons (pe_ix ix_tup (pv 0) pe_int (fun _ _ => rfl)) pa_nil)) (pv 2) (nomark _))))))), ?_⟩
  refine ⟨_, rfl, p, xs, L, rfl, hp, pr, few, fun r H1 s1 hr1 => ?_⟩
  refine ⟨_, rfl, (by show 0 ≤ sizeLine; decide), fun D nD => ?_⟩
  have s2 := same_new nD (.tup [])
  have h2 := s2 _ _ hr1
  rcases h with ⟨nw, ht⟩ | ⟨nw, a, k, ht, pl, fit, l1, l2, em⟩
  · cases hw : wrongs L with
    | nil => exact absurd hw nw
    | cons e es =>
      have od := wrong_fits pr hw
      have ft := od.fits
      have sh := shaped_due (x := "InvalidNumber") (by decide +kernel) ft.ok
      have dv : dueV L = [.str "InvalidNumber", .str e.2.2.shown] := by unfold dueV; rw [hw]
      rw [dv] at h2 ht
      refine ⟨.tuple [.str "InvalidNumber", .str e.2.2.shown], .tuple [], .tup h2 (.cons (.str _) (.cons (.str _) .nil)), .tup upd_same .nil, sh, rfl, _, rfl, iteT ?_⟩
      refine ⟨_, rfl, _, rfl, .tuple [.str "InvalidNumber", .str e.2.2.shown], .tuple [.str "InvalidNumber", .str e.2.2.shown], .tup (s2 _ _ (s1 _ _ ht)) (.cons (.str _) (.cons (.str _) .nil)), .tup h2 (.cons (.str _) (.cons (.str _) .nil)), sh, sh, ?_⟩
      rw [eqv_same sh]
      exact q _ (s1.trans s2)
  · have dv : dueV L = [] := by unfold dueV; rw [nw]
    rw [dv] at h2
    refine ⟨.tuple [], .tuple [], .tup h2 .nil, .tup upd_same .nil, rfl, rfl, _, rfl, iteF ?_⟩
    have ht := s2 _ _ (s1 _ _ ht)
    have pl := (pl.same s1).same s2
    refine ⟨_, rfl, t, _, 0, _, rfl, rfl, SqT.of ht, atI_nat (j := 0) rfl, rfl, ?_⟩
    refine ⟨_, rfl, iteT ?_⟩
    obtain ⟨dx, ha⟩ := pl
    refine ⟨_, rfl, t, _, 1, _, rfl, rfl, SqT.of ht, atI_nat (j := 1) rfl, a, dx, _, rfl, ha, a, k, rfl, ⟨dx, ha⟩, fit, l1, l2, fun H2 s3 => ⟨_, rfl, ?_⟩⟩
    refine ⟨_, rfl, rfl, ?_⟩
    rw [em, decide_eq_true rfl]
    exact q _ ((s1.trans s2).trans s3)
end
end Wp

namespace Wp
open PySem PySem.Spec PyProof.Rows L2 Hx
theorem Mems.same {K : PySem.W.Frag} {C CN : Addr} {xs : List V} {H H' : Hp} {Q : VK} {E : XK} (h : Mems K C CN xs H Q E) (s : Same H H') : Mems K C CN xs H' Q E := by
  rcases h with ⟨ms, e, hm, q⟩ | ⟨j, v, hj, bef, bad, t⟩
  · exact .inl ⟨ms, e, hm, fun a k H2 s2 pl is => q a k H2 (s.trans s2) pl is⟩
  · exact .inr ⟨j, v, hj, bef, bad.same s, t.same s⟩
def spNumsLX (K : PySem.W.Frag) (C CN : Addr) : Sp := fun vs H Q E => ∃ (p : Addr) (xs : List V), vs = [.ref p] ∧ H p = some (.lst xs) ∧ xs.length ≤ 4 ∧ Mems K C CN xs H Q E
section
variable {P : Program} {w : World} {K : PySem.W.Frag} {mg : Str → Option Value} {base : Heap} {f f1 C CN : Addr} {fd : FuncData}
theorem ok_numsLX (F : Fun K "_law_numbers" "_law_numbers" s_law_numbers f fd) (Z : Bp mg)
    (G : FnR P w K mg base (L2N.CX P w) 7 f1 (spNumsX K C CN)) (k1 : PySem.W.keepIn K (.ref f1) = true) (m1 : mg "numbers" = some (.ref f1)) :
    FnOk P w K mg base (L2N.CX P w) 8 f fd ["_law_members"] (spNumsLX K C CN) := by
  refine F.okN scNumsL (fun vs H Q E h => ?_) (fun cdv A outer s H vs Q E hr h => ?_)
  · obtain ⟨p, ms, rfl, _⟩ := h
    rfl
  obtain ⟨p, xs, rfl, hp, few, hm⟩ := h
  have tk := L2N.takes_of (X := cxOf (L2N.CX P w) P w K mg base ["_law_members"] "_law_numbers" (defScope s_law_numbers) f cdv A outer s H E) rfl rfl rfl rfl
  have pass : Passes (L2N.CX P w) (cxOf (L2N.CX P w) P w K mg base ["_law_members"] "_law_numbers" (defScope s_law_numbers) f cdv A outer s H E) E := L2N.passes_call tk fun _ _ _ _ h => h
  refine ⟨_, pss_cons (ps_if (pt_cmpR op_lt (pe_callB call_len_seq (by rfl) Z.len PySem.boot_len (pa_cons (pv 0) pa_nil)) pe_int (nomark _))
      (pss_one (ps_ret (pe_ifExp (pt_cmpR (op_eqL hr.units) (pv 0) (pe_lst pa_nil) (nomark _)) (pe_callR0 G hr k1 rfl m1 pass) (pe_callR G hr k1 rfl m1 pass (pa_cons (pe_ix ix_list (pv 0) pe_int (fun _ _ => rfl)) pa_nil))))) pss_nil)
    (pss_cons (ps_if (pt_cmpR op_eq (pe_callB call_len_seq (by rfl) Z.len PySem.boot_len (pa_cons (pv 0) pa_nil)) pe_int (nomark _))
      (pss_one (ps_ret (pe_callR G hr k1 rfl m1 pass (pa_cons (pe_ix ix_list (pv 0) pe_int (fun _ _ => rfl)) (pa_cons (pe_ix ix_list (pv 0) pe_int (fun _ _ => rfl)) pa_nil))))) pss_nil)
    (pss_cons (ps_if (pt_cmpR op_eq (pe_callB call_len_seq (by rfl) Z.len PySem.boot_len (pa_cons (pv 0) pa_nil)) pe_int (nomark _))
      (pss_one (ps_ret (pe_callR G hr k1 rfl m1 pass (pa_cons (pe_ix ix_list (pv 0) pe_int (fun _ _ => rfl)) (pa_cons (pe_ix ix_list (pv 0) pe_int (fun _ _ => rfl)) (pa_cons (pe_ix ix_list (pv 0) pe_int (fun _ _ => rfl)) pa_nil)))))) pss_nil)
    (pss_one (ps_ret (pe_callR G hr k1 rfl m1 pass (pa_cons (pe_ix ix_list (pv 0) pe_int (fun _ _ => rfl)) (pa_cons (pe_ix ix_list (pv 0) pe_int (fun _ _ => rfl)) (pa_cons (pe_ix ix_list (pv 0) pe_int (fun _ _ => rfl)) (pa_cons (pe_ix ix_list (pv 0) pe_int (fun _ _ => rfl)) pa_nil))))))))), ?_⟩
  have hS : SqL K H p xs := SqL.of hp
  refine ⟨_, rfl, p, _, rfl, .inl hS, _, _, rfl, rfl, _, rfl, ?_⟩
  match xs, few, hm, hp, hS with
  | [], few, hm, hp, hS =>
    refine iteT ⟨_, rfl, (by show 0 ≤ sizeLine; decide), fun D hD => ?_⟩
    have s1 := same_new hD (.lst [])
    refine .inl ⟨.list [], .list [], .lst (s1 _ _ hp) .nil, .lst upd_same .nil, rfl, rfl, _, rfl, ?_⟩
    exact iteT (numsX_call (by decide) (hm.same s1))
  | [m], few, hm, hp, hS =>
    refine iteT ⟨_, rfl, (by show 0 ≤ sizeLine; decide), fun D hD => ?_⟩
    have s1 := same_new hD (.lst [])
    refine .inr ⟨p, D, [m], [], rfl, rfl, s1 _ _ hp, upd_same, by show 1 ≠ 0; decide, _, rfl, ?_⟩
    refine iteF ⟨_, rfl, p, _, 0, _, rfl, rfl, SqL.of (s1 _ _ hp), atI_nat (j := 0) rfl, ?_⟩
    exact numsX_call (by show 1 ≤ 50; decide) (hm.same s1)
  | [m, m2], few, hm, hp, hS =>
    refine iteF ⟨_, rfl, p, _, rfl, .inl hS, rfl, _, rfl, iteT ?_⟩
    refine ⟨_, rfl, p, _, 0, _, rfl, rfl, hS, atI_nat (j := 0) rfl, _, rfl, p, _, 1, _, rfl, rfl, hS, atI_nat (j := 1) rfl, ?_⟩
    exact numsX_call (by show 2 ≤ 50; decide) hm
  | [m, m2, m3], few, hm, hp, hS =>
    refine iteF ⟨_, rfl, p, _, rfl, .inl hS, rfl, _, rfl, iteF ⟨_, rfl, p, _, rfl, .inl hS, rfl, _, rfl, iteT ?_⟩⟩
    refine ⟨_, rfl, p, _, 0, _, rfl, rfl, hS, atI_nat (j := 0) rfl, _, rfl, p, _, 1, _, rfl, rfl, hS, atI_nat (j := 1) rfl, _, rfl, p, _, 2, _, rfl, rfl, hS, atI_nat (j := 2) rfl, ?_⟩
    exact numsX_call (by show 3 ≤ 50; decide) hm
  | [m, m2, m3, m4], few, hm, hp, hS =>
    refine iteF ⟨_, rfl, p, _, rfl, .inl hS, rfl, _, rfl, iteF ⟨_, rfl, p, _, rfl, .inl hS, rfl, _, rfl, iteF ?_⟩⟩
    refine ⟨_, rfl, p, _, 0, _, rfl, rfl, hS, atI_nat (j := 0) rfl, _, rfl, p, _, 1, _, rfl, rfl, hS, atI_nat (j := 1) rfl, _, rfl, p, _, 2, _, rfl, rfl, hS, atI_nat (j := 2) rfl, _, rfl, p, _, 3, _, rfl, rfl, hS, atI_nat (j := 3) rfl, ?_⟩
    exact numsX_call (by show 4 ≤ 50; decide) hm
  | _ :: _ :: _ :: _ :: _ :: r, few, hm, hp, hS =>
    exfalso
    simp only [List.length_cons] at few
    omega
end
end Wp

namespace Hx
open PySem PySem.Spec PyProof.Rows L2
/-- the different ones, in order -/
def uniq (ns : List Int) : List Int := PyProof.Rows.firstMet (fun i => ns.getD i 0) ns.length
theorem firstMet_nd (val : Nat → Int) : ∀ i, (PyProof.Rows.firstMet val i).Nodup
  | 0 => by rw [firstMet_zero]; exact List.nodup_nil
  | i + 1 => by
    rw [firstMet_succ]
    unfold step_dedup
    have ih := firstMet_nd val i
    split
    · exact ih
    · rename_i c
      refine List.nodup_append.mpr ⟨ih, by simp, fun a ha b hb => ?_⟩
      rw [List.mem_singleton] at hb
      subst hb
      intro e
      subst e
      exact c (List.any_eq_true.mpr ⟨_, ha, beq_self_eq_true _⟩)
theorem uniq_nd (ns : List Int) : (uniq ns).Nodup := firstMet_nd _ _
theorem range_getD (ns : List Int) : (List.range ns.length).map (fun i => ns.getD i 0) = ns := by
  refine List.ext_getElem (by rw [List.length_map, List.length_range]) fun i h1 h2 => ?_
  rw [List.getElem_map, List.getElem_range, List.getD_eq_getElem?_getD, List.getElem?_eq_getElem h2]
  rfl
theorem uniq_mem {ns : List Int} {k : Int} : k ∈ uniq ns ↔ k ∈ ns := by
  have e : (uniq ns).any (· == k) = ns.any (· == k) := by
    unfold uniq
    rw [firstMet_any, range_getD]
  have m : ∀ l : List Int, k ∈ l ↔ l.any (· == k) = true := fun l => ⟨fun h => List.any_eq_true.mpr ⟨k, h, beq_self_eq_true _⟩, fun h => by
    obtain ⟨y, hy, ey⟩ := List.any_eq_true.mp h
    rw [← eq_of_beq ey]
    exact hy⟩
  rw [m, m, e]
theorem uniq_len (ns : List Int) : (uniq ns).length ≤ ns.length := PyProof.Rows.firstMet_length_le _ _
def tLenSetD (K : PySem.W.Frag) (ta : TE) : TE := fun σ H Q => ta σ H fun x H1 => ∃ (l : Addr) (ns : List Int), x = .ref l ∧ SqL K H1 l (ns.map V.int) ∧ ns.length ≤ 4000 ∧ Q (.int ((uniq ns).length : Nat)) H1
/-- len(set(xs)), the ints of xs in any way -/
theorem pe_lenSetD {X : Cx} {a : Expr} {ta : TE} {p p2 q pos : Pos} (hg : Gl X "len") (hm : X.mg "len" = none) (hg2 : Gl X "set") (hm2 : X.mg "set" = none) (ha : PE X a ta) (hc : X.calm = true := by rfl)
    (na : starEach [a] X.env = (false, eval a X.env) :: starEach [] X.env := by rfl) : PE X (.Call (.Name "len" p) [.Call (.Name "set" p2) [a] [] q] [] pos) (tLenSetD X.K ta) := by
  refine ⟨fun pins s σ H Q I h => ?_⟩
  refine Call_ (ld_blt I hg hm boot_len ?_)
  refine PyProof.Rows.callWith_builtin1 (PyProof.Rows.args_cons ?_ rfl) rfl rfl
  refine Call_ (ld_blt I hg2 hm2 boot_set ?_)
  refine PyProof.Rows.callWith_type1 (PyProof.Rows.args_cons (thn (ha.run pins s σ H _ I h) fun v s1 ⟨x, H1, I1, r1, q1⟩ => PyProof.Rows.args_nil ?_) na) na rfl
  obtain ⟨l, ns, rfl, hq, hl, q1⟩ := q1
  cases r1
  obtain ⟨its, r, pl, hz⟩ := I1.list hq
  have hlen : its.toArray.size = ns.length := by rw [List.size_toArray, ← r.length, List.length_map]
  refine call_set_list (I1.ok.hd hc) pl.isList (by simpa using RZ.intsAre_vals r) (by rw [hlen]; unfold scanBound; omega) fun h' tk hS hk => ?_
  refine PyProof.Rows.args_nil ?_
  rw [hlen] at hS
  obtain ⟨o, es, ep, t, ho, hex, hd, _, _, _, hf, hn⟩ := hS
  have hn : es.size = (uniq ns).length := hn
  have ul := uniq_len ns
  have I2 : Inv X pins σ H1 { s1 with heap := h', toks := tk } := I1.kept fun b o e => hk b o (Heap.lt_size e) e
  exact call_len_set ho hex hd hf (by rw [hn] <;> omega) ⟨.int (uniq ns).length, H1, I2.tok _, ⟨_, by rw [hn]⟩, q1⟩
end Hx
namespace Wp
open PySem PySem.Spec PyProof.Rows L2 Hx
theorem len_is {n L : Nat} (h1 : n < 2 ^ L) (h2 : L = 0 ∨ n.testBit (L - 1) = true) : Mk.len n = L := by
  have a := Mk.len_le h1
  have b := Mk.lt_len n
  rcases h2 with z | z
  · omega
  · apply Nat.le_antisymm a
    apply Classical.byContradiction
    intro c
    have lt : n < 2 ^ (L - 1) := Nat.lt_of_lt_of_le b (Nat.pow_le_pow_right (by decide) (by omega))
    rw [Nat.testBit_lt_two_pow lt] at z
    cases z
/-- the bound over these numbers -/
def Top (ms : List Nat) (L : Nat) : Prop := (∀ m ∈ ms, m < L) ∧ (L = 0 ∨ L - 1 ∈ ms)
theorem len_nums {ms : List Nat} {L : Nat} {s : Mk.Kept} (h : Mk.IsNums ms s) (t : Top ms L) : Mk.len s.st = L := len_is (nums_stlt h t.1) (t.2.imp id fun z => by rw [h.st]; exact decide_eq_true z)
theorem fit_nums {ms : List Nat} {L : Nat} {s : Mk.Kept} (h : Mk.IsNums ms s) (t : Top ms L) (hL : L ≤ 1400) : s.Fit := by
  refine ⟨by rw [h.w]; decide, by rw [h.w]; decide, ?_, by rw [len_nums h t]; omega⟩
  rw [h.cy]
  exact Nat.two_pow_pos _
theorem many_nums {ms : List Nat} {L : Nat} (t : Top ms L) : (uniq (ms.map fun n : Nat => (n : Int))).length = ((List.range L).filter fun i => decide (i ∈ ms)).length := by
  have nd : (((List.range L).filter fun i => decide (i ∈ ms)).map fun n : Nat => (n : Int)).Nodup := by
    rw [List.nodup_iff_pairwise_ne, List.pairwise_map]
    exact (List.nodup_range.filter _).imp fun {a b} n e => n (by omega)
  have p := (List.perm_ext_iff_of_nodup (uniq_nd (ms.map fun n : Nat => (n : Int))) nd).mpr fun k => by
    rw [uniq_mem, List.mem_map, List.mem_map]
    constructor
    · rintro ⟨m, hm, rfl⟩
      exact ⟨m, List.mem_filter.mpr ⟨List.mem_range.mpr (t.1 m hm), decide_eq_true hm⟩, rfl⟩
    · rintro ⟨m, hm, rfl⟩
      exact ⟨m, of_decide_eq_true (List.mem_filter.mp hm).2, rfl⟩
  rw [p.length_eq, List.length_map]
theorem line_nums {ms : List Nat} {L : Nat} {s : Mk.Kept} (h : Mk.IsNums ms s) (t : Top ms L) : lineOf s = lineP (uniq (ms.map fun n : Nat => (n : Int))).length L 0 1 := by
  have l := len_nums h t
  have f0 : (s.from 0 L).length = (uniq (ms.map fun n : Nat => (n : Int))).length := by
    rw [many_nums t]
    refine congrArg List.length (List.filter_congr fun i _ => ?_)
    rw [Nat.zero_add, nums_mem h]
  have f1 : (s.from L 1).length = 0 := by
    have e : s.from L 1 = [] := List.filter_eq_nil_iff.mpr fun i hi => by
      have := List.mem_range.mp hi
      rw [nums_mem h]
      simp only [decide_eq_true_eq]
      intro z
      have := t.1 _ z
      omega
    rw [e]
    rfl
  unfold lineOf
  rw [l, h.w, f0, f1]
/-- where b, b + p, .. comes round -/
theorem len_steps {b p : Nat} {s : Mk.Kept} (h : Mk.IsSteps b p s) (hp : 0 < p) : Mk.len s.st = b + 1 - p := by
  refine len_is (Nat.lt_pow_two_of_testBit _ fun i hi => ?_) ?_
  · rw [h.st]
    refine decide_eq_false ?_
    rintro ⟨a, c⟩
    have := (Nat.sub_mod_eq_zero_of_mod_eq (show b % p = i % p from c.symm))
    have hd : p ∣ b - i := Nat.dvd_of_mod_eq_zero this
    have := Nat.le_of_dvd (by omega) hd
    omega
  · by_cases c : p ≤ b
    · refine .inr ?_
      rw [h.st, show b + 1 - p - 1 = b - p by omega]
      refine decide_eq_true ⟨by omega, ?_⟩
      conv => rhs; rw [show b = b - p + p by omega]
      rw [Nat.add_mod_right]
    · exact .inl (by omega)
theorem fit_steps {b p : Nat} {s : Mk.Kept} (h : Mk.IsSteps b p s) (hp : 0 < p) (p1 : p ≤ 12) (b1 : b ≤ 1000) : s.Fit := by
  refine ⟨by rw [h.w]; exact hp, by rw [h.w]; omega, ?_, by rw [len_steps h hp]; omega⟩
  rw [h.cy, h.w]
  exact (Nat.pow_lt_pow_iff_right (by decide)).mpr (Nat.mod_lt b hp)
theorem line_steps {b p : Nat} {s : Mk.Kept} (h : Mk.IsSteps b p s) (hp : 0 < p) : lineOf s = lineP 0 (b + 1 - p) 1 p := by
  have l := len_steps h hp
  have f0 : (s.from 0 (b + 1 - p)).length = 0 := by
    have e : s.from 0 (b + 1 - p) = [] := List.filter_eq_nil_iff.mpr fun i hi => by
      have := List.mem_range.mp hi
      rw [steps_mem h hp, decide_eq_false (by omega), Bool.false_and]
      exact Bool.false_ne_true
    rw [e]
    rfl
  have f1 : (s.from (b + 1 - p) p).length = 1 := by
    have e : s.from (b + 1 - p) p = [b - (b + 1 - p)] := by
      have p2 := (List.perm_ext_iff_of_nodup (List.nodup_range.filter fun i => s.mem (b + 1 - p + i)) (show [b - (b + 1 - p)].Nodup by simp) (l₁ := s.from (b + 1 - p) p)).mpr fun i => by
        unfold Mk.Kept.from
        rw [List.mem_filter, List.mem_range, List.mem_singleton, steps_mem h hp]
        simp only [Bool.and_eq_true, decide_eq_true_eq]
        constructor
        · rintro ⟨i1, i2, i3⟩
          have hd : p ∣ b + 1 - p + i - b := Nat.dvd_of_mod_eq_zero i3
          rcases Nat.eq_zero_or_pos (b + 1 - p + i - b) with z | z
          · omega
          · have := Nat.le_of_dvd z hd
            omega
        · rintro rfl
          refine ⟨by omega, by omega, ?_⟩
          rw [show b + 1 - p + (b - (b + 1 - p)) - b = 0 by omega]
          exact Nat.zero_mod p
      exact List.perm_singleton.mp p2
    rw [e]
    rfl
  unfold lineOf
  rw [l, h.w, f0, f1]
/-- a set made of steps of three and one number -/
theorem mine_fits {c d : Nat} {s1 s2 s : Mk.Kept} (h1 : Mk.IsSteps c 3 s1) (h2 : Mk.IsNums [d] s2) (c1 : c ≤ 8) (d1 : d ≤ 8) (o : Mk.OpOf (fun x y => x || y) s1 s2 s) : s.Fit ∧ Mk.len s.st ≤ 1400 ∧ s.w ≤ 1400 := by
  have fr : s.From 9 3 := fun n hn => by
    rw [o.mem, o.mem, steps_mem h1 (by decide), steps_mem h1 (by decide), nums_mem h2, nums_mem h2]
    rw [decide_eq_true (show c ≤ n by omega), decide_eq_true (show c ≤ n + 3 by omega), show n + 3 - c = n - c + 3 by omega, Nat.add_mod_right]
    rw [decide_eq_false (show ¬ n + 3 ∈ [d] by simp; omega), decide_eq_false (show ¬ n ∈ [d] by simp; omega)]
  have wd := Nat.le_of_dvd (by decide) (o.good.dvd (by decide) fr)
  have ll := o.good.len_le (by decide) fr
  exact ⟨⟨o.good.least.pos, by omega, o.good.cy, by omega⟩, by omega, by omega⟩
theorem line_fit {s : Mk.Kept} (h2 : Mk.len s.st ≤ 1400) (h4 : s.w ≤ 1400) : PyData.strOk (lineOf s) = true ∧ (lineOf s).length ≤ 40 := line_ok (Nat.le_trans (from_len s 0 _) h2) h2 (Nat.le_trans (from_len s _ _) h4) h4
end Wp

/-! what stays; defs that make lambdas -/
namespace Wp
open PySem PySem.Spec PyProof.Rows L2 Hx LamX
def isTbl : HO → Bool
  | .tbl _ => true
  | _ => false
/-- all but the deck and the tables -/
def bare (d : Addr) (H : Hp) : Hp := fun b => if b = d then none else (H b).bind fun o => if isTbl o = true then none else some o
theorem bare_some {d b : Addr} {H : Hp} {o : HO} (h : bare d H b = some o) : b ≠ d ∧ isTbl o = false ∧ H b = some o := by
  unfold bare at h
  by_cases c : b = d
  · rw [if_pos c] at h
    cases h
  · rw [if_neg c] at h
    cases e : H b with
    | none => rw [e] at h; cases h
    | some u =>
      rw [e] at h
      simp only [Option.bind_some] at h
      by_cases g : isTbl u = true
      · rw [if_pos g] at h
        cases h
      · rw [if_neg g] at h
        cases h
        exact ⟨c, by simpa using g, rfl⟩
theorem bare_at {d b : Addr} {H : Hp} {o : HO} (n : b ≠ d) (t : isTbl o = false) (h : H b = some o) : bare d H b = some o := by
  unfold bare
  rw [if_neg n, h]
  simp only [Option.bind_some]
  rw [t]
  rfl
theorem bare_same {d : Addr} {H : Hp} : Same (bare d H) H := fun b o h => (bare_some h).2.2
/-- what stays of H -/
def Kp (d : Addr) (H H' : Hp) : Prop := ∀ b o, b ≠ d → isTbl o = false → H b = some o → H' b = some o
theorem Kp.refl {d : Addr} {H : Hp} : Kp d H H := fun _ _ _ _ h => h
theorem Kp.trans {d : Addr} {H H1 H2 : Hp} (a : Kp d H H1) (b : Kp d H1 H2) : Kp d H H2 := fun c o n t h => b c o n t (a c o n t h)
theorem Kp.but {d : Addr} {H H' : Hp} (b : But d H H') : Kp d H H' := fun c o n _ h => b c o n h
theorem Kp.same {d : Addr} {H H' : Hp} (s : Same H H') : Kp d H H' := fun c o _ _ h => s c o h
theorem Kp.ext {d : Addr} {H H' : Hp} (e : ExtN H H') : Kp d H H' := fun c o _ t h => e c o h fun ps z => by
  rw [z] at t
  cases t
theorem Kp.bare {d : Addr} {H H' : Hp} (k : Kp d H H') : Same (bare d H) (bare d H') := fun b o h => by
  obtain ⟨n, t, e⟩ := bare_some h
  exact bare_at n t (k b o n t e)
theorem tabs_but {T : List (Addr × Str)} {H H' : Hp} {d : Addr} {xs : List V} (t : Tabs T H) (hd : H d = some (.lst xs)) (b : But d H H') : Tabs T H' := fun p hp => by
  obtain ⟨ps, h1, h2, h3⟩ := t p hp
  refine ⟨ps, b _ _ (fun z => ?_) h1, h2, fun pos cv hc => ?_⟩
  · rw [z, hd] at h1
    cases h1
  · obtain ⟨c, e1, e2⟩ := h3 pos cv hc
    refine ⟨c, e1, b _ _ (fun z => ?_) e2⟩
    rw [z, hd] at e2
    cases e2
/-- a def whose code object is the one at c -/
structure FunC (K : PySem.W.Frag) (x qual : Str) (st : Stmt) (f : Addr) (fd : FuncData) (c : Addr) : Prop where
  ex : ∃ (oc : Value) (od : Option Addr) (kV doc pm : Value) (an : Option Addr) (ct : Value) (osl : Array (Option Value)),
    fd = PySem.W.fnOf x qual (defArgs st) (defBody st) (defScope st) .none kV doc pm an (.ref c) ct ∧ K.lookup f = some ⟨oc, od, .func fd, osl⟩ ∧ PySem.W.codeIn K (.ref c) qual = true
  kp : PySem.W.keepIn K (.ref f) = true
section
variable {P : Program} {w : World} {K : PySem.W.Frag} {mg : Str → Option Value} {base : Heap} {k : Nat} {f c : Addr} {fd : FuncData} {ps : List Str} {sp : Sp}
theorem FunC.fn {x qual : Str} {st : Stmt} (F : FunC K x qual st f fd c) : Fun K x qual st f fd := by
  obtain ⟨oc, od, kV, doc, pm, an, ct, osl, h⟩ := F.ex
  exact ⟨⟨oc, od, kV, doc, pm, an, _, ct, osl, h⟩, F.kp⟩
/-- no exception leaves the def; it makes lambdas -/
theorem gokC {x qual : Str} {st : Stmt} {N : List Str} (F : FunC K x qual st f fd c) (S : FnScope N ps (defScope st))
    (long : ∀ vs H Q E, sp vs H Q E → vs.length = ps.length)
    (body : ∀ (A : Around) (outer : List Env) (s : Shared) (H : Hp) (vs : List V) (Q : VK) (E : XK),
      Room k (A.deeper (envOfC qual (defScope st) s.heap.objs.size f (.ref c))) → A.guards = some [] → sp vs H Q E →
      ∃ t, PSs (cxOf CX0 P w K mg base N qual (defScope st) f (.ref c) A outer s H E).nox (defBody st) t ∧
        t { nx := fun _ H' => Q .non H', rt := Q } (L2.start N vs) H) :
    GOk P w K mg base CX0 (k + 1) f fd ps sp := by
  obtain ⟨oc, od, kV, doc, pm, an, ct, osl, efd, hlook, hcode⟩ := F.ex
  subst efd
  constructor
  · exact long
  · intro A outer s H args us vs Q E room gd e0 hbind rel hsp
    have inK : K.In s.heap := e0.mod.kin.keeps fun b o h => (e0.bs b o h).1
    have noLim : s.heap.NoLimit := e0.mod.nolimit.keeps fun b o h => (e0.bs b o h).1
    refine codeAny_call_function room.depth (inK _ _ hlook) rfl S.co S.gen rfl (PySem.W.codeRec_of inK hcode) (hbind _ _ _ _ ?_)
    refine wpAny_newFunctionEnv_cells S.kind ?kinds fun env henv s1 inside => ?_
    case kinds =>
      rintro ⟨nm, val⟩ hm
      have hp := (List.of_mem_zip hm).1
      cases S.par nm hp with
      | inl hl => exact .inl hl
      | inr hc => exact .inr ⟨hc, PySem.W.cellsFrom_some _ _ _ (.inl hc)⟩
    subst henv
    refine ⟨noLim.keeps inside.toInCall.keep, codeAny_func ?_⟩
    obtain ⟨t, ht, hq⟩ := body A outer s H vs Q E (room.deeper _) gd hsp
    have I0 := inv_start (CX := CX0) (E := E) S room.hd e0 (long _ _ _ _ hsp) rel inside
    refine wpAny_mono (ht.nox.run [] s1 (L2.start N vs) H _ I0 hq) ?_ (fun _ _ z => z)
    intro fl s' hfl
    cases fl with
    | ret u =>
      obtain ⟨v, _, H', J, rv, q⟩ := hfl
      exact ⟨v, H', J.os, J.bare, J.base, J.hok, rv, q⟩
    | next =>
      obtain ⟨_, H', J, q⟩ := hfl
      exact ⟨V.non, H', J.os, J.bare, J.base, J.hok, rfl, q⟩
    | brk => exact hfl.elim fun _ z => z.elim fun _ z => z.2.elim
    | cont => exact hfl.elim fun _ z => z.elim fun _ z => z.2.elim
end
theorem OddA.kp {H H' : Hp} {v : V} {dt : PyData} {d : Addr} (h : OddA H v dt) (hd : DeckAt H d) (b : Kp d H H') : OddA H' v dt := by
  cases h with
  | non => exact .non
  | bl b => exact .bl b
  | int h => exact .int h
  | str h => exact .str h
  | tup0 h => exact .tup0 (b _ _ (deck_not hd h fun _ _ _ z => nomatch z) rfl h)
  | lst0 h => exact .lst0 (b _ _ (deck_not hd h fun _ _ _ z => by cases z) rfl h)
  | lst1 h => exact .lst1 (b _ _ (deck_not hd h fun _ _ _ z => by cases z) rfl h)
  | dct0 h => exact .dct0 (b _ _ (deck_not hd h fun _ _ _ z => nomatch z) rfl h)
  | tup1 f h => exact .tup1 f (b _ _ (deck_not hd h fun _ _ _ z => nomatch z) rfl h)
theorem PairAt.kp {H H' : Hp} {x : V} {e : Ent} {d : Addr} (h : PairAt H x e) (hd : DeckAt H d) (s : Kp d H H') : PairAt H' x e := let ⟨t, a, b, c⟩ := h; ⟨t, a, s _ _ (deck_not hd b fun _ _ _ z => nomatch z) rfl b, fun z => (c z).kp hd s⟩
theorem PairsAt.kp {H H' : Hp} {xs : List V} {L : List Ent} {d : Addr} (h : PairsAt H xs L) (hd : DeckAt H d) (s : Kp d H H') : PairsAt H' xs L := ⟨h.1, fun (i : Nat) x hx => let ⟨e, a, b⟩ := h.2 i x hx; ⟨e, a, b.kp hd s⟩⟩
theorem Val.kp {H H' : Hp} {l m : Int} {v : V} {b : Bool} {d : PyData} {dk : Addr} (h : Val H l m v b d) (hd : DeckAt H dk) (s : Kp dk H H') : Val H' l m v b d := by
  cases h with
  | good n a b => exact .good n a b
  | bad o n e => exact .bad (o.kp hd s) n e
theorem PlAt.kp {C : Addr} {H H' : Hp} {a d : Addr} {k : Mk.Kept} (h : PlAt C H a k) (hd : DeckAt H d) (s : Kp d H H') : PlAt C H' a k := let ⟨dx, e⟩ := h; ⟨dx, s _ _ (deck_not hd e fun _ _ _ z => nomatch z) rfl e⟩
theorem deck_ext {H H' : Hp} {d : Addr} (h : DeckAt H d) (e : ExtN H H') : DeckAt H' d := by
  obtain ⟨a, m, c, h1, h2, q⟩ := h
  exact ⟨a, m, c, h1, h2, e _ _ q (by intro ps z; cases z)⟩
end Wp

namespace Hx
open PySem PySem.Spec PyProof.Rows L2
section
variable {X : Cx} {CX : CXT} {k : Nat} {f C : Addr} {fd : FuncData} {ps ks : List Str} {sp : Sp} {E : XK} {x : Str} {p pos : Pos} {kws : List Keyword} {tk : TA}
  {g : List Value → List Value → List Value} {gV : List V → List V → List V}
/-- f(k = v, ..) -/
theorem pe_callK0 (F : FnOk X.prog X.w X.K X.mg X.base CX k f fd ps sp) (hr : Room k X.A) (hg : Gl X x) (hm : X.mg x = some (.ref f)) (hk : PySem.W.keepIn X.K (.ref f) = true) (hb : KBinds X.K fd ps ks g gV) (hx : Passes CX X E)
    (hkw : PK X kws tk) (hall : (backToKw pos (keywordEach kws X.env)).all (·.1.isSome) = true := by rfl) (hks : (backToKw pos (keywordEach kws X.env)).filterMap (·.1) = ks := by rfl)
    (hdb : (x == ("__debug__" : Str)) = false := by decide)
    (hpl : ((backTo pos (starEach [] X.env)).any (·.1) || (backToKw pos (keywordEach kws X.env)).any (·.1.isNone)) = false := by rfl) :
    PE X (.Call (.Name x p) [] kws pos) (tCallK sp gV E tNil tk) := by
  refine ⟨fun pins s σ H Q I h => ?_⟩
  refine wpAny_Call_Name_kw (ld_glob I hg hm ?_ hdb)
  refine PySem.W.callWith_KW0 (first := []) (h₀ := X.base) I.ok.mod.kin hk hall ?_ hpl
  refine thn (hkw.run pos pins s σ H _ I h) fun ws s2 ⟨zs, H2, I2, rz, q2⟩ => ⟨I2.kIn, ?_⟩
  rw [hks]
  exact run_fnk (us := []) (vs := []) F hr hb hx I2 .nil rz q2
end
end Hx
namespace Wp
open PySem PySem.Spec PyProof.Rows L2 Hx LamX
def gS : List Value → List Value → List Value := fun us ws => us ++ ws.reverse
def gSV : List V → List V → List V := fun us ws => us ++ ws.reverse
def errs (CN CP : Addr) : List (Str × Addr) := [("InvalidNumber", CN), ("NotPlaces", CP)]
def NR : List Str := ["_law_deck_here", "_law_pairs", "_law_members", "_law_many", "_law_start", "_law_made", "_law_begin", "_law_pace", "_law_mine", "_law_kept", "_law_odd", "_law_told", "_law_k", "_law_thing", "_law_is_good"]
theorem scRight : FnScope NR ["_law_deck_here"] (defScope s_law_right) := ⟨rfl, rfl, rfl, by decide +kernel, rfl, by decide +kernel, by decide +kernel⟩
theorem scCaught : FnScope ["_law_act", "_law_told", "e"] ["_law_act"] (defScope s_law_caught) := ⟨rfl, rfl, rfl, by decide +kernel, rfl, by decide +kernel, by decide +kernel⟩
def lamQ : Str := "_law_right" ++ ".<locals>." ++ "<lambda>"
def tabsOf (TP : Addr) : List (Addr × Str) := [(TP, lamQ)]
/-- what the lambdas rest on -/
structure DL (P : Program) (w : World) (K : PySem.W.Frag) (mg : Str → Option Value) (base : Heap) (C CN CP c TP : Addr) : Prop where
  caught : ∃ (g : Addr) (fd : FuncData), Fun K "_law_caught" "_law_caught" s_law_caught g fd ∧ Binds K fd ["_law_act"] [] ∧ mg "_law_caught" = some (.ref g)
  exc : ExcX K mg (errs CN CP)
  tab : TabB base mg c TP
  mods : Mods base
  repr : mg "repr" = none
  hot : ShowsH P w K mg base 7 C (spReprP C)
section
variable {X : Cx} {C CN CP c TP : Addr}
/-- _law_caught(lambda: e) in the law's main def -/
theorem pe_cau {params : Arguments} {body : Expr} {scope : Scope} {t : XK → TE} {p lpos pos : Pos} (D : DL X.prog X.w X.K X.mg X.base C CN CP c TP) (hg : Gl X "_law_caught") (hq : X.env.qual ++ "<lambda>" = lamQ) (hcode : X.env.code = .ref c) (gd : X.A.guards = some [])
    (hr : Room 12 X.A) (L : LamS X.env.scope scope) (hdef : defaultsOf params X.env = ([], []))
    (hbind : ∀ (q : Str) (cl : List (Str × Addr)) (pm cv ctv : Value), bindArgs (PySem.W.kla_fn "<lambda>" q params body scope cl pm cv ctv) ⟨[], []⟩ = pure [])
    (hbody : ∀ (A : Around) (outer : List Env) (s : Shared) (H : Hp) (E : XK) (f c' : Addr), Room 10 (A.deeper (lamEnv X scope s.heap.objs.size f c')) → PE (lamCxN X A outer s H E scope f c') body (t E)) :
    PE X (.Call (.Name "_law_caught" p) [.Lambda params body scope lpos] [] pos) (tLam (tabsOf TP) (TCaughtN C (spReprP C) (errs CN CP)) t) := by
  obtain ⟨g, fd, F, bb, hm⟩ := D.caught
  obtain ⟨oc, od, kV, doc, pm, an, cdv, ct, osl, rfl, lk, hcd⟩ := F.ex
  refine pe_lamN (a := "_law_act") (k := 10) hg hm F.kp lk hcd bb scCaught rfl (.inl rfl) ?_ D.tab hcode (by rw [hq]; exact List.mem_singleton.mpr rfl) (fun p hp _ => by rw [hq, List.mem_singleton.mp hp]) hr L hdef hbind hbody
  refine caught_givesN (k := 7) D.exc D.hot scCaught.nd rfl (.cons (.cons .nil)) (fun p hp => ?_) rfl D.repr rfl rfl gd D.mods (fun s => ?_)
  · rcases List.mem_cons.mp hp with rfl | hp
    · rfl
    · rw [List.mem_singleton.mp hp]
      rfl
  · have z := hr.deeper (envOfC "_law_caught" (defScope s_law_caught) s.heap.objs.size g cdv)
    exact ⟨z.dp, z.un⟩
end
/-- what is told is handed back with its word -/
def ToldQ (Q : VK) : VK := fun v H' => ∃ x, some (some v) = some (some x) ∧ ([V.str "told", x].length ≤ sizeLine ∧ ∀ q, H' q = none → Q (.ref q) (upd H' q (.tup [.str "told", x])))
theorem told_of {Q : VK} {v : V} {H : Hp} (h : ∀ q, H q = none → Q (.ref q) (upd H q (.tup [.str "told", v]))) : ToldQ Q v H := ⟨v, rfl, (by show 2 ≤ sizeLine; decide), h⟩
theorem tells_odd {C CN CP Cx : Addr} {sp : Sp} {nm : Str} {Q : VK} {H : Hp} {v : V} {dt : PyData} (hm : (nm, Cx) ∈ errs CN CP) (hd : OddA H v dt)
    (q : ∀ p H', Same H H' → H' p = some (.tup [.str nm, .str dt.shown]) → Q (.ref p) H') : Tells (CaughtN C sp (errs CN CP) Q) Cx v H := by
  intro H' s dd hdd
  have s2 : Same H (upd H' dd (.xd [("given", v)])) := s.trans (same_new hdd _)
  have ft := hd.fits
  refine ⟨(nm, Cx), dd, v, hm, rfl, rfl, upd_same, .inl ⟨v, dt, rfl, (hd.same s2).dq, ft.s, ft.dep, ft.line, (by show 2 ≤ sizeLine; decide), fun p hp => ?_⟩⟩
  exact q p _ (s2.trans (same_new hp _)) upd_same
end Wp

namespace Wp
open PySem PySem.Spec PyProof.Rows L2 Hx LamX
theorem tupleText1 (x : Str) : tupleText [x] = (("(" : Str) ++ x) ++ (",)" : Str) := rfl
theorem listText1 (x : Str) : listText [x] = ((("[" : Str) ++ ("" : Str)) ++ x) ++ ("]" : Str) := rfl
/-- what stands right of an operator: data, or what holds the set at a -/
inductive OddB (H : Hp) (a : Addr) (k : Mk.Kept) : V → Str → Prop
  | data {v : V} {d : PyData} : OddA H v d → OddB H a k v d.shown
  | tup {q : Addr} : H q = some (.tup [.ref a]) → OddB H a k (.ref q) (tupleText [lineOf k])
  | lst {q : Addr} : H q = some (.lst [.ref a]) → OddB H a k (.ref q) (listText [lineOf k])
theorem OddB.same {H H' : Hp} {a : Addr} {k : Mk.Kept} {v : V} {y : Str} (h : OddB H a k v y) (s : Same H H') : OddB H' a k v y := by
  cases h with
  | data o => exact .data (o.same s)
  | tup e => exact .tup (s _ _ e)
  | lst e => exact .lst (s _ _ e)
theorem OddB.kp {H H' : Hp} {a d : Addr} {k : Mk.Kept} {v : V} {y : Str} (h : OddB H a k v y) (hd : DeckAt H d) (s : Kp d H H') : OddB H' a k v y := by
  cases h with
  | data o => exact .data (o.kp hd s)
  | tup e => exact .tup (s _ _ (deck_not hd e fun _ _ _ z => nomatch z) rfl e)
  | lst e => exact .lst (s _ _ (deck_not hd e fun _ _ _ z => by cases z) rfl e)
theorem OddB.right {H : Hp} {a : Addr} {k : Mk.Kept} {v : V} {y : Str} (h : OddB H a k v y) : ∃ T ∈ types7, RightB H v (.type T) := by
  cases h with
  | data o => exact o.right
  | tup e => exact ⟨_, by decide, .tup e⟩
  | lst e => exact ⟨_, by decide, .lst e⟩
theorem OddB.ok {H : Hp} {a : Addr} {k : Mk.Kept} {v : V} {y : Str} (h : OddB H a k v y) (l1 : Mk.len k.st ≤ 1400) (l2 : k.w ≤ 1400) : PyData.strOk y = true ∧ y.length ≤ 1000 := by
  obtain ⟨e1, e2⟩ := line_fit l1 l2
  cases h with
  | data o => exact ⟨o.fits.ok, o.fits.len⟩
  | tup e =>
    rw [tupleText1]
    refine ⟨ok_app (ok_app (by decide +kernel) e1) (by decide +kernel), ?_⟩
    simp only [PySem.Str.length_append, (by decide +kernel : ("(" : Str).length = 1), (by decide +kernel : (",)" : Str).length = 2)]
    omega
  | lst e =>
    rw [listText1]
    refine ⟨ok_app (ok_app (by decide +kernel) e1) (by decide +kernel), ?_⟩
    simp only [PySem.Str.length_append, (by decide +kernel : ("[" : Str).length = 1), (by decide +kernel : ("" : Str).length = 0), (by decide +kernel : ("]" : Str).length = 1)]
    omega
/-- a set that may be told -/
structure Told (C : Addr) (H : Hp) (a : Addr) (k : Mk.Kept) : Prop where
  pl : PlAt C H a k
  fit : k.Fit
  l1 : Mk.len k.st ≤ 1400
  l2 : k.w ≤ 1400
theorem Told.same {C : Addr} {H H' : Hp} {a : Addr} {k : Mk.Kept} (h : Told C H a k) (s : Same H H') : Told C H' a k := ⟨h.pl.same s, h.fit, h.l1, h.l2⟩
theorem Told.kp {C : Addr} {H H' : Hp} {a d : Addr} {k : Mk.Kept} (h : Told C H a k) (hd : DeckAt H d) (s : Kp d H H') : Told C H' a k := ⟨h.pl.kp hd s, h.fit, h.l1, h.l2⟩
theorem OddB.repr {C : Addr} {H : Hp} {a : Addr} {k : Mk.Kept} {v : V} {y : Str} {Q : VK} (h : OddB H a k v y) (T : Told C H a k) (q : ∀ H', Same H H' → Q (.str y) H') : rReprH C (spReprP C) [v] H Q := by
  obtain ⟨o1, o2⟩ := h.ok T.l1 T.l2
  have small : y.length ≤ sizeLine := Nat.le_trans o2 (by decide)
  have pl := T.pl
  obtain ⟨dx, ha⟩ := T.pl
  cases h with
  | data o => exact .inl ⟨v, _, rfl, o.dq, o.fits.s, o.fits.dep, small, q _ (Same.refl _)⟩
  | tup e => exact .inr ⟨_, a, dx, _, rfl, ha, .inr ⟨e, a, k, rfl, pl, T.fit, T.l1, T.l2, fun H' s => ⟨_, rfl, small, q H' s⟩⟩⟩
  | lst e =>
    refine .inr ⟨_, a, dx, _, rfl, ha, .inl ⟨e, fun P hP => ⟨a, k, rfl, pl.same (same_new hP _), T.fit, T.l1, T.l2, fun H' s => ⟨_, rfl, small, s _ _ upd_same, s _ _ (upd_other e hP), q _ fun c o hc => ?_⟩⟩⟩⟩
    rw [upd_ne (ne_of_none hc hP)]
    exact s _ _ (upd_other hc hP)
theorem tells_oddB {C CN CP Cx : Addr} {nm : Str} {Q : VK} {H : Hp} {a : Addr} {k : Mk.Kept} {v : V} {y : Str} (hm : (nm, Cx) ∈ errs CN CP) (o : OddB H a k v y) (T : Told C H a k)
    (q : ∀ p H', Same H H' → H' p = some (.tup [.str nm, .str y]) → Q (.ref p) H') : Tells (CaughtN C (spReprP C) (errs CN CP) Q) Cx v H := by
  intro H' s dd hdd
  have s2 : Same H (upd H' dd (.xd [("given", v)])) := s.trans (same_new hdd _)
  refine ⟨(nm, Cx), dd, v, hm, rfl, rfl, upd_same, (o.same s2).repr (T.same s2) fun H2 s3 => ⟨(by show 2 ≤ sizeLine; decide), fun p hp => ?_⟩⟩
  exact q p _ ((s2.trans s3).trans (same_new hp _)) upd_same
def ops4 : List Operator := [.BitOr, .BitAnd, .Sub, .BitXor]
/-- what the law's main def rests on -/
structure DC (P : Program) (w : World) (K : PySem.W.Frag) (mg : Str → Option Value) (base : Heap) (C CN CP c TP : Addr) : Prop where
  dl : DL P w K mg base C CN CP c TP
  pd : Pd K mg C
  bp : Bp mg
  zip : mg "zip" = none
  set : mg "set" = none
  card : ∃ f fd, FnOk P w K mg base CX0 1 f fd ["_law_deck_here", "_law_top"] spCard ∧ Binds K fd ["_law_deck_here", "_law_top"] [] ∧ PySem.W.keepIn K (.ref f) = true ∧ mg "_law_card" = some (.ref f)
  of : ∃ f fd, FnOk P w K mg base CX0 2 f fd ["_law_deck_here", "_law_menu"] (spOf K) ∧ Binds K fd ["_law_deck_here", "_law_menu"] [] ∧ PySem.W.keepIn K (.ref f) = true ∧ mg "_law_of" = some (.ref f)
  nums : ∃ f, FnR P w K mg base CX0 7 f (spNums C) ∧ PySem.W.keepIn K (.ref f) = true ∧ mg "numbers" = some (.ref f)
  steps : ∃ f fd, FnOk P w K mg base CX0 7 f fd ["first", "step"] (spSteps C) ∧ FnOk P w K mg base (L2N.CX P w) 7 f fd ["first", "step"] (spStepsX K C CN) ∧ Binds K fd ["first", "step"] [] ∧ KBinds K fd ["first", "step"] ["step", "first"] gS gSV ∧ PySem.W.keepIn K (.ref f) = true ∧ mg "steps" = some (.ref f)
  or0 : BinOwn0 P w K mg base 6 C .BitOr (spBinP C (fun x y => x || y))
  shown : ShowsBy P w K mg base 7 C (spReprP C)
  bad : ∀ op ∈ ops4, BinOwnN P w K mg base 4 C op (spBadOp K C CP)
  mem : ∃ f fd, Zg.GRaise P w K mg base 4 f fd ["self", "first"] (spMemX K CN) ∧ Binds K fd ["self", "first"] [] ∧ Meth K C "members" f
  kit : ∀ T ∈ types7, PySem.W.kitOne K (.type T) (.ref C) = some false
  binr : ∀ T ∈ types7, ∀ op ∈ ops4, BinR K C op (.type T)
  stop : PySem.W.subIn K (.ref CN) (.type "StopIteration") = some false
section
variable {P : Program} {w : World} {K : PySem.W.Frag} {mg : Str → Option Value} {base : Heap} {f C CN CP c TP : Addr}
theorem OddB.notP {H : Hp} {a : Addr} {k : Mk.Kept} {v : V} {y : Str} (h : OddB H a k v y) (kit : ∀ T ∈ types7, PySem.W.kitOne K (.type T) (.ref C) = some false) : NotP K C H v := by
  obtain ⟨T, hT, rb⟩ := h.right
  exact ⟨_, right_tyB rb, kit T hT⟩
/-- mine op odd, in a lambda -/
theorem lam_op (D : DC P w K mg base C CN CP c TP) {op : Operator} (ho : op ∈ ops4) {H : Hp} {Q Qt : VK} {a : Addr} {k : Mk.Kept} {v : V} {y : Str} (o : OddB H a k v y) (T : Told C H a k)
    (q : ∀ p H', Same H H' → H' p = some (.tup [.str "NotPlaces", .str y]) → Q (.ref p) H') : rBinN P w K mg base 4 op (CaughtN C (spReprP C) (errs CN CP) Q) (.ref a) v H Qt := by
  obtain ⟨dx, ha⟩ := T.pl
  obtain ⟨ty, hT, rb⟩ := o.right
  exact ⟨a, C, dx, _, _, _, rfl, ha, D.bad op ho, rb, D.binr ty hT op ho, a, v, rfl, o.notP D.kit, (tells_oddB (List.mem_cons_of_mem _ (List.mem_singleton.mpr rfl)) o T q).here⟩
end
end Wp

namespace Wp
open PySem PySem.Spec PyProof.Rows L2 Hx LamX
theorem op_binL {X : Cx} {P : Program} {w : World} {K : PySem.W.Frag} {mg : Str → Option Value} {base : Heap} {k : Nat} {op : Operator} {E : XK} (h1 : X.prog = P) (h2 : X.w = w) (h3 : X.K = K) (h4 : X.mg = mg) (h5 : X.base = base) (hr : Room k X.A) (hx : Passes (L2N.CX X.prog X.w) X E) :
    OpR X (binaryOp op) (rBinN P w K mg base k op E) := by
  subst h1 h2 h3 h4 h5
  exact op_binN hr hx
theorem tabs_deck {T : List (Addr × Str)} {H H' : Hp} {d : Addr} (t : Tabs T H) (hd : DeckAt H d) (b : But d H H') : Tabs T H' := by
  obtain ⟨_, _, _, _, _, e⟩ := hd
  exact tabs_but t e b
theorem shaped_four {x y : Str} (h : PyData.strOk x = true) (h2 : PyData.strOk y = true) : SeqAt.shaped (.list [.tuple [.str x, .str y], .tuple [.str x, .str y], .tuple [.str x, .str y], .tuple [.str x, .str y]]) = true := by
  show (((PyData.strOk _ && (PyData.strOk _ && true)) && ((PyData.strOk _ && (PyData.strOk _ && true)) && ((PyData.strOk _ && (PyData.strOk _ && true)) && ((PyData.strOk _ && (PyData.strOk _ && true)) && true)))) && decide (_ ≤ 64)) = true
  rw [h, h2]
  rfl
/-- the answers of the operators, as they stand -/
structure Ans (d : Addr) (T : List (Addr × Str)) (H8 : Hp) (l : Addr) (y : Str) (Hk : Hp) (ps : List Addr) : Prop where
  kp : Kp d H8 Hk
  deck : DeckAt Hk d
  tab : Tabs T Hk
  at_ : Hk l = some (.lst (ps.map V.ref))
  each : ∀ p ∈ ps, Hk p = some (.tup [.str "NotPlaces", .str y])
theorem Ans.more {d l : Addr} {T : List (Addr × Str)} {H8 Hk H9 : Hp} {y : Str} {ps : List Addr} {p : Addr} (S : Ans d T H8 l y Hk ps) (ld : l ≠ d) (fr : ∀ c o, H8 c = some o → c ≠ d → isTbl o = false → c ≠ l) {Hm : Hp} (e : ExtN Hk Hm) (tm : Tabs T Hm) (s : Same Hm H9) (hp : H9 p = some (.tup [.str "NotPlaces", .str y])) :
    H9 l = some (.lst (ps.map V.ref)) ∧ Ans d T H8 l y (upd H9 l (.lst (ps.map V.ref ++ [V.ref p]))) (ps ++ [p]) := by
  have hl : H9 l = some (.lst (ps.map V.ref)) := s _ _ (e _ _ S.at_ (by intro ps z; cases z))
  refine ⟨hl, fun c o n i h => ?_, ?_, ?_, ?_, fun x hx => ?_⟩
  · rw [upd_ne (fr c o h n i)]
    exact (S.kp.trans ((Kp.ext e).trans (Kp.same s))) c o n i h
  · obtain ⟨a, m, c, h1, h2, q⟩ := (deck_ext S.deck e).same s
    exact ⟨a, m, c, h1, h2, by rw [upd_ne (Ne.symm ld)]; exact q⟩
  · exact tabs_but (tm.ext s) hl (But.refl.upd _)
  · rw [upd_same, List.map_append]
    rfl
  · have hx' : H9 x = some (.tup [.str "NotPlaces", .str y]) := by
      rcases List.mem_append.mp hx with z | z
      · exact s _ _ (e _ _ (S.each x z) (by intro ps z; cases z))
      · rw [List.mem_singleton.mp z]
        exact hp
    rw [upd_ne fun z => by rw [z, hl] at hx'; cases hx']
    exact hx'
theorem in_ops0 : Operator.BitOr ∈ ops4 := List.mem_cons_self
theorem in_ops1 : Operator.BitAnd ∈ ops4 := List.mem_cons_of_mem _ List.mem_cons_self
theorem in_ops2 : Operator.Sub ∈ ops4 := List.mem_cons_of_mem _ (List.mem_cons_of_mem _ List.mem_cons_self)
theorem in_ops3 : Operator.BitXor ∈ ops4 := List.mem_cons_of_mem _ (List.mem_cons_of_mem _ (List.mem_cons_of_mem _ List.mem_cons_self))
/-- list(zip(range(n), mine.members(odd))), in a lambda: what the generator is made of -/
theorem zip_only {K : PySem.W.Frag} {CN mA : Addr} {H : Hp} {v : V} {dt : PyData} (o : OddA H v dt) (n : ∀ i, v = .int i → i < 0) : spMemX K CN [.ref mA, v] H (Zg.OnlyE CN H [("given", v)]) :=
  ⟨mA, v, rfl, o.badC n, fun dd hdd => ⟨rfl, dd, rfl, hdd, rfl⟩⟩
theorem shaped_told0 : SeqAt.shaped (.tuple [.str "told", .list []]) = true := by decide +kernel
section
variable {P : Program} {w : World} {K : PySem.W.Frag} {mg : Str → Option Value} {base : Heap} {f C CN CP c TP : Addr}
theorem right_c (D : DC P w K mg base C CN CP c TP) {A : Around} {outer : List Env} {s : Shared} {H0 : Hp} {E : XK} (hr : Room 12 (A.deeper (envOfC "_law_right" (defScope s_law_right) s.heap.objs.size f (.ref c)))) (gd : A.guards = some []) :
    ∃ t2, PSs (cxOf CX0 P w K mg base NR "_law_right" (defScope s_law_right) f (.ref c) A outer s H0 E).nox ((defBody s_law_right).drop 12) t2 ∧
      ∀ (Dn : Ends) (d : Addr) (o1 o2 o3 o4 o5 o6 o7 o8 o9 o10 o11 o12 o13 o14 : Option V) (H : Hp), DeckAt H d → Tabs (tabsOf TP) H → (∀ H', Kp d H H' → Tabs (tabsOf TP) H' → Dn.rt (.bl true) H') →
        t2 Dn [some (.ref d), o1, o2, o3, o4, o5, o6, o7, o8, o9, o10, o11, o12, o13, o14] H := by
  obtain ⟨fC, fdC, GC, bC, kC, mC⟩ := D.card
  obtain ⟨fO, fdO, GO, bO, kO, mO⟩ := D.of
  obtain ⟨fN, GN, kN, mN⟩ := D.nums
  obtain ⟨fS, fdS, GS, _, bS, _, kS, mS⟩ := D.steps
  obtain ⟨fM, fdM, GM, bM, meM⟩ := D.mem
  have hm := D.dl.mods
  have mR := D.dl.repr
  have r1 := hr.mono (by decide : 1 ≤ 12)
  have r2 := hr.mono (by decide : 2 ≤ 12)
  have r6 := hr.mono (by decide : 6 ≤ 12)
  have r7 := hr.mono (by decide : 7 ≤ 12)
  have r8 := hr.mono (by decide : 8 ≤ 12)
  have r11 := hr.mono (by decide : 11 ≤ 12)
  refine ⟨_, pss_cons (ps_set (i := 8) scRight.nd rfl (Or.inr rfl) (pe_op (op_bin0 r6) (pe_call GS r7 rfl mS kS bS .nil pass0 (pa_cons (pe_call GC r1 rfl mC kC bC .nil pass0 (pa_cons (pv 0) (pa_cons pe_int pa_nil))) (pa_cons pe_int pa_nil)))
        (pe_callR GN r7 kN rfl mN pass0 (pa_cons (pe_call GC r1 rfl mC kC bC .nil pass0 (pa_cons (pv 0) (pa_cons pe_int pa_nil))) pa_nil))))
    (pss_cons (ps_set (i := 9) scRight.nd rfl (Or.inl rfl) (pe_callB (call_show D.shown r8) (by rfl) mR PyProof.Rows.boot_repr (pa_cons (pv 8) pa_nil)))
    (pss_cons (ps_set (i := 10) scRight.nd rfl (Or.inr rfl) (pe_call GO r2 rfl mO kO bO .nil pass0 (pa_cons (pv 0) (pa_cons (pe_lst (pa_cons pe_non (pa_cons pe_int (pa_cons pe_bl (pa_cons pe_str (pa_cons (pe_tup pa_nil) (pa_cons (pe_lst (pa_cons pe_int pa_nil))
        (pa_cons pe_dnewK (pa_cons pe_str (pa_cons (pe_tup (pa_cons (pv 8) pa_nil)) (pa_cons (pe_lst (pa_cons (pv 8) pa_nil)) (pa_cons (pe_un un_neg pe_int) (pa_cons (pe_op op_pow pe_int pe_int) pa_nil))))))))))))) pa_nil))))
    (pss_cons (ps_set (i := 11) scRight.nd rfl (Or.inl rfl) (pe_lst (pa_cons (pe_cau D.dl rfl rfl rfl gd hr (lamS_by (sc := defScope s_law_right) (by decide +kernel)) rfl (fun _ _ _ _ _ => rfl) (fun A outer s H E f c' hr2 =>
        pe_op (op_binL (P := P) (w := w) (K := K) (mg := mg) (base := base) (k := 4) rfl rfl rfl rfl rfl (hr2.mono (show 4 ≤ 10 by decide)) (L2N.passes_call (L2N.takes_of rfl rfl rfl rfl) (fun _ _ _ _ h => h))) (pv 8) (pv 10))) pa_nil)))
    (pss_cons (ps_expr (pe_bm PySem.F.plainAttrs_list PySem.F.slot_list_append PySem.F.type_list_append mt_append (pv 11) (pa_cons (pe_cau D.dl rfl rfl rfl gd hr (lamS_by (sc := defScope s_law_right) (by decide +kernel)) rfl (fun _ _ _ _ _ => rfl) (fun A outer s H E f c' hr2 =>
        pe_op (op_binL (P := P) (w := w) (K := K) (mg := mg) (base := base) (k := 4) rfl rfl rfl rfl rfl (hr2.mono (show 4 ≤ 10 by decide)) (L2N.passes_call (L2N.takes_of rfl rfl rfl rfl) (fun _ _ _ _ h => h))) (pv 8) (pv 10))) pa_nil)))
    (pss_cons (ps_expr (pe_bm PySem.F.plainAttrs_list PySem.F.slot_list_append PySem.F.type_list_append mt_append (pv 11) (pa_cons (pe_cau D.dl rfl rfl rfl gd hr (lamS_by (sc := defScope s_law_right) (by decide +kernel)) rfl (fun _ _ _ _ _ => rfl) (fun A outer s H E f c' hr2 =>
        pe_op (op_binL (P := P) (w := w) (K := K) (mg := mg) (base := base) (k := 4) rfl rfl rfl rfl rfl (hr2.mono (show 4 ≤ 10 by decide)) (L2N.passes_call (L2N.takes_of rfl rfl rfl rfl) (fun _ _ _ _ h => h))) (pv 8) (pv 10))) pa_nil)))
    (pss_cons (ps_expr (pe_bm PySem.F.plainAttrs_list PySem.F.slot_list_append PySem.F.type_list_append mt_append (pv 11) (pa_cons (pe_cau D.dl rfl rfl rfl gd hr (lamS_by (sc := defScope s_law_right) (by decide +kernel)) rfl (fun _ _ _ _ _ => rfl) (fun A outer s H E f c' hr2 =>
        pe_op (op_binL (P := P) (w := w) (K := K) (mg := mg) (base := base) (k := 4) rfl rfl rfl rfl rfl (hr2.mono (show 4 ≤ 10 by decide)) (L2N.passes_call (L2N.takes_of rfl rfl rfl rfl) (fun _ _ _ _ h => h))) (pv 8) (pv 10))) pa_nil)))
    (pss_cons (ps_if (PW.pt (pw_or (pt_cmpR (op_neQ hr.units) (pv 11) (pe_op op_rep (pe_lst (pa_cons (pe_tup (pa_cons pe_str (pa_cons (pe_callB (call_reprC D.shown r11 gd hm) (by rfl) mR PyProof.Rows.boot_repr (pa_cons (pv 10) pa_nil)) pa_nil))) pa_nil)) pe_int) (nomark _))
        (pw_or1 (pt_cmpR op_ne (pe_callB (call_show D.shown r8) (by rfl) mR PyProof.Rows.boot_repr (pa_cons (pv 8) pa_nil)) (pv 9) (nomark _))))) (pss_one (ps_ret pe_bl)) pss_nil)
    (pss_cons (ps_set (i := 10) scRight.nd rfl (Or.inr rfl) (pe_call GO r2 rfl mO kO bO .nil pass0 (pa_cons (pv 0) (pa_cons (pe_lst (pa_cons (pe_un un_neg pe_int) (pa_cons pe_non (pa_cons pe_bl (pa_cons pe_bl (pa_cons pe_str (pa_cons (pe_tup (pa_cons pe_int pa_nil))
        (pa_cons (pe_lst pa_nil) (pa_cons pe_dnewK (pa_cons (pe_un un_neg (pe_op op_pow pe_int pe_int)) (pa_cons pe_str pa_nil))))))))))) pa_nil))))
    (pss_cons (ps_if (pt_cmpR (op_neQ hr.units) (pe_cau D.dl rfl rfl rfl gd hr (lamS_by (sc := defScope s_law_right) (by decide +kernel)) rfl (fun _ _ _ _ _ => rfl) (fun A outer s H E f c' hr2 =>
        Zg.pe_zipgen (k := 2) (fs := fun v => [("given", v)]) rfl D.bp.list rfl D.zip rfl D.bp.range (pv 8) D.pd.cl meM GM (hr2.mono (show 8 ≤ 10 by decide)) bM (pa_cons (pv 10) pa_nil) rfl rfl (L2N.passes_call (L2N.takes_of rfl rfl rfl rfl) (fun _ _ _ _ h => h)) D.stop))
        (pe_tup (pa_cons pe_str (pa_cons (pe_callB (call_reprC D.shown r11 gd hm) (by rfl) mR PyProof.Rows.boot_repr (pa_cons (pv 10) pa_nil)) pa_nil))) (nomark _)) (pss_one (ps_ret pe_bl)) pss_nil)
    (pss_one (ps_ret (pe_and (pe_cmpR (op_eqQ hr.units) (pe_cau D.dl rfl rfl rfl gd hr (lamS_by (sc := defScope s_law_right) (by decide +kernel)) rfl (fun _ _ _ _ _ => rfl) (fun A outer s H E f c' hr2 =>
        Zg.pe_zipgen (k := 2) (fs := fun v => [("given", v)]) rfl D.bp.list rfl D.zip rfl D.bp.range (pv 8) D.pd.cl meM GM (hr2.mono (show 8 ≤ 10 by decide)) bM (pa_cons (pv 10) pa_nil) rfl rfl (L2N.passes_call (L2N.takes_of rfl rfl rfl rfl) (fun _ _ _ _ h => h)) D.stop))
        (pe_tup (pa_cons pe_str (pa_cons (pe_lst pa_nil) pa_nil))) (nomark _)) (pe_one (pe_cmpR op_eq (pe_callB (call_show D.shown r8) (by rfl) mR PyProof.Rows.boot_repr (pa_cons (pv 8) pa_nil)) (pv 9) (nomark _))))))))))))))), ?_⟩
  intro Dn d o1 o2 o3 o4 o5 o6 o7 o8 o9 o10 o11 o12 o13 o14 H hd tb q
  have ne0 : ∀ x : Str, (!decide (V.str x = V.str x)) = false := fun x => by rw [decide_eq_true rfl]; rfl
  -- the set
  refine ⟨_, rfl, d, 9, rfl, by decide, by decide, hd, fun r H1 r0 r1 b1 hd1 => ?_⟩
  obtain ⟨n, rfl⟩ : ∃ n : Nat, r = (n : Int) := ⟨r.toNat, by omega⟩
  refine ⟨n, 3, rfl, by omega, by decide, by decide, fun a1 k1 H2 t1 pl1 is1 => ?_⟩
  have hd2 := hd1.same t1
  refine ⟨_, rfl, d, 9, rfl, by decide, by decide, hd2, fun r H3 r0' r1' b3 hd3 => ?_⟩
  obtain ⟨m, rfl⟩ : ∃ m : Nat, r = (m : Int) := ⟨r.toNat, by omega⟩
  refine nums_call (ms := [m]) (by show 1 ≤ 50; decide) (fun x hx => by rw [List.mem_singleton.mp hx]; omega) fun a2 k2 H4 t4 pl2 is2 => ?_
  have kp4 : Kp d H H4 := (Kp.but b1).trans ((Kp.same t1).trans ((Kp.but b3).trans (Kp.same t4)))
  have tb4 : Tabs (tabsOf TP) H4 := (tabs_deck ((tabs_deck tb hd b1).ext t1) hd2 b3).ext t4
  have hd4 := hd3.same t4
  have pl1 := (pl1.kp hd2 (Kp.but b3)).same t4
  obtain ⟨dx1, ha1⟩ := id pl1
  obtain ⟨dx2, ha2⟩ := id pl2
  have l1 := len_steps is1 (by decide)
  have l2 := len_nums is2 (L := m + 1) ⟨fun x hx => by rw [List.mem_singleton.mp hx]; omega, .inr (by rw [Nat.add_sub_cancel]; exact List.mem_singleton.mpr rfl)⟩
  refine ⟨a1, a2, C, dx1, dx2, _, _, _, rfl, rfl, ha1, ha2, D.or0, a1, a2, k1, k2, rfl, pl1, pl2, Mk.steps_good (by decide) is1, Mk.nums_good is2, ?_, by omega, by omega, fun mA k H5 t5 pl5 op5 => ⟨mA, rfl, ?_⟩⟩
  · rw [is1.w, is2.w]
    decide
  obtain ⟨ft, fl1, fl2⟩ := mine_fits is1 is2 (by omega) (by omega) op5
  have T5 : Told C H5 mA k := ⟨pl5, ft, fl1, fl2⟩
  have kp5 := kp4.trans (Kp.same t5)
  have tb5 := tb4.ext t5
  have hd5 := hd4.same t5
  clear pl1 pl2 ha1 ha2 t5 t4 t1 b1 b3 hd1 hd2 hd3 hd4 kp4 tb4 is1 is2 l1 l2 op5 tb hd
  -- how it is told
  obtain ⟨dx, ha⟩ := id pl5
  refine ⟨_, rfl, mA, dx, _, rfl, ha, mA, k, rfl, pl5, ft, fl1, fl2, fun H6 t6 => ⟨_, rfl, ?_⟩⟩
  have T6 := T5.same t6
  have kp6 := kp5.trans (Kp.same t6)
  have tb6 := tb5.ext t6
  have hd6 := hd5.same t6
  clear pl5 ha T5 kp5 tb5 hd5 t6
  -- what stands right of the operators
  refine ⟨_, rfl, (by show 0 ≤ sizeLine; decide), fun p1 n1 => ⟨(by show 1 ≤ sizeLine; decide), fun p2 n2 => fun p3 n3 => ⟨_, rfl, (by show 1 ≤ sizeLine; decide), fun p4 n4 => ⟨_, rfl, (by show 1 ≤ sizeLine; decide), fun p5 n5 => ⟨_, rfl, _, _, rfl, rfl, ⟨by decide, by decide, by decide⟩, (by show 12 ≤ sizeLine; decide), fun p n => ?_⟩⟩⟩⟩⟩
  obtain ⟨ms, eth⟩ : ∃ k : List V, ([V.non, .int 0, .bl true, .str "", .ref p1, .ref p2, .ref p3, .str "Places", .ref p4, .ref p5, .int (-1), .int (10 ^ (30 : Int).toNat)] : List V) = k := ⟨_, rfl⟩
  rw [eth]
  have q1 := same_new n1 (.tup [])
  have q2 := same_new n2 (.lst [V.int 1])
  have q3 := same_new n3 (.dK [])
  have q4 := same_new n4 (.tup [V.ref mA])
  have q5 := same_new n5 (.lst [V.ref mA])
  have q6 := same_new n (.lst ms)
  have s7 := q1.trans (q2.trans (q3.trans (q4.trans (q5.trans q6))))
  have g1 := q6 _ _ (q5 _ _ (q4 _ _ (q3 _ _ (q2 _ _ (upd_same (H := H6) (a := p1) (o := HO.tup []))))))
  have g2 := q6 _ _ (q5 _ _ (q4 _ _ (q3 _ _ (upd_same (H := upd H6 p1 (.tup [])) (a := p2) (o := HO.lst [V.int 1])))))
  have g3 := q6 _ _ (q5 _ _ (q4 _ _ (upd_same (H := upd (upd H6 p1 (.tup [])) p2 (.lst [V.int 1])) (a := p3) (o := HO.dK []))))
  have g4 := q6 _ _ (q5 _ _ (upd_same (H := upd (upd (upd H6 p1 (.tup [])) p2 (.lst [V.int 1])) p3 (.dK [])) (a := p4) (o := HO.tup [V.ref mA])))
  have g5 := q6 _ _ (upd_same (H := upd (upd (upd (upd H6 p1 (.tup [])) p2 (.lst [V.int 1])) p3 (.dK [])) p4 (.tup [V.ref mA])) (a := p5) (o := HO.lst [V.ref mA]))
  have g0 : (upd (upd (upd (upd (upd (upd H6 p1 (.tup [])) p2 (.lst [V.int 1])) p3 (.dK [])) p4 (.tup [V.ref mA])) p5 (.lst [V.ref mA])) p (.lst ms)) p = some (.lst ms) := upd_same
  generalize (upd (upd (upd (upd (upd (upd H6 p1 (.tup [])) p2 (.lst [V.int 1])) p3 (.dK [])) p4 (.tup [V.ref mA])) p5 (.lst [V.ref mA])) p (.lst ms)) = H7 at s7 g0 g1 g2 g3 g4 g5 ⊢
  clear q1 q2 q3 q4 q5 q6 n1 n2 n3 n4 n5
  have lms : ms.length = 12 := by rw [← eth] <;> rfl
  have npd : p ≠ d := fun z => by
    obtain ⟨a, m', c', _, _, e⟩ := hd6
    have e2 := s7 d _ e
    rw [← z, g0] at e2
    have e3 : ms = [V.int a, V.int m', V.int c'] := by injection (Option.some.inj e2)
    rw [e3] at lms
    cases lms
  have T7 := T6.same s7
  have hd7 := hd6.same s7
  refine ⟨d, p, ms, rfl, Ne.symm npd, SqL.of g0, by omega, by omega, hd7, fun v H8 hv b8 hd8 => ?_⟩
  obtain ⟨y, odd7⟩ : ∃ y, OddB H7 mA k v y := by
    rw [← eth] at hv
    simp only [List.mem_cons, List.not_mem_nil, or_false] at hv
    rcases hv with rfl | rfl | rfl | rfl | rfl | rfl | rfl | rfl | rfl | rfl | rfl | rfl
    · exact ⟨_, .data .non⟩
    · exact ⟨_, .data (.int (by decide +kernel))⟩
    · exact ⟨_, .data (.bl _)⟩
    · exact ⟨_, .data (.str (by decide +kernel))⟩
    · exact ⟨_, .data (.tup0 g1)⟩
    · exact ⟨_, .data (.lst1 g2)⟩
    · exact ⟨_, .data (.dct0 g3)⟩
    · exact ⟨_, .data (.str (by decide +kernel))⟩
    · exact ⟨_, .tup g4⟩
    · exact ⟨_, .lst g5⟩
    · exact ⟨_, .data (.int (by decide +kernel))⟩
    · exact ⟨_, .data (.int (by decide +kernel))⟩
  have T8 := T7.kp hd7 (Kp.but b8)
  have odd8 := odd7.kp hd7 (Kp.but b8)
  have tb8 := tabs_deck (tb6.ext s7) hd7 b8
  have kp8 := (kp6.trans (Kp.same s7)).trans (Kp.but b8)
  clear g1 g2 g3 g4 g5 g0 eth lms npd T7 hd7 odd7 s7 b8 hv T6 tb6 hd6 kp6
  have ok := odd8.ok T8.l1 T8.l2
  -- the answers
  refine ⟨tb8, fun H9 e9 t9 => ?_⟩
  refine ⟨_, rfl, _, rfl, lam_op D in_ops0 (odd8.kp hd8 (Kp.ext e9)) (T8.kp hd8 (Kp.ext e9)) fun pa H10 s10 hp10 => ?_⟩
  have hd10 := (deck_ext hd8 e9).same s10
  have k10 := (Kp.ext (d := d) e9).trans (Kp.same s10)
  refine ⟨(by show 1 ≤ sizeLine; decide), fun l nl => ?_⟩
  have ld : l ≠ d := fun z => by
    obtain ⟨_, _, _, _, _, e⟩ := hd10
    rw [← z, nl] at e
    cases e
  have fr : ∀ c o, H8 c = some o → c ≠ d → isTbl o = false → c ≠ l := fun c o h n i => ne_of_none (k10 c o n i h) nl
  have s11 := same_new nl (.lst [V.ref pa])
  have A1 : Ans d (tabsOf TP) H8 l y (upd H10 l (.lst [V.ref pa])) [pa] := ⟨k10.trans (Kp.same s11), hd10.same s11, (t9.ext s10).ext s11, upd_same, fun x hx => by rw [List.mem_singleton.mp hx]; exact s11 _ _ hp10⟩
  generalize upd H10 l (.lst [V.ref pa]) = G1 at A1 ⊢
  clear s11 nl k10 hd10 hp10 s10 e9 t9
  refine ⟨_, rfl, .inl ⟨rfl, _, SqL.of A1.at_⟩, A1.tab, fun H9 e9 t9 => ⟨_, rfl, _, rfl, lam_op D in_ops1 (odd8.kp hd8 (A1.kp.trans (Kp.ext e9))) (T8.kp hd8 (A1.kp.trans (Kp.ext e9))) fun pb H10 s10 hp10 => ?_⟩⟩
  obtain ⟨hl, A2⟩ := A1.more ld fr e9 t9 s10 hp10
  refine ⟨l, _, .ref pb, rfl, rfl, hl, (by show 1 < sizeLine; decide), ?_⟩
  generalize upd H10 l (.lst (([pa] : List Addr).map V.ref ++ [V.ref pb])) = G2 at A2 ⊢
  clear hl hp10 s10 e9 t9 A1
  refine ⟨_, rfl, .inl ⟨rfl, _, SqL.of A2.at_⟩, A2.tab, fun H9 e9 t9 => ⟨_, rfl, _, rfl, lam_op D in_ops2 (odd8.kp hd8 (A2.kp.trans (Kp.ext e9))) (T8.kp hd8 (A2.kp.trans (Kp.ext e9))) fun pc H10 s10 hp10 => ?_⟩⟩
  obtain ⟨hl, A3⟩ := A2.more ld fr e9 t9 s10 hp10
  refine ⟨l, _, .ref pc, rfl, rfl, hl, (by show 2 < sizeLine; decide), ?_⟩
  generalize upd H10 l (.lst ((([pa] ++ [pb]) : List Addr).map V.ref ++ [V.ref pc])) = G3 at A3 ⊢
  clear hl hp10 s10 e9 t9 A2
  refine ⟨_, rfl, .inl ⟨rfl, _, SqL.of A3.at_⟩, A3.tab, fun H9 e9 t9 => ⟨_, rfl, _, rfl, lam_op D in_ops3 (odd8.kp hd8 (A3.kp.trans (Kp.ext e9))) (T8.kp hd8 (A3.kp.trans (Kp.ext e9))) fun pd H10 s10 hp10 => ?_⟩⟩
  obtain ⟨hl, A4⟩ := A3.more ld fr e9 t9 s10 hp10
  refine ⟨l, _, .ref pd, rfl, rfl, hl, (by show 3 < sizeLine; decide), ?_⟩
  generalize upd H10 l (.lst ((([pa] ++ [pb] ++ [pc]) : List Addr).map V.ref ++ [V.ref pd])) = G4 at A4 ⊢
  clear hl hp10 s10 e9 t9 A3
  -- all four are due
  have odd9 := odd8.kp hd8 A4.kp
  have T9 := T8.kp hd8 A4.kp
  have np : PyData.strOk "NotPlaces" = true := by decide +kernel
  have ip : PyData.strOk "InvalidNumber" = true := by decide +kernel
  refine ⟨_, rfl, _, rfl, odd9.repr T9 fun H11 s11 => ⟨(by show 2 ≤ sizeLine; decide), fun t nt => ⟨(by show 1 ≤ sizeLine; decide), fun y1 ny1 => ?_⟩⟩⟩
  refine ⟨y1, 4, _, rfl, rfl, upd_same, by decide, by decide, (by show 1 * 4 ≤ sizeLine; decide), fun y2 ny2 => ?_⟩
  have s12 := same_new nt (.tup [V.str "NotPlaces", .str y])
  have s13 := same_new ny1 (.lst [V.ref t])
  have s14 := same_new ny2 (.lst (List.replicate (4 : Int).toNat [V.ref t]).flatten)
  have s15 := (s11.trans s12).trans (s13.trans s14)
  have ht : (upd (upd (upd H11 t (.tup [V.str "NotPlaces", .str y])) y1 (.lst [V.ref t])) y2 (.lst (List.replicate (4 : Int).toNat [V.ref t]).flatten)) t = some (.tup [V.str "NotPlaces", .str y]) := s14 _ _ (s13 _ _ upd_same)
  have hy2 : (upd (upd (upd H11 t (.tup [V.str "NotPlaces", .str y])) y1 (.lst [V.ref t])) y2 (.lst (List.replicate (4 : Int).toNat [V.ref t]).flatten)) y2 = some (.lst [V.ref t, .ref t, .ref t, .ref t]) := upd_same
  generalize (upd (upd (upd H11 t (.tup [V.str "NotPlaces", .str y])) y1 (.lst [V.ref t])) y2 (.lst (List.replicate (4 : Int).toNat [V.ref t]).flatten)) = H15 at s15 ht hy2 ⊢
  clear s11 s12 s13 s14 nt ny1 ny2
  have pr : ∀ {H : Hp} {p : Addr} {x y : Str}, H p = some (.tup [.str x, .str y]) → Dq H (.ref p) (.tuple [.str x, .str y]) := fun e => .tup e (.cons (.str _) (.cons (.str _) .nil))
  have each := fun x hx => s15 _ _ (A4.each x hx)
  refine ⟨_, _, .lst (s15 _ _ A4.at_) (.cons (pr (each pa (by simp))) (.cons (pr (each pb (by simp))) (.cons (pr (each pc (by simp))) (.cons (pr (each pd (by simp))) .nil)))), .lst hy2 (.cons (pr ht) (.cons (pr ht) (.cons (pr ht) (.cons (pr ht) .nil)))), shaped_four np ok.1, shaped_four np ok.1, _, rfl, ?_⟩
  rw [eqv_same (shaped_four np ok.1)]
  refine iteF ?_
  have T15 := T9.same s15
  have kp15 := (kp8.trans A4.kp).trans (Kp.same s15)
  have tb15 := A4.tab.ext s15
  have hd15 := A4.deck.same s15
  clear each ht hy2 pr s15 odd9 T9 A4 odd8 T8 tb8 kp8 hd8 ok ld fr
  obtain ⟨dx, ha⟩ := id T15.pl
  refine ⟨_, rfl, mA, dx, _, rfl, ha, mA, k, rfl, T15.pl, ft, fl1, fl2, fun H16 s16 => ⟨_, rfl, ?_⟩⟩
  refine ⟨_, rfl, rfl, _, rfl, ?_⟩
  rw [ne0]
  refine iteF ?_
  have T16 := T15.same s16
  have kp16 := kp15.trans (Kp.same s16)
  have tb16 := tb15.ext s16
  have hd16 := hd15.same s16
  clear T15 kp15 tb15 hd15 s16 ha
  -- a beginning
  refine ⟨_, rfl, _, rfl, (by show 1 ≤ sizeLine; decide), fun p1 n1 => ⟨(by show 0 ≤ sizeLine; decide), fun p2 n2 => fun p3 n3 => ⟨_, _, rfl, rfl, ⟨by decide, by decide, by decide⟩, _, rfl, (by show 10 ≤ sizeLine; decide), fun p n => ?_⟩⟩⟩
  obtain ⟨ms, eth⟩ : ∃ k : List V, ([V.int (-1), .non, .bl true, .bl false, .str "0", .ref p1, .ref p2, .ref p3, .int (-(10 ^ (30 : Int).toNat)), .str "x"] : List V) = k := ⟨_, rfl⟩
  rw [eth]
  have q1 := same_new n1 (.tup [V.int 0])
  have q2 := same_new n2 (.lst [])
  have q3 := same_new n3 (.dK [])
  have q6 := same_new n (.lst ms)
  have s7 := q1.trans (q2.trans (q3.trans q6))
  have g1 := q6 _ _ (q3 _ _ (q2 _ _ (upd_same (H := H16) (a := p1) (o := HO.tup [V.int 0]))))
  have g2 := q6 _ _ (q3 _ _ (upd_same (H := upd H16 p1 (.tup [V.int 0])) (a := p2) (o := HO.lst [])))
  have g3 := q6 _ _ (upd_same (H := upd (upd H16 p1 (.tup [V.int 0])) p2 (.lst [])) (a := p3) (o := HO.dK []))
  have g0 : (upd (upd (upd (upd H16 p1 (.tup [V.int 0])) p2 (.lst [])) p3 (.dK [])) p (.lst ms)) p = some (.lst ms) := upd_same
  generalize (upd (upd (upd (upd H16 p1 (.tup [V.int 0])) p2 (.lst [])) p3 (.dK [])) p (.lst ms)) = H17 at s7 g0 g1 g2 g3 ⊢
  clear q1 q2 q3 q6 n1 n2 n3 n
  have lms : ms.length = 10 := by rw [← eth] <;> rfl
  have npd : p ≠ d := fun z => by
    obtain ⟨a, m', c', _, _, e⟩ := hd16
    have e2 := s7 d _ e
    rw [← z, g0] at e2
    have e3 : ms = [V.int a, V.int m', V.int c'] := by injection (Option.some.inj e2)
    rw [e3] at lms
    cases lms
  have T17 := T16.same s7
  have hd17 := hd16.same s7
  refine ⟨d, p, ms, rfl, Ne.symm npd, SqL.of g0, by omega, by omega, hd17, fun v2 H18 hv b18 hd18 => ?_⟩
  obtain ⟨dt, odd17, neg⟩ : ∃ dt, OddA H17 v2 dt ∧ ∀ i, v2 = .int i → i < 0 := by
    rw [← eth] at hv
    simp only [List.mem_cons, List.not_mem_nil, or_false] at hv
    rcases hv with rfl | rfl | rfl | rfl | rfl | rfl | rfl | rfl | rfl | rfl
    · exact ⟨_, .int (by decide +kernel), fun i e => by cases e; decide⟩
    · exact ⟨_, .non, fun i e => nomatch e⟩
    · exact ⟨_, .bl _, fun i e => nomatch e⟩
    · exact ⟨_, .bl _, fun i e => nomatch e⟩
    · exact ⟨_, .str (by decide +kernel), fun i e => nomatch e⟩
    · exact ⟨_, .tup1 (by decide +kernel) g1, fun i e => nomatch e⟩
    · exact ⟨_, .lst0 g2, fun i e => nomatch e⟩
    · exact ⟨_, .dct0 g3, fun i e => nomatch e⟩
    · refine ⟨_, .int (by decide +kernel), fun i e => ?_⟩
      have e2 : i = -(10 ^ (30 : Int).toNat) := (V.int.inj e).symm
      have big : (10 : Int) ^ (30 : Int).toNat = 1000000000000000000000000000000 := by decide +kernel
      omega
    · exact ⟨_, .str (by decide +kernel), fun i e => nomatch e⟩
  have T18 := T17.kp hd17 (Kp.but b18)
  have odd18 := odd17.kp hd17 (Kp.but b18)
  have tb18 := tabs_deck (tb16.ext s7) hd17 b18
  have kp18 := (kp16.trans (Kp.same s7)).trans (Kp.but b18)
  clear g1 g2 g3 g0 eth lms npd T17 hd17 odd17 s7 b18 hv T16 tb16 hd16 kp16
  -- it is asked for a member
  refine ⟨tb18, fun H19 e19 t19 => fun r hr => ?_⟩
  have k19 : Kp d H18 (upd H19 r (.rng 0 1)) := (Kp.ext e19).trans (Kp.same (same_new hr _))
  have odd19 := odd18.kp hd18 k19
  have T19 := T18.kp hd18 k19
  obtain ⟨dx, ha⟩ := id T19.pl
  refine ⟨_, rfl, mA, dx, _, rfl, ha, rfl, _, rfl, _, rfl, upd_same, zip_only odd19 neg, .inl ⟨rfl, fun cl dd H' z => ?_⟩⟩
  obtain ⟨rfl, ddx, rfl, hdd, rfl⟩ := z
  refine (tells_odd (CN := CN) (CP := CP) (nm := "InvalidNumber") List.mem_cons_self odd19 fun pe H20 s20 hp20 => ?_).here ddx hdd
  have k20 := k19.trans (Kp.same s20)
  have t20 : Tabs (tabsOf TP) H20 := (t19.ext (same_new hr _)).ext s20
  have hd20 : DeckAt H20 d := ((deck_ext hd18 e19).same (same_new hr _)).same s20
  have odd20 := odd18.kp hd18 k20
  have T20 := T18.kp hd18 k20
  clear k19 odd19 T19 ha e19 t19 hr hdd s20
  have ft2 := odd20.fits
  have sh2 := shaped_due ip ft2.ok
  refine ⟨_, rfl, .inl ⟨v2, dt, rfl, odd20.dq, ft2.s, ft2.dep, ft2.line, (by show 2 ≤ sizeLine; decide), fun t nt => ?_⟩⟩
  have s21 := same_new nt (.tup [V.str "InvalidNumber", .str dt.shown])
  have ht : (upd H20 t (.tup [V.str "InvalidNumber", .str dt.shown])) t = some (.tup [V.str "InvalidNumber", .str dt.shown]) := upd_same
  have pr : ∀ {H : Hp} {p : Addr} {x y : Str}, H p = some (.tup [.str x, .str y]) → Dq H (.ref p) (.tuple [.str x, .str y]) := fun e => .tup e (.cons (.str _) (.cons (.str _) .nil))
  generalize upd H20 t (.tup [V.str "InvalidNumber", .str dt.shown]) = H21 at s21 ht ⊢
  refine ⟨_, _, pr (s21 _ _ hp20), pr ht, sh2, sh2, _, rfl, ?_⟩
  rw [eqv_same sh2]
  refine iteF ?_
  -- it is not
  have k21 := k20.trans (Kp.same s21)
  have t21 := t20.ext s21
  have hd21 := hd20.same s21
  have odd21 := odd20.same s21
  have T21 := T20.same s21
  clear k20 t20 hd20 odd20 T20 s21 ht hp20 sh2 nt
  refine ⟨t21, fun H22 e22 t22 => fun r hr => ?_⟩
  have k22 : Kp d H21 (upd H22 r (.rng 0 0)) := (Kp.ext e22).trans (Kp.same (same_new hr _))
  have odd22 := odd21.kp hd21 k22
  have T22 := T21.kp hd21 k22
  obtain ⟨dx, ha⟩ := id T22.pl
  refine ⟨_, rfl, mA, dx, _, rfl, ha, rfl, _, rfl, _, rfl, upd_same, zip_only odd22 neg, .inr ⟨rfl, fun pl hpl => ⟨_, rfl, (by show 2 ≤ sizeLine; decide), fun pe hpe => ?_⟩⟩⟩
  have s23 := (same_new hpl (.lst [])).trans (same_new hpe (.tup [V.str "told", .ref pl]))
  have hpe2 : upd (upd (upd H22 r (.rng 0 0)) pl (.lst [])) pe (.tup [V.str "told", .ref pl]) pe = some (.tup [V.str "told", .ref pl]) := upd_same
  have hpl2 : upd (upd (upd H22 r (.rng 0 0)) pl (.lst [])) pe (.tup [V.str "told", .ref pl]) pl = some (.lst []) := upd_other upd_same hpe
  have k23 := k22.trans (Kp.same s23)
  have t23 := (t22.ext (same_new hr (.rng 0 0))).ext s23
  have T23 := T22.same s23
  generalize upd (upd (upd H22 r (.rng 0 0)) pl (.lst [])) pe (.tup [V.str "told", .ref pl]) = H23 at s23 hpe2 hpl2 k23 t23 T23 ⊢
  clear s23 hpe hpl hr k22 t22 odd22 T22 ha e22
  refine ⟨(by show 0 ≤ sizeLine; decide), fun pm hpm => ⟨(by show 2 ≤ sizeLine; decide), fun pt hpt => ?_⟩⟩
  have s24 := (same_new hpm (.lst [])).trans (same_new hpt (.tup [V.str "told", .ref pm]))
  have hpt2 : upd (upd H23 pm (.lst [])) pt (.tup [V.str "told", .ref pm]) pt = some (.tup [V.str "told", .ref pm]) := upd_same
  have hpm2 : upd (upd H23 pm (.lst [])) pt (.tup [V.str "told", .ref pm]) pm = some (.lst []) := upd_other upd_same hpt
  generalize upd (upd H23 pm (.lst [])) pt (.tup [V.str "told", .ref pm]) = H24 at s24 hpt2 hpm2 ⊢
  refine ⟨.tuple [.str "told", .list []], .tuple [.str "told", .list []], .tup (s24 _ _ hpe2) (.cons (.str _) (.cons (.lst (s24 _ _ hpl2) .nil) .nil)), .tup hpt2 (.cons (.str _) (.cons (.lst hpm2 .nil) .nil)), shaped_told0, shaped_told0, ?_⟩
  rw [eqv_same shaped_told0]
  refine ⟨_, rfl, iteT ?_⟩
  have T24 := T23.same s24
  obtain ⟨dx, ha⟩ := id T24.pl
  refine ⟨_, rfl, mA, dx, _, rfl, ha, mA, k, rfl, T24.pl, ft, fl1, fl2, fun H25 s25 => ⟨_, rfl, ?_⟩⟩
  refine ⟨_, rfl, rfl, ?_⟩
  rw [decide_eq_true rfl]
  exact q H25 ((((kp18.trans k21).trans k23).trans (Kp.same s24)).trans (Kp.same s25)) ((t23.ext s24).ext s25)
end
end Wp

namespace Wp
open PySem PySem.Spec PyProof.Rows L2 Hx LamX
theorem seq_join {t u : TS} {D : Ends} {σ : L2.St} {H : Hp} (R : L2.St → Hp → Prop) (h : ∀ D' : Ends, (∀ σ' H', R σ' H' → D'.nx σ' H') → t D' σ H) (hq : ∀ σ' H', R σ' H' → u D σ' H') : tSeq t u D σ H := h _ hq
theorem nx_set {v : V} {i : Nat} {u : TS} {D D' : Ends} {σ : L2.St} {H : Hp} (h : u D (σ.set i (some v)) H) : Ends.nx { D' with nx := tSeq (tAsg (tC v) (gName i)) u D } σ H := h
theorem caught_of {C : Addr} {sp : Sp} {L : List (Str × Addr)} {tl : (XK → Hp → VK → Prop)} {H : Hp} {Q : VK} (h : tl (CaughtN C sp L Q) H (ToldQ Q)) : TCaughtN C sp L tl H Q := h
/-- what else the law's main def rests on -/
structure DD (P : Program) (w : World) (K : PySem.W.Frag) (mg : Str → Option Value) (base : Heap) (C CN : Addr) : Prop where
  value : ∃ f fd, FnOk P w K mg base CX0 3 f fd ["_law_deck_here", "_law_least", "_law_most"] spValue ∧ Binds K fd ["_law_deck_here", "_law_least", "_law_most"] [] ∧ PySem.W.keepIn K (.ref f) = true ∧ mg "_law_value" = some (.ref f)
  due : ∃ f fd, GOk P w K mg base CX0 1 f fd ["_law_pairs"] spDue ∧ Binds K fd ["_law_pairs"] [] ∧ PySem.W.keepIn K (.ref f) = true ∧ mg "_law_due" = some (.ref f)
  isdue : ∃ f fd, GOk P w K mg base CX0 9 f fd ["_law_told", "_law_pairs", "_law_made"] (spIsDue C) ∧ Binds K fd ["_law_told", "_law_pairs", "_law_made"] [] ∧ PySem.W.keepIn K (.ref f) = true ∧ mg "_law_is_due" = some (.ref f)
  numsL : ∃ f fd, FnOk P w K mg base (L2N.CX P w) 8 f fd ["_law_members"] (spNumsLX K C CN) ∧ Binds K fd ["_law_members"] [] ∧ PySem.W.keepIn K (.ref f) = true ∧ mg "_law_numbers" = some (.ref f)
/-- the due answer of a call -/
def DueAt (C : Addr) (L : List Ent) (m : Str) (H : Hp) (t : Addr) : Prop := (wrongs L ≠ [] ∧ H t = some (.tup (dueV L))) ∨ (wrongs L = [] ∧ ∃ (a : Addr) (k : Mk.Kept), H t = some (.tup [.str "told", .ref a]) ∧ PlAt C H a k ∧ k.Fit ∧ Mk.len k.st ≤ 1400 ∧ k.w ≤ 1400 ∧ m = lineOf k)
theorem line0 (x p : Nat) : ((((("Places(0 below " : Str) ++ toString (x : Int)) ++ ", 1 of ") ++ toString (p : Int)) ++ ")") = lineP 0 x 1 p := by
  have e1 : (("Places(" : Str) ++ toString ((0 : Nat) : Int)) ++ " below " = "Places(0 below " := by decide +kernel
  have e2 : ((", " : Str) ++ toString ((1 : Nat) : Int)) ++ " of " = ", 1 of " := by decide +kernel
  unfold lineP
  rw [← e1, ← e2]
  simp only [PySem.Str.append_assoc]
/-- steps(begin, pace) tells what is due -/
theorem lam_steps {K : PySem.W.Frag} {C CN CP : Addr} {H : Hp} {Q : VK} {v1 v2 : V} {b1 b2 : Bool} {d1 d2 : PyData} {m : Str} (h1 : Val H 0 1000 v1 b1 d1) (h2 : Val H 1 12 v2 b2 d2)
    (hm : ∀ b p : Nat, v1 = .int (b : Int) → v2 = .int (p : Int) → b1 = true → b2 = true → m = lineP 0 (b + 1 - p) 1 p)
    (q : ∀ t H', Same H H' → DueAt C [(v1, b1, d1), (v2, b2, d2)] m H' t → Q (.ref t) H') : spStepsX K C CN [v1, v2] H (ToldQ Q) (CaughtN C (spReprP C) (errs CN CP) Q) := by
  refine ⟨v1, v2, rfl, ?_⟩
  cases h1 with
  | bad o n _ => exact .inr (.inl ⟨o.badIn n, (tells_odd List.mem_cons_self o fun t H' s ht => q t H' s (.inl ⟨(fun z => nomatch z), ht⟩)).here⟩)
  | good b l1 l2 =>
    cases h2 with
    | bad o n _ => exact .inr (.inr ⟨_, rfl, by omega, by omega, o.badIn n, (tells_odd List.mem_cons_self o fun t H' s ht => q t H' s (.inl ⟨(fun z => nomatch z), ht⟩)).here⟩)
    | good p p1 p2 =>
      refine .inl ⟨b, p, rfl, rfl, by omega, by omega, by omega, fun a k H' s pl is => told_of fun t ht => ?_⟩
      have s2 := same_new ht (.tup [V.str "told", .ref a])
      refine q t _ (s.trans s2) (.inr ⟨rfl, a, k, upd_same, pl.same s2, fit_steps is (by omega) (by omega) (by omega), by rw [len_steps is (by omega)]; omega, by rw [is.w]; omega, ?_⟩)
      rw [line_steps is (by omega)]
      exact hm b p rfl rfl rfl rfl
section
variable {P : Program} {w : World} {K : PySem.W.Frag} {mg : Str → Option Value} {base : Heap} {f C CN CP c TP : Addr}
theorem right_b (D : DC P w K mg base C CN CP c TP) (D2 : DD P w K mg base C CN) {A : Around} {outer : List Env} {s : Shared} {H0 : Hp} {E : XK} (hr : Room 12 (A.deeper (envOfC "_law_right" (defScope s_law_right) s.heap.objs.size f (.ref c)))) (gd : A.guards = some []) :
    ∃ t2, PSs (cxOf CX0 P w K mg base NR "_law_right" (defScope s_law_right) f (.ref c) A outer s H0 E).nox ((defBody s_law_right).drop 6) t2 ∧
      ∀ (Dn : Ends) (d : Addr) (o1 o2 o3 o4 o5 o6 o7 o8 o9 o10 o11 o12 o13 o14 : Option V) (H : Hp), DeckAt H d → Tabs (tabsOf TP) H → (∀ H', Kp d H H' → Tabs (tabsOf TP) H' → Dn.rt (.bl true) H') →
        t2 Dn [some (.ref d), o1, o2, o3, o4, o5, o6, o7, o8, o9, o10, o11, o12, o13, o14] H := by
  obtain ⟨t2, ht2, rest⟩ := right_c D (A := A) (outer := outer) (s := s) (H0 := H0) (E := E) (f := f) hr gd
  obtain ⟨fV, fdV, GV, bV, kV, mV⟩ := D2.value
  obtain ⟨fD, fdD, GD, bD, kD, mD⟩ := D2.due
  obtain ⟨fI, fdI, GI, bI, kI, mI⟩ := D2.isdue
  obtain ⟨fS, fdS, _, GS, bS, kbS, kS, mS⟩ := D.steps
  have r1 := hr.mono (by decide : 1 ≤ 12)
  have r3 := hr.mono (by decide : 3 ≤ 12)
  have r9 := hr.mono (by decide : 9 ≤ 12)
  refine ⟨_, pss_cons (ps_set (i := 1) scRight.nd rfl (Or.inl rfl) (pe_lst (pa_cons (pe_call GV r3 rfl mV kV bV .nil pass0 (pa_cons (pv 0) (pa_cons pe_int (pa_cons pe_int pa_nil)))) (pa_cons (pe_call GV r3 rfl mV kV bV .nil pass0 (pa_cons (pv 0) (pa_cons pe_int (pa_cons pe_int pa_nil)))) pa_nil))))
    (pss_cons (ps_asg (pe_tup (pa_cons (pe_ix ix_tup (pe_ix ix_list (pv 1) pe_int (fun _ _ => rfl)) pe_int (fun _ _ => rfl)) (pa_cons (pe_ix ix_tup (pe_ix ix_list (pv 1) pe_int (fun _ _ => rfl)) pe_int (fun _ _ => rfl)) pa_nil)))
        (pg_tup (by rfl) (pgs_cons (pg_name (i := 6) scRight.nd rfl (Or.inr rfl)) (pgs_cons (pg_name (i := 7) scRight.nd rfl (Or.inr rfl)) pgs_nil))))
    (pss_cons (ps_set (i := 5) scRight.nd rfl (Or.inl rfl) pe_str)
    (pss_cons (ps_if (pt_cmpR (op_eqQ hr.units) (pe_callG GD r1 gd rfl mD kD bD .nil pass0 (pa_cons (pv 1) pa_nil)) (pe_tup pa_nil) (nomark _))
        (pss_one (ps_set (i := 5) scRight.nd rfl (Or.inl rfl) (pe_op op_add_str (pe_op op_add_str (pe_op op_add_str (pe_op op_add_str pe_str
          (pe_callTy call_str_int (by rfl) D.bp.str (by decide +kernel) (pa_cons (pe_callB (call_max2 rfl) (by rfl) D.bp.max PyProof.Rows.boot_max (pa_cons pe_int (pa_cons (pe_op op_sub (pe_op op_add (pv 6) pe_int) (pv 7)) pa_nil))) pa_nil))) pe_str)
          (pe_callTy call_str_int (by rfl) D.bp.str (by decide +kernel) (pa_cons (pv 7) pa_nil))) pe_str))) pss_nil)
    (pss_cons (ps_if (pt_not (pt_val (pe_callG GI r9 gd rfl mI kI bI .nil pass0 (pa_cons (pe_cau D.dl rfl rfl rfl gd hr (lamS_by (sc := defScope s_law_right) (by decide +kernel)) rfl (fun _ _ _ _ _ => rfl) (fun A outer s H E f c' hr2 =>
        pe_call GS (hr2.mono (show 7 ≤ 10 by decide)) rfl mS kS bS .nil (L2N.passes_call (L2N.takes_of rfl rfl rfl rfl) (fun _ _ _ _ h => h)) (pa_cons (pv 6) (pa_cons (pv 7) pa_nil)))) (pa_cons (pv 1) (pa_cons (pv 5) pa_nil)))))) (pss_one (ps_ret pe_bl)) pss_nil)
    (pss_cons (ps_if (pt_not (pt_val (pe_callG GI r9 gd rfl mI kI bI .nil pass0 (pa_cons (pe_cau D.dl rfl rfl rfl gd hr (lamS_by (sc := defScope s_law_right) (by decide +kernel)) rfl (fun _ _ _ _ _ => rfl) (fun A outer s H E f c' hr2 =>
        pe_callK0 GS (hr2.mono (show 7 ≤ 10 by decide)) rfl mS kS kbS (L2N.passes_call (L2N.takes_of rfl rfl rfl rfl) (fun _ _ _ _ h => h)) (pk_cons (pv 7) (pk_cons (pv 6) pk_nil)))) (pa_cons (pv 1) (pa_cons (pv 5) pa_nil)))))) (pss_one (ps_ret pe_bl)) pss_nil)
    ht2))))), ?_⟩
  intro Dn d o1 o2 o3 o4 o5 o6 o7 o8 o9 o10 o11 o12 o13 o14 H hd tb q
  refine ⟨_, rfl, d, 0, 1000, rfl, .inl ⟨rfl, rfl⟩, hd, fun p1 v1 b1 dt1 H1 bt1 hd1 np1 hp1 val1 => ⟨_, rfl, d, 1, 12, rfl, .inr ⟨rfl, rfl⟩, hd1, fun p2 v2 b2 dt2 H2 bt2 hd2 np2 hp2 val2 => ⟨(by show 2 ≤ sizeLine; decide), fun l nl => ?_⟩⟩⟩
  have ld : l ≠ d := fun z => by
    obtain ⟨_, _, _, _, _, e⟩ := hd2
    rw [← z, nl] at e
    cases e
  have s3 := same_new nl (.lst [V.ref p1, .ref p2])
  have val1 := (val1.but hd1 bt2).same s3
  have val2 := val2.same s3
  have hp1 := s3 _ _ (bt2 _ _ np1 hp1)
  have hp2 := s3 _ _ hp2
  have hl : (upd H2 l (.lst [V.ref p1, .ref p2])) l = some (.lst [V.ref p1, .ref p2]) := upd_same
  have kp3 : Kp d H (upd H2 l (.lst [V.ref p1, .ref p2])) := ((Kp.but bt1).trans (Kp.but bt2)).trans (Kp.same s3)
  have tb3 := (tabs_deck (tabs_deck tb hd bt1) hd1 bt2).ext s3
  have hd3 := hd2.same s3
  generalize upd H2 l (.lst [V.ref p1, .ref p2]) = H3 at s3 val1 val2 hp1 hp2 hl kp3 tb3 hd3 ⊢
  clear s3 nl hd2 hd1 bt1 bt2 tb hd
  have bad : ∀ {l m : Int} {v : V} {b : Bool} {dt : PyData}, Val H3 l m v b dt → b = false → OddA H3 v dt := fun {l m v b dt} h e => by
    cases h with
    | good => cases e
    | bad o _ _ => exact o
  have pairs : PairsAt H3 [V.ref p1, .ref p2] [(v1, b1, dt1), (v2, b2, dt2)] := ⟨rfl, fun i x hx => by
    match i, hx with
    | 0, hx => cases hx; exact ⟨_, rfl, p1, rfl, hp1, bad val1⟩
    | 1, hx => cases hx; exact ⟨_, rfl, p2, rfl, hp2, bad val2⟩⟩
  -- begin, pace
  refine ⟨_, rfl, l, _, 0, _, rfl, rfl, SqL.of hl, atI_nat (j := 0) rfl, p1, _, 0, _, rfl, rfl, SqT.of hp1, atI_nat (j := 0) rfl, ?_⟩
  refine ⟨_, rfl, l, _, 1, _, rfl, rfl, SqL.of hl, atI_nat (j := 1) rfl, p2, _, 0, _, rfl, rfl, SqT.of hp2, atI_nat (j := 0) rfl, ?_⟩
  refine ⟨(by show 2 ≤ sizeLine; decide), fun t nt => ⟨t, _, rfl, SqT.of upd_same, rfl, _, _, rfl, _, _, rfl, rfl, ?_⟩⟩
  have s4 := same_new nt (.tup [v1, v2])
  have val1 := val1.same s4
  have val2 := val2.same s4
  have hl := s4 _ _ hl
  have pairs := pairs.same s4
  have kp4 := kp3.trans (Kp.same s4)
  have tb4 := tb3.ext s4
  have hd4 := hd3.same s4
  generalize upd H3 t (.tup [v1, v2]) = H4 at s4 val1 val2 hl pairs kp4 tb4 hd4 ⊢
  clear s4 nt kp3 tb3 hd3 hp1 hp2 bad
  -- what is made
  refine nx_set (seq_join (fun σ' H' => ∃ m : Str, σ' = [some (.ref d), some (.ref l), o2, o3, o4, some (.str m), some v1, some v2, o8, o9, o10, o11, o12, o13, o14] ∧ Same H4 H' ∧
      ∀ b p : Nat, v1 = .int (b : Int) → v2 = .int (p : Int) → b1 = true → b2 = true → m = lineP 0 (b + 1 - p) 1 p) (fun D' hD => ?_) ?_)
  · refine ⟨_, rfl, l, _, _, rfl, hl, pairs, (by show 2 ≤ 10; decide), fun r H5 s5 hr5 => ⟨(by show 0 ≤ sizeLine; decide), fun pt npt => ?_⟩⟩
    have s6 := s5.trans (same_new npt (.tup []))
    have hr6 := same_new npt (.tup []) _ _ hr5
    have hpt : upd H5 pt (.tup []) pt = some (.tup []) := upd_same
    generalize upd H5 pt (.tup []) = H6 at s6 hr6 hpt ⊢
    have len1 : ∀ n : Nat, n ≤ 1400 → (toString (n : Int) : Str).length ≤ 4 := fun n h => (num_ok n h).2
    cases hw : wrongs [(v1, b1, dt1), (v2, b2, dt2)] with
    | cons e es =>
      have od := wrong_fits (pairs.same s6) hw
      have dv : dueV [(v1, b1, dt1), (v2, b2, dt2)] = [.str "InvalidNumber", .str e.2.2.shown] := by unfold dueV; rw [hw]
      rw [dv] at hr6
      refine ⟨.tuple [.str "InvalidNumber", .str e.2.2.shown], .tuple [], .tup hr6 (.cons (.str _) (.cons (.str _) .nil)), .tup hpt .nil, shaped_due (by decide +kernel) od.fits.ok, rfl, _, rfl, iteF ?_⟩
      refine hD _ _ ⟨"", rfl, s6, fun b p e1 e2 e3 e4 => ?_⟩
      subst e3 e4
      cases hw
    | nil =>
      have dv : dueV [(v1, b1, dt1), (v2, b2, dt2)] = [] := by unfold dueV; rw [hw]
      rw [dv] at hr6
      refine ⟨.tuple [], .tuple [], .tup hr6 .nil, .tup hpt .nil, rfl, rfl, _, rfl, iteT ?_⟩
      cases val1 with
      | bad _ _ _ => cases hw
      | good b l1 l2 =>
        cases val2 with
        | bad _ _ _ => cases hw
        | good p p1 p2 =>
          refine ⟨_, rfl, _, _, rfl, rfl, _, rfl, _, _, rfl, rfl, _, _, rfl, ?_⟩
          have em : (if (b : Int) + 1 - (p : Int) > 0 then (b : Int) + 1 - (p : Int) else 0) = ((b + 1 - p : Nat) : Int) := by split <;> omega
          rw [em]
          have z1 := len1 (b + 1 - p) (by omega)
          have z2 := len1 p (by omega)
          have c1 : (Str.ofString "Places(0 below ").length = 15 := by decide +kernel
          have c2 : (Str.ofString ", 1 of ").length = 7 := by decide +kernel
          have c3 : (Str.ofString ")").length = 1 := by decide +kernel
          refine ⟨_, rfl, log_ok (by omega), _, _, rfl, rfl, ?_, _, _, rfl, rfl, ?_, _, rfl, _, rfl, log_ok (by omega), _, _, rfl, rfl, ?_, _, _, rfl, rfl, ?_, ?_⟩
          · rw [c1, sizeLine_eq]; omega
          · rw [PySem.Str.length_append, c1, c2, sizeLine_eq]; omega
          · rw [PySem.Str.length_append, PySem.Str.length_append, c1, c2, sizeLine_eq]; omega
          · rw [PySem.Str.length_append, PySem.Str.length_append, PySem.Str.length_append, c1, c2, c3, sizeLine_eq]; omega
          refine hD _ _ ⟨_, rfl, s6, fun b' p' e1 e2 _ _ => ?_⟩
          have eb : b = b' := Int.ofNat.inj (V.int.inj e1)
          have ep : p = p' := Int.ofNat.inj (V.int.inj e2)
          rw [← eb, ← ep]
          exact line0 _ _
  rintro σ' H5 ⟨m, rfl, s5, hm⟩
  have val1 := val1.same s5
  have val2 := val2.same s5
  have hl := s5 _ _ hl
  have pairs := pairs.same s5
  have kp5 := kp4.trans (Kp.same s5)
  have tb5 := tb4.ext s5
  have hd5 := hd4.same s5
  clear s5 kp4 tb4 hd4
  -- steps, twice
  refine ⟨tb5, fun H6 e6 t6 => caught_of ⟨_, rfl, _, rfl, lam_steps (val1.kp hd5 (Kp.ext e6)) (val2.kp hd5 (Kp.ext e6)) hm fun t H7 s7 due => ?_⟩⟩
  have k7 := (Kp.ext (d := d) e6).trans (Kp.same s7)
  refine ⟨_, rfl, _, rfl, t, l, m, _, _, rfl, k7 _ _ ld rfl hl, pairs.kp hd5 k7, (by show 2 ≤ 10; decide), due, fun H8 s8 => ⟨_, rfl, iteF ?_⟩⟩
  have k8 := k7.trans (Kp.same s8)
  have val1 := val1.kp hd5 k8
  have val2 := val2.kp hd5 k8
  have hl := k8 _ _ ld rfl hl
  have pairs := pairs.kp hd5 k8
  have kp8 := kp5.trans k8
  have tb8 := (t6.ext s7).ext s8
  have hd8 := ((deck_ext hd5 e6).same s7).same s8
  clear k8 k7 due s7 s8 e6 t6 kp5 tb5 hd5
  refine ⟨tb8, fun H6 e6 t6 => caught_of ⟨_, rfl, _, rfl, lam_steps (val1.kp hd8 (Kp.ext e6)) (val2.kp hd8 (Kp.ext e6)) hm fun t H7 s7 due => ?_⟩⟩
  have k7 := (Kp.ext (d := d) e6).trans (Kp.same s7)
  refine ⟨_, rfl, _, rfl, t, l, m, _, _, rfl, k7 _ _ ld rfl hl, pairs.kp hd8 k7, (by show 2 ≤ 10; decide), due, fun H9 s9 => ⟨_, rfl, iteF ?_⟩⟩
  have k9 := k7.trans (Kp.same s9)
  refine rest Dn d _ _ _ _ _ _ _ _ _ _ _ _ _ _ H9 (((deck_ext hd8 e6).same s7).same s9) ((t6.ext s7).ext s9) fun H' kk tt => q H' ((kp8.trans k9).trans kk) tt
end
end Wp

namespace Wp
open PySem PySem.Spec PyProof.Rows L2 Hx LamX
/-- a drawn pair -/
def PV (H : Hp) (x : V) (e : Ent) : Prop := ∃ t, x = .ref t ∧ H t = some (.tup [e.1, .bl e.2.1]) ∧ Val H 0 1000 e.1 e.2.1 e.2.2
def PVs (H : Hp) (xs : List V) (L : List Ent) : Prop := xs.length = L.length ∧ ∀ (i : Nat) (x : V), xs[i]? = some x → ∃ e, L[i]? = some e ∧ PV H x e
theorem OddA.upds {H : Hp} {v : V} {d : PyData} {D : Addr} {acc ys : List V} (h : OddA H v d) (ne : d ≠ .list []) (hD : H D = some (.lst acc)) (na : ∀ y ∈ acc, ∃ p, y = V.ref p) : OddA (upd H D (.lst ys)) v d := by
  have off : ∀ {p : Addr} {o : HO}, H p = some o → o ≠ .lst acc → upd H D (.lst ys) p = some o := fun {p o} e n => by
    rw [upd_ne fun z => by rw [z, hD] at e; exact n (Option.some.inj e).symm]
    exact e
  cases h with
  | non => exact .non
  | bl b => exact .bl b
  | int h => exact .int h
  | str h => exact .str h
  | tup0 h => exact .tup0 (off h fun z => nomatch z)
  | lst0 h => exact (ne rfl).elim
  | lst1 h =>
    refine .lst1 (off h fun z => ?_)
    have e : acc = [.int 1] := by cases z; rfl
    obtain ⟨p, hp⟩ := na (.int 1) (by rw [e]; exact List.mem_singleton.mpr rfl)
    cases hp
  | dct0 h => exact .dct0 (off h fun z => nomatch z)
  | tup1 f h => exact .tup1 f (off h fun z => nomatch z)
theorem PV.upds {H : Hp} {x : V} {e : Ent} {D : Addr} {acc ys : List V} (h : PV H x e) (hD : H D = some (.lst acc)) (na : ∀ y ∈ acc, ∃ p, y = V.ref p) : PV (upd H D (.lst ys)) x e := by
  obtain ⟨t, a, b, c⟩ := h
  obtain ⟨v, g, dt⟩ := e
  refine ⟨t, a, ?_, ?_⟩
  · rw [upd_ne fun z => by rw [z, hD] at b; cases b]
    exact b
  · dsimp only at c ⊢
    cases c with
    | good n l1 l2 => exact .good n l1 l2
    | bad o n ne => exact .bad (o.upds ne hD na) n ne
theorem PV.but {H H' : Hp} {x : V} {e : Ent} {d : Addr} (h : PV H x e) (hd : DeckAt H d) (s : But d H H') : PV H' x e := let ⟨t, a, b, c⟩ := h; ⟨t, a, s _ _ (deck_not hd b fun _ _ _ z => nomatch z) b, c.but hd s⟩
theorem PVs.refs {H : Hp} {xs : List V} {L : List Ent} (h : PVs H xs L) : ∀ y ∈ xs, ∃ p, y = V.ref p := fun y hy => by
  obtain ⟨i, hi⟩ := List.mem_iff_getElem?.mp hy
  obtain ⟨_, _, t, e, _⟩ := h.2 i y hi
  exact ⟨t, e⟩
theorem PVs.snoc {H : Hp} {xs : List V} {L : List Ent} {x : V} {e : Ent} (h : PVs H xs L) (p : PV H x e) : PVs H (xs ++ [x]) (L ++ [e]) := by
  refine ⟨by rw [List.length_append, List.length_append, h.1]; rfl, fun i y hy => ?_⟩
  by_cases c : i < xs.length
  · rw [List.getElem?_append_left c] at hy
    obtain ⟨e', he, pv⟩ := h.2 i y hy
    exact ⟨e', by rw [List.getElem?_append_left (by rw [← h.1]; exact c)]; exact he, pv⟩
  · rw [List.getElem?_append_right (by omega)] at hy
    have hi : i - xs.length = 0 := by
      have := (List.getElem?_eq_some_iff.mp hy).1
      rw [List.length_singleton] at this
      omega
    rw [hi] at hy
    cases hy
    exact ⟨e, by rw [List.getElem?_append_right (by rw [← h.1]; omega), ← h.1, hi]; rfl, p⟩
theorem PVs.pairs {H : Hp} {xs : List V} {L : List Ent} (h : PVs H xs L) : PairsAt H xs L := ⟨h.1, fun i x hx => by
  obtain ⟨⟨v, g, dt⟩, he, t, a, b, c⟩ := h.2 i x hx
  refine ⟨_, he, t, a, b, fun z => ?_⟩
  dsimp only at c z ⊢
  cases c with
  | good => cases z
  | bad o _ _ => exact o⟩
def LV (H : Hp) (L : List Ent) : Prop := ∀ e ∈ L, Val H 0 1000 e.1 e.2.1 e.2.2
theorem PVs.vals {H : Hp} {xs : List V} {L : List Ent} (h : PVs H xs L) : LV H L := fun e he => by
  obtain ⟨i, hi⟩ := List.mem_iff_getElem?.mp he
  have il : i < xs.length := by rw [h.1]; exact (List.getElem?_eq_some_iff.mp hi).1
  obtain ⟨e', he', _, _, _, c⟩ := h.2 i _ (List.getElem?_eq_getElem il)
  rw [hi] at he'
  cases he'
  exact c
theorem LV.same {H H' : Hp} {L : List Ent} (h : LV H L) (s : Same H H') : LV H' L := fun e he => (h e he).same s
theorem LV.kp {H H' : Hp} {L : List Ent} {d : Addr} (h : LV H L) (hd : DeckAt H d) (s : Kp d H H') : LV H' L := fun e he => (h e he).kp hd s
theorem goods {H : Hp} : ∀ {L : List Ent}, LV H L → ∃ gs : List Nat, (L.filter fun e => e.2.1).map (·.1) = nats gs ∧ (∀ g ∈ gs, g ≤ 1000) ∧ gs.length ≤ L.length
  | [], _ => ⟨[], rfl, fun _ h => (List.not_mem_nil h).elim, Nat.le_refl _⟩
  | (v, b, dt) :: r, h => by
    obtain ⟨gs, e1, e2, e3⟩ := goods (L := r) fun e he => h e (List.mem_cons_of_mem _ he)
    have v0 := h _ List.mem_cons_self
    cases v0 with
    | good n l1 l2 =>
      refine ⟨n :: gs, ?_, fun g hg => ?_, by simpa using e3⟩
      · rw [List.filter_cons_of_pos rfl, List.map_cons, e1]
        rfl
      · rcases List.mem_cons.mp hg with rfl | hg
        · omega
        · exact e2 g hg
    | bad o n ne => exact ⟨gs, by rw [List.filter_cons_of_neg (by simp)]; exact e1, e2, by rw [List.length_cons]; omega⟩
theorem first_wrong : ∀ L : List Ent, wrongs L = [] ∨ ∃ (j : Nat) (e : Ent) (es : List Ent), L[j]? = some e ∧ e.2.1 = false ∧ (∀ (i : Nat) (e' : Ent), i < j → L[i]? = some e' → e'.2.1 = true) ∧ wrongs L = e :: es
  | [] => .inl rfl
  | e :: r => by
    cases hb : e.2.1 with
    | false =>
      refine .inr ⟨0, e, wrongs r, rfl, hb, fun i e' hi => absurd hi (Nat.not_lt_zero i), ?_⟩
      exact List.filter_cons_of_pos (by rw [hb]; rfl)
    | true =>
      have ew : wrongs (e :: r) = wrongs r := List.filter_cons_of_neg (by rw [hb]; exact Bool.false_ne_true)
      rcases first_wrong r with h | ⟨j, f, fs, h1, h2, h3, h4⟩
      · exact .inl (ew.trans h)
      · refine .inr ⟨j + 1, f, fs, h1, h2, fun i e' hi he => ?_, ew.trans h4⟩
        cases i with
        | zero =>
          cases he
          exact hb
        | succ i => exact h3 i e' (by omega) he
theorem all_good {L : List Ent} (h : wrongs L = []) : L.filter (fun e => e.2.1) = L := List.filter_eq_self.mpr fun e he => by
  have := List.filter_eq_nil_iff.mp h e he
  simpa using this
theorem line1 (n L : Nat) : ((((("Places(" : Str) ++ toString (n : Int)) ++ " below ") ++ toString (L : Int)) ++ ", 0 of 1)") = lineP n L 0 1 := by
  have e1 : (((", " : Str) ++ toString ((0 : Nat) : Int)) ++ " of ") ++ toString ((1 : Nat) : Int) ++ ")" = ", 0 of 1)" := by decide +kernel
  unfold lineP
  rw [← e1]
  simp only [PySem.Str.append_assoc]
/-- _law_numbers(members) tells what is due -/
theorem lam_nums {K : PySem.W.Frag} {C CN CP mm : Addr} {H : Hp} {Q : VK} {L : List Ent} {gs : List Nat} {Lt : Nat} {m : Str} (hmm : H mm = some (.lst (L.map (·.1)))) (few : L.length ≤ 4) (lv : LV H L) (eg : (L.filter fun e => e.2.1).map (·.1) = nats gs) (g1 : ∀ g ∈ gs, g ≤ 1000)
    (tp : Top gs Lt) (hL : Lt ≤ 1400) (hm : m = lineP (uniq (gs.map fun n : Nat => (n : Int))).length Lt 0 1)
    (q : ∀ t H', Same H H' → DueAt C L m H' t → Q (.ref t) H') : spNumsLX K C CN [.ref mm] H (ToldQ Q) (CaughtN C (spReprP C) (errs CN CP) Q) := by
  refine ⟨mm, _, rfl, hmm, by rw [List.length_map]; exact few, ?_⟩
  rcases first_wrong L with hw | ⟨j, e, es, h1, h2, h3, hw⟩
  · rw [all_good hw] at eg
    refine .inl ⟨gs, eg, g1, fun a k H' s pl is => told_of fun t ht => ?_⟩
    have s2 := same_new ht (.tup [V.str "told", .ref a])
    refine q t _ (s.trans s2) (.inr ⟨hw, a, k, upd_same, pl.same s2, fit_nums is tp hL, by rw [len_nums is tp]; exact hL, by rw [is.w]; decide, ?_⟩)
    rw [line_nums is tp]
    exact hm
  · obtain ⟨v, b, dt⟩ := e
    have ve := lv _ (List.mem_of_getElem? h1)
    have dv : dueV L = [.str "InvalidNumber", .str dt.shown] := by unfold dueV; rw [hw]
    dsimp only at ve h2
    rw [h2] at ve
    cases ve with
    | bad o n ne =>
      refine .inr ⟨j, v, by rw [List.getElem?_map, h1]; rfl, fun i x hi hx => ?_, o.badIn n, tells_odd List.mem_cons_self o fun t H' s ht => q t H' s (.inl ⟨by rw [hw]; exact fun z => (List.cons_ne_nil _ _ z), by rw [dv]; exact ht⟩)⟩
      rw [List.getElem?_map] at hx
      obtain ⟨e', he', rfl⟩ := Option.map_eq_some_iff.mp hx
      have hb := h3 i e' hi he'
      obtain ⟨x, b', dt'⟩ := e'
      have v' := lv _ (List.mem_of_getElem? he')
      dsimp only at v' hb
      rw [hb] at v'
      cases v' with
      | good n l1 l2 => exact ⟨n, rfl, by omega⟩
end Wp

namespace Wp
open PySem PySem.Spec PyProof.Rows L2 Hx LamX
def spRight (TP : Addr) : Sp := fun vs H Q _ => ∃ d, vs = [.ref d] ∧ DeckAt H d ∧ Tabs (tabsOf TP) H ∧ ∀ H', Kp d H H' → Tabs (tabsOf TP) H' → Q (.bl true) H'
section
variable {P : Program} {w : World} {K : PySem.W.Frag} {mg : Str → Option Value} {base : Heap} {f C CN CP c TP : Addr} {fd : FuncData}
theorem ok_right (F : FunC K "_law_right" "_law_right" s_law_right f fd c) (D : DC P w K mg base C CN CP c TP) (D2 : DD P w K mg base C CN) : GOk P w K mg base CX0 13 f fd ["_law_deck_here"] (spRight TP) := by
  refine gokC F scRight (fun vs H Q E h => ?_) (fun A outer s H vs Q E hr gd h => ?_)
  · obtain ⟨d, rfl, _⟩ := h
    rfl
  obtain ⟨d, rfl, hd, tb, q⟩ := h
  obtain ⟨t2, ht2, rest⟩ := right_b D D2 (A := A) (outer := outer) (s := s) (H0 := H) (E := E) (f := f) hr gd
  obtain ⟨fC, fdC, GC, bC, kC, mC⟩ := D.card
  obtain ⟨fV, fdV, GV, bV, kV, mV⟩ := D2.value
  obtain ⟨fI, fdI, GI, bI, kI, mI⟩ := D2.isdue
  obtain ⟨fN, fdN, GN, bN, kN, mN⟩ := D2.numsL
  have r1 := hr.mono (by decide : 1 ≤ 12)
  have r3 := hr.mono (by decide : 3 ≤ 12)
  have r9 := hr.mono (by decide : 9 ≤ 12)
  refine ⟨_, pss_cons (ps_setLc (i := 1) (te := tCall spValue [] E0 (tCons (tVar 0) (tCons (tC (.int 0)) (tCons (tC (.int 1000)) tNil)))) (own := [("_law_k", 12)]) (g := gName 12) (tt := tYes) rfl scRight.nd rfl rfl (sw_true rfl rfl rfl rfl)
        (pi_range1 rfl D.bp.range (pa_cons (pe_call GC r1 rfl mC kC bC .nil pass0 (pa_cons (pv 0) (pa_cons pe_int pa_nil))) pa_nil)) (blkOk_by (N := NR) (sc := defScope s_law_right) (by decide +kernel))
        (fun _ _ _ _ _ => pg_name (i := 12) scRight.nd rfl (Or.inl rfl)) (fun _ _ _ _ _ => pts_nil) (fun _ _ _ _ _ => pe_call GV r3 rfl mV kV bV .nil pass0 (pa_cons (pv 0) (pa_cons pe_int (pa_cons pe_int pa_nil)))))
    (pss_cons (ps_set (i := 2) scRight.nd rfl (Or.inr rfl) (pe_lc (own := [("_law_thing", 13), ("_law_is_good", 14)]) (g := gEnt K 13 14) (te := tVar 13) (tt := tYes) rfl scRight.nd (pi_list (pv 1)) (blkOk_by (N := NR) (sc := defScope s_law_right) (by decide +kernel))
        (fun _ _ _ _ _ => pg_tup (by rfl) (pgs_cons (pg_name (i := 13) scRight.nd rfl (Or.inl rfl)) (pgs_cons (pg_name (i := 14) scRight.nd rfl (Or.inl rfl)) pgs_nil))) (fun _ _ _ _ _ => pts_nil) (fun _ _ _ _ _ => pv 13)))
    (pss_cons (ps_set (i := 3) scRight.nd rfl (Or.inl rfl) (pe_lenSetD rfl D.bp.len rfl D.set (pe_lc (own := [("_law_thing", 13), ("_law_is_good", 14)]) (g := gEnt K 13 14) (te := tVar 13) rfl scRight.nd (pi_list (pv 1)) (blkOk_by (N := NR) (sc := defScope s_law_right) (by decide +kernel))
        (fun _ _ _ _ _ => pg_tup (by rfl) (pgs_cons (pg_name (i := 13) scRight.nd rfl (Or.inl rfl)) (pgs_cons (pg_name (i := 14) scRight.nd rfl (Or.inl rfl)) pgs_nil))) (fun _ _ _ _ _ => pts_one (pt_val (pv 14))) (fun _ _ _ _ _ => pv 13))))
    (pss_cons (ps_set (i := 4) scRight.nd rfl (Or.inl rfl) (pe_op op_add (pe_callB (cr_max rfl) (by rfl) D.bp.max PyProof.Rows.boot_max (pa_cons (pe_op op_cat (pe_lst (pa_cons (pe_un un_neg pe_int) pa_nil))
        (pe_lc (own := [("_law_thing", 13), ("_law_is_good", 14)]) (g := gEnt K 13 14) (te := tVar 13) rfl scRight.nd (pi_list (pv 1)) (blkOk_by (N := NR) (sc := defScope s_law_right) (by decide +kernel))
        (fun _ _ _ _ _ => pg_tup (by rfl) (pgs_cons (pg_name (i := 13) scRight.nd rfl (Or.inl rfl)) (pgs_cons (pg_name (i := 14) scRight.nd rfl (Or.inl rfl)) pgs_nil))) (fun _ _ _ _ _ => pts_one (pt_val (pv 14))) (fun _ _ _ _ _ => pv 13))) pa_nil)) pe_int))
    (pss_cons (ps_set (i := 5) scRight.nd rfl (Or.inl rfl) (pe_op op_add_str (pe_op op_add_str (pe_op op_add_str (pe_op op_add_str pe_str (pe_callTy call_str_int (by rfl) D.bp.str (by decide +kernel) (pa_cons (pv 3) pa_nil))) pe_str)
        (pe_callTy call_str_int (by rfl) D.bp.str (by decide +kernel) (pa_cons (pv 4) pa_nil))) pe_str))
    (pss_cons (ps_if (pt_not (pt_val (pe_callG GI r9 gd rfl mI kI bI .nil pass0 (pa_cons (pe_cau D.dl rfl rfl rfl gd hr (lamS_by (sc := defScope s_law_right) (by decide +kernel)) rfl (fun _ _ _ _ _ => rfl) (fun A outer s H E f c' hr2 =>
        pe_call GN (hr2.mono (show 8 ≤ 10 by decide)) rfl mN kN bN .nil (L2N.passes_call (L2N.takes_of rfl rfl rfl rfl) (fun _ _ _ _ h => h)) (pa_cons (pv 2) pa_nil))) (pa_cons (pv 1) (pa_cons (pv 5) pa_nil)))))) (pss_one (ps_ret pe_bl)) pss_nil)
    ht2))))), ?_⟩
  refine ⟨_, rfl, d, 5, rfl, by decide, by decide, hd, fun r H1 r0 r1' b1 hd1 => ⟨r, rfl, by omega, by omega, fun l nl => ?_⟩⟩
  have ld : l ≠ d := fun z => by
    obtain ⟨_, _, _, _, _, e⟩ := hd1
    rw [← z, nl] at e
    cases e
  refine lc_range (lo := 0) (n := r.toNat) (fun i H' => But d H1 H' ∧ DeckAt H' d ∧ ∃ xs L, H' l = some (.lst xs) ∧ xs.length = i ∧ PVs H' xs L) ⟨But.of (same_new nl _), hd1.same (same_new nl _), [], [], upd_same, rfl, rfl, fun i x h => by cases h⟩ ?_ ?_
  · rintro i H' hi ⟨b2, hd2, xs, L, hl, lx, pvs⟩
    refine ⟨rfl, turn_yes ?_⟩
    refine ⟨_, rfl, d, 0, 1000, rfl, .inl ⟨rfl, rfl⟩, hd2, fun p v b dt H3 b3 hd3 np hp val => ?_⟩
    have hl3 := b3 _ _ ld hl
    have pv3 : PVs H3 xs L := ⟨pvs.1, fun i x hx => let ⟨e, he, pv⟩ := pvs.2 i x hx; ⟨e, he, pv.but hd2 b3⟩⟩
    have na := pv3.refs
    refine ⟨xs, hl3, by rw [sizeLine_eq]; omega, fun c o nc hc => ?_, ?_, xs ++ [V.ref p], L ++ [(v, b, dt)], upd_same, by rw [List.length_append, lx]; rfl, ?_⟩
    · rw [upd_ne (ne_of_none hc nl)]
      exact b3 _ _ nc (b2 _ _ nc hc)
    · obtain ⟨a, m, c, h1, h2, q⟩ := hd3
      exact ⟨a, m, c, h1, h2, by rw [upd_ne (Ne.symm ld)]; exact q⟩
    · refine PVs.snoc ⟨pv3.1, fun i x hx => ?_⟩ ?_
      · obtain ⟨e, he, pv⟩ := pv3.2 i x hx
        exact ⟨e, he, pv.upds hl3 na⟩
      · exact PV.upds (e := (v, b, dt)) ⟨p, rfl, hp, val⟩ hl3 na
  rintro H2 ⟨b2, hd2, xs, L, hl, lx, pvs⟩
  have kp2 : Kp d H H2 := (Kp.but b1).trans ((Kp.but b2))
  have tb2 := tabs_deck (tabs_deck tb hd b1) hd1 b2
  have pairs := pvs.pairs
  have lv := pvs.vals
  have few : xs.length ≤ 4 := by rw [lx]; omega
  have fewL : L.length ≤ 4 := by rw [← pvs.1]; exact few
  obtain ⟨gs, eg, g1, gl⟩ := goods lv
  clear b1 b2 hd1 tb hd pvs lx nl
  -- the members
  refine ⟨_, rfl, l, rfl, ⟨xs, SqL.of hl⟩, fun Dm hDm => ?_⟩
  have md : Dm ≠ d := fun z => by
    obtain ⟨_, _, _, _, _, e⟩ := hd2
    rw [← z, hDm] at e
    cases e
  refine lc_ents (fun _ => true) hDm hl pairs (by omega) (fun u v => rfl) (fun u v => rfl) (fun x b H' R h => h) fun H3 s3 hm => ?_
  rw [show (L.filter fun e => (fun _ : Bool => true) e.2.1) = L from List.filter_eq_self.mpr fun _ _ => rfl] at hm
  have hl3 := s3 _ _ hl
  have pairs3 := pairs.same s3
  -- how many are right
  refine ⟨_, rfl, l, rfl, ⟨xs, SqL.of hl3⟩, fun Dg hDg => ?_⟩
  refine lc_ents (fun b => b) hDg hl3 pairs3 (by omega) (fun u v => rfl) (fun u v => rfl) (fun x b H' R h => ⟨_, rfl, _, rfl, h⟩) fun H4 s4 hg => ?_
  rw [show (L.filter fun e => (fun b : Bool => b) e.2.1).map (·.1) = nats gs from eg, nats_ints] at hg
  refine ⟨Dg, gs.map fun n : Nat => (n : Int), rfl, SqL.of hg, by rw [List.length_map]; omega, ?_⟩
  have hl4 := s4 _ _ hl3
  have hm4 := s4 _ _ hm
  have pairs4 := pairs3.same s4
  -- the greatest
  refine ⟨_, rfl, (by show 1 ≤ sizeLine; decide), fun l1 nl1 => ?_⟩
  have s5 := same_new nl1 (.lst [V.int (-1)])
  have hl1 : upd H4 l1 (.lst [V.int (-1)]) l1 = some (.lst [V.int (-1)]) := upd_same
  have hl5 := s5 _ _ hl4
  have hm5 := s5 _ _ hm4
  have pairs5 := pairs4.same s5
  have s45 := (s3.trans s4).trans s5
  have nl1' := nl1
  refine ⟨_, rfl, l, rfl, ⟨xs, SqL.of hl5⟩, fun Dh hDh => ?_⟩
  refine lc_ents (fun b => b) hDh hl5 pairs5 (by omega) (fun u v => rfl) (fun u v => rfl) (fun x b H' R h => ⟨_, rfl, _, rfl, h⟩) fun H6 s6 hh => ?_
  rw [show (L.filter fun e => (fun b : Bool => b) e.2.1).map (·.1) = nats gs from eg] at hh
  refine ⟨l1, Dh, _, _, rfl, rfl, s6 _ _ hl1, hh, ?_, fun l3 nl3 => ?_⟩
  · rw [nats_len, sizeLine_eq]
    show 1 + gs.length ≤ _
    omega
  have e7 : ([V.int (-1)] ++ nats gs : List V) = ((-1) :: gs.map fun n : Nat => (n : Int)).map V.int := by
    rw [nats_ints]
    rfl
  have s7 := same_new nl3 (.lst ([V.int (-1)] ++ nats gs))
  refine ⟨l3, (-1) :: gs.map fun n : Nat => (n : Int), rfl, SqL.of (by rw [← e7]; exact upd_same), by simp, fun g hg1 hle => ?_⟩
  have g0 : -1 ≤ g := hle _ List.mem_cons_self
  obtain ⟨Lt, eL⟩ : ∃ n : Nat, g + 1 = (n : Int) := ⟨(g + 1).toNat, by omega⟩
  have tp : Top gs Lt := by
    refine ⟨fun x hx => ?_, ?_⟩
    · have := hle (x : Int) (List.mem_cons_of_mem _ (List.mem_map.mpr ⟨x, hx, rfl⟩))
      omega
    · rcases List.mem_cons.mp hg1 with z | z
      · exact .inl (by omega)
      · obtain ⟨x, hx, e⟩ := List.mem_map.mp z
        refine .inr ?_
        rw [show Lt - 1 = x by omega]
        exact hx
  have Lt1 : Lt ≤ 1001 := by
    rcases tp.2 with z | z
    · omega
    · have := g1 _ z
      omega
  refine ⟨_, _, rfl, rfl, ?_⟩
  dsimp only
  rw [eL]
  have s8 := (s45.trans s6).trans s7
  have hl8 := s7 _ _ (s6 _ _ hl5)
  have hm8 := s7 _ _ (s6 _ _ hm5)
  have pairs8 := (pairs5.same s6).same s7
  have lv8 := lv.same s8
  have kp8 := kp2.trans (Kp.same s8)
  have tb8 := tb2.ext s8
  have hd8 := hd2.same s8
  generalize upd H6 l3 (.lst ([V.int (-1)] ++ nats gs)) = H8 at s8 hl8 hm8 pairs8 lv8 kp8 tb8 hd8 ⊢
  clear s7 s6 s45 s5 s4 s3 hl hl3 hl4 hl5 hm hm4 hm5 pairs pairs3 pairs4 pairs5 kp2 tb2 hd2 hh hg nl3 hDh nl1 nl1' hDg hDm e7 hg1 hle s8
  -- how it would be told
  have ug : (uniq (gs.map fun n : Nat => (n : Int))).length ≤ 4 := by
    have := uniq_len (gs.map fun n : Nat => (n : Int))
    rw [List.length_map] at this
    omega
  generalize hun : (uniq (gs.map fun n : Nat => (n : Int))).length = un at ug ⊢
  have z1 := (num_ok un (by omega)).2
  have z2 := (num_ok Lt (by omega)).2
  have c1 : (Str.ofString "Places(").length = 7 := by decide +kernel
  have c2 : (Str.ofString " below ").length = 7 := by decide +kernel
  have c3 : (Str.ofString ", 0 of 1)").length = 9 := by decide +kernel
  refine ⟨_, rfl, _, rfl, log_ok (by omega), _, _, rfl, rfl, ?_, _, _, rfl, rfl, ?_, _, rfl, _, rfl, log_ok (by omega), _, _, rfl, rfl, ?_, _, _, rfl, rfl, ?_, ?_⟩
  · rw [c1, sizeLine_eq]; omega
  · rw [PySem.Str.length_append, c1, c2, sizeLine_eq]; omega
  · rw [PySem.Str.length_append, PySem.Str.length_append, c1, c2, sizeLine_eq]; omega
  · rw [PySem.Str.length_append, PySem.Str.length_append, PySem.Str.length_append, c1, c2, c3, sizeLine_eq]; omega
  have em := line1 un Lt
  rw [← hun] at em
  refine ⟨tb8, fun H9 e9 t9 => caught_of ⟨_, rfl, lam_nums ((Kp.ext (d := d) e9) _ _ md rfl hm8) fewL (lv8.kp hd8 (Kp.ext e9)) eg g1 tp (by omega) em fun t H10 s10 due => ?_⟩⟩
  have k10 := (Kp.ext (d := d) e9).trans (Kp.same s10)
  refine ⟨_, rfl, _, rfl, t, l, _, _, _, rfl, k10 _ _ ld rfl hl8, pairs8.kp hd8 k10, by omega, by rw [hun] at due; exact due, fun H11 s11 => ⟨_, rfl, iteF ?_⟩⟩
  have k11 := k10.trans (Kp.same s11)
  refine rest _ d _ _ _ _ _ _ _ _ _ _ _ _ _ _ H11 (((deck_ext hd8 e9).same s10).same s11) ((t9.ext s10).ext s11) fun H' kk tt => q H' ((kp8.trans k11).trans kk) tt
end
def spLaw (K : PySem.W.Frag) (TP : Addr) : Sp := fun vs H Q _ => ∃ (a : Addr) (ns : List Int), vs = [.ref a] ∧ SqL K H a (ns.map V.int) ∧ ns.length ≤ 63 ∧ Tabs (tabsOf TP) H ∧ ∀ H', Q (.bl true) H'
structure Bltn4 (mg : Str → Option Value) : Prop where
  range : mg "range" = none
  max : mg "max" = none
  min : mg "min" = none
  len : mg "len" = none
  all : mg "all" = none
theorem scLaw : FnScope ["_law_cells", "_law_turn"] ["_law_cells"] (defScope s_law) := ⟨rfl, rfl, rfl, by decide +kernel, rfl, by decide +kernel, by decide +kernel⟩
theorem ExtN.seq {K : PySem.W.Frag} {a : Addr} {H H' : Hp} {xs : List V} (e : ExtN H H') (h : SqL K H a xs) : SqL K H' a xs := by
  rcases h with (h | ⟨o, h⟩) | h
  · exact .inl (.inl (e _ _ h fun ps z => by cases z))
  · exact .inl (.inr ⟨o, e _ _ h fun ps z => by cases z⟩)
  · exact .inr h
section
variable {P : Program} {w : World} {K : PySem.W.Frag} {mg : Str → Option Value} {base : Heap} {TP : Addr}
theorem ok_law {f fD fR : Addr} {fd fdD fdR : FuncData} (F : Fun K "law" "law" s_law f fd) (Z : Bltn4 mg)
    (GD : FnOk P w K mg base CX0 1 fD fdD ["_law_cells", "_law_turn"] (spDeck K)) (bD : Binds K fdD ["_law_cells", "_law_turn"] []) (kD : PySem.W.keepIn K (.ref fD) = true) (mD : mg "_law_deck" = some (.ref fD))
    (GR : GOk P w K mg base CX0 13 fR fdR ["_law_deck_here"] (spRight TP)) (bR : Binds K fdR ["_law_deck_here"] []) (kR : PySem.W.keepIn K (.ref fR) = true) (mR : mg "_law_right" = some (.ref fR)) :
    GOk P w K mg base CX0 14 f fd ["_law_cells"] (spLaw K TP) := by
  refine gok0 F scLaw (fun vs H Q E h => ?_) (fun cdv A outer s H vs Q E hr gd h => ?_)
  · obtain ⟨a, ns, rfl, _⟩ := h
    rfl
  obtain ⟨a, ns, rfl, hS, h63, tb, q⟩ := h
  have r1 := hr.mono (by decide : 1 ≤ 13)
  refine ⟨_, pss_one (ps_ret (pe_callB (cr_all rfl) (by rfl) Z.all PyProof.Rows.boot_all (pa_cons
      (pe_lc (te := tCall (spRight TP) [] E0 (tCons (tCall (spDeck K) [] E0 (tCons (tVar 0) (tCons (tVar 1) tNil))) tNil)) (own := [("_law_turn", 1)]) (g := gName 1) (tt := tYes) rfl scLaw.nd
        (pi_range1 rfl Z.range (pa_cons (pe_callB (call_max2 rfl) (by rfl) Z.max PyProof.Rows.boot_max (pa_cons pe_int (pa_cons
          (pe_callB (call_min2 rfl) (by rfl) Z.min PyProof.Rows.boot_min (pa_cons (pe_callB call_len_seq (by rfl) Z.len PySem.boot_len (pa_cons (pv 0) pa_nil)) (pa_cons pe_int pa_nil))) pa_nil))) pa_nil))
        (blkOk_by (N := ["_law_cells", "_law_turn"]) (sc := defScope s_law) (by decide +kernel))
        (fun _ _ _ _ _ => pg_name (i := 1) scLaw.nd rfl (Or.inl rfl)) (fun _ _ _ _ _ => pts_nil)
        (fun _ _ _ _ _ => pe_callG GR hr gd rfl mR kR bR .nil pass0 (pa_cons (pe_call GD r1 rfl mD kD bD .nil pass0 (pa_cons (pv 0) (pa_cons (pv 1) pa_nil))) pa_nil))) pa_nil))), ?_⟩
  have hl : (ns.map V.int).length = ns.length := List.length_map _
  refine ⟨_, rfl, a, _, rfl, .inl hS, _, _, rfl, _, _, rfl, ?_⟩
  generalize hnum : (if (if (10 : Int) < (((ns.map V.int).length : Nat) : Int) then (10 : Int) else (((ns.map V.int).length : Nat) : Int)) > 2 then (if (10 : Int) < (((ns.map V.int).length : Nat) : Int) then (10 : Int) else (((ns.map V.int).length : Nat) : Int)) else 2) = z
  have hz : 2 ≤ z ∧ z ≤ 10 := by
    rw [← hnum]
    split <;> split <;> omega
  refine ⟨z, rfl, by omega, by omega, fun D hD => ?_⟩
  refine lc_range (lo := 0) (n := z.toNat) (fun i H' => ExtN H H' ∧ Tabs (tabsOf TP) H' ∧ H' D = some (.lst ((List.replicate i true).map V.bl))) ⟨ExtN.of (same_new hD _), tb.ext (same_new hD _), upd_same⟩ ?_ ?_
  · rintro i H' hi ⟨s5, t5, h5⟩
    refine ⟨rfl, turn_yes ?_⟩
    refine ⟨_, rfl, _, rfl, a, ns, i, ?_, ExtN.seq s5 hS, h63, fun p H2 s6 np dk => ?_⟩
    · show [V.ref a, V.int (0 + (i : Int))] = _
      rw [Int.zero_add]
    refine ⟨p, rfl, dk, t5.ext s6, fun H3 b t3 => ?_⟩
    have npD : D ≠ p := ne_of_none h5 np
    have hD3 : H3 D = _ := b _ _ npD rfl (s6 _ _ h5)
    refine ⟨_, hD3, ?_, ?_, ?_, ?_⟩
    · rw [List.length_map, List.length_replicate]
      exact Nat.lt_of_lt_of_le (by omega : i < 1000) (small_line (Nat.le_refl _))
    · intro c o hc nt
      have nD : c ≠ D := ne_of_none hc hD
      rw [upd_ne nD]
      refine b c o (ne_of_none (s5 c o hc nt) np) ?_ (s6 c o (s5 c o hc nt))
      cases o with
      | tbl ps => exact (nt ps rfl).elim
      | _ => rfl
    · exact tabs_but t3 hD3 (But.refl.upd _)
    · rw [upd_same, List.replicate_succ', List.map_append]
      rfl
  · rintro H' ⟨s5, t5, h5⟩
    refine ⟨D, List.replicate z.toNat true, rfl, SqL.of h5, ?_⟩
    have e : (List.replicate z.toNat true).all id = true := by
      rw [List.all_eq_true]
      intro x hx
      exact (List.eq_of_mem_replicate hx)
    rw [e]
    exact q H'
end
end Wp

/-! a law's end: no guard stands below, and some defs make lambdas (their code tables grow) -/
namespace Hx
open PySem PySem.Spec PyProof.Rows L2 LamX
/-- the tables, as they stand at first -/
def tabO : HO := .tbl #[]
/-- the script at a (if it is no part of K) and the tables -/
def startH (ts : List Addr) (keep : Bool) (a : Addr) (vs : List Value) (ns : List Int) : Hp := fun b => if b ∈ ts then some tabO else if keep = true ∧ b = a then some (scriptO vs ns) else none
section
variable {P : Program} {w : World} {K : PySem.W.Frag} {mg mb : Str → Option Value} {k : Nat} {fa a : Addr} {fd : FuncData} {x : Str} {sp : Sp}
  {s1 : Shared} {vs : List Value} {ns : List Int} {ts : List (Addr × Addr)} {keep : Bool}
theorem start_cases {l : List Addr} {b : Addr} {u : HO} (h : startH l keep a vs ns b = some u) : (b ∈ l ∧ u = tabO) ∨ (b ∉ l ∧ keep = true ∧ b = a ∧ u = scriptO vs ns) := by
  unfold startH at h
  by_cases c : b ∈ l
  · rw [if_pos c] at h
    exact .inl ⟨c, (Option.some.inj h).symm⟩
  · rw [if_neg c] at h
    by_cases c2 : keep = true ∧ b = a
    · rw [if_pos c2] at h
      exact .inr ⟨c, c2.1, c2.2, (Option.some.inj h).symm⟩
    · rw [if_neg c2] at h
      cases h
theorem enter_tabs (KX : K.In s1.heap) (hglob : s1.heap.Ns mainGlobals mg) (hblt : s1.heap.Ns builtinsNs mb)
    (hboot : ∀ x : Str, x ≠ "__name__" → mb x = bootBuiltins x) (hlim : s1.heap.NoLimit) (hmods : ∃ mm, s1.heap.Ns sysModules mm) (hgen : s1.gens = #[])
    (tab : ∀ p ∈ ts, s1.heap.get? p.2 = some { cls := .none, data := .fields #[] }) (tabK : ∀ p ∈ ts, K.lookup p.2 = none) (code : ∀ p ∈ ts, PySem.W.CodeHd s1.heap p.1 p.2)
    (hbm : ∃ (bm : Addr) (ob : Obj), mg "__builtins__" = some (.ref bm) ∧ bm ≠ builtinsNs ∧ s1.heap.get? bm = some ob ∧ ob.cls = .type "module" ∧ ob.dict = some builtinsNs ∧ ob.data = .plain)
    (ha : s1.heap.get? a = some { cls := .type "list", data := .seq vs.toArray }) (room : Room k callerA)
    (F : ∀ base : Heap, K.In base → base.Ns mainGlobals mg → Mods base → (∀ p ∈ ts, TabB base mg p.1 p.2) → GOk P w K mg base CX0 k fa fd [x] sp)
    (hbind : ∀ (s : Shared) (u : Value), BindsTo s fd ⟨[u], []⟩ [(x, u)])
    (hK : keep = true → K.lookup a = none) (hok : HOk P w (startH (ts.map (·.2)) keep a vs ns) s1.heap)
    (hsp : sp [.ref a] (startH (ts.map (·.2)) keep a vs ns) (fun v _ => v = .bl true) E0) :
    codeAny (model P w) callerA (.call (.ref fa) ⟨[.ref a], []⟩) (fun r s' => r = .ok (.ret (.bool true)) ∧ OldK s1.heap s'.heap ∧ s'.os = s1.os ∧ AllBare s'.gens) s1 := by
  have tabA : ∀ {b : Addr}, b ∈ ts.map (·.2) → ∃ p ∈ ts, p.2 = b ∧ s1.heap.get? b = some { cls := .none, data := .fields #[] } := fun hb => by
    obtain ⟨p, hp, e⟩ := List.mem_map.mp hb
    exact ⟨p, hp, e, e ▸ tab p hp⟩
  -- what is told of an address that is looked at here: it is the script, or a table, or nothing
  have free : ∀ {b : Addr} {o : Obj}, s1.heap.get? b = some o → (∀ zs n, o.data ≠ .seq zs n) → o.data ≠ .fields #[] → startH (ts.map (·.2)) keep a vs ns b = none := by
    intro b o e h1 h2
    cases hb : startH (ts.map (·.2)) keep a vs ns b with
    | none => rfl
    | some u =>
      rcases start_cases hb with ⟨c, _⟩ | ⟨_, _, rfl, _⟩
      · obtain ⟨p, _, _, z⟩ := tabA c
        rw [e] at z
        cases z
        exact (h2 rfl).elim
      · rw [ha] at e
        cases e
        exact (h1 _ _ rfl).elim
  have freeD : ∀ {b : Addr} {o : Obj} {es : Array DictEntry} {ep : Nat}, s1.heap.get? b = some o → o.data = .dict es ep → startH (ts.map (·.2)) keep a vs ns b = none := fun e d =>
    free e (fun zs n z => by rw [d] at z; cases z) (fun z => by rw [d] at z; cases z)
  have nsBase : ∀ {b : Addr} {m : Str → Option Value}, s1.heap.Ns b m → (hidT s1.heap (startH (ts.map (·.2)) keep a vs ns)).Ns b m := fun {b m} ⟨o, es, ep, e, d, r⟩ =>
    ⟨o, es, ep, hidT_get e (freeD e d), d, r⟩
  have inBase : K.In (hidT s1.heap (startH (ts.map (·.2)) keep a vs ns)) := by
    intro b o e
    refine hidT_get (KX b o e) ?_
    cases hb : startH (ts.map (·.2)) keep a vs ns b with
    | none => rfl
    | some u =>
      rcases start_cases hb with ⟨c, _⟩ | ⟨_, c, rfl, _⟩
      · obtain ⟨p, hp, e2, _⟩ := tabA c
        rw [← e2, tabK p hp] at e
        cases e
      · rw [hK c] at e
        cases e
  have modOk : Mod K mg (hidT s1.heap (startH (ts.map (·.2)) keep a vs ns)) := by
    refine ⟨inBase, nsBase hglob, ⟨mb, nsBase hblt, hboot⟩, ?_⟩
    obtain ⟨mc, l1, l2⟩ := hlim
    exact ⟨mc, nsBase l1, l2⟩
  have modsOk : Mods (hidT s1.heap (startH (ts.map (·.2)) keep a vs ns)) := by
    obtain ⟨mm, hm⟩ := hmods
    obtain ⟨o, es, ep, e, _⟩ := nsBase hm
    exact ⟨o, e⟩
  have tabs : ∀ p ∈ ts, TabB (hidT s1.heap (startH (ts.map (·.2)) keep a vs ns)) mg p.1 p.2 := by
    intro p hp
    have isTab := tab p hp
    constructor
    · obtain ⟨o, us, file, tf, flags, tg, inF, text, tt, e1, r1, r2, r3, rest⟩ := code p hp
      refine ⟨o, us, file, tf, flags, tg, inF, text, tt, hidT_get e1 (free e1 (fun zs n z => ?_) fun z => ?_), r1, r2, r3, rest⟩
      · rw [r2] at z
        cases z
      · rw [r2] at z
        cases z
        simp at r3
    · obtain ⟨bm, ob, b1, b2, b3, b4, b5, b6⟩ := hbm
      refine ⟨bm, ob, b1, b2, fun z => ?_, fun z => ?_, hidT_get b3 (free b3 (fun zs n z => ?_) fun z => ?_), b4, b5, b6⟩
      · obtain ⟨o, es, ep, e, hd, _⟩ := hglob
        rw [z, e] at b3
        cases b3
        rw [hd] at b6
        cases b6
      · rw [z, isTab] at b3
        cases b3
        cases b6
      · rw [b6] at z
        cases z
      · rw [b6] at z
        cases z
    · intro z
      obtain ⟨o, es, ep, e, hd, _⟩ := hglob
      rw [z, isTab] at e
      cases e
      cases hd
  have start0 : Env0 P w K mg (hidT s1.heap (startH (ts.map (·.2)) keep a vs ns)) callerA [] s1 (startH (ts.map (·.2)) keep a vs ns) :=
    { frames := rfl, mod := modOk, bs := fun b o e => of_hidT e, bsz := Nat.le_of_eq (hidT_size _ _), funs := trivial,
      frf := fun b hb => absurd (show b ∈ ([] : List Addr) from hb) (by simp), hok := hok, bare := .of_eq hgen }
  have run := (F _ inBase (nsBase hglob) modsOk tabs).goes callerA [] s1 _ ⟨[.ref a], []⟩ [.ref a] [.ref a] _ _ room rfl start0 (hbind s1 (.ref a)) (.cons rfl .nil) hsp
  refine codeAny_mono run ?_
  intro r s' hr
  cases r with
  | error e => exact (show False from hr).elim
  | ok fl =>
    cases fl with
    | next => exact hr.elim
    | brk => exact hr.elim
    | cont => exact hr.elim
    | ret u =>
      obtain ⟨v, H', osEq, bare, un, hok', rel, rfl⟩ := hr
      cases (show u = Value.bool true from rel)
      have more : ∀ p ∈ ts, ∃ zs : Array Value, s'.heap.get? p.2 = some { cls := .none, data := .fields zs } := fun p hp => by
        obtain ⟨zs, z⟩ := un.tbls p.2 #[] (if_pos (List.mem_map.mpr ⟨p, hp, rfl⟩))
        exact ⟨_, hok' p.2 _ z⟩
      have rest : ∀ b o, b ∉ ts.map (·.2) → s1.heap.get? b = some o → s'.heap.get? b = some o := by
        intro b o nb e
        cases hb : startH (ts.map (·.2)) keep a vs ns b with
        | none => exact un.keep b o e hb (fun z => absurd (show b ∈ ([] : List Addr) from z) (by simp)) (by simp)
        | some u =>
          rcases start_cases hb with ⟨c, _⟩ | ⟨_, _, rfl, rfl⟩
          · exact (nb c).elim
          · have stay := un.frzs b _ _ hb
            obtain ⟨e1, _⟩ := hok b _ hb
            obtain ⟨e2, _⟩ := hok' b _ stay
            rw [e] at e1
            rw [e2, ← Option.some.inj e1]
      refine ⟨rfl, ⟨fun b o e => ?_, fun b o e => ?_⟩, osEq, bare⟩
      · by_cases c : b ∈ ts.map (·.2)
        · obtain ⟨p, hp, rfl, z⟩ := tabA c
          obtain ⟨zs, m⟩ := more p hp
          rw [e] at z
          cases z
          exact .inr (.inl ⟨((code p hp).tab (tab p hp)).isCodeTable, rfl, #[], zs, rfl, by rw [Array.empty_append]; exact m⟩)
        · exact .inl (rest b o c e)
      · by_cases c : b ∈ ts.map (·.2)
        · obtain ⟨p, hp, rfl, z⟩ := tabA c
          obtain ⟨zs, m⟩ := more p hp
          exact ⟨_, m⟩
        · exact ⟨o, rest b o c e⟩
theorem law_tabs (KX : K.In s1.heap) (hglob : s1.heap.Ns mainGlobals mg) (hblt : s1.heap.Ns builtinsNs mb)
    (hboot : ∀ x : Str, x ≠ "__name__" → mb x = bootBuiltins x) (hlim : s1.heap.NoLimit) (hmods : ∃ mm, s1.heap.Ns sysModules mm) (hgen : s1.gens = #[])
    (tab : ∀ p ∈ ts, s1.heap.get? p.2 = some { cls := .none, data := .fields #[] }) (tabK : ∀ p ∈ ts, K.lookup p.2 = none) (code : ∀ p ∈ ts, PySem.W.CodeHd s1.heap p.1 p.2)
    (hbm : ∃ (bm : Addr) (ob : Obj), mg "__builtins__" = some (.ref bm) ∧ bm ≠ builtinsNs ∧ s1.heap.get? bm = some ob ∧ ob.cls = .type "module" ∧ ob.dict = some builtinsNs ∧ ob.data = .plain)
    (ha : s1.heap.get? a = some { cls := .type "list", data := .seq vs.toArray }) (hi : IntsAre vs ns) (hl : ns.length ≤ sizeLine) (room : Room k callerA)
    (F : ∀ base : Heap, K.In base → base.Ns mainGlobals mg → Mods base → (∀ p ∈ ts, TabB base mg p.1 p.2) → GOk P w K mg base CX0 k fa fd [x] sp)
    (hbind : ∀ (s : Shared) (u : Value), BindsTo s fd ⟨[u], []⟩ [(x, u)])
    (hsp : ∀ H : Hp, (∀ p ∈ ts, H p.2 = some (.tbl #[])) → SqL K H a (ns.map V.int) → sp [.ref a] H (fun v _ => v = .bl true) E0) :
    codeAny (model P w) callerA (.call (.ref fa) ⟨[.ref a], []⟩) (fun r s' => r = .ok (.ret (.bool true)) ∧ OldK s1.heap s'.heap ∧ s'.os = s1.os ∧ AllBare s'.gens) s1 := by
  have rel := vals_ints hi
  have aT : a ∉ ts.map (·.2) := fun z => by
    obtain ⟨p, hp, e⟩ := List.mem_map.mp z
    have q := tab p hp
    rw [e, ha] at q
    cases congrArg Obj.data (Option.some.inj q)
  have okAll : ∀ keep : Bool, HOk P w (startH (ts.map (·.2)) keep a vs ns) s1.heap := fun keep b u h => by
    rcases start_cases h with ⟨c, rfl⟩ | ⟨_, _, rfl, rfl⟩
    · obtain ⟨p, hp, rfl⟩ := List.mem_map.mp c
      exact tab p hp
    · exact ⟨ha, by rw [List.length_map]; exact hl, vs, _, rel, ha⟩
  have tabAt : ∀ keep : Bool, ∀ p ∈ ts, startH (ts.map (·.2)) keep a vs ns p.2 = some (.tbl #[]) := fun keep p hp => if_pos (List.mem_map.mpr ⟨p, hp, rfl⟩)
  cases hk : K.lookup a with
  | some o =>
    have e := KX a o hk
    rw [ha] at e
    cases e
    refine enter_tabs (keep := false) KX hglob hblt hboot hlim hmods hgen tab tabK code hbm ha room F hbind (fun z => by cases z) (okAll false) (hsp _ (tabAt false) (.inr ⟨_, vs.toArray, _, hk, rfl, rfl, rfl, ?_, by simpa using rel⟩))
    rw [List.size_toArray, hi.length]
    exact hl
  | none =>
    have at_a : startH (ts.map (·.2)) true a vs ns a = some (scriptO vs ns) := by
      unfold startH
      rw [if_neg aT, if_pos ⟨rfl, rfl⟩]
    exact enter_tabs (keep := true) KX hglob hblt hboot hlim hmods hgen tab tabK code hbm ha room F hbind (fun _ => hk) (okAll true) (hsp _ (tabAt true) (.inl (.inr ⟨_, at_a⟩)))
end
/-- the goal that head_any leaves, for a law whose defs make lambdas and ask that no guard stands below -/
theorem walk_GT {l : PySem.W.OpenLaw} {n k : Nat} {q : Program} {loose : List Str} {XP : (Str → Option Value) → Heap → Prop} {YP : World → Heap → Prop} {d : DefRec} {x : Str}
    (hn : l.most = some n) (hn2 : n ≤ sizeLine) (hdf : d.params.defaults = []) (room : Room k callerA) (himp : importsNone q = true)
    (F : ∀ (w : World) (mg : Str → Option Value) (fa : Addr) (h : Heap), YP w h → h.Ns mainGlobals mg → mg d.name = some (.ref fa) →
      ∃ (K : PySem.W.Frag) (ts : List (Addr × Addr)) (fd : FuncData) (sp : Sp), K.In h ∧ (∀ p ∈ ts, h.get? p.2 = some { cls := .none, data := .fields #[] }) ∧ (∀ p ∈ ts, K.lookup p.2 = none) ∧ (∀ p ∈ ts, PySem.W.CodeHd h p.1 p.2) ∧
        (∀ (s : Shared) (u : Value), BindsTo s fd ⟨[u], []⟩ [(x, u)]) ∧
        (∀ (H : Hp) (a : Addr) (ns : List Int), ns.length ≤ n → (∀ p ∈ ts, H p.2 = some (.tbl #[])) → SqL K H a (ns.map V.int) → sp [.ref a] H (fun v _ => v = .bl true) E0) ∧
        ∀ base : Heap, K.In base → base.Ns mainGlobals mg → Mods base → (∀ p ∈ ts, TabB base mg p.1 p.2) → GOk l.prog w K mg base CX0 k fa fd [x] sp) :
    PySem.W.WalkO q loose XP YP l.row.toRowW d [] (fun f vs => PySem.call f vs) := by
  refine Att.attach_call hn hdf ?_
  intro w s0 s1 mg mb fa o pm cd doc a vs ns G Y ho hd hcd hmg hobj hints hlen hgen
  obtain ⟨K, ts, fd, sp, KX, t1, t2, t3, hb, hsp, hF⟩ := F w mg fa _ Y G.T.g hmg
  obtain ⟨mm, hmm, _⟩ := (G.T.seer himp).mods
  exact law_tabs KX G.T.g G.T.b G.T.builtins G.T.nolimit ⟨mm, hmm⟩ hgen t1 t2 t3 G.T.bmain hobj hints (Nat.le_trans hlen hn2) room hF hb fun H hT hS => hsp H a ns hlen hT hS
end Hx

namespace Wp
open PySem PySem.Spec PyProof.Rows L2 Hx LamX
/-! the promises out of what the head shows -/
theorem FunC.of {K : PySem.W.Frag} {x qual : Str} {st : Stmt} {f : Addr} {fd : FuncData} (F : Fun K x qual st f fd) : FunC K x qual st f fd (codeR K f) := by
  obtain ⟨oc, od, kV, doc, pm, an, cdv, ct, osl, rfl, lk, hcd⟩ := F.ex
  obtain ⟨c, rfl⟩ := He.codeIn_ref hcd
  rw [codeR_eq lk rfl]
  exact ⟨⟨oc, od, kV, doc, pm, an, ct, osl, rfl, lk, hcd⟩, F.kp⟩
theorem dOr : PySem.dunder (Operator.info .BitOr).2 = "__or__" := by decide +kernel
theorem dAnd : PySem.dunder (Operator.info .BitAnd).2 = "__and__" := by decide +kernel
theorem dSub : PySem.dunder (Operator.info .Sub).2 = "__sub__" := by decide +kernel
theorem dXor : PySem.dunder (Operator.info .BitXor).2 = "__xor__" := by decide +kernel
theorem dOrR : dunderR (Operator.info .BitOr).2 = "__ror__" := by decide +kernel
theorem dAndR : dunderR (Operator.info .BitAnd).2 = "__rand__" := by decide +kernel
theorem dSubR : dunderR (Operator.info .Sub).2 = "__rsub__" := by decide +kernel
theorem dXorR : dunderR (Operator.info .BitXor).2 = "__rxor__" := by decide +kernel
section
variable {P : Program} {w : World} {K : PySem.W.Frag} {h : Heap} {mg : Str → Option Value} {base : Heap}
theorem and1 {a b : Bool} (h : (a && b) = true) : a = true := (Bool.and_eq_true_iff.mp h).1
theorem and2 {a b : Bool} (h : (a && b) = true) : b = true := (Bool.and_eq_true_iff.mp h).2
theorem exX_err (e : exX K = true) {x : Str} (hx : x ∈ errsX) : exErr K x = true := List.all_eq_true.mp (and1 e) x hx
theorem exX_pl (e : exX K = true) : exPl K = true := and1 (and2 e)
theorem exX_ty (e : exX K = true) : exTy K = true := and1 (and2 (and2 e))
theorem exX_old (e : exX K = true) : exOld K = true := and1 (and2 (and2 (and2 e)))
theorem exX_glo (e : exX K = true) {x : Str} (hx : x ∈ glosX) : (He.Fa.glo x).ok K = true := List.all_eq_true.mp (and1 (and2 (and2 (and2 (and2 e))))) x hx
theorem exX_free (e : exX K = true) {x : Str} (hx : x ∈ freeX) : (He.Fa.free x).ok K = true := List.all_eq_true.mp (and1 (and2 (and2 (and2 (and2 (and2 e)))))) x hx
theorem exX_cau (e : exX K = true) : exCau K = true := and1 (and2 (and2 (and2 (and2 (and2 (and2 e))))))
theorem exX_co (e : exX K = true) : exCo K = true := and2 (and2 (and2 (and2 (and2 (and2 (and2 e))))))
theorem m_glo (X : K.In h) (G : h.Ns mainGlobals mg) (e : exX K = true) (x : Str) (hx : x ∈ glosX := by decide +kernel) : mg x = some (.ref (He.ga K x)) := He.glo_ok X G (exX_glo e hx)
theorem m_free (X : K.In h) (G : h.Ns mainGlobals mg) (e : exX K = true) (x : Str) (hx : x ∈ freeX := by decide +kernel) : mg x = none := He.free_ok X G (exX_free e hx)
/-- a class of errors -/
structure ErrF (K : PySem.W.Frag) (x : Str) : Prop where
  g : (He.Fa.glo x).ok K = true
  ex : ExK K (He.ga K x) "ValueError" "ValueError.__new__" "ValueError.__init__" He.veBase
  hi : PySem.W.findIn K (.ref (He.ga K x)) "__init__" = some (some (.ref (He.ma K (He.ga K x) "__init__")))
  tI : PySem.W.typeIn K (.ref (He.ma K (He.ga K x) "__init__")) = some (.type "function")
  free : PySem.W.takerIn K (He.ga K x) "given" = some none
  no : PySem.W.findIn K (.ref (He.ga K x)) "given" = some none
  ty : PySem.W.typeIn K (.ref (He.ga K x)) = some (.type "type")
theorem errF (e : exX K = true) {x : Str} (hx : x ∈ errsX) : ErrF K x := by
  have h1 := exX_err e hx
  have h2 := exX_old e
  simp only [exErr, exOld, He.eqO, Bool.and_eq_true, decide_eq_true_eq] at h1 h2
  obtain ⟨a1, a2, a3, a4, a5, a6, a7, a8, a9, a10, a11, a12, a13, a14, a15, a16⟩ := h1
  exact ⟨decide_eq_true a1, ⟨PySem.F.excBase_ValueError, PySem.F.store_ValueError, a2, a3, a4, a5, a6, a7, a8, a9, a10, h2.1, h2.2, a11⟩, a12, a13, a14, a15, a16⟩

theorem sc_InvalidNumber : FnScope ["self", "given"] ["self", "given"] (defScope s_InvalidNumber_init) := ⟨rfl, rfl, rfl, by decide +kernel, rfl, by decide +kernel, by decide +kernel⟩
theorem mk_InvalidNumber (X : K.In h) (G : h.Ns mainGlobals mg) (c : SaysZ exX dsX K) : MkC P w K mg base "InvalidNumber" (He.ga K "InvalidNumber") "given" := by
  obtain ⟨fd, F⟩ := c.def_ 28 (d := ⟨mA "InvalidNumber" "__init__", "__init__", "InvalidNumber.__init__", s_InvalidNumber_init⟩) rfl
  have E := errF c.ex (x := "InvalidNumber") (by decide +kernel)
  have b := F.binds (ps := ["self", "given"]) fun _ _ _ _ _ _ us hl => match us, hl with | [_, _], _ => rfl
  have ok := ok_in1 (P := P) (w := w) (mg := mg) (base := base) F sc_InvalidNumber rfl (Or.inl rfl) (Or.inl rfl) (by decide) (by decide) E.ex E.free
  obtain ⟨oc, od, kV, doc, pm, an, cdv, ct, osl, rfl, lk, hcd⟩ := F.ex
  exact ⟨⟨_, _, _, _, _, _, E.ex, E.hi, E.tI, ok, b, fun s self w1 => .of_eq rfl⟩, He.glo_ok X G E.g, E.no⟩
theorem sc_NotPlaces : FnScope ["self", "given"] ["self", "given"] (defScope s_NotPlaces_init) := ⟨rfl, rfl, rfl, by decide +kernel, rfl, by decide +kernel, by decide +kernel⟩
theorem mk_NotPlaces (X : K.In h) (G : h.Ns mainGlobals mg) (c : SaysZ exX dsX K) : MkC P w K mg base "NotPlaces" (He.ga K "NotPlaces") "given" := by
  obtain ⟨fd, F⟩ := c.def_ 29 (d := ⟨mA "NotPlaces" "__init__", "__init__", "NotPlaces.__init__", s_NotPlaces_init⟩) rfl
  have E := errF c.ex (x := "NotPlaces") (by decide +kernel)
  have b := F.binds (ps := ["self", "given"]) fun _ _ _ _ _ _ us hl => match us, hl with | [_, _], _ => rfl
  have ok := ok_in1 (P := P) (w := w) (mg := mg) (base := base) F sc_NotPlaces rfl (Or.inl rfl) (Or.inl rfl) (by decide) (by decide) E.ex E.free
  obtain ⟨oc, od, kV, doc, pm, an, cdv, ct, osl, rfl, lk, hcd⟩ := F.ex
  exact ⟨⟨_, _, _, _, _, _, E.ex, E.hi, E.tI, ok, b, fun s self w1 => .of_eq rfl⟩, He.glo_ok X G E.g, E.no⟩
theorem cauF (e : exX K = true) {x : Str} (hx : x ∈ errsX) : XfC K (He.ga K x) ∧ ∀ y ∈ errsX, PySem.W.exmOne K (.ref (He.ga K x)) (.ref (He.ga K y)) = some (decide (x = y)) := by
  have h1 := List.all_eq_true.mp (exX_cau e) x hx
  exact ⟨xfB_ok (and1 h1), fun y hy => of_decide_eq_true (List.all_eq_true.mp (and2 h1) y hy)⟩
abbrev errsK (K : PySem.W.Frag) : List (Str × Addr) := errs (He.ga K "InvalidNumber") (He.ga K "NotPlaces")
theorem excX (X : K.In h) (G : h.Ns mainGlobals mg) (e : exX K = true) : ExcX K mg (errsK K) := by
  have all : ∀ (Pr : Str × Addr → Prop), (∀ x ∈ errsX, Pr (x, He.ga K x)) → ∀ p ∈ errsK K, Pr p := fun Pr a p hp => by
    rcases List.mem_cons.mp hp with rfl | hp
    · exact a "InvalidNumber" (by decide +kernel)
    rw [List.mem_singleton.mp hp]
    exact a "NotPlaces" (by decide +kernel)
  exact ⟨all _ fun x hx => (cauF e hx).1, all _ fun x hx => (errF e hx).no, all _ fun x hx => He.glo_ok X G (errF e hx).g,
    all _ fun x hx => all _ fun y hy => (cauF e hx).2 y hy, all _ fun x hx => (by decide +kernel : ∀ x ∈ errsX, (x == ("__debug__" : Str)) = false) x hx⟩
/-- the class of sets -/
structure PlF (K : PySem.W.Frag) : Prop where
  g : (He.Fa.glo "Places").ok K = true
  cls : Cls K (He.ga K "Places")
  mkr : Mk K (He.ga K "Places") (He.ma K (He.ga K "Places") "__init__")
  no : ∀ f ∈ fldsX, NoAttr K (He.ga K "Places") f
  meth : ∀ m ∈ methsX, Meth K (He.ga K "Places") m (He.ma K (He.ga K "Places") m)
  prop : ∀ p ∈ propsX, PropOf K (He.ga K "Places") p (He.ma K (He.ga K "Places") p) (pG "Places" p K)
  is : IsP K (He.ga K "Places")
  first : PySem.W.selfFirst K (He.ga K "Places") = true
  refl : ∀ n ∈ opsR, PySem.W.findIn K (.ref (He.ga K "Places")) n = some none
  stop : PySem.W.subIn K (.ref (He.ga K "InvalidNumber")) (.type "StopIteration") = some false
theorem plF (e : exX K = true) : PlF K := by
  have h1 := exX_pl e
  have h2 := exX_old e
  simp only [exOld, He.eqO, Bool.and_eq_true, decide_eq_true_eq] at h2
  unfold exPl at h1
  obtain ⟨a1, h1⟩ := Bool.and_eq_true_iff.mp h1
  obtain ⟨a2, h1⟩ := Bool.and_eq_true_iff.mp h1
  obtain ⟨a3, h1⟩ := Bool.and_eq_true_iff.mp h1
  obtain ⟨a4, h1⟩ := Bool.and_eq_true_iff.mp h1
  obtain ⟨a5, h1⟩ := Bool.and_eq_true_iff.mp h1
  obtain ⟨a6, h1⟩ := Bool.and_eq_true_iff.mp h1
  obtain ⟨a7, h1⟩ := Bool.and_eq_true_iff.mp h1
  obtain ⟨a8, h1⟩ := Bool.and_eq_true_iff.mp h1
  obtain ⟨a9, h1⟩ := Bool.and_eq_true_iff.mp h1
  obtain ⟨a10, h1⟩ := Bool.and_eq_true_iff.mp h1
  obtain ⟨a11, a12⟩ := Bool.and_eq_true_iff.mp h1
  exact ⟨a1, He.cls_ok a2, He.mkr_ok a3, fun f hf => He.noat_ok (List.all_eq_true.mp a4 f hf), fun m hm => He.meth_ok (List.all_eq_true.mp a5 m hm), fun p hp => pB_ok (List.all_eq_true.mp a6 p hp),
    ⟨of_decide_eq_true a9, He.eqO_ok a7, h2.1, h2.2, of_decide_eq_true a8⟩, a10, fun n hn => He.eqO_ok (List.all_eq_true.mp a11 n hn), of_decide_eq_true a12⟩
theorem tyF (e : exX K = true) {T : String} (hT : T ∈ types7) : PySem.W.kitOne K (.type T) (.ref (He.ga K "Places")) = some false ∧ PySem.W.subIn K (.type T) (.ref (He.ga K "Places")) = some false ∧ ∀ n ∈ opsN ++ opsR, ∃ v, PySem.W.findIn K (.type T) n = some v := by
  have h1 := List.all_eq_true.mp (exX_ty e) T hT
  exact ⟨of_decide_eq_true (and1 h1), of_decide_eq_true (and1 (and2 h1)), fun n hn => Option.isSome_iff_exists.mp (List.all_eq_true.mp (and2 (and2 h1)) n hn)⟩
theorem binrX (e : exX K = true) : ∀ T ∈ types7, ∀ op ∈ ops4, BinR K (He.ga K "Places") op (.type T) := by
  intro T hT op hop
  obtain ⟨_, t2, t3⟩ := tyF e hT
  have get : ∀ n, n ∈ opsN ++ opsR → ∃ v, PySem.W.findIn K (.type T) n = some v := t3
  simp only [ops4, List.mem_cons, List.not_mem_nil, or_false] at hop
  rcases hop with rfl | rfl | rfl | rfl
  · obtain ⟨v, h1⟩ := get "__or__" (by decide +kernel)
    obtain ⟨u, h2⟩ := get "__ror__" (by decide +kernel)
    exact .ty (fo := v) (ro := u) (by rw [dOr]; exact h1) (by rw [dOrR]; exact h2) t2
  · obtain ⟨v, h1⟩ := get "__and__" (by decide +kernel)
    obtain ⟨u, h2⟩ := get "__rand__" (by decide +kernel)
    exact .ty (fo := v) (ro := u) (by rw [dAnd]; exact h1) (by rw [dAndR]; exact h2) t2
  · obtain ⟨v, h1⟩ := get "__sub__" (by decide +kernel)
    obtain ⟨u, h2⟩ := get "__rsub__" (by decide +kernel)
    exact .ty (fo := v) (ro := u) (by rw [dSub]; exact h1) (by rw [dSubR]; exact h2) t2
  · obtain ⟨v, h1⟩ := get "__xor__" (by decide +kernel)
    obtain ⟨u, h2⟩ := get "__rxor__" (by decide +kernel)
    exact .ty (fo := v) (ro := u) (by rw [dXor]; exact h1) (by rw [dXorR]; exact h2) t2
end
end Wp

namespace Wp
open PySem PySem.Spec PyProof.Rows L2 Hx LamX
section
variable {P : Program} {w : World} {K : PySem.W.Frag} {h : Heap} {mg : Str → Option Value} {base : Heap} {fa : Addr}
abbrev CX (K : PySem.W.Frag) : Addr := He.ga K "Places"
abbrev CNX (K : PySem.W.Frag) : Addr := He.ga K "InvalidNumber"
abbrev CPX (K : PySem.W.Frag) : Addr := He.ga K "NotPlaces"
theorem bpX (X : K.In h) (G : h.Ns mainGlobals mg) (e : exX K = true) : Bp mg := ⟨m_free X G e "isinstance", m_free X G e "int", m_free X G e "bool", m_free X G e "str", m_free X G e "len", m_free X G e "all", m_free X G e "list", m_free X G e "tuple", m_free X G e "range", m_free X G e "max", m_free X G e "min", m_free X G e "repr", m_free X G e "enumerate"⟩
theorem pdX (X : K.In h) (G : h.Ns mainGlobals mg) (e : exX K = true) : Pd K mg (CX K) := by
  have PF := plF e
  exact ⟨PF.cls, PF.no _ (by decide +kernel), PF.no _ (by decide +kernel), PF.no _ (by decide +kernel), He.glo_ok X G PF.g⟩
theorem stepsK {fd : FuncData} {f : Addr} (F : Fun K "steps" "steps" s_steps f fd) : KBinds K fd ["first", "step"] ["step", "first"] gS gSV := by
  obtain ⟨oc, od, kV, doc, pm, an, cdv, ct, osl, rfl, lk, hcd⟩ := F.ex
  refine ⟨fun s us ws _ h1 => ?_, fun r rz => r.append (Vals.reverse rz)⟩
  have hl : us.length + ws.length = 2 := by
    have : (us ++ ws.reverse).length = 2 := h1
    rwa [List.length_append, List.length_reverse] at this
  match us, ws, hl with
  | [], [x, y], _ => exact .of_eq rfl
  | [u], [x], _ => exact .of_eq rfl
  | [u, v], [], _ => exact .of_eq rfl
  | [], [], h => cases h
  | [], [_], h => cases h
  | [_], [], h => cases h
  | [], _ :: _ :: _ :: _, h => simp only [List.length_cons, List.length_nil] at h; omega
  | [_], _ :: _ :: _, h => simp only [List.length_cons, List.length_nil] at h; omega
  | [_, _], _ :: _, h => simp only [List.length_cons, List.length_nil] at h; omega
  | _ :: _ :: _ :: _, _, h => simp only [List.length_cons] at h; omega
/-- what a set can do while an exception is handled -/
theorem hotX (X : K.In h) (G : h.Ns mainGlobals mg) (c : SaysZ exX dsX K) : ShowsH P w K mg base 7 (CX K) (spReprP (CX K)) := by
  have e := c.ex
  have Z := bpX X G e
  have R := pdX X G e
  have PF := plF e
  obtain ⟨d_full, F_full⟩ := c.def_ 5 (d := ⟨gA "full", "full", "full", s_full⟩) rfl
  have b_full := F_full.binds (ps := ["many"]) fun _ _ _ _ _ _ us hl => match us, hl with | [_], _ => rfl
  obtain ⟨d_low, F_low⟩ := c.def_ 6 (d := ⟨gA "low", "low", "low", s_low⟩) rfl
  have b_low := F_low.binds (ps := ["bits", "many"]) fun _ _ _ _ _ _ us hl => match us, hl with | [_, _], _ => rfl
  obtain ⟨d_tiled, F_tiled⟩ := c.def_ 7 (d := ⟨gA "tiled", "tiled", "tiled", s_tiled⟩) rfl
  have b_tiled := F_tiled.binds (ps := ["pattern", "width", "many"]) fun _ _ _ _ _ _ us hl => match us, hl with | [_, _, _], _ => rfl
  obtain ⟨d_positions, F_positions⟩ := c.def_ 8 (d := ⟨gA "positions", "positions", "positions", s_positions⟩) rfl
  have b_positions := F_positions.binds (ps := ["bits"]) fun _ _ _ _ _ _ us hl => match us, hl with | [_], _ => rfl
  obtain ⟨d_bits_below, F_bits_below⟩ := c.def_ 12 (d := ⟨gA "bits_below", "bits_below", "bits_below", s_bits_below⟩) rfl
  have b_bits_below := F_bits_below.binds (ps := ["places", "many"]) fun _ _ _ _ _ _ us hl => match us, hl with | [_, _], _ => rfl
  obtain ⟨d_repr, F_repr⟩ := c.def_ 35 (d := ⟨mA "Places" "__repr__", "__repr__", "Places.__repr__", s_Places_repr⟩) rfl
  have b_repr := F_repr.binds (ps := ["self"]) fun _ _ _ _ _ _ us hl => match us, hl with | [_], _ => rfl
  obtain ⟨d_start, F_start⟩ := c.def_ 37 (d := ⟨pG "Places" "start", "start", "Places.start", s_Places_start⟩) rfl
  have b_start := F_start.binds (ps := ["self"]) fun _ _ _ _ _ _ us hl => match us, hl with | [_], _ => rfl
  obtain ⟨d_period, F_period⟩ := c.def_ 38 (d := ⟨pG "Places" "period", "period", "Places.period", s_Places_period⟩) rfl
  have b_period := F_period.binds (ps := ["self"]) fun _ _ _ _ _ _ us hl => match us, hl with | [_], _ => rfl
  obtain ⟨d_below, F_below⟩ := c.def_ 39 (d := ⟨pG "Places" "below", "below", "Places.below", s_Places_below⟩) rfl
  have b_below := F_below.binds (ps := ["self"]) fun _ _ _ _ _ _ us hl => match us, hl with | [_], _ => rfl
  obtain ⟨d_rests, F_rests⟩ := c.def_ 40 (d := ⟨pG "Places" "rests", "rests", "Places.rests", s_Places_rests⟩) rfl
  have b_rests := F_rests.binds (ps := ["self"]) fun _ _ _ _ _ _ us hl => match us, hl with | [_], _ => rfl
  have G_full := hot_full (P := P) (w := w) (mg := mg) (base := base) F_full
  have G_low := hot_low (P := P) (w := w) (mg := mg) (base := base) F_low G_full b_full F_full.kp (m_glo X G e "full")
  have G_tiled := hot_tiled (P := P) (w := w) (mg := mg) (base := base) F_tiled G_low b_low F_low.kp (m_glo X G e "low")
  have G_positions := hot_positions (P := P) (w := w) (mg := mg) (base := base) F_positions Z
  have G_bits_below := hot_bitsB (P := P) (w := w) (mg := mg) (base := base) F_bits_below R G_tiled b_tiled F_tiled.kp (m_glo X G e "tiled")
  have PS : PropDH P w K mg base (CX K) 1 "start" (spStart (CX K)) := ⟨_, _, _, PF.prop "start" (by decide +kernel), hot_start F_start R, b_start⟩
  have M := PF.meth "__repr__" (by decide +kernel)
  have D : CanH P w K mg base (CX K) :=
    { pd := R
      start := PS
      period := ⟨_, _, _, PF.prop "period" (by decide +kernel), hot_period F_period R, b_period⟩
      below := ⟨_, _, _, PF.prop "below" (by decide +kernel), hot_below F_below R Z PS G_positions b_positions F_positions.kp (m_glo X G e "positions") G_bits_below b_bits_below F_bits_below.kp (m_glo X G e "bits_below"), b_below⟩
      rests := ⟨_, _, _, PF.prop "rests" (by decide +kernel), hot_rests F_rests R Z PS G_positions b_positions F_positions.kp (m_glo X G e "positions") G_bits_below b_bits_below F_bits_below.kp (m_glo X G e "bits_below"), b_rests⟩ }
  exact ⟨_, _, M.at_, M.fn, hot_reprP F_repr D Z, b_repr⟩
theorem dcX (X : K.In h) (G : h.Ns mainGlobals mg) (c : SaysZ exX dsX K) (hm : Mods base) (TB : TabB base mg (cAt "_law_right" K) (tAt "_law_right" K)) :
    DC P w K mg base (CX K) (CNX K) (CPX K) (cAt "_law_right" K) (tAt "_law_right" K) ∧ DD P w K mg base (CX K) (CNX K) := by
  have e := c.ex
  have Z := bpX X G e
  have R := pdX X G e
  have PF := plF e
  have HT := hotX (P := P) (w := w) (base := base) X G c
  obtain ⟨tM, lM⟩ := He.int_ok X G (and1 (exX_co e))
  obtain ⟨tS, lS⟩ := He.int_ok X G (and2 (exX_co e))
  obtain ⟨d_is_integer, F_is_integer⟩ := c.def_ 0 (d := ⟨gA "is_integer", "is_integer", "is_integer", s_is_integer⟩) rfl
  have b_is_integer := F_is_integer.binds (ps := ["value"]) fun _ _ _ _ _ _ us hl => match us, hl with | [_], _ => rfl
  obtain ⟨d_is_within, F_is_within⟩ := c.def_ 1 (d := ⟨gA "is_within", "is_within", "is_within", s_is_within⟩) rfl
  have b_is_within := F_is_within.binds (ps := ["value", "least", "most"]) fun _ _ _ _ _ _ us hl => match us, hl with | [_, _, _], _ => rfl
  obtain ⟨d_check_within, F_check_within⟩ := c.def_ 2 (d := ⟨gA "check_within", "check_within", "check_within", s_check_within⟩) rfl
  have b_check_within := F_check_within.binds (ps := ["given", "least", "most"]) fun _ _ _ _ _ _ us hl => match us, hl with | [_, _, _], _ => rfl
  obtain ⟨d_is_count, F_is_count⟩ := c.def_ 3 (d := ⟨gA "is_count", "is_count", "is_count", s_is_count⟩) rfl
  have b_is_count := F_is_count.binds (ps := ["value"]) fun _ _ _ _ _ _ us hl => match us, hl with | [_], _ => rfl
  obtain ⟨d_check_count, F_check_count⟩ := c.def_ 4 (d := ⟨gA "check_count", "check_count", "check_count", s_check_count⟩) rfl
  have b_check_count := F_check_count.binds (ps := ["given"]) fun _ _ _ _ _ _ us hl => match us, hl with | [_], _ => rfl
  obtain ⟨d_full, F_full⟩ := c.def_ 5 (d := ⟨gA "full", "full", "full", s_full⟩) rfl
  have b_full := F_full.binds (ps := ["many"]) fun _ _ _ _ _ _ us hl => match us, hl with | [_], _ => rfl
  obtain ⟨d_low, F_low⟩ := c.def_ 6 (d := ⟨gA "low", "low", "low", s_low⟩) rfl
  have b_low := F_low.binds (ps := ["bits", "many"]) fun _ _ _ _ _ _ us hl => match us, hl with | [_, _], _ => rfl
  obtain ⟨d_tiled, F_tiled⟩ := c.def_ 7 (d := ⟨gA "tiled", "tiled", "tiled", s_tiled⟩) rfl
  have b_tiled := F_tiled.binds (ps := ["pattern", "width", "many"]) fun _ _ _ _ _ _ us hl => match us, hl with | [_, _, _], _ => rfl
  obtain ⟨d_positions, F_positions⟩ := c.def_ 8 (d := ⟨gA "positions", "positions", "positions", s_positions⟩) rfl
  have b_positions := F_positions.binds (ps := ["bits"]) fun _ _ _ _ _ _ us hl => match us, hl with | [_], _ => rfl
  obtain ⟨d_common_width, F_common_width⟩ := c.def_ 9 (d := ⟨gA "common_width", "common_width", "common_width", s_common_width⟩) rfl
  have b_common_width := F_common_width.binds (ps := ["one", "other"]) fun _ _ _ _ _ _ us hl => match us, hl with | [_, _], _ => rfl
  obtain ⟨d_primes_of, F_primes_of⟩ := c.def_ 10 (d := ⟨gA "primes_of", "primes_of", "primes_of", s_primes_of⟩) rfl
  have b_primes_of := F_primes_of.binds (ps := ["number"]) fun _ _ _ _ _ _ us hl => match us, hl with | [_], _ => rfl
  obtain ⟨d_least_width, F_least_width⟩ := c.def_ 11 (d := ⟨gA "least_width", "least_width", "least_width", s_least_width⟩) rfl
  have b_least_width := F_least_width.binds (ps := ["pattern", "width"]) fun _ _ _ _ _ _ us hl => match us, hl with | [_, _], _ => rfl
  obtain ⟨d_bits_below, F_bits_below⟩ := c.def_ 12 (d := ⟨gA "bits_below", "bits_below", "bits_below", s_bits_below⟩) rfl
  have b_bits_below := F_bits_below.binds (ps := ["places", "many"]) fun _ _ _ _ _ _ us hl => match us, hl with | [_, _], _ => rfl
  obtain ⟨d_frame, F_frame⟩ := c.def_ 13 (d := ⟨gA "frame", "frame", "frame", s_frame⟩) rfl
  have b_frame := F_frame.binds (ps := ["one", "other"]) fun _ _ _ _ _ _ us hl => match us, hl with | [_, _], _ => rfl
  obtain ⟨d_check_places, F_check_places⟩ := c.def_ 14 (d := ⟨gA "check_places", "check_places", "check_places", s_check_places⟩) rfl
  have b_check_places := F_check_places.binds (ps := ["given"]) fun _ _ _ _ _ _ us hl => match us, hl with | [_], _ => rfl
  obtain ⟨d_gathered, F_gathered⟩ := c.def_ 15 (d := ⟨gA "gathered", "gathered", "gathered", s_gathered⟩) rfl
  have b_gathered := F_gathered.binds (ps := ["pairs"]) fun _ _ _ _ _ _ us hl => match us, hl with | [_], _ => rfl
  obtain ⟨d_numbers, F_numbers⟩ := c.def_ 16 (d := ⟨gA "numbers", "numbers", "numbers", s_numbers⟩) rfl
  obtain ⟨d_steps, F_steps⟩ := c.def_ 17 (d := ⟨gA "steps", "steps", "steps", s_steps⟩) rfl
  have b_steps := F_steps.binds (ps := ["first", "step"]) fun _ _ _ _ _ _ us hl => match us, hl with | [_, _], _ => rfl
  obtain ⟨d__law_card, F__law_card⟩ := c.def_ 19 (d := ⟨gA "_law_card", "_law_card", "_law_card", s_law_card⟩) rfl
  have b__law_card := F__law_card.binds (ps := ["_law_deck_here", "_law_top"]) fun _ _ _ _ _ _ us hl => match us, hl with | [_, _], _ => rfl
  obtain ⟨d__law_of, F__law_of⟩ := c.def_ 20 (d := ⟨gA "_law_of", "_law_of", "_law_of", s_law_of⟩) rfl
  have b__law_of := F__law_of.binds (ps := ["_law_deck_here", "_law_menu"]) fun _ _ _ _ _ _ us hl => match us, hl with | [_, _], _ => rfl
  obtain ⟨d__law_numbers, F__law_numbers⟩ := c.def_ 21 (d := ⟨gA "_law_numbers", "_law_numbers", "_law_numbers", s_law_numbers⟩) rfl
  have b__law_numbers := F__law_numbers.binds (ps := ["_law_members"]) fun _ _ _ _ _ _ us hl => match us, hl with | [_], _ => rfl
  obtain ⟨d__law_caught, F__law_caught⟩ := c.def_ 22 (d := ⟨gA "_law_caught", "_law_caught", "_law_caught", s_law_caught⟩) rfl
  have b__law_caught := F__law_caught.binds (ps := ["_law_act"]) fun _ _ _ _ _ _ us hl => match us, hl with | [_], _ => rfl
  obtain ⟨d__law_value, F__law_value⟩ := c.def_ 23 (d := ⟨gA "_law_value", "_law_value", "_law_value", s_law_value⟩) rfl
  have b__law_value := F__law_value.binds (ps := ["_law_deck_here", "_law_least", "_law_most"]) fun _ _ _ _ _ _ us hl => match us, hl with | [_, _, _], _ => rfl
  obtain ⟨d__law_due, F__law_due⟩ := c.def_ 24 (d := ⟨gA "_law_due", "_law_due", "_law_due", s_law_due⟩) rfl
  have b__law_due := F__law_due.binds (ps := ["_law_pairs"]) fun _ _ _ _ _ _ us hl => match us, hl with | [_], _ => rfl
  obtain ⟨d__law_is_due, F__law_is_due⟩ := c.def_ 25 (d := ⟨gA "_law_is_due", "_law_is_due", "_law_is_due", s_law_is_due⟩) rfl
  have b__law_is_due := F__law_is_due.binds (ps := ["_law_told", "_law_pairs", "_law_made"]) fun _ _ _ _ _ _ us hl => match us, hl with | [_, _, _], _ => rfl
  obtain ⟨d_Places, F_Places⟩ := c.def_ 30 (d := ⟨mA "Places" "__init__", "__init__", "Places.__init__", s_Places_init⟩) rfl
  have b_Places := F_Places.binds (ps := ["self", "bits", "start", "width"]) fun _ _ _ _ _ _ us hl => match us, hl with | [_, _, _, _], _ => rfl
  obtain ⟨d_or, F_or⟩ := c.def_ 31 (d := ⟨mA "Places" "__or__", "__or__", "Places.__or__", s_Places_or⟩) rfl
  have b_or := F_or.binds (ps := ["self", "other"]) fun _ _ _ _ _ _ us hl => match us, hl with | [_, _], _ => rfl
  obtain ⟨d_and, F_and⟩ := c.def_ 32 (d := ⟨mA "Places" "__and__", "__and__", "Places.__and__", s_Places_and⟩) rfl
  have b_and := F_and.binds (ps := ["self", "other"]) fun _ _ _ _ _ _ us hl => match us, hl with | [_, _], _ => rfl
  obtain ⟨d_sub, F_sub⟩ := c.def_ 33 (d := ⟨mA "Places" "__sub__", "__sub__", "Places.__sub__", s_Places_sub⟩) rfl
  have b_sub := F_sub.binds (ps := ["self", "other"]) fun _ _ _ _ _ _ us hl => match us, hl with | [_, _], _ => rfl
  obtain ⟨d_xor, F_xor⟩ := c.def_ 34 (d := ⟨mA "Places" "__xor__", "__xor__", "Places.__xor__", s_Places_xor⟩) rfl
  have b_xor := F_xor.binds (ps := ["self", "other"]) fun _ _ _ _ _ _ us hl => match us, hl with | [_, _], _ => rfl
  obtain ⟨d_repr, F_repr⟩ := c.def_ 35 (d := ⟨mA "Places" "__repr__", "__repr__", "Places.__repr__", s_Places_repr⟩) rfl
  have b_repr := F_repr.binds (ps := ["self"]) fun _ _ _ _ _ _ us hl => match us, hl with | [_], _ => rfl
  obtain ⟨d_members, F_members⟩ := c.def_ 36 (d := ⟨mA "Places" "members", "members", "Places.members", s_Places_members⟩) rfl
  have b_members := F_members.binds (ps := ["self", "first"]) fun _ _ _ _ _ _ us hl => match us, hl with | [_, _], _ => rfl
  obtain ⟨d_start, F_start⟩ := c.def_ 37 (d := ⟨pG "Places" "start", "start", "Places.start", s_Places_start⟩) rfl
  have b_start := F_start.binds (ps := ["self"]) fun _ _ _ _ _ _ us hl => match us, hl with | [_], _ => rfl
  obtain ⟨d_period, F_period⟩ := c.def_ 38 (d := ⟨pG "Places" "period", "period", "Places.period", s_Places_period⟩) rfl
  have b_period := F_period.binds (ps := ["self"]) fun _ _ _ _ _ _ us hl => match us, hl with | [_], _ => rfl
  obtain ⟨d_below, F_below⟩ := c.def_ 39 (d := ⟨pG "Places" "below", "below", "Places.below", s_Places_below⟩) rfl
  have b_below := F_below.binds (ps := ["self"]) fun _ _ _ _ _ _ us hl => match us, hl with | [_], _ => rfl
  obtain ⟨d_rests, F_rests⟩ := c.def_ 40 (d := ⟨pG "Places" "rests", "rests", "Places.rests", s_Places_rests⟩) rfl
  have b_rests := F_rests.binds (ps := ["self"]) fun _ _ _ _ _ _ us hl => match us, hl with | [_], _ => rfl
  have N_is_integer := ok_isintN (P := P) (w := w) (mg := mg) (base := base) F_is_integer Z
  have N_is_within := ok_withinN (P := P) (w := w) (mg := mg) (base := base) F_is_within N_is_integer b_is_integer F_is_integer.kp (m_glo X G e "is_integer")
  have N_check_within := ok_ckWN (P := P) (w := w) (mg := mg) (base := base) F_check_within N_is_within b_is_within F_is_within.kp (m_glo X G e "is_within")
  have G_full := ok_full (P := P) (w := w) (mg := mg) (base := base) F_full
  have G_low := ok_low (P := P) (w := w) (mg := mg) (base := base) F_low G_full b_full F_full.kp (m_glo X G e "full")
  have G_tiled := ok_tiled (P := P) (w := w) (mg := mg) (base := base) F_tiled G_low b_low F_low.kp (m_glo X G e "low")
  have G_positions := ok_positions (P := P) (w := w) (mg := mg) (base := base) F_positions Z
  have G_primes_of := ok_primes (P := P) (w := w) (mg := mg) (base := base) F_primes_of
  have G_least_width := ok_leastW (P := P) (w := w) (mg := mg) (base := base) F_least_width G_primes_of b_primes_of F_primes_of.kp (m_glo X G e "primes_of") G_low b_low F_low.kp (m_glo X G e "low")
  have C_primes_of := ok_primesC (P := P) (w := w) (mg := mg) (base := base) F_primes_of
  have C_least_width := ok_leastG (P := P) (w := w) (mg := mg) (base := base) F_least_width C_primes_of b_primes_of F_primes_of.kp (m_glo X G e "primes_of") G_low b_low F_low.kp (m_glo X G e "low")
  have G_bits_below := ok_bitsB (P := P) (w := w) (mg := mg) (base := base) F_bits_below R G_tiled b_tiled F_tiled.kp (m_glo X G e "tiled")
  have MI := ok_initP (P := P) (w := w) (mg := mg) (base := base) F_Places R G_least_width b_least_width F_least_width.kp (m_glo X G e "least_width") G_low b_low F_low.kp (m_glo X G e "low") G_tiled b_tiled F_tiled.kp (m_glo X G e "tiled")
  have MG := ok_initG (P := P) (w := w) (mg := mg) (base := base) F_Places R C_least_width b_least_width F_least_width.kp (m_glo X G e "least_width") G_low b_low F_low.kp (m_glo X G e "low") G_tiled b_tiled F_tiled.kp (m_glo X G e "tiled")
  have G_gathered := ok_gath (P := P) (w := w) (mg := mg) (base := base) F_gathered R Z PF.mkr MI b_Places G_tiled b_tiled F_tiled.kp (m_glo X G e "tiled")
  have N_numbers := ok_nums (P := P) (w := w) (mg := mg) (base := base) F_numbers lM N_check_within b_check_within F_check_within.kp (m_glo X G e "check_within") G_gathered b_gathered F_gathered.kp (m_glo X G e "gathered")
  have N_steps := ok_steps (P := P) (w := w) (mg := mg) (base := base) F_steps lM lS N_check_within b_check_within F_check_within.kp (m_glo X G e "check_within") G_gathered b_gathered F_gathered.kp (m_glo X G e "gathered")
  have PS : PropD P w K mg base (CX K) 1 "start" (spStart (CX K)) := ⟨_, _, _, PF.prop "start" (by decide +kernel), ok_start F_start R, b_start⟩
  have DR : CanR P w K mg base (CX K) :=
    { pd := R
      start := PS
      period := ⟨_, _, _, PF.prop "period" (by decide +kernel), ok_period F_period R, b_period⟩
      below := ⟨_, _, _, PF.prop "below" (by decide +kernel), ok_below F_below R Z PS G_positions b_positions F_positions.kp (m_glo X G e "positions") G_bits_below b_bits_below F_bits_below.kp (m_glo X G e "bits_below"), b_below⟩
      rests := ⟨_, _, _, PF.prop "rests" (by decide +kernel), ok_rests F_rests R Z PS G_positions b_positions F_positions.kp (m_glo X G e "positions") G_bits_below b_bits_below F_bits_below.kp (m_glo X G e "bits_below"), b_rests⟩ }
  have G_common_width := ok_lcm (P := P) (w := w) (mg := mg) (base := base) F_common_width
  have G_frame := ok_frame (P := P) (w := w) (mg := mg) (base := base) F_frame R Z PS G_common_width b_common_width F_common_width.kp (m_glo X G e "common_width")
  have N_check_places := ok_ckP (P := P) (w := w) (mg := mg) (base := base) F_check_places R Z PF.is
  have G_or := ok_or (P := P) (w := w) (mg := mg) (base := base) F_or R PF.mkr MG b_Places N_check_places b_check_places F_check_places.kp (m_glo X G e "check_places") G_frame b_frame F_frame.kp (m_glo X G e "frame") G_bits_below b_bits_below F_bits_below.kp (m_glo X G e "bits_below")
  have G_is_integer := ok_intX (P := P) (w := w) (mg := mg) (base := base) F_is_integer Z
  have G_is_within := ok_withX (P := P) (w := w) (mg := mg) (base := base) F_is_within G_is_integer b_is_integer F_is_integer.kp (m_glo X G e "is_integer")
  have G_check_within := ok_ckWX (P := P) (w := w) (mg := mg) (base := base) F_check_within (mk_InvalidNumber (base := base) X G c) (errF e (x := "InvalidNumber") (by decide +kernel)).ty G_is_within b_is_within F_is_within.kp (m_glo X G e "is_within")
  have G_is_count := ok_cntX (P := P) (w := w) (mg := mg) (base := base) F_is_count G_is_integer b_is_integer F_is_integer.kp (m_glo X G e "is_integer")
  have G_check_count := ok_ckCX (P := P) (w := w) (mg := mg) (base := base) F_check_count (mk_InvalidNumber (base := base) X G c) (errF e (x := "InvalidNumber") (by decide +kernel)).ty G_is_count b_is_count F_is_count.kp (m_glo X G e "is_count")
  have G_check_places := ok_ckPX (P := P) (w := w) (mg := mg) (base := base) F_check_places R Z (mk_NotPlaces (base := base) X G c) (errF e (x := "NotPlaces") (by decide +kernel)).ty
  have G_numbers := ok_numsX (P := P) (w := w) (mg := mg) (base := base) F_numbers lM G_check_within b_check_within F_check_within.kp (m_glo X G e "check_within") G_gathered b_gathered F_gathered.kp (m_glo X G e "gathered")
  have G_steps := ok_stepsX (P := P) (w := w) (mg := mg) (base := base) F_steps lM lS G_check_within b_check_within F_check_within.kp (m_glo X G e "check_within") G_gathered b_gathered F_gathered.kp (m_glo X G e "gathered")
  have G_orX := ok_orX (P := P) (w := w) (mg := mg) (base := base) F_or G_check_places b_check_places F_check_places.kp (m_glo X G e "check_places")
  have G_andX := ok_andX (P := P) (w := w) (mg := mg) (base := base) F_and G_check_places b_check_places F_check_places.kp (m_glo X G e "check_places")
  have G_subX := ok_subX (P := P) (w := w) (mg := mg) (base := base) F_sub G_check_places b_check_places F_check_places.kp (m_glo X G e "check_places")
  have G_xorX := ok_xorX (P := P) (w := w) (mg := mg) (base := base) F_xor G_check_places b_check_places F_check_places.kp (m_glo X G e "check_places")
  have G_members := ok_memR (P := P) (w := w) (mg := mg) (base := base) F_members G_check_count b_check_count F_check_count.kp (m_glo X G e "check_count")
  have G__law_card := ok_card (P := P) (w := w) (mg := mg) (base := base) F__law_card Z.int (m_free X G e "divmod")
  have G__law_of := ok_of (P := P) (w := w) (mg := mg) (base := base) F__law_of G__law_card b__law_card F__law_card.kp (m_glo X G e "_law_card") Z.len
  have G__law_value := ok_value (P := P) (w := w) (mg := mg) (base := base) F__law_value G__law_card b__law_card F__law_card.kp (m_glo X G e "_law_card") G__law_of b__law_of F__law_of.kp (m_glo X G e "_law_of")
  have G__law_due := ok_due (P := P) (w := w) (mg := mg) (base := base) F__law_due Z.repr hm
  have MR := PF.meth "__repr__" (by decide +kernel)
  have SH : ShowsBy P w K mg base 7 (CX K) (spReprP (CX K)) := ⟨_, _, MR.at_, MR.fn, ok_reprP F_repr DR Z, b_repr⟩
  have G__law_is_due := ok_is_due (P := P) (w := w) (mg := mg) (base := base) F__law_is_due Z.repr SH G__law_due b__law_due F__law_due.kp (m_glo X G e "_law_due")
  have G__law_numbers := ok_numsLX (P := P) (w := w) (mg := mg) (base := base) F__law_numbers Z G_numbers F_numbers.kp (m_glo X G e "numbers")
  have Mor := PF.meth "__or__" (by decide +kernel)
  have Mand := PF.meth "__and__" (by decide +kernel)
  have Msub := PF.meth "__sub__" (by decide +kernel)
  have Mxor := PF.meth "__xor__" (by decide +kernel)
  refine ⟨{ dl := ⟨⟨_, _, F__law_caught, b__law_caught, m_glo X G e "_law_caught"⟩, excX X G e, TB, hm, Z.repr, HT⟩, pd := R, bp := Z, zip := m_free X G e "zip", set := m_free X G e "set",
             card := ⟨_, _, G__law_card, b__law_card, F__law_card.kp, m_glo X G e "_law_card"⟩,
             of := ⟨_, _, G__law_of, b__law_of, F__law_of.kp, m_glo X G e "_law_of"⟩,
             nums := ⟨_, N_numbers, F_numbers.kp, m_glo X G e "numbers"⟩,
             steps := ⟨_, _, N_steps, G_steps, b_steps, stepsK F_steps, F_steps.kp, m_glo X G e "steps"⟩,
             or0 := ⟨⟨_, _, _, by rw [dOr]; exact Mor.at_, Mor.fn, G_or, b_or⟩, PF.first⟩,
             shown := SH, bad := ?_,
             mem := ⟨_, _, G_members, b_members, PF.meth "members" (by decide +kernel)⟩,
             kit := fun T hT => (tyF e hT).1, binr := binrX e, stop := PF.stop },
          ⟨⟨_, _, G__law_value, b__law_value, F__law_value.kp, m_glo X G e "_law_value"⟩, ⟨_, _, G__law_due, b__law_due, F__law_due.kp, m_glo X G e "_law_due"⟩, ⟨_, _, G__law_is_due, b__law_is_due, F__law_is_due.kp, m_glo X G e "_law_is_due"⟩, ⟨_, _, G__law_numbers, b__law_numbers, F__law_numbers.kp, m_glo X G e "_law_numbers"⟩⟩⟩
  intro op hop
  simp only [ops4, List.mem_cons, List.not_mem_nil, or_false] at hop
  rcases hop with rfl | rfl | rfl | rfl
  · exact ⟨⟨_, _, _, by rw [dOr]; exact Mor.at_, Mor.fn, G_orX, b_or⟩, PF.first, by rw [dOrR]; exact PF.refl _ (by decide +kernel)⟩
  · exact ⟨⟨_, _, _, by rw [dAnd]; exact Mand.at_, Mand.fn, G_andX, b_and⟩, PF.first, by rw [dAndR]; exact PF.refl _ (by decide +kernel)⟩
  · exact ⟨⟨_, _, _, by rw [dSub]; exact Msub.at_, Msub.fn, G_subX, b_sub⟩, PF.first, by rw [dSubR]; exact PF.refl _ (by decide +kernel)⟩
  · exact ⟨⟨_, _, _, by rw [dXor]; exact Mxor.at_, Mxor.fn, G_xorX, b_xor⟩, PF.first, by rw [dXorR]; exact PF.refl _ (by decide +kernel)⟩
theorem lawX (X : K.In h) (G : h.Ns mainGlobals mg) (c : SaysZ exX dsX K) (hfa : mg ("law" : Str) = some (.ref fa)) :
    ∃ fd : FuncData, (∀ (s : Shared) (u : Value), BindsTo s fd ⟨[u], []⟩ [("_law_cells", u)]) ∧ ∀ base : Heap, K.In base → base.Ns mainGlobals mg → Mods base → (∀ x ∈ mksX, TabB base mg (cAt x K) (tAt x K)) →
      GOk P w K mg base CX0 14 fa fd ["_law_cells"] (spLaw K (tAt "_law_right" K)) := by
  have e := c.ex
  cases (hfa.symm.trans (m_glo X G e "law"))
  have Z := bpX X G e
  have Z4 : Bltn4 mg := ⟨m_free X G e "range", m_free X G e "max", m_free X G e "min", m_free X G e "len", m_free X G e "all"⟩
  obtain ⟨d__law_deck, F__law_deck⟩ := c.def_ 18 (d := ⟨gA "_law_deck", "_law_deck", "_law_deck", s_law_deck⟩) rfl
  have b__law_deck := F__law_deck.binds (ps := ["_law_cells", "_law_turn"]) fun _ _ _ _ _ _ us hl => match us, hl with | [_, _], _ => rfl
  obtain ⟨d__law_right, F__law_right⟩ := c.def_ 26 (d := ⟨gA "_law_right", "_law_right", "_law_right", s_law_right⟩) rfl
  have b__law_right := F__law_right.binds (ps := ["_law_deck_here"]) fun _ _ _ _ _ _ us hl => match us, hl with | [_], _ => rfl
  obtain ⟨d_law, F_law⟩ := c.def_ 27 (d := ⟨gA "law", "law", "law", s_law⟩) rfl
  have b_law := F_law.binds (ps := ["_law_cells"]) fun _ _ _ _ _ _ us hl => match us, hl with | [_], _ => rfl
  refine ⟨d_law, ?_, fun base KB GB hm TB => ?_⟩
  · obtain ⟨oc, od, kV, doc, pm, an, cdv, ct, osl, rfl, lk, hcd⟩ := F_law.ex
    exact fun s u => .of_eq rfl
  obtain ⟨D, D2⟩ := dcX (P := P) (w := w) (base := base) X G c hm (TB "_law_right" (by decide +kernel))
  have G__law_deck := ok_deck (P := P) (w := w) (mg := mg) (base := base) F__law_deck Z.len Z.int (m_free X G e "abs")
  have G__law_right := ok_right (P := P) (w := w) (mg := mg) (base := base) (FunC.of F__law_right) D D2
  exact ok_law (P := P) (w := w) (mg := mg) (base := base) F_law Z4 G__law_deck b__law_deck F__law_deck.kp (m_glo X G e "_law_deck") G__law_right b__law_right F__law_right.kp (m_glo X G e "_law_right")
end
end Wp

open PySem PySem.W PySem.Calls PyProof.Rows in
set_option maxHeartbeats 0 in
theorem PySem.Challenge.cw_wovenplaces_k41_sets_are_refused_holds : PySem.Challenge.rw_wovenplaces_k41_sets_are_refused.Holds := by
  w_on; o_law
  refine HandSHeadRun.head_any (r := OpenLaw.row PySem.Challenge.rw_wovenplaces_k41_sets_are_refused) (q := view (OpenLaw.row PySem.Challenge.rw_wovenplaces_k41_sets_are_refused).prog [41]) (H := Wp.hkX) (ob := Wp.obX) (M := 20000) (loose := Wp.namesX)
    (d := HandSHeadRun.topDef (OpenLaw.row PySem.Challenge.rw_wovenplaces_k41_sets_are_refused).prog 41) (kwd := []) Wp.obX_eq
    (by kernel_rfl) (fun s => by kernel_rfl) Wp.runX (by kernel_rfl) (by kernel_rfl) (by kernel_rfl) (by rfl) (by first | assumption | decide +kernel) (by decide +kernel) ⟨rfl, rfl, rfl, rfl, rfl, by decide +kernel⟩ ?hw ?hc
  case hw => w_witness2
  case hc =>
    refine Hx.walk_GT (l := PySem.Challenge.rw_wovenplaces_k41_sets_are_refused) (n := 63) (k := 14) (x := "_law_cells") rfl (by decide) (by kernel_rfl) ⟨rfl, by decide, by decide⟩ (by kernel_rfl) ?F
    intro w mg fa h Y G hmg0
    obtain ⟨K, KX, c, t⟩ := Y
    have hmg : mg ("law" : PySem.Str) = some (.ref fa) := by
      have e : (HandSHeadRun.topDef (OpenLaw.row PySem.Challenge.rw_wovenplaces_k41_sets_are_refused).prog 41).name = ("law" : PySem.Str) := by kernel_rfl
      rw [← e]
      exact hmg0
    obtain ⟨fd, hb, hF⟩ := Wp.lawX (P := (PySem.Challenge.rw_wovenplaces_k41_sets_are_refused).prog) (w := w) KX G c hmg
    have one : ∀ (Pr : Addr × Addr → Prop), (∀ x ∈ Wp.mksX, Pr (Wp.cAt x K, Wp.tAt x K)) → ∀ p ∈ Wp.mksX.map fun x => (Wp.cAt x K, Wp.tAt x K), Pr p := fun Pr q p hp => by
      obtain ⟨x, hx, rfl⟩ := List.mem_map.mp hp
      exact q x hx
    refine ⟨K, Wp.mksX.map fun x => (Wp.cAt x K, Wp.tAt x K), fd, Wp.spLaw K (Wp.tAt "_law_right" K), KX, one _ fun x hx => (t x hx).tab, one _ fun x hx => (t x hx).out, one _ fun x hx => codeHd_of_K KX (t x hx).code, hb, fun H a ns hl hT hS => ⟨a, ns, rfl, hS, hl, ?_, fun _ => rfl⟩,
      fun base KB GB hm hT => hF base KB GB hm fun x hx => hT _ (List.mem_map.mpr ⟨x, hx, rfl⟩)⟩
    intro p hp
    rw [List.mem_singleton.mp hp]
    exact LamX.TabS.nil (hT _ (List.mem_map.mpr ⟨"_law_right", by decide +kernel, rfl⟩))

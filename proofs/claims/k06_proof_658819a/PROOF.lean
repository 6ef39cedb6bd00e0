import PyProof.Rows.All
import Wide.All
import OpenK.AllK
import Wide.FinOn
import PyProof.EqAt
import PyProof.EqKinds
import PyProof.TupleCall
import PyProof.ReprRoads
import HandS.Base
import HandS.Call
import HandS.List
import HandS.Comp
import HandS.Ends
import HandS.Dict
import HandS.Iter
import HandS.Words
import HandS.WordsList
import HandS.ExcField
import HandS.HeadHook3
import HandS.Property
import KE.KStateDown
import KE.KExcInit
import KE.KExcIs
import HandS.IsInst
import HandS.HeadEnd
import HandS.Head0
import HandS.Head1
import HandS.Head2
import HandS.HeadHook1
import HandS.HeadHook2
import HandS.Exc
import HandS.ExcInit
import HandS.ExcValue
import HandS.ListEq
import HandS.Text
import HandS.WordsExc
import HandS.Walk
import HandS.RaiseFrom
import HandS.SuiteRaise
import HandS.ExcInitHot
import HandS.Star
import HandS.RaiseMore
import KE.KCallOwn
import HandS.FStr
import HandS.Set
import HandS.SetFor
import HandS.Strs
import PyProof.Rows.SortShellAny
import HandS.NoneIn
import OpenK.KOps
import OpenK.KMeth
import HandS.MakeKwOnly
import HandS.SlotsOwn
import PyProof.StrBlock2
import KE.DataEq
import KE.KRevSl
import PyProof.Rows.StrRev
import HandS.Small
import HandS.More
import KE.KOpsOwn
import HandS.CallLocal
import KE.GoesRaise
import HandS.TryOnly
import HandS.TryMany
import PySem.Challenge.RW_wovenplaces_k06_whole_reader
set_option Elab.async false
set_option linter.all false
set_option maxRecDepth 100000
set_option maxHeartbeats 0
namespace Hx
open PySem PySem.Spec PyProof.Rows L2

/-! a def's promise where no guard (a repr that runs) stands below -/
structure GOk (P : Program) (w : World) (K : PySem.W.Frag) (mg : Str → Option Value) (base : Heap) (CX : CXT) (k : Nat)
    (f : Addr) (fd : FuncData) (ps : List Str) (sp : Sp) : Prop where
  long : ∀ vs H Q E, sp vs H Q E → vs.length = ps.length
  goes : ∀ (A : Around) (outer : List Env) (s : Shared) (H : Hp) (args : Args) (us : List Value) (vs : List V) (Q : VK) (E : XK),
    Room k A → A.guards = some [] → Env0 P w K mg base A outer s H → BindsTo s fd args (ps.zip us) → Vals vs us → sp vs H Q E →
    codeAny (model P w) A (.call (.ref f) args) (CR CX outer P w H s Q E) s

section
variable {P : Program} {w : World} {K : PySem.W.Frag} {mg : Str → Option Value} {base : Heap} {CX : CXT} {k j : Nat}
  {f : Addr} {fd : FuncData} {ps : List Str} {sp : Sp}
theorem GOk.of (F : FnOk P w K mg base CX k f fd ps sp) : GOk P w K mg base CX k f fd ps sp :=
  ⟨F.len, fun A outer s H args us vs Q E room _ => F.run A outer s H args us vs Q E room⟩
theorem GOk.more (F : GOk P w K mg base CX j f fd ps sp) (h : j ≤ k) : GOk P w K mg base CX k f fd ps sp :=
  ⟨F.long, fun A outer s H args us vs Q E room => F.goes A outer s H args us vs Q E (room.mono h)⟩

/-- a def of the text keeps its promise, by its body, no guard below -/
theorem gok {x qual : Str} {st : Stmt} {N : List Str} (F : Fun K x qual st f fd) (S : FnScope N ps (defScope st))
    (long : ∀ vs H Q E, sp vs H Q E → vs.length = ps.length)
    (body : ∀ (cdv : Value) (A : Around) (outer : List Env) (s : Shared) (H : Hp) (vs : List V) (Q : VK) (E : XK),
      Room k (A.deeper (envOfC qual (defScope st) s.heap.objs.size f cdv)) → A.guards = some [] → sp vs H Q E →
      ∃ t, PSs (cxOf CX P w K mg base N qual (defScope st) f cdv A outer s H E) (defBody st) t ∧
        t { nx := fun _ H' => Q .non H', rt := Q } (start N vs) H) :
    GOk P w K mg base CX (k + 1) f fd ps sp := by
  obtain ⟨oc, od, kV, doc, pm, an, cdv, ct, osl, efd, hlook, hcode⟩ := F.ex
  subst efd
  constructor
  · exact long
  · intro A outer s H args us vs Q E room gd e0 hbind rel hsp
    have inK : K.In s.heap := e0.mod.kin.keeps fun b o h => (e0.bs b o h).1
    have noLim : s.heap.NoLimit := e0.mod.nolimit.keeps fun b o h => (e0.bs b o h).1
    refine codeAny_call_function room.depth (inK _ _ hlook) rfl S.co S.gen rfl (PySem.W.codeRec_of inK hcode) (hbind _ _ _ _ ?_)
    refine wpAny_newFunctionEnv_cells S.kind ?kinds fun env henv s1 inside => ?_
    case kinds =>
      rintro ⟨nm, val⟩ hm
      have hp := (List.of_mem_zip hm).1
      cases S.par nm hp with
      | inl hl => exact .inl hl
      | inr hc => exact .inr ⟨hc, PySem.W.cellsFrom_some _ _ _ (.inl hc)⟩
    subst henv
    refine ⟨noLim.keeps inside.toInCall.keep, codeAny_func ?_⟩
    obtain ⟨t, ht, hq⟩ := body cdv A outer s H vs Q E (room.deeper _) gd hsp
    have I0 := inv_start (CX := CX) (E := E) S room.hd e0 (long _ _ _ _ hsp) rel inside
    refine wpAny_mono (ht.run [] s1 (start N vs) H _ I0 hq) ?_ (fun _ _ z => z)
    intro fl s' hfl
    cases fl with
    | ret u =>
      obtain ⟨v, _, H', J, rv, q⟩ := hfl
      exact ⟨v, H', J.os, J.bare, J.base, J.hok, rv, q⟩
    | next =>
      obtain ⟨_, H', J, q⟩ := hfl
      exact ⟨V.non, H', J.os, J.bare, J.base, J.hok, rfl, q⟩
    | brk => exact hfl.elim fun _ z => z.elim fun _ z => z.2.elim
    | cont => exact hfl.elim fun _ z => z.elim fun _ z => z.2.elim
end

section
variable {X : Cx} {CX : CXT} {k : Nat} {f : Addr} {fd : FuncData} {ps : List Str} {sp : Sp} {dvs : List V} {ds : List Value} {E : XK}
theorem run_g {pins : List (Addr × Obj)} {σ : L2.St} {H : Hp} {s : Shared} {Q : VK} {us : List Value} {vs : List V}
    (F : GOk X.prog X.w X.K X.mg X.base CX k f fd ps sp) (room : Room k X.A) (gd : X.A.guards = some []) (hb : Binds X.K fd ps ds)
    (hd : Vals dvs ds) (pass : Passes CX X E) (I : Inv X pins σ H s) (r : Vals vs us) (h : sp (vs ++ dvs) H Q E) :
    wpAny (model X.prog X.w) X.A (call (.ref f) us) (EP X pins σ Q) X.xe s := by
  have rr := r.append hd
  have hlen : (us ++ ds).length = ps.length := rr.length.symm.trans (F.long _ _ _ _ h)
  have go := F.goes X.A X.stack s H ⟨us, []⟩ (us ++ ds) (vs ++ dvs) Q E room gd I.env0 (hb s us I.kIn hlen) rr h
  refine wpAny_call (codeAny_mono go ?_)
  intro r s' hr
  cases r with
  | error e => exact pass pins σ H s e s' I hr
  | ok fl =>
    cases fl with
    | ret u => exact I.after hr
    | next => exact hr.elim
    | brk => exact hr.elim
    | cont => exact hr.elim

theorem pe_callG {x : Str} {p pos : Pos} {e : Expr} {es : List Expr} {t : TA} (F : GOk X.prog X.w X.K X.mg X.base CX k f fd ps sp)
    (room : Room k X.A) (gd : X.A.guards = some []) (hg : Gl X x) (hm : X.mg x = some (.ref f)) (hk : PySem.W.keepIn X.K (.ref f) = true)
    (hb : Binds X.K fd ps ds) (hd : Vals dvs ds) (pass : Passes CX X E) (ha : PA X (e :: es) t)
    (hdb : (x == ("__debug__" : Str)) = false := by decide)
    (he : starEach (e :: es) X.env = (false, eval e X.env) :: starEach es X.env := by rfl)
    (hpl : (backTo pos (starEach es X.env)).any (·.1) = false := by rfl) :
    PE X (.Call (.Name x p) (e :: es) [] pos) (tCall sp dvs E t) := by
  constructor
  intro pins s σ H Q I h
  refine wpAny_Call_Name_kw (ld_glob I hg hm ?_ hdb)
  refine PySem.W.callWith_K (h₀ := X.base) I.ok.mod.kin hk ?_ he hpl
  refine thn (ha.run pos pins s σ H _ I h) ?_
  rintro us s1 ⟨vs, H1, J, r, q⟩
  exact ⟨J.kIn, run_g F room gd hb hd pass J r q⟩
end
end Hx
namespace Hx
open PySem PySem.Spec PyProof.Rows L2
section
variable {P : Program} {w : World} {K : PySem.W.Frag} {mg : Str → Option Value} {base : Heap} {k : Nat}
  {f : Addr} {fd : FuncData} {ps : List Str} {sp : Sp}
/-- the same where no exception leaves the def -/
theorem gok0 {x qual : Str} {st : Stmt} {N : List Str} (F : Fun K x qual st f fd) (S : FnScope N ps (defScope st))
    (long : ∀ vs H Q E, sp vs H Q E → vs.length = ps.length)
    (body : ∀ (cdv : Value) (A : Around) (outer : List Env) (s : Shared) (H : Hp) (vs : List V) (Q : VK) (E : XK),
      Room k (A.deeper (envOfC qual (defScope st) s.heap.objs.size f cdv)) → A.guards = some [] → sp vs H Q E →
      ∃ t, PSs (cxOf CX0 P w K mg base N qual (defScope st) f cdv A outer s H E).nox (defBody st) t ∧
        t { nx := fun _ H' => Q .non H', rt := Q } (start N vs) H) :
    GOk P w K mg base CX0 (k + 1) f fd ps sp :=
  gok F S long fun cdv A outer s H vs Q E room gd hsp => by
    obtain ⟨t, h, q⟩ := body cdv A outer s H vs Q E room gd hsp
    exact ⟨t, h.nox, q⟩
end
/-! joining ways: what is known of a value, for any wish -/
theorem asg_join {te : TE} {g : TG} {D : Ends} {σ : L2.St} {H : Hp} (R : V → Hp → Prop)
    (h : ∀ Q : VK, (∀ v H', R v H' → Q v H') → te σ H Q) (hq : ∀ v H', R v H' → g v σ H' D.nx) : tAsg te g D σ H := h _ hq
theorem te_join {te : TE} {Q : VK} {σ : L2.St} {H : Hp} (R : V → Hp → Prop)
    (h : ∀ Q : VK, (∀ v H', R v H' → Q v H') → te σ H Q) (hq : ∀ v H', R v H' → Q v H') : te σ H Q := h _ hq
theorem seq_set {te : TE} {i : Nat} {u : TS} {D : Ends} {σ : L2.St} {H : Hp} (h : te σ H fun x H1 => u D (σ.set i (some x)) H1) : tSeq (tAsg te (gName i)) u D σ H := h
theorem seq_if_op {r : R2} {ta tb : TE} {t u w : TS} {D : Ends} {σ : L2.St} {H : Hp}
    (h : ta σ H fun x H1 => tb σ H1 fun y H2 => r x y H2 fun z H3 => ∃ k, z = .bl k ∧ if k = true then t { D with nx := w D } σ H3 else u { D with nx := w D } σ H3) :
    tSeq (tIfS (tTest (tOp r ta tb)) t u) w D σ H := h
theorem ret_op {r : R2} {ta tb : TE} {D : Ends} {σ : L2.St} {H : Hp} (h : ta σ H fun x H1 => tb σ H1 fun y H2 => r x y H2 D.rt) : tRet (tOp r ta tb) D σ H := h
theorem next_go {w : Ends → L2.St → Hp → Prop} {D : Ends} {σ : L2.St} {H : Hp} (h : w D σ H) : tNext { D with nx := w D } σ H := h
theorem ret_go {te : TE} {D : Ends} {σ : L2.St} {H : Hp} (h : te σ H D.rt) : tRet te D σ H := h
theorem ret_join {te : TE} {D : Ends} {σ : L2.St} {H : Hp} (R : V → Hp → Prop)
    (h : ∀ Q : VK, (∀ v H', R v H' → Q v H') → te σ H Q) (hq : ∀ v H', R v H' → D.rt v H') : tRet te D σ H := h _ hq
theorem cons_join {te : TE} {tr : TA} {Q : List V → Hp → Prop} {σ : L2.St} {H : Hp} (R : V → Hp → Prop)
    (h : ∀ Q : VK, (∀ v H', R v H' → Q v H') → te σ H Q) (hq : ∀ v H', R v H' → tr σ H' fun xs H2 => Q (v :: xs) H2) : tCons te tr σ H Q := h _ hq
theorem ret_lst_join {te : TE} {tr : TA} {D : Ends} {σ : L2.St} {H : Hp} (R : V → Hp → Prop)
    (h : ∀ Q : VK, (∀ v H', R v H' → Q v H') → te σ H Q)
    (hq : ∀ v H', R v H' → tr σ H' fun xs H2 => (v :: xs).length ≤ sizeLine ∧ ∀ p, H2 p = none → D.rt (.ref p) (upd H2 p (.lst (v :: xs)))) :
    tRet (tLst (tCons te tr)) D σ H := h _ hq
theorem same_new {H : Hp} {p : Addr} (h : H p = none) (o : HO) : Same H (upd H p o) := fun b u q => by
  rw [upd_ne (ne_of_none q h)]
  exact q
theorem upd_other {H : Hp} {p q : Addr} {o u : HO} (h : H q = some u) (n : H p = none) : upd H p o q = some u := by
  rw [upd_ne (ne_of_none h n)]
  exact h
/-- all stands but what is at d -/
def But (d : Addr) (H H' : Hp) : Prop := ∀ b o, b ≠ d → H b = some o → H' b = some o
theorem But.of {d : Addr} {H H' : Hp} (s : Same H H') : But d H H' := fun b o _ h => s b o h
theorem But.refl {d : Addr} {H : Hp} : But d H H := fun _ _ _ h => h
theorem But.trans {d : Addr} {H H1 H2 : Hp} (a : But d H H1) (b : But d H1 H2) : But d H H2 := fun c o n h => b c o n (a c o n h)
theorem But.upd {d : Addr} {H H' : Hp} (a : But d H H') (o : HO) : But d H (L2.upd H' d o) := fun c u n h => by
  rw [upd_ne n]
  exact a c u n h
theorem But.new {d p : Addr} {H H' : Hp} (a : But d H H') (hp : H' p = none) (o : HO) : But d H (L2.upd H' p o) := fun c u n h => by
  have z := a c u n h
  rw [upd_ne (ne_of_none z hp)]
  exact z
theorem But.seq {K : PySem.W.Frag} {d a : Addr} {H H' : Hp} {xs : List V} (e : But d H H') (n : a ≠ d) (h : SqL K H a xs) : SqL K H' a xs := by
  rcases h with (h | ⟨o, h⟩) | h
  · exact .inl (.inl (e _ _ n h))
  · exact .inl (.inr ⟨o, e _ _ n h⟩)
  · exact .inr h
theorem atI_in {α : Type} {xs : List α} {r : Int} (r0 : 0 ≤ r) (r1 : r < (xs.length : Int)) : ∃ v, v ∈ xs ∧ atI xs r = some v := by
  have hr : r.toNat < xs.length := by omega
  have er : ((r.toNat : Nat) : Int) = r := by omega
  have z := atI_nat (List.getElem?_eq_getElem hr)
  rw [er] at z
  exact ⟨_, List.getElem_mem hr, z⟩
theorem small_line {n : Nat} (h : n ≤ 1000) : n ≤ sizeLine := Nat.le_trans h (by decide)
end Hx

namespace Hx
open PySem PySem.Spec PyProof.Rows L2
/-- the data of a key -/
def keyD : Key → PyData
  | .inl i => .int i
  | .inr x => .str x
mutual
/-- at v stands the data d, in objects that are tracked -/
inductive Dq (H : Hp) : V → PyData → Prop
  | non : Dq H .non .none
  | bl (b : Bool) : Dq H (.bl b) (.bool b)
  | int (i : Int) : Dq H (.int i) (.int i)
  | str (x : Str) : Dq H (.str x) (.str x)
  | lst {a : Addr} {xs : List V} {ds : List PyData} : H a = some (.lst xs) → DqAll H xs ds → Dq H (.ref a) (.list ds)
  | tup {a : Addr} {xs : List V} {ds : List PyData} : H a = some (.tup xs) → DqAll H xs ds → Dq H (.ref a) (.tuple ds)
  | dct {a : Addr} {ks : List (Key × V)} {es : List (PyData × PyData)} : H a = some (.dK ks) → DqKv H ks es → Dq H (.ref a) (.dict es)
inductive DqAll (H : Hp) : List V → List PyData → Prop
  | nil : DqAll H [] []
  | cons {v : V} {vs : List V} {d : PyData} {ds : List PyData} : Dq H v d → DqAll H vs ds → DqAll H (v :: vs) (d :: ds)
inductive DqKv (H : Hp) : List (Key × V) → List (PyData × PyData) → Prop
  | nil : DqKv H [] []
  | cons {k : Key} {v : V} {d : PyData} {r : List (Key × V)} {es : List (PyData × PyData)} : Dq H v d → DqKv H r es → DqKv H ((k, v) :: r) ((keyD k, d) :: es)
end
mutual
theorem Dq.same {H H' : Hp} (s : Same H H') : ∀ (d : PyData) (v : V), Dq H v d → Dq H' v d
  | .none, _, h => by cases h; exact .non
  | .bool b, _, h => by cases h; exact .bl b
  | .int i, _, h => by cases h; exact .int i
  | .str x, _, h => by cases h; exact .str x
  | .list ds, _, h => by cases h with | lst e r => exact .lst (s _ _ e) (DqAll.same s ds _ r)
  | .tuple ds, _, h => by cases h with | tup e r => exact .tup (s _ _ e) (DqAll.same s ds _ r)
  | .dict es, _, h => by cases h with | dct e r => exact .dct (s _ _ e) (DqKv.same s es _ r)
theorem DqAll.same {H H' : Hp} (s : Same H H') : ∀ (ds : List PyData) (vs : List V), DqAll H vs ds → DqAll H' vs ds
  | [], _, h => by cases h; exact .nil
  | d :: ds, _, h => by cases h with | cons e r => exact .cons (Dq.same s d _ e) (DqAll.same s ds _ r)
theorem DqKv.same {H H' : Hp} (s : Same H H') : ∀ (es : List (PyData × PyData)) (ks : List (Key × V)), DqKv H ks es → DqKv H' ks es
  | [], _, h => by cases h; exact .nil
  | (_, d) :: es, _, h => by cases h with | cons e r => exact .cons (Dq.same s d _ e) (DqKv.same s es _ r)
end
section
variable {X : Cx} {pins : List (Addr × Obj)} {σ : L2.St} {H : Hp} {s : Shared}
theorem reads_key {w : World} {P : Program} {h : Heap} {k : Key} {u : Value} (e : (mixKind P w).is k u = true) : Reads h u (keyD k) [] := by
  rw [mixKind_is] at e
  rcases keyIs_shape e with ⟨i, t, rfl, rfl⟩ | ⟨x, t, rfl, rfl⟩
  · exact .int i t
  · exact .str x t
mutual
theorem Dq.reads (I : Inv X pins σ H s) : ∀ (d : PyData) (v : V) (u : Value), Dq H v d → RelV v u → ∃ as, Reads s.heap u d as ∧ ∀ b ∈ as, ∃ o, H b = some o
  | .none, _, _, h, r => by
    cases h; cases r
    exact ⟨_, Reads.none, by simp⟩
  | .bool b, _, _, h, r => by
    cases h; cases r
    exact ⟨_, Reads.bool b, by simp⟩
  | .int i, _, _, h, r => by
    cases h; obtain ⟨t, rfl⟩ := r
    exact ⟨_, Reads.int i t, by simp⟩
  | .str x, _, _, h, r => by
    cases h; obtain ⟨t, rfl⟩ := r
    exact ⟨_, Reads.str x t, by simp⟩
  | .list ds, _, _, h, r => by
    cases h with
    | @lst a xs _ e ra =>
      cases r
      obtain ⟨_, its, n, rv, hg⟩ := (show ObjOk X.prog X.w H s.heap a (.lst xs) from I.hok a _ e)
      obtain ⟨as, hr, ha⟩ := DqAll.reads I ds _ its ra rv
      refine ⟨_, Reads.list hg rfl rfl hr, fun b hb => ?_⟩
      rcases List.mem_cons.mp hb with rfl | hb
      · exact ⟨_, e⟩
      · exact ha b hb
  | .tuple ds, _, _, h, r => by
    cases h with
    | @tup a xs _ e ra =>
      cases r
      obtain ⟨_, its, rv, o, hg, hc, n, hd⟩ := (show ObjOk X.prog X.w H s.heap a (.tup xs) from I.hok a _ e)
      obtain ⟨as, hr, ha⟩ := DqAll.reads I ds _ its ra rv
      exact ⟨_, Reads.tuple hg hc hd hr, ha⟩
  | .dict es, _, _, h, r => by
    cases h with
    | @dct a ks _ e ra =>
      cases r
      obtain ⟨_, _, vs, rk, o, des, ep, hg, hx, hd, _, hp, _⟩ := (show ObjOk X.prog X.w H s.heap a (.dK ks) from I.hok a _ e)
      obtain ⟨as, bs, h1, h2, h3⟩ := DqKv.reads I es ks vs _ ra rk hp
      refine ⟨_, Reads.dict hg hx.1 hd h1 h2, fun b hb => ?_⟩
      rcases List.mem_append.mp hb with hb | hb
      · rcases List.mem_cons.mp hb with rfl | hb
        · exact ⟨_, e⟩
        · exact h3 b (List.mem_append_left _ hb)
      · exact h3 b (List.mem_append_right _ hb)
theorem DqAll.reads (I : Inv X pins σ H s) : ∀ (ds : List PyData) (vs : List V) (us : List Value), DqAll H vs ds → Vals vs us → ∃ as, ReadsAll s.heap us ds as ∧ ∀ b ∈ as, ∃ o, H b = some o
  | [], _, _, h, r => by
    cases h; cases r
    exact ⟨_, ReadsAll.nil, by simp⟩
  | d :: ds, _, _, h, r => by
    cases h with
    | cons h1 h2 =>
      cases r with
      | cons r1 r2 =>
        obtain ⟨as, q1, m1⟩ := Dq.reads I d _ _ h1 r1
        obtain ⟨bs, q2, m2⟩ := DqAll.reads I ds _ _ h2 r2
        exact ⟨_, ReadsAll.cons q1 q2, fun b hb => (List.mem_append.mp hb).elim (m1 b) (m2 b)⟩
theorem DqKv.reads (I : Inv X pins σ H s) : ∀ (es : List (PyData × PyData)) (ks : List (Key × V)) (vs : List (Key × Value)) (des : List DictEntry), DqKv H ks es → KV ks vs → Pairs (mixKind X.prog X.w) des vs →
    ∃ as bs, ReadsAll s.heap (des.map (·.key)) (es.map (·.1)) as ∧ ReadsAll s.heap (des.map (·.val)) (es.map (·.2)) bs ∧ ∀ b ∈ as ++ bs, ∃ o, H b = some o
  | [], _, _, _, h, r, p => by
    cases h; cases r; cases p
    exact ⟨_, _, ReadsAll.nil, ReadsAll.nil, by simp⟩
  | (_, d) :: es, _, _, _, h, r, p => by
    cases h with
    | cons h1 h2 =>
      cases r with
      | cons r1 r2 =>
        cases p with
        | cons p1 p2 p3 =>
          obtain ⟨as, bs, q1, q2, m⟩ := DqKv.reads I es _ _ _ h2 r2 p3
          obtain ⟨cs, q3, m3⟩ := Dq.reads I d _ _ h1 r1.2
          rw [← r1.1] at p1
          refine ⟨_, _, ReadsAll.cons (reads_key p1) q1, ReadsAll.cons (by dsimp only; rw [p2]; exact q3) q2, fun b hb => ?_⟩
          rcases List.mem_append.mp hb with hb | hb
          · exact m b (List.mem_append_left _ hb)
          · rcases List.mem_append.mp hb with hb | hb
            · exact m3 b hb
            · exact m b (List.mem_append_right _ hb)
end
end
/-- the base has sys.modules -/
def Mods (base : Heap) : Prop := ∃ o, base.get? sysModules = some o
/-- a datum that a repr may be asked of -/
def Small (d : PyData) : Prop := d.showable = true ∧ d.depth ≤ 20 ∧ d.shown.length ≤ 100000
def rRepr : List V → Hp → VK → Prop := fun xs H Q => ∃ v d, xs = [v] ∧ Dq H v d ∧ Small d ∧ Q (.str d.shown) H
section
variable {X : Cx}
theorem call_reprD (gd : X.A.guards = some []) (hu : X.A.units + 64 < cLine) (hm : Mods X.base) : CallR X (.builtin "repr") rRepr := by
  intro pins s σ H xs us Q I r h
  obtain ⟨v, d, rfl, hd, ⟨h1, h2, h3⟩, q⟩ := h
  obtain ⟨u, rfl, ru⟩ := vals1 r
  have hz : d.shown.length ≤ sizeLine := Nat.le_trans h3 (by decide)
  obtain ⟨as, hr, ha⟩ := Dq.reads I d v u hd ru
  have hno : sysModules ∉ as := fun z => by
    obtain ⟨o, e⟩ := ha _ z
    obtain ⟨b, eb⟩ := hm
    have n := (I.bs _ _ eb).2
    rw [n] at e
    cases e
  have fin : ∀ (h' : Heap) (tu : Tok) (tk : Nat), (∀ b o, s.heap.get? b = some o → h'.get? b = some o) → EP X pins σ Q (.str d.shown tu) { s with heap := h', toks := tk } :=
    fun h' tu tk k => ⟨.str d.shown, H, I.kept (t' := tk) k, ⟨_, rfl⟩, q⟩
  cases hd with
  | non => cases ru; exact P.repr_of_none (fin _ _ _ fun _ _ z => z)
  | bl b => cases ru; exact P.repr_of_bool (fin _ _ _ fun _ _ z => z)
  | int i =>
    obtain ⟨t, rfl⟩ := ru
    exact P.repr_of_int (of_decide_eq_true h1) (fin _ _ _ fun _ _ z => z)
  | str x =>
    obtain ⟨t, rfl⟩ := ru
    exact P.repr_of_str (fin _ _ _ fun _ _ z => z) hz
  | lst _ _ => cases ru; exact repr_of_reads' hr h1 (fun _ => hno) gd (by omega) (fun _ _ z => z) fin hz
  | tup _ _ => cases ru; exact repr_of_reads' hr h1 (fun _ => hno) gd (by omega) (fun _ _ z => z) fin hz
  | dct _ _ => cases ru; exact repr_of_reads' hr h1 (fun _ => hno) gd (by omega) (fun _ _ z => z) fin hz
end
end Hx

namespace Hx
open PySem PySem.Spec PyProof.Rows L2
/-- a number of the module -/
theorem pe_gint {X : Cx} {x : Str} {i : Int} {t : Tok} {pos : Pos} (hg : Gl X x) (hm : X.mg x = some (.int i t))
    (hd : (x == ("__debug__" : Str)) = false := by decide) : PE X (.Name x pos) (tC (.int i)) := pe_glob hg hm ⟨_, rfl⟩ hd
/-- a class or def of the module; a built-in class, as a value -/
theorem pe_gref {X : Cx} {x : Str} {a : Addr} {pos : Pos} (hg : Gl X x) (hm : X.mg x = some (.ref a))
    (hd : (x == ("__debug__" : Str)) = false := by decide) : PE X (.Name x pos) (tC (.ref a)) := pe_glob hg hm (show RelV (.ref a) (.ref a) from rfl) hd
theorem pe_bty {X : Cx} {x : Str} {T : String} {pos : Pos} (hg : Gl X x) (hm : X.mg x = none) (hv : bootBuiltins x = some (.type T))
    (hn : x ≠ "__name__" := by decide) (hd : (x == ("__debug__" : Str)) = false := by decide) : PE X (.Name x pos) (tC (.ty T)) :=
  pe_bltn hg hm hv (show RelV (.ty T) (.type T) from rfl) hn hd
/-- a comprehension without an if: the turn is taken -/
theorem turn_yes {σ : L2.St} {H : Hp} {R S : Hp → Prop} (h : R H) : tYes σ H fun b H3 => if b = true then R H3 else S H3 := by
  show (if true = true then R H else S H)
  rw [if_pos rfl]
  exact h
/-- the script as an object that is only read -/
def scriptO (vs : List Value) (ns : List Int) : HO := .frz { cls := .type "list", data := .seq vs.toArray } (.lst (ns.map V.int))
section
variable {P : Program} {w : World} {K : PySem.W.Frag} {mg mb : Str → Option Value} {k : Nat} {fa a : Addr} {fd : FuncData} {x : Str} {sp : Sp}
  {s1 : Shared} {vs : List Value} {ns : List Int}
theorem enter_with (H : Hp) (KX : K.In s1.heap) (hglob : s1.heap.Ns mainGlobals mg) (hblt : s1.heap.Ns builtinsNs mb)
    (hboot : ∀ x : Str, x ≠ "__name__" → mb x = bootBuiltins x) (hlim : s1.heap.NoLimit) (hmods : ∃ mm, s1.heap.Ns sysModules mm) (hgen : s1.gens = #[])
    (ha : s1.heap.get? a = some { cls := .type "list", data := .seq vs.toArray }) (room : Room k callerA)
    (F : ∀ base : Heap, K.In base → base.Ns mainGlobals mg → Mods base → GOk P w K mg base CX0 k fa fd [x] sp)
    (hbind : ∀ (s : Shared) (u : Value), BindsTo s fd ⟨[u], []⟩ [(x, u)])
    (hH : ∀ b u, H b = some u → b = a ∧ u = scriptO vs ns) (hK : ∀ u, H a = some u → K.lookup a = none) (hok : HOk P w H s1.heap)
    (hsp : sp [.ref a] H (fun v _ => v = .bl true) E0) :
    codeAny (model P w) callerA (.call (.ref fa) ⟨[.ref a], []⟩) (fun r s' => r = .ok (.ret (.bool true)) ∧ OldK s1.heap s'.heap ∧ s'.os = s1.os ∧ AllBare s'.gens) s1 := by
  have untracked : ∀ {b : Addr} {o : Obj} {es : Array DictEntry} {ep : Nat}, s1.heap.get? b = some o → o.data = .dict es ep → H b = none := by
    intro b o es ep e d
    cases hb : H b with
    | none => rfl
    | some u =>
      obtain ⟨rfl, _⟩ := hH b u hb
      rw [ha] at e
      cases e
      cases (show Data.seq vs.toArray _ = Data.dict es ep from d)
  have nsBase : ∀ {b : Addr} {m : Str → Option Value}, s1.heap.Ns b m → (hidT s1.heap H).Ns b m := fun {b m} ⟨o, es, ep, e, d, r⟩ =>
    ⟨o, es, ep, hidT_get e (untracked e d), d, r⟩
  have inBase : K.In (hidT s1.heap H) := by
    intro b o e
    refine hidT_get (KX b o e) ?_
    cases hb : H b with
    | none => rfl
    | some u =>
      obtain ⟨rfl, _⟩ := hH b u hb
      rw [hK u hb] at e
      cases e
  have modOk : Mod K mg (hidT s1.heap H) := by
    refine ⟨inBase, nsBase hglob, ⟨mb, nsBase hblt, hboot⟩, ?_⟩
    obtain ⟨mc, l1, l2⟩ := hlim
    exact ⟨mc, nsBase l1, l2⟩
  have modsOk : Mods (hidT s1.heap H) := by
    obtain ⟨mm, hm⟩ := hmods
    obtain ⟨o, es, ep, e, _⟩ := nsBase hm
    exact ⟨o, e⟩
  have start0 : Env0 P w K mg (hidT s1.heap H) callerA [] s1 H :=
    { frames := rfl, mod := modOk, bs := fun b o e => of_hidT e, bsz := Nat.le_of_eq (hidT_size _ _), funs := trivial,
      frf := fun b hb => absurd (show b ∈ ([] : List Addr) from hb) (by simp), hok := hok, bare := .of_eq hgen }
  have run := (F _ inBase (nsBase hglob) modsOk).goes callerA [] s1 H ⟨[.ref a], []⟩ [.ref a] [.ref a] _ _ room rfl start0 (hbind s1 (.ref a)) (.cons rfl .nil) hsp
  refine codeAny_mono run ?_
  intro r s' hr
  cases r with
  | error e => exact (show False from hr).elim
  | ok fl =>
    cases fl with
    | next => exact hr.elim
    | brk => exact hr.elim
    | cont => exact hr.elim
    | ret u =>
      obtain ⟨v, H', osEq, bare, un, hok', rel, rfl⟩ := hr
      cases (show u = Value.bool true from rel)
      refine ⟨rfl, OldK.of_keep ?_, osEq, bare⟩
      intro b o e
      cases hb : H b with
      | none => exact un.keep b o e hb (fun z => absurd (show b ∈ ([] : List Addr) from z) (by simp)) (by simp)
      | some u =>
        obtain ⟨rfl, rfl⟩ := hH b u hb
        have stay := un.frzs b _ _ hb
        obtain ⟨e1, _⟩ := hok b _ hb
        obtain ⟨e2, _⟩ := hok' b _ stay
        rw [e] at e1
        rw [e2, ← Option.some.inj e1]

theorem law_enter (KX : K.In s1.heap) (hglob : s1.heap.Ns mainGlobals mg) (hblt : s1.heap.Ns builtinsNs mb)
    (hboot : ∀ x : Str, x ≠ "__name__" → mb x = bootBuiltins x) (hlim : s1.heap.NoLimit) (hmods : ∃ mm, s1.heap.Ns sysModules mm) (hgen : s1.gens = #[])
    (ha : s1.heap.get? a = some { cls := .type "list", data := .seq vs.toArray }) (hi : IntsAre vs ns) (hl : ns.length ≤ sizeLine) (room : Room k callerA)
    (F : ∀ base : Heap, K.In base → base.Ns mainGlobals mg → Mods base → GOk P w K mg base CX0 k fa fd [x] sp)
    (hbind : ∀ (s : Shared) (u : Value), BindsTo s fd ⟨[u], []⟩ [(x, u)])
    (hsp : ∀ H : Hp, SqL K H a (ns.map V.int) → sp [.ref a] H (fun v _ => v = .bl true) E0) :
    codeAny (model P w) callerA (.call (.ref fa) ⟨[.ref a], []⟩) (fun r s' => r = .ok (.ret (.bool true)) ∧ OldK s1.heap s'.heap ∧ s'.os = s1.os ∧ AllBare s'.gens) s1 := by
  have rel := vals_ints hi
  cases hk : K.lookup a with
  | some o =>
    have e := KX a o hk
    rw [ha] at e
    cases e
    refine enter_with (ns := ns) (fun _ => none) KX hglob hblt hboot hlim hmods hgen ha room F hbind (fun _ _ z => by cases z) (fun _ z => by cases z) (fun _ _ z => by cases z) ?_
    refine hsp _ (.inr ⟨_, vs.toArray, _, hk, rfl, rfl, rfl, ?_, by simpa using rel⟩)
    rw [List.size_toArray, hi.length]
    exact hl
  | none =>
    have at_a : (fun b => if b = a then some (scriptO vs ns) else none : Hp) a = some (scriptO vs ns) := if_pos rfl
    refine enter_with (ns := ns) (fun b => if b = a then some (scriptO vs ns) else none) KX hglob hblt hboot hlim hmods hgen ha room F hbind ?_ (fun _ _ => hk) ?_ (hsp _ (.inl (.inr ⟨_, at_a⟩)))
    · intro b u z
      by_cases hb : b = a
      · exact ⟨hb, (Option.some.inj ((if_pos hb).symm.trans z)).symm⟩
      · cases (if_neg hb).symm.trans z
    · intro b u z
      by_cases hb : b = a
      · have e := Option.some.inj ((if_pos hb).symm.trans z)
        subst hb
        subst e
        exact ⟨ha, by rw [List.length_map]; exact hl, vs, _, rel, ha⟩
      · cases (if_neg hb).symm.trans z
end
/-- the goal that k_head leaves, for a law whose defs ask that no guard stands below -/
theorem walk_G {l : PySem.W.OpenLaw} {n k : Nat} {q : Program} {loose : List Str} {XP : (Str → Option Value) → Heap → Prop} {YP : World → Heap → Prop} {d : DefRec}
    {K : Params → PySem.W.Frag} {sp : PySem.W.Frag → Sp} {x : Str} (hn : l.most = some n) (hn2 : n ≤ sizeLine) (hdf : d.params.defaults = []) (room : Room k callerA)
    (himp : importsNone q = true) (hY : ∀ (w : World) (h : Heap), YP w h → (K w.params).In h)
    (F : ∀ (w : World) (mg : Str → Option Value) (fa : Addr) (h : Heap), (K w.params).In h → h.Ns mainGlobals mg → mg d.name = some (.ref fa) →
      ∃ fd : FuncData, (∀ (s : Shared) (u : Value), BindsTo s fd ⟨[u], []⟩ [(x, u)]) ∧
        ∀ base : Heap, (K w.params).In base → base.Ns mainGlobals mg → Mods base → GOk l.prog w (K w.params) mg base CX0 k fa fd [x] (sp (K w.params)))
    (hsp : ∀ (K : PySem.W.Frag) (H : Hp) (a : Addr) (ns : List Int), ns.length ≤ n → SqL K H a (ns.map V.int) → sp K [.ref a] H (fun v _ => v = .bl true) E0) :
    PySem.W.WalkO q loose XP YP l.row.toRowW d [] (fun f vs => PySem.call f vs) := by
  refine Att.attach_call hn hdf ?_
  intro w s0 s1 mg mb fa o pm cd doc a vs ns G Y ho hd hcd hmg hobj hints hlen hgen
  have KX := hY w _ Y
  obtain ⟨fd, hb, hF⟩ := F w mg fa _ KX G.T.g hmg
  obtain ⟨mm, hmm, _⟩ := (G.T.seer himp).mods
  exact law_enter KX G.T.g G.T.b G.T.builtins G.T.nolimit ⟨mm, hmm⟩ hgen hobj hints (Nat.le_trans hlen hn2) room hF hb fun H hS => hsp _ H a ns hlen hS
end Hx

namespace Wp
open PySem PySem.Spec PyProof.Rows L2
def top (i : Nat) : Stmt := PySem.Challenge.pw_wovenplaces_k06_whole_reader.main.body.getD i (.Pass ⟨0, 0, 0, 0⟩)
abbrev c_WrongValue : Stmt := top 1
abbrev c_InvalidNumber : Stmt := top 2
abbrev s_InvalidNumber_init : Stmt := inClass (top 2) 0
abbrev c_InvalidName : Stmt := top 3
abbrev s_InvalidName_init : Stmt := inClass (top 3) 0
abbrev c_InvalidSign : Stmt := top 4
abbrev s_InvalidSign_init : Stmt := inClass (top 4) 0
abbrev c_InvalidWord : Stmt := top 5
abbrev s_InvalidWord_init : Stmt := inClass (top 5) 0
abbrev c_InvalidText : Stmt := top 6
abbrev s_InvalidText_init : Stmt := inClass (top 6) 0
abbrev c_InvalidExpression : Stmt := top 7
abbrev s_InvalidExpression_init : Stmt := inClass (top 7) 0
abbrev s_is_integer : Stmt := top 16
abbrev s_is_within : Stmt := top 17
abbrev s_is_lettered : Stmt := top 18
abbrev s_is_name : Stmt := top 19
abbrev s_check_within : Stmt := top 20
abbrev s_check_sign : Stmt := top 21
abbrev s_check_name : Stmt := top 22
abbrev s_check_word : Stmt := top 23
abbrev s_knots_above : Stmt := top 25
abbrev s_exchange : Stmt := top 26
abbrev s_spelled : Stmt := top 28
abbrev c_Facts : Stmt := top 29
abbrev s_Facts_init : Stmt := inClass (top 29) 0
abbrev s_piece_at : Stmt := top 34
abbrev s_pieces_of : Stmt := top 35
abbrev s_ahead_of : Stmt := top 36
abbrev s_knot_of : Stmt := top 37
abbrev s_closed : Stmt := top 38
abbrev s_read_text : Stmt := top 39
abbrev c_Expression : Stmt := top 41
abbrev s_Expression_kind : Stmt := inClass (top 41) 0
abbrev s_Expression_inner : Stmt := inClass (top 41) 1
abbrev s_Expression_told : Stmt := inClass (top 41) 2
abbrev s_Expression_names : Stmt := inClass (top 41) 3
abbrev s_Expression_knots : Stmt := inClass (top 41) 4
abbrev s_Expression_str : Stmt := inClass (top 41) 5
abbrev s_Expression_repr : Stmt := inClass (top 41) 6
abbrev s_Expression_eq : Stmt := inClass (top 41) 7
abbrev s_Expression_add : Stmt := inClass (top 41) 8
abbrev s_Expression_rshift : Stmt := inClass (top 41) 9
abbrev s_Expression_exchanged : Stmt := inClass (top 41) 10
abbrev c_Sign : Stmt := top 42
abbrev s_Sign_init : Stmt := inClass (top 42) 0
abbrev s_Sign_kind : Stmt := inClass (top 42) 1
abbrev s_Sign_inner : Stmt := inClass (top 42) 2
abbrev s_Sign_told : Stmt := inClass (top 42) 3
abbrev s_Sign_names : Stmt := inClass (top 42) 4
abbrev s_Sign_knots : Stmt := inClass (top 42) 5
abbrev s_Sign_str : Stmt := inClass (top 42) 6
abbrev s_Sign_repr : Stmt := inClass (top 42) 7
abbrev s_Sign_eq : Stmt := inClass (top 42) 8
abbrev s_Sign_add : Stmt := inClass (top 42) 9
abbrev s_Sign_rshift : Stmt := inClass (top 42) 10
abbrev s_Sign_exchanged : Stmt := inClass (top 42) 11
abbrev c_Name : Stmt := top 43
abbrev s_Name_init : Stmt := inClass (top 43) 0
abbrev s_Name_kind : Stmt := inClass (top 43) 1
abbrev s_Name_inner : Stmt := inClass (top 43) 2
abbrev s_Name_told : Stmt := inClass (top 43) 3
abbrev s_Name_names : Stmt := inClass (top 43) 4
abbrev s_Name_knots : Stmt := inClass (top 43) 5
abbrev s_Name_str : Stmt := inClass (top 43) 6
abbrev s_Name_repr : Stmt := inClass (top 43) 7
abbrev s_Name_eq : Stmt := inClass (top 43) 8
abbrev s_Name_add : Stmt := inClass (top 43) 9
abbrev s_Name_rshift : Stmt := inClass (top 43) 10
abbrev s_Name_exchanged : Stmt := inClass (top 43) 11
abbrev c_Weave : Stmt := top 44
abbrev s_Weave_init : Stmt := inClass (top 44) 0
abbrev s_Weave_kind : Stmt := inClass (top 44) 1
abbrev s_Weave_inner : Stmt := inClass (top 44) 2
abbrev s_Weave_told : Stmt := inClass (top 44) 3
abbrev s_Weave_names : Stmt := inClass (top 44) 4
abbrev s_Weave_knots : Stmt := inClass (top 44) 5
abbrev s_Weave_str : Stmt := inClass (top 44) 6
abbrev s_Weave_repr : Stmt := inClass (top 44) 7
abbrev s_Weave_eq : Stmt := inClass (top 44) 8
abbrev s_Weave_add : Stmt := inClass (top 44) 9
abbrev s_Weave_rshift : Stmt := inClass (top 44) 10
abbrev s_Weave_exchanged : Stmt := inClass (top 44) 11
abbrev c_Part : Stmt := top 45
abbrev s_Part_init : Stmt := inClass (top 45) 0
abbrev s_Part_kind : Stmt := inClass (top 45) 1
abbrev s_Part_inner : Stmt := inClass (top 45) 2
abbrev s_Part_told : Stmt := inClass (top 45) 3
abbrev s_Part_names : Stmt := inClass (top 45) 4
abbrev s_Part_knots : Stmt := inClass (top 45) 5
abbrev s_Part_str : Stmt := inClass (top 45) 6
abbrev s_Part_repr : Stmt := inClass (top 45) 7
abbrev s_Part_eq : Stmt := inClass (top 45) 8
abbrev s_Part_add : Stmt := inClass (top 45) 9
abbrev s_Part_rshift : Stmt := inClass (top 45) 10
abbrev s_Part_exchanged : Stmt := inClass (top 45) 11
abbrev c_Drop : Stmt := top 46
abbrev s_Drop_init : Stmt := inClass (top 46) 0
abbrev s_Drop_kind : Stmt := inClass (top 46) 1
abbrev s_Drop_inner : Stmt := inClass (top 46) 2
abbrev s_Drop_told : Stmt := inClass (top 46) 3
abbrev s_Drop_names : Stmt := inClass (top 46) 4
abbrev s_Drop_knots : Stmt := inClass (top 46) 5
abbrev s_Drop_str : Stmt := inClass (top 46) 6
abbrev s_Drop_repr : Stmt := inClass (top 46) 7
abbrev s_Drop_eq : Stmt := inClass (top 46) 8
abbrev s_Drop_add : Stmt := inClass (top 46) 9
abbrev s_Drop_rshift : Stmt := inClass (top 46) 10
abbrev s_Drop_exchanged : Stmt := inClass (top 46) 11
abbrev c_Lead : Stmt := top 47
abbrev s_Lead_init : Stmt := inClass (top 47) 0
abbrev s_Lead_kind : Stmt := inClass (top 47) 1
abbrev s_Lead_inner : Stmt := inClass (top 47) 2
abbrev s_Lead_told : Stmt := inClass (top 47) 3
abbrev s_Lead_names : Stmt := inClass (top 47) 4
abbrev s_Lead_knots : Stmt := inClass (top 47) 5
abbrev s_Lead_str : Stmt := inClass (top 47) 6
abbrev s_Lead_repr : Stmt := inClass (top 47) 7
abbrev s_Lead_eq : Stmt := inClass (top 47) 8
abbrev s_Lead_add : Stmt := inClass (top 47) 9
abbrev s_Lead_rshift : Stmt := inClass (top 47) 10
abbrev s_Lead_exchanged : Stmt := inClass (top 47) 11
abbrev c_Turn : Stmt := top 48
abbrev s_Turn_init : Stmt := inClass (top 48) 0
abbrev s_Turn_kind : Stmt := inClass (top 48) 1
abbrev s_Turn_inner : Stmt := inClass (top 48) 2
abbrev s_Turn_told : Stmt := inClass (top 48) 3
abbrev s_Turn_names : Stmt := inClass (top 48) 4
abbrev s_Turn_knots : Stmt := inClass (top 48) 5
abbrev s_Turn_str : Stmt := inClass (top 48) 6
abbrev s_Turn_repr : Stmt := inClass (top 48) 7
abbrev s_Turn_eq : Stmt := inClass (top 48) 8
abbrev s_Turn_add : Stmt := inClass (top 48) 9
abbrev s_Turn_rshift : Stmt := inClass (top 48) 10
abbrev s_Turn_exchanged : Stmt := inClass (top 48) 11
abbrev s_check_expressions : Stmt := top 49
abbrev s_make : Stmt := top 50
abbrev s_exchanged_in : Stmt := top 51
abbrev s_read_expression : Stmt := top 52
abbrev s_law_deck : Stmt := top 54
abbrev s_law_card : Stmt := top 55
abbrev s_law_of : Stmt := top 56
abbrev s_law_leaf : Stmt := top 57
abbrev s_law_tree : Stmt := top 58
abbrev s_law_titles : Stmt := top 59
abbrev s_law_signs : Stmt := top 60
abbrev s_law_text : Stmt := top 61
abbrev s_law_letters : Stmt := top 62
abbrev s_law_head : Stmt := top 63
abbrev s_law_end : Stmt := top 64
abbrev s_law_spoiled : Stmt := top 65
abbrev s_law_right : Stmt := top 66
abbrev s_law : Stmt := top 67
end Wp

namespace Wp
open PySem PySem.Spec PyProof.Rows L2 Hx
/-! the head of the program by one run: facts by names -/
/-- a def of the text and where it stands -/
structure DA where
  adr : PySem.W.Frag → Addr
  name : Str
  qual : Str
  st : Stmt
abbrev FnV : Type := He.FnV
def faA (K : PySem.W.Frag) (a : Addr) : FnV := match K.lookup a with
  | some ⟨_, _, .func u, _⟩ => some (u.name, u.qualname, u.params, u.body, u.scope, u.globals, u.closure, u.defaults, u.builtins)
  | _ => none
def DA.val (d : DA) : FnV := some (d.name, d.qual, defArgs d.st, .stmts (defBody d.st), defScope d.st, mainGlobals, [], .none, builtinsNs)
def DA.ok (K : PySem.W.Frag) (d : DA) : Bool := PySem.W.keepIn K (.ref (d.adr K)) && (match K.lookup (d.adr K) with
  | some ⟨_, _, .func u, _⟩ => PySem.W.codeIn K u.code d.qual
  | _ => false)
theorem DA.fun {K : PySem.W.Frag} {d : DA} (e : faA K (d.adr K) = d.val) (c : d.ok K = true) : ∃ fd, Fun K d.name d.qual d.st (d.adr K) fd := by
  obtain ⟨kp, c2⟩ := Bool.and_eq_true_iff.mp c
  unfold faA at e
  cases q : K.lookup (d.adr K) with
  | none =>
    rw [q] at c2
    cases c2
  | some o =>
    obtain ⟨oc, od, dt, osl⟩ := o
    rw [q] at c2 e
    cases dt with
    | func fd =>
      obtain ⟨v1, v2, v3, v4, v5, v6, v7, v8, v9, v10, v11, v12, v13, v14, v15⟩ := fd
      have e2 : (some (v1, v2, v3, v4, v5, v6, v7, v8, v15) : FnV) = some (d.name, d.qual, defArgs d.st, .stmts (defBody d.st), defScope d.st, mainGlobals, [], .none, builtinsNs) := e
      simp only [Option.some.injEq, Prod.mk.injEq] at e2
      obtain ⟨w1, w2, w3, w4, w5, w6, w7, w8, w9⟩ := e2
      subst w1 w2 w3 w4 w5 w6 w7 w8 w9
      exact ⟨_, ⟨oc, od, v9, v10, v11, v12, v13, v14, osl, rfl, q, c2⟩, kp⟩
    | _ => cases c2
abbrev AlZ : Type := Bool × List FnV
def obsZ (ex : PySem.W.Frag → Bool) (ds : List DA) (K : PySem.W.Frag) : AlZ := (ex K && ds.all fun d => d.ok K, ds.map fun d => faA K (d.adr K))
def valZ (ds : List DA) : AlZ := (true, ds.map DA.val)
def SaysZ (ex : PySem.W.Frag → Bool) (ds : List DA) (K : PySem.W.Frag) : Prop := obsZ ex ds K = valZ ds
/-! the addresses that are looked at: the module's names, the classes' own names, getters, code -/
def codesG (g : Addr → Option Obj) (a : Addr) : List Addr := match g a with
  | some ⟨_, _, .func fd, _⟩ => He.refV fd.code
  | _ => []
def nssG (g : Addr → Option Obj) (a : Addr) : List Addr := match g a with
  | some ⟨_, _, .cls cd, _⟩ => [cd.ns]
  | _ => []
def valsG (g : Addr → Option Obj) (a : Addr) : List Addr := match g a with
  | some ⟨_, _, .dict es _, _⟩ => es.toList.flatMap fun e => He.refV e.val
  | _ => []
def fldsG (g : Addr → Option Obj) (a : Addr) : List Addr := match g a with
  | some ⟨_, _, .fields vs, _⟩ => vs.toList.flatMap He.refV
  | _ => []
def asZ3 (g : Addr → Option Obj) (A N M G : List Addr) : List Addr := mainGlobals :: (N ++ (A ++ (M ++ (G ++ (A.flatMap (codesG g) ++ (M.flatMap (codesG g) ++ G.flatMap (codesG g)))))))
def asZ2 (g : Addr → Option Obj) (A N M : List Addr) : List Addr := asZ3 g A N M (M.flatMap (fldsG g))
def asZ1 (g : Addr → Option Obj) (A N : List Addr) : List Addr := asZ2 g A N (N.flatMap (valsG g))
def asZ0 (g : Addr → Option Obj) (A : List Addr) : List Addr := asZ1 g A (A.flatMap (nssG g))
def asZ (g : Addr → Option Obj) : List Addr := asZ0 g (valsG g mainGlobals)
def obsZG (ex : PySem.W.Frag → Bool) (ds : List DA) (g : Addr → Option Obj) : AlZ := obsZ ex ds (He.frG g (asZ g))
/-! with the tables that have text keys -/
abbrev TabN : Type := Str × List Str
abbrev AlS : Type := AlZ × List (Option (List (Option (Str × Int))))
def obsTb (ts : List TabN) (K : PySem.W.Frag) : List (Option (List (Option (Str × Int)))) := ts.map fun t => He.dicW K (He.ga K t.1)
def valTb (ts : List TabN) (w : World) : List (Option (List (Option (Str × Int)))) := ts.map fun t => some (He.keysIn w.params t.2)
def SaysTb (ts : List TabN) (w : World) (K : PySem.W.Frag) : Prop := obsTb ts K = valTb ts w
def obsSK (ex : PySem.W.Frag → Bool) (ds : List DA) (ts : List TabN) (K : PySem.W.Frag) : AlS := (obsZ ex ds K, obsTb ts K)
def obsSG (ex : PySem.W.Frag → Bool) (ds : List DA) (ts : List TabN) (g : Addr → Option Obj) : AlS := obsSK ex ds ts (He.frG g (asZ g))
def hookS (ex : PySem.W.Frag → Bool) (ds : List DA) (ts : List TabN) : PySem.W.Hook where
  α := AlS
  obs := fun s => obsSG ex ds ts s.heap.get?
  val := fun w => (valZ ds, valTb ts w)
  says := fun w h => ∃ K : PySem.W.Frag, K.In h ∧ SaysZ ex ds K ∧ SaysTb ts w K
  of := fun _ _ e => ⟨_, He.frG_in, congrArg Prod.fst e, congrArg Prod.snd e⟩
  keeps := fun _ _ _ ⟨K, isIn, says, t⟩ more => ⟨K, PySem.W.Frag.In.keeps isIn more, says, t⟩
theorem obsSG_eq {ex : PySem.W.Frag → Bool} {ds : List DA} {ts : List TabN} {g : Addr → Option Obj} {s : Shared} (h : ∀ a, g a = s.heap.get? a) : obsSG ex ds ts g = (hookS ex ds ts).obs s := by
  have e : g = s.heap.get? := funext h
  rw [e] <;> rfl
theorem SaysTb.dic {ts : List TabN} {w : World} {K : PySem.W.Frag} (c : SaysTb ts w K) (i : Nat) {t : TabN} (h : ts[i]? = some t := by rfl) : He.dicW K (He.ga K t.1) = some (He.keysIn w.params t.2) := by
  have c2 : ts.map (fun t => He.dicW K (He.ga K t.1)) = ts.map fun t => some (He.keysIn w.params t.2) := c
  have c3 := congrArg (fun l => l[i]?) c2
  simp only [List.getElem?_map, h, Option.map_some] at c3
  exact Option.some.inj c3
theorem SaysTb.tab {ts : List TabN} {w : World} {K : PySem.W.Frag} (c : SaysTb ts w K) (i : Nat) {t : TabN} (h : ts[i]? = some t := by rfl) : ∃ es n, KDict K w (He.ga K t.1) es n := by
  have c2 : ts.map (fun t => He.dicW K (He.ga K t.1)) = ts.map fun t => some (He.keysIn w.params t.2) := c
  have c3 := congrArg (fun l => l[i]?) c2
  simp only [List.getElem?_map, h, Option.map_some] at c3
  exact He.dicW_ok (Option.some.inj c3)
theorem SaysZ.ex {ex : PySem.W.Frag → Bool} {ds : List DA} {K : PySem.W.Frag} (c : SaysZ ex ds K) : ex K = true := by
  have c1 : (ex K && ds.all fun d => d.ok K) = true := congrArg (fun z : AlZ => z.1) c
  exact (Bool.and_eq_true_iff.mp c1).1
theorem SaysZ.def_ {ex : PySem.W.Frag → Bool} {ds : List DA} {K : PySem.W.Frag} (c : SaysZ ex ds K) (i : Nat) {d : DA} (h : ds[i]? = some d := by rfl) : ∃ fd, Fun K d.name d.qual d.st (d.adr K) fd := by
  have c1 : (ex K && ds.all fun d => d.ok K) = true := congrArg (fun z : AlZ => z.1) c
  have c2 := (Bool.and_eq_true_iff.mp c1).2
  have e : ds.map (fun d => faA K (d.adr K)) = ds.map DA.val := congrArg (fun z : AlZ => z.2) c
  have e2 : (ds.map fun d => faA K (d.adr K))[i]? = (ds.map DA.val)[i]? := by rw [e]
  rw [List.getElem?_map, List.getElem?_map, h] at e2
  exact DA.fun (Option.some.inj e2) (List.all_eq_true.mp c2 d (List.mem_of_getElem? h))
/-! where things stand -/
def gA (x : Str) (K : PySem.W.Frag) : Addr := He.ga K x
def mA (x m : Str) (K : PySem.W.Frag) : Addr := He.ma K (He.ga K x) m
/-- the getter of a property -/
def pG (x m : Str) (K : PySem.W.Frag) : Addr := match PySem.W.recIn K (He.ma K (He.ga K x) m) "property" with
  | some (.ref g :: _) => g
  | _ => 0
def pB (x m : Str) (K : PySem.W.Frag) : Bool := He.eqO (PySem.W.findIn K (.ref (He.ga K x)) m) (some (some (.ref (He.ma K (He.ga K x) m)))) &&
  (He.eqO (PySem.W.specialIn K (.ref (He.ma K (He.ga K x) m)) "__get__") (some (some (.builtin "property.__get__"))) &&
  (decide (PySem.W.takesIn K (.ref (He.ma K (He.ga K x) m)) = some true) && (match PySem.W.recIn K (He.ma K (He.ga K x) m) "property" with
  | some (.ref _ :: _) => true
  | _ => false)))
theorem pB_ok {K : PySem.W.Frag} {x m : Str} (h : pB x m K = true) : PropOf K (He.ga K x) m (He.ma K (He.ga K x) m) (pG x m K) := by
  obtain ⟨h1, h⟩ := Bool.and_eq_true_iff.mp h
  obtain ⟨h2, h⟩ := Bool.and_eq_true_iff.mp h
  obtain ⟨h3, h4⟩ := Bool.and_eq_true_iff.mp h
  refine ⟨He.eqO_ok h1, He.eqO_ok h2, of_decide_eq_true h3, ?_⟩
  unfold pG
  revert h4
  split
  · rename_i g r e
    intro _
    exact ⟨r, e⟩
  · intro h
    cases h
end Wp

namespace Wp
open PySem PySem.Spec PyProof.Rows L2 Hx
/-! what the head shows, and the run that shows it -/
def errsX : List Str := ["InvalidNumber", "InvalidName", "InvalidSign", "InvalidWord", "InvalidText", "InvalidExpression"]
def exErr (K : PySem.W.Frag) (x : Str) : Bool :=
  He.eqO (PySem.W.nsIn K mainGlobals x) (some (some (.ref (He.ga K x)))) && (PySem.W.excInitIn K (He.ga K x) He.veBase "ValueError.__new__" && (PySem.W.excOver K (He.ga K x) He.veBase && (PySem.W.hasDictIn K (He.ga K x) &&
  (He.eqO (PySem.W.findIn K (.ref (He.ga K x)) "__setattr__") (some (some (.builtin "object.__setattr__"))) && (He.eqO (PySem.W.findIn K (.ref (He.ga K x)) "__getattribute__") (some (some (.builtin "BaseException.__getattribute__"))) &&
  (He.eqO (PySem.W.findIn K (.ref (He.ga K x)) "__getattr__") (some none) && (decide (PySem.W.subIn K (.ref (He.ga K x)) (.type "BaseException") = some true) && (PySem.W.keepIn K (.ref (He.ga K x)) &&
  (He.eqO (PySem.W.findIn K (.ref (He.ga K x)) "__class__") (some (some (.builtin "object.__class__"))) && (decide (PySem.W.mroIn K (He.ga K x) (.type "object") = some true) &&
  (He.eqO (PySem.W.findIn K (.ref (He.ga K x)) "__init__") (some (some (.ref (He.ma K (He.ga K x) "__init__")))) && (decide (PySem.W.typeIn K (.ref (He.ma K (He.ga K x) "__init__")) = some (.type "function")) &&
  (decide (PySem.W.takerIn K (He.ga K x) "given" = some none) && (He.eqO (PySem.W.findIn K (.ref (He.ga K x)) "given") (some none) && decide (PySem.W.typeIn K (.ref (He.ga K x)) = some (.type "type"))))))))))))))))
def cnX : List Str := ["Drop", "Lead", "Name", "Part", "Sign", "Turn", "Weave"]
def propsX : List Str := ["kind", "inner", "told", "names", "knots"]
def exCls (K : PySem.W.Frag) (x : Str) : Bool :=
  (He.Fa.glo x).ok K && ((He.Fa.cls x).ok K && ((He.Fa.mkr x).ok K && ((He.Fa.noat x "facts").ok K && ((He.Fa.meth x "__str__").ok K && ((He.Fa.meth x "__repr__").ok K && (propsX.all (fun p => pB x p K) &&
  (He.eqO (PySem.W.findIn K (.ref (He.ga K x)) "__class__") (some (some (.builtin "object.__class__"))) && (decide (PySem.W.mroIn K (He.ga K x) (.type "object") = some true) &&
  (cnX.all (fun y => decide (PySem.W.kitOne K (.ref (He.ga K x)) (.ref (He.ga K y)) = some (decide (x = y)))) && decide (PySem.W.kitOne K (.ref (He.ga K x)) (.ref (He.ga K "Expression")) = some true))))))))))
def exFacts (K : PySem.W.Frag) : Bool := (He.Fa.glo "Facts").ok K && ((He.Fa.cls "Facts").ok K && ((He.Fa.mkr "Facts").ok K && (["word", "marks", "parts", "text", "labels", "size"] : List Str).all fun f => (He.Fa.noat "Facts" f).ok K))
def exOld (K : PySem.W.Frag) : Bool := He.eqO (PySem.W.specialIn K (.builtin "object.__class__") "__get__") (some (some (.builtin "getset_descriptor.__get__"))) && decide (PySem.W.takesIn K (.builtin "object.__class__") = some true)
def glosX1 : List Str := ["is_integer", "is_within", "is_lettered", "is_name", "check_within", "check_sign", "check_name", "check_word", "spelled", "check_expressions", "piece_at", "pieces_of", "ahead_of", "knot_of", "closed", "read_text", "make", "read_expression"]
def glosX2 : List Str := ["_law_deck", "_law_card", "_law_of", "_law_leaf", "_law_tree", "_law_titles", "_law_signs", "_law_text", "_law_letters", "_law_head", "_law_end", "_law_spoiled", "_law_right", "law", "Expression", "NO_NAMES", "WrongValue", "AHEAD", "BEHIND"]
def glosX : List Str := glosX1 ++ glosX2
def freeX : List Str := ["isinstance", "int", "bool", "str", "len", "all", "list", "set", "sorted", "tuple", "sum", "abs", "divmod", "range", "max", "min", "repr", "any"]
def exConsts (K : PySem.W.Frag) : Bool := (He.Fa.str "LETTERS" "abcdefghijklmnopqrstuvwxyz").ok K && ((He.Fa.int "MOST_LETTERS" 8).ok K && ((He.Fa.int "MOST_SIGNS" 4).ok K && ((He.Fa.int "MOST_BASE" 4).ok K && ((He.Fa.int "LEAST_BASE" 2).ok K && ((He.Fa.int "MOST_DROP" 9).ok K &&
  He.tupB K "NO_NAMES" [.str "weave", .str "part", .str "drop", .str "lead", .str "turn"])))))
def tyX : List String := ["NoneType", "bool", "int", "str", "list", "tuple"]
def exEq1 (K : PySem.W.Frag) (x : Str) : Bool := tyX.all (fun T => PySem.W.notFirst K (He.ga K x) (.type T)) && (cnX.all (fun y => PySem.W.notFirst K (He.ga K x) (.ref (He.ga K y))) && (He.eqO (PySem.W.findIn K (.ref (He.ga K x)) "__bool__") (some none) &&
  (He.eqO (PySem.W.findIn K (.ref (He.ga K x)) "__len__") (some none) && ((He.Fa.meth x "__eq__").ok K && He.eqO (PySem.W.findIn K (.ref (He.ga K x)) "__ne__") (some (some (.builtin "object.__ne__")))))))
def exEq (K : PySem.W.Frag) : Bool := tyX.all (fun T => decide (PySem.W.kitOne K (.type T) (.ref (He.ga K "Expression")) = some false)) && cnX.all (exEq1 K)
def readX : List Str := ["InvalidSign", "InvalidName", "InvalidText", "InvalidNumber", "InvalidWord"]
/-- the number at a key of a table -/
def intB (K : PySem.W.Frag) (a : Addr) (p : Str × Int) : Bool := match PySem.W.nsIn K a p.1 with
  | some (some (.int j _)) => decide (j = p.2)
  | _ => false
theorem intB_ok {K : PySem.W.Frag} {a : Addr} {p : Str × Int} (h : intB K a p = true) : ∃ t, PySem.W.nsIn K a p.1 = some (some (.int p.2 t)) := by
  unfold intB at h
  split at h
  · rename_i j t e
    rw [e, of_decide_eq_true h]
    exact ⟨t, rfl⟩
  · cases h
def exRead (K : PySem.W.Frag) : Bool := readX.all (fun x => decide (PySem.W.exmOne K (.ref (He.ga K x)) (.ref (He.ga K "WrongValue")) = some true)) && (decide (PySem.W.exmOne K (.ref (He.ga K "InvalidText")) (.ref (He.ga K "InvalidText")) = some true) &&
  (xfB K (He.ga K "InvalidText") && (cnX.all (fun x => decide (PySem.W.kitOne K (.ref (He.ga K x)) (.type "str") = some false) && (decide (PySem.W.kitOne K (.ref (He.ga K x)) (.type "int") = some false) && decide (PySem.W.kitOne K (.ref (He.ga K x)) (.type "bool") = some false))) && ((He.Fa.str "FIGURES" "0123456789").ok K &&
  (([("weave", 0), ("part", 2), ("drop", 1), ("lead", 0), ("turn", 1)] : List (Str × Int)).all (intB K (He.ga K "AHEAD")) && (([("part", 1), ("drop", 1), ("lead", 2), ("turn", 1)] : List (Str × Int)).all (intB K (He.ga K "BEHIND")) &&
  He.eqO (PySem.W.nsIn K (He.ga K "BEHIND") "weave") (some none)))))))
def exX (K : PySem.W.Frag) : Bool := errsX.all (exErr K) && (cnX.all (exCls K) && (exFacts K && (exOld K && (glosX.all (fun x => (He.Fa.glo x).ok K) && (freeX.all (fun x => (He.Fa.free x).ok K) && (exConsts K && (exEq K && exRead K)))))))

def dsX0 : List DA := [
  ⟨gA "is_integer", "is_integer", "is_integer", s_is_integer⟩,
  ⟨gA "is_within", "is_within", "is_within", s_is_within⟩,
  ⟨gA "is_lettered", "is_lettered", "is_lettered", s_is_lettered⟩,
  ⟨gA "is_name", "is_name", "is_name", s_is_name⟩,
  ⟨gA "check_within", "check_within", "check_within", s_check_within⟩,
  ⟨gA "check_sign", "check_sign", "check_sign", s_check_sign⟩,
  ⟨gA "check_name", "check_name", "check_name", s_check_name⟩,
  ⟨gA "check_word", "check_word", "check_word", s_check_word⟩,
  ⟨gA "spelled", "spelled", "spelled", s_spelled⟩,
  ⟨gA "check_expressions", "check_expressions", "check_expressions", s_check_expressions⟩,
  ⟨gA "piece_at", "piece_at", "piece_at", s_piece_at⟩,
  ⟨gA "pieces_of", "pieces_of", "pieces_of", s_pieces_of⟩,
  ⟨gA "ahead_of", "ahead_of", "ahead_of", s_ahead_of⟩,
  ⟨gA "knot_of", "knot_of", "knot_of", s_knot_of⟩,
  ⟨gA "closed", "closed", "closed", s_closed⟩,
  ⟨gA "read_text", "read_text", "read_text", s_read_text⟩,
  ⟨gA "make", "make", "make", s_make⟩,
  ⟨gA "read_expression", "read_expression", "read_expression", s_read_expression⟩,
  ⟨gA "_law_deck", "_law_deck", "_law_deck", s_law_deck⟩,
  ⟨gA "_law_card", "_law_card", "_law_card", s_law_card⟩,
  ⟨gA "_law_of", "_law_of", "_law_of", s_law_of⟩,
  ⟨gA "_law_leaf", "_law_leaf", "_law_leaf", s_law_leaf⟩,
  ⟨gA "_law_tree", "_law_tree", "_law_tree", s_law_tree⟩,
  ⟨gA "_law_titles", "_law_titles", "_law_titles", s_law_titles⟩,
  ⟨gA "_law_signs", "_law_signs", "_law_signs", s_law_signs⟩,
  ⟨gA "_law_text", "_law_text", "_law_text", s_law_text⟩,
  ⟨gA "_law_letters", "_law_letters", "_law_letters", s_law_letters⟩,
  ⟨gA "_law_head", "_law_head", "_law_head", s_law_head⟩,
  ⟨gA "_law_end", "_law_end", "_law_end", s_law_end⟩,
  ⟨gA "_law_spoiled", "_law_spoiled", "_law_spoiled", s_law_spoiled⟩]
def dsX1 : List DA := [
  ⟨gA "_law_right", "_law_right", "_law_right", s_law_right⟩,
  ⟨gA "law", "law", "law", s_law⟩,
  ⟨mA "InvalidNumber" "__init__", "__init__", "InvalidNumber.__init__", s_InvalidNumber_init⟩,
  ⟨mA "InvalidName" "__init__", "__init__", "InvalidName.__init__", s_InvalidName_init⟩,
  ⟨mA "InvalidSign" "__init__", "__init__", "InvalidSign.__init__", s_InvalidSign_init⟩,
  ⟨mA "InvalidWord" "__init__", "__init__", "InvalidWord.__init__", s_InvalidWord_init⟩,
  ⟨mA "InvalidText" "__init__", "__init__", "InvalidText.__init__", s_InvalidText_init⟩,
  ⟨mA "InvalidExpression" "__init__", "__init__", "InvalidExpression.__init__", s_InvalidExpression_init⟩,
  ⟨mA "Facts" "__init__", "__init__", "Facts.__init__", s_Facts_init⟩,
  ⟨mA "Drop" "__init__", "__init__", "Drop.__init__", s_Drop_init⟩,
  ⟨mA "Lead" "__init__", "__init__", "Lead.__init__", s_Lead_init⟩,
  ⟨mA "Name" "__init__", "__init__", "Name.__init__", s_Name_init⟩,
  ⟨mA "Part" "__init__", "__init__", "Part.__init__", s_Part_init⟩,
  ⟨mA "Sign" "__init__", "__init__", "Sign.__init__", s_Sign_init⟩,
  ⟨mA "Turn" "__init__", "__init__", "Turn.__init__", s_Turn_init⟩,
  ⟨mA "Weave" "__init__", "__init__", "Weave.__init__", s_Weave_init⟩,
  ⟨mA "Drop" "__str__", "__str__", "Drop.__str__", s_Drop_str⟩,
  ⟨mA "Drop" "__repr__", "__repr__", "Drop.__repr__", s_Drop_repr⟩,
  ⟨mA "Drop" "__eq__", "__eq__", "Drop.__eq__", s_Drop_eq⟩,
  ⟨mA "Lead" "__str__", "__str__", "Lead.__str__", s_Lead_str⟩,
  ⟨mA "Lead" "__repr__", "__repr__", "Lead.__repr__", s_Lead_repr⟩,
  ⟨mA "Lead" "__eq__", "__eq__", "Lead.__eq__", s_Lead_eq⟩,
  ⟨mA "Name" "__str__", "__str__", "Name.__str__", s_Name_str⟩,
  ⟨mA "Name" "__repr__", "__repr__", "Name.__repr__", s_Name_repr⟩,
  ⟨mA "Name" "__eq__", "__eq__", "Name.__eq__", s_Name_eq⟩,
  ⟨mA "Part" "__str__", "__str__", "Part.__str__", s_Part_str⟩,
  ⟨mA "Part" "__repr__", "__repr__", "Part.__repr__", s_Part_repr⟩,
  ⟨mA "Part" "__eq__", "__eq__", "Part.__eq__", s_Part_eq⟩,
  ⟨mA "Sign" "__str__", "__str__", "Sign.__str__", s_Sign_str⟩,
  ⟨mA "Sign" "__repr__", "__repr__", "Sign.__repr__", s_Sign_repr⟩]
def dsX2 : List DA := [
  ⟨mA "Sign" "__eq__", "__eq__", "Sign.__eq__", s_Sign_eq⟩,
  ⟨mA "Turn" "__str__", "__str__", "Turn.__str__", s_Turn_str⟩,
  ⟨mA "Turn" "__repr__", "__repr__", "Turn.__repr__", s_Turn_repr⟩,
  ⟨mA "Turn" "__eq__", "__eq__", "Turn.__eq__", s_Turn_eq⟩,
  ⟨mA "Weave" "__str__", "__str__", "Weave.__str__", s_Weave_str⟩,
  ⟨mA "Weave" "__repr__", "__repr__", "Weave.__repr__", s_Weave_repr⟩,
  ⟨mA "Weave" "__eq__", "__eq__", "Weave.__eq__", s_Weave_eq⟩,
  ⟨pG "Drop" "kind", "kind", "Drop.kind", s_Drop_kind⟩,
  ⟨pG "Drop" "inner", "inner", "Drop.inner", s_Drop_inner⟩,
  ⟨pG "Drop" "told", "told", "Drop.told", s_Drop_told⟩,
  ⟨pG "Drop" "names", "names", "Drop.names", s_Drop_names⟩,
  ⟨pG "Drop" "knots", "knots", "Drop.knots", s_Drop_knots⟩,
  ⟨pG "Lead" "kind", "kind", "Lead.kind", s_Lead_kind⟩,
  ⟨pG "Lead" "inner", "inner", "Lead.inner", s_Lead_inner⟩,
  ⟨pG "Lead" "told", "told", "Lead.told", s_Lead_told⟩,
  ⟨pG "Lead" "names", "names", "Lead.names", s_Lead_names⟩,
  ⟨pG "Lead" "knots", "knots", "Lead.knots", s_Lead_knots⟩,
  ⟨pG "Name" "kind", "kind", "Name.kind", s_Name_kind⟩,
  ⟨pG "Name" "inner", "inner", "Name.inner", s_Name_inner⟩,
  ⟨pG "Name" "told", "told", "Name.told", s_Name_told⟩,
  ⟨pG "Name" "names", "names", "Name.names", s_Name_names⟩,
  ⟨pG "Name" "knots", "knots", "Name.knots", s_Name_knots⟩,
  ⟨pG "Part" "kind", "kind", "Part.kind", s_Part_kind⟩,
  ⟨pG "Part" "inner", "inner", "Part.inner", s_Part_inner⟩,
  ⟨pG "Part" "told", "told", "Part.told", s_Part_told⟩,
  ⟨pG "Part" "names", "names", "Part.names", s_Part_names⟩,
  ⟨pG "Part" "knots", "knots", "Part.knots", s_Part_knots⟩,
  ⟨pG "Sign" "kind", "kind", "Sign.kind", s_Sign_kind⟩,
  ⟨pG "Sign" "inner", "inner", "Sign.inner", s_Sign_inner⟩,
  ⟨pG "Sign" "told", "told", "Sign.told", s_Sign_told⟩]
def dsX3 : List DA := [
  ⟨pG "Sign" "names", "names", "Sign.names", s_Sign_names⟩,
  ⟨pG "Sign" "knots", "knots", "Sign.knots", s_Sign_knots⟩,
  ⟨pG "Turn" "kind", "kind", "Turn.kind", s_Turn_kind⟩,
  ⟨pG "Turn" "inner", "inner", "Turn.inner", s_Turn_inner⟩,
  ⟨pG "Turn" "told", "told", "Turn.told", s_Turn_told⟩,
  ⟨pG "Turn" "names", "names", "Turn.names", s_Turn_names⟩,
  ⟨pG "Turn" "knots", "knots", "Turn.knots", s_Turn_knots⟩,
  ⟨pG "Weave" "kind", "kind", "Weave.kind", s_Weave_kind⟩,
  ⟨pG "Weave" "inner", "inner", "Weave.inner", s_Weave_inner⟩,
  ⟨pG "Weave" "told", "told", "Weave.told", s_Weave_told⟩,
  ⟨pG "Weave" "names", "names", "Weave.names", s_Weave_names⟩,
  ⟨pG "Weave" "knots", "knots", "Weave.knots", s_Weave_knots⟩]
def dsX : List DA := dsX0 ++ (dsX1 ++ (dsX2 ++ (dsX3)))
def tsX : List TabN := [("AHEAD", ["weave", "part", "drop", "lead", "turn"]), ("BEHIND", ["part", "drop", "lead", "turn"])]
abbrev RX : PySem.W.OpenRow := PySem.W.OpenLaw.row PySem.Challenge.rw_wovenplaces_k06_whole_reader
abbrev hkX : PySem.W.Hook := hookS exX dsX tsX
def obX (s : PySem.W.SharedT) : AlS := obsSG exX dsX tsX (HandSHeadRun.getT s)
theorem obX_eq (s : PySem.W.SharedT) : obX s = hkX.obs s.abs := obsSG_eq (HandSHeadRun.getT_eq s)
def namesX1 : List PySem.Str := ["WrongValue", "InvalidNumber", "InvalidName", "InvalidSign", "InvalidWord", "InvalidText", "InvalidExpression", "MOST_BASE", "MOST_SIGNS", "MOST_DROP", "LETTERS", "LEAST_BASE", "MOST_LETTERS", "NO_NAMES", "is_integer", "is_within", "is_lettered", "is_name", "check_within", "check_sign"]
def namesX2 : List PySem.Str := ["check_name", "check_word", "knots_above", "exchange", "spelled", "Facts", "FIGURES", "AHEAD", "BEHIND", "piece_at", "pieces_of", "ahead_of", "knot_of", "closed", "read_text", "Expression", "Sign", "Name", "Weave", "Part"]
def namesX3 : List PySem.Str := ["Drop", "Lead", "Turn", "check_expressions", "make", "exchanged_in", "read_expression", "_law_deck", "_law_card", "_law_of", "_law_leaf", "_law_tree", "_law_titles", "_law_signs", "_law_text", "_law_letters", "_law_head", "_law_end", "_law_spoiled", "_law_right"]
def namesX : List PySem.Str := namesX1 ++ (namesX2 ++ namesX3)
end Wp

namespace Wp
open PySem PySem.Spec PyProof.Rows L2 Hx
/-- the run, in three looks -/
def RunP {α : Type} (f : World → PySem.W.SharedT → α) (v : World → α) (w : World) : Prop := ∀ os : OsState, (HandSHeadRun.endF (HandSHeadRun.stepQ (HandSHeadRun.denQ HandSHeadRun.tabQ) RX.prog w) 20000 RX.prog w os).map (f w) = some (v w)
theorem RunP.join3 {α β γ δ : Type} {l : World → PySem.W.SharedT → α} {q : World → PySem.W.SharedT → β} {d : World → PySem.W.SharedT → γ} {b : World → PySem.W.SharedT → δ} {x a : World → PySem.W.SharedT → Bool} {vl : World → α} {vq : World → β} {vd : World → γ} {vb : World → δ} {vx va : World → Bool} {w : World}
    (h1 : RunP (fun w s => (l w s, q w s)) (fun w => (vl w, vq w)) w) (h2 : RunP (fun w s => (x w s, d w s, b w s)) (fun w => (vx w, vd w, vb w)) w) (h3 : RunP a va w) :
    RunP (fun w s => (l w s, q w s, (((x w s && a w s), d w s), b w s))) (fun w => (vl w, vq w, (((vx w && va w), vd w), vb w))) w := fun os => by
  have h1 := h1 os
  have h2 := h2 os
  have h3 := h3 os
  revert h1 h2 h3
  cases HandSHeadRun.endF (HandSHeadRun.stepQ (HandSHeadRun.denQ HandSHeadRun.tabQ) RX.prog w) 20000 RX.prog w os with
  | none => exact fun h1 => nomatch h1
  | some s =>
    intro h1 h2 h3
    show some (l w s, q w s, (((x w s && a w s), d w s), b w s)) = some (vl w, vq w, (((vx w && va w), vd w), vb w))
    have e1 : (l w s, q w s) = (vl w, vq w) := Option.some.inj h1
    have e2 : (x w s, d w s, b w s) = (vx w, vd w, vb w) := Option.some.inj h2
    have e3 : a w s = va w := Option.some.inj h3
    obtain ⟨a1, a2⟩ := Prod.mk.inj e1
    obtain ⟨a3, a4⟩ := Prod.mk.inj e2
    obtain ⟨a4, a5⟩ := Prod.mk.inj a4
    rw [a1, a2, a3, a4, a5, e3]
abbrev kX (s : PySem.W.SharedT) : PySem.W.Frag := He.frG (HandSHeadRun.getT s) (asZ (HandSHeadRun.getT s))
theorem runP0 (w : World) : RunP (fun w s => (HandSHeadRun.looksF RX.prog (PySem.W.boot_heap w.params) s.abs, HandSHeadRun.seenQ (PySem.W.view RX.prog [67]) namesX (PySem.importedModules RX.prog.main.body) (fun s => PySem.W.xlAt (PySem.W.view RX.prog [67]) [] s && PySem.W.recOk RX.toRowW.records s) s.abs)) (fun _ => (true, PySem.W.openGood (PySem.W.view RX.prog [67]) namesX)) (w.withFollow "special-get-raises" false) := by
  intro os
  kernel_rfl
theorem runP1 (w : World) : RunP (fun w s => (HandSHeadRun.looksF RX.prog (PySem.W.boot_heap w.params) s.abs, HandSHeadRun.seenQ (PySem.W.view RX.prog [67]) namesX (PySem.importedModules RX.prog.main.body) (fun s => PySem.W.xlAt (PySem.W.view RX.prog [67]) [] s && PySem.W.recOk RX.toRowW.records s) s.abs)) (fun _ => (true, PySem.W.openGood (PySem.W.view RX.prog [67]) namesX)) (w.withFollow "special-get-raises" true) := by
  intro os
  kernel_rfl
theorem runE0 (w : World) : RunP (fun _ s => (exX (kX s), (obsZ exX dsX (kX s)).2, obsTb tsX (kX s))) (fun w => (true, dsX.map DA.val, valTb tsX w)) (w.withFollow "special-get-raises" false) := by
  intro os
  kernel_rfl
theorem runE1 (w : World) : RunP (fun _ s => (exX (kX s), (obsZ exX dsX (kX s)).2, obsTb tsX (kX s))) (fun w => (true, dsX.map DA.val, valTb tsX w)) (w.withFollow "special-get-raises" true) := by
  intro os
  kernel_rfl
theorem runA0 (w : World) : RunP (fun _ s => dsX.all fun d => d.ok (kX s)) (fun _ => true) (w.withFollow "special-get-raises" false) := by
  intro os
  kernel_rfl
theorem runA1 (w : World) : RunP (fun _ s => dsX.all fun d => d.ok (kX s)) (fun _ => true) (w.withFollow "special-get-raises" true) := by
  intro os
  kernel_rfl
theorem runX0 (w : World) (b : Bool) (h : RunP (fun w s => (HandSHeadRun.looksF RX.prog (PySem.W.boot_heap w.params) s.abs, HandSHeadRun.seenQ (PySem.W.view RX.prog [67]) namesX (PySem.importedModules RX.prog.main.body) (fun s => PySem.W.xlAt (PySem.W.view RX.prog [67]) [] s && PySem.W.recOk RX.toRowW.records s) s.abs, ((((exX (kX s) && dsX.all fun d => d.ok (kX s))), (obsZ exX dsX (kX s)).2), obsTb tsX (kX s)))) (fun w => (true, PySem.W.openGood (PySem.W.view RX.prog [67]) namesX, (((true && true), dsX.map DA.val), valTb tsX w))) (w.withFollow "special-get-raises" b)) :
    HandSHeadRun.RunEq RX (PySem.W.view RX.prog [67]) hkX obX 20000 namesX (w.withFollow "special-get-raises" b) := fun os => h os
theorem runX (w : World) : HandSHeadRun.RunEq RX (PySem.W.view RX.prog [67]) hkX obX 20000 namesX w := by
  have h : ∀ b : Bool, HandSHeadRun.RunEq RX (PySem.W.view RX.prog [67]) hkX obX 20000 namesX (w.withFollow "special-get-raises" b) := fun b => match b with
    | false => runX0 w false (RunP.join3 (runP0 w) (runE0 w) (runA0 w))
    | true => runX0 w true (RunP.join3 (runP1 w) (runE1 w) (runA1 w))
  have h2 := h (w.params.followText "special-get-raises")
  rwa [World.withFollow_self] at h2
end Wp

/-! own exception classes made with keywords -/
namespace PySem
namespace EK
open PySem.W PySem.Calls PyProof.Rows PySem.PX
section
variable {M : Model} {A : Around} {E : Value → Shared → Prop} {h : Heap} {g : Array GenState} {d : Drawn} {t : Nat} {os : OsState}
variable {nm q : Str} {C N : Addr} {bs bm bmB : List Value} {hdct : Bool} {sn : List Str} {sub : List Value} {ab : Bool} {col : Option Bool}
  {dd : Option Addr} {k0 k1 k2 k3 k5 : Option Value} {B newId initId : String} {kw : List (Str × Value)} {us : List Value}
theorem look_new (F : ExcBaseFacts B newId initId bmB) (same : ∀ X : String, bm.contains (.type X) = bmB.contains (.type X)) {Q : Unit → Shared → Prop}
    (hC : h.get? C = some (excClassObj nm q C N bs bm hdct sn sub ab col dd k0 k1 k2 k3 k5 newId)) (hq : Q () ⟨h, g, d, t, os⟩) :
    wpAny M A (checkBuiltinCall newId ⟨.ref C :: us, kw⟩) Q E ⟨h, g, d, t, os⟩ := by
  have inB : (Value.ref C :: bm).contains (.type B) = true := by
    rw [List.contains_cons, same, F.hasB, Bool.or_true]
  have star := F.noStar
  simp only [checkBuiltinCall, F.newKind, F.newSplit, F.newRow]
  repeat (first
    | refine wpAny_loadPart_at hC ?_
    | (refine wpAny_isSubtype_exc hC ?_; rw [inB])
    | refine wpAny_staticBase_exc hC ?_
    | refine wpAny_madeBy_exc hC ?_
    | simp only [bne_self_eq_false, Bool.false_eq_true, if_false]
    | wp_step)
  exact hq
end
section
variable {prog : Program} {w : World} {A : Around} {E : Value → Shared → Prop} {R : Result → Shared → Prop} {h : Heap} {g : Array GenState} {d : Drawn} {t : Nat} {os : OsState}
variable {nm q : Str} {C N : Addr} {bs bm bmB : List Value} {hdct : Bool} {sn : List Str} {sub : List Value} {ab : Bool} {col : Option Bool}
  {dd : Option Addr} {k0 k1 k2 k3 k5 : Option Value} {B newId initId : String} {kw : List (Str × Value)} {us : List Value} {fI : Addr}
/-- the heap behind the making -/
abbrev madeHeap (h : Heap) (C : Addr) (us : List Value) : Heap := (h.push (kdv_tup us)).push (excO C h.objs.size)
theorem made_keep (b : Addr) (o : Obj) (e : h.get? b = some o) : (madeHeap h C us).get? b = some o :=
  Heap.get?_push_of_some _ (Heap.get?_push_of_some _ e)
theorem made_at : (madeHeap h C us).get? (h.objs.size + 1) = some (excO C h.objs.size) := by heap_get
theorem run_new (F : ExcBaseFacts B newId initId bmB) (same : ∀ X : String, bm.contains (.type X) = bmB.contains (.type X))
    (hC : h.get? C = some (excClassObj nm q C N bs bm hdct sn sub ab col dd k0 k1 k2 k3 k5 newId)) (small : us.length ≤ sizeLine)
    (hq : R (.ok (.ret (.ref (h.objs.size + 1)))) ⟨madeHeap h C us, g, d, t, os⟩) :
    codeAny (model prog w) A (.builtin newId ⟨.ref C :: us, kw⟩) R ⟨h, g, d, t, os⟩ := by
  have ends := F.ends
  have inB : (Value.ref C :: bm).contains (.type B) = true := by
    rw [List.contains_cons, same, F.hasB, Bool.or_true]
  have noA : (Value.ref C :: bm).contains (.type "AttributeError") = false := by
    rw [List.contains_cons, same, F.noAttr]
    rfl
  have noN : (Value.ref C :: bm).contains (.type "NameError") = false := by
    rw [List.contains_cons, same, F.noName]
    rfl
  refine codeAny_builtinAt F.entry ?_
  unfold Builtin.«BaseException.__new__»
  refine wpAt_bind ?_
  show wpAt _ _ _ (stack >>= _) _ _ _
  refine wpAt_bind (wpAt_stack fun p under => wpAt_of_wpAny ?_)
  wp_walk
  refine wpAt_of_wpAny ?_
  rw [F.owner]
  repeat (first
    | with_reducible refine wpAny_madeHere_exc F.canon hC ?_
    | with_reducible refine wpAny_loadPart_at hC ?_
    | (with_reducible refine wpAny_isSubtype_exc hC ?_
       first | rw [inB] | rw [noA] | rw [noN])
    | wp_step)
  show R _ _
  rw [Heap.size_push]
  exact hq
theorem run_type (F : ExcBaseFacts B newId initId bmB) (same : ∀ X : String, bm.contains (.type X) = bmB.contains (.type X))
    (hC : h.get? C = some (excClassObj nm q C N bs bm hdct sn sub ab col dd k0 k1 k2 k3 k5 newId)) {Q : Fin → Shared → Prop}
    (li : Looks (model prog w) h (typeLookup (.ref C) "__init__") (some (.ref fI)))
    (lb : ∀ self, Looks (model prog w) h (bindSpecial (.ref fI) self) (.ref fI, [self])) (small : us.length ≤ sizeLine)
    (hq : codeAny (model prog w) A (.call (.ref fI) ⟨.ref (h.objs.size + 1) :: us, kw⟩)
      (fun r s' => match r with
        | .ok (.ret v) => v = .none ∧ Q (.done (.ret (.ref (h.objs.size + 1)))) s'
        | .ok _ => False
        | .error e => E e s') ⟨madeHeap h C us, g, d, t, os⟩) :
    wpAny (model prog w) A (Builtin.«type.__call__» ⟨.ref C :: us, kw⟩) Q E ⟨h, g, d, t, os⟩ := by
  repeat (first
    | with_reducible refine wpAny_loadPart_at hC ?_
    | with_reducible refine wpAny_madeBy_exc hC ?_
    | wp_step)
  refine codeAny_call_builtin_code (Code.quiet_builtin _ F.quiet) (look_new F same hC ?_)
  refine run_new F same hC small ?_
  show wpAny _ _ _ _ _ _
  have hC1 := made_keep (C := C) (us := us) _ _ hC
  have own : (Value.ref C :: bm).contains (.ref C) = true := by simp
  have li1 := li.keeps (made_keep (C := C) (us := us))
  have lb1 := (lb (.ref (h.objs.size + 1))).keeps (made_keep (C := C) (us := us))
  unfold isInstance
  repeat (first
    | with_reducible refine wpAny_loadPart_at made_at ?_
    | (with_reducible refine wpAny_isSubtype_exc hC1 ?_
       rw [own])
    | wp_step)
  show wpAny _ _ (typeLookup (.ref C) _) _ _ _
  refine li1.at ?_
  refine wpAny_holding (wpAny_bind (lb1.at ?_))
  refine wpAny_bind (wpAny_call (codeAny_mono hq ?_))
  intro r s' z
  cases r with
  | error e => exact z
  | ok fl =>
    cases fl with
    | ret v =>
      obtain ⟨rfl, z⟩ := z
      first
        | exact wpAny_pure (wpAny_pure z)
        | (wp_walk; exact z)
    | next => exact z.elim
    | brk => exact z.elim
    | cont => exact z.elim
end
section
variable {prog : Program} {w : World} {A : Around} {E : Value → Shared → Prop} {R : Result → Shared → Prop} {h : Heap} {g : Array GenState} {d : Drawn} {t : Nat} {os : OsState}
variable {nm q : Str} {C N : Addr} {bs bm bmB : List Value} {hdct : Bool} {sn : List Str} {sub : List Value} {ab : Bool} {col : Option Bool}
  {dd : Option Addr} {k0 k1 k2 k3 k5 : Option Value} {B newId initId : String} {kw : List (Str × Value)} {us : List Value} {fI : Addr}
theorem look_type {M : Model} {Q : Unit → Shared → Prop} (hC : h.get? C = some (excClassObj nm q C N bs bm hdct sn sub ab col dd k0 k1 k2 k3 k5 newId))
    (hq : Q () ⟨h, g, d, t, os⟩) : wpAny M A (checkBuiltinCall "type.__call__" ⟨.ref C :: us, kw⟩) Q E ⟨h, g, d, t, os⟩ := by
  have f0 := tc_sub
  have ofType : (⟨h, g, d, t, os⟩ : Shared).TypeIs (.ref C) "type" := ⟨_, hC, rfl⟩
  simp only [checkBuiltinCall, tc_kind, tc_split]
  repeat (any_goals (first
    | assumption
    | with_reducible refine wpAny_loadPart_at hC ?_
    | with_reducible refine wpAny_onRaise ?_
    | with_reducible refine wpAny_map ?_
    | wp_step))
/-- C(us, kw): the object is laid, then __init__ -/
theorem run_call (F : ExcBaseFacts B newId initId bmB) (same : ∀ X : String, bm.contains (.type X) = bmB.contains (.type X))
    (hC : h.get? C = some (excClassObj nm q C N bs bm hdct sn sub ab col dd k0 k1 k2 k3 k5 newId))
    (li : Looks (model prog w) h (typeLookup (.ref C) "__init__") (some (.ref fI)))
    (lb : ∀ self, Looks (model prog w) h (bindSpecial (.ref fI) self) (.ref fI, [self])) (small : us.length ≤ sizeLine)
    (hq : codeAny (model prog w) (A.under (.builtin "type.__call__" ⟨.ref C :: us, kw⟩)) (.call (.ref fI) ⟨.ref (h.objs.size + 1) :: us, kw⟩)
      (InitBack (h.objs.size + 1) R) ⟨madeHeap h C us, g, d, t, os⟩) :
    codeAny (model prog w) A (.call (.ref C) ⟨us, kw⟩) R ⟨h, g, d, t, os⟩ := by
  have f1 := tc_lookup
  have f2 := tc_bind (.ref C)
  have ofType : (⟨h, g, d, t, os⟩ : Shared).TypeIs (.ref C) "type" := ⟨_, hC, rfl⟩
  refine codeAny_of_tree ?_
  show wpAny _ _ (callAny (.ref C) _) _ _ _
  repeat (any_goals (first
    | assumption
    | with_reducible refine wpAny_loadPart_at hC ?_
    | wp_step))
  refine ⟨rfl, ?_⟩
  refine codeAny_call_builtin_at (Code.quiet_builtin _ (by decide +kernel)) entry_typeCall (look_type hC ?_)
  refine run_type F same hC li lb small (codeAny_mono hq ?_)
  intro r s' z
  rcases r with e | (v | _ | _ | _) <;> exact z
end
/-! storing into an exception -/
section
open Builtin Builtin.ObjectAttr
variable {prog : Program} {w : World} {A : Around} {R : Result → Shared → Prop} {hp : Heap} {g : Array GenState} {d : Drawn} {t : Nat} {os : OsState}
  {K : Frag} {C x : Addr} {B : String} {bmB : List Value} {name : Str} {tk : Tok} {v : Value} {fv : Array Value}
theorem first_field (SF : StoreFacts B bmB "object.__setattr__" "object") (X : K.In hp) (hx : hp.get? x = some { cls := .ref C, data := .fields fv })
    (over : excOver K C bmB = true) (free : takerIn K C name = some none) (dct : hasDictIn K C = true)
    (hq : ∀ h' tk' dx, (∀ b o, b ≠ x → hp.get? b = some o → h'.get? b = some o) → hp.objs.size ≤ dx → dx ≠ x →
      h'.get? x = some { cls := .ref C, dict := some dx, data := .fields fv } → h'.Ns1 dx (fun y => if y = name then some v else none) →
      R (.ok (.ret .none)) ⟨h', g, d, tk', os⟩) :
    codeAny (model prog w) A (.call (.builtin "object.__setattr__") ⟨[.ref x, .str name tk, v], []⟩) R ⟨hp, g, d, t, os⟩ := by
  have I : InstAt hp x { cls := .ref C, data := .fields fv } C none := ⟨hx, rfl, rfl, trivial⟩
  refine osa_openX (s := ⟨hp, g, d, t, os⟩) SF X I over free fun b => ?_
  show wpAny _ _ (storeInOwnDict (.ref x) (.ref C) (.str name tk) name v b) _ _ _
  obtain ⟨cd, hcd, hd⟩ := any_some dct
  have lc : Looks (model prog w) hp (classData C) cd := looks_clsIn X hcd
  obtain ⟨nm, bs, mro, ns, qn, hdd, sn, sb, ab, col, del⟩ := cd
  dsimp only at hd
  subst hd
  have apart : x ≠ hp.objs.size := Nat.ne_of_lt (Heap.lt_size hx)
  unfold storeInOwnDict ownDictForStores
  repeat (first
    | with_reducible refine PX.store_in_new ?_ ?_
    | with_reducible refine wpAny_loadPart_at hx ?_
    | with_reducible refine lc.at ?_
    | wp_step)
  · exact ⟨_, #[], _, (Heap.get?_update_ne _ _ _ _ apart.symm).trans (Heap.get?_push_at rfl rfl), rfl, fun e he => absurd he (by simp), fun _ => rfl⟩
  · intro h' tk' hn' but
    have hx1 : (hp.push { cls := .type "dict", data := .dict #[] }).get? x = some { cls := .ref C, data := .fields fv } := Heap.get?_push_of_some _ hx
    refine hq h' tk' hp.objs.size ?_ (Nat.le_refl _) apart.symm ?_ hn'
    · intro b o hb ho
      have z := but.2 b (Nat.ne_of_lt (Heap.lt_size ho))
      rw [z, Heap.get?_update_ne _ _ _ _ hb]
      exact Heap.get?_push_of_some _ ho
    · rw [but.2 x apart]
      exact Heap.get?_update_self _ hx1 rfl
theorem next_field (SF : StoreFacts B bmB "object.__setattr__" "object") (X : K.In hp) {dx : Addr} {m0 : Str → Option Value} {nl : List Str}
    (hx : hp.get? x = some { cls := .ref C, dict := some dx, data := .fields fv }) (hn : hp.Ns1 dx m0) (within : Within m0 nl) (few : nl.length ≤ 1000)
    (over : excOver K C bmB = true) (free : takerIn K C name = some none) (dct : hasDictIn K C = true)
    (hq : ∀ h' tk', (∀ b o, b ≠ dx → hp.get? b = some o → h'.get? b = some o) → h'.Ns1 dx (fun y => if y = name then some v else m0 y) →
      R (.ok (.ret .none)) ⟨h', g, d, tk', os⟩) :
    codeAny (model prog w) A (.call (.builtin "object.__setattr__") ⟨[.ref x, .str name tk, v], []⟩) R ⟨hp, g, d, t, os⟩ := by
  obtain ⟨oD, _, _, hoD, _, _⟩ := hn.count within
  have I : InstAt hp x { cls := .ref C, dict := some dx, data := .fields fv } C (some oD) := ⟨hx, rfl, rfl, hoD⟩
  refine osa_openX (s := ⟨hp, g, d, t, os⟩) SF X I over free fun b => ?_
  show wpAny _ _ (storeInOwnDict (.ref x) (.ref C) (.str name tk) name v b) _ _ _
  obtain ⟨cd, hcd, hd⟩ := any_some dct
  have lc : Looks (model prog w) hp (classData C) cd := looks_clsIn X hcd
  obtain ⟨nm, bs, mro, ns, qn, hdd, sn, sb, ab, col, del⟩ := cd
  dsimp only at hd
  subst hd
  unfold storeInOwnDict ownDictForStores
  repeat (first
    | with_reducible refine PX.store_in_old hn within few ?_
    | with_reducible refine wpAny_loadPart_at hx ?_
    | with_reducible refine lc.at ?_
    | wp_step)
  intro h' tk' hn' but
  exact hq h' tk' (fun b o hb ho => (but.2 b hb).trans ho) hn'
end
end EK
end PySem

namespace Hx
open PySem PySem.Spec PyProof.Rows L2
/-- what the written part says of an own exception class at C, over the built-in B -/
structure ExK (K : PySem.W.Frag) (C : Addr) (B newId initId : String) (bmB : List Value) : Prop where
  facts : ExcBaseFacts B newId initId bmB
  store : StoreFacts B bmB "object.__setattr__" "object"
  made : PySem.W.excInitIn K C bmB newId = true
  over : PySem.W.excOver K C bmB = true
  dct : PySem.W.hasDictIn K C = true
  sa : PySem.W.findIn K (.ref C) "__setattr__" = some (some (.builtin "object.__setattr__"))
  ga : PySem.W.findIn K (.ref C) "__getattribute__" = some (some (.builtin "BaseException.__getattribute__"))
  gt : PySem.W.findIn K (.ref C) "__getattr__" = some none
  sub : PySem.W.subIn K (.ref C) (.type "BaseException") = some true
  keep : PySem.W.keepIn K (.ref C) = true
  cl : PySem.W.findIn K (.ref C) "__class__" = some (some (.builtin "object.__class__"))
  gg : PySem.W.specialIn K (.builtin "object.__class__") "__get__" = some (some (.builtin "getset_descriptor.__get__"))
  tk : PySem.W.takesIn K (.builtin "object.__class__") = some true
  mo : PySem.W.mroIn K C (.type "object") = some true
section
variable {X : Cx} {pins : List (Addr × Obj)} {σ : L2.St} {H : Hp} {s : Shared} {a C dx : Addr} {f : Str} {y : V} {u : Value} {fs : List (Str × V)}
  {B newId initId : String} {bmB : List Value} {A : Around} {E : Value → Shared → Prop}
/-- self.f = y, the first field: the exception gets its dict -/
theorem put_first {Q : Unit → Shared → Prop} (T : ExK X.K C B newId initId bmB) (I : Inv X pins σ H s) (e : H a = some (exo a C none))
    (free : PySem.W.takerIn X.K C f = some none) (ry : RelV y u)
    (h : ∀ dx s', H dx = none → dx ≠ a → Inv X pins σ (upd (upd H dx (exd dx [(f, y)])) a (exo a C (some dx))) s' → Q () s') :
    wpAny (model X.prog X.w) A (setAttr (.ref a) f u) Q E s := by
  obtain ⟨t1, ho⟩ := exo_at I.hok e
  obtain ⟨hp, g, d, t, os⟩ := s
  refine PySem.W.set_plain I.kIn (ox := { cls := .ref C, dict := none, data := .fields #[.ref t1, .none, .none, .none, .bool false, .none] }) (od := none) ⟨ho, rfl, rfl, trivial⟩ T.sa ?_
  refine PySem.EK.first_field T.store I.kIn ho T.over free T.dct ?_
  intro h' tk' dx keeps new apart at_a ns
  have n0 : H dx = none := I.hok.fresh new
  have old : ∀ {b : Addr} {o : Obj}, hp.get? b = some o → b ≠ dx := fun {b o} z => Nat.ne_of_lt (Nat.lt_of_lt_of_le (Heap.lt_size z) new)
  have other : ∀ {b : Addr}, H b = none → b ≠ a := fun {b} n z => by
    rw [z, e] at n
    cases n
  have un : Un X.fs [] H (upd (upd H dx (exd dx [(f, y)])) a (exo a C (some dx))) hp h' :=
    { keep := fun b o z n _ _ => keeps b o (other n) z
      slot := fun b o z n _ _ => ⟨o.slots, keeps b o (other n) z⟩
      free := fun b o z n _ => by
        rw [upd_ne (other n), upd_ne (old z)]
        exact n
      there := fun b o z _ => by
        by_cases hb : b = a
        · exact ⟨_, by rw [hb]; exact at_a⟩
        · exact ⟨o, keeps b o hb z⟩
      tups := fun b xs z => by
        rw [upd_ne (at_ne e z exo_tup), upd_ne (ne_of_none z n0)]
        exact z
      frzs := fun b o v z => by
        rw [upd_ne (at_ne e z exo_frz), upd_ne (ne_of_none z n0)]
        exact z
      tbls := fun b ps z => ⟨#[], by
        rw [upd_ne (at_ne e z exo_tbl), upd_ne (ne_of_none z n0), z]
        simp⟩ }
  refine h dx _ n0 apart (I.un (t' := tk') un ?_)
  intro b o z
  by_cases hb : b = a
  · subst hb
    rw [upd_same] at z
    cases z
    exact exo_ok at_a
  rw [upd_ne hb] at z
  by_cases hd : b = dx
  · subst hd
    rw [upd_same] at z
    cases z
    exact exd_ok ns (relO_put (fs := []) ry fun _ => True.intro)
  rw [upd_ne hd] at z
  refine (I.hok b o z).stay ?_ ?_ ?_
  · intro c v hc r
    refine keeps c v ?_ r
    rcases hc with hc | hc
    · rw [hc]
      exact hb
    · exact at_ne e hc exo_own
  · intro c hc
    rw [upd_ne (at_ne e hc exo_own), upd_ne (ne_of_none hc n0)]
    exact hc
  · intro c xs hc
    rw [upd_ne (at_ne e hc exo_tup), upd_ne (ne_of_none hc n0)]
    exact hc
/-- self.f = y, a further field -/
theorem put_next {Q : Unit → Shared → Prop} (T : ExK X.K C B newId initId bmB) (I : Inv X pins σ H s) (e : H a = some (exo a C (some dx))) (ed : H dx = some (exd dx fs))
    (few : fs.length ≤ 900) (free : PySem.W.takerIn X.K C f = some none) (ry : RelV y u)
    (h : ∀ s', Inv X pins σ (upd H dx (exd dx ((f, y) :: fs))) s' → Q () s') : wpAny (model X.prog X.w) A (setAttr (.ref a) f u) Q E s := by
  obtain ⟨t1, ho⟩ := exo_at I.hok e
  obtain ⟨mA, ns, rel⟩ := exd_at I.hok ed
  have within := within_of rel
  obtain ⟨hp, g, d, t, os⟩ := s
  obtain ⟨oD, _, _, hoD, _, _⟩ := ns.count within
  refine PySem.W.set_plain I.kIn (ox := { cls := .ref C, dict := some dx, data := .fields #[.ref t1, .none, .none, .none, .bool false, .none] }) (od := some oD) ⟨ho, rfl, rfl, hoD⟩ T.sa ?_
  refine PySem.EK.next_field T.store I.kIn ho ns within (by rw [List.length_map]; omega) T.over free T.dct ?_
  intro h' tk' keeps ns'
  obtain ⟨o', _, _, there, _⟩ := id ns'
  exact h _ (I.write (t' := tk') (x := dx) (e := dx) (o := exd dx ((f, y) :: fs)) (by rw [ed]; exact True.intro) (.inl rfl) keeps ⟨o', there⟩ (exd_ok ns' (relO_put ry rel)))
end
/-- self.f = e, self an exception of the class at C -/
def tPut (f : Str) (C : Addr) (to te : TE) : TS := fun D σ H => te σ H fun y H1 => to σ H1 fun x H2 => ∃ a : Addr, x = .ref a ∧
  ((H2 a = some (exo a C none) ∧ ∀ dx, H2 dx = none → dx ≠ a → D.nx σ (upd (upd H2 dx (exd dx [(f, y)])) a (exo a C (some dx)))) ∨
    ∃ (dx : Addr) (fs : List (Str × V)), H2 a = some (exo a C (some dx)) ∧ H2 dx = some (exd dx fs) ∧ fs.length ≤ 900 ∧ D.nx σ (upd H2 dx (exd dx ((f, y) :: fs))))
section
variable {X : Cx} {o e : Expr} {es : List Expr} {to te : TE} {ta : TA} {f : Str} {p p' p1 p2 pos : Pos} {C : Addr} {B newId initId : String} {bmB : List Value}
theorem ps_put (T : ExK X.K C B newId initId bmB) (free : PySem.W.takerIn X.K C f = some none) (ho : PE X o to) (he : PE X e te)
    (hs : swapsWith e (some (.Attribute o f p')) pos.line X.env = pure false := by rfl) : PS X (.Assign [.Attribute o f p'] e pos) (tPut f C to te) := by
  constructor
  intro pins s σ H D I h
  refine plainObj_wpAny_Assign_Attribute (thn (he.run pins s σ H _ I h) ?_) hs
  rintro v s1 ⟨y, H1, I1, r1, q1⟩
  refine thn (ho.run pins s1 σ H1 _ I1 q1) ?_
  rintro u s2 ⟨x, H2, I2, r2, a, ex, q⟩
  subst ex
  cases (show u = Value.ref a from r2)
  rcases q with ⟨ea, q⟩ | ⟨dx, fs, ea, ed, few, q⟩
  · exact put_first T I2 ea free r1 fun dx s' n ne J => ⟨σ, _, J, q dx n ne⟩
  · exact put_next T I2 ea ed few free r1 fun s' J => ⟨σ, _, J, q⟩
end
/-- a fresh exception -/
def spIn1 (C : Addr) (f : Str) : Sp := fun vs H Q _ => ∃ (a : Addr) (v : V), vs = [.ref a, v] ∧ H a = some (exo a C none) ∧
  ∀ d, H d = none → d ≠ a → Q .non (upd (upd H d (exd d [(f, v)])) a (exo a C (some d)))
def spIn2 (C : Addr) (f g : Str) : Sp := fun vs H Q _ => ∃ (a : Addr) (v u : V), vs = [.ref a, v, u] ∧ H a = some (exo a C none) ∧
  ∀ d, H d = none → d ≠ a → Q .non (upd (upd (upd H d (exd d [(f, v)])) a (exo a C (some d))) d (exd d [(g, u), (f, v)]))
section
variable {P : Program} {w : World} {K : PySem.W.Frag} {mg : Str → Option Value} {base : Heap} {fI C : Addr} {fd : FuncData} {st : Stmt} {qual f g : Str}
  {B newId initId : String} {bmB : List Value} {q1 q2 q3 q4 q5 q6 q7 q8 : Pos}
theorem ok_in1 (F : Fun K "__init__" qual st fI fd) (S : FnScope ["self", f] ["self", f] (defScope st))
    (hb : defBody st = [.Assign [.Attribute (.Name "self" q1) f q2] (.Name f q3) q4]) (v1 : Vis (defScope st) "self") (v2 : Vis (defScope st) f)
    (hd : (f == ("__debug__" : Str)) = false) (hc : (f == ("__classdict__" : Str)) = false) (T : ExK K C B newId initId bmB) (free : PySem.W.takerIn K C f = some none) :
    FnOk P w K mg base CX0 1 fI fd ["self", f] (spIn1 C f) := by
  refine F.ok S (fun vs H Q E h => ?_) (fun cdv A outer s H vs Q E hr h => ?_)
  · obtain ⟨a, v, rfl, _⟩ := h
    rfl
  obtain ⟨a, v, rfl, ha, q⟩ := h
  rw [hb]
  refine ⟨_, pss_one (ps_put T free (pe_var (i := 0) rfl v1) (pe_var (i := 1) rfl v2 hd hc)), ?_⟩
  exact ⟨_, rfl, _, rfl, a, rfl, .inl ⟨ha, fun d n ne => q d n ne⟩⟩
theorem ok_in2 (F : Fun K "__init__" qual st fI fd) (S : FnScope ["self", f, g] ["self", f, g] (defScope st))
    (hb : defBody st = [.Assign [.Attribute (.Name "self" q1) f q2] (.Name f q3) q4, .Assign [.Attribute (.Name "self" q5) g q6] (.Name g q7) q8])
    (v1 : Vis (defScope st) "self") (v2 : Vis (defScope st) f) (v3 : Vis (defScope st) g)
    (hd : (f == ("__debug__" : Str)) = false) (hc : (f == ("__classdict__" : Str)) = false) (hd2 : (g == ("__debug__" : Str)) = false) (hc2 : (g == ("__classdict__" : Str)) = false)
    (T : ExK K C B newId initId bmB) (free : PySem.W.takerIn K C f = some none) (free2 : PySem.W.takerIn K C g = some none) :
    FnOk P w K mg base CX0 1 fI fd ["self", f, g] (spIn2 C f g) := by
  refine F.ok S (fun vs H Q E h => ?_) (fun cdv A outer s H vs Q E hr h => ?_)
  · obtain ⟨a, v, u, rfl, _⟩ := h
    rfl
  obtain ⟨a, v, u, rfl, ha, q⟩ := h
  rw [hb]
  refine ⟨_, pss_cons (ps_put T free (pe_var (i := 0) rfl v1) (pe_var (i := 1) rfl v2 hd hc)) (pss_one (ps_put T free2 (pe_var (i := 0) rfl v1) (pe_var (i := 2) rfl v3 hd2 hc2))), ?_⟩
  refine ⟨_, rfl, _, rfl, a, rfl, .inl ⟨ha, fun d n ne => ?_⟩⟩
  refine ⟨_, rfl, _, rfl, a, rfl, .inr ⟨d, [(f, v)], upd_same, ?_, (by show 1 ≤ 900; decide), q d n ne⟩⟩
  rw [upd_ne ne]
  exact upd_same
end

/-! C(..) as a value -/
section
variable {X : Cx} {pins : List (Addr × Obj)} {σ : L2.St} {H : Hp} {s : Shared} {C fI : Addr} {fd : FuncData} {ps : List Str} {sp : Sp} {k : Nat}
  {B newId initId : String} {bmB : List Value}
theorem run_mk {Q : VK} {us bs : List Value} {kw : List (Str × Value)} {vs : List V} (T : ExK X.K C B newId initId bmB)
    (hi : PySem.W.findIn X.K (.ref C) "__init__" = some (some (.ref fI))) (tI : PySem.W.typeIn X.K (.ref fI) = some (.type "function"))
    (F : FnOk X.prog X.w X.K X.mg X.base CX0 k fI fd ps sp) (room : Room (k + 1) X.A) (I : Inv X pins σ H s) (rel : Vals vs bs)
    (binds : ∀ (s : Shared) (self : Value), X.K.In s.heap → BindsTo s fd ⟨self :: us, kw⟩ (ps.zip (self :: bs))) (small : us.length ≤ sizeLine)
    (q : ∀ a, H a = none → sp (.ref a :: vs) (upd H a (exo a C none)) (fun v H2 => v = .non ∧ Q (.ref a) H2) E0) :
    wpAny (model X.prog X.w) X.A (call (.ref C) us kw) (EP X pins σ Q) X.xe s := by
  obtain ⟨nm, N, qn, bs0, bm, hdct, sn, sub, ab, col, dd, k0, k1, k2, k3, k5, hC, same⟩ := PySem.W.excInit_of I.kIn T.made
  obtain ⟨hp, g, dr, tk, os⟩ := s
  have above : hp.objs.size ≤ hp.objs.size + 1 := Nat.le_succ _
  have n0 : H (hp.objs.size + 1) = none := I.hok.fresh above
  have q0 := q _ n0
  have J : Inv X pins σ (upd H (hp.objs.size + 1) (exo (hp.objs.size + 1) C none)) ⟨PySem.EK.madeHeap hp C us, g, dr, tk, os⟩ :=
    I.laid (t' := tk) (h' := PySem.EK.madeHeap hp C us) (fun b o e => PySem.EK.made_keep b o e) above (exo_ok PySem.EK.made_at)
  have rel2 : Vals (V.ref (hp.objs.size + 1) :: vs) (Value.ref (hp.objs.size + 1) :: bs) := .cons rfl rel
  refine wpAny_call (PySem.EK.run_call T.facts same hC (PySem.W.looks_findIn I.kIn hi) (fun self => PySem.W.bind_fn I.kIn self tI) small ?_)
  refine codeAny_mono (F.run _ X.stack _ _ ⟨Value.ref (hp.objs.size + 1) :: us, kw⟩ _ _ _ E0 (room.make C us kw) (J.env0.make C us kw) (binds _ _ J.kIn) rel2 q0) ?_
  intro r s' hr
  cases r with
  | error e => exact (show False from hr).elim
  | ok fl =>
    cases fl with
    | ret u =>
      obtain ⟨v, H2, J2, rv, ev, q2⟩ := J.after hr
      subst ev
      exact ⟨rv, ⟨V.ref (hp.objs.size + 1), H2, J2, rfl, q2⟩⟩
    | next => exact hr.elim
    | brk => exact hr.elim
    | cont => exact hr.elim
end
/-- C(e, ..) -/
def tMk (C : Addr) (sp : Sp) (ta : TA) : TE := fun σ H Q => ta σ H fun vs H1 => vs.length ≤ 100 ∧ ∀ a, H1 a = none →
  sp (.ref a :: vs) (upd H1 a (exo a C none)) (fun v H2 => v = .non ∧ Q (.ref a) H2) E0
def tMkK (C : Addr) (sp : Sp) (gV : List V → List V) (tk : TA) : TE := fun σ H Q => tk σ H fun vs H1 => ∀ a, H1 a = none →
  sp (.ref a :: gV vs) (upd H1 a (exo a C none)) (fun v H2 => v = .non ∧ Q (.ref a) H2) E0
section
variable {X : Cx} {C fI : Addr} {fd : FuncData} {ps ks : List Str} {sp : Sp} {k : Nat} {B newId initId : String} {bmB : List Value}
  {x : Str} {p pos : Pos} {e : Expr} {es : List Expr} {t tk : TA} {kws : List Keyword}
theorem pe_mk (T : ExK X.K C B newId initId bmB)
    (hi : PySem.W.findIn X.K (.ref C) "__init__" = some (some (.ref fI))) (tI : PySem.W.typeIn X.K (.ref fI) = some (.type "function"))
    (F : FnOk X.prog X.w X.K X.mg X.base CX0 k fI fd ps sp) (hb : Binds X.K fd ps []) (room : Room (k + 1) X.A) (hg : Gl X x) (hm : X.mg x = some (.ref C)) (ha : PA X (e :: es) t)
    (hdb : (x == ("__debug__" : Str)) = false := by decide) (he : starEach (e :: es) X.env = (false, eval e X.env) :: starEach es X.env := by rfl)
    (hpl : (backTo pos (starEach es X.env)).any (·.1) = false := by rfl) : PE X (.Call (.Name x p) (e :: es) [] pos) (tMk C sp t) := by
  constructor
  intro pins s σ H Q I h
  refine wpAny_Call_Name_kw (ld_glob I hg hm ?_ hdb)
  refine PySem.W.callWith_K (h₀ := X.base) I.ok.mod.kin T.keep ?_ he hpl
  refine thn (ha.run pos pins s σ H _ I h) ?_
  rintro us s1 ⟨vs, H1, J, r, hl, q⟩
  refine ⟨J.kIn, ?_⟩
  have hlen : (Value.none :: us).length = ps.length := by
    have z := F.len _ _ _ _ (q s1.heap.objs.size (J.hok.fresh (Nat.le_refl _)))
    rw [← z, List.length_cons, List.length_cons, r.length]
  refine run_mk (bs := us) (kw := []) T hi tI F room J r (fun s' self hK => ?_) (by show us.length ≤ sizeLine; rw [← r.length]; exact small_line (by omega)) q
  have z := hb s' (self :: us) hK (by rw [List.append_nil]; exact hlen)
  rw [List.append_nil] at z
  exact z
theorem pe_mkK (T : ExK X.K C B newId initId bmB) {g : List Value → List Value} {gV : List V → List V}
    (hi : PySem.W.findIn X.K (.ref C) "__init__" = some (some (.ref fI))) (tI : PySem.W.typeIn X.K (.ref fI) = some (.type "function"))
    (F : FnOk X.prog X.w X.K X.mg X.base CX0 k fI fd ps sp) (hgV : ∀ vs us, Vals vs us → Vals (gV vs) (g us))
    (hb : ∀ (s : Shared) (self : Value) (ws : List Value), ws.length = ks.length → BindsTo s fd ⟨[self], ks.zip ws⟩ (ps.zip (self :: g ws)))
    (room : Room (k + 1) X.A) (hg : Gl X x) (hm : X.mg x = some (.ref C)) (hkw : PK X kws tk) (hn : ∀ σ H Q, tk σ H Q → tk σ H fun vs H1 => vs.length = ks.length ∧ Q vs H1)
    (hall : (backToKw pos (keywordEach kws X.env)).all (·.1.isSome) = true := by rfl) (hks : (backToKw pos (keywordEach kws X.env)).filterMap (·.1) = ks := by rfl)
    (hdb : (x == ("__debug__" : Str)) = false := by decide)
    (hpl : ((backTo pos (starEach [] X.env)).any (·.1) || (backToKw pos (keywordEach kws X.env)).any (·.1.isNone)) = false := by rfl) :
    PE X (.Call (.Name x p) [] kws pos) (tMkK C sp gV tk) := by
  constructor
  intro pins s σ H Q I h
  refine wpAny_Call_Name_kw (ld_glob I hg hm ?_ hdb)
  refine PySem.W.callWith_KW0 (h₀ := X.base) I.ok.mod.kin T.keep hall ?_ hpl
  refine thn (hkw.run pos pins s σ H _ I (hn _ _ _ h)) ?_
  rintro ws s1 ⟨vs, H1, J, r, hl, q⟩
  refine ⟨J.kIn, ?_⟩
  rw [hks]
  exact run_mk (us := []) (bs := g ws) (kw := ks.zip ws) T hi tI F room J (hgV _ _ r) (fun s' self _ => hb s' self ws (by rw [← r.length]; exact hl)) (small_line (by decide)) q
end
/-- o.f of an exception that has its dict -/
def tGet (C : Addr) (f : Str) (to : TE) : TE := fun σ H Q => to σ H fun x H1 => ∃ (a d : Addr) (fs : List (Str × V)) (v : V), x = .ref a ∧ H1 a = some (exo a C (some d)) ∧ H1 d = some (exd d fs) ∧ fs.lookup f = some v ∧ Q v H1
theorem pe_get {X : Cx} {o : Expr} {to : TE} {f : Str} {pos : Pos} {C : Addr} {B newId initId : String} {bmB : List Value} (T : ExK X.K C B newId initId bmB) (hno : PySem.W.findIn X.K (.ref C) f = some none) (ho : PE X o to)
    (hb : attributeBase o f X.env (eval o X.env) = eval o X.env := by rfl) : PE X (.Attribute o f pos) (tGet C f to) := by
  constructor
  intro pins s σ H Q I h
  refine attr_of hb (thn (ho.run pins s σ H _ I h) ?_)
  rintro u s1 ⟨x, H1, J, r, a, d, fs, v, ex, ea, ed, hv, q⟩
  subst ex
  cases (show u = Value.ref a from r)
  obtain ⟨t1, hobj⟩ := exo_at J.hok ea
  obtain ⟨mA, ns, rel⟩ := exd_at J.hok ed
  have rv := rel f
  rw [hv] at rv
  obtain ⟨u', hu, ru⟩ := RelO.some_of rv
  obtain ⟨od, hod, look⟩ := lookIn_ns ns
  have inst : PySem.W.InstAt s1.heap a { cls := .ref C, dict := some d, data := .fields #[.ref t1, .none, .none, .none, .bool false, .none] } C (some od) := ⟨hobj, rfl, rfl, hod⟩
  exact PySem.PX.exc_get J.kIn inst T.ga T.gt T.sub (PySem.W.findObj_own T.dct hno rfl (by rw [look, hu])) (handed_of ru) ⟨v, H1, J.tok _, ru, q⟩
/-- isinstance(e, c), e an exception -/
def rIsX (K : PySem.W.Frag) : List V → Hp → VK → Prop := fun xs H Q => ∃ (a C : Addr) (d : Option Addr) (c : V) (cv : Value) (b : Bool), xs = [.ref a, c] ∧ H a = some (exo a C d) ∧ (∀ x, d = some x → ∃ fs, H x = some (exd x fs)) ∧
  ClsV c cv ∧ PySem.W.kitOne K (.ref C) cv = some b ∧ Q (.bl b) H
/-- the classes that a law's exceptions are of -/
def ExAll (K : PySem.W.Frag) (P : Addr → Prop) : Prop := ∀ C, P C → ∃ B newId initId bmB, ExK K C B newId initId bmB
theorem call_isX {X : Cx} {P : Addr → Prop} (T : ExAll X.K P) : CallR X (.builtin "isinstance") (fun xs H Q => rIsX X.K xs H Q ∧ ∀ a c, xs = [.ref a, c] → ∀ C d, H a = some (exo a C d) → P C) := by
  intro pins s σ H xs us Q I r h
  obtain ⟨⟨a, C, d, c, cv, b, rfl, ha, hd, hc, e, q⟩, hP⟩ := h
  obtain ⟨u1, u2, rfl, r1, r2⟩ := vals2 r
  cases (show u1 = Value.ref a from r1)
  have e2 := hc.eq r2
  subst e2
  obtain ⟨B, newId, initId, bmB, K0⟩ := T C (hP a c rfl C d ha)
  obtain ⟨t1, hobj⟩ := exo_at I.hok ha
  obtain ⟨cd, hcd, _⟩ := PySem.W.any_some K0.dct
  have hcl : (PySem.W.clsIn X.K C).isSome = true := by
    rw [hcd]
    rfl
  cases d with
  | none =>
    have inst : PySem.W.InstAt s.heap a { cls := .ref C, dict := none, data := .fields #[.ref t1, .none, .none, .none, .bool false, .none] } C none := ⟨hobj, rfl, rfl, trivial⟩
    exact PySem.W.kia_one (PySem.W.kitx_exc hcl K0.ga K0.gt K0.sub K0.cl K0.gg K0.tk K0.mo) I.kIn inst e (fun z => nomatch z) fun tk => ⟨.bl b, H, I.tok tk, rfl, q⟩
  | some x =>
    obtain ⟨fs, ex⟩ := hd x rfl
    obtain ⟨mA, ns, rel⟩ := exd_at I.hok ex
    obtain ⟨od, hod, look⟩ := lookIn_ns ns
    have inst : PySem.W.InstAt s.heap a { cls := .ref C, dict := some x, data := .fields #[.ref t1, .none, .none, .none, .bool false, .none] } C (some od) := ⟨hobj, rfl, rfl, hod⟩
    exact PySem.W.kia_one (PySem.W.kitx_exc hcl K0.ga K0.gt K0.sub K0.cl K0.gg K0.tk K0.mo) I.kIn inst e (fun z => nomatch z) fun tk => ⟨.bl b, H, I.tok tk, rfl, q⟩
end Hx

namespace Hx
open PySem PySem.Spec PyProof.Rows L2
section
variable {X : Cx} {C fI : Addr} {fd : FuncData} {ps : List Str} {sp : Sp} {k : Nat} {B newId initId : String} {bmB : List Value}
  {x : Str} {p pos : Pos} {e : Expr} {es : List Expr} {ta : TA}
/-- raise C(e, ..), C an own class over any built-in one whose __init__ is a def -/
theorem pmk_own2 (T : ExK X.K C B newId initId bmB) (ty : PySem.W.typeIn X.K (.ref C) = some (.type "type")) (hi : PySem.W.findIn X.K (.ref C) "__init__" = some (some (.ref fI))) (tI : PySem.W.typeIn X.K (.ref fI) = some (.type "function"))
    (F1 : FnOk X.prog X.w X.K X.mg X.base CX0 k fI fd ps sp) (room : Room (k + 1) X.A) (hb : Binds X.K fd ps []) (hg : Gl X x) (hm : X.mg x = some (.ref C)) (ha : PA X (e :: es) ta)
    (hdb : (x == ("__debug__" : Str)) = false := by decide) (he : starEach (e :: es) X.env = (false, eval e X.env) :: starEach es X.env := by rfl) (hpl : (backTo pos (starEach es X.env)).any (·.1) = false := by rfl) :
    PMk X (.Call (.Name x p) (e :: es) [] pos) (tMkO C sp [] ta) := by
  intro pins s σ H Q I h
  refine wpAny_Call_Name_kw (ld_glob I hg hm ?_ hdb)
  refine PySem.W.callWith_K (h₀ := X.base) I.ok.mod.kin T.keep (thn (ha.run pos pins s σ H _ I h) fun us s1 ⟨vs, H1, I1, r1, few, q1⟩ => ⟨I1.kIn, ?_⟩) he hpl
  obtain ⟨nm, N, qn, bs0, bm, hdct, sn, sub, ab, col, dd, k0, k1, k2, k3, k5, hC, same⟩ := PySem.W.excInit_of I1.kIn T.made
  obtain ⟨hp, g, dr, tk, os⟩ := s1
  have above : hp.objs.size ≤ hp.objs.size + 1 := Nat.le_succ _
  have n0 : H1 (hp.objs.size + 1) = none := I1.hok.fresh above
  have q0 := q1 _ n0
  rw [List.append_nil] at q0
  have J : Inv X pins σ (upd H1 (hp.objs.size + 1) (exo (hp.objs.size + 1) C none)) ⟨PySem.EK.madeHeap hp C us, g, dr, tk, os⟩ :=
    I1.laid (t' := tk) (h' := PySem.EK.madeHeap hp C us) (fun b o e => PySem.EK.made_keep b o e) above (exo_ok PySem.EK.made_at)
  have rel2 : Vals (V.ref (hp.objs.size + 1) :: vs) (Value.ref (hp.objs.size + 1) :: us) := .cons rfl r1
  have hl : ((Value.ref (hp.objs.size + 1) :: us) ++ []).length = ps.length := by
    rw [List.append_nil, ← rel2.length]
    exact F1.len _ _ _ _ q0
  have small : us.length ≤ sizeLine := by
    rw [← r1.length]
    exact small_line few
  have bind := hb _ (Value.ref (hp.objs.size + 1) :: us) J.kIn hl
  rw [List.append_nil] at bind
  refine wpAny_call (PySem.EK.run_call T.facts same hC (PySem.W.looks_findIn I1.kIn hi) (fun self => PySem.W.bind_fn I1.kIn self tI) small ?_)
  refine codeAny_mono (F1.run _ X.stack _ _ ⟨Value.ref (hp.objs.size + 1) :: us, []⟩ _ _ _ (fun _ _ _ => False) (room.make C us []) (J.env0.make C us []) bind rel2 q0) ?_
  intro r s' hr
  cases r with
  | error e => exact (show False from hr).elim
  | ok fl =>
    cases fl with
    | next => exact hr.elim
    | brk => exact hr.elim
    | cont => exact hr.elim
    | ret u =>
      obtain ⟨v, H2, os2, bare2, un2, hok2, rv, ev, d, fs, ea, ed, hd1, q2⟩ := hr
      subst ev
      obtain ⟨h2, g2, d2, t2, os'⟩ := s'
      exact ⟨rv, mk_end (raises_own T.sub ty) I1 above (fun b o e => PySem.EK.made_keep b o e) un2 hok2 os2 bare2 ea ed hd1 q2⟩
end
end Hx

namespace Hx
open PySem PySem.Spec PyProof.Rows L2
/-! comparing data -/
section
variable {X : Cx}
def rNeQ : R2 := fun x y H Q => ∃ d e, Dq H x d ∧ Dq H y e ∧ SeqAt.shaped d = true ∧ SeqAt.shaped e = true ∧ Q (.bl (!PyData.eqv d e)) H
def rEqQ : R2 := fun x y H Q => ∃ d e, Dq H x d ∧ Dq H y e ∧ SeqAt.shaped d = true ∧ SeqAt.shaped e = true ∧ Q (.bl (PyData.eqv d e)) H
theorem op_neQ (hu : X.A.units + 64 < cLine) : OpR X (compareOp .NotEq) rNeQ := by
  intro pins s σ H x y v u Q I rx ry h
  obtain ⟨d, e, hd, he, sd, se, q⟩ := h
  obtain ⟨as, r1, _⟩ := Dq.reads I d x v hd rx
  obtain ⟨bs, r2, _⟩ := Dq.reads I e y u he ry
  exact SeqAt.compareNe_shaped r1 r2 sd se hu ⟨.bl _, H, I, rfl, q⟩
theorem op_eqQ (hu : X.A.units + 64 < cLine) : OpR X (compareOp .Eq) rEqQ := by
  intro pins s σ H x y v u Q I rx ry h
  obtain ⟨d, e, hd, he, sd, se, q⟩ := h
  obtain ⟨as, r1, _⟩ := Dq.reads I d x v hd rx
  obtain ⟨bs, r2, _⟩ := Dq.reads I e y u he ry
  exact SeqAt.compareEq_shaped r1 r2 sd se hu ⟨.bl _, H, I, rfl, q⟩
end
/-! comprehensions that make data -/
def without (D : Addr) (H : Hp) : Hp := fun b => if b = D then none else H b
def newPart (H H' : Hp) : Hp := fun b => if H b = none then H' b else none
theorem without_some {D b : Addr} {H : Hp} {o : HO} (h : without D H b = some o) : b ≠ D ∧ H b = some o := by
  unfold without at h
  split at h
  · cases h
  · exact ⟨by assumption, h⟩
theorem without_at {D b : Addr} {H : Hp} {o : HO} (n : b ≠ D) (h : H b = some o) : without D H b = some o := by
  unfold without
  rw [if_neg n]
  exact h
theorem newPart_some {b : Addr} {H H' : Hp} {o : HO} (h : newPart H H' b = some o) : H b = none ∧ H' b = some o := by
  unfold newPart at h
  split at h
  · exact ⟨by assumption, h⟩
  · cases h
theorem newPart_at {b : Addr} {H H' : Hp} {o : HO} (n : H b = none) (h : H' b = some o) : newPart H H' b = some o := by
  unfold newPart
  rw [if_pos n]
  exact h
theorem without_same {D : Addr} {H : Hp} : Same (without D H) H := fun b o h => (without_some h).2
theorem newPart_same {H H' : Hp} : Same (newPart H H') H' := fun b o h => (newPart_some h).2
theorem without_upd {D : Addr} {H : Hp} {o : HO} : without D (upd H D o) = without D H := by
  funext b
  unfold without
  split
  · rfl
  · rw [upd_ne (by assumption)]
theorem DqAll.snoc {H : Hp} {v : V} {d : PyData} : ∀ {vs : List V} {ds : List PyData}, DqAll H vs ds → Dq H v d → DqAll H (vs ++ [v]) (ds ++ [d])
  | _, _, .nil, h => .cons h .nil
  | _, _, .cons a r, h => .cons a (DqAll.snoc r h)
theorem DqAll.len {H : Hp} : ∀ {vs : List V} {ds : List PyData}, DqAll H vs ds → vs.length = ds.length
  | _, _, .nil => rfl
  | _, _, .cons _ r => congrArg Nat.succ (DqAll.len r)
/-- what a turn's element must do: a new datum, all else as it was -/
def Gives (te : TE) (σ : L2.St) (H : Hp) (d : PyData) : Prop := ∀ Q : VK, (∀ y H', Same H H' → Dq (newPart H H') y d → Q y H') → te σ H Q
def LcAt (H1 : Hp) (D : Addr) (f : Nat → PyData) (i : Nat) (H' : Hp) : Prop :=
  Same H1 H' ∧ ∃ xs, H' D = some (.lst xs) ∧ DqAll (without D H') xs ((List.range i).map f)
theorem LcAt.start {H1 : Hp} {D : Addr} {f : Nat → PyData} (hD : H1 D = none) : LcAt H1 D f 0 (upd H1 D (.lst [])) := ⟨same_new hD _, [], upd_same, .nil⟩
theorem LcAt.turn {H1 H' H2 : Hp} {D : Addr} {f : Nat → PyData} {i : Nat} {y : V} (hD : H1 D = none) (h : LcAt H1 D f i H') (s : Same H' H2) (hy : Dq (newPart H' H2) y (f i)) (hi : i < 100000) :
    ∃ acc, H2 D = some (.lst acc) ∧ acc.length < sizeLine ∧ LcAt H1 D f (i + 1) (upd H2 D (.lst (acc ++ [y]))) := by
  obtain ⟨s1, xs, hx, ha⟩ := h
  have hlen := ha.len
  rw [List.length_map, List.length_range] at hlen
  refine ⟨xs, s _ _ hx, by rw [hlen]; exact Nat.lt_of_lt_of_le hi (by decide), ?_, xs ++ [y], upd_same, ?_⟩
  · intro b o hb
    rw [upd_ne (ne_of_none hb hD)]
    exact s _ _ (s1 _ _ hb)
  · rw [without_upd, List.range_succ, List.map_append]
    refine DqAll.snoc (DqAll.same (fun b o hb => ?_) _ _ ha) (Dq.same (fun b o hb => ?_) _ _ hy)
    · obtain ⟨n, e⟩ := without_some hb
      exact without_at n (s _ _ e)
    · obtain ⟨n, e⟩ := newPart_some hb
      exact without_at (fun z => by rw [z, hx] at n; cases n) e
theorem lc_data_range {n : Nat} {i0 : Nat} {te : TE} {vs : List Nat} {σ : L2.St} {H1 : Hp} {D : Addr} {Qd : Hp → Prop} (f : Nat → PyData) (hD : H1 D = none) (hn : n ≤ 100000)
    (hw : ∀ x : V, wipe ((wipe σ vs).set i0 (some x)) vs = wipe σ vs)
    (hs : ∀ i H', i < n → Same H1 H' → Gives te ((wipe σ vs).set i0 (some (.int (i : Nat)))) H' (f i))
    (hd : ∀ H' xs, Same H1 H' → H' D = some (.lst xs) → DqAll H' xs ((List.range n).map f) → Qd H') :
    ∃ W : Nat → Nat → Hp → Prop, (∃ m, W 0 m (upd H1 D (.lst []))) ∧ ∀ i m H, W i m H →
      ((Itr 0 n).stop i H ∧ Qd H) ∨ ((Itr 0 n).go i H ∧ ∃ Nx : Hp → Prop, (∀ H', Nx H' → ∃ m', m' < m ∧ W (i + 1) m' H') ∧
        ∀ x H', (Itr 0 n).yld i H x H' → gName i0 x (wipe σ vs) H' fun σ2 H2 => wipe σ2 vs = wipe σ vs ∧ tYes σ2 H2 fun b H3 =>
          if b = true then te σ2 H3 fun y H4 => ∃ acc, H4 D = some (.lst acc) ∧ acc.length < sizeLine ∧ Nx (upd H4 D (.lst (acc ++ [y]))) else Nx H3) := by
  refine lc_range (lo := 0) (n := n) (LcAt H1 D f) (LcAt.start hD) ?_ ?_
  · intro i H' hi h
    refine ⟨hw _, turn_yes ?_⟩
    have e : (V.int (0 + (i : Int))) = V.int ((i : Nat) : Int) := by rw [Int.zero_add]
    rw [e]
    exact hs i H' hi h.1 _ fun y H2 s hy => h.turn hD s hy (by omega)
  · rintro H' ⟨s1, xs, hx, ha⟩
    exact hd H' xs s1 hx (DqAll.same without_same _ _ ha)
theorem lc_data_list {K : PySem.W.Frag} {a : Addr} {ws : List V} {i0 : Nat} {te : TE} {vs : List Nat} {σ : L2.St} {H1 : Hp} {D : Addr} {Qd : Hp → Prop} (f : Nat → PyData) (hD : H1 D = none) (hn : ws.length ≤ 100000)
    (hl : SqL K H1 a ws) (hw : ∀ x : V, wipe ((wipe σ vs).set i0 (some x)) vs = wipe σ vs)
    (hs : ∀ i x H', ws[i]? = some x → Same H1 H' → Gives te ((wipe σ vs).set i0 (some x)) H' (f i))
    (hd : ∀ H' xs, Same H1 H' → H' D = some (.lst xs) → DqAll H' xs ((List.range ws.length).map f) → Qd H') :
    ∃ W : Nat → Nat → Hp → Prop, (∃ m, W 0 m (upd H1 D (.lst []))) ∧ ∀ i m H, W i m H →
      ((Itl K a).stop i H ∧ Qd H) ∨ ((Itl K a).go i H ∧ ∃ Nx : Hp → Prop, (∀ H', Nx H' → ∃ m', m' < m ∧ W (i + 1) m' H') ∧
        ∀ x H', (Itl K a).yld i H x H' → gName i0 x (wipe σ vs) H' fun σ2 H2 => wipe σ2 vs = wipe σ vs ∧ tYes σ2 H2 fun b H3 =>
          if b = true then te σ2 H3 fun y H4 => ∃ acc, H4 D = some (.lst acc) ∧ acc.length < sizeLine ∧ Nx (upd H4 D (.lst (acc ++ [y]))) else Nx H3) := by
  refine lc_list (K := K) (a := a) (xs := ws) (LcAt H1 D f) (LcAt.start hD) (fun i H' _ h => h.1.seq hl) ?_ ?_
  · intro i x H' hi h
    have lt : i < ws.length := (List.getElem?_eq_some_iff.mp hi).1
    refine ⟨hw _, turn_yes ?_⟩
    exact hs i x H' hi h.1 _ fun y H2 s hy => h.turn hD s hy (by omega)
  · rintro H' ⟨s1, xs, hx, ha⟩
    exact hd H' xs s1 hx (DqAll.same without_same _ _ ha)
/-! isinstance of an exception -/
/-- at a stands an exception of the class at C -/
def XAt (H : Hp) (a C : Addr) : Prop := ∃ d, H a = some (exo a C d) ∧ ∀ x, d = some x → ∃ fs, H x = some (exd x fs)
theorem XAt.same {H H' : Hp} {a C : Addr} (h : XAt H a C) (s : Same H H') : XAt H' a C := by
  obtain ⟨d, e, k⟩ := h
  refine ⟨d, s _ _ e, fun x hx => ?_⟩
  obtain ⟨fs, z⟩ := k x hx
  exact ⟨fs, s _ _ z⟩
def tIs (i : Nat) (a C : Addr) (b : Bool) : TE := fun σ H Q => σ[i]? = some (some (.ref a)) ∧ XAt H a C ∧ Q (.bl b) H
section
variable {X : Cx} {a C : Addr} {i : Nat} {x : Str} {p p1 pos : Pos} {ce : Expr} {c : V} {cv : Value} {b : Bool} {B newId initId : String} {bmB : List Value}
theorem call_isK (T : ExK X.K C B newId initId bmB) : CallR X (.builtin "isinstance") (fun xs H Q => ∃ (a : Addr) (c : V) (cv : Value) (b : Bool), xs = [.ref a, c] ∧ XAt H a C ∧ ClsV c cv ∧ PySem.W.kitOne X.K (.ref C) cv = some b ∧ Q (.bl b) H) := by
  intro pins s σ H xs us Q I r h
  obtain ⟨a, c, cv, b, rfl, ⟨d, ha, hd⟩, hc, e, q⟩ := h
  obtain ⟨u1, u2, rfl, r1, r2⟩ := vals2 r
  cases (show u1 = Value.ref a from r1)
  have e2 := hc.eq r2
  subst e2
  obtain ⟨t1, hobj⟩ := exo_at I.hok ha
  obtain ⟨cd, hcd, _⟩ := PySem.W.any_some T.dct
  have hcl : (PySem.W.clsIn X.K C).isSome = true := by
    rw [hcd]
    rfl
  cases d with
  | none =>
    have inst : PySem.W.InstAt s.heap a { cls := .ref C, dict := none, data := .fields #[.ref t1, .none, .none, .none, .bool false, .none] } C none := ⟨hobj, rfl, rfl, trivial⟩
    exact PySem.W.kia_one (PySem.W.kitx_exc hcl T.ga T.gt T.sub T.cl T.gg T.tk T.mo) I.kIn inst e (fun z => nomatch z) fun tk => ⟨.bl b, H, I.tok tk, rfl, q⟩
  | some x =>
    obtain ⟨fs, ex⟩ := hd x rfl
    obtain ⟨mA, ns, rel⟩ := exd_at I.hok ex
    obtain ⟨od, hod, look⟩ := lookIn_ns ns
    have inst : PySem.W.InstAt s.heap a { cls := .ref C, dict := some x, data := .fields #[.ref t1, .none, .none, .none, .bool false, .none] } C (some od) := ⟨hobj, rfl, rfl, hod⟩
    exact PySem.W.kia_one (PySem.W.kitx_exc hcl T.ga T.gt T.sub T.cl T.gg T.tk T.mo) I.kIn inst e (fun z => nomatch z) fun tk => ⟨.bl b, H, I.tok tk, rfl, q⟩
theorem pe_is (T : ExK X.K C B newId initId bmB) (hg : Gl X "isinstance") (hm : X.mg "isinstance" = none) (hx : PE X (.Name x p1) (tVar i)) (hc : PE X ce (tC c)) (cl : ClsV c cv)
    (hk : PySem.W.kitOne X.K (.ref C) cv = some b) (he1 : starEach [.Name x p1, ce] X.env = (false, eval (.Name x p1) X.env) :: starEach [ce] X.env := by rfl)
    (he2 : starEach [ce] X.env = (false, eval ce X.env) :: starEach [] X.env := by rfl)
    (hpl : (backTo pos (starEach [ce] X.env)).any (·.1) = false := by rfl) : PE X (.Call (.Name "isinstance" p) [.Name x p1, ce] [] pos) (tIs i a C b) := by
  constructor
  intro pins s σ H Q I h
  obtain ⟨h1, h2, h3⟩ := h
  exact (pe_callB (call_isK T) hg hm PyProof.Rows.boot_isinstance (pa_cons hx (pa_cons hc pa_nil he2) he1) (by decide) (by decide) he1 hpl).run pins s σ H Q I ⟨_, h1, a, c, cv, b, rfl, h2, cl, hk, h3⟩
end
/-- C(), C an own exception class without __init__ -/
theorem pe_mk0 {X : Cx} {C : Addr} {B newId initId : String} {bmB : List Value} {x : Str} {p pos : Pos} (F : ExcBaseFacts B newId initId bmB) (q : PySem.W.excIn X.K C bmB newId = true)
    (gC : X.mg x = some (.ref C)) (kC : PySem.W.keepIn X.K (.ref C) = true) (hg : Gl X x) (hdb : (x == ("__debug__" : Str)) = false := by decide) :
    PE X (.Call (.Name x p) [] [] pos) (fun σ H Q => ∀ a, H a = none → Q (.ref a) (upd H a (exo a C none))) := by
  constructor
  intro pins s σ H Q I h
  refine wpAny_Call_Name_kw (ld_glob I hg gC ?_ hdb)
  refine PySem.W.callWith_K0 I.kIn kC ?_
  show wpAny _ _ (call (.ref C) []) _ _ _
  obtain ⟨bm, N, nm, qn, bs, hdct, sn, sub, ab, col, dd, k0, k1, k2, k3, k5, mN, hC, hN, hni, T⟩ := exc_obj I.kIn q
  refine wpAny_call_exc_subT F T hC hN hni (fun h' a hm => ?_) (by show 0 ≤ sizeLine; exact Nat.zero_le _)
  have hn : H a = none := I.hok.gone hm.new
  obtain ⟨t, ht, _, _⟩ := hm.there
  exact ⟨.ref a, upd H a (exo a C none), I.laidN hm.keeps hm.new hn (exo_ok ht), rfl, h a hn⟩
end Hx

namespace Wp
open PySem PySem.Spec PyProof.Rows L2 Hx
/-! ### what values are -/
/-- no integer: of another class, or True, False -/
def NotInt (K : PySem.W.Frag) (H : Hp) (v : V) : Prop := ∃ t bi bb, TyX K H v t ∧ PySem.W.kitOne K t (.type "int") = some bi ∧ PySem.W.kitOne K t (.type "bool") = some bb ∧ (bi && !bb) = false
def NotStr (K : PySem.W.Frag) (H : Hp) (v : V) : Prop := ∃ t, TyX K H v t ∧ PySem.W.kitOne K t (.type "str") = some false
def letterB (c : Nat) : Bool := decide (97 ≤ c ∧ c ≤ 122)
/-- a text of one letter to m -/
def lettered (m : Int) (x : Str) : Bool := decide (1 ≤ (x.length : Int)) && (decide ((x.length : Int) ≤ m) && x.cps.toList.all letterB)
def abc : Str := "abcdefghijklmnopqrstuvwxyz"
theorem abc_list : abc.cps.toList = [97, 98, 99, 100, 101, 102, 103, 104, 105, 106, 107, 108, 109, 110, 111, 112, 113, 114, 115, 116, 117, 118, 119, 120, 121, 122] := by decide +kernel
theorem is_letter {c : Nat} : decide (c ∈ abc.cps.toList) = letterB c := by
  rw [abc_list]
  unfold letterB
  rw [Bool.eq_iff_iff, decide_eq_true_eq, decide_eq_true_eq]
  simp only [List.mem_cons, List.not_mem_nil, or_false]
  omega
def noNames : List Str := ["weave", "part", "drop", "lead", "turn"]
structure Consts (mg : Str → Option Value) (K : PySem.W.Frag) : Prop where
  letters : ∃ t, mg "LETTERS" = some (.str abc t)
  most : ∃ t, mg "MOST_LETTERS" = some (.int 8 t)
  signs : ∃ t, mg "MOST_SIGNS" = some (.int 4 t)
  base : ∃ t, mg "MOST_BASE" = some (.int 4 t)
  least : ∃ t, mg "LEAST_BASE" = some (.int 2 t)
  drop : ∃ t, mg "MOST_DROP" = some (.int 9 t)
  no : ∃ p, mg "NO_NAMES" = some (.ref p) ∧ ∀ H, SqT K H p (noNames.map V.str)
structure Bltn (mg : Str → Option Value) : Prop where
  isinstance : mg "isinstance" = none
  int : mg "int" = none
  bool : mg "bool" = none
  str : mg "str" = none
  len : mg "len" = none
  all : mg "all" = none
def spIsInt (K : PySem.W.Frag) : Sp := fun vs H Q _ => ∃ v, vs = [v] ∧ ((∃ i, v = .int i ∧ Q (.bl true) H) ∨ (NotInt K H v ∧ Q (.bl false) H))
def spWithin (K : PySem.W.Frag) : Sp := fun vs H Q _ => ∃ (v : V) (l m : Int), vs = [v, .int l, .int m] ∧ ((∃ i, v = .int i ∧ Q (.bl (decide (l ≤ i) && decide (i ≤ m))) H) ∨ (NotInt K H v ∧ Q (.bl false) H))
def spLettered (K : PySem.W.Frag) : Sp := fun vs H Q _ => ∃ (v : V) (m : Int), vs = [v, .int m] ∧ m ≤ 1000 ∧ ((∃ x : Str, v = .str x ∧ x.length ≤ 100000 ∧ ∀ H', Same H H' → Q (.bl (lettered m x)) H') ∨ (NotStr K H v ∧ Q (.bl false) H))
section
variable {P : Program} {w : World} {K : PySem.W.Frag} {mg : Str → Option Value} {base : Heap} {f fI fW fL fN : Addr} {fd fdI fdW fdL fdN : FuncData}
theorem scIsInt : FnScope ["value"] ["value"] (defScope s_is_integer) := ⟨rfl, rfl, rfl, by decide +kernel, rfl, by decide +kernel, by decide +kernel⟩
theorem ok_isint (F : Fun K "is_integer" "is_integer" s_is_integer f fd) (Z : Bltn mg) : FnOk P w K mg base CX0 1 f fd ["value"] (spIsInt K) := by
  refine F.ok scIsInt (fun vs H Q E h => ?_) (fun cdv A outer s H vs Q E hr h => ?_)
  · obtain ⟨v, rfl, _⟩ := h
    rfl
  obtain ⟨v, rfl, h⟩ := h
  refine ⟨_, pss_one (ps_ret (pe_and (pe_callB call_isi (by rfl) Z.isinstance PyProof.Rows.boot_isinstance (pa_cons (pv 0) (pa_cons (pe_bty (T := "int") rfl Z.int (by decide +kernel)) pa_nil)))
    (pe_one (pe_not (pe_callB call_isi (by rfl) Z.isinstance PyProof.Rows.boot_isinstance (pa_cons (pv 0) (pa_cons (pe_bty (T := "bool") rfl Z.bool (by decide +kernel)) pa_nil))))))), ?_⟩
  rcases h with ⟨i, rfl, q⟩ | ⟨⟨t, bi, bb, ty, k1, k2, e⟩, q⟩
  · refine ⟨_, rfl, _, _, .type "int", _, true, rfl, .ty "int", .base (.int i), kit_ty (by decide +kernel), _, rfl, iteT ?_⟩
    exact ⟨_, rfl, _, _, .type "int", _, false, rfl, .ty "bool", .base (.int i), kit_ty (by decide +kernel), _, rfl, q⟩
  · refine ⟨_, rfl, _, _, t, _, bi, rfl, .ty "int", ty, k1, _, rfl, ?_⟩
    cases bi with
    | false => exact iteF q
    | true =>
      refine iteT ⟨_, rfl, _, _, t, _, bb, rfl, .ty "bool", ty, k2, _, rfl, ?_⟩
      cases bb with
      | true => exact q
      | false => cases e
theorem scWithin : FnScope ["value", "least", "most"] ["value", "least", "most"] (defScope s_is_within) := ⟨rfl, rfl, rfl, by decide +kernel, rfl, by decide +kernel, by decide +kernel⟩
theorem ok_within (F : Fun K "is_within" "is_within" s_is_within f fd) (GI : FnOk P w K mg base CX0 1 fI fdI ["value"] (spIsInt K)) (bI : Binds K fdI ["value"] []) (kI : PySem.W.keepIn K (.ref fI) = true) (mI : mg "is_integer" = some (.ref fI)) :
    FnOk P w K mg base CX0 2 f fd ["value", "least", "most"] (spWithin K) := by
  refine F.ok scWithin (fun vs H Q E h => ?_) (fun cdv A outer s H vs Q E hr h => ?_)
  · obtain ⟨v, l, m, rfl, _⟩ := h
    rfl
  obtain ⟨v, l, m, rfl, h⟩ := h
  refine ⟨_, pss_one (ps_ret (pe_and (pe_call GI hr rfl mI kI bI .nil pass0 (pa_cons (pv 0) pa_nil)) (pe_one (pe_chain op_le op_le (pv 1) (pv 0) (pv 2))))), ?_⟩
  rcases h with ⟨i, rfl, q⟩ | ⟨n, q⟩
  · refine ⟨_, rfl, _, rfl, .inl ⟨i, rfl, _, rfl, iteT ?_⟩⟩
    refine ⟨_, rfl, _, rfl, _, _, rfl, rfl, _, rfl, ?_⟩
    by_cases c : l ≤ i
    · rw [decide_eq_true c] at q ⊢
      exact iteT ⟨_, rfl, _, _, rfl, rfl, q⟩
    · rw [decide_eq_false c] at q ⊢
      exact iteF q
  · exact ⟨_, rfl, _, rfl, .inr ⟨n, _, rfl, iteF q⟩⟩
theorem scLettered : FnScope ["value", "most", "letter"] ["value", "most"] (defScope s_is_lettered) := ⟨rfl, rfl, rfl, by decide +kernel, rfl, by decide +kernel, by decide +kernel⟩
theorem ok_lettered (F : Fun K "is_lettered" "is_lettered" s_is_lettered f fd) (Z : Bltn mg) (C : Consts mg K) : FnOk P w K mg base CX0 1 f fd ["value", "most"] (spLettered K) := by
  refine F.ok scLettered (fun vs H Q E h => ?_) (fun cdv A outer s H vs Q E hr h => ?_)
  · obtain ⟨v, m, rfl, _⟩ := h
    rfl
  obtain ⟨v, m, rfl, m1, h⟩ := h
  obtain ⟨tl, ml⟩ := C.letters
  refine ⟨_, pss_cons (ps_if (PW.pt (pw_or (pt_not (pt_val (pe_callB call_isi (by rfl) Z.isinstance PyProof.Rows.boot_isinstance (pa_cons (pv 0) (pa_cons (pe_bty (T := "str") rfl Z.str (by decide +kernel)) pa_nil)))))
      (pw_or1 (pt_not (pt_chain op_le op_le pe_int (pe_callB call_len_str (by rfl) Z.len PySem.boot_len (pa_cons (pv 0) pa_nil)) (pv 1)))))) (pss_one (ps_ret pe_bl)) pss_nil)
    (pss_one (ps_ret (pe_callB (cr_all rfl) (by rfl) Z.all PyProof.Rows.boot_all (pa_cons (pe_lc (own := [("letter", 2)]) (g := gName 2) (tt := tYes) rfl scLettered.nd (pi_str (pv 0))
      (blkOk_by (N := ["value", "most", "letter"]) (sc := defScope s_is_lettered) (by decide +kernel)) (fun _ _ _ _ _ => pg_name (i := 2) scLettered.nd rfl (Or.inl rfl)) (fun _ _ _ _ _ => pts_nil)
      (fun _ _ _ _ _ => pe_cmpR op_in_sign (pv 2) (pe_glob (v := .str abc) rfl ml ⟨_, rfl⟩) (by rfl))) pa_nil)))), ?_⟩
  rcases h with ⟨x, rfl, few, q⟩ | ⟨⟨t, ty, k1⟩, q⟩
  · have small : x.length ≤ sizeLine := Nat.le_trans few (by decide)
    refine ⟨_, rfl, _, _, .type "str", _, true, rfl, .ty "str", .base (.str x), kit_ty (by decide +kernel), _, rfl, iteF ?_⟩
    refine ⟨_, rfl, x, rfl, small, _, _, rfl, rfl, _, rfl, ?_⟩
    by_cases c1 : (1 : Int) ≤ (x.length : Int)
    · rw [decide_eq_true c1]
      refine iteT ⟨_, rfl, _, _, rfl, rfl, _, rfl, ?_⟩
      by_cases c2 : (x.length : Int) ≤ m
      · have el : lettered m x = x.cps.toList.all letterB := by
          unfold lettered
          rw [decide_eq_true c1, decide_eq_true c2, Bool.true_and, Bool.true_and]
        rw [el] at q
        rw [decide_eq_true c2]
        refine iteF ?_
        refine ⟨_, rfl, x, rfl, fun D hD => ?_⟩
        refine L2.lc_it L2.walk_str (fun i H' => Same H H' ∧ H' D = some (.lst (((x.cps.toList.take i).map letterB).map V.bl))) ⟨same_new hD _, upd_same⟩ (fun _ _ _ _ => trivial) ?_ ?_
        · rintro i _ H1 _ hi ⟨s1, h1⟩ ⟨rfl, c, hc, rfl⟩
          refine ⟨rfl, turn_yes ⟨_, rfl, c, abc, rfl, rfl, ?_⟩⟩
          have hc2 : x.cps.toList[i]? = some c := by rw [Array.getElem?_toList]; exact hc
          refine ⟨_, h1, ?_, fun b o hb => ?_, ?_⟩
          · rw [List.length_map, List.length_map, List.length_take]
            exact Nat.lt_of_le_of_lt (Nat.le_trans (Nat.min_le_right _ _) few) (by decide)
          · rw [upd_ne (ne_of_none hb hD)]
            exact s1 b o hb
          · rw [upd_same, is_letter, List.take_add_one, hc2, List.map_append, List.map_append]
            rfl
        · rintro H1 ⟨s1, h1⟩
          rw [List.take_of_length_le (by rw [Array.length_toList]; exact Nat.le_refl _)] at h1
          refine ⟨D, _, rfl, SqL.of h1, ?_⟩
          rw [List.all_map]
          exact q H1 s1
      · have el : lettered m x = false := by
          unfold lettered
          rw [decide_eq_false c2, Bool.false_and, Bool.and_false]
        rw [el] at q
        rw [decide_eq_false c2]
        exact iteT (q H (Same.refl H))
    · have el : lettered m x = false := by
        unfold lettered
        rw [decide_eq_false c1, Bool.false_and]
      rw [el] at q
      rw [decide_eq_false c1]
      exact iteF ⟨_, rfl, iteT (q H (Same.refl H))⟩
  · exact ⟨_, rfl, _, _, t, _, false, rfl, .ty "str", ty, k1, _, rfl, iteT (iteT q)⟩
end
end Wp

namespace Hx
open PySem PySem.Spec PyProof.Rows L2
/-- at a stands an exception of the class at C with these fields -/
def EAt (H : Hp) (a C : Addr) (fs : List (Str × V)) : Prop := ∃ d, H a = some (exo a C (some d)) ∧ H d = some (exd d fs)
theorem EAt.same {H H' : Hp} {a C : Addr} {fs : List (Str × V)} (h : EAt H a C fs) (s : Same H H') : EAt H' a C fs := by
  obtain ⟨d, h1, h2⟩ := h
  exact ⟨d, s _ _ h1, s _ _ h2⟩
theorem EAt.x {H : Hp} {a C : Addr} {fs : List (Str × V)} (h : EAt H a C fs) : XAt H a C := by
  obtain ⟨d, h1, h2⟩ := h
  refine ⟨some d, h1, fun x hx => ?_⟩
  cases hx
  exact ⟨fs, h2⟩
/-- an own exception class x at C whose __init__ keeps its one parameter f -/
structure MkC (P : Program) (w : World) (K : PySem.W.Frag) (mg : Str → Option Value) (base : Heap) (x : Str) (C : Addr) (f : Str) : Prop where
  go : ∃ (fI : Addr) (fd : FuncData) (B newId initId : String) (bmB : List Value), ExK K C B newId initId bmB ∧ PySem.W.findIn K (.ref C) "__init__" = some (some (.ref fI)) ∧
    PySem.W.typeIn K (.ref fI) = some (.type "function") ∧ FnOk P w K mg base CX0 1 fI fd ["self", f] (spIn1 C f) ∧ Binds K fd ["self", f] [] ∧
    ∀ (s : Shared) (self w1 : Value), BindsTo s fd ⟨[self], [(f, w1)]⟩ [("self", self), (f, w1)]
  m : mg x = some (.ref C)
  no : PySem.W.findIn K (.ref C) f = some none
structure MkC2 (P : Program) (w : World) (K : PySem.W.Frag) (mg : Str → Option Value) (base : Heap) (x : Str) (C : Addr) (f g : Str) : Prop where
  go : ∃ (fI : Addr) (fd : FuncData) (B newId initId : String) (bmB : List Value), ExK K C B newId initId bmB ∧ PySem.W.findIn K (.ref C) "__init__" = some (some (.ref fI)) ∧
    PySem.W.typeIn K (.ref fI) = some (.type "function") ∧ FnOk P w K mg base CX0 1 fI fd ["self", f, g] (spIn2 C f g) ∧ Binds K fd ["self", f, g] [] ∧
    ∀ (s : Shared) (self w1 w2 : Value), BindsTo s fd ⟨[self], [(g, w2), (f, w1)]⟩ [("self", self), (f, w1), (g, w2)]
  m : mg x = some (.ref C)
  no : PySem.W.findIn K (.ref C) f = some none
  no2 : PySem.W.findIn K (.ref C) g = some none
/-- X(y), y in slot i -/
def tNew (i : Nat) (C : Addr) (f : Str) : TE := fun σ H Q => ∃ v, σ[i]? = some (some v) ∧ ∀ a H', H a = none → Same H H' → EAt H' a C [(f, v)] → Q (.ref a) H'
def tNew2 (i j : Nat) (C : Addr) (f g : Str) : TE := fun σ H Q => ∃ v u, σ[i]? = some (some v) ∧ σ[j]? = some (some u) ∧ ∀ a H', H a = none → Same H H' → EAt H' a C [(g, u), (f, v)] → Q (.ref a) H'
theorem made_same {H : Hp} {a d C : Addr} {o o1 o2 : HO} (na : H a = none) (nd : upd H a o d = none) : Same H (upd (upd (upd H a o) d o1) a o2) := fun b u hb => by
  rw [upd_ne (ne_of_none hb na)]
  exact ((same_new na o).trans (same_new nd o1)) b u hb
section
variable {X : Cx} {x y z f g : Str} {C : Addr} {i j : Nat} {p py pz pos kp kq : Pos}
theorem pe_new (M : MkC X.prog X.w X.K X.mg X.base x C f) (room : Room 2 X.A) (hg : Gl X x) (hy : PE X (.Name y py) (tVar i))
    (hdb : (x == ("__debug__" : Str)) = false := by decide) (he : starEach [.Name y py] X.env = (false, eval (.Name y py) X.env) :: starEach [] X.env := by rfl)
    (hpl : (backTo pos (starEach [] X.env)).any (·.1) = false := by rfl) : PE X (.Call (.Name x p) [.Name y py] [] pos) (tNew i C f) := by
  obtain ⟨fI, fd, B, newId, initId, bmB, T, hi, tI, F, hb, _⟩ := M.go
  constructor
  intro pins s σ H Q I h
  obtain ⟨v, hv, q⟩ := h
  refine (pe_mk T hi tI F hb room hg M.m (pa_cons hy pa_nil he) hdb he hpl).run pins s σ H Q I ⟨v, hv, (by show 1 ≤ 100; decide), fun a na => ?_⟩
  refine ⟨a, v, rfl, upd_same, fun d nd ne => ⟨rfl, q a _ na (made_same (C := C) na nd) ⟨d, upd_same, ?_⟩⟩⟩
  rw [upd_ne ne]
  exact upd_same
theorem pe_newK (M : MkC X.prog X.w X.K X.mg X.base x C f) (room : Room 2 X.A) (hg : Gl X x) (hy : PE X (.Name y py) (tVar i))
    (hdb : (x == ("__debug__" : Str)) = false := by decide)
    (hall : (backToKw pos (keywordEach [⟨some f, .Name y py, kp⟩] X.env)).all (·.1.isSome) = true := by rfl)
    (hks : (backToKw pos (keywordEach [⟨some f, .Name y py, kp⟩] X.env)).filterMap (·.1) = [f] := by rfl)
    (hpl : ((backTo pos (starEach [] X.env)).any (·.1) || (backToKw pos (keywordEach [⟨some f, .Name y py, kp⟩] X.env)).any (·.1.isNone)) = false := by rfl) :
    PE X (.Call (.Name x p) [] [⟨some f, .Name y py, kp⟩] pos) (tNew i C f) := by
  obtain ⟨fI, fd, B, newId, initId, bmB, T, hi, tI, F, _, hb⟩ := M.go
  constructor
  intro pins s σ H Q I h
  obtain ⟨v, hv, q⟩ := h
  refine (pe_mkK (g := id) (gV := id) T hi tI F (fun _ _ r => r) (fun s self ws hl => ?_) room hg M.m (pk_cons hy pk_nil) (fun σ H Q ⟨v, e, q⟩ => ⟨v, e, rfl, q⟩) hall hks hdb hpl).run pins s σ H Q I ⟨v, hv, fun a na => ?_⟩
  · match ws, hl with
    | [w1], _ => exact hb s self w1
  refine ⟨a, v, rfl, upd_same, fun d nd ne => ⟨rfl, q a _ na (made_same (C := C) na nd) ⟨d, upd_same, ?_⟩⟩⟩
  rw [upd_ne ne]
  exact upd_same
theorem made_same2 {H : Hp} {a d : Addr} {o o1 o2 o3 : HO} (na : H a = none) (nd : upd H a o d = none) : Same H (upd (upd (upd (upd H a o) d o1) a o2) d o3) := fun b u hb => by
  have n : b ≠ d := ne_of_none (same_new na o b u hb) nd
  rw [upd_ne n]
  exact made_same (C := a) na nd b u hb
theorem pe_new2 (M : MkC2 X.prog X.w X.K X.mg X.base x C f g) (room : Room 2 X.A) (hg : Gl X x) (hy : PE X (.Name y py) (tVar i)) (hz : PE X (.Name z pz) (tVar j))
    (hdb : (x == ("__debug__" : Str)) = false := by decide) (he : starEach [.Name y py, .Name z pz] X.env = (false, eval (.Name y py) X.env) :: starEach [.Name z pz] X.env := by rfl)
    (he2 : starEach [.Name z pz] X.env = (false, eval (.Name z pz) X.env) :: starEach [] X.env := by rfl)
    (hpl : (backTo pos (starEach [.Name z pz] X.env)).any (·.1) = false := by rfl) : PE X (.Call (.Name x p) [.Name y py, .Name z pz] [] pos) (tNew2 i j C f g) := by
  obtain ⟨fI, fd, B, newId, initId, bmB, T, hi, tI, F, hb, _⟩ := M.go
  constructor
  intro pins s σ H Q I h
  obtain ⟨v, u, hv, hu, q⟩ := h
  refine (pe_mk T hi tI F hb room hg M.m (pa_cons hy (pa_cons hz pa_nil he2) he) hdb he hpl).run pins s σ H Q I ⟨v, hv, u, hu, (by show 2 ≤ 100; decide), fun a na => ?_⟩
  refine ⟨a, v, u, rfl, upd_same, fun d nd ne => ⟨rfl, q a _ na (made_same2 na nd) ⟨d, ?_, upd_same⟩⟩⟩
  rw [upd_ne (Ne.symm ne)]
  exact upd_same
/-- X(g = z, f = y) -/
theorem pe_new2K (M : MkC2 X.prog X.w X.K X.mg X.base x C f g) (room : Room 2 X.A) (hg : Gl X x) (hy : PE X (.Name y py) (tVar i)) (hz : PE X (.Name z pz) (tVar j))
    (hdb : (x == ("__debug__" : Str)) = false := by decide)
    (hall : (backToKw pos (keywordEach [⟨some g, .Name z pz, kp⟩, ⟨some f, .Name y py, kq⟩] X.env)).all (·.1.isSome) = true := by rfl)
    (hks : (backToKw pos (keywordEach [⟨some g, .Name z pz, kp⟩, ⟨some f, .Name y py, kq⟩] X.env)).filterMap (·.1) = [g, f] := by rfl)
    (hpl : ((backTo pos (starEach [] X.env)).any (·.1) || (backToKw pos (keywordEach [⟨some g, .Name z pz, kp⟩, ⟨some f, .Name y py, kq⟩] X.env)).any (·.1.isNone)) = false := by rfl) :
    PE X (.Call (.Name x p) [] [⟨some g, .Name z pz, kp⟩, ⟨some f, .Name y py, kq⟩] pos) (tNew2 i j C f g) := by
  obtain ⟨fI, fd, B, newId, initId, bmB, T, hi, tI, F, _, hb⟩ := M.go
  constructor
  intro pins s σ H Q I h
  obtain ⟨v, u, hv, hu, q⟩ := h
  refine (pe_mkK (g := List.reverse) (gV := List.reverse) T hi tI F (fun _ _ r => r.reverse) (fun s self ws hl => ?_) room hg M.m (pk_cons hz (pk_cons hy pk_nil))
    (fun σ H Q ⟨v, e, u, e2, q⟩ => ⟨v, e, u, e2, rfl, q⟩) hall hks hdb hpl).run pins s σ H Q I ⟨u, hu, v, hv, fun a na => ?_⟩
  · match ws, hl with
    | [w2, w1], _ => exact hb s self w1 w2
  refine ⟨a, v, u, rfl, upd_same, fun d nd ne => ⟨rfl, q a _ na (made_same2 na nd) ⟨d, ?_, upd_same⟩⟩⟩
  rw [upd_ne (Ne.symm ne)]
  exact upd_same
/-- o.f, o an exception of some class that is told where it is read -/
def tGetA (K : PySem.W.Frag) (f : Str) (to : TE) : TE := fun σ H Q => to σ H fun x H1 => ∃ (a C : Addr) (fs : List (Str × V)) (v : V), x = .ref a ∧ EAt H1 a C fs ∧
  (∃ B newId initId bmB, ExK K C B newId initId bmB) ∧ PySem.W.findIn K (.ref C) f = some none ∧ fs.lookup f = some v ∧ Q v H1
theorem pe_getA {o : Expr} {to : TE} (ho : PE X o to) (hb : attributeBase o f X.env (eval o X.env) = eval o X.env := by rfl) : PE X (.Attribute o f pos) (tGetA X.K f to) := by
  constructor
  intro pins s σ H Q I h
  refine attr_of hb (thn (ho.run pins s σ H _ I h) ?_)
  rintro u s1 ⟨x, H1, J, r, a, C, fs, v, ex, ⟨d, ea, ed⟩, ⟨B, newId, initId, bmB, T⟩, hno, hv, q⟩
  subst ex
  cases (show u = Value.ref a from r)
  obtain ⟨t1, hobj⟩ := exo_at J.hok ea
  obtain ⟨mA, ns, rel⟩ := exd_at J.hok ed
  have rv := rel f
  rw [hv] at rv
  obtain ⟨u', hu, ru⟩ := RelO.some_of rv
  obtain ⟨od, hod, look⟩ := lookIn_ns ns
  have inst : PySem.W.InstAt s1.heap a { cls := .ref C, dict := some d, data := .fields #[.ref t1, .none, .none, .none, .bool false, .none] } C (some od) := ⟨hobj, rfl, rfl, hod⟩
  exact PySem.PX.exc_get J.kIn inst T.ga T.gt T.sub (PySem.W.findObj_own T.dct hno rfl (by rw [look, hu])) (handed_of ru) ⟨v, H1, J.tok _, ru, q⟩
end
end Hx

namespace Hx
open PySem PySem.Spec PyProof.Rows L2
theorem made_gone {H : Hp} {a d : Addr} {o1 o2 o3 o4 : HO} (na : H a = none) : upd (del (upd (upd (upd H a o1) d o2) a o3) a) d o4 = upd H d o4 := by
  funext b
  by_cases h : b = d
  · rw [h, upd_same, upd_same]
  · rw [upd_ne h, upd_ne h]
    by_cases k : b = a
    · rw [k, del_same, na]
    · rw [del_ne k, upd_ne k, upd_ne h, upd_ne k]
/-- raise C(y), C an own class that keeps its one parameter as f -/
def tRaise1 (i : Nat) (C : Addr) (f : Str) (W : WX) : TS := fun _ σ H => ∃ v, σ[i]? = some (some v) ∧ ∀ d, H d = none → W (.ref C) (some d) σ (upd H d (.xd [(f, v)]))
theorem ps_raise1 {X : Cx} {W : WX} {x y f : Str} {C : Addr} {i : Nat} {p py pos pos2 : Pos} (M : MkC X.prog X.w X.K X.mg X.base x C f) (ty : PySem.W.typeIn X.K (.ref C) = some (.type "type")) (hc : X.calm = true) (tk : Takes X W) (room : Room 2 X.A)
    (hg : Gl X x) (hy : PE X (.Name y py) (tVar i)) (hdb : (x == ("__debug__" : Str)) = false := by decide) (he : starEach [.Name y py] X.env = (false, eval (.Name y py) X.env) :: starEach [] X.env := by rfl)
    (hpl : (backTo pos (starEach [] X.env)).any (·.1) = false := by rfl) : PS X (.Raise (some (.Call (.Name x p) [.Name y py] [] pos)) none pos2) (tRaise1 i C f W) := by
  obtain ⟨fI, fd, B, newId, initId, bmB, T, hi, tI, F, hb, _⟩ := M.go
  constructor
  intro pins s σ H D I h
  obtain ⟨v, hv, q⟩ := h
  refine (ps_raise hc tk (pmk_own2 T ty hi tI F room hb hg M.m (pa_cons hy pa_nil he) hdb he hpl)).run pins s σ H D I ⟨v, hv, (by show 1 ≤ 1000; decide), fun a na => ⟨a, v, rfl, upd_same, fun d nd ne => ⟨rfl, d, [(f, v)], upd_same, ?_, ?_, ?_⟩⟩⟩
  · rw [upd_ne ne]
    exact upd_same
  · rw [upd_ne ne] at nd
    exact nd
  · rw [made_gone na]
    rw [upd_ne ne] at nd
    exact q d nd
end Hx

namespace Hx
open PySem PySem.Spec PyProof.Rows L2
/-! errors whose context is None, so that another one may be raised in their except suite -/
section
variable {P : Program} {w : World} {K : PySem.W.Frag} {mg : Str → Option Value} {base : Heap}
theorem _root_.L2.Fun.okN {x qual : Str} {st : Stmt} {f : Addr} {fd : FuncData} {N ps : List Str} {k : Nat} {sp : Sp} (F : Fun K x qual st f fd) (S : FnScope N ps (defScope st)) (len : ∀ vs H Q E, sp vs H Q E → vs.length = ps.length)
    (body : ∀ (cdv : Value) (A : Around) (outer : List Env) (s : Shared) (H : Hp) (vs : List V) (Q : VK) (E : XK), Room k (A.deeper (envOfC qual (defScope st) s.heap.objs.size f cdv)) → sp vs H Q E →
      ∃ t, PSs (cxOf (L2N.CX P w) P w K mg base N qual (defScope st) f cdv A outer s H E) (defBody st) t ∧ t { nx := fun _ H' => Q .non H', rt := Q } (start N vs) H) : FnOk P w K mg base (L2N.CX P w) (k + 1) f fd ps sp := by
  obtain ⟨oc, od, kV, doc, pm, an, cdv, ct, osl, rfl, lk, hcd⟩ := F.ex
  exact fn_of lk hcd S len fun A outer s H vs Q E hr hsp => body cdv A outer s H vs Q E hr hsp
theorem passN {X : Cx} : Passes (L2N.CX X.prog X.w) X E0 := fun _ _ _ _ _ _ _ h => by
  obtain ⟨a, B, H', cls, d, _, _, _, _, _, _, _, z⟩ := h
  exact z.elim
end
theorem cxUpN {P : Program} {w : World} : StX.CXUp (L2N.CX P w) := by
  intro outer s H s2 H2 E e s' un kp ho z
  obtain ⟨a, B, H', cls, d, ea, fl, hok, ub, na, os, ag, he⟩ := z
  have nx : ∀ b : Addr, b ∉ ([] : List Addr) := fun b => by simp
  have free : ∀ b o, s.heap.get? b = some o → H b = none → H2 b = none := fun b o q n => un.free b o q n (nx b)
  refine ⟨a, B, H', cls, d, ea, fl, hok, ?_, na, os.trans ho, ag, he⟩
  constructor
  · exact fun b o q n hb => ub.keep b o (kp b o q) (free b o q n) hb
  · exact fun b o q hb => ub.slot b o (kp b o q) hb
  · exact fun b o q n => ub.free b o (kp b o q) (free b o q n)
  · exact fun b o q hb => ub.there b o (kp b o q) hb
  · exact fun b xs q => ub.tups b xs (un.tups b xs q)
  · exact fun b o xs q => ub.frzs b o xs (un.frzs b o xs q)
  · intro b ps q
    obtain ⟨m1, e1⟩ := un.tbls b ps q
    obtain ⟨m2, e2⟩ := ub.tbls b _ e1
    refine ⟨m1 ++ m2, ?_⟩
    rw [e2, Array.append_assoc]
section
variable {X : Cx} {C fI : Addr} {fd : FuncData} {ps : List Str} {sp : Sp} {k : Nat} {B newId initId : String} {bmB : List Value}
  {x : Str} {p pos : Pos} {e : Expr} {es : List Expr} {ta : TA}
theorem pmk_own2N (T : ExK X.K C B newId initId bmB) (ty : PySem.W.typeIn X.K (.ref C) = some (.type "type")) (hi : PySem.W.findIn X.K (.ref C) "__init__" = some (some (.ref fI))) (tI : PySem.W.typeIn X.K (.ref fI) = some (.type "function"))
    (F1 : FnOk X.prog X.w X.K X.mg X.base CX0 k fI fd ps sp) (room : Room (k + 1) X.A) (hb : Binds X.K fd ps []) (hg : Gl X x) (hm : X.mg x = some (.ref C)) (ha : PA X (e :: es) ta)
    (hdb : (x == ("__debug__" : Str)) = false := by decide) (he : starEach (e :: es) X.env = (false, eval e X.env) :: starEach es X.env := by rfl) (hpl : (backTo pos (starEach es X.env)).any (·.1) = false := by rfl) :
    L2N.PMk X (.Call (.Name x p) (e :: es) [] pos) (tMkO C sp [] ta) := by
  intro pins s σ H Q I h
  refine wpAny_Call_Name_kw (ld_glob I hg hm ?_ hdb)
  refine PySem.W.callWith_K (h₀ := X.base) I.ok.mod.kin T.keep (thn (ha.run pos pins s σ H _ I h) fun us s1 ⟨vs, H1, I1, r1, few, q1⟩ => ⟨I1.kIn, ?_⟩) he hpl
  obtain ⟨nm, N, qn, bs0, bm, hdct, sn, sub, ab, col, dd, k0, k1, k2, k3, k5, hC, same⟩ := PySem.W.excInit_of I1.kIn T.made
  obtain ⟨hp, g, dr, tk, os⟩ := s1
  have above : hp.objs.size ≤ hp.objs.size + 1 := Nat.le_succ _
  have n0 : H1 (hp.objs.size + 1) = none := I1.hok.fresh above
  have q0 := q1 _ n0
  rw [List.append_nil] at q0
  have J : Inv X pins σ (upd H1 (hp.objs.size + 1) (exo (hp.objs.size + 1) C none)) ⟨PySem.EK.madeHeap hp C us, g, dr, tk, os⟩ :=
    I1.laid (t' := tk) (h' := PySem.EK.madeHeap hp C us) (fun b o e => PySem.EK.made_keep b o e) above (exo_ok PySem.EK.made_at)
  have rel2 : Vals (V.ref (hp.objs.size + 1) :: vs) (Value.ref (hp.objs.size + 1) :: us) := .cons rfl r1
  have hl : ((Value.ref (hp.objs.size + 1) :: us) ++ []).length = ps.length := by
    rw [List.append_nil, ← rel2.length]
    exact F1.len _ _ _ _ q0
  have small : us.length ≤ sizeLine := by
    rw [← r1.length]
    exact small_line few
  have bind := hb _ (Value.ref (hp.objs.size + 1) :: us) J.kIn hl
  rw [List.append_nil] at bind
  refine wpAny_call (PySem.EK.run_call T.facts same hC (PySem.W.looks_findIn I1.kIn hi) (fun self => PySem.W.bind_fn I1.kIn self tI) small ?_)
  refine codeAny_mono (F1.run _ X.stack _ _ ⟨Value.ref (hp.objs.size + 1) :: us, []⟩ _ _ _ (fun _ _ _ => False) (room.make C us []) (J.env0.make C us []) bind rel2 q0) ?_
  intro r s' hr
  cases r with
  | error e => exact (show False from hr).elim
  | ok fl =>
    cases fl with
    | next => exact hr.elim
    | brk => exact hr.elim
    | cont => exact hr.elim
    | ret u =>
      obtain ⟨v, H2, os2, bare2, un2, hok2, rv, ev, d, fs, ea, ed, hd1, q2⟩ := hr
      subst ev
      obtain ⟨h2, g2, d2, t2, os'⟩ := s'
      obtain ⟨t0, G, J2, kG, ge, hoe, na⟩ := mk_end0 (d2 := d2) (t2 := t2) I1 above (fun b o e => PySem.EK.made_keep b o e) un2 hok2 os2 bare2 ea ed hd1
      exact ⟨rv, _, _, _, ⟨G, g2, d2, t2, os'⟩, _, .ref C, some d, rfl, J2, kG, ge, hoe, ⟨rfl, rfl, fun vs hv => by cases hv; rfl⟩, rfl, rfl, na, rfl, bare2, raises_own T.sub ty, q2⟩
/-- the same while an exception is handled -/
theorem pmk_own2H (T : ExK X.K C B newId initId bmB) (ty : PySem.W.typeIn X.K (.ref C) = some (.type "type")) (hi : PySem.W.findIn X.K (.ref C) "__init__" = some (some (.ref fI))) (tI : PySem.W.typeIn X.K (.ref fI) = some (.type "function"))
    (F1 : L2H.FnH X.prog X.w X.K X.mg X.base CX0 k fI fd ps sp) (room : L2H.RoomH (k + 1) X.A) (hc : L2H.HotC X) (hb : Binds X.K fd ps []) (hg : Gl X x) (hm : X.mg x = some (.ref C)) (ha : PA X (e :: es) ta)
    (hdb : (x == ("__debug__" : Str)) = false := by decide) (he : starEach (e :: es) X.env = (false, eval e X.env) :: starEach es X.env := by rfl) (hpl : (backTo pos (starEach es X.env)).any (·.1) = false := by rfl) :
    L2H.PMk5 X (.Call (.Name x p) (e :: es) [] pos) (tMkO C sp [] ta) := by
  intro pins s σ H Q I h
  obtain ⟨pn, hot, hpn⟩ := hc
  refine wpAny_Call_Name_kw (ld_glob I hg hm ?_ hdb)
  refine PySem.W.callWith_K (h₀ := X.base) I.ok.mod.kin T.keep (thn (ha.run pos pins s σ H _ I h) fun us s1 ⟨vs, H1, I1, r1, few, q1⟩ => ⟨I1.kIn, ?_⟩) he hpl
  obtain ⟨nm, N, qn, bs0, bm, hdct, sn, sub, ab, col, dd, k0, k1, k2, k3, k5, hC, same⟩ := PySem.W.excInit_of I1.kIn T.made
  obtain ⟨hp, g, dr, tk, os⟩ := s1
  have above : hp.objs.size ≤ hp.objs.size + 1 := Nat.le_succ _
  have n0 : H1 (hp.objs.size + 1) = none := I1.hok.fresh above
  have q0 := q1 _ n0
  rw [List.append_nil] at q0
  have J : Inv X pins σ (upd H1 (hp.objs.size + 1) (exo (hp.objs.size + 1) C none)) ⟨PySem.EK.madeHeap hp C us, g, dr, tk, os⟩ :=
    I1.laid (t' := tk) (h' := PySem.EK.madeHeap hp C us) (fun b o e => PySem.EK.made_keep b o e) above (exo_ok PySem.EK.made_at)
  have rel2 : Vals (V.ref (hp.objs.size + 1) :: vs) (Value.ref (hp.objs.size + 1) :: us) := .cons rfl r1
  have hl : ((Value.ref (hp.objs.size + 1) :: us) ++ []).length = ps.length := by
    rw [List.append_nil, ← rel2.length]
    exact F1.len _ _ _ _ q0
  have small : us.length ≤ sizeLine := by
    rw [← r1.length]
    exact small_line few
  have bind := hb _ (Value.ref (hp.objs.size + 1) :: us) J.kIn hl
  rw [List.append_nil] at bind
  have P1 := J.pin pn (List.mem_append_left _ hpn)
  have hpin : L2H.PinOk X.stack (upd H1 (hp.objs.size + 1) (exo (hp.objs.size + 1) C none)) ⟨PySem.EK.madeHeap hp C us, g, dr, tk, os⟩ pn :=
    ⟨P1.1, P1.2.1, fun hmm => (List.mem_cons.mp (J.stkSub pn.1 hmm)).elim P1.2.2.1 P1.2.2.2.1, P1.2.2.2.2⟩
  refine wpAny_call (PySem.EK.run_call T.facts same hC (PySem.W.looks_findIn I1.kIn hi) (fun self => PySem.W.bind_fn I1.kIn self tI) small ?_)
  refine codeAny_mono (F1.run _ X.stack _ _ ⟨Value.ref (hp.objs.size + 1) :: us, []⟩ _ _ _ (fun _ _ _ => False) pn (room.make C us []) ⟨hot.1, hot.2⟩ hpin (J.env0.make C us []) bind rel2 q0) ?_
  intro r s' hr
  cases r with
  | error e => exact (show False from hr).elim
  | ok fl =>
    cases fl with
    | next => exact hr.elim
    | brk => exact hr.elim
    | cont => exact hr.elim
    | ret u =>
      obtain ⟨v, H2, os2, bare2, un2, hok2, rv, ev, d, fs, ea, ed, hd1, q2⟩ := hr
      subst ev
      obtain ⟨h2, g2, d2, t2, os'⟩ := s'
      obtain ⟨t0, G, J2, kG, ge, hoe, na⟩ := mk_end0 (d2 := d2) (t2 := t2) I1 above (fun b o e => PySem.EK.made_keep b o e) un2 hok2 os2 bare2 ea ed hd1
      refine ⟨rv, ⟨_, _, _, ⟨G, g2, d2, t2, os'⟩, _, .ref C, some d, rfl, J2, kG, ge, hoe, ⟨rfl, rfl, fun vs hv => by cases hv; rfl⟩, rfl, rfl, na, rfl, bare2, raises_own T.sub ty, q2⟩, fun a oe vs ea2 hg2 hd2 => ?_⟩
      cases ea2
      have hg3 : h2.get? (hp.objs.size + 1) = some oe := hg2
      rw [hoe] at hg3
      cases hg3
      cases hd2
      show (4 : Nat) < 6
      decide
end
theorem ps_raise1N {X : Cx} {W : WX} {x y f : Str} {C : Addr} {i : Nat} {p py pos pos2 : Pos} (M : MkC X.prog X.w X.K X.mg X.base x C f) (ty : PySem.W.typeIn X.K (.ref C) = some (.type "type")) (hc : X.calm = true) (tk : L2N.Takes X W) (room : Room 2 X.A)
    (hg : Gl X x) (hy : PE X (.Name y py) (tVar i)) (hdb : (x == ("__debug__" : Str)) = false := by decide) (he : starEach [.Name y py] X.env = (false, eval (.Name y py) X.env) :: starEach [] X.env := by rfl)
    (hpl : (backTo pos (starEach [] X.env)).any (·.1) = false := by rfl) : PS X (.Raise (some (.Call (.Name x p) [.Name y py] [] pos)) none pos2) (tRaise1 i C f W) := by
  obtain ⟨fI, fd, B, newId, initId, bmB, T, hi, tI, F, hb, _⟩ := M.go
  constructor
  intro pins s σ H D I h
  obtain ⟨v, hv, q⟩ := h
  refine (L2N.ps_raise hc tk (pmk_own2N T ty hi tI F room hb hg M.m (pa_cons hy pa_nil he) hdb he hpl)).run pins s σ H D I ⟨v, hv, (by show 1 ≤ 1000; decide), fun a na => ⟨a, v, rfl, upd_same, fun d nd ne => ⟨rfl, d, [(f, v)], upd_same, ?_, ?_, ?_⟩⟩⟩
  · rw [upd_ne ne]
    exact upd_same
  · rw [upd_ne ne] at nd
    exact nd
  · rw [made_gone na]
    rw [upd_ne ne] at nd
    exact q d nd
/-- an own exception class whose __init__ may run while an exception is handled -/
structure MkH (P : Program) (w : World) (K : PySem.W.Frag) (mg : Str → Option Value) (base : Heap) (x : Str) (C : Addr) (f : Str) : Prop where
  go : ∃ (fI : Addr) (fd : FuncData) (B newId initId : String) (bmB : List Value), ExK K C B newId initId bmB ∧ PySem.W.findIn K (.ref C) "__init__" = some (some (.ref fI)) ∧
    PySem.W.typeIn K (.ref fI) = some (.type "function") ∧ L2H.FnH P w K mg base CX0 1 fI fd ["self", f] (spIn1 C f) ∧ Binds K fd ["self", f] []
  m : mg x = some (.ref C)
theorem ps_raise1F {X : Cx} {W : WX} {x y f : Str} {C : Addr} {i j : Nat} {p py pos pos2 cpos : Pos} (M : MkH X.prog X.w X.K X.mg X.base x C f) (ty : PySem.W.typeIn X.K (.ref C) = some (.type "type")) (hc : L2H.HotC X) (tk : L2.Takes X W) (room : L2H.RoomH 2 X.A)
    (hg : Gl X x) (hy : PE X (.Name y py) (tVar i)) (hdb : (x == ("__debug__" : Str)) = false := by decide) (he : starEach [.Name y py] X.env = (false, eval (.Name y py) X.env) :: starEach [] X.env := by rfl)
    (hpl : (backTo pos (starEach [] X.env)).any (·.1) = false := by rfl) : PS X (.Raise (some (.Call (.Name x p) [.Name y py] [] pos)) (some (.Constant .none j cpos)) pos2) (tRaise1 i C f W) := by
  obtain ⟨fI, fd, B, newId, initId, bmB, T, hi, tI, F, hb⟩ := M.go
  constructor
  intro pins s σ H D I h
  obtain ⟨v, hv, q⟩ := h
  refine (L2H.ps_raiseHN hc tk (pmk_own2H T ty hi tI F room hc hb hg M.m (pa_cons hy pa_nil he) hdb he hpl)).run pins s σ H D I ⟨v, hv, (by show 1 ≤ 1000; decide), fun a na => ⟨a, v, rfl, upd_same, fun d nd ne => ⟨rfl, d, [(f, v)], upd_same, ?_, ?_, ?_⟩⟩⟩
  · rw [upd_ne ne]
    exact upd_same
  · rw [upd_ne ne] at nd
    exact nd
  · rw [made_gone na]
    rw [upd_ne ne] at nd
    exact q d nd
section
variable {P : Program} {w : World} {K : PySem.W.Frag} {mg : Str → Option Value} {base : Heap} {fI C : Addr} {fd : FuncData} {st : Stmt} {qual f : Str} {q1 q2 q3 q4 : Pos} {B newId initId : String} {bmB : List Value}
theorem ok_in1H (F : Fun K "__init__" qual st fI fd) (S : FnScope ["self", f] ["self", f] (defScope st))
    (hb : defBody st = [.Assign [.Attribute (.Name "self" q1) f q2] (.Name f q3) q4]) (v1 : Vis (defScope st) "self") (v2 : Vis (defScope st) f)
    (hd : (f == ("__debug__" : Str)) = false) (hc : (f == ("__classdict__" : Str)) = false) (T : ExK K C B newId initId bmB) (free : PySem.W.takerIn K C f = some none) :
    L2H.FnH P w K mg base CX0 1 fI fd ["self", f] (spIn1 C f) := by
  obtain ⟨oc, od, kV, doc, pm, an, cdv, ct, osl, rfl, lk, hcd⟩ := F.ex
  refine L2H.fn_ofH lk hcd S (fun vs H Q E h => ?_) (fun A outer s H vs Q E p hot hr h => ?_)
  · obtain ⟨a, v, rfl, _⟩ := h
    rfl
  obtain ⟨a, v, rfl, ha, q⟩ := h
  show ∃ t, PSs _ (defBody st) t ∧ _
  rw [hb]
  refine ⟨_, pss_one (ps_put T free (pe_var (i := 0) rfl v1) (pe_var (i := 1) rfl v2 hd hc)), ?_⟩
  exact ⟨_, rfl, _, rfl, a, rfl, .inl ⟨ha, fun d n ne => q d n ne⟩⟩
end
end Hx

namespace Wp
open PySem PySem.Spec PyProof.Rows L2 Hx
def nameB (x : Str) : Bool := lettered 8 x && !inV (.str x) (noNames.map V.str)
def spName (K : PySem.W.Frag) : Sp := fun vs H Q _ => ∃ v, vs = [v] ∧ ((∃ x : Str, v = .str x ∧ x.length ≤ 100000 ∧ ∀ H', Same H H' → Q (.bl (nameB x)) H') ∨ (NotStr K H v ∧ Q (.bl false) H))
/-- an error that tells v -/
def Tells (E : XK) (C : Addr) (v : V) (H : Hp) : Prop := ∀ H' d, Same H H' → H' d = none → E (.ref C) (some d) (upd H' d (.xd [("given", v)]))
/-- a check: the value is as g says, or the error of the class at C -/
def spCheck (K : PySem.W.Frag) (g : Str → Bool) (C : Addr) : Sp := fun vs H Q E => ∃ v, vs = [v] ∧ ((∃ x : Str, v = .str x ∧ x.length ≤ 100000 ∧ g x = true ∧ ∀ H', Same H H' → Q .non H') ∨
  (((∃ x : Str, v = .str x ∧ x.length ≤ 100000 ∧ g x = false) ∨ NotStr K H v) ∧ Tells E C v H))
def spCheckWithin (K : PySem.W.Frag) (C : Addr) : Sp := fun vs H Q E => ∃ (v : V) (l m : Int), vs = [v, .int l, .int m] ∧ ((∃ i, v = .int i ∧ l ≤ i ∧ i ≤ m ∧ Q .non H) ∨
  (((∃ i, v = .int i ∧ ¬ (l ≤ i ∧ i ≤ m)) ∨ NotInt K H v) ∧ Tells E C v H))
section
variable {P : Program} {w : World} {K : PySem.W.Frag} {mg : Str → Option Value} {base : Heap} {f fI fW fL fN C : Addr} {fd fdI fdW fdL fdN : FuncData}
theorem scName : FnScope ["value"] ["value"] (defScope s_is_name) := ⟨rfl, rfl, rfl, by decide +kernel, rfl, by decide +kernel, by decide +kernel⟩
theorem ok_name (F : Fun K "is_name" "is_name" s_is_name f fd) (CO : Consts mg K) (GL : FnOk P w K mg base CX0 1 fL fdL ["value", "most"] (spLettered K)) (bL : Binds K fdL ["value", "most"] []) (kL : PySem.W.keepIn K (.ref fL) = true) (mL : mg "is_lettered" = some (.ref fL)) :
    FnOk P w K mg base CX0 2 f fd ["value"] (spName K) := by
  refine F.ok scName (fun vs H Q E h => ?_) (fun cdv A outer s H vs Q E hr h => ?_)
  · obtain ⟨v, rfl, _⟩ := h
    rfl
  obtain ⟨v, rfl, h⟩ := h
  obtain ⟨tm, mm⟩ := CO.most
  obtain ⟨p, mp, hp⟩ := CO.no
  refine ⟨_, pss_one (ps_ret (pe_and (pe_call GL hr rfl mL kL bL .nil pass0 (pa_cons (pv 0) (pa_cons (pe_gint rfl mm) pa_nil)))
    (pe_one (pe_cmpR op_notIn_seq (pv 0) (pe_gref rfl mp) (by rfl))))), ?_⟩
  rcases h with ⟨x, rfl, few, q⟩ | ⟨n, q⟩
  · refine ⟨_, rfl, _, 8, rfl, by decide, .inl ⟨x, rfl, few, fun H' s' => ⟨_, rfl, ?_⟩⟩⟩
    have q2 := q H' s'
    unfold nameB at q2
    cases e : lettered 8 x with
    | false =>
      rw [e] at q2
      exact iteF q2
    | true =>
      rw [e] at q2
      exact iteT ⟨_, rfl, p, _, rfl, .inr (hp H'), rfl, by decide +kernel, q2⟩
  · exact ⟨_, rfl, _, 8, rfl, by decide, .inr ⟨n, _, rfl, iteF q⟩⟩
theorem scCkW : FnScope ["given", "least", "most"] ["given", "least", "most"] (defScope s_check_within) := ⟨rfl, rfl, rfl, by decide +kernel, rfl, by decide +kernel, by decide +kernel⟩
theorem ok_ckW (F : Fun K "check_within" "check_within" s_check_within f fd) (M : MkC P w K mg base "InvalidNumber" C "given") (ty : PySem.W.typeIn K (.ref C) = some (.type "type"))
    (GW : FnOk P w K mg base CX0 2 fW fdW ["value", "least", "most"] (spWithin K)) (bW : Binds K fdW ["value", "least", "most"] []) (kW : PySem.W.keepIn K (.ref fW) = true) (mW : mg "is_within" = some (.ref fW)) :
    FnOk P w K mg base (L2N.CX P w) 3 f fd ["given", "least", "most"] (spCheckWithin K C) := by
  refine F.okN scCkW (fun vs H Q E h => ?_) (fun cdv A outer s H vs Q E hr h => ?_)
  · obtain ⟨v, l, m, rfl, _⟩ := h
    rfl
  obtain ⟨v, l, m, rfl, h⟩ := h
  refine ⟨_, pss_one (ps_if (pt_not (pt_val (pe_call GW hr rfl mW kW bW .nil pass0 (pa_cons (pv 0) (pa_cons (pv 1) (pa_cons (pv 2) pa_nil)))))) (pss_one (ps_raise1N M ty rfl (L2N.takes_of rfl rfl rfl rfl) hr rfl (pv 0))) pss_nil), ?_⟩
  rcases h with ⟨i, rfl, h1, h2, q⟩ | ⟨⟨i, rfl, n⟩ | n, t⟩
  · refine ⟨_, rfl, _, rfl, _, rfl, _, l, m, rfl, .inl ⟨i, rfl, _, rfl, ?_⟩⟩
    rw [decide_eq_true h1, decide_eq_true h2]
    exact iteF q
  · refine ⟨_, rfl, _, rfl, _, rfl, _, l, m, rfl, .inl ⟨i, rfl, _, rfl, ?_⟩⟩
    have e : (decide (l ≤ i) && decide (i ≤ m)) = false := by
      rw [Bool.eq_false_iff]
      intro z
      obtain ⟨z1, z2⟩ := Bool.and_eq_true_iff.mp z
      exact n ⟨of_decide_eq_true z1, of_decide_eq_true z2⟩
    rw [e]
    exact iteT ⟨_, rfl, fun d hd => t H d (Same.refl H) hd⟩
  · exact ⟨_, rfl, _, rfl, _, rfl, _, l, m, rfl, .inr ⟨n, _, rfl, iteT ⟨_, rfl, fun d hd => t H d (Same.refl H) hd⟩⟩⟩
theorem scCkS : FnScope ["given"] ["given"] (defScope s_check_sign) := ⟨rfl, rfl, rfl, by decide +kernel, rfl, by decide +kernel, by decide +kernel⟩
theorem ok_check_sign (F : Fun K "check_sign" "check_sign" s_check_sign f fd) (M : MkC P w K mg base "InvalidSign" C "given") (ty : PySem.W.typeIn K (.ref C) = some (.type "type"))
    (GL : FnOk P w K mg base CX0 1 fL fdL ["value", "most"] (spLettered K)) (bL : Binds K fdL ["value", "most"] []) (kL : PySem.W.keepIn K (.ref fL) = true) (mL : mg "is_lettered" = some (.ref fL)) :
    FnOk P w K mg base (L2N.CX P w) 3 f fd ["given"] (spCheck K (lettered 1) C) := by
  refine F.okN scCkS (fun vs H Q E h => ?_) (fun cdv A outer s H vs Q E hr h => ?_)
  · obtain ⟨v, rfl, _⟩ := h
    rfl
  obtain ⟨v, rfl, h⟩ := h
  refine ⟨_, pss_one (ps_if (pt_not (pt_val (pe_call GL (hr.mono (by decide)) rfl mL kL bL .nil pass0 (pa_cons (pv 0) (pa_cons pe_int pa_nil))))) (pss_one (ps_raise1N M ty rfl (L2N.takes_of rfl rfl rfl rfl) hr rfl (pv 0))) pss_nil), ?_⟩
  rcases h with ⟨x, rfl, few, e, q⟩ | ⟨⟨x, rfl, few, e⟩ | n, t⟩
  · refine ⟨_, rfl, _, 1, rfl, by decide, .inl ⟨x, rfl, few, fun H' s' => ⟨_, rfl, ?_⟩⟩⟩
    rw [e]
    exact iteF (q H' s')
  · refine ⟨_, rfl, _, 1, rfl, by decide, .inl ⟨x, rfl, few, fun H' s' => ⟨_, rfl, ?_⟩⟩⟩
    rw [e]
    exact iteT ⟨_, rfl, fun d hd => t H' d s' hd⟩
  · exact ⟨_, rfl, _, 1, rfl, by decide, .inr ⟨n, _, rfl, iteT ⟨_, rfl, fun d hd => t H d (Same.refl H) hd⟩⟩⟩
theorem scCkN : FnScope ["given"] ["given"] (defScope s_check_name) := ⟨rfl, rfl, rfl, by decide +kernel, rfl, by decide +kernel, by decide +kernel⟩
theorem ok_check_name (F : Fun K "check_name" "check_name" s_check_name f fd) (M : MkC P w K mg base "InvalidName" C "given") (ty : PySem.W.typeIn K (.ref C) = some (.type "type"))
    (GL : FnOk P w K mg base CX0 2 fL fdL ["value"] (spName K)) (bL : Binds K fdL ["value"] []) (kL : PySem.W.keepIn K (.ref fL) = true) (mL : mg "is_name" = some (.ref fL)) :
    FnOk P w K mg base (L2N.CX P w) 3 f fd ["given"] (spCheck K nameB C) := by
  refine F.okN scCkN (fun vs H Q E h => ?_) (fun cdv A outer s H vs Q E hr h => ?_)
  · obtain ⟨v, rfl, _⟩ := h
    rfl
  obtain ⟨v, rfl, h⟩ := h
  refine ⟨_, pss_one (ps_if (pt_not (pt_val (pe_call GL hr rfl mL kL bL .nil pass0 (pa_cons (pv 0) pa_nil)))) (pss_one (ps_raise1N M ty rfl (L2N.takes_of rfl rfl rfl rfl) hr rfl (pv 0))) pss_nil), ?_⟩
  rcases h with ⟨x, rfl, few, e, q⟩ | ⟨⟨x, rfl, few, e⟩ | n, t⟩
  · refine ⟨_, rfl, _, rfl, .inl ⟨x, rfl, few, fun H' s' => ⟨_, rfl, ?_⟩⟩⟩
    rw [e]
    exact iteF (q H' s')
  · refine ⟨_, rfl, _, rfl, .inl ⟨x, rfl, few, fun H' s' => ⟨_, rfl, ?_⟩⟩⟩
    rw [e]
    exact iteT ⟨_, rfl, fun d hd => t H' d s' hd⟩
  · exact ⟨_, rfl, _, rfl, .inr ⟨n, _, rfl, iteT ⟨_, rfl, fun d hd => t H d (Same.refl H) hd⟩⟩⟩
theorem scCkWd : FnScope ["given"] ["given"] (defScope s_check_word) := ⟨rfl, rfl, rfl, by decide +kernel, rfl, by decide +kernel, by decide +kernel⟩
theorem ok_check_word (F : Fun K "check_word" "check_word" s_check_word f fd) (M : MkC P w K mg base "InvalidWord" C "given") (ty : PySem.W.typeIn K (.ref C) = some (.type "type")) (CO : Consts mg K)
    (GL : FnOk P w K mg base CX0 1 fL fdL ["value", "most"] (spLettered K)) (bL : Binds K fdL ["value", "most"] []) (kL : PySem.W.keepIn K (.ref fL) = true) (mL : mg "is_lettered" = some (.ref fL)) :
    FnOk P w K mg base (L2N.CX P w) 3 f fd ["given"] (spCheck K (lettered 4) C) := by
  refine F.okN scCkWd (fun vs H Q E h => ?_) (fun cdv A outer s H vs Q E hr h => ?_)
  · obtain ⟨v, rfl, _⟩ := h
    rfl
  obtain ⟨v, rfl, h⟩ := h
  obtain ⟨tm, ms⟩ := CO.signs
  refine ⟨_, pss_one (ps_if (pt_not (pt_val (pe_call GL (hr.mono (by decide)) rfl mL kL bL .nil pass0 (pa_cons (pv 0) (pa_cons (pe_gint rfl ms) pa_nil))))) (pss_one (ps_raise1N M ty rfl (L2N.takes_of rfl rfl rfl rfl) hr rfl (pv 0))) pss_nil), ?_⟩
  rcases h with ⟨x, rfl, few, e, q⟩ | ⟨⟨x, rfl, few, e⟩ | n, t⟩
  · refine ⟨_, rfl, _, 4, rfl, by decide, .inl ⟨x, rfl, few, fun H' s' => ⟨_, rfl, ?_⟩⟩⟩
    rw [e]
    exact iteF (q H' s')
  · refine ⟨_, rfl, _, 4, rfl, by decide, .inl ⟨x, rfl, few, fun H' s' => ⟨_, rfl, ?_⟩⟩⟩
    rw [e]
    exact iteT ⟨_, rfl, fun d hd => t H' d s' hd⟩
  · exact ⟨_, rfl, _, 4, rfl, by decide, .inr ⟨n, _, rfl, iteT ⟨_, rfl, fun d hd => t H d (Same.refl H) hd⟩⟩⟩
end
end Wp

namespace Hx
open PySem PySem.Spec PyProof.Rows L2
/-- the class at C tells its text by a def of its own, whose promise is sp -/
structure TellsBy (P : Program) (w : World) (K : PySem.W.Frag) (mg : Str → Option Value) (base : Heap) (k : Nat) (C : Addr) (sp : Sp) : Prop where
  cls : Cls K C
  go : ∃ (g : Addr) (fd : FuncData), PySem.W.findIn K (.ref C) "__str__" = some (some (.ref g)) ∧ PySem.W.isFn K (.ref g) = true ∧
    FnOk P w K mg base CX0 k g fd ["self"] sp ∧ Binds K fd ["self"] []
/-- str(x): a number, a text, or an object that tells its text -/
def rTell (P : Program) (w : World) (K : PySem.W.Frag) (mg : Str → Option Value) (base : Heap) (k : Nat) : List V → Hp → VK → Prop := fun xs H Q => ∃ x, xs = [x] ∧
  ((∃ i : Int, x = .int i ∧ i.natAbs.log2 < 1920 ∧ Q (.str (toString i)) H) ∨ (∃ y : Str, x = .str y ∧ Q (.str y) H) ∨
    ∃ (a C dx : Addr) (fs : List (Str × V)) (sp : Sp), x = .ref a ∧ H a = some (.ins C dx fs) ∧ TellsBy P w K mg base k C sp ∧
      sp [.ref a] H (fun v H' => ∃ y : Str, v = .str y ∧ Q (.str y) H') E0)
theorem Room.less {k j : Nat} {A : Around} (r : Room k A) (h : j ≤ k) : Room j A := r.mono h
theorem call_tell {X : Cx} {k : Nat} (room : Room (k + 2) X.A) : CallR X (.type "str") (rTell X.prog X.w X.K X.mg X.base k) := by
  intro pins s σ H xs us Q I r h
  obtain ⟨x, rfl, ⟨i, rfl, small, q⟩ | ⟨y, rfl, q⟩ | ⟨a, C, dx, fs, sp, rfl, ha, T, q⟩⟩ := h
  · exact call_str_int pins s σ H _ us Q I r ⟨i, rfl, small, q⟩
  · exact SkE.call_str_str pins s σ H _ us Q I r ⟨y, rfl, q⟩
  · rw [Vals.ref1 r]
    obtain ⟨mA, O, _, _, _, _⟩ := ins_get I.hok ha
    obtain ⟨od, J, _⟩ := O.look
    obtain ⟨g, fd, hs, hf, F, b⟩ := T.go
    refine PySem.W.kso_call (by have := room.units; show _ < _; exact Nat.lt_of_le_of_lt (Nat.le_add_right _ 64) room.in1.in1.units) I.kIn J hs hf ?_
    have go := F.run X.A.in1.in1 X.stack s H ⟨[.ref a], []⟩ [.ref a] [.ref a] _ E0 room.in1.in1 I.env0.in1.in1 (b s [.ref a] I.kIn rfl) (.cons rfl .nil) q
    refine wpAny_call (codeAny_mono go ?_)
    intro r' s' hr
    cases r' with
    | error e => exact (show False from hr).elim
    | ok fl =>
      cases fl with
      | ret u =>
        obtain ⟨v, H', J', rv, y, ev, qy⟩ := I.after hr
        subst ev
        obtain ⟨t, rfl⟩ := rv
        exact ⟨.str y, H', J', ⟨t, rfl⟩, qy⟩
      | next => exact hr.elim
      | brk => exact hr.elim
      | cont => exact hr.elim
end Hx

namespace Wp
open PySem PySem.Spec PyProof.Rows L2 Hx
/-- the class at C has f as a property of its own, whose getter keeps sp -/
structure PropBy (P : Program) (w : World) (K : PySem.W.Frag) (mg : Str → Option Value) (base : Heap) (k : Nat) (C : Addr) (f : Str) (sp : Sp) : Prop where
  cls : Cls K C
  go : ∃ (p g : Addr) (fd : FuncData), PropOf K C f p g ∧ FnOk P w K mg base CX0 k g fd ["self"] sp ∧ Binds K fd ["self"] []
/-- e.f, a property of the class that is met there -/
def tPropA (P : Program) (w : World) (K : PySem.W.Frag) (mg : Str → Option Value) (base : Heap) (k : Nat) (f : Str) (ta : TE) : TE := fun σ H Q => ta σ H fun x H1 => ∃ (a C dx : Addr) (fs : List (Str × V)) (sp : Sp), x = .ref a ∧ H1 a = some (.ins C dx fs) ∧ PropBy P w K mg base k C f sp ∧ sp [.ref a] H1 Q E0
theorem pe_propA {X : Cx} {k : Nat} {f : Str} {e : Expr} {pos : Pos} {ta : TE} (he : PE X e ta) (room : Room (k + 1) X.A) (hab : attributeBase e f X.env (eval e X.env) = eval e X.env := by rfl) : PE X (.Attribute e f pos) (tPropA X.prog X.w X.K X.mg X.base k f ta) := by
  constructor
  intro pins s σ H Q I h
  refine attr_of hab (thn (he.run pins s σ H _ I h) ?_)
  rintro u s1 ⟨x, H1, I1, rx, a, C, dx, fs, sp, rfl, ea, T, q⟩
  cases (show u = Value.ref a from rx)
  obtain ⟨p, g, fd, hp, F, b⟩ := T.go
  exact getprop_ok I1 ea T.cls hp F room b .nil pass0 q
/-- the promise of a getter: a field of what stands at the object's facts -/
def spGet (C CF : Addr) (fld : Str) : Sp := fun vs H Q _ => ∃ (a dx fa dfa : Addr) (fs gs : List (Str × V)) (v : V), vs = [.ref a] ∧ H a = some (.ins C dx fs) ∧ fs.lookup ("facts" : Str) = some (.ref fa) ∧ H fa = some (.ins CF dfa gs) ∧ gs.lookup fld = some v ∧ Q v H
def spStr (C CF : Addr) : Sp := fun vs H Q _ => ∃ (a dx fa dfa : Addr) (fs gs : List (Str × V)) (y : Str), vs = [.ref a] ∧ H a = some (.ins C dx fs) ∧ fs.lookup ("facts" : Str) = some (.ref fa) ∧ H fa = some (.ins CF dfa gs) ∧ gs.lookup ("text" : Str) = some (.str y) ∧ Q (.str y) H
section
variable {P : Program} {w : World} {K : PySem.W.Frag} {mg : Str → Option Value} {base : Heap} {f C CF : Addr} {fd : FuncData} {st : Stmt} {x qual fld : Str} {p1 p2 p3 p4 p5 p6 : Pos}
theorem ok_get (F : Fun K x qual st f fd) (S : FnScope ["self"] ["self"] (defScope st)) (hb : defBody st = [.Return (some (.Attribute (.Attribute (.Name "self" p1) "facts" p2) fld p3)) p4]) (v1 : Vis (defScope st) "self")
    (cC : Cls K C) (nC : NoAttr K C "facts") (cF : Cls K CF) (nF : NoAttr K CF fld) : FnOk P w K mg base CX0 1 f fd ["self"] (spGet C CF fld) := by
  refine F.ok S (fun vs H Q E h => ?_) (fun cdv A outer s H vs Q E hr h => ?_)
  · obtain ⟨a, dx, fa, dfa, fs, gs, v, rfl, _⟩ := h
    rfl
  obtain ⟨a, dx, fa, dfa, fs, gs, v, rfl, h1, h2, h3, h4, q⟩ := h
  rw [hb]
  refine ⟨_, pss_one (ps_ret (pe_fld (pe_fld (pe_var (i := 0) rfl v1) rfl) rfl)), ?_⟩
  exact ⟨_, rfl, a, C, dx, fs, _, rfl, h1, cC, nC, h2, fa, CF, dfa, gs, v, rfl, h3, cF, nF, h4, q⟩
theorem ok_str (F : Fun K x qual st f fd) (S : FnScope ["self"] ["self"] (defScope st)) (hb : defBody st = [.Return (some (.Call (.Name "str" p5) [.Attribute (.Attribute (.Name "self" p1) "facts" p2) "text" p3] [] p6)) p4]) (v1 : Vis (defScope st) "self")
    (gl : ∀ n cdv, (envOfC qual (defScope st) n f cdv).kindOf "str" = some .globalImplicit) (ms : mg "str" = none)
    (cC : Cls K C) (nC : NoAttr K C "facts") (cF : Cls K CF) (nF : NoAttr K CF "text") : FnOk P w K mg base CX0 1 f fd ["self"] (spStr C CF) := by
  refine F.ok S (fun vs H Q E h => ?_) (fun cdv A outer s H vs Q E hr h => ?_)
  · obtain ⟨a, dx, fa, dfa, fs, gs, y, rfl, _⟩ := h
    rfl
  obtain ⟨a, dx, fa, dfa, fs, gs, y, rfl, h1, h2, h3, h4, q⟩ := h
  rw [hb]
  refine ⟨_, pss_one (ps_ret (pe_callTy SkE.call_str_str (gl _ _) ms (by decide +kernel) (pa_cons (pe_fld (pe_fld (pe_var (i := 0) rfl v1) rfl) rfl) pa_nil))), ?_⟩
  exact ⟨_, rfl, a, C, dx, fs, _, rfl, h1, cC, nC, h2, fa, CF, dfa, gs, .str y, rfl, h3, cF, nF, h4, y, rfl, q⟩
end
end Wp

namespace Wp
open PySem PySem.Spec PyProof.Rows L2 Hx
def factL (kind : Str) (pm pi : Addr) (text : Str) (pl : Addr) (size : Int) : List (Str × V) := [("word", .str kind), ("marks", .ref pm), ("parts", .ref pi), ("text", .str text), ("labels", .ref pl), ("size", .int size)]
/-- at a stands an expression of one of the classes, and this is told of it -/
def XpAt (CF : Addr) (cls : Addr → Prop) (H : Hp) (a C : Addr) (kind text : Str) (told inner : List V) (labels : List Str) (size : Int) : Prop :=
  ∃ (dx fa dfa pm pi pl : Addr), cls C ∧ H a = some (.ins C dx [("facts", .ref fa)]) ∧ H fa = some (.ins CF dfa (factL kind pm pi text pl size)) ∧ H pm = some (.tup told) ∧ H pi = some (.tup inner) ∧ H pl = some (.tup (labels.map V.str))
theorem XpAt.same {CF : Addr} {cls : Addr → Prop} {H H' : Hp} {a C : Addr} {kind text : Str} {told inner : List V} {labels : List Str} {size : Int} (h : XpAt CF cls H a C kind text told inner labels size) (s : Same H H') : XpAt CF cls H' a C kind text told inner labels size := by
  obtain ⟨dx, fa, dfa, pm, pi, pl, h0, h1, h2, h3, h4, h5⟩ := h
  exact ⟨dx, fa, dfa, pm, pi, pl, h0, s _ _ h1, s _ _ h2, s _ _ h3, s _ _ h4, s _ _ h5⟩
/-- what stands within the brackets of a text -/
inductive TxAt (CF : Addr) (cls : Addr → Prop) (H : Hp) : V → Str → Prop
  | int (i : Int) (h : 0 ≤ i ∧ i ≤ 1000) : TxAt CF cls H (.int i) (toString i)
  | str (y : Str) : TxAt CF cls H (.str y) y
  | exp {a C : Addr} {kind y : Str} {told inner : List V} {labels : List Str} {size : Int} (h : XpAt CF cls H a C kind y told inner labels size) : TxAt CF cls H (.ref a) y
theorem TxAt.same {CF : Addr} {cls : Addr → Prop} {H H' : Hp} {v : V} {y : Str} (h : TxAt CF cls H v y) (s : Same H H') : TxAt CF cls H' v y := by
  cases h with
  | int i h => exact .int i h
  | str => exact .str y
  | exp h => exact .exp (h.same s)
/-- what the program's part says of the classes of expressions -/
structure Kls (P : Program) (w : World) (K : PySem.W.Frag) (mg : Str → Option Value) (base : Heap) (CF : Addr) (cls : Addr → Prop) : Prop where
  str : ∀ C, cls C → TellsBy P w K mg base 1 C (spStr C CF)
  get : ∀ C, cls C → ∀ f fld, (f, fld) ∈ ([("kind", "word"), ("inner", "parts"), ("told", "marks"), ("names", "labels"), ("knots", "size")] : List (Str × Str)) → PropBy P w K mg base 1 C f (spGet C CF fld)
theorem join_len (y : Str) : ∀ ps : List Str, (Str.join y ps).length ≤ (ps.map (·.length)).sum + ps.length * y.length
  | [] => by
    show Str.empty.length ≤ _
    exact Nat.le_trans (by decide +kernel : Str.empty.length ≤ 0) (Nat.zero_le _)
  | [x] => by
    show x.length ≤ _
    simp
  | x :: z :: r => by
    have h := join_len y (z :: r)
    show (x ++ y ++ Str.join y (z :: r)).length ≤ _
    rw [PySem.Str.length_append, PySem.Str.length_append]
    simp only [List.map_cons, List.sum_cons, List.length_cons, Nat.succ_mul] at h ⊢
    omega
theorem paired_get {α β : Type} {R : α → β → Prop} : ∀ {xs : List α} {ys : List β} {i : Nat} {x : α}, Paired R xs ys → xs[i]? = some x → ∃ y, ys[i]? = some y ∧ R x y
  | _, _, 0, _, .cons r t, h => ⟨_, rfl, by cases h; exact r⟩
  | _, _, i + 1, _, .cons r t, h => paired_get (i := i) t h
theorem str_ne {a b : Str} (h : a ≠ b) : decide (V.str a = V.str b) = false := decide_eq_false fun z => h (V.str.inj z)
theorem small_log {j : Int} (h : 0 ≤ j ∧ j ≤ 1000) : j.natAbs.log2 < 1920 := by
  have z : j.natAbs ≤ 1000 := by omega
  exact Nat.lt_of_le_of_lt (Nat.le_trans (Nat.log2_le_self _) z) (by decide)
/-- the text that spelled makes -/
def Spells (CF : Addr) (cls : Addr → Prop) (H : Hp) (kind : Str) (told : List V) (inner : List V) (text : Str) : Prop :=
  (kind = "sign" ∧ ∃ s : Str, told = [.str s] ∧ s.length ≤ 1000 ∧ text = ((Str.empty ++ "'") ++ s) ++ "'") ∨ (kind = "name" ∧ ∃ s : Str, told = [.str s] ∧ text = s) ∨
    (kind ≠ "sign" ∧ kind ≠ "name" ∧ kind.length ≤ 10 ∧ ∃ ys : List Str, Paired (TxAt CF cls H) (told ++ inner) ys ∧ ys.length ≤ 100 ∧ (ys.map (·.length)).sum ≤ 100000 ∧ text = (((Str.empty ++ kind) ++ "(") ++ Str.join ", " ys) ++ ")")
def spSpelled (CF : Addr) (cls : Addr → Prop) : Sp := fun vs H Q _ => ∃ (kind : Str) (pt pi : Addr) (told inner : List V) (text : Str), vs = [.str kind, .ref pt, .ref pi] ∧ H pt = some (.tup told) ∧ H pi = some (.tup inner) ∧
  Spells CF cls H kind told inner text ∧ ∀ H', Same H H' → Q (.str text) H'
section
variable {P : Program} {w : World} {K : PySem.W.Frag} {mg : Str → Option Value} {base : Heap} {f CF : Addr} {fd : FuncData} {cls : Addr → Prop}
theorem scSpelled : FnScope ["kind", "told", "inner", "listed", "part"] ["kind", "told", "inner"] (defScope s_spelled) := ⟨rfl, rfl, rfl, by decide +kernel, rfl, by decide +kernel, by decide +kernel⟩
theorem ok_spelled (F : Fun K "spelled" "spelled" s_spelled f fd) (Z : Bltn mg) (T : Kls P w K mg base CF cls) : FnOk P w K mg base CX0 4 f fd ["kind", "told", "inner"] (spSpelled CF cls) := by
  refine F.ok scSpelled (fun vs H Q E h => ?_) (fun cdv A outer s H vs Q E hr h => ?_)
  · obtain ⟨kind, pt, pi, told, inner, text, rfl, _⟩ := h
    rfl
  obtain ⟨kind, pt, pi, told, inner, text, rfl, ht, hi, h, q⟩ := h
  refine ⟨_, pss_cons (ps_if (pt_cmpR op_eq (pv 0) pe_str (nomark _)) (pss_one (ps_ret (pe_joined (.cons pe_str (.cons (pe_fmt (pe_ix ix_tup (pv 1) pe_int (fun _ _ => rfl))) (.cons pe_str .nil)))))) pss_nil)
    (pss_cons (ps_if (pt_cmpR op_eq (pv 0) pe_str (nomark _)) (pss_one (ps_ret (pe_ix ix_tup (pv 1) pe_int (fun _ _ => rfl)))) pss_nil)
    (pss_cons (ps_set (i := 3) scSpelled.nd rfl (Or.inl rfl) (pe_join pe_str (pe_lc (te := tCB (rTell P w K mg base 1) (tCons (tVar 4) tNil)) (own := [("part", 4)]) (g := gName 4) (tt := tYes) rfl scSpelled.nd (pi_tup (pe_tup (StX.pa_star (pv 1) (StX.pa_star (pv 2) pa_nil))))
        (blkOk_by (N := ["kind", "told", "inner", "listed", "part"]) (sc := defScope s_spelled) (by decide +kernel)) (fun _ _ _ _ _ => pg_name (i := 4) scSpelled.nd rfl (Or.inl rfl)) (fun _ _ _ _ _ => pts_nil)
        (fun _ _ _ _ _ => pe_callTy (call_tell (k := 1) hr) (by rfl) Z.str (by decide +kernel) (pa_cons (pv 4) pa_nil)))))
    (pss_one (ps_ret (pe_joined (.cons (pe_fmt (pv 0)) (.cons pe_str (.cons (pe_fmt (pv 3)) (.cons pe_str .nil))))))))), ?_⟩
  have go : ∀ ys : List Str, ys.length ≤ 100 → (ys.map (·.length)).sum ≤ 100000 → (Str.join ", " ys).length ≤ 100200 := fun ys h1 h2 => by
    have z := join_len ", " ys
    have l2 : (", " : Str).length = 2 := by decide +kernel
    rw [l2] at z
    omega
  have one : ("'" : Str).length = 1 := by decide +kernel
  have e0 : Str.empty.length = 0 := by decide +kernel
  have big : 100300 ≤ sizeLine := by decide
  rcases h with ⟨rfl, s', rfl, few, ex⟩ | ⟨rfl, s', rfl, ex⟩ | ⟨n1, n2, kf, ys, ty, y1, y2, ex⟩ <;> rw [ex] at q
  · refine ⟨_, rfl, rfl, _, rfl, ?_⟩
    rw [decide_eq_true rfl]
    refine iteT ⟨"'", rfl, by decide +kernel, _, rfl, pt, _, _, .str s', rfl, rfl, SqT.of ht, rfl, .inl ⟨s', rfl, Nat.le_trans few (by decide), s', rfl, ?_, "'", rfl, ?_, q H (Same.refl H)⟩⟩
    · simp only [PySem.Str.length_append, one, e0]
      omega
    · simp only [PySem.Str.length_append, one, e0]
      omega
  · refine ⟨_, rfl, rfl, _, rfl, ?_⟩
    rw [str_ne (by decide +kernel)]
    refine iteF ⟨_, rfl, rfl, _, rfl, ?_⟩
    rw [decide_eq_true rfl]
    exact iteT ⟨_, rfl, pt, _, _, .str s', rfl, rfl, SqT.of ht, rfl, q H (Same.refl H)⟩
  · refine ⟨_, rfl, rfl, _, rfl, ?_⟩
    rw [str_ne n1]
    refine iteF ⟨_, rfl, rfl, _, rfl, ?_⟩
    rw [str_ne n2]
    refine iteF ?_
    have len : (told ++ (inner ++ [])).length = ys.length := by
      rw [List.append_nil]
      exact ty.length
    refine ⟨⟨_, rfl⟩, _, rfl, pt, told, rfl, .inl (SqT.of ht), _, rfl, pi, inner, rfl, .inl (SqT.of hi), ?_, fun tp htp => ⟨tp, rfl, ⟨_, SqT.of upd_same⟩, fun D hD => ?_⟩⟩
    · rw [len]
      exact small_line (by omega)
    have s0 := same_new htp (.tup (told ++ (inner ++ [])))
    refine lc_tup (K := K) (a := tp) (xs := told ++ (inner ++ [])) (fun i H' => Same (upd H tp (.tup (told ++ (inner ++ [])))) H' ∧ H' D = some (.lst ((ys.take i).map V.str))) ⟨same_new hD _, upd_same⟩ (fun i H' _ h => SqT.of (h.1 _ _ upd_same)) ?_ ?_
    · rintro i x H' hx ⟨s1, h1⟩
      rw [List.append_nil] at hx
      obtain ⟨y, hy, t⟩ := paired_get ty hx
      have iy : i < ys.length := (List.getElem?_eq_some_iff.mp hy).1
      have fin : ∃ acc, H' D = some (.lst acc) ∧ acc.length < sizeLine ∧ Same (upd H tp (.tup (told ++ (inner ++ [])))) (upd H' D (.lst (acc ++ [V.str y]))) ∧
          upd H' D (.lst (acc ++ [V.str y])) D = some (.lst ((ys.take (i + 1)).map V.str)) := by
        refine ⟨_, h1, ?_, fun b o hb => ?_, ?_⟩
        · rw [List.length_map, List.length_take]
          exact Nat.lt_of_lt_of_le (by omega : _ < 1000) (small_line (Nat.le_refl _))
        · rw [upd_ne (ne_of_none hb hD)]
          exact s1 b o hb
        · rw [upd_same, List.take_add_one, hy, List.map_append]
          rfl
      refine ⟨rfl, turn_yes ⟨_, rfl, x, rfl, ?_⟩⟩
      cases t.same (s0.trans s1) with
      | int j hj => exact .inl ⟨j, rfl, small_log hj, fin⟩
      | str => exact .inr (.inl ⟨y, rfl, fin⟩)
      | exp h =>
        obtain ⟨dx, fa, dfa, pm, pi', pl, hc, e1, e2, _⟩ := h
        exact .inr (.inr ⟨_, _, dx, _, spStr _ CF, rfl, e1, T.str _ hc, _, dx, fa, dfa, _, _, y, rfl, e1, rfl, e2, rfl, y, rfl, fin⟩)
    · rintro H' ⟨s1, h1⟩
      rw [len, List.take_of_length_le (Nat.le_refl _)] at h1
      refine ⟨", ", D, ys, rfl, rfl, .inl (SqL.of h1), ?_, ?_⟩
      · have l2 : (", " : Str).length = 2 := by decide +kernel
        rw [l2]
        omega
      rw [TL.join_eq]
      have g := go ys y1 y2
      refine ⟨_, rfl, .inl ⟨kind, rfl, Nat.le_trans kf (by decide), kind, rfl, ?_, "(", rfl, ?_, _, rfl, .inl ⟨_, rfl, ?_, _, rfl, ?_, ")", rfl, ?_, q H' (s0.trans s1)⟩⟩⟩
      all_goals try simp only [PySem.Str.length_append, e0, (by decide +kernel : ("(" : Str).length = 1), (by decide +kernel : (")" : Str).length = 1)]
      all_goals omega
end
end Wp

namespace Hs
open PySem PySem.Spec PyProof.Rows L2
/-! sets of texts: made of a list, sorted -/
def textOf (e : Int × Value) : Str := match e.2 with | .str x _ => x | _ => Str.empty
def TextE (P : Program) (w : World) (e : Int × Value) : Prop := ∃ x tk, e.2 = Value.str x tk ∧ e.1 = (strKind P w).hash x
/-- at a stands a set of just these texts -/
structure Table (P : Program) (w : World) (ms : List Str) (es : Array (Int × Value)) (t : SetTable) : Prop where
  texts : ∀ e ∈ es.toList, TextE P w e
  perm : (es.toList.map textOf).Perm ms
  once : ms.Nodup
  few : es.size < scanBound
  fits : t.fits es.size = true
  ris : Ris t.place.toList
  led : w.params.followText "set-order" = true ∨ t.led = true
def SetT (P : Program) (w : World) (h : Heap) (a : Addr) (ms : List Str) : Prop :=
  ∃ o es ep t, h.get? a = some o ∧ o.ExactSet ∧ o.data = .set es ep t ∧ Table P w ms es t
section
variable {P : Program} {w : World} {h h' : Heap} {a : Addr} {ms : List Str} {es : Array (Int × Value)} {t : SetTable}
theorem SetT.keep (R : SetT P w h a ms) (k : ∀ o, h.get? a = some o → h'.get? a = some o) : SetT P w h' a ms := by
  obtain ⟨o, es, ep, t, ho, r⟩ := R
  exact ⟨o, es, ep, t, k o ho, r⟩
theorem Table.elems (T : Table P w ms es t) : ElemsOf (strKind P w) es.toList := fun e he => by
  obtain ⟨x, tk, h1, h2⟩ := T.texts e he
  rw [h1]
  exact ⟨⟨x, strKind_is P w x tk, h2⟩, rfl⟩
theorem text_is {e : Int × Value} (g : TextE P w e) (x : Str) : (strKind P w).is x e.2 = true ↔ textOf e = x := by
  obtain ⟨y, tk, h1, _⟩ := g
  unfold textOf
  rw [h1]
  show ((y == x) = true) ↔ y = x
  exact beq_iff_eq
theorem Table.mem (T : Table P w ms es t) (x : Str) : x ∈ ms ↔ ∃ e ∈ es.toList, (strKind P w).is x e.2 = true := by
  rw [← T.perm.mem_iff, List.mem_map]
  exact ⟨fun ⟨e, he, q⟩ => ⟨e, he, (text_is (T.texts e he) x).2 q⟩, fun ⟨e, he, q⟩ => ⟨e, he, (text_is (T.texts e he) x).1 q⟩⟩
theorem Table.size (T : Table P w ms es t) : es.size = ms.length := by
  rw [← T.perm.length_eq, List.length_map, Array.length_toList]
theorem fresh {h : Heap} {a : Addr} (ho : h.get? a = some { cls := .type "set", dict := none, data := .set #[] 0 (.fresh 0 0 (!w.params.followText "set-order")) }) : SetT P w h a [] := by
  refine ⟨_, #[], 0, _, ho, ⟨rfl, rfl, rfl⟩, rfl, ⟨fun e he => ?_, .nil, .nil, by decide, rfl, .nil, ?_⟩⟩
  · cases he
  · show _ ∨ (!w.params.followText "set-order") = true
    cases w.params.followText "set-order" <;> simp
end
/-- the members when x comes to ms -/
def put (ms : List Str) (x : Str) : List Str := if x ∈ ms then ms else x :: ms
section
variable {P : Program} {w : World} {A : Around} {E : Value → Shared → Prop} {s : Shared} {a : Addr} {ms : List Str}
theorem settle {g : Bool → Sem Unit} (hg : ∀ (b : Bool) (s1 : Shared) (Q' : Unit → Shared → Prop), Q' () s1 → wpAny (model P w) A (g b) Q' E s1)
    {o : Obj} {es es1 : Array (Int × Value)} {ep : Nat} {t t2 : SetTable} {ns : List Str} (ho : s.heap.get? a = some o) (hex : o.ExactSet) (hd : o.data = .set es ep t) (T : Table P w ns es1 t2)
    {wasDummy : Bool} {R : Option Bool → Shared → Prop} (hR : ∀ h', Heap.SameBut a s.heap h' → SetT P w h' a ns → R (some true) { s with heap := h' }) :
    wpAny (model P w) A (do
      storeSet a es1 t2
      if (!wasDummy && t2.tooFull) = true then do
          g (relayAll t2 es1 (SetTable.grown es1.size)).2.2
          storeSet a (relayAll t2 es1 (SetTable.grown es1.size)).1 (relayAll t2 es1 (SetTable.grown es1.size)).2.1
          pure (some true)
        else pure (some true)) R E s := by
  have h1 := store_at (es' := es1) (t' := t2) ho hd
  have b1 := Heap.SameBut.update s.heap a (Obj.putSet es1 t2)
  refine wpAny_bind (wpAny_storeSet_of ho hd ?_ (fits_of_scanBound T.few))
  split
  case isFalse => exact wpAny_pure (hR _ b1 ⟨_, es1, _, t2, h1, hex, rfl, T⟩)
  case isTrue =>
    have q1 := relayAll_perm t2 es1 (SetTable.grown es1.size)
    have q2 := relayAll_fits t2 es1 (SetTable.grown es1.size)
    have q3 := relayAll_ris t2 es1 (SetTable.grown es1.size)
    have q4 := relayAll_led t2 es1 (SetTable.grown es1.size)
    generalize relayAll t2 es1 (SetTable.grown es1.size) = Z at q1 q2 q3 q4 ⊢
    obtain ⟨es2, t3, gave⟩ := Z
    dsimp only at q1 q2 q3 q4 ⊢
    have z : es2.size = es1.size := by
      rw [← Array.length_toList, q1.length_eq, Array.length_toList]
    have T2 : Table P w ns es2 t3 := ⟨fun e he => T.texts e (q1.mem_iff.mp he), (q1.map textOf).trans T.perm, T.once, by rw [z]; exact T.few, q2, q3, T.led.imp id fun y => by rw [q4]; exact y⟩
    refine wpAny_bind (hg _ _ _ (wpAny_bind (wpAny_storeSet_of h1 rfl ?_ (fits_of_scanBound T2.few))))
    exact wpAny_pure (hR _ (b1.trans (Heap.SameBut.update _ a _)) ⟨_, es2, _, t3, store_at (es' := es2) (t' := t3) h1 rfl, hex, rfl, T2⟩)
theorem add_text {x : Str} {tk : Tok} {Q : Bool → Shared → Prop} (R : SetT P w s.heap a ms) (room : ms.length + 1 < scanBound)
    (hQ : ∀ h' b, Heap.SameBut a s.heap h' → SetT P w h' a (put ms x) → Q b { s with heap := h' }) :
    wpAny (model P w) A (setAddHashed a (.str x tk) ((strKind P w).hash x)) Q E s := by
  obtain ⟨o, es, ep, t, ho, hex, hd, T⟩ := R
  have sc : (Value.str x tk).scannable = true := rfl
  unfold setAddHashed setAddHashedIn
  refine wpAny_holding (wpAny_bind (wpAny_setState_of ho hd T.fits ?_))
  dsimp only
  rw [byScan_of sc T.few T.elems, if_pos rfl]
  unfold setAddByScan
  refine wpAny_bind (wpAny_bind (wpAny_rule (wpAny_bind (wpAny_setScan_of (strKind_is P w x tk) ho hd T.fits T.elems ?_))))
  cases found : List.findIdx? (fun e => (strKind P w).is x e.2) es.toList with
  | some j =>
    obtain ⟨hj, pj, _⟩ := List.findIdx?_eq_some_iff_getElem.mp found
    have hx : x ∈ ms := (T.mem x).2 ⟨_, List.getElem_mem hj, pj⟩
    have e : put ms x = ms := if_pos hx
    dsimp only
    refine wpAny_pure (wpAny_pure (hQ s.heap _ (Heap.SameBut.refl a s.heap) ?_))
    rw [e]
    exact ⟨o, es, ep, t, ho, hex, hd, T⟩
  | none =>
    have hx : x ∉ ms := fun z => by
      obtain ⟨e, he, q⟩ := (T.mem x).1 z
      have c := List.findIdx?_eq_none_iff.mp found e he
      rw [q] at c
      cases c
    have ep' : put ms x = x :: ms := if_neg hx
    dsimp only
    have q1 := layNew_perm t es ((strKind P w).hash x) (.str x tk)
    have q2 := layNew_fits t es ((strKind P w).hash x) (.str x tk)
    have q3 := layNew_ris t es ((strKind P w).hash x) (.str x tk) T.ris
    have q4 := layNew_led t es ((strKind P w).hash x) (.str x tk)
    generalize layNew t es ((strKind P w).hash x) (.str x tk) = Z at q1 q2 q3 q4 ⊢
    obtain ⟨es1, t1, wasDummy, gave⟩ := Z
    dsimp only at q1 q2 q3 q4 ⊢
    rw [Array.toList_push] at q1
    have pc : es1.toList.Perm (((strKind P w).hash x, Value.str x tk) :: es.toList) := q1.trans (List.perm_append_singleton _ _)
    have pm : (es1.toList.map textOf).Perm (x :: ms) := (pc.map textOf).trans (T.perm.cons x)
    have tx : ∀ e ∈ es1.toList, TextE P w e := fun e he => by
      rcases List.mem_cons.mp (pc.mem_iff.mp he) with rfl | z
      · exact ⟨x, tk, rfl, rfl⟩
      · exact T.texts e z
    have few : es1.size < scanBound := by
      have z := pc.length_eq
      rw [Array.length_toList, List.length_cons, Array.length_toList, T.size] at z
      omega
    have mk : ∀ t2 : SetTable, t2.fits es1.size = true → Ris t2.place.toList → t2.led = t1.led → Table P w (x :: ms) es1 t2 := fun t2 f r l =>
      ⟨tx, pm, List.nodup_cons.mpr ⟨hx, T.once⟩, few, f, r, T.led.imp id fun y => by rw [l, q4]; exact y⟩
    have fin : ∀ h', Heap.SameBut a s.heap h' → SetT P w h' a (x :: ms) → Q true { s with heap := h' } := fun h' b r => hQ h' _ b (by rw [ep']; exact r)
    have say : ∀ (b : Bool) {s1 : Shared} {Q' : Unit → Shared → Prop}, Q' () s1 → wpAny (model P w) A (match b with | true => rule "set.scan.the-table-gave-way" | false => pure ()) Q' E s1 := fun b s1 Q' q => by
      cases b
      · exact wpAny_pure q
      · exact wpAny_rule q
    refine wpAny_bind (say _ ?_)
    split
    · rw [hashByValue_scannable 8 sc]
      refine wpAny_bind (wpAny_pure (settle (ns := x :: ms) (fun b s1 Q' q => by cases b <;> first | exact wpAny_pure q | exact wpAny_rule q) ho hex hd (mk _ ?_ ?_ ?_) fun h' b r => wpAny_pure (fin h' b r)))
      · first | (split <;> first | exact q2 | exact SetTable.fits_plain_off q2) | exact q2
      · first | (split <;> exact q3) | exact q3
      · first | (split <;> rfl) | rfl
    · refine wpAny_bind (wpAny_pure ?_)
      rw [if_pos rfl]
      exact settle (ns := x :: ms) (fun b s1 Q' q => by cases b <;> first | exact wpAny_pure q | exact wpAny_rule q) ho hex hd (mk _ q2 q3 rfl) fun h' b r => wpAny_pure (fin h' b r)
end
end Hs

namespace Hs
open PySem PySem.Spec PyProof.Rows L2
theorem put_len (ms : List Str) (x : Str) : (put ms x).length ≤ ms.length + 1 := by
  unfold put
  split
  · omega
  · rw [List.length_cons]
    omega
theorem puts_len : ∀ (xs ms : List Str), (xs.foldl put ms).length ≤ ms.length + xs.length
  | [], ms => Nat.le_refl _
  | x :: xs, ms => by
    have h := puts_len xs (put ms x)
    have h2 := put_len ms x
    rw [List.foldl_cons, List.length_cons]
    omega
theorem put_mem (ms : List Str) (x y : Str) : y ∈ put ms x ↔ y ∈ ms ∨ y = x := by
  unfold put
  split
  · rename_i h
    exact ⟨.inl, fun z => z.elim id fun e => e ▸ h⟩
  · rw [List.mem_cons]
    exact Or.comm
theorem puts_mem : ∀ (xs ms : List Str) (y : Str), y ∈ xs.foldl put ms ↔ y ∈ ms ∨ y ∈ xs
  | [], ms, y => by simp
  | x :: xs, ms, y => by
    rw [List.foldl_cons, puts_mem xs, put_mem, List.mem_cons, or_assoc]
section
variable {P : Program} {w : World} {A : Around} {E : Value → Shared → Prop} {s : Shared}
theorem gather {I : Addr} {fp wr : List Addr} {G : Array GenState → Array GenState → Prop} {n : Nat} {Pv : Nat → Value → Prop} {St : Nat → Shared → Prop} {R : Result → Shared → Prop}
    (W : WalksS P w A.in1 I fp wr G n Pv St) (S : Addr) (out : S ∉ fp) (xs : List Str) (hn : n = xs.length) (room : xs.length + 1 < scanBound) (val : ∀ i v, Pv i v → ∃ x t, xs[i]? = some x ∧ v = .str x t) :
    ∀ (k i : Nat) (s : Shared), n - i = k → i ≤ n → St i s → SetT P w s.heap S ((xs.take i).foldl put []) →
      (∀ s', Moved (S :: wr) G s s' → SetT P w s'.heap S (xs.foldl put []) → R (.ok (.ret .none)) s') → codeAny (model P w) A (.builtin "set.update.loop" ⟨[.ref S, .ref I], []⟩) R s := by
  have apart : S ∉ wr := fun h => out (W.sub _ h)
  have more : ∀ b ∈ wr, b ∈ S :: wr := fun b hb => List.mem_cons_of_mem _ hb
  intro k
  induction k with
  | zero =>
    intro i s hk hi st hS hR
    obtain rfl : i = n := by omega
    rw [List.take_of_length_le (by omega)] at hS
    refine codeAny_builtin F.entry_set_update_loop ?_
    rw [Around.under_plainId F.plain_set_update_loop _]
    exact wpAny_bind (W.done s _ _ st fun s' hm => wpAny_pure (hR s' (hm.mono more) (hS.keep fun o e => hm.heap S o apart e)))
  | succ k ih =>
    intro i s hk hi st hS hR
    have lt : i < n := by omega
    refine codeAny_builtin F.entry_set_update_loop ?_
    rw [Around.under_plainId F.plain_set_update_loop _]
    refine wpAny_bind (W.item i s _ _ lt st fun v s1 hP st1 hm => ?_)
    obtain ⟨x, t, hx, rfl⟩ := val i v hP
    show wpAny _ A.in1 (holding [Value.str x t] (setAdd S (.str x t)) >>= _) _ _ s1
    refine wpAny_bind (wpAny_holding ?_)
    unfold setAdd
    refine wpAny_holding (wpAny_bind ((strKind P w).pyHash (k := x) (strKind_is _ _ _ _) ?_))
    have hl : ((xs.take i).foldl put []).length + 1 < scanBound := by
      have z := puts_len (xs.take i) []
      rw [List.length_take, List.length_nil] at z
      omega
    refine add_text (s := { s1 with toks := s1.toks + 1 }) (hS.keep fun o e => hm.heap S o apart e) hl fun h' b sb hS2 => ?_
    have same : (xs.take (i + 1)).foldl put [] = put ((xs.take i).foldl put []) x := by
      rw [List.take_add_one, hx, List.foldl_append]
      rfl
    rw [← same] at hS2
    have far : ∀ b, b ≠ S → ∀ o, s1.heap.get? b = some o → h'.get? b = some o := fun b hb o e => by
      rw [sb.2 b hb]
      exact e
    refine wpAny_pure ⟨plainId_quiet F.plain_set_update_loop _, ih (i + 1) _ (by omega) lt (W.frame _ s1 _ _ st1 (Nat.le_succ _) fun b hb o e => far b (fun z => out (z ▸ hb)) o e) hS2 fun s2 hm2 hS3 => ?_⟩
    exact hR s2 (Moved.trans W.gtrans ((hm.mono more).then_heap (Nat.le_succ _) fun b o hb e => far b (fun z => hb (z ▸ List.mem_cons_self)) o e) hm2) hS3
/-- the empty set that set(..) begins with -/
abbrev bare (w : World) : Obj := { cls := .type "set", dict := none, data := .set #[] 0 (.fresh 0 0 (!w.params.followText "set-order")) }
/-- set(l), l a list of texts -/
theorem set_of {l : Addr} {items : Array Value} {xs : List Str} {Q : Value → Shared → Prop} (hh : A.handled = none) (hl : s.heap.IsList l items) (hi : StrsAre items.toList xs) (room : xs.length + 1 < scanBound)
    (h : ∀ (h' : Heap) (tk : Nat), SetT P w h' s.heap.objs.size (xs.foldl put []) → (∀ b o, s.heap.get? b = some o → h'.get? b = some o) → Q (.ref s.heap.objs.size) { s with heap := h', toks := tk }) :
    wpAny (model P w) A (call (.type "set") [.ref l]) Q E s := by
  have hz : items.size = xs.length := by
    rw [← StrsAre.len_eq hi, Array.length_toList]
  obtain ⟨c, tl, hmro⟩ := F.called_set.mro
  have hmade := F.called_set.made
  have hsub := F.called_set.sub
  refine wpAny_call (codeAny_of_tree ?_)
  show wpAny _ _ (callAny (.type "set") _) _ _ _
  refine wpAny_pure ⟨Code.quiet_builtin _ (by decide +kernel), codeAny_builtin F.entry_type_call ?_⟩
  rw [Around.under_plain (weight_type_call_type "set" [.ref l] []) rfl]
  have h1 := F.called_set.notType
  have h2 := F.called_set.canCreate
  have hct := F.typeCall_set_1 (.ref l)
  repeat (any_goals (first | assumption | wp_step))
  refine codeAny_mono (code_set_led1 (P := P) (w := w) (A := A.in1) (.ref l) (E := E) (Q₁ := fun obj s1 => obj = .ref s.heap.objs.size ∧ s1 = { s with heap := s.heap.push (bare w) }) ⟨rfl, rfl⟩) fun r s1 hr => ?_
  cases r with
  | error e => exact hr
  | ok fl =>
    cases fl with
    | next => exact hr.elim
    | brk => exact hr.elim
    | cont => exact hr.elim
    | ret obj =>
      obtain ⟨rfl, rfl⟩ := hr
      have at0 : (s.heap.push (bare w)).get? s.heap.objs.size = some (bare w) := Heap.get?_push_size _ rfl
      have hT : Shared.TypeIs { s with heap := s.heap.push (bare w) } (.ref s.heap.objs.size) "set" := ⟨_, at0, rfl⟩
      have hli := F.called_set.init.lookup
      have hbi := F.called_set.init.bind (.ref s.heap.objs.size)
      repeat (any_goals (first | assumption | wp_step))
      refine codeAny_mono (codeAny_call_builtin (R := wants (fun r s2 => r = .none ∧ ∃ h' tk, s2 = { s with heap := h', toks := tk } ∧
        SetT P w h' s.heap.objs.size (xs.foldl put []) ∧ ∀ b o, s.heap.get? b = some o → h'.get? b = some o) E) F.called_set.init.plain F.entry_set_init (check_set_init_1 hT ?_)) fun r2 s2 hr2 => ?_
      · obtain ⟨ol, hol, hcl, nl, hdl⟩ := hl
        obtain ⟨ocls, odict, odata, oslots⟩ := ol
        simp only at hcl hdl
        subst hcl; subst hdl
        have at1 : (s.heap.push (bare w)).get? l = some { cls := .type "list", dict := odict, data := .seq items nl, slots := oslots } := Heap.get?_push_of_some _ hol
        have n1 := F.sub_list_set
        have n2 := F.sub_list_frozenset
        have n3 : (Value.type "list" == Value.type "dict") = false := by decide
        have l1 : (s.heap.push (bare w)).IsList l items := ⟨_, at1, rfl, nl, rfl⟩
        unfold Builtin.«set.__init__» noKeywords Builtin.Frozenset.updateFrom
        generalize hPI : pyIter = PI
        wp_walk
        subst hPI
        refine wpAny_pyIter_list l1 (wpAny_bind (wpAny_runValue ?_))
        have small : l < s.heap.objs.size := Heap.lt_size hol
        have sz : (s.heap.push (bare w)).objs.size = s.heap.objs.size + 1 := Heap.size_push ..
        have hh3 : A.in1.in1.in1.handled = none := by simp [hh]
        have ne1 : l ≠ (s.heap.push (bare w)).objs.size := by
          rw [sz]
          exact Nat.ne_of_lt (Nat.lt_succ_of_lt small)
        have ne2 : s.heap.objs.size ∉ [(s.heap.push (bare w)).objs.size, l] := fun z => by
          rcases List.mem_cons.mp z with z | z
          · rw [sz] at z
            exact absurd z (Nat.ne_of_lt (Nat.lt_succ_self _))
          · exact absurd (List.mem_singleton.mp z) (Nat.ne_of_gt small)
        refine gather ((Walks.list hh3 _ l ne1 items).toS) s.heap.objs.size ne2 xs hz room (fun i v hv => ?val) (items.size - 0) 0 _ (by omega) (Nat.zero_le _)
          ⟨⟨_, Heap.get?_push_size _ rfl, rfl, rfl⟩, l1.push _⟩ ?start ?fin
        case val =>
          obtain ⟨t, e⟩ := SS.strs_at hi i v (by rw [Array.getElem?_toList]; exact hv)
          have lt : i < xs.length := by
            rw [← hz]
            exact (Array.getElem?_eq_some_iff.mp hv).1
          refine ⟨xs[i], t, List.getElem?_eq_getElem lt, ?_⟩
          rw [e, List.getD_eq_getElem?_getD, List.getElem?_eq_getElem lt]
          rfl
        case start => exact fresh (Heap.get?_push_of_some _ at0)
        case fin =>
          intro s' hm hS'
          obtain ⟨h', g2, d', tk', os'⟩ := s'
          obtain rfl : g2 = s.gens := hm.gens
          obtain rfl : d' = s.drawn := hm.drawn
          obtain rfl : os' = s.os := hm.os
          refine wpAny_pure (wpAny_pure ⟨rfl, h', tk', rfl, hS', fun b o e => ?_⟩)
          have lt : b < s.heap.objs.size := Heap.lt_size e
          refine hm.heap b o (fun z => ?_) (Heap.get?_push_of_some _ (Heap.get?_push_of_some _ e))
          rcases List.mem_cons.mp z with z | z
          · exact absurd z (Nat.ne_of_lt lt)
          · have z2 := List.mem_singleton.mp z
            rw [sz] at z2
            exact absurd z2 (Nat.ne_of_lt (Nat.lt_succ_of_lt lt))
      · cases r2 with
        | error e => exact hr2
        | ok fl2 =>
          cases fl2 with
          | next => exact hr2.elim
          | brk => exact hr2.elim
          | cont => exact hr2.elim
          | ret r =>
            obtain ⟨rfl, h', tk, rfl, hS', hk'⟩ := hr2
            repeat (any_goals (first | assumption | wp_step))
            exact h _ _ hS' hk'
end
end Hs

namespace Hs
open PySem PySem.Spec PyProof.Rows L2
theorem strs_are : ∀ {us : List Value}, (∀ v ∈ us, ∃ x t, v = Value.str x t) → StrsAre us (us.map fun v => textOf (0, v))
  | [], _ => .nil
  | v :: us, h => by
    obtain ⟨x, t, rfl⟩ := h _ List.mem_cons_self
    exact .cons x t (strs_are fun u hu => h u (List.mem_cons_of_mem _ hu))
section
variable {P : Program} {w : World} {A : Around} {E : Value → Shared → Prop} {s : Shared} {a : Addr} {ms : List Str}
/-- sorted(s), s a set of texts -/
theorem sorted_of {Q : Value → Shared → Prop} (R : SetT P w s.heap a ms) (hh : A.handled = none)
    (hQ : ∀ s' p (out : Array Value) (c : Nat) (ys : List Str), (∀ b o, s.heap.get? b = some o → s'.heap.get? b = some o) → s'.gens = s.gens → s'.os = s.os → s.heap.objs.size ≤ p →
      s'.heap.get? p = some (seqObj "list" out c) → StrsAre out.toList ys → ys.Perm ms → sortedS ys = true → Q (.ref p) s') : wpAny (model P w) A (call (.builtin "sorted") [.ref a]) Q E s := by
  obtain ⟨o, es, ep, t, ho, hex, hd, T⟩ := R
  refine Calls.call_function_entry kind_sorted plain_sorted entry_sorted (args_sorted1 _) ?_
  unfold Builtin.«sorted»
  refine wpAny_bind (m := checkCount "sorted" 1 1 _) (wpAny_pure ?_)
  refine wpAny_bind (collect_set (A := A.in1) hh ⟨o, ho, hex.1, hd⟩ T.fits T.few T.ris T.led fun s1 vs k1 hz g1 o1 pm => ?_)
  have len : vs.length = es.size := by rw [pm.length_eq, List.length_map, Array.length_toList]
  have few : vs.length ≤ sizeLine := by
    rw [len]
    exact fits_of_scanBound T.few
  have hS : StrsAre vs (vs.map fun v => textOf (0, v)) := strs_are fun v hv => by
    obtain ⟨e, he, q⟩ := List.mem_map.mp (pm.mem_iff.mp hv)
    obtain ⟨x, tk, h1, _⟩ := T.texts e he
    exact ⟨x, tk, q.symm.trans h1⟩
  have pk : (vs.map fun v => textOf (0, v)).Perm ms := by
    have z := pm.map fun v => textOf (0, v)
    rw [List.map_map] at z
    exact z.trans T.perm
  refine wpAny_bind (wpAny_newList ?_ few)
  have at1 : (s1.heap.push (seqObj "list" vs.toArray 0)).get? s1.heap.objs.size = some (seqObj "list" vs.toArray 0) := Heap.get?_push_size _ rfl
  refine wpAny_bind (wpAny_holding (wpAny_call_entry slot_list_sort ⟨_, at1, rfl⟩ entry_list_sort
    (list_sort_treeKAny strKind_oneLt at1 hS.keysOf (fun v1 v2 rest e => keyKind_strs (by rw [← e]; exact hS)) few fun st' hp hs => ⟨_, rfl, ?_⟩) (args_list_sort _)))
  obtain ⟨ys, y1, y2, y3⟩ := sorted_out_str hS hp hs
  obtain ⟨c, hc⟩ := sortedHeap_at (vs := vs) (out := (arrOf st').map (·.2)) at1
  refine wpAny_pure ⟨_, rfl, hQ _ s1.heap.objs.size ((arrOf st').map (·.2)) c ys (fun b u e => ?_) g1 o1 hz hc y1 (y2.trans pk) y3⟩
  have q := k1 b u e
  have lt := Heap.lt_size q
  show (sortedHeap (s1.heap.push (seqObj "list" vs.toArray 0)) s1.heap.objs.size vs ((arrOf st').map (·.2))).get? b = some u
  rw [sortedHeap_old (Nat.ne_of_lt lt) (by rw [size_push']; exact Nat.lt_succ_of_lt lt)]
  exact Heap.get?_push_of_some _ q
end
/-! over the layer -/
def SetS (P : Program) (w : World) (a : Addr) (ms : List Str) : HO := .ext fun h => SetT P w h a ms
section
variable {X : Cx}
theorem setS_ok {P : Program} {w : World} {H : Hp} {h : Heap} {a : Addr} {ms : List Str} (R : SetT P w h a ms) : ObjOk P w H h a (SetS P w a ms) := by
  have ⟨o, _, _, _, ho, _⟩ := R
  exact ⟨R, ⟨o, ho⟩, fun h1 h2 p k => SetT.keep p k⟩
/-- set(xs), a list of texts -/
def rSetOf (X : Cx) : List V → Hp → VK → Prop := fun vs H Q => ∃ (l : Addr) (xs : List Str), vs = [.ref l] ∧ SqL X.K H l (xs.map V.str) ∧ xs.length ≤ 1000 ∧ ∀ p, H p = none → Q (.ref p) (upd H p (SetS X.prog X.w p (xs.foldl put [])))
theorem call_setOf (hc : X.calm = true) : CallR X (.type "set") (rSetOf X) := by
  intro pins s σ H vs us Q I r h
  obtain ⟨l, xs, rfl, hs, few, q⟩ := h
  obtain ⟨its, rv, hl, _⟩ := I.list hs
  rw [Vals.ref1 r]
  refine set_of (I.ok.hd hc) hl.isList (by simpa using rv.strs) (by unfold scanBound; omega) fun h' tk R k => ?_
  exact ⟨.ref _, upd H s.heap.objs.size (SetS X.prog X.w s.heap.objs.size (xs.foldl put [])), I.laid (t' := tk) k (Nat.le_refl _) (setS_ok R), rfl, q _ (I.hok.fresh (Nat.le_refl _))⟩
/-- sorted(s), s such a set -/
def rSortedOf (X : Cx) : List V → Hp → VK → Prop := fun vs H Q => ∃ (a : Addr) (ms : List Str), vs = [.ref a] ∧ H a = some (SetS X.prog X.w a ms) ∧ ms.length ≤ 1000 ∧ ∀ ys p, ys.Perm ms → sortedS ys = true → H p = none → Q (.ref p) (upd H p (.lst (ys.map V.str)))
theorem call_sortedOf (hc : X.calm = true) : CallR X (.builtin "sorted") (rSortedOf X) := by
  intro pins s σ H vs us Q I r h
  obtain ⟨a, ms, rfl, ha, few, q⟩ := h
  rw [Vals.ref1 r]
  refine sorted_of (show SetT X.prog X.w s.heap a ms from (I.hok a _ ha).1) (I.ok.hd hc) fun s' p out c ys k g o hp hg hi hm hs => ?_
  have hlen : (ys.map V.str).length ≤ sizeLine := by
    rw [List.length_map, hm.length_eq]
    exact Nat.le_trans few (by decide)
  have hn : H p = none := I.hok.fresh hp
  have J : Inv X pins σ (upd H p (.lst (ys.map V.str))) { s with heap := s'.heap, gens := s'.gens, drawn := s'.drawn, toks := s'.toks } :=
    I.call (ch := []) (Un.laid k hp hn) (I.hok.laid k hp ⟨hlen, out.toList, c, vals_of_strs hi, hg⟩) (by rw [g]; exact I.bare) (fun _ z => nomatch z)
  have e : s' = { s with heap := s'.heap, gens := s'.gens, drawn := s'.drawn, toks := s'.toks } := by
    cases s'
    cases s
    cases o
    rfl
  rw [e]
  exact ⟨.ref p, _, J, rfl, q ys p hm hs hn⟩
end
end Hs

namespace Wp
open PySem PySem.Spec PyProof.Rows L2 Hx
/-! two loops in a comprehension -/
section
variable {J J1 : It} {n n1 : Nat} {G G1 : Hp → Prop} {Y Y1 : Nat → Hp → V → Hp → Prop} {g g1 : TG} {tt tt1 : TT} {te : TE} {vs vs1 : List Nat} {σ : L2.St} {H1 : Hp} {D : Addr}
theorem outer_it (w : Walk J n G Y) {wi1 : TI} {Qd : Hp → Prop} (Pv : Nat → Hp → Prop) (h0 : Pv 0 (upd H1 D (.lst []))) (hG : ∀ i H, i ≤ n → Pv i H → G H)
    (hs : ∀ i x H H', i < n → Pv i H → Y i H x H' → g x (wipe σ vs) H' fun σ2 H2 => wipe σ2 vs = wipe σ vs ∧ tt σ2 H2 fun b H3 =>
      if b = true then wi1 σ2 H3 fun J1 H4 => ∃ W1 : Nat → Nat → Hp → Prop, (∃ m, W1 0 m H4) ∧ ∀ j k H, W1 j k H →
        (J1.stop j H ∧ Pv (i + 1) H) ∨ (J1.go j H ∧ ∃ Nx1 : Hp → Prop, (∀ H', Nx1 H' → ∃ k', k' < k ∧ W1 (j + 1) k' H') ∧ ∀ x H', J1.yld j H x H' → g1 x (wipe σ2 vs1) H' fun σ3 H5 => wipe σ3 vs1 = wipe σ2 vs1 ∧ tt1 σ3 H5 fun b H6 =>
          if b = true then te σ3 H6 fun y H7 => ∃ acc, H7 D = some (.lst acc) ∧ acc.length < sizeLine ∧ Nx1 (upd H7 D (.lst (acc ++ [y]))) else Nx1 H6)
      else Pv (i + 1) H3) (hd : ∀ H, Pv n H → Qd H) :
    ∃ W : Nat → Nat → Hp → Prop, (∃ m, W 0 m (upd H1 D (.lst []))) ∧ ∀ i m H, W i m H →
      (J.stop i H ∧ Qd H) ∨ (J.go i H ∧ ∃ Nx : Hp → Prop, (∀ H', Nx H' → ∃ m', m' < m ∧ W (i + 1) m' H') ∧ ∀ x H', J.yld i H x H' → g x (wipe σ vs) H' fun σ2 H2 => wipe σ2 vs = wipe σ vs ∧ tt σ2 H2 fun b H3 =>
        if b = true then wi1 σ2 H3 fun J1 H4 => ∃ W1 : Nat → Nat → Hp → Prop, (∃ m, W1 0 m H4) ∧ ∀ j k H, W1 j k H →
          (J1.stop j H ∧ Nx H) ∨ (J1.go j H ∧ ∃ Nx1 : Hp → Prop, (∀ H', Nx1 H' → ∃ k', k' < k ∧ W1 (j + 1) k' H') ∧ ∀ x H', J1.yld j H x H' → g1 x (wipe σ2 vs1) H' fun σ3 H5 => wipe σ3 vs1 = wipe σ2 vs1 ∧ tt1 σ3 H5 fun b H6 =>
            if b = true then te σ3 H6 fun y H7 => ∃ acc, H7 D = some (.lst acc) ∧ acc.length < sizeLine ∧ Nx1 (upd H7 D (.lst (acc ++ [y]))) else Nx1 H6)
        else Nx H3) := by
  refine ⟨fun i m H => m = n - i ∧ i ≤ n ∧ Pv i H, ⟨n, rfl, Nat.zero_le _, h0⟩, ?_⟩
  rintro i m H ⟨rfl, hi, p⟩
  by_cases lt : i < n
  · exact .inr ⟨w.goes i H lt (hG i H hi p), Pv (i + 1), fun H' p' => ⟨n - (i + 1), by omega, rfl, lt, p'⟩, fun x H' y => hs i x H H' lt p (w.yields i H x H' lt (hG i H hi p) y)⟩
  · obtain rfl : i = n := by omega
    exact .inl ⟨w.stops H (hG i H hi p), hd H p⟩
theorem inner_it (w : Walk J1 n1 G1 Y1) {H4 : Hp} {Nx : Hp → Prop} (Pv : Nat → Hp → Prop) (h0 : Pv 0 H4) (hG : ∀ i H, i ≤ n1 → Pv i H → G1 H)
    (hs : ∀ j x H H', j < n1 → Pv j H → Y1 j H x H' → g1 x (wipe σ vs1) H' fun σ3 H5 => wipe σ3 vs1 = wipe σ vs1 ∧ tt1 σ3 H5 fun b H6 =>
      if b = true then te σ3 H6 fun y H7 => ∃ acc, H7 D = some (.lst acc) ∧ acc.length < sizeLine ∧ Pv (j + 1) (upd H7 D (.lst (acc ++ [y]))) else Pv (j + 1) H6) (hd : ∀ H, Pv n1 H → Nx H) :
    ∃ W1 : Nat → Nat → Hp → Prop, (∃ m, W1 0 m H4) ∧ ∀ j k H, W1 j k H →
      (J1.stop j H ∧ Nx H) ∨ (J1.go j H ∧ ∃ Nx1 : Hp → Prop, (∀ H', Nx1 H' → ∃ k', k' < k ∧ W1 (j + 1) k' H') ∧ ∀ x H', J1.yld j H x H' → g1 x (wipe σ vs1) H' fun σ3 H5 => wipe σ3 vs1 = wipe σ vs1 ∧ tt1 σ3 H5 fun b H6 =>
        if b = true then te σ3 H6 fun y H7 => ∃ acc, H7 D = some (.lst acc) ∧ acc.length < sizeLine ∧ Nx1 (upd H7 D (.lst (acc ++ [y]))) else Nx1 H6) := by
  refine ⟨fun i m H => m = n1 - i ∧ i ≤ n1 ∧ Pv i H, ⟨n1, rfl, Nat.zero_le _, h0⟩, ?_⟩
  rintro i m H ⟨rfl, hi, p⟩
  by_cases lt : i < n1
  · exact .inr ⟨w.goes i H lt (hG i H hi p), Pv (i + 1), fun H' p' => ⟨n1 - (i + 1), by omega, rfl, lt, p'⟩, fun x H' y => hs i x H H' lt p (w.yields i H x H' lt (hG i H hi p) y)⟩
  · obtain rfl : i = n1 := by omega
    exact .inl ⟨w.stops H (hG i H hi p), hd H p⟩
end
/-- what is told of an expression -/
structure Told where
  at_ : Addr
  own : Addr
  kind : Str
  text : Str
  told : List V
  inner : List V
  labels : List Str
  size : Int
def Told.stands (CF : Addr) (cls : Addr → Prop) (H : Hp) (e : Told) : Prop := XpAt CF cls H e.at_ e.own e.kind e.text e.told e.inner e.labels e.size
def namesOf (kind : Str) (told : List V) (es : List Told) : List Str := if kind = "name" then told.filterMap fun | .str s => some s | _ => none else es.flatMap (·.labels)
def spFacts (CF : Addr) (cls : Addr → Prop) : Sp := fun vs H Q _ => ∃ (a dx : Addr) (kind : Str) (pt pi : Addr) (told : List V) (es : List Told) (text : Str), vs = [.ref a, .str kind, .ref pt, .ref pi] ∧ H a = some (.ins CF dx []) ∧
  H pt = some (.tup told) ∧ H pi = some (.tup (es.map fun e => .ref e.at_)) ∧ (∀ e ∈ es, e.stands CF cls H ∧ e.labels.length ≤ 200) ∧ es.length ≤ 4 ∧ Spells CF cls H kind told (es.map fun e => .ref e.at_) text ∧
  ∀ H' pl ls, But a H H' → H' a = some (.ins CF dx (factL kind pt pi text pl (1 + (es.map (·.size)).sum))) → H' pl = some (.tup (ls.map V.str)) → ls.Perm ((namesOf kind told es).foldl Hs.put []) → sortedS ls = true → Q .non H'
section
variable {P : Program} {w : World} {K : PySem.W.Frag} {mg : Str → Option Value} {base : Heap} {f fS CF : Addr} {fd fdS : FuncData} {cls : Addr → Prop}
theorem scFacts : FnScope ["self", "kind", "told", "inner", "names", "name", "knot"] ["self", "kind", "told", "inner"] (defScope s_Facts_init) := ⟨rfl, rfl, rfl, by decide +kernel, rfl, by decide +kernel, by decide +kernel⟩
theorem seq_join {te : TE} {i : Nat} {u : TS} {D : Ends} {σ : L2.St} {H : Hp} (R : V → Hp → Prop) (h : ∀ Q : VK, (∀ v H', R v H' → Q v H') → te σ H Q) (hq : ∀ v H', R v H' → u D (σ.set i (some v)) H') : tSeq (tAsg te (gName i)) u D σ H := h _ hq
theorem but_ne {a dx CF : Addr} {H : Hp} {c : Addr} {o : HO} (ha : H a = some (.ins CF dx [])) (e : H c = some o) (n : o ≠ .ins CF dx []) : c ≠ a := fun z => by
  rw [z, ha] at e
  exact n (Option.some.inj e).symm
theorem xp_but {a dx CF : Addr} {H H' : Hp} {x C : Addr} {kind text : Str} {told inner : List V} {labels : List Str} {size : Int} (ha : H a = some (.ins CF dx [])) (b : But a H H') (h : XpAt CF cls H x C kind text told inner labels size) : XpAt CF cls H' x C kind text told inner labels size := by
  obtain ⟨dx', fa, dfa, pm, pi, pl, h0, h1, h2, h3, h4, h5⟩ := h
  refine ⟨dx', fa, dfa, pm, pi, pl, h0, b _ _ (but_ne ha h1 ?_) h1, b _ _ (but_ne ha h2 ?_) h2, b _ _ (but_ne ha h3 ?_) h3, b _ _ (but_ne ha h4 ?_) h4, b _ _ (but_ne ha h5 ?_) h5⟩
  · intro z
    cases z
  · intro z
    have y := (HO.ins.inj z).2.2
    unfold factL at y
    cases y
  · intro z
    cases z
  · intro z
    cases z
  · intro z
    cases z
theorem tx_but {a dx CF : Addr} {H H' : Hp} {v : V} {y : Str} (ha : H a = some (.ins CF dx [])) (b : But a H H') (h : TxAt CF cls H v y) : TxAt CF cls H' v y := by
  cases h with
  | int i h => exact .int i h
  | str => exact .str y
  | exp h => exact .exp (xp_but ha b h)
theorem paired_imp {α β : Type} {R S : α → β → Prop} (f : ∀ x y, R x y → S x y) : ∀ {xs : List α} {ys : List β}, Paired R xs ys → Paired S xs ys
  | _, _, .nil => .nil
  | _, _, .cons r t => .cons (f _ _ r) (paired_imp f t)
theorem flat_len : ∀ es : List Told, (∀ e ∈ es, e.labels.length ≤ 200) → (es.flatMap (·.labels)).length ≤ es.length * 200
  | [], _ => Nat.zero_le _
  | e :: es, h => by
    have h1 := h e List.mem_cons_self
    have h2 := flat_len es fun x hx => h x (List.mem_cons_of_mem _ hx)
    rw [List.flatMap_cons, List.length_append, List.length_cons, Nat.succ_mul]
    omega
theorem spells_but {a dx CF : Addr} {H H' : Hp} {kind text : Str} {told inner : List V} (ha : H a = some (.ins CF dx [])) (b : But a H H') (sp : Spells CF cls H kind told inner text) : Spells CF cls H' kind told inner text := by
  rcases sp with h | h | ⟨n1, n2, kf, ys, h1, h2, h3, e⟩
  · exact .inl h
  · exact .inr (.inl h)
  · exact .inr (.inr ⟨n1, n2, kf, ys, paired_imp (fun _ _ => tx_but ha b) h1, h2, h3, e⟩)
theorem put0 {v1 : V} : putF "word" v1 [] = ([("word", v1)] : List (Str × V)) := rfl
theorem put1 {v1 v2 : V} : putF "marks" v2 ([("word", v1)] : List (Str × V)) = ([("word", v1), ("marks", v2)] : List (Str × V)) := by kernel_rfl
theorem put2 {v1 v2 v3 : V} : putF "parts" v3 ([("word", v1), ("marks", v2)] : List (Str × V)) = ([("word", v1), ("marks", v2), ("parts", v3)] : List (Str × V)) := by kernel_rfl
theorem put3 {v1 v2 v3 v4 : V} : putF "text" v4 ([("word", v1), ("marks", v2), ("parts", v3)] : List (Str × V)) = ([("word", v1), ("marks", v2), ("parts", v3), ("text", v4)] : List (Str × V)) := by kernel_rfl
theorem put4 {v1 v2 v3 v4 v5 : V} : putF "labels" v5 ([("word", v1), ("marks", v2), ("parts", v3), ("text", v4)] : List (Str × V)) = ([("word", v1), ("marks", v2), ("parts", v3), ("text", v4), ("labels", v5)] : List (Str × V)) := by kernel_rfl
theorem put5 {v1 v2 v3 v4 v5 v6 : V} : putF "size" v6 ([("word", v1), ("marks", v2), ("parts", v3), ("text", v4), ("labels", v5)] : List (Str × V)) = ([("word", v1), ("marks", v2), ("parts", v3), ("text", v4), ("labels", v5), ("size", v6)] : List (Str × V)) := by kernel_rfl
structure FactsC (K : PySem.W.Frag) (CF : Addr) : Prop where
  cls : Cls K CF
  no : ∀ f ∈ (["word", "marks", "parts", "text", "labels", "size"] : List Str), NoAttr K CF f
structure Bltn2 (mg : Str → Option Value) : Prop where
  list : mg "list" = none
  set : mg "set" = none
  sorted : mg "sorted" = none
  tuple : mg "tuple" = none
  sum : mg "sum" = none
theorem ok_facts (F : Fun K "__init__" "Facts.__init__" s_Facts_init f fd) (Z : Bltn2 mg) (T : Kls P w K mg base CF cls) (FC : FactsC K CF)
    (GS : FnOk P w K mg base CX0 4 fS fdS ["kind", "told", "inner"] (spSpelled CF cls)) (bS : Binds K fdS ["kind", "told", "inner"] []) (kS : PySem.W.keepIn K (.ref fS) = true) (mS : mg "spelled" = some (.ref fS)) :
    FnOk P w K mg base CX0 5 f fd ["self", "kind", "told", "inner"] (spFacts CF cls) := by
  refine F.ok scFacts (fun vs H Q E h => ?_) (fun cdv A outer s H vs Q E hr h => ?_)
  · obtain ⟨a, dx, kind, pt, pi, told, es, text, rfl, _⟩ := h
    rfl
  obtain ⟨a, dx, kind, pt, pi, told, es, text, rfl, ha, ht, hi, hes, few, sp, q⟩ := h
  refine ⟨_, pss_cons (ps_fld (pv 0) (pv 1) rfl) (pss_cons (ps_fld (pv 0) (pv 2) rfl) (pss_cons (ps_fld (pv 0) (pv 3) rfl)
    (pss_cons (ps_fld (pv 0) (pe_call GS hr rfl mS kS bS .nil pass0 (pa_cons (pv 1) (pa_cons (pv 2) (pa_cons (pv 3) pa_nil)))) rfl)
    (pss_cons (ps_set (i := 4) scFacts.nd rfl (Or.inl rfl) (pe_ifExp (pt_cmpR op_eq (pv 1) pe_str (nomark _)) (pe_callTy call_list_of (by rfl) Z.list (by decide +kernel) (pa_cons (pv 2) pa_nil))
        (pe_lc2 (te := tVar 5) (own := [("knot", 6), ("name", 5)]) (vs1 := [5]) (g := gName 6) (tt := tYes) (g1 := gName 5) (tt1 := tYes) (wi1 := iTup K (tPropA P w K mg base 1 "names" (tVar 6))) rfl scFacts.nd (pi_tup (pv 3)) (blkOk_by (N := ["self", "kind", "told", "inner", "names", "name", "knot"]) (sc := defScope s_Facts_init) (by decide +kernel)) (by decide)
          (fun _ _ _ _ _ => pg_name (i := 6) scFacts.nd rfl (Or.inl rfl)) (fun _ _ _ _ _ => pts_nil) (fun _ _ _ _ _ => pi_tup (pe_propA (k := 1) (pv 6) (hr.mono (by decide)) rfl)) (fun _ _ _ _ _ => pg_name (i := 5) scFacts.nd rfl (Or.inl rfl)) (fun _ _ _ _ _ => pts_nil) (fun _ _ _ _ _ => pv 5))))
    (pss_cons (ps_fld (pv 0) (pe_callTy call_tuple_of (by rfl) Z.tuple (by decide +kernel) (pa_cons (pe_callB (Hs.call_sortedOf rfl) (by rfl) Z.sorted (by decide +kernel) (pa_cons (pe_callTy (Hs.call_setOf rfl) (by rfl) Z.set (by decide +kernel) (pa_cons (pv 4) pa_nil)) pa_nil)) pa_nil)) rfl)
    (pss_one (ps_fld (pv 0) (pe_op op_add pe_int (pe_callB (cr_sum rfl) (by rfl) Z.sum (by decide +kernel) (pa_cons (pe_lc (te := tPropA P w K mg base 1 "knots" (tVar 6)) (own := [("knot", 6)]) (g := gName 6) (tt := tYes) rfl scFacts.nd (pi_tup (pv 3)) (blkOk_by (N := ["self", "kind", "told", "inner", "names", "name", "knot"]) (sc := defScope s_Facts_init) (by decide +kernel))
          (fun _ _ _ _ _ => pg_name (i := 6) scFacts.nd rfl (Or.inl rfl)) (fun _ _ _ _ _ => pts_nil) (fun _ _ _ _ _ => pe_propA (k := 1) (pv 6) (hr.mono (by decide)) rfl)) pa_nil))) rfl))))))), ?_⟩
  have npt : pt ≠ a := but_ne ha ht (by intro z; cases z)
  have npi : pi ≠ a := but_ne ha hi (by intro z; cases z)
  have no := FC.no
  refine ⟨_, rfl, _, rfl, a, CF, dx, [], rfl, ha, FC.cls, no "word" (by simp), (by show 0 < 1000; decide), ?_⟩
  rw [put0]
  have b1 : But a H (upd H a (.ins CF dx ([("word", V.str kind)] : List (Str × V)))) := But.refl.upd _
  refine ⟨_, rfl, _, rfl, a, CF, dx, [("word", V.str kind)], rfl, upd_same, FC.cls, no "marks" (by simp), (by show 1 < 1000; decide), ?_⟩
  rw [put1]
  have b2 := b1.upd (.ins CF dx ([("word", V.str kind), ("marks", .ref pt)] : List (Str × V)))
  refine ⟨_, rfl, _, rfl, a, CF, dx, _, rfl, upd_same, FC.cls, no "parts" (by simp), (by show 2 < 1000; decide), ?_⟩
  rw [put2]
  have b3 := b2.upd (.ins CF dx ([("word", V.str kind), ("marks", .ref pt), ("parts", .ref pi)] : List (Str × V)))
  obtain ⟨H3, e3, b3, h3a⟩ : ∃ H3, upd (upd (upd H a (.ins CF dx ([("word", V.str kind)] : List (Str × V)))) a (.ins CF dx ([("word", V.str kind), ("marks", .ref pt)] : List (Str × V)))) a (.ins CF dx ([("word", V.str kind), ("marks", .ref pt), ("parts", .ref pi)] : List (Str × V))) = H3 ∧ But a H H3 ∧
      H3 a = some (.ins CF dx ([("word", V.str kind), ("marks", .ref pt), ("parts", .ref pi)] : List (Str × V))) := ⟨_, rfl, b3, upd_same⟩
  rw [e3]
  refine ⟨_, rfl, _, rfl, _, rfl, kind, pt, pi, told, _, text, rfl, b3 pt _ npt ht, b3 pi _ npi hi, spells_but ha b3 sp, fun H4 s4 => ?_⟩
  refine ⟨_, rfl, a, CF, dx, _, rfl, s4 _ _ h3a, FC.cls, no "text" (by simp), (by show 3 < 1000; decide), ?_⟩
  rw [put3]
  obtain ⟨H5, e5, b5, h5a⟩ : ∃ H5, upd H4 a (.ins CF dx ([("word", V.str kind), ("marks", .ref pt), ("parts", .ref pi), ("text", .str text)] : List (Str × V))) = H5 ∧ But a H H5 ∧
      H5 a = some (.ins CF dx ([("word", V.str kind), ("marks", .ref pt), ("parts", .ref pi), ("text", .str text)] : List (Str × V))) := ⟨_, rfl, (b3.trans (But.of s4)).upd _, upd_same⟩
  rw [e5]
  have hpi5 := b5 pi _ npi hi
  dsimp only
  refine seq_join (fun v H' => ∃ D, v = .ref D ∧ Same H5 H' ∧ H' D = some (.lst ((namesOf kind told es).map V.str)) ∧ (namesOf kind told es).length ≤ 800) (fun Q' hQ => ?_) ?_
  · refine ⟨_, rfl, rfl, _, rfl, ?_⟩
    by_cases hk : kind = "name"
    · subst hk
      rw [decide_eq_true rfl]
      obtain ⟨s', rfl⟩ : ∃ s', told = [V.str s'] := by
        rcases sp with ⟨z, _⟩ | ⟨_, s', e, _⟩ | ⟨_, z, _⟩
        · exact absurd z (by decide +kernel)
        · exact ⟨s', e⟩
        · exact absurd rfl z
      exact iteT ⟨_, rfl, pt, _, rfl, .inr (SqT.of (b5 pt _ npt ht)), fun l hl => hQ _ _ ⟨l, rfl, same_new hl _, upd_same, by show 1 ≤ 800; decide⟩⟩
    · have en : namesOf kind told es = es.flatMap (·.labels) := by
        unfold namesOf
        rw [if_neg hk]
      have fl := flat_len es fun e he => (hes e he).2
      rw [str_ne hk]
      refine iteF ⟨_, rfl, pi, rfl, ⟨_, SqT.of hpi5⟩, fun D hD => ?_⟩
      refine outer_it walk_tup (fun i H' => Same H5 H' ∧ H' D = some (.lst (((es.take i).flatMap (·.labels)).map V.str))) ⟨same_new hD _, upd_same⟩ (fun i H' _ h => SqT.of (h.1 _ _ hpi5)) ?_ ?_
      · rintro i x H6 _ hi' ⟨s6, h6⟩ ⟨rfl, hx⟩
        rw [List.getElem?_map] at hx
        cases he : es[i]? with
        | none =>
          rw [he] at hx
          cases hx
        | some e =>
          rw [he] at hx
          cases hx
          have he2 := hes e (List.mem_of_getElem? he)
          obtain ⟨dx', fa, dfa, pm, pi', pl, hc, g1, g2, g3, g4, g5⟩ := xp_but ha b5 he2.1
          have ft := flat_len (es.take i) fun e he => (hes e (List.mem_of_mem_take he)).2
          have lt : (es.take i).length ≤ 4 := Nat.le_trans (by rw [List.length_take]; exact Nat.min_le_right _ _) few
          refine ⟨rfl, turn_yes ?_⟩
          refine ⟨_, rfl, e.at_, e.own, dx', _, spGet e.own CF "labels", rfl, s6 _ _ g1, T.get e.own hc "names" "labels" (by simp), e.at_, dx', fa, dfa, _, _, .ref pl, rfl, s6 _ _ g1, rfl, s6 _ _ g2, rfl, pl, rfl, ⟨_, SqT.of (s6 _ _ g5)⟩, ?_⟩
          refine inner_it walk_tup (fun j H' => Same H5 H' ∧ H' D = some (.lst ((((es.take i).flatMap (·.labels)) ++ e.labels.take j).map V.str))) ⟨s6, by rw [List.take_zero, List.append_nil]; exact h6⟩ (fun j H' _ h => SqT.of (h.1 _ _ g5)) ?_ ?_
          · rintro j y H7 _ hj ⟨s7, h7⟩ ⟨rfl, hy⟩
            rw [List.getElem?_map] at hy
            cases hl : e.labels[j]? with
            | none =>
              rw [hl] at hy
              cases hy
            | some l =>
              rw [hl] at hy
              cases hy
              refine ⟨rfl, turn_yes ⟨_, rfl, _, h7, ?_, fun b o hb => ?_, ?_⟩⟩
              · rw [List.length_map, List.length_append, List.length_take]
                exact Nat.lt_of_lt_of_le (by have := he2.2; omega : _ < 2000) (by show 2000 ≤ sizeLine; decide)
              · rw [upd_ne (ne_of_none hb hD)]
                exact s7 b o hb
              · rw [upd_same, List.take_add_one, hl]
                simp
          · rintro H7 ⟨s7, h7⟩
            rw [List.length_map, List.take_of_length_le (Nat.le_refl _)] at h7
            refine ⟨s7, ?_⟩
            rw [List.take_add_one, he, List.flatMap_append, h7]
            simp
      · rintro H6 ⟨s6, h6⟩
        rw [List.length_map, List.take_of_length_le (Nat.le_refl _)] at h6
        exact hQ _ _ ⟨D, rfl, s6, by rw [en]; exact h6, by rw [en]; omega⟩
  rintro _ H6 ⟨D, rfl, s6, h6, nf⟩
  have ml := Hs.puts_len (namesOf kind told es) []
  refine ⟨_, rfl, D, namesOf kind told es, rfl, SqL.of h6, by omega, fun ps hps => ?_⟩
  refine ⟨ps, _, rfl, upd_same, by rw [List.length_nil] at ml; omega, fun ls p1 perm srt np1 => ?_⟩
  refine ⟨p1, _, rfl, .inl ⟨SqL.of upd_same, fun pl hpl => ?_⟩⟩
  have s7 := ((s6.trans (same_new hps (Hs.SetS P w ps ((namesOf kind told es).foldl Hs.put [])))).trans (same_new np1 (.lst (ls.map V.str)))).trans (same_new hpl (.tup (ls.map V.str)))
  refine ⟨_, rfl, a, CF, dx, _, rfl, s7 _ _ h5a, FC.cls, no "labels" (by simp), (by show 4 < 1000; decide), ?_⟩
  rw [put4]
  have b7 := (b5.trans (But.of s7)).upd (.ins CF dx ([("word", V.str kind), ("marks", .ref pt), ("parts", .ref pi), ("text", .str text), ("labels", .ref pl)] : List (Str × V)))
  have s67 := (s6.trans (same_new hps (Hs.SetS P w ps ((namesOf kind told es).foldl Hs.put [])))).trans (same_new np1 (.lst (ls.map V.str)))
  have apl : a ≠ pl := ne_of_none (s67 _ _ h5a) hpl
  refine ⟨_, rfl, pi, rfl, ⟨_, SqT.of (b7 pi _ npi hi)⟩, fun D2 hD2 => ?_⟩
  have d1 : a ≠ D2 := ne_of_none upd_same hD2
  have d2 : pl ≠ D2 := ne_of_none (o := .tup (ls.map V.str)) (by rw [upd_ne (Ne.symm apl)]; exact upd_same) hD2
  have d3 : ∀ b o, b ≠ a → H b = some o → b ≠ D2 := fun b o n hb => ne_of_none (b7 b o n hb) hD2
  refine lc_tup (K := K) (a := pi) (xs := es.map fun e => V.ref e.at_) (fun i H' => But a H H' ∧ H' a = some (.ins CF dx ([("word", V.str kind), ("marks", .ref pt), ("parts", .ref pi), ("text", .str text), ("labels", .ref pl)] : List (Str × V))) ∧ H' pl = some (.tup (ls.map V.str)) ∧ H' D2 = some (.lst (((es.take i).map (·.size)).map V.int)))
    ⟨fun b o n hb => by rw [upd_ne (d3 b o n hb)]; exact b7 b o n hb, by rw [upd_ne d1]; exact upd_same, by rw [upd_ne d2, upd_ne (Ne.symm apl)]; exact upd_same, upd_same⟩ (fun i H' _ h => SqT.of (h.1 pi _ npi hi)) ?_ ?_
  · rintro i x H8 hx ⟨c1, c2, c3, c4⟩
    rw [List.getElem?_map] at hx
    cases he : es[i]? with
    | none =>
      rw [he] at hx
      cases hx
    | some e =>
      rw [he] at hx
      cases hx
      have he2 := hes e (List.mem_of_getElem? he)
      obtain ⟨dx', fa, dfa, pm, pi', pl', hc, g1, g2, g3, g4, g5⟩ := xp_but ha c1 he2.1
      refine ⟨rfl, turn_yes ?_⟩
      refine ⟨_, rfl, e.at_, e.own, dx', _, spGet e.own CF "size", rfl, g1, T.get e.own hc "knots" "size" (by simp), e.at_, dx', fa, dfa, _, _, .int e.size, rfl, g1, rfl, g2, rfl, _, c4, ?_, ?_⟩
      · rw [List.length_map, List.length_map, List.length_take]
        exact Nat.lt_of_lt_of_le (by omega : _ < 1000) (small_line (Nat.le_refl _))
      · refine ⟨fun b o n hb => by rw [upd_ne (d3 b o n hb)]; exact c1 b o n hb, by rw [upd_ne d1]; exact c2, by rw [upd_ne d2]; exact c3, ?_⟩
        rw [upd_same, List.take_add_one, he]
        simp
  · rintro H8 ⟨c1, c2, c3, c4⟩
    rw [List.length_map, List.take_of_length_le (Nat.le_refl _)] at c4
    refine ⟨D2, es.map (·.size), rfl, SqL.of c4, _, _, rfl, rfl, _, rfl, a, CF, dx, _, rfl, c2, FC.cls, no "size" (by simp), (by show 5 < 1000; decide), ?_⟩
    rw [put5]
    exact q _ pl ls (c1.upd _) upd_same (by rw [upd_ne (Ne.symm apl)]; exact c3) perm srt
end
end Wp

namespace Wp
open PySem PySem.Spec PyProof.Rows L2 Hx
/-! an object that has just been made -/
theorem born {H : Hp} {x dx C : Addr} (hx : H x = none) (hdx : H dx = none) (ne : dx ≠ x) : Same H (upd (upd H dx (.own x)) x (.ins C dx [])) := fun b o hb => by
  rw [upd_ne (ne_of_none hb hx), upd_ne (ne_of_none hb hdx)]
  exact hb
theorem grown {H H' : Hp} {x dx C : Addr} (hx : H x = none) (hdx : H dx = none) (ne : dx ≠ x) (b : But x (upd (upd H dx (.own x)) x (.ins C dx [])) H') : Same H H' := fun c o hc =>
  b c o (ne_of_none hc hx) (born hx hdx ne c o hc)
theorem Told.same {CF : Addr} {cls : Addr → Prop} {H H' : Hp} {e : Told} (h : e.stands CF cls H) (s : Same H H') : e.stands CF cls H' := XpAt.same h s
/-- the promise of the __init__ of an expression without inner ones -/
def spLeaf (K : PySem.W.Frag) (CF : Addr) (cls : Addr → Prop) (g : Str → Bool) (Ce : Addr) (kind : Str) (mk : Str → Str) (lab : Str → List Str) : Sp := fun vs H Q E => ∃ (a dx C : Addr) (v : V), vs = [.ref a, v] ∧ cls C ∧ H a = some (.ins C dx []) ∧
  ((∃ x : Str, v = .str x ∧ x.length ≤ 1000 ∧ g x = true ∧ ∀ H', But a H H' → XpAt CF cls H' a C kind (mk x) [v] [] (lab x) 1 → Q .non H') ∨
    (((∃ x : Str, v = .str x ∧ x.length ≤ 1000 ∧ g x = false) ∨ NotStr K H v) ∧ Tells E Ce v H))
/-- what is known of the class Facts -/
structure FactsOk (P : Program) (w : World) (K : PySem.W.Frag) (mg : Str → Option Value) (base : Heap) (CF : Addr) (cls : Addr → Prop) : Prop where
  m : mg "Facts" = some (.ref CF)
  go : ∃ (fI : Addr) (fd : FuncData), Mk K CF fI ∧ FnOk P w K mg base CX0 5 fI fd ["self", "kind", "told", "inner"] (spFacts CF cls) ∧ Binds K fd ["self", "kind", "told", "inner"] []
/-- of a class of expressions, for its own stores -/
structure Own (K : PySem.W.Frag) (C : Addr) : Prop where
  cls : Cls K C
  no : NoAttr K C "facts"
section
variable {P : Program} {w : World} {K : PySem.W.Frag} {mg : Str → Option Value} {base : Heap} {f fC CF Ce : Addr} {fd fdC : FuncData} {cls : Addr → Prop}
theorem finish {H3 : Hp} {a dx C y dy pt pi pl : Addr} {kind text : Str} {told inner : List V} {ls : List Str} {size : Int} (hC : cls C) (ha : H3 a = some (.ins C dx [])) (h1 : H3 y = some (.ins CF dy (factL kind pt pi text pl size)))
    (hpt : H3 pt = some (.tup told)) (hpi : H3 pi = some (.tup inner)) (h2 : H3 pl = some (.tup (ls.map V.str))) :
    XpAt CF cls (upd H3 a (.ins C dx (putF "facts" (.ref y) []))) a C kind text told inner ls size ∧ ∀ H, Same H H3 → But a H (upd H3 a (.ins C dx (putF "facts" (.ref y) []))) := by
  refine ⟨⟨dx, y, dy, pt, pi, pl, hC, upd_same, ?_, ?_, ?_, ?_⟩, fun H s => (But.of s).upd _⟩
  · rw [upd_ne (but_ne ha h1 ?_)]
    · exact h1
    · intro z
      have y := (HO.ins.inj z).2.2
      unfold factL at y
      cases y
  · rw [upd_ne (but_ne ha hpt (by intro z; cases z))]
    exact hpt
  · rw [upd_ne (but_ne ha hpi (by intro z; cases z))]
    exact hpi
  · rw [upd_ne (but_ne ha h2 (by intro z; cases z))]
    exact h2
theorem scSign : FnScope ["self", "sign"] ["self", "sign"] (defScope s_Sign_init) := ⟨rfl, rfl, rfl, by decide +kernel, rfl, by decide +kernel, by decide +kernel⟩
theorem ok_sign (F : Fun K "__init__" "Sign.__init__" s_Sign_init f fd) (FO : FactsOk P w K mg base CF cls) (OW : ∀ C, cls C → Own K C)
    (GC : FnOk P w K mg base (L2N.CX P w) 3 fC fdC ["given"] (spCheck K (lettered 1) Ce)) (bC : Binds K fdC ["given"] []) (kC : PySem.W.keepIn K (.ref fC) = true) (mC : mg "check_sign" = some (.ref fC)) :
    FnOk P w K mg base (L2N.CX P w) 7 f fd ["self", "sign"] (spLeaf K CF cls (lettered 1) Ce "sign" (fun x => ((Str.empty ++ "'") ++ x) ++ "'") fun _ => []) := by
  refine F.okN scSign (fun vs H Q E h => ?_) (fun cdv A outer s H vs Q E hr h => ?_)
  · obtain ⟨a, dx, C, v, rfl, _⟩ := h
    rfl
  obtain ⟨a, dx, C, v, rfl, hC, ha, h⟩ := h
  obtain ⟨fI, fdI, M, GI, bI⟩ := FO.go
  have tk := L2N.takes_of (X := cxOf (L2N.CX P w) P w K mg base ["self", "sign"] "Sign.__init__" (defScope s_Sign_init) f cdv A outer s H E) rfl rfl rfl rfl
  refine ⟨_, pss_cons (ps_expr (pe_callS GC (hr.mono (by decide)) rfl mC kC bC (fun σ => L2N.passAt tk σ) (pa_cons (pv 1) pa_nil)))
    (pss_one (ps_fld (pv 0) (pe_make M GI hr rfl FO.m bI .nil pass0 (pa_cons pe_str (pa_cons (pe_tup (pa_cons (pv 1) pa_nil)) (pa_cons (pe_tup pa_nil) pa_nil)))) rfl)), ?_⟩
  rcases h with ⟨x, rfl, few, e, q⟩ | ⟨bad, t⟩
  · refine ⟨_, rfl, _, rfl, .inl ⟨x, rfl, Nat.le_trans few (by decide), e, fun H1 s1 => ?_⟩⟩
    refine ⟨_, rfl, (by show 1 ≤ sizeLine; decide), fun pt hpt => ⟨(by show 0 ≤ sizeLine; decide), fun pi hpi => fun y dy hy hdy ne => ?_⟩⟩
    have s2 := (s1.trans (same_new hpt (.tup [V.str x]))).trans (same_new hpi (.tup []))
    have g := born (C := CF) hy hdy ne
    refine ⟨y, dy, "sign", pt, pi, [V.str x], [], _, rfl, upd_same, g _ _ (upd_other upd_same hpi), g _ _ upd_same, (fun e he => nomatch he), by decide, .inl ⟨rfl, x, rfl, few, rfl⟩, fun H3 pl ls b h1 h2 h3 h4 => ⟨rfl, ?_⟩⟩
    have s3 := grown hy hdy ne b
    have s4 := s2.trans s3
    refine ⟨_, rfl, a, C, dx, [], rfl, s4 _ _ ha, (OW C hC).cls, (OW C hC).no, (by show 0 < 1000; decide), ?_⟩
    obtain ⟨r1, r2⟩ := finish (a := a) hC (s4 _ _ ha) h1 (s3 _ _ (upd_other upd_same hpi)) (s3 _ _ upd_same) h2
    have en : ls = [] := by
      rw [show namesOf "sign" [V.str x] [] = [] from by unfold namesOf; rw [if_neg (by decide +kernel)]; rfl] at h3
      exact List.perm_nil.mp h3
    subst en
    exact q _ (r2 H s4) r1
  · refine ⟨_, rfl, _, rfl, .inr ⟨?_, t⟩⟩
    rcases bad with ⟨x, rfl, few, e⟩ | n
    · exact .inl ⟨x, rfl, Nat.le_trans few (by decide), e⟩
    · exact .inr n
end
end Wp

namespace Wp
open PySem PySem.Spec PyProof.Rows L2 Hx
def IsExp (K : PySem.W.Frag) (CE : Addr) (H : Hp) (v : V) : Prop := ∃ t, TyX K H v t ∧ PySem.W.kitOne K t (.ref CE) = some true
def NotExp (K : PySem.W.Frag) (CE : Addr) (H : Hp) (v : V) : Prop := ∃ t, TyX K H v t ∧ PySem.W.kitOne K t (.ref CE) = some false
def spCheckAll (K : PySem.W.Frag) (CE Ce : Addr) : Sp := fun vs H Q E => ∃ (p : Addr) (xs : List V), vs = [.ref p] ∧ H p = some (.tup xs) ∧ (((∀ x ∈ xs, IsExp K CE H x) ∧ Q .non H) ∨
  ∃ (j : Nat) (x : V), xs[j]? = some x ∧ (∀ (i : Nat) (y : V), i < j → xs[i]? = some y → IsExp K CE H y) ∧ NotExp K CE H x ∧ Tells E Ce x H)
section
variable {P : Program} {w : World} {K : PySem.W.Frag} {mg : Str → Option Value} {base : Heap} {f fC CF CE Ce : Addr} {fd fdC : FuncData} {cls : Addr → Prop}
theorem scName2 : FnScope ["self", "name"] ["self", "name"] (defScope s_Name_init) := ⟨rfl, rfl, rfl, by decide +kernel, rfl, by decide +kernel, by decide +kernel⟩
theorem ok_nameE (F : Fun K "__init__" "Name.__init__" s_Name_init f fd) (FO : FactsOk P w K mg base CF cls) (OW : ∀ C, cls C → Own K C)
    (GC : FnOk P w K mg base (L2N.CX P w) 3 fC fdC ["given"] (spCheck K nameB Ce)) (bC : Binds K fdC ["given"] []) (kC : PySem.W.keepIn K (.ref fC) = true) (mC : mg "check_name" = some (.ref fC)) :
    FnOk P w K mg base (L2N.CX P w) 7 f fd ["self", "name"] (spLeaf K CF cls nameB Ce "name" (fun x => x) fun x => [x]) := by
  refine F.okN scName2 (fun vs H Q E h => ?_) (fun cdv A outer s H vs Q E hr h => ?_)
  · obtain ⟨a, dx, C, v, rfl, _⟩ := h
    rfl
  obtain ⟨a, dx, C, v, rfl, hC, ha, h⟩ := h
  obtain ⟨fI, fdI, M, GI, bI⟩ := FO.go
  have tk := L2N.takes_of (X := cxOf (L2N.CX P w) P w K mg base ["self", "name"] "Name.__init__" (defScope s_Name_init) f cdv A outer s H E) rfl rfl rfl rfl
  refine ⟨_, pss_cons (ps_expr (pe_callS GC (hr.mono (by decide)) rfl mC kC bC (fun σ => L2N.passAt tk σ) (pa_cons (pv 1) pa_nil)))
    (pss_one (ps_fld (pv 0) (pe_make M GI hr rfl FO.m bI .nil pass0 (pa_cons pe_str (pa_cons (pe_tup (pa_cons (pv 1) pa_nil)) (pa_cons (pe_tup pa_nil) pa_nil)))) rfl)), ?_⟩
  rcases h with ⟨x, rfl, few, e, q⟩ | ⟨bad, t⟩
  · refine ⟨_, rfl, _, rfl, .inl ⟨x, rfl, Nat.le_trans few (by decide), e, fun H1 s1 => ?_⟩⟩
    refine ⟨_, rfl, (by show 1 ≤ sizeLine; decide), fun pt hpt => ⟨(by show 0 ≤ sizeLine; decide), fun pi hpi => fun y dy hy hdy ne => ?_⟩⟩
    have s2 := (s1.trans (same_new hpt (.tup [V.str x]))).trans (same_new hpi (.tup []))
    have g := born (C := CF) hy hdy ne
    refine ⟨y, dy, "name", pt, pi, [V.str x], [], _, rfl, upd_same, g _ _ (upd_other upd_same hpi), g _ _ upd_same, (fun e he => nomatch he), by decide, .inr (.inl ⟨rfl, x, rfl, rfl⟩), fun H3 pl ls b h1 h2 h3 h4 => ⟨rfl, ?_⟩⟩
    have s3 := grown hy hdy ne b
    have s4 := s2.trans s3
    refine ⟨_, rfl, a, C, dx, [], rfl, s4 _ _ ha, (OW C hC).cls, (OW C hC).no, (by show 0 < 1000; decide), ?_⟩
    obtain ⟨r1, r2⟩ := finish (a := a) hC (s4 _ _ ha) h1 (s3 _ _ (upd_other upd_same hpi)) (s3 _ _ upd_same) h2
    have en : ls = [x] := by
      rw [show namesOf "name" [V.str x] [] = [x] from by unfold namesOf; rw [if_pos rfl]; rfl] at h3
      exact List.perm_singleton.mp h3
    subst en
    exact q _ (r2 H s4) r1
  · refine ⟨_, rfl, _, rfl, .inr ⟨?_, t⟩⟩
    rcases bad with ⟨x, rfl, few, e⟩ | n
    · exact .inl ⟨x, rfl, Nat.le_trans few (by decide), e⟩
    · exact .inr n
theorem scCkE : FnScope ["values", "value"] ["values"] (defScope s_check_expressions) := ⟨rfl, rfl, rfl, by decide +kernel, rfl, by decide +kernel, by decide +kernel⟩
theorem ok_ckE (F : Fun K "check_expressions" "check_expressions" s_check_expressions f fd) (Z : Bltn mg) (M : MkC P w K mg base "InvalidExpression" Ce "given") (ty : PySem.W.typeIn K (.ref Ce) = some (.type "type")) (mE : mg "Expression" = some (.ref CE)) :
    FnOk P w K mg base (L2N.CX P w) 3 f fd ["values"] (spCheckAll K CE Ce) := by
  refine F.okN scCkE (fun vs H Q E h => ?_) (fun cdv A outer s H vs Q E hr h => ?_)
  · obtain ⟨p, xs, rfl, _⟩ := h
    rfl
  obtain ⟨p, xs, rfl, hp, h⟩ := h
  refine ⟨_, pss_one (ps_for (passes_of rfl) rfl (pi_tup (pv 0)) (pg_name (i := 1) scCkE.nd rfl (Or.inl rfl))
    (pss_one (ps_if (pt_not (pt_val (pe_callB call_isi (by rfl) Z.isinstance PyProof.Rows.boot_isinstance (pa_cons (pv 1) (pa_cons (pe_gref rfl mE) pa_nil))))) (pss_one (ps_raise1N M ty rfl (L2N.takes_of rfl rfl rfl rfl) hr rfl (pv 1))) pss_nil))), ?_⟩
  have hS : SqT K H p xs := SqT.of hp
  rcases h with ⟨all, q⟩ | ⟨j, x, hj, bef, bad, t⟩
  · refine ⟨_, rfl, p, rfl, ⟨_, hS⟩, for_tup (xs := xs) (fun i σ H' => H = H' ∧ ∃ v, σ = [some (V.ref p), v]) ⟨rfl, none, rfl⟩ (fun i σ H' _ h => h.1 ▸ hS) ?_ ?_⟩
    · rintro i x σ H' hx ⟨rfl, v, rfl⟩
      obtain ⟨ty', t1, t2⟩ := all x (List.mem_of_getElem? hx)
      exact ⟨_, rfl, _, _, ty', _, true, rfl, .own CE, t1, t2, _, rfl, iteF ⟨rfl, _, rfl⟩⟩
    · rintro σ H' ⟨rfl, v, rfl⟩
      exact q
  · obtain ⟨tb, b1, b2⟩ := bad
    refine ⟨_, rfl, p, rfl, ⟨_, hS⟩, for_tup (xs := xs) (fun i σ H' => H = H' ∧ i ≤ j ∧ ∃ v, σ = [some (V.ref p), v]) ⟨rfl, Nat.zero_le _, none, rfl⟩ (fun i σ H' _ h => h.1 ▸ hS) ?_ ?_⟩
    · rintro i y σ H' hy ⟨rfl, hi, v, rfl⟩
      by_cases c : i = j
      · subst c
        rw [hj] at hy
        cases hy
        exact ⟨_, rfl, _, _, tb, _, false, rfl, .own CE, b1, b2, _, rfl, iteT ⟨_, rfl, fun d hd => t H d (Same.refl H) hd⟩⟩
      · obtain ⟨ty', t1, t2⟩ := bef i y (by omega) hy
        exact ⟨_, rfl, _, _, ty', _, true, rfl, .own CE, t1, t2, _, rfl, iteF ⟨rfl, by omega, _, rfl⟩⟩
    · rintro σ H' ⟨_, hi, _⟩
      have lt := (List.getElem?_eq_some_iff.mp hj).1
      exact absurd lt (by omega)
end
end Wp

namespace Wp
open PySem PySem.Spec PyProof.Rows L2 Hx
/-- the text of an expression of a word -/
def spell (kind : Str) (ys : List Str) : Str := (((Str.empty ++ kind) ++ "(") ++ Str.join ", " ys) ++ ")"
/-- an inner expression that may be passed -/
structure Arg (CF : Addr) (cls : Addr → Prop) (H : Hp) (e : Told) : Prop where
  stands : e.stands CF cls H
  few : e.labels.length ≤ 200
  short : e.text.length ≤ 20000
theorem Arg.same {CF : Addr} {cls : Addr → Prop} {H H' : Hp} {e : Told} (h : Arg CF cls H e) (s : Same H H') : Arg CF cls H' e := ⟨XpAt.same h.stands s, h.few, h.short⟩
/-- a new expression of inner ones stands at a -/
def Made (CF : Addr) (cls : Addr → Prop) (H : Hp) (a C : Addr) (kind text : Str) (told : List V) (es : List Told) (Q : VK) : Prop :=
  ∀ H' ls, But a H H' → XpAt CF cls H' a C kind text told (es.map fun e => .ref e.at_) ls (1 + (es.map (·.size)).sum) → ls.Perm ((namesOf kind told es).foldl Hs.put []) → sortedS ls = true → Q .non H'
def IsX (K : PySem.W.Frag) (CE : Addr) (cls : Addr → Prop) : Prop := ∀ (H : Hp) (C a dx : Addr) (fs : List (Str × V)), cls C → H a = some (.ins C dx fs) → IsExp K CE H (.ref a)
theorem Arg.isx {K : PySem.W.Frag} {CE CF : Addr} {cls : Addr → Prop} {H : Hp} {e : Told} (h : Arg CF cls H e) (ix : IsX K CE cls) : IsExp K CE H (.ref e.at_) := by
  obtain ⟨dx, fa, dfa, pm, pi, pl, hc, e1, _⟩ := h.stands
  exact ix H _ _ dx _ hc e1
theorem IsExp.same {K : PySem.W.Frag} {CE CF : Addr} {cls : Addr → Prop} {H H' : Hp} {e : Told} (h : Arg CF cls H e) (ix : IsX K CE cls) (s : Same H H') : IsExp K CE H' (.ref e.at_) := (h.same s).isx ix
theorem TyX.same {K : PySem.W.Frag} {H H' : Hp} {v : V} {t : Value} (h : TyX K H v t) (s : Same H H') : TyX K H' v t := by
  cases h with
  | base h =>
    refine .base ?_
    cases h with
    | non => exact .non
    | bl x => exact .bl x
    | int i => exact .int i
    | str x => exact .str x
    | flt x => exact .flt x
    | lst e => exact .lst (s _ _ e)
    | frz e => exact .frz (s _ _ e)
    | tup e => exact .tup (s _ _ e)
    | dK e => exact .dK (s _ _ e)
    | dT e => exact .dT (s _ _ e)
    | ins e c1 c2 c3 c4 c5 => exact .ins (s _ _ e) c1 c2 c3 c4 c5
  | byt b => exact .byt b
  | set e => exact .set (s _ _ e)
  | kList e c => exact .kList e c
  | kTuple e c => exact .kTuple e c
  | kDict e c => exact .kDict e c
  | fTuple e => exact .fTuple (s _ _ e)
  | fDict e => exact .fDict (s _ _ e)
theorem NotExp.same {K : PySem.W.Frag} {CE : Addr} {H H' : Hp} {v : V} (h : NotExp K CE H v) (s : Same H H') : NotExp K CE H' v := by
  obtain ⟨t, h1, h2⟩ := h
  exact ⟨t, TyX.same h1 s, h2⟩
theorem Tells.same {E : XK} {C : Addr} {v : V} {H H' : Hp} (t : Tells E C v H) (s : Same H H') : Tells E C v H' := fun H2 d s2 hd => t H2 d (s.trans s2) hd
theorem fig_len {i : Int} (h0 : 0 ≤ i) (h1 : i ≤ 9) : (toString i : Str).length ≤ 10 := by
  have : i = 0 ∨ i = 1 ∨ i = 2 ∨ i = 3 ∨ i = 4 ∨ i = 5 ∨ i = 6 ∨ i = 7 ∨ i = 8 ∨ i = 9 := by omega
  rcases this with rfl | rfl | rfl | rfl | rfl | rfl | rfl | rfl | rfl | rfl <;> decide +kernel
/-- Turn(word, inner) -/
def spTurn (K : PySem.W.Frag) (CF CE Cw Ce : Addr) (cls : Addr → Prop) : Sp := fun vs H Q E => ∃ (a dx C : Addr) (v u : V), vs = [.ref a, v, u] ∧ cls C ∧ H a = some (.ins C dx []) ∧
  ((∃ (x : Str) (e : Told), v = .str x ∧ x.length ≤ 1000 ∧ lettered 4 x = true ∧ u = .ref e.at_ ∧ Arg CF cls H e ∧ Made CF cls H a C "turn" (spell "turn" [x, e.text]) [v] [e] Q) ∨
    (((∃ x : Str, v = .str x ∧ x.length ≤ 1000 ∧ lettered 4 x = false) ∨ NotStr K H v) ∧ Tells E Cw v H) ∨
    ((∃ x : Str, v = .str x ∧ x.length ≤ 1000 ∧ lettered 4 x = true) ∧ NotExp K CE H u ∧ Tells E Ce u H))
section
variable {P : Program} {w : World} {K : PySem.W.Frag} {mg : Str → Option Value} {base : Heap} {f fC fX CF CE Ce Cw : Addr} {fd fdC fdX : FuncData} {cls : Addr → Prop}
theorem scTurn : FnScope ["self", "word", "inner"] ["self", "word", "inner"] (defScope s_Turn_init) := ⟨rfl, rfl, rfl, by decide +kernel, rfl, by decide +kernel, by decide +kernel⟩
theorem ok_turn (F : Fun K "__init__" "Turn.__init__" s_Turn_init f fd) (FO : FactsOk P w K mg base CF cls) (OW : ∀ C, cls C → Own K C) (ix : IsX K CE cls)
    (GC : FnOk P w K mg base (L2N.CX P w) 3 fC fdC ["given"] (spCheck K (lettered 4) Cw)) (bC : Binds K fdC ["given"] []) (kC : PySem.W.keepIn K (.ref fC) = true) (mC : mg "check_word" = some (.ref fC))
    (GX : FnOk P w K mg base (L2N.CX P w) 3 fX fdX ["values"] (spCheckAll K CE Ce)) (bX : Binds K fdX ["values"] []) (kX : PySem.W.keepIn K (.ref fX) = true) (mX : mg "check_expressions" = some (.ref fX)) :
    FnOk P w K mg base (L2N.CX P w) 7 f fd ["self", "word", "inner"] (spTurn K CF CE Cw Ce cls) := by
  refine F.okN scTurn (fun vs H Q E h => ?_) (fun cdv A outer s H vs Q E hr h => ?_)
  · obtain ⟨a, dx, C, v, u, rfl, _⟩ := h
    rfl
  obtain ⟨a, dx, C, v, u, rfl, hC, ha, h⟩ := h
  obtain ⟨fI, fdI, M, GI, bI⟩ := FO.go
  have tk := L2N.takes_of (X := cxOf (L2N.CX P w) P w K mg base ["self", "word", "inner"] "Turn.__init__" (defScope s_Turn_init) f cdv A outer s H E) rfl rfl rfl rfl
  refine ⟨_, pss_cons (ps_expr (pe_callS GC (hr.mono (by decide)) rfl mC kC bC (fun σ => L2N.passAt tk σ) (pa_cons (pv 1) pa_nil)))
    (pss_cons (ps_expr (pe_callS GX (hr.mono (by decide)) rfl mX kX bX (fun σ => L2N.passAt tk σ) (pa_cons (pe_tup (pa_cons (pv 2) pa_nil)) pa_nil)))
    (pss_one (ps_fld (pv 0) (pe_make M GI hr rfl FO.m bI .nil pass0 (pa_cons pe_str (pa_cons (pe_tup (pa_cons (pv 1) pa_nil)) (pa_cons (pe_tup (pa_cons (pv 2) pa_nil)) pa_nil)))) rfl))), ?_⟩
  rcases h with ⟨x, e, rfl, few, ex, rfl, ar, q⟩ | ⟨bad, t⟩ | ⟨⟨x, rfl, few, ex⟩, ne, t⟩
  · refine ⟨_, rfl, _, rfl, .inl ⟨x, rfl, Nat.le_trans few (by decide), ex, fun H1 s1 => ?_⟩⟩
    refine ⟨_, rfl, (by show 1 ≤ sizeLine; decide), fun pq hpq => ⟨pq, [.ref e.at_], rfl, upd_same, .inl ⟨fun y hy => ?_, ?_⟩⟩⟩
    · cases List.mem_singleton.mp hy
      exact IsExp.same ar ix (s1.trans (same_new hpq _))
    have s1' := s1.trans (same_new hpq (.tup [V.ref e.at_]))
    refine ⟨_, rfl, (by show 1 ≤ sizeLine; decide), fun pt hpt => ⟨_, rfl, (by show 1 ≤ sizeLine; decide), fun pi hpi => fun y dy hy hdy ne => ?_⟩⟩
    have s2 := (s1'.trans (same_new hpt (.tup [V.str x]))).trans (same_new hpi (.tup [V.ref e.at_]))
    have g := born (C := CF) hy hdy ne
    have ar2 := ar.same (s2.trans g)
    refine ⟨y, dy, "turn", pt, pi, [V.str x], [e], spell "turn" [x, e.text], rfl, upd_same, g _ _ (upd_other upd_same hpi), g _ _ upd_same, (fun e' he => ?_), (by show 1 ≤ 4; decide), .inr (.inr ⟨by decide +kernel, by decide +kernel, by decide +kernel, [x, e.text], ?_, (by show 2 ≤ 100; decide), ?_, rfl⟩), fun H3 pl ls b h1 h2 h3 h4 => ⟨rfl, ?_⟩⟩
    · cases List.mem_singleton.mp he
      exact ⟨ar2.stands, ar2.few⟩
    · exact .cons (.str x) (.cons (.exp ar2.stands) .nil)
    · have := ar.short
      simp only [List.map_cons, List.map_nil, List.sum_cons, List.sum_nil]
      omega
    have s3 := grown hy hdy ne b
    have s4 := s2.trans s3
    refine ⟨_, rfl, a, C, dx, [], rfl, s4 _ _ ha, (OW C hC).cls, (OW C hC).no, (by show 0 < 1000; decide), ?_⟩
    obtain ⟨r1, r2⟩ := finish (a := a) hC (s4 _ _ ha) h1 (s3 _ _ (upd_other upd_same hpi)) (s3 _ _ upd_same) h2
    exact q _ ls (r2 H s4) r1 h3 h4
  · refine ⟨_, rfl, _, rfl, .inr ⟨?_, t⟩⟩
    rcases bad with ⟨x, rfl, few, e⟩ | n
    · exact .inl ⟨x, rfl, Nat.le_trans few (by decide), e⟩
    · exact .inr n
  · refine ⟨_, rfl, _, rfl, .inl ⟨x, rfl, Nat.le_trans few (by decide), ex, fun H1 s1 => ?_⟩⟩
    refine ⟨_, rfl, (by show 1 ≤ sizeLine; decide), fun pq hpq => ⟨pq, [u], rfl, upd_same, .inr ⟨0, u, rfl, fun i y hi => by omega, ?_, ?_⟩⟩⟩
    · exact NotExp.same ne (s1.trans (same_new hpq _))
    · exact Tells.same t (s1.trans (same_new hpq _))
/-- Drop(many, inner) -/
theorem scDrop : FnScope ["self", "many", "inner"] ["self", "many", "inner"] (defScope s_Drop_init) := ⟨rfl, rfl, rfl, by decide +kernel, rfl, by decide +kernel, by decide +kernel⟩
def spDrop (K : PySem.W.Frag) (CF CE Cn Ce : Addr) (cls : Addr → Prop) : Sp := fun vs H Q E => ∃ (a dx C : Addr) (v u : V), vs = [.ref a, v, u] ∧ cls C ∧ H a = some (.ins C dx []) ∧
  ((∃ (i : Int) (e : Told), v = .int i ∧ 1 ≤ i ∧ i ≤ 9 ∧ u = .ref e.at_ ∧ Arg CF cls H e ∧ Made CF cls H a C "drop" (spell "drop" [toString i, e.text]) [v] [e] Q) ∨
    (((∃ i : Int, v = .int i ∧ ¬ (1 ≤ i ∧ i ≤ 9)) ∨ NotInt K H v) ∧ Tells E Cn v H) ∨
    ((∃ i : Int, v = .int i ∧ 1 ≤ i ∧ i ≤ 9) ∧ NotExp K CE H u ∧ Tells E Ce u H))
theorem ok_drop (F : Fun K "__init__" "Drop.__init__" s_Drop_init f fd) (FO : FactsOk P w K mg base CF cls) (OW : ∀ C, cls C → Own K C) (ix : IsX K CE cls) (CO : Consts mg K)
    (GC : FnOk P w K mg base (L2N.CX P w) 3 fC fdC ["given", "least", "most"] (spCheckWithin K Cw)) (bC : Binds K fdC ["given", "least", "most"] []) (kC : PySem.W.keepIn K (.ref fC) = true) (mC : mg "check_within" = some (.ref fC))
    (GX : FnOk P w K mg base (L2N.CX P w) 3 fX fdX ["values"] (spCheckAll K CE Ce)) (bX : Binds K fdX ["values"] []) (kX : PySem.W.keepIn K (.ref fX) = true) (mX : mg "check_expressions" = some (.ref fX)) :
    FnOk P w K mg base (L2N.CX P w) 7 f fd ["self", "many", "inner"] (spDrop K CF CE Cw Ce cls) := by
  refine F.okN scDrop (fun vs H Q E h => ?_) (fun cdv A outer s H vs Q E hr h => ?_)
  · obtain ⟨a, dx, C, v, u, rfl, _⟩ := h
    rfl
  obtain ⟨a, dx, C, v, u, rfl, hC, ha, h⟩ := h
  obtain ⟨fI, fdI, M, GI, bI⟩ := FO.go
  obtain ⟨td, md⟩ := CO.drop
  have tk := L2N.takes_of (X := cxOf (L2N.CX P w) P w K mg base ["self", "many", "inner"] "Drop.__init__" (defScope s_Drop_init) f cdv A outer s H E) rfl rfl rfl rfl
  refine ⟨_, pss_cons (ps_expr (pe_callS GC (hr.mono (by decide)) rfl mC kC bC (fun σ => L2N.passAt tk σ) (pa_cons (pv 1) (pa_cons pe_int (pa_cons (pe_gint rfl md) pa_nil)))))
    (pss_cons (ps_expr (pe_callS GX (hr.mono (by decide)) rfl mX kX bX (fun σ => L2N.passAt tk σ) (pa_cons (pe_tup (pa_cons (pv 2) pa_nil)) pa_nil)))
    (pss_one (ps_fld (pv 0) (pe_make M GI hr rfl FO.m bI .nil pass0 (pa_cons pe_str (pa_cons (pe_tup (pa_cons (pv 1) pa_nil)) (pa_cons (pe_tup (pa_cons (pv 2) pa_nil)) pa_nil)))) rfl))), ?_⟩
  rcases h with ⟨i, e, rfl, i1, i9, rfl, ar, q⟩ | ⟨bad, t⟩ | ⟨⟨i, rfl, i1, i9⟩, ne, t⟩
  · refine ⟨_, rfl, _, 1, 9, rfl, .inl ⟨i, rfl, i1, i9, ?_⟩⟩
    refine ⟨_, rfl, (by show 1 ≤ sizeLine; decide), fun pq hpq => ⟨pq, [.ref e.at_], rfl, upd_same, .inl ⟨fun y hy => ?_, ?_⟩⟩⟩
    · cases List.mem_singleton.mp hy
      exact IsExp.same ar ix (same_new hpq _)
    have s1' := same_new hpq (.tup [V.ref e.at_])
    refine ⟨_, rfl, (by show 1 ≤ sizeLine; decide), fun pt hpt => ⟨_, rfl, (by show 1 ≤ sizeLine; decide), fun pi hpi => fun y dy hy hdy ne => ?_⟩⟩
    have s2 := (s1'.trans (same_new hpt (.tup [V.int i]))).trans (same_new hpi (.tup [V.ref e.at_]))
    have g := born (C := CF) hy hdy ne
    have ar2 := ar.same (s2.trans g)
    have il : (toString i : Str).length ≤ 10 := fig_len (by omega) (by omega)
    refine ⟨y, dy, "drop", pt, pi, [V.int i], [e], spell "drop" [toString i, e.text], rfl, upd_same, g _ _ (upd_other upd_same hpi), g _ _ upd_same, (fun e' he => ?_), (by show 1 ≤ 4; decide), .inr (.inr ⟨by decide +kernel, by decide +kernel, by decide +kernel, [toString i, e.text], ?_, (by show 2 ≤ 100; decide), ?_, rfl⟩), fun H3 pl ls b h1 h2 h3 h4 => ⟨rfl, ?_⟩⟩
    · cases List.mem_singleton.mp he
      exact ⟨ar2.stands, ar2.few⟩
    · exact .cons (.int i ⟨by omega, by omega⟩) (.cons (.exp ar2.stands) .nil)
    · have := ar.short
      simp only [List.map_cons, List.map_nil, List.sum_cons, List.sum_nil]
      omega
    have s3 := grown hy hdy ne b
    have s4 := s2.trans s3
    refine ⟨_, rfl, a, C, dx, [], rfl, s4 _ _ ha, (OW C hC).cls, (OW C hC).no, (by show 0 < 1000; decide), ?_⟩
    obtain ⟨r1, r2⟩ := finish (a := a) hC (s4 _ _ ha) h1 (s3 _ _ (upd_other upd_same hpi)) (s3 _ _ upd_same) h2
    exact q _ ls (r2 H s4) r1 h3 h4
  · exact ⟨_, rfl, _, 1, 9, rfl, .inr ⟨bad, t⟩⟩
  · refine ⟨_, rfl, _, 1, 9, rfl, .inl ⟨i, rfl, i1, i9, ?_⟩⟩
    refine ⟨_, rfl, (by show 1 ≤ sizeLine; decide), fun pq hpq => ⟨pq, [u], rfl, upd_same, .inr ⟨0, u, rfl, fun i y hi => by omega, ?_, ?_⟩⟩⟩
    · exact NotExp.same ne (same_new hpq _)
    · exact Tells.same t (same_new hpq _)
/-- Lead(first, rest) -/
theorem scLead : FnScope ["self", "first", "rest"] ["self", "first", "rest"] (defScope s_Lead_init) := ⟨rfl, rfl, rfl, by decide +kernel, rfl, by decide +kernel, by decide +kernel⟩
def spLead (K : PySem.W.Frag) (CF CE Ce : Addr) (cls : Addr → Prop) : Sp := fun vs H Q E => ∃ (a dx C : Addr) (v u : V), vs = [.ref a, v, u] ∧ cls C ∧ H a = some (.ins C dx []) ∧
  ((∃ (e e2 : Told), v = .ref e.at_ ∧ u = .ref e2.at_ ∧ Arg CF cls H e ∧ Arg CF cls H e2 ∧ Made CF cls H a C "lead" (spell "lead" [e.text, e2.text]) [] [e, e2] Q) ∨
    (NotExp K CE H v ∧ Tells E Ce v H) ∨ (IsExp K CE H v ∧ NotExp K CE H u ∧ Tells E Ce u H))
theorem IsExp.keep {H H' : Hp} {v : V} (h : IsExp K CE H v) (s : Same H H') : IsExp K CE H' v := by
  obtain ⟨t, h1, h2⟩ := h
  exact ⟨t, TyX.same h1 s, h2⟩
theorem ok_lead (F : Fun K "__init__" "Lead.__init__" s_Lead_init f fd) (FO : FactsOk P w K mg base CF cls) (OW : ∀ C, cls C → Own K C) (ix : IsX K CE cls)
    (GX : FnOk P w K mg base (L2N.CX P w) 3 fX fdX ["values"] (spCheckAll K CE Ce)) (bX : Binds K fdX ["values"] []) (kX : PySem.W.keepIn K (.ref fX) = true) (mX : mg "check_expressions" = some (.ref fX)) :
    FnOk P w K mg base (L2N.CX P w) 7 f fd ["self", "first", "rest"] (spLead K CF CE Ce cls) := by
  refine F.okN scLead (fun vs H Q E h => ?_) (fun cdv A outer s H vs Q E hr h => ?_)
  · obtain ⟨a, dx, C, v, u, rfl, _⟩ := h
    rfl
  obtain ⟨a, dx, C, v, u, rfl, hC, ha, h⟩ := h
  obtain ⟨fI, fdI, M, GI, bI⟩ := FO.go
  have tk := L2N.takes_of (X := cxOf (L2N.CX P w) P w K mg base ["self", "first", "rest"] "Lead.__init__" (defScope s_Lead_init) f cdv A outer s H E) rfl rfl rfl rfl
  refine ⟨_, pss_cons (ps_expr (pe_callS GX (hr.mono (by decide)) rfl mX kX bX (fun σ => L2N.passAt tk σ) (pa_cons (pe_tup (pa_cons (pv 1) (pa_cons (pv 2) pa_nil))) pa_nil)))
    (pss_one (ps_fld (pv 0) (pe_make M GI hr rfl FO.m bI .nil pass0 (pa_cons pe_str (pa_cons (pe_tup pa_nil) (pa_cons (pe_tup (pa_cons (pv 1) (pa_cons (pv 2) pa_nil))) pa_nil)))) rfl)), ?_⟩
  rcases h with ⟨e, e2, rfl, rfl, ar, br, q⟩ | ⟨ne, t⟩ | ⟨ie, ne, t⟩
  · refine ⟨_, rfl, _, rfl, (by show 2 ≤ sizeLine; decide), fun pq hpq => ⟨pq, [.ref e.at_, .ref e2.at_], rfl, upd_same, .inl ⟨fun y hy => ?_, ?_⟩⟩⟩
    · rcases List.mem_cons.mp hy with rfl | hy
      · exact IsExp.same ar ix (same_new hpq _)
      · cases List.mem_singleton.mp hy
        exact IsExp.same br ix (same_new hpq _)
    have s1' := same_new hpq (.tup [V.ref e.at_, .ref e2.at_])
    refine ⟨(by show 0 ≤ sizeLine; decide), fun pt hpt => ⟨_, rfl, _, rfl, (by show 2 ≤ sizeLine; decide), fun pi hpi => fun y dy hy hdy ne => ?_⟩⟩
    have s2 := (s1'.trans (same_new hpt (.tup []))).trans (same_new hpi (.tup [V.ref e.at_, .ref e2.at_]))
    have g := born (C := CF) hy hdy ne
    have ar2 := ar.same (s2.trans g)
    have br2 := br.same (s2.trans g)
    refine ⟨y, dy, "lead", pt, pi, [], [e, e2], spell "lead" [e.text, e2.text], rfl, upd_same, g _ _ (upd_other upd_same hpi), g _ _ upd_same, (fun e' he => ?_), (by show 2 ≤ 4; decide), .inr (.inr ⟨by decide +kernel, by decide +kernel, by decide +kernel, [e.text, e2.text], ?_, (by show 2 ≤ 100; decide), ?_, rfl⟩), fun H3 pl ls b h1 h2 h3 h4 => ⟨rfl, ?_⟩⟩
    · rcases List.mem_cons.mp he with rfl | he
      · exact ⟨ar2.stands, ar2.few⟩
      · cases List.mem_singleton.mp he
        exact ⟨br2.stands, br2.few⟩
    · exact .cons (.exp ar2.stands) (.cons (.exp br2.stands) .nil)
    · have := ar.short
      have := br.short
      simp only [List.map_cons, List.map_nil, List.sum_cons, List.sum_nil]
      omega
    have s3 := grown hy hdy ne b
    have s4 := s2.trans s3
    refine ⟨_, rfl, a, C, dx, [], rfl, s4 _ _ ha, (OW C hC).cls, (OW C hC).no, (by show 0 < 1000; decide), ?_⟩
    obtain ⟨r1, r2⟩ := finish (a := a) hC (s4 _ _ ha) h1 (s3 _ _ (upd_other upd_same hpi)) (s3 _ _ upd_same) h2
    exact q _ ls (r2 H s4) r1 h3 h4
  · refine ⟨_, rfl, _, rfl, (by show 2 ≤ sizeLine; decide), fun pq hpq => ⟨pq, [v, u], rfl, upd_same, .inr ⟨0, v, rfl, fun i y hi => by omega, ?_, ?_⟩⟩⟩
    · exact NotExp.same ne (same_new hpq _)
    · exact Tells.same t (same_new hpq _)
  · refine ⟨_, rfl, _, rfl, (by show 2 ≤ sizeLine; decide), fun pq hpq => ⟨pq, [v, u], rfl, upd_same, .inr ⟨1, u, rfl, fun i y hi hy => ?_, ?_, ?_⟩⟩⟩
    · obtain rfl : i = 0 := by omega
      cases hy
      exact IsExp.keep ie (same_new hpq _)
    · exact NotExp.same ne (same_new hpq _)
    · exact Tells.same t (same_new hpq _)
end
end Wp

namespace Wp
open PySem PySem.Spec PyProof.Rows L2 Hx
/-- the least base beside a lane -/
def lo (i : Int) : Int := if i + 1 > 2 then i + 1 else 2
def spPart (K : PySem.W.Frag) (CF CE Cn Ce : Addr) (cls : Addr → Prop) : Sp := fun vs H Q E => ∃ (a dx C : Addr) (v b u : V), vs = [.ref a, v, b, u] ∧ cls C ∧ H a = some (.ins C dx []) ∧
  ((∃ (i k : Int) (e : Told), v = .int i ∧ 0 ≤ i ∧ i ≤ 3 ∧ b = .int k ∧ lo i ≤ k ∧ k ≤ 4 ∧ u = .ref e.at_ ∧ Arg CF cls H e ∧ Made CF cls H a C "part" (spell "part" [toString i, toString k, e.text]) [v, b] [e] Q) ∨
    (((∃ i : Int, v = .int i ∧ ¬ (0 ≤ i ∧ i ≤ 3)) ∨ NotInt K H v) ∧ Tells E Cn v H) ∨
    (∃ i : Int, v = .int i ∧ 0 ≤ i ∧ i ≤ 3 ∧ ((∃ k : Int, b = .int k ∧ ¬ (lo i ≤ k ∧ k ≤ 4)) ∨ NotInt K H b) ∧ Tells E Cn b H) ∨
    (∃ i k : Int, v = .int i ∧ 0 ≤ i ∧ i ≤ 3 ∧ b = .int k ∧ lo i ≤ k ∧ k ≤ 4 ∧ NotExp K CE H u ∧ Tells E Ce u H))
section
variable {P : Program} {w : World} {K : PySem.W.Frag} {mg : Str → Option Value} {base : Heap} {f fC fX CF CE Ce Cw : Addr} {fd fdC fdX : FuncData} {cls : Addr → Prop}
theorem scPart : FnScope ["self", "at", "base", "inner"] ["self", "at", "base", "inner"] (defScope s_Part_init) := ⟨rfl, rfl, rfl, by decide +kernel, rfl, by decide +kernel, by decide +kernel⟩
theorem ok_part (F : Fun K "__init__" "Part.__init__" s_Part_init f fd) (FO : FactsOk P w K mg base CF cls) (OW : ∀ C, cls C → Own K C) (ix : IsX K CE cls) (CO : Consts mg K) (zm : mg "max" = none)
    (GC : FnOk P w K mg base (L2N.CX P w) 3 fC fdC ["given", "least", "most"] (spCheckWithin K Cw)) (bC : Binds K fdC ["given", "least", "most"] []) (kC : PySem.W.keepIn K (.ref fC) = true) (mC : mg "check_within" = some (.ref fC))
    (GX : FnOk P w K mg base (L2N.CX P w) 3 fX fdX ["values"] (spCheckAll K CE Ce)) (bX : Binds K fdX ["values"] []) (kX : PySem.W.keepIn K (.ref fX) = true) (mX : mg "check_expressions" = some (.ref fX)) :
    FnOk P w K mg base (L2N.CX P w) 7 f fd ["self", "at", "base", "inner"] (spPart K CF CE Cw Ce cls) := by
  refine F.okN scPart (fun vs H Q E h => ?_) (fun cdv A outer s H vs Q E hr h => ?_)
  · obtain ⟨a, dx, C, v, b, u, rfl, _⟩ := h
    rfl
  obtain ⟨a, dx, C, v, b, u, rfl, hC, ha, h⟩ := h
  obtain ⟨fI, fdI, M, GI, bI⟩ := FO.go
  obtain ⟨tb, mb⟩ := CO.base
  obtain ⟨tl, ml⟩ := CO.least
  have tk := L2N.takes_of (X := cxOf (L2N.CX P w) P w K mg base ["self", "at", "base", "inner"] "Part.__init__" (defScope s_Part_init) f cdv A outer s H E) rfl rfl rfl rfl
  refine ⟨_, pss_cons (ps_expr (pe_callS GC (hr.mono (by decide)) rfl mC kC bC (fun σ => L2N.passAt tk σ) (pa_cons (pv 1) (pa_cons pe_int (pa_cons (pe_op op_sub (pe_gint rfl mb) pe_int) pa_nil)))))
    (pss_cons (ps_expr (pe_callS GC (hr.mono (by decide)) rfl mC kC bC (fun σ => L2N.passAt tk σ) (pa_cons (pv 2) (pa_cons (pe_callB (call_max2 rfl) (by rfl) zm PyProof.Rows.boot_max (pa_cons (pe_gint rfl ml) (pa_cons (pe_op op_add (pv 1) pe_int) pa_nil))) (pa_cons (pe_gint rfl mb) pa_nil)))))
    (pss_cons (ps_expr (pe_callS GX (hr.mono (by decide)) rfl mX kX bX (fun σ => L2N.passAt tk σ) (pa_cons (pe_tup (pa_cons (pv 3) pa_nil)) pa_nil)))
    (pss_one (ps_fld (pv 0) (pe_make M GI hr rfl FO.m bI .nil pass0 (pa_cons pe_str (pa_cons (pe_tup (pa_cons (pv 1) (pa_cons (pv 2) pa_nil))) (pa_cons (pe_tup (pa_cons (pv 3) pa_nil)) pa_nil)))) rfl)))), ?_⟩
  rcases h with ⟨i, k, e, rfl, i0, i3, rfl, k0, k4, rfl, ar, q⟩ | ⟨bad, t⟩ | ⟨i, rfl, i0, i3, bad, t⟩ | ⟨i, k, rfl, i0, i3, rfl, k0, k4, ne, t⟩
  · refine ⟨_, rfl, _, _, rfl, rfl, _, 0, 3, rfl, .inl ⟨i, rfl, i0, i3, ?_⟩⟩
    refine ⟨_, rfl, _, rfl, _, _, rfl, rfl, _, _, rfl, _, lo i, 4, rfl, .inl ⟨k, rfl, k0, k4, ?_⟩⟩
    refine ⟨_, rfl, (by show 1 ≤ sizeLine; decide), fun pq hpq => ⟨pq, [.ref e.at_], rfl, upd_same, .inl ⟨fun y hy => ?_, ?_⟩⟩⟩
    · cases List.mem_singleton.mp hy
      exact IsExp.same ar ix (same_new hpq _)
    have s1' := same_new hpq (.tup [V.ref e.at_])
    refine ⟨_, rfl, _, rfl, (by show 2 ≤ sizeLine; decide), fun pt hpt => ⟨_, rfl, (by show 1 ≤ sizeLine; decide), fun pi hpi => fun y dy hy hdy ne => ?_⟩⟩
    have s2 := (s1'.trans (same_new hpt (.tup [V.int i, .int k]))).trans (same_new hpi (.tup [V.ref e.at_]))
    have g := born (C := CF) hy hdy ne
    have ar2 := ar.same (s2.trans g)
    have k00 : 0 ≤ k := by
      unfold lo at k0
      split at k0 <;> omega
    have il : (toString i : Str).length ≤ 10 := fig_len (by omega) (by omega)
    have kl : (toString k : Str).length ≤ 10 := fig_len (by omega) (by omega)
    refine ⟨y, dy, "part", pt, pi, [V.int i, .int k], [e], spell "part" [toString i, toString k, e.text], rfl, upd_same, g _ _ (upd_other upd_same hpi), g _ _ upd_same, (fun e' he => ?_), (by show 1 ≤ 4; decide), .inr (.inr ⟨by decide +kernel, by decide +kernel, by decide +kernel, [toString i, toString k, e.text], ?_, (by show 3 ≤ 100; decide), ?_, rfl⟩), fun H3 pl ls b h1 h2 h3 h4 => ⟨rfl, ?_⟩⟩
    · cases List.mem_singleton.mp he
      exact ⟨ar2.stands, ar2.few⟩
    · exact .cons (.int i ⟨by omega, by omega⟩) (.cons (.int k ⟨by omega, by omega⟩) (.cons (.exp ar2.stands) .nil))
    · have := ar.short
      simp only [List.map_cons, List.map_nil, List.sum_cons, List.sum_nil]
      omega
    have s3 := grown hy hdy ne b
    have s4 := s2.trans s3
    refine ⟨_, rfl, a, C, dx, [], rfl, s4 _ _ ha, (OW C hC).cls, (OW C hC).no, (by show 0 < 1000; decide), ?_⟩
    obtain ⟨r1, r2⟩ := finish (a := a) hC (s4 _ _ ha) h1 (s3 _ _ (upd_other upd_same hpi)) (s3 _ _ upd_same) h2
    exact q _ ls (r2 H s4) r1 h3 h4
  · exact ⟨_, rfl, _, _, rfl, rfl, _, 0, 3, rfl, .inr ⟨bad, t⟩⟩
  · refine ⟨_, rfl, _, _, rfl, rfl, _, 0, 3, rfl, .inl ⟨i, rfl, i0, i3, ?_⟩⟩
    exact ⟨_, rfl, _, rfl, _, _, rfl, rfl, _, _, rfl, _, lo i, 4, rfl, .inr ⟨bad, t⟩⟩
  · refine ⟨_, rfl, _, _, rfl, rfl, _, 0, 3, rfl, .inl ⟨i, rfl, i0, i3, ?_⟩⟩
    refine ⟨_, rfl, _, rfl, _, _, rfl, rfl, _, _, rfl, _, lo i, 4, rfl, .inl ⟨k, rfl, k0, k4, ?_⟩⟩
    refine ⟨_, rfl, (by show 1 ≤ sizeLine; decide), fun pq hpq => ⟨pq, [u], rfl, upd_same, .inr ⟨0, u, rfl, fun i y hi => by omega, ?_, ?_⟩⟩⟩
    · exact NotExp.same ne (same_new hpq _)
    · exact Tells.same t (same_new hpq _)
end
end Wp

namespace Wp
open PySem PySem.Spec PyProof.Rows L2 Hx
/-- Weave(..), the inner ones in a tuple -/
def spWeaveB (K : PySem.W.Frag) (CF CE Cn Ce : Addr) (cls : Addr → Prop) : Sp := fun vs H Q E => ∃ (a dx C pi : Addr) (us : List V), vs = [.ref a, .ref pi] ∧ cls C ∧ H a = some (.ins C dx []) ∧ H pi = some (.tup us) ∧
  ((∃ es : List Told, us = es.map (fun e => V.ref e.at_) ∧ 2 ≤ es.length ∧ es.length ≤ 4 ∧ (∀ e ∈ es, Arg CF cls H e) ∧ Made CF cls H a C "weave" (spell "weave" (es.map (·.text))) [] es Q) ∨
    (¬ (2 ≤ us.length ∧ us.length ≤ 4) ∧ Tells E Cn (.int (us.length : Nat)) H) ∨
    (2 ≤ us.length ∧ us.length ≤ 4 ∧ ∃ (j : Nat) (x : V), us[j]? = some x ∧ (∀ (i : Nat) (y : V), i < j → us[i]? = some y → IsExp K CE H y) ∧ NotExp K CE H x ∧ Tells E Ce x H))
def spWeave (K : PySem.W.Frag) (CF CE Cn Ce : Addr) (cls : Addr → Prop) : Sp := fun vs H Q E => ∃ ws rest : List V, vs = ws ++ rest ∧ ws.length = 1 ∧ rest.length ≤ sizeLine ∧ ∀ p, H p = none → spWeaveB K CF CE Cn Ce cls (ws ++ [V.ref p]) (upd H p (.tup rest)) Q E
theorem sum_short {es : List Told} : ∀ {n : Nat}, (∀ e ∈ es, e.text.length ≤ n) → ((es.map (·.text)).map (·.length)).sum ≤ es.length * n := by
  intro n h
  induction es with
  | nil => exact Nat.zero_le _
  | cons e es ih =>
    have h1 := h e List.mem_cons_self
    have h2 := ih fun x hx => h x (List.mem_cons_of_mem _ hx)
    simp only [List.map_cons, List.sum_cons, List.length_cons, Nat.succ_mul]
    omega
section
variable {P : Program} {w : World} {K : PySem.W.Frag} {mg : Str → Option Value} {base : Heap} {f fC fX CF CE Ce Cw : Addr} {fd fdC fdX : FuncData} {cls : Addr → Prop}
theorem exps_pair {H : Hp} : ∀ {es : List Told}, (∀ e ∈ es, Arg CF cls H e) → Paired (TxAt CF cls H) (es.map fun e => V.ref e.at_) (es.map (·.text))
  | [], _ => .nil
  | e :: es, h => .cons (.exp (h e List.mem_cons_self).stands) (exps_pair fun x hx => h x (List.mem_cons_of_mem _ hx))
theorem scWeave : FnScope ["self", "inner"] ((["self"] : List Str) ++ [("inner" : Str)]) (defScope s_Weave_init) := ⟨rfl, rfl, rfl, by decide +kernel, rfl, by decide +kernel, by decide +kernel⟩
theorem ok_weave (F : Fun K "__init__" "Weave.__init__" s_Weave_init f fd) (FO : FactsOk P w K mg base CF cls) (OW : ∀ C, cls C → Own K C) (ix : IsX K CE cls) (CO : Consts mg K) (Z : Bltn mg)
    (GC : FnOk P w K mg base (L2N.CX P w) 3 fC fdC ["given", "least", "most"] (spCheckWithin K Cw)) (bC : Binds K fdC ["given", "least", "most"] []) (kC : PySem.W.keepIn K (.ref fC) = true) (mC : mg "check_within" = some (.ref fC))
    (GX : FnOk P w K mg base (L2N.CX P w) 3 fX fdX ["values"] (spCheckAll K CE Ce)) (bX : Binds K fdX ["values"] []) (kX : PySem.W.keepIn K (.ref fX) = true) (mX : mg "check_expressions" = some (.ref fX)) :
    FnR P w K mg base (L2N.CX P w) 7 f (spWeave K CF CE Cw Ce cls) := by
  obtain ⟨oc, od, kV, doc, pm, an, cdv, ct, osl, rfl, lk, hcd⟩ := F.ex
  refine StX.fn_star (ps := ["self"]) (pv := "inner") (sp := spWeaveB K CF CE Cw Ce cls) lk hcd scWeave cxUpN (StX.bind_star1 (B := fun us => bindArgs (PySem.W.fnOf "__init__" "Weave.__init__" (defArgs s_Weave_init) (defBody s_Weave_init) (defScope s_Weave_init) .none kV doc pm an cdv ct) ⟨us, []⟩) (fun a => rfl) fun a r rs => rfl) fun A outer s H vs Q E hr h => ?_
  obtain ⟨a, dx, C, pi, us, rfl, hC, ha, hpi, h⟩ := h
  obtain ⟨fI, fdI, M, GI, bI⟩ := FO.go
  obtain ⟨tb, mb⟩ := CO.base
  obtain ⟨tl, ml⟩ := CO.least
  have tk := L2N.takes_of (X := cxOf (L2N.CX P w) P w K mg base ["self", "inner"] "Weave.__init__" (defScope s_Weave_init) f cdv A outer s H E) rfl rfl rfl rfl
  refine ⟨_, pss_cons (ps_expr (pe_callS GC (hr.mono (by decide)) rfl mC kC bC (fun σ => L2N.passAt tk σ) (pa_cons (pe_callB call_len_seq (by rfl) Z.len PySem.boot_len (pa_cons (pv 1) pa_nil)) (pa_cons (pe_gint rfl ml) (pa_cons (pe_gint rfl mb) pa_nil)))))
    (pss_cons (ps_expr (pe_callS GX (hr.mono (by decide)) rfl mX kX bX (fun σ => L2N.passAt tk σ) (pa_cons (pv 1) pa_nil)))
    (pss_one (ps_fld (pv 0) (pe_make M GI hr rfl FO.m bI .nil pass0 (pa_cons pe_str (pa_cons (pe_tup pa_nil) (pa_cons (pv 1) pa_nil)))) rfl))), ?_⟩
  have hS : SqT K H pi us := SqT.of hpi
  rcases h with ⟨es, rfl, e2, e4, ar, q⟩ | ⟨bad, t⟩ | ⟨l2, l4, j, x, hj, bef, ne, t⟩
  · have ll : (es.map fun e => V.ref e.at_).length = es.length := List.length_map _
    refine ⟨_, rfl, pi, _, rfl, .inr hS, _, 2, 4, rfl, .inl ⟨_, rfl, by rw [ll]; omega, by rw [ll]; omega, ?_⟩⟩
    refine ⟨_, rfl, pi, _, rfl, hpi, .inl ⟨fun y hy => ?_, ?_⟩⟩
    · obtain ⟨e, he, rfl⟩ := List.mem_map.mp hy
      exact (ar e he).isx ix
    refine ⟨(by show 0 ≤ sizeLine; decide), fun pt hpt => ⟨_, rfl, fun y dy hy hdy ne => ?_⟩⟩
    have s2 := same_new hpt (.tup [])
    have g := born (C := CF) hy hdy ne
    have ar2 : ∀ e ∈ es, Arg CF cls _ e := fun e he => (ar e he).same (s2.trans g)
    refine ⟨y, dy, "weave", pt, pi, [], es, spell "weave" (es.map (·.text)), rfl, upd_same, g _ _ upd_same, g _ _ (s2 _ _ hpi), (fun e he => ⟨(ar2 e he).stands, (ar2 e he).few⟩), by omega, .inr (.inr ⟨by decide +kernel, by decide +kernel, by decide +kernel, es.map (fun (x : Told) => x.text), exps_pair ar2, ?_, ?_, rfl⟩), fun H3 pl ls b h1 h2 h3 h4 => ⟨rfl, ?_⟩⟩
    · rw [List.length_map]
      omega
    · have := sum_short (es := es) (n := 20000) fun e he => (ar e he).short
      have : es.length * 20000 ≤ 4 * 20000 := Nat.mul_le_mul_right _ e4
      omega
    have s3 := grown hy hdy ne b
    have s4 := s2.trans s3
    refine ⟨_, rfl, a, C, dx, [], rfl, s4 _ _ ha, (OW C hC).cls, (OW C hC).no, (by show 0 < 1000; decide), ?_⟩
    obtain ⟨r1, r2⟩ := finish (a := a) hC (s4 _ _ ha) h1 (s3 _ _ upd_same) (s3 _ _ (s2 _ _ hpi)) h2
    exact q _ ls (r2 H s4) r1 h3 h4
  · exact ⟨_, rfl, pi, _, rfl, .inr hS, _, 2, 4, rfl, .inr ⟨.inl ⟨_, rfl, fun z => bad ⟨by omega, by omega⟩⟩, t⟩⟩
  · refine ⟨_, rfl, pi, _, rfl, .inr hS, _, 2, 4, rfl, .inl ⟨_, rfl, by omega, by omega, ?_⟩⟩
    exact ⟨_, rfl, pi, _, rfl, hpi, .inr ⟨j, x, hj, bef, ne, t⟩⟩
end
end Wp

namespace Wp
open PySem PySem.Spec PyProof.Rows L2 Hx

/-- a deck: a list of three ints at d, the first two not negative -/
def DeckAt (H : Hp) (d : Addr) : Prop := ∃ a m c : Int, 0 ≤ a ∧ 0 ≤ m ∧ H d = some (.lst [.int a, .int m, .int c])
def spDeck (K : PySem.W.Frag) : Sp := fun vs H Q _ => ∃ (a : Addr) (ns : List Int) (t : Nat), vs = [.ref a, .int t] ∧
  SqL K H a (ns.map V.int) ∧ ns.length ≤ 63 ∧ ∀ p H', Same H H' → H p = none → DeckAt H' p → Q (.ref p) H'
section
variable {P : Program} {w : World} {K : PySem.W.Frag} {mg : Str → Option Value} {base : Heap}
theorem scDeck : FnScope ["_law_cells", "_law_turn", "_law_cell", "_law_mixed", "_law_each"] ["_law_cells", "_law_turn"] (defScope s_law_deck) :=
  ⟨rfl, rfl, rfl, by decide +kernel, rfl, by decide +kernel, by decide +kernel⟩
theorem ok_deck {f : Addr} {fd : FuncData} (F : Fun K "_law_deck" "_law_deck" s_law_deck f fd) (ml : mg "len" = none) (mi : mg "int" = none)
    (ma : mg "abs" = none) : FnOk P w K mg base CX0 1 f fd ["_law_cells", "_law_turn"] (spDeck K) := by
  refine F.ok scDeck (fun vs H Q E h => ?_) (fun cdv A outer s H vs Q E hr h => ?_)
  · obtain ⟨a, ns, t, rfl, _⟩ := h
    rfl
  obtain ⟨a, ns, t, rfl, hS, h63, q⟩ := h
  refine ⟨_, pss_cons (ps_set (i := 2) scDeck.nd rfl (Or.inl rfl)
      (pe_ifExp (pt_cmpR op_lt (pv 1) (pe_callB call_len_seq (by rfl) ml PySem.boot_len (pa_cons (pv 0) pa_nil)) (nomark _))
        (pe_ix ix_list (pv 0) (pv 1) (fun _ _ => rfl)) (pe_op op_add (pe_op op_mul pe_int (pv 1)) pe_int)))
    (pss_cons (ps_set (i := 3) scDeck.nd rfl (Or.inl rfl) (pe_op op_add pe_int (pe_op op_mul pe_int (pv 1))))
    (pss_cons (ps_for PassesOwn.never rfl (pi_list (pe_op op_cat (pe_slice sl_list (pv 0) po_none (po_some pe_int)) (pe_lst (pa_cons (pv 2) pa_nil))))
        (pg_name (i := 4) scDeck.nd rfl (Or.inl rfl))
        (pss_one (ps_set (i := 3) scDeck.nd rfl (Or.inl rfl)
          (pe_op op_mod (pe_callTy call_int1 (by rfl) mi PyProof.Rows.boot_int (pa_cons (pe_op op_add (pe_op op_mul (pv 3) pe_int) (pv 4)) pa_nil)) pe_int))))
    (pss_one (ps_ret (pe_lst (pa_cons
        (pe_ifExp (PW.pt (pw_or (pt_cmpR op_lt (pv 2) pe_int (nomark _)) (pw_or1 (pt_cmpR op_ge (pv 2) (pe_op op_pow pe_int pe_int) (nomark _)))))
          (pe_callB call_abs (by rfl) ma PyProof.Rows.boot_abs (pa_cons (pv 2) pa_nil)) pe_int)
        (pa_cons (pv 3) (pa_cons pe_int pa_nil)))))))), ?_⟩
  have hl : (ns.map V.int).length = ns.length := List.length_map _
  refine asg_join (fun v H' => H = H' ∧ ∃ c : Int, v = .int c) (fun Q' hQ => ?_) ?_
  · refine ⟨_, rfl, _, rfl, a, _, rfl, .inl hS, _, _, rfl, rfl, _, rfl, ?_⟩
    refine ite2 (fun c => ?_) (fun c => ?_)
    · have c' : (t : Int) < (((ns.map V.int).length : Nat) : Int) := of_decide_eq_true c
      have hlt : t < ns.length := by rw [hl] at c'; omega
      refine ⟨_, rfl, _, rfl, a, _, _, _, rfl, rfl, hS, atI_nat (j := t) (v := V.int ns[t]) ?_, hQ _ _ ⟨rfl, _, rfl⟩⟩
      rw [List.getElem?_map, List.getElem?_eq_getElem hlt]
      rfl
    · exact ⟨_, rfl, _, _, rfl, rfl, .inl ⟨by decide, by decide⟩, _, _, rfl, rfl, hQ _ _ ⟨rfl, _, rfl⟩⟩
  rintro _ _ ⟨rfl, c, rfl⟩
  refine ⟨_, rfl, _, _, rfl, rfl, .inl ⟨by decide, by decide⟩, _, _, rfl, rfl, ?_⟩
  refine ⟨_, rfl, _, rfl, a, _, rfl, hS, fun l hl0 => ?_⟩
  refine ⟨_, rfl, (by show 1 ≤ sizeLine; decide), fun l2 hl2 => ?_⟩
  have hcut := cutV_length (ns.map V.int) none (some 4)
  have allInt : ∀ x ∈ cutV (ns.map V.int) none (some 4) ++ [V.int c], ∃ i, x = V.int i := by
    intro x hx
    rcases List.mem_append.mp hx with hx | hx
    · have hx2 : x ∈ ns.map V.int := List.mem_of_mem_drop (List.mem_of_mem_take hx)
      obtain ⟨i, _, rfl⟩ := List.mem_map.mp hx2
      exact ⟨i, rfl⟩
    · exact ⟨c, by simpa using hx⟩
  refine ⟨l, l2, _, _, rfl, rfl, upd_other upd_same hl2, upd_same, small_line ?_, fun l3 hl3 => ?_⟩
  · rw [List.length_singleton]
    omega
  have s3 : Same H (upd (upd (upd H l (.lst (cutV (ns.map V.int) none (some 4)))) l2 (.lst [V.int c])) l3 (.lst (cutV (ns.map V.int) none (some 4) ++ [V.int c]))) :=
    ((same_new hl0 _).trans (same_new hl2 _)).trans (same_new hl3 _)
  refine ⟨l3, rfl, ⟨_, SqL.of upd_same⟩, for_list (K := K) (a := l3) (xs := cutV (ns.map V.int) none (some 4) ++ [V.int c])
    (fun _ σ H' => Same H H' ∧ H' l3 = some (.lst (cutV (ns.map V.int) none (some 4) ++ [V.int c])) ∧
      ∃ (m : Int) (v : Option V), 0 ≤ m ∧ σ = [some (.ref a), some (.int t), some (.int c), some (.int m), v])
    ⟨s3, upd_same, _, none, ?_, rfl⟩ (fun _ _ _ _ h => SqL.of h.2.1) ?_ ?_⟩
  · omega
  · rintro i x σ H' hx ⟨s4, h4, m, v, hm, rfl⟩
    obtain ⟨n, rfl⟩ := allInt x (List.mem_of_getElem? hx)
    refine ⟨_, rfl, _, _, rfl, rfl, .inr ⟨by decide, by decide⟩, _, rfl, _, _, rfl, rfl, .inl ⟨_, rfl, ?_⟩⟩
    exact ⟨_, _, rfl, rfl, (by decide : (0 : Int) < 2147483629), s4, h4, _, some (.int n), Int.emod_nonneg _ (by decide), rfl⟩
  · rintro σ H' ⟨s4, h4, m, v, hm, rfl⟩
    dsimp only
    refine ret_lst_join (fun v H2 => H' = H2 ∧ ∃ b : Int, 0 ≤ b ∧ v = .int b) (fun Q' hQ => ?_) ?_
    · refine ⟨_, rfl, _, _, rfl, rfl, _, rfl, ?_⟩
      refine ite2 (fun c0 => ?_) (fun c0 => ?_)
      · refine iteT ⟨_, rfl, _, rfl, hQ _ _ ⟨rfl, _, ?_, rfl⟩⟩
        split <;> omega
      · refine ⟨_, rfl, _, _, rfl, rfl, ⟨by decide, by decide, by decide⟩, _, _, rfl, rfl, _, rfl, ?_⟩
        refine ite2 (fun c1 => ?_) (fun c1 => ?_)
        · refine ⟨_, rfl, _, rfl, hQ _ _ ⟨rfl, _, ?_, rfl⟩⟩
          split <;> omega
        · exact hQ _ _ ⟨rfl, 0, Int.le_refl 0, rfl⟩
    rintro _ _ ⟨rfl, b, hb, rfl⟩
    refine ⟨_, rfl, (by show 3 ≤ sizeLine; decide), fun p hp => ?_⟩
    exact q p _ (s4.trans (same_new hp _)) (s4.free hp) ⟨b, m, 0, hb, hm, upd_same⟩
def spCard : Sp := fun vs H Q _ => ∃ (d : Addr) (t : Int), vs = [.ref d, .int t] ∧ 0 < t ∧ t < 1073741824 ∧ DeckAt H d ∧
  ∀ r H', 0 ≤ r → r < t → But d H H' → DeckAt H' d → Q (.int r) H'
theorem scCard : FnScope ["_law_deck_here", "_law_top", "_law_figure"] ["_law_deck_here", "_law_top"] (defScope s_law_card) :=
  ⟨rfl, rfl, rfl, by decide +kernel, rfl, by decide +kernel, by decide +kernel⟩
theorem ok_card {f : Addr} {fd : FuncData} (F : Fun K "_law_card" "_law_card" s_law_card f fd) (mi : mg "int" = none) (md : mg "divmod" = none) :
    FnOk P w K mg base CX0 1 f fd ["_law_deck_here", "_law_top"] spCard := by
  refine F.ok scCard (fun vs H Q E h => ?_) (fun cdv A outer s H vs Q E hr h => ?_)
  · obtain ⟨d, t, rfl, _⟩ := h
    rfl
  obtain ⟨d, t, rfl, t0, t1, ⟨a, m, c, a0, m0, hd⟩, q⟩ := h
  refine ⟨_, pss_cons (ps_asg (pe_op op_add (pe_ix ix_list (pv 0) pe_int (fun _ _ => rfl)) pe_int) (pg_sub (pv 0) pe_int set_list))
    (pss_cons (ps_if (pt_cmpR op_gt (pe_ix ix_list (pv 0) pe_int (fun _ _ => rfl)) pe_int (nomark _))
      (pss_cons (ps_asg (pe_callB call_divmod (by rfl) md PyProof.Rows.boot_divmod (pa_cons (pe_ix ix_list (pv 0) pe_int (fun _ _ => rfl)) (pa_cons (pv 1) pa_nil)))
          (pg_tup (by rfl) (pgs_cons (pg_sub (pv 0) pe_int set_list) (pgs_cons (pg_name (i := 2) scCard.nd rfl (Or.inl rfl)) pgs_nil))))
        (pss_one (ps_ret (pv 2)))) pss_nil)
    (pss_cons (ps_asg (pe_op op_mod (pe_callTy call_int1 (by rfl) mi PyProof.Rows.boot_int (pa_cons
        (pe_op op_add (pe_op op_mul (pe_ix ix_list (pv 0) pe_int (fun _ _ => rfl)) pe_int) (pe_op op_mul pe_int (pe_ix ix_list (pv 0) pe_int (fun _ _ => rfl)))) pa_nil)) pe_int)
        (pg_sub (pv 0) pe_int set_list))
    (pss_one (ps_ret (pe_op op_mod (pe_callTy call_int1 (by rfl) mi PyProof.Rows.boot_int (pa_cons
        (pe_op op_fdiv (pe_ix ix_list (pv 0) pe_int (fun _ _ => rfl)) pe_int) pa_nil)) (pv 1)))))), ?_⟩
  refine ⟨_, rfl, d, _, _, _, rfl, rfl, SqL.of hd, rfl, _, _, rfl, rfl, _, rfl, d, _, _, _, rfl, rfl, hd, rfl, ?_⟩
  refine ⟨_, rfl, d, _, _, _, rfl, rfl, SqL.of upd_same, rfl, _, _, rfl, rfl, _, rfl, ?_⟩
  refine ite2 (fun c0 => ?_) (fun c0 => ?_)
  · refine ⟨_, rfl, d, _, _, _, rfl, rfl, SqL.of upd_same, rfl, _, rfl, _, _, rfl, ⟨t0, t1⟩, fun p hp => ?_⟩
    have npd : d ≠ p := ne_of_none upd_same hp
    refine ⟨p, _, rfl, SqT.of upd_same, rfl, _, _, rfl, ?_⟩
    refine ⟨_, rfl, d, _, _, _, rfl, rfl, by rw [upd_ne npd]; exact upd_same, rfl, ?_⟩
    refine ⟨_, _, rfl, rfl, _, rfl, ?_⟩
    refine q _ _ (Int.emod_nonneg _ (by omega)) (Int.emod_lt_of_pos _ t0) (((But.refl.upd _).new hp _).upd _) ⟨_, _, _, ?_, m0, upd_same⟩
    exact Int.ediv_nonneg a0 (by omega)
  · refine ⟨_, rfl, d, _, _, _, rfl, rfl, SqL.of upd_same, rfl, _, _, rfl, rfl, .inr ⟨by decide, by decide⟩, ?_⟩
    refine ⟨_, rfl, d, _, _, _, rfl, rfl, SqL.of upd_same, rfl, _, _, rfl, rfl, .inl ⟨by decide, by decide⟩, _, _, rfl, rfl, .inl ⟨_, rfl, ?_⟩⟩
    refine ⟨_, _, rfl, rfl, (by decide : (0 : Int) < 2147483629), ?_⟩
    refine ⟨_, rfl, d, _, _, _, rfl, rfl, upd_same, rfl, ?_⟩
    refine ⟨_, rfl, d, _, _, _, rfl, rfl, SqL.of upd_same, rfl, _, _, rfl, rfl, ⟨by decide, by decide⟩, .inl ⟨_, rfl, ?_⟩⟩
    refine ⟨_, rfl, _, _, rfl, rfl, t0, ?_⟩
    refine q _ _ (Int.emod_nonneg _ (by omega)) (Int.emod_lt_of_pos _ t0) ((But.refl.upd _).upd _) ⟨_, _, _, a0, Int.emod_nonneg _ (by decide), upd_same⟩
/-- _law_of, over a list -/
def spOf (K : PySem.W.Frag) : Sp := fun vs H Q _ => ∃ (d l : Addr) (xs : List V), vs = [.ref d, .ref l] ∧ d ≠ l ∧ SqL K H l xs ∧ 0 < xs.length ∧ xs.length ≤ 1000 ∧ DeckAt H d ∧
  ∀ v H', v ∈ xs → But d H H' → DeckAt H' d → Q v H'
theorem scOf : FnScope ["_law_deck_here", "_law_menu"] ["_law_deck_here", "_law_menu"] (defScope s_law_of) :=
  ⟨rfl, rfl, rfl, by decide +kernel, rfl, by decide +kernel, by decide +kernel⟩
theorem ok_of {f fC : Addr} {fd fdC : FuncData} (F : Fun K "_law_of" "_law_of" s_law_of f fd)
    (GC : FnOk P w K mg base CX0 1 fC fdC ["_law_deck_here", "_law_top"] spCard) (bC : Binds K fdC ["_law_deck_here", "_law_top"] [])
    (kC : PySem.W.keepIn K (.ref fC) = true) (mC : mg "_law_card" = some (.ref fC)) (ml : mg "len" = none) :
    FnOk P w K mg base CX0 2 f fd ["_law_deck_here", "_law_menu"] (spOf K) := by
  refine F.ok scOf (fun vs H Q E h => ?_) (fun cdv A outer s H vs Q E hr h => ?_)
  · obtain ⟨d, l, xs, rfl, _⟩ := h
    rfl
  obtain ⟨d, l, xs, rfl, ndl, hl, l0, l1, hd, q⟩ := h
  refine ⟨_, pss_one (ps_ret (pe_ix ix_list (pv 1) (pe_call GC hr rfl mC kC bC .nil pass0 (pa_cons (pv 0) (pa_cons
    (pe_callB call_len_seq (by rfl) ml PySem.boot_len (pa_cons (pv 1) pa_nil)) pa_nil))) (fun _ _ => rfl))), ?_⟩
  refine ⟨_, rfl, _, rfl, _, rfl, l, _, rfl, .inl hl, d, _, rfl, by omega, by omega, hd, fun r H' r0 r1 b hd' => ?_⟩
  obtain ⟨v, hv, ev⟩ := atI_in r0 r1
  exact ⟨l, _, _, _, rfl, rfl, b.seq (Ne.symm ndl) hl, ev, q v H' hv b hd'⟩
end
end Wp

namespace Wp
open PySem PySem.Spec PyProof.Rows L2 Hx
/-! trees of the law, and the expressions that are made of them -/
inductive Tr where
  | sign (s : Str) | name (n : Str) | weave (l : List Tr) | part (j : Int) (t : Tr) | drop (c : Int) (t : Tr) | lead (t u : Tr) | turn (w : Str) (t : Tr)
def Tr.kids : Tr → List Tr
  | .sign _ => [] | .name _ => [] | .weave l => l | .part _ t => [t] | .drop _ t => [t] | .lead t u => [t, u] | .turn _ t => [t]
def Tr.kind : Tr → Str
  | .sign _ => "sign" | .name _ => "name" | .weave _ => "weave" | .part .. => "part" | .drop .. => "drop" | .lead .. => "lead" | .turn .. => "turn"
def Tr.told (b : Int) : Tr → List V
  | .sign s => [.str s] | .name n => [.str n] | .weave _ => [] | .part j _ => [.int j, .int b] | .drop c _ => [.int c] | .lead .. => [] | .turn w _ => [.str w]
mutual
def Tr.knots : Tr → Nat
  | .sign _ => 1 | .name _ => 1 | .weave l => 1 + Tr.knotsL l | .part _ t => 1 + t.knots | .drop _ t => 1 + t.knots | .lead t u => 1 + (t.knots + u.knots) | .turn _ t => 1 + t.knots
def Tr.knotsL : List Tr → Nat
  | [] => 0 | t :: r => t.knots + Tr.knotsL r
end
mutual
def Tr.names : Tr → List Str
  | .sign _ => [] | .name n => [n] | .weave l => Tr.namesL l | .part _ t => t.names | .drop _ t => t.names | .lead t u => t.names ++ u.names | .turn _ t => t.names
def Tr.namesL : List Tr → List Str
  | [] => [] | t :: r => t.names ++ Tr.namesL r
end
mutual
def Tr.text (b : Int) : Tr → Str
  | .sign s => ((Str.empty ++ "'") ++ s) ++ "'" | .name n => n | .weave l => spell "weave" (Tr.textL b l) | .part j t => spell "part" [toString j, toString b, t.text b]
  | .drop c t => spell "drop" [toString c, t.text b] | .lead t u => spell "lead" [t.text b, u.text b] | .turn w t => spell "turn" [w, t.text b]
def Tr.textL (b : Int) : List Tr → List Str
  | [] => [] | t :: r => t.text b :: Tr.textL b r
end
mutual
/-- a tree that its classes take, over the base b -/
inductive Tr.Ok (b : Int) : Tr → Prop
  | sign {s : Str} : lettered 1 s = true → Tr.Ok b (.sign s)
  | name {n : Str} : nameB n = true → Tr.Ok b (.name n)
  | weave {l : List Tr} : (l.length : Int) = b → Tr.OkL b l → Tr.Ok b (.weave l)
  | part {j : Int} {t : Tr} : 0 ≤ j → j < b → Tr.Ok b t → Tr.Ok b (.part j t)
  | drop {c : Int} {t : Tr} : 1 ≤ c → c ≤ 9 → Tr.Ok b t → Tr.Ok b (.drop c t)
  | lead {t u : Tr} : Tr.Ok b t → Tr.Ok b u → Tr.Ok b (.lead t u)
  | turn {w : Str} {t : Tr} : lettered 4 w = true → Tr.Ok b t → Tr.Ok b (.turn w t)
inductive Tr.OkL (b : Int) : List Tr → Prop
  | nil : Tr.OkL b []
  | cons {t : Tr} {r : List Tr} : Tr.Ok b t → Tr.OkL b r → Tr.OkL b (t :: r)
end
mutual
/-- a tree as it stands: tuples, a list for the parts of a weave -/
inductive TrAt (H : Hp) : V → Tr → Prop
  | sign {p : Addr} {s : Str} : H p = some (.tup [.str "sign", .str s]) → TrAt H (.ref p) (.sign s)
  | name {p : Addr} {n : Str} : H p = some (.tup [.str "name", .str n]) → TrAt H (.ref p) (.name n)
  | weave {p q : Addr} {vs : List V} {l : List Tr} : H p = some (.tup [.str "weave", .ref q]) → H q = some (.lst vs) → TrAll H vs l → TrAt H (.ref p) (.weave l)
  | part {p : Addr} {j : Int} {v : V} {t : Tr} : H p = some (.tup [.str "part", .int j, v]) → TrAt H v t → TrAt H (.ref p) (.part j t)
  | drop {p : Addr} {c : Int} {v : V} {t : Tr} : H p = some (.tup [.str "drop", .int c, v]) → TrAt H v t → TrAt H (.ref p) (.drop c t)
  | lead {p : Addr} {v u : V} {t s : Tr} : H p = some (.tup [.str "lead", v, u]) → TrAt H v t → TrAt H u s → TrAt H (.ref p) (.lead t s)
  | turn {p : Addr} {w : Str} {v : V} {t : Tr} : H p = some (.tup [.str "turn", .str w, v]) → TrAt H v t → TrAt H (.ref p) (.turn w t)
inductive TrAll (H : Hp) : List V → List Tr → Prop
  | nil : TrAll H [] []
  | cons {v : V} {vs : List V} {t : Tr} {r : List Tr} : TrAt H v t → TrAll H vs r → TrAll H (v :: vs) (t :: r)
end
mutual
theorem TrAt.same {H H' : Hp} (s : Same H H') : ∀ (t : Tr) (v : V), TrAt H v t → TrAt H' v t
  | .sign _, _, h => by cases h with | sign e => exact .sign (s _ _ e)
  | .name _, _, h => by cases h with | name e => exact .name (s _ _ e)
  | .weave l, _, h => by cases h with | weave e e2 r => exact .weave (s _ _ e) (s _ _ e2) (TrAll.same s l _ r)
  | .part _ t, _, h => by cases h with | part e r => exact .part (s _ _ e) (TrAt.same s t _ r)
  | .drop _ t, _, h => by cases h with | drop e r => exact .drop (s _ _ e) (TrAt.same s t _ r)
  | .lead t u, _, h => by cases h with | lead e r r2 => exact .lead (s _ _ e) (TrAt.same s t _ r) (TrAt.same s u _ r2)
  | .turn _ t, _, h => by cases h with | turn e r => exact .turn (s _ _ e) (TrAt.same s t _ r)
theorem TrAll.same {H H' : Hp} (s : Same H H') : ∀ (l : List Tr) (vs : List V), TrAll H vs l → TrAll H' vs l
  | [], _, h => by cases h; exact .nil
  | t :: r, _, h => by cases h with | cons a b => exact .cons (TrAt.same s t _ a) (TrAll.same s r _ b)
end
/-- the names of a tree, each one once, in order -/
structure Lab (ns ls : List Str) : Prop where
  once : ls.Nodup
  inOrder : sortedS ls = true
  mem : ∀ x, x ∈ ls ↔ x ∈ ns
/-- the addresses of the seven classes, by kind -/
abbrev KCls := Str → Addr
mutual
/-- at v stands the expression of the tree -/
inductive ExAt (CF : Addr) (kc : KCls) (cls : Addr → Prop) (b : Int) (H : Hp) : V → Tr → Prop
  | mk {a : Addr} {inner : List V} {ls : List Str} (t : Tr) : XpAt CF cls H a (kc t.kind) t.kind (t.text b) (t.told b) inner ls (t.knots : Nat) → Lab t.names ls → ExAll CF kc cls b H inner t.kids → ExAt CF kc cls b H (.ref a) t
inductive ExAll (CF : Addr) (kc : KCls) (cls : Addr → Prop) (b : Int) (H : Hp) : List V → List Tr → Prop
  | nil : ExAll CF kc cls b H [] []
  | cons {v : V} {vs : List V} {t : Tr} {r : List Tr} : ExAt CF kc cls b H v t → ExAll CF kc cls b H vs r → ExAll CF kc cls b H (v :: vs) (t :: r)
end
end Wp

namespace Wp
open PySem PySem.Spec PyProof.Rows L2 Hx
section
variable {CF : Addr} {kc : KCls} {cls : Addr → Prop} {b : Int}
mutual
theorem ExAt.same {H H' : Hp} (s : Same H H') : ∀ (t : Tr) (v : V), ExAt CF kc cls b H v t → ExAt CF kc cls b H' v t
  | .sign x, _, h => by cases h with | mk _ e l r => exact .mk _ (e.same s) l (by cases r; exact .nil)
  | .name x, _, h => by cases h with | mk _ e l r => exact .mk _ (e.same s) l (by cases r; exact .nil)
  | .weave l, _, h => by cases h with | mk _ e lb r => exact .mk _ (e.same s) lb (ExAll.same s l _ r)
  | .part j t, _, h => by cases h with | mk _ e l r => cases r with | cons a n => exact .mk _ (e.same s) l (.cons (ExAt.same s t _ a) (by cases n; exact .nil))
  | .drop j t, _, h => by cases h with | mk _ e l r => cases r with | cons a n => exact .mk _ (e.same s) l (.cons (ExAt.same s t _ a) (by cases n; exact .nil))
  | .lead t u, _, h => by cases h with | mk _ e l r => cases r with | cons a n => cases n with | cons a2 n2 => exact .mk _ (e.same s) l (.cons (ExAt.same s t _ a) (.cons (ExAt.same s u _ a2) (by cases n2; exact .nil)))
  | .turn j t, _, h => by cases h with | mk _ e l r => cases r with | cons a n => exact .mk _ (e.same s) l (.cons (ExAt.same s t _ a) (by cases n; exact .nil))
theorem ExAll.same {H H' : Hp} (s : Same H H') : ∀ (l : List Tr) (vs : List V), ExAll CF kc cls b H vs l → ExAll CF kc cls b H' vs l
  | [], _, h => by cases h; exact .nil
  | t :: r, _, h => by cases h with | cons a q => exact .cons (ExAt.same s t _ a) (ExAll.same s r _ q)
end
end
theorem sub_len : ∀ {xs ys : List Str}, xs.Nodup → (∀ x ∈ xs, x ∈ ys) → xs.length ≤ ys.length
  | [], _, _, _ => Nat.zero_le _
  | x :: xs, ys, n, h => by
    have hx := h x List.mem_cons_self
    have h2 := sub_len (xs := xs) (ys := ys.erase x) (List.nodup_cons.mp n).2 fun y hy => (List.mem_erase_of_ne (fun z => (List.nodup_cons.mp n).1 (by rw [← z]; exact hy))).2 (h y (List.mem_cons_of_mem _ hy))
    rw [List.length_erase_of_mem hx] at h2
    have : 0 < ys.length := List.length_pos_of_mem hx
    rw [List.length_cons]
    omega
mutual
theorem names_len : ∀ t : Tr, t.names.length ≤ t.knots
  | .sign _ => by simp [Tr.names, Tr.knots]
  | .name _ => by simp [Tr.names, Tr.knots]
  | .weave l => by have := namesL_len l; simp only [Tr.names, Tr.knots]; omega
  | .part _ t => by have := names_len t; simp only [Tr.names, Tr.knots]; omega
  | .drop _ t => by have := names_len t; simp only [Tr.names, Tr.knots]; omega
  | .lead t u => by have := names_len t; have := names_len u; simp only [Tr.names, Tr.knots, List.length_append]; omega
  | .turn _ t => by have := names_len t; simp only [Tr.names, Tr.knots]; omega
theorem namesL_len : ∀ l : List Tr, (Tr.namesL l).length ≤ Tr.knotsL l
  | [] => by simp [Tr.namesL, Tr.knotsL]
  | t :: r => by have := names_len t; have := namesL_len r; simp only [Tr.namesL, Tr.knotsL, List.length_append]; omega
end
theorem spell_len (k : Str) (ys : List Str) : (spell k ys).length ≤ k.length + 2 + ((ys.map (·.length)).sum + ys.length * 2) := by
  have z := join_len ", " ys
  have l2 : (", " : Str).length = 2 := by decide +kernel
  rw [l2] at z
  unfold spell
  simp only [PySem.Str.length_append, (by decide +kernel : ("(" : Str).length = 1), (by decide +kernel : (")" : Str).length = 1), (by decide +kernel : Str.empty.length = 0)]
  omega
theorem lettered_len {m : Int} {x : Str} (h : lettered m x = true) : (x.length : Int) ≤ m := by
  unfold lettered at h
  obtain ⟨_, h2⟩ := Bool.and_eq_true_iff.mp h
  exact of_decide_eq_true (Bool.and_eq_true_iff.mp h2).1
theorem nameB_len {x : Str} (h : nameB x = true) : x.length ≤ 8 := by
  have := lettered_len (Bool.and_eq_true_iff.mp h).1
  omega
theorem fig_one {i : Int} (h0 : 0 ≤ i) (h1 : i ≤ 9) : (toString i : Str).length ≤ 1 := by
  have : i = 0 ∨ i = 1 ∨ i = 2 ∨ i = 3 ∨ i = 4 ∨ i = 5 ∨ i = 6 ∨ i = 7 ∨ i = 8 ∨ i = 9 := by omega
  rcases this with rfl | rfl | rfl | rfl | rfl | rfl | rfl | rfl | rfl | rfl <;> decide +kernel
section
variable {b : Int}
mutual
theorem text_len (b0 : 0 ≤ b) (b9 : b ≤ 9) : ∀ t : Tr, t.Ok b → (t.text b).length + 2 ≤ 30 * t.knots
  | .sign s, h => by
    cases h with
    | sign e =>
      have := lettered_len e
      simp only [Tr.text, Tr.knots, PySem.Str.length_append, (by decide +kernel : ("'" : Str).length = 1), (by decide +kernel : Str.empty.length = 0)]
      omega
  | .name n, h => by
    cases h with
    | name e =>
      have := nameB_len e
      simp only [Tr.text, Tr.knots]
      omega
  | .weave l, h => by
    cases h with
    | weave _ e =>
      have z := textL_len b0 b9 l e
      have y := spell_len "weave" (Tr.textL b l)
      rw [(by decide +kernel : ("weave" : Str).length = 5)] at y
      simp only [Tr.text, Tr.knots]
      omega
  | .part j t, h => by
    cases h with
    | part j0 jb e =>
      have z := text_len b0 b9 t e
      have y := spell_len "part" [toString j, toString b, t.text b]
      have y1 : (toString j : Str).length ≤ 1 := fig_one j0 (by omega)
      have y2 : (toString b : Str).length ≤ 1 := fig_one b0 b9
      rw [(by decide +kernel : ("part" : Str).length = 4)] at y
      simp only [List.map_cons, List.map_nil, List.sum_cons, List.sum_nil, List.length_cons, List.length_nil] at y
      simp only [Tr.text, Tr.knots]
      omega
  | .drop c t, h => by
    cases h with
    | drop c1 c9 e =>
      have z := text_len b0 b9 t e
      have y := spell_len "drop" [toString c, t.text b]
      have y1 : (toString c : Str).length ≤ 1 := fig_one (by omega) c9
      rw [(by decide +kernel : ("drop" : Str).length = 4)] at y
      simp only [List.map_cons, List.map_nil, List.sum_cons, List.sum_nil, List.length_cons, List.length_nil] at y
      simp only [Tr.text, Tr.knots]
      omega
  | .lead t u, h => by
    cases h with
    | lead e e2 =>
      have z := text_len b0 b9 t e
      have z2 := text_len b0 b9 u e2
      have y := spell_len "lead" [t.text b, u.text b]
      rw [(by decide +kernel : ("lead" : Str).length = 4)] at y
      simp only [List.map_cons, List.map_nil, List.sum_cons, List.sum_nil, List.length_cons, List.length_nil] at y
      simp only [Tr.text, Tr.knots]
      omega
  | .turn w t, h => by
    cases h with
    | turn ew e =>
      have z := text_len b0 b9 t e
      have y := spell_len "turn" [w, t.text b]
      have := lettered_len ew
      rw [(by decide +kernel : ("turn" : Str).length = 4)] at y
      simp only [List.map_cons, List.map_nil, List.sum_cons, List.sum_nil, List.length_cons, List.length_nil] at y
      simp only [Tr.text, Tr.knots]
      omega
theorem textL_len (b0 : 0 ≤ b) (b9 : b ≤ 9) : ∀ l : List Tr, Tr.OkL b l → ((Tr.textL b l).map (·.length)).sum + (Tr.textL b l).length * 2 ≤ 30 * Tr.knotsL l
  | [], _ => by simp [Tr.textL, Tr.knotsL]
  | t :: r, h => by
    cases h with
    | cons a e =>
      have z := text_len b0 b9 t a
      have z2 := textL_len b0 b9 r e
      simp only [Tr.textL, Tr.knotsL, List.map_cons, List.sum_cons, List.length_cons]
      omega
end
end
/-! names, each one once -/
theorem puts_nodup : ∀ (xs ms : List Str), ms.Nodup → (xs.foldl Hs.put ms).Nodup
  | [], _, h => h
  | x :: xs, ms, h => by
    rw [List.foldl_cons]
    refine puts_nodup xs _ ?_
    unfold Hs.put
    split
    · exact h
    · rename_i n
      exact List.nodup_cons.mpr ⟨n, h⟩
theorem lab_of {ns xs ls : List Str} (p : ls.Perm (xs.foldl Hs.put [])) (s : sortedS ls = true) (h : ∀ x, x ∈ xs ↔ x ∈ ns) : Lab ns ls :=
  ⟨p.nodup_iff.mpr (puts_nodup xs [] .nil), s, fun x => by rw [p.mem_iff, Hs.puts_mem, h]; simp⟩
end Wp

namespace Wp
open PySem PySem.Spec PyProof.Rows L2 Hx
/-- the seven classes, as they are called -/
structure Ctors (P : Program) (w : World) (K : PySem.W.Frag) (mg : Str → Option Value) (base : Heap) (CF CE Cn Cs Cm Cw Ce : Addr) (kc : KCls) (cls : Addr → Prop) : Prop where
  own : ∀ k ∈ (["sign", "name", "weave", "part", "drop", "lead", "turn"] : List Str), cls (kc k)
  sign : mg "Sign" = some (.ref (kc "sign")) ∧ ∃ fI fd, Mk K (kc "sign") fI ∧ FnOk P w K mg base (L2N.CX P w) 7 fI fd ["self", "sign"] (spLeaf K CF cls (lettered 1) Cs "sign" (fun x => ((Str.empty ++ "'") ++ x) ++ "'") fun _ => []) ∧ Binds K fd ["self", "sign"] []
  name : mg "Name" = some (.ref (kc "name")) ∧ ∃ fI fd, Mk K (kc "name") fI ∧ FnOk P w K mg base (L2N.CX P w) 7 fI fd ["self", "name"] (spLeaf K CF cls nameB Cm "name" (fun x => x) fun x => [x]) ∧ Binds K fd ["self", "name"] []
  weave : mg "Weave" = some (.ref (kc "weave")) ∧ ∃ fI, Mk K (kc "weave") fI ∧ FnR P w K mg base (L2N.CX P w) 7 fI (spWeave K CF CE Cn Ce cls)
  part : mg "Part" = some (.ref (kc "part")) ∧ ∃ fI fd, Mk K (kc "part") fI ∧ FnOk P w K mg base (L2N.CX P w) 7 fI fd ["self", "at", "base", "inner"] (spPart K CF CE Cn Ce cls) ∧ Binds K fd ["self", "at", "base", "inner"] []
  drop : mg "Drop" = some (.ref (kc "drop")) ∧ ∃ fI fd, Mk K (kc "drop") fI ∧ FnOk P w K mg base (L2N.CX P w) 7 fI fd ["self", "many", "inner"] (spDrop K CF CE Cn Ce cls) ∧ Binds K fd ["self", "many", "inner"] []
  lead : mg "Lead" = some (.ref (kc "lead")) ∧ ∃ fI fd, Mk K (kc "lead") fI ∧ FnOk P w K mg base (L2N.CX P w) 7 fI fd ["self", "first", "rest"] (spLead K CF CE Ce cls) ∧ Binds K fd ["self", "first", "rest"] []
  turn : mg "Turn" = some (.ref (kc "turn")) ∧ ∃ fI fd, Mk K (kc "turn") fI ∧ FnOk P w K mg base (L2N.CX P w) 7 fI fd ["self", "word", "inner"] (spTurn K CF CE Cw Ce cls) ∧ Binds K fd ["self", "word", "inner"] []
def spMade (CF : Addr) (kc : KCls) (cls : Addr → Prop) (n : Nat) : Sp := fun vs H Q _ => ∃ (tv : V) (b : Int) (t : Tr), vs = [tv, .int b] ∧ TrAt H tv t ∧ t.Ok b ∧ 2 ≤ b ∧ b ≤ 4 ∧ t.knots ≤ n ∧ t.knots ≤ 40 ∧ ∀ v H', Same H H' → ExAt CF kc cls b H' v t → Q v H'
theorem knots_pos : ∀ t : Tr, 1 ≤ t.knots
  | .sign _ => by simp [Tr.knots] | .name _ => by simp [Tr.knots] | .weave l => by simp only [Tr.knots]; omega | .part _ t => by simp only [Tr.knots]; omega | .drop _ t => by simp only [Tr.knots]; omega
  | .lead t u => by simp only [Tr.knots]; omega | .turn _ t => by simp only [Tr.knots]; omega
section
variable {P : Program} {w : World} {K : PySem.W.Frag} {mg : Str → Option Value} {base : Heap} {f CF CE Cn Cs Cm Cw Ce : Addr} {fd : FuncData} {kc : KCls} {cls : Addr → Prop}
/-- what is told of an expression that stands for a tree -/
structure For (CF : Addr) (kc : KCls) (cls : Addr → Prop) (b : Int) (H : Hp) (t : Tr) (e : Told) : Prop where
  arg : Arg CF cls H e
  text : e.text = t.text b
  size : e.size = (t.knots : Nat)
  lab : Lab t.names e.labels
theorem for_of {b : Int} {H : Hp} {v : V} {t : Tr} (h : ExAt CF kc cls b H v t) (ok : t.Ok b) (b0 : 0 ≤ b) (b9 : b ≤ 9) (k : t.knots ≤ 40) : ∃ e : Told, v = .ref e.at_ ∧ For CF kc cls b H t e := by
  cases h with
  | @mk a inner ls _ xp lab all =>
    have l1 := sub_len lab.once fun x hx => (lab.mem x).1 hx
    have l2 := names_len t
    have l3 := text_len b0 b9 t ok
    exact ⟨⟨a, kc t.kind, t.kind, t.text b, t.told b, inner, ls, (t.knots : Nat)⟩, rfl, ⟨⟨xp, by show ls.length ≤ 200; omega, by show (t.text b).length ≤ 20000; omega⟩, rfl, rfl, lab⟩⟩
theorem fors_of {b : Int} {H : Hp} (b0 : 0 ≤ b) (b9 : b ≤ 9) : ∀ {vs : List V} {l : List Tr}, ExAll CF kc cls b H vs l → Tr.OkL b l → Tr.knotsL l ≤ 40 →
    ∃ es : List Told, vs = es.map (fun e => V.ref e.at_) ∧ (∀ e ∈ es, Arg CF cls H e) ∧ es.map (fun e => e.text) = Tr.textL b l ∧ (es.map (fun e => e.size)).sum = (Tr.knotsL l : Nat) ∧ ∀ x, x ∈ es.flatMap (fun e => e.labels) ↔ x ∈ Tr.namesL l
  | _, [], .nil, _, _ => ⟨[], rfl, (fun e he => nomatch he), rfl, rfl, fun x => by simp [Tr.namesL]⟩
  | _, t :: r, .cons a q, ok, k => by
    cases ok with
    | cons o1 o2 =>
      have k1 : t.knots + Tr.knotsL r ≤ 40 := by
        simp only [Tr.knotsL] at k
        exact k
      obtain ⟨e, rfl, f⟩ := for_of a o1 b0 b9 (by omega)
      obtain ⟨es, rfl, h1, h2, h3, h4⟩ := fors_of b0 b9 q o2 (by omega)
      refine ⟨e :: es, rfl, fun x hx => ?_, ?_, ?_, fun x => ?_⟩
      · rcases List.mem_cons.mp hx with rfl | hx
        · exact f.arg
        · exact h1 x hx
      · rw [List.map_cons, h2, f.text]
        simp only [Tr.textL]
      · rw [List.map_cons, List.sum_cons, h3, f.size]
        simp only [Tr.knotsL]
        omega
      · rw [List.flatMap_cons, List.mem_append, h4, f.lab.mem]
        simp only [Tr.namesL, List.mem_append]
theorem lab1 {kind : Str} {told : List V} {e : Told} {ns ls : List Str} (hk : kind ≠ "name") (p : ls.Perm ((namesOf kind told [e]).foldl Hs.put [])) (s : sortedS ls = true) (l : Lab ns e.labels) : Lab ns ls :=
  lab_of p s fun x => by
    unfold namesOf
    rw [if_neg hk]
    simp only [List.flatMap_cons, List.flatMap_nil, List.append_nil]
    exact l.mem x
/-- all but lists stand -/
def Sm (H H' : Hp) : Prop := ∀ c o, H c = some o → (∀ xs, o ≠ .lst xs) → H' c = some o
theorem XpAt.sm {H H' : Hp} {a C : Addr} {kind text : Str} {told inner : List V} {labels : List Str} {size : Int} (h : XpAt CF cls H a C kind text told inner labels size) (s : Sm H H') : XpAt CF cls H' a C kind text told inner labels size := by
  obtain ⟨dx, fa, dfa, pm, pi, pl, h0, h1, h2, h3, h4, h5⟩ := h
  exact ⟨dx, fa, dfa, pm, pi, pl, h0, s _ _ h1 (by intro xs z; cases z), s _ _ h2 (by intro xs z; cases z), s _ _ h3 (by intro xs z; cases z), s _ _ h4 (by intro xs z; cases z), s _ _ h5 (by intro xs z; cases z)⟩
mutual
theorem ExAt.sm {b : Int} {H H' : Hp} (s : Sm H H') : ∀ (t : Tr) (v : V), ExAt CF kc cls b H v t → ExAt CF kc cls b H' v t
  | .sign x, _, h => by cases h with | mk _ e l r => exact .mk _ (XpAt.sm e s) l (by cases r; exact .nil)
  | .name x, _, h => by cases h with | mk _ e l r => exact .mk _ (XpAt.sm e s) l (by cases r; exact .nil)
  | .weave l, _, h => by cases h with | mk _ e lb r => exact .mk _ (XpAt.sm e s) lb (ExAll.sm s l _ r)
  | .part j t, _, h => by cases h with | mk _ e l r => cases r with | cons a n => exact .mk _ (XpAt.sm e s) l (.cons (ExAt.sm s t _ a) (by cases n; exact .nil))
  | .drop j t, _, h => by cases h with | mk _ e l r => cases r with | cons a n => exact .mk _ (XpAt.sm e s) l (.cons (ExAt.sm s t _ a) (by cases n; exact .nil))
  | .lead t u, _, h => by cases h with | mk _ e l r => cases r with | cons a n => cases n with | cons a2 n2 => exact .mk _ (XpAt.sm e s) l (.cons (ExAt.sm s t _ a) (.cons (ExAt.sm s u _ a2) (by cases n2; exact .nil)))
  | .turn j t, _, h => by cases h with | mk _ e l r => cases r with | cons a n => exact .mk _ (XpAt.sm e s) l (.cons (ExAt.sm s t _ a) (by cases n; exact .nil))
theorem ExAll.sm {b : Int} {H H' : Hp} (s : Sm H H') : ∀ (l : List Tr) (vs : List V), ExAll CF kc cls b H vs l → ExAll CF kc cls b H' vs l
  | [], _, h => by cases h; exact .nil
  | t :: r, _, h => by cases h with | cons a q => exact .cons (ExAt.sm s t _ a) (ExAll.sm s r _ q)
end
theorem ExAll.snoc {b : Int} {H : Hp} {v : V} {t : Tr} : ∀ {vs : List V} {l : List Tr}, ExAll CF kc cls b H vs l → ExAt CF kc cls b H v t → ExAll CF kc cls b H (vs ++ [v]) (l ++ [t])
  | _, [], .nil, h => .cons h .nil
  | _, _ :: _, .cons a r, h => .cons a (ExAll.snoc r h)
theorem ExAll.len {b : Int} {H : Hp} : ∀ {vs : List V} {l : List Tr}, ExAll CF kc cls b H vs l → vs.length = l.length
  | _, [], .nil => rfl
  | _, _ :: _, .cons _ r => congrArg Nat.succ (ExAll.len r)
theorem TrAll.get {H : Hp} : ∀ {vs : List V} {l : List Tr} {i : Nat} {x : V}, TrAll H vs l → vs[i]? = some x → ∃ t, l[i]? = some t ∧ TrAt H x t
  | _, [], _, _, .nil, h => by simp at h
  | _, t :: _, 0, x, .cons a _, h => ⟨t, rfl, by cases h; exact a⟩
  | _, _ :: _, i + 1, x, .cons _ r, h => TrAll.get (i := i) r h
theorem TrAll.len {H : Hp} : ∀ {vs : List V} {l : List Tr}, TrAll H vs l → vs.length = l.length
  | _, [], .nil => rfl
  | _, _ :: _, .cons _ r => congrArg Nat.succ (TrAll.len r)
theorem OkL.get {b : Int} : ∀ {l : List Tr} {i : Nat} {t : Tr}, Tr.OkL b l → l[i]? = some t → t.Ok b ∧ t.knots ≤ Tr.knotsL l
  | [], _, _, _, h => by simp at h
  | u :: _, 0, t, .cons a _, h => by
    cases h
    refine ⟨a, ?_⟩
    simp only [Tr.knotsL]
    omega
  | _ :: _, i + 1, t, .cons _ r, h => by
    obtain ⟨h1, h2⟩ := OkL.get (i := i) r h
    refine ⟨h1, ?_⟩
    simp only [Tr.knotsL]
    omega
theorem weave_go {K : PySem.W.Frag} {CE Cn Ce : Addr} {b : Int} {H : Hp} {x dx : Addr} {ws : List V} {l : List Tr} {Q : VK} (hx : H x = none) (hdx : H dx = none) (ne : dx ≠ x) (ea : ExAll CF kc cls b H ws l) (ok : Tr.OkL b l) (hl : (l.length : Int) = b) (b2 : 2 ≤ b) (b4 : b ≤ 4) (k : Tr.knotsL l ≤ 39)
    (own : cls (kc "weave")) (q : ∀ v H2, Same H H2 → ExAt CF kc cls b H2 v (.weave l) → Q v H2) :
    spWeave K CF CE Cn Ce cls (.ref x :: ws) (upd (upd H dx (.own x)) x (.ins (kc "weave") dx [])) (fun v H2 => v = .non ∧ Q (.ref x) H2) E0 := by
  have wl := ea.len
  obtain ⟨es, rfl, h1, h2, h3, h4⟩ := fors_of (by omega) (by omega) ea ok (by omega)
  have el : es.length = l.length := by
    rw [List.length_map] at wl
    exact wl
  refine ⟨[.ref x], es.map (fun e => V.ref e.at_), rfl, rfl, by rw [List.length_map]; exact small_line (by omega), fun p hp => ?_⟩
  have g := born (C := kc "weave") hx hdx ne
  refine ⟨x, dx, kc "weave", p, _, rfl, own, upd_other upd_same hp, upd_same, .inl ⟨es, rfl, by omega, by omega, fun e he => (h1 e he).same (g.trans (same_new hp _)), fun H2 ls bt xp pm srt => ⟨rfl, ?_⟩⟩⟩
  have s2 : Same H H2 := fun c o hc => bt c o (ne_of_none hc hx) ((g.trans (same_new hp _)) c o hc)
  have ek : (1 + (es.map (·.size)).sum : Int) = ((Tr.knots (.weave l) : Nat) : Int) := by
    simp only [Tr.knots]
    rw [h3]
    omega
  have et : spell "weave" (es.map (·.text)) = Tr.text b (.weave l) := by
    simp only [Tr.text]
    rw [h2]
  rw [ek, et] at xp
  refine q _ _ s2 (.mk (.weave l) xp (lab_of pm srt fun y => ?_) (ExAll.same s2 l _ ea))
  unfold namesOf
  rw [if_neg (by decide +kernel), h4]
  simp only [Tr.names]
end
end Wp

namespace Wp
open PySem PySem.Spec PyProof.Rows L2 Hx
def spText (n : Nat) : Sp := fun vs H Q _ => ∃ (tv : V) (b : Int) (t : Tr), vs = [tv, .int b] ∧ TrAt H tv t ∧ t.Ok b ∧ 0 ≤ b ∧ b ≤ 9 ∧ t.knots ≤ n ∧ t.knots ≤ 100 ∧ ∀ H', Same H H' → Q (.str (t.text b)) H'
section
variable {P : Program} {w : World} {K : PySem.W.Frag} {mg : Str → Option Value} {base : Heap} {f : Addr} {fd : FuncData}
theorem spell_eq (k : Str) (ys : List Str) : spell k ys = ((k ++ "(") ++ Str.join ", " ys) ++ ")" := by
  unfold spell
  rw [PySem.Str.empty_append]
theorem join2 (x y : Str) : Str.join ", " [x, y] = x ++ ", " ++ y := rfl
theorem join3 (x y z : Str) : Str.join ", " [x, y, z] = x ++ ", " ++ (y ++ ", " ++ z) := rfl
theorem textL_n {b : Int} : ∀ {l : List Tr}, (Tr.textL b l).length = l.length
  | [] => by simp [Tr.textL]
  | t :: r => by simp only [Tr.textL, List.length_cons, textL_n (l := r)]
theorem textL_get {b : Int} : ∀ {l : List Tr} {i : Nat} {t : Tr}, l[i]? = some t → (Tr.textL b l)[i]? = some (t.text b)
  | [], _, _, h => by simp at h
  | u :: r, 0, t, h => by
    cases h
    simp only [Tr.textL]
    rfl
  | u :: r, i + 1, t, h => by
    simp only [Tr.textL]
    exact textL_get (l := r) (i := i) h
theorem scText : FnScope ["_law_tree_here", "_law_wide", "_law_kind", "_law_begin", "_law_each"] ["_law_tree_here", "_law_wide"] (defScope s_law_text) := ⟨rfl, rfl, rfl, by decide +kernel, rfl, by decide +kernel, by decide +kernel⟩
theorem ok_text (F : Fun K "_law_text" "_law_text" s_law_text f fd) (Z : Bltn mg) (bF : Binds K fd ["_law_tree_here", "_law_wide"] []) (mF : mg "_law_text" = some (.ref f)) :
    ∀ n, FnOk P w K mg base CX0 (9 + n) f fd ["_law_tree_here", "_law_wide"] (spText n) := by
  intro n
  induction n with
  | zero =>
    have no : ∀ vs H Q E, spText 0 vs H Q E → False := fun vs H Q E ⟨tv, b, t, _, _, _, _, _, k0, _⟩ => by
      have := knots_pos t
      omega
    exact ⟨fun vs H Q E h => (no vs H Q E h).elim, fun A outer s H args us vs Q E _ _ _ _ h => (no vs H Q E h).elim⟩
  | succ n ih =>
    refine F.ok scText (fun vs H Q E h => ?_) (fun cdv A outer s H vs Q E hr h => ?_)
    · obtain ⟨tv, b, t, rfl, _⟩ := h
      rfl
    obtain ⟨tv, b, t, rfl, ht, hok, b0, b9, kn, k100, q⟩ := h
    have r2 := hr.mono (show 2 ≤ 9 + n by omega)
    refine ⟨_, pss_cons (ps_set (i := 2) scText.nd rfl (Or.inl rfl) (pe_ix ix_tup (pv 0) pe_int (fun _ _ => rfl)))
      (pss_cons (ps_if (pt_cmpR op_eq (pv 2) pe_str (nomark _)) (pss_one (ps_ret (pe_op op_add_str (pe_op op_add_str pe_str (pe_ix ix_tup (pv 0) pe_int (fun _ _ => rfl))) pe_str))) pss_nil)
      (pss_cons (ps_if (pt_cmpR op_eq (pv 2) pe_str (nomark _)) (pss_one (ps_ret (pe_ix ix_tup (pv 0) pe_int (fun _ _ => rfl)))) pss_nil)
      (pss_cons (ps_if (pt_cmpR op_eq (pv 2) pe_str (nomark _)) (pss_one (ps_ret (pe_op op_add_str (pe_op op_add_str pe_str (pe_join pe_str
          (pe_lc (te := tCall (spText n) [] E0 (tCons (tVar 4) (tCons (tVar 1) tNil))) (own := [("_law_each", 4)]) (g := gName 4) (tt := tYes) rfl scText.nd (pi_list (pe_ix ix_tup (pv 0) pe_int (fun _ _ => rfl)))
            (blkOk_by (N := ["_law_tree_here", "_law_wide", "_law_kind", "_law_begin", "_law_each"]) (sc := defScope s_law_text) (by decide +kernel)) (fun _ _ _ _ _ => pg_name (i := 4) scText.nd rfl (Or.inl rfl)) (fun _ _ _ _ _ => pts_nil)
            (fun _ _ _ _ _ => pe_call ih hr rfl mF F.kp bF .nil pass0 (pa_cons (pv 4) (pa_cons (pv 1) pa_nil)))))) pe_str))) pss_nil)
      (pss_cons (ps_if (pt_cmpR op_eq (pv 2) pe_str (nomark _)) (pss_one (ps_ret (pe_op op_add_str (pe_op op_add_str (pe_op op_add_str (pe_op op_add_str pe_str
          (pe_call ih hr rfl mF F.kp bF .nil pass0 (pa_cons (pe_ix ix_tup (pv 0) pe_int (fun _ _ => rfl)) (pa_cons (pv 1) pa_nil)))) pe_str)
          (pe_call ih hr rfl mF F.kp bF .nil pass0 (pa_cons (pe_ix ix_tup (pv 0) pe_int (fun _ _ => rfl)) (pa_cons (pv 1) pa_nil)))) pe_str))) pss_nil)
      (pss_cons (ps_set (i := 3) scText.nd rfl (Or.inl rfl) (pe_op op_add_str (pe_op op_add_str (pe_op op_add_str (pv 2) pe_str) (pe_callTy (call_tell (k := 0) r2) (by rfl) Z.str (by decide +kernel) (pa_cons (pe_ix ix_tup (pv 0) pe_int (fun _ _ => rfl)) pa_nil))) pe_str))
      (pss_one (ps_ret (pe_op op_add_str (pe_op op_add_str (pe_op op_add_str (pv 3)
          (pe_ifExp (pt_cmpR op_eq (pv 2) pe_str (nomark _)) (pe_op op_add_str (pe_callTy (call_tell (k := 0) r2) (by rfl) Z.str (by decide +kernel) (pa_cons (pv 1) pa_nil)) pe_str) pe_str))
          (pe_call ih hr rfl mF F.kp bF .nil pass0 (pa_cons (pe_ix ix_tup (pv 0) pe_int (fun _ _ => rfl)) (pa_cons (pv 1) pa_nil)))) pe_str)))))))), ?_⟩
    have c0 : ("'" : Str).length = 1 := by decide +kernel
    have c1 : ("weave(" : Str).length = 6 := by decide +kernel
    have c2 : (")" : Str).length = 1 := by decide +kernel
    have c3 : ("lead(" : Str).length = 5 := by decide +kernel
    have c4 : (", " : Str).length = 2 := by decide +kernel
    have c5 : ("(" : Str).length = 1 := by decide +kernel
    have c6 : ("" : Str).length = 0 := by decide +kernel
    have d0 : ("part" : Str).length = 4 := by decide +kernel
    have d1 : ("drop" : Str).length = 4 := by decide +kernel
    have d2 : ("turn" : Str).length = 4 := by decide +kernel
    have big : 10000 ≤ sizeLine := by decide
    have tl := text_len b0 b9 t hok
    cases ht with
    | @sign p s e =>
      cases hok with
      | sign es =>
        have sl := lettered_len es
        refine ⟨_, rfl, p, _, _, _, rfl, rfl, SqT.of e, rfl, ?_⟩
        refine ⟨_, rfl, rfl, _, rfl, ?_⟩
        rw [decide_eq_true rfl]
        refine iteT ?_
        refine ⟨_, rfl, p, _, _, _, rfl, rfl, SqT.of e, rfl, _, _, rfl, rfl, (by (try simp only [PySem.Str.length_append, c0, c1, c2, c3, c4, c5, c6, d0, d1, d2]); omega), _, _, rfl, rfl, (by (try simp only [PySem.Str.length_append, c0, c1, c2, c3, c4, c5, c6, d0, d1, d2]); omega), ?_⟩
        have z := q H (Same.refl H)
        simp only [Tr.text, PySem.Str.empty_append] at z
        exact z
    | @name p s e =>
      refine ⟨_, rfl, p, _, _, _, rfl, rfl, SqT.of e, rfl, ?_⟩
      refine ⟨_, rfl, rfl, _, rfl, ?_⟩
      rw [str_ne (by decide +kernel)]
      refine iteF ?_
      refine ⟨_, rfl, rfl, _, rfl, ?_⟩
      rw [decide_eq_true rfl]
      refine iteT ?_
      refine ⟨_, rfl, p, _, _, _, rfl, rfl, SqT.of e, rfl, ?_⟩
      have z := q H (Same.refl H)
      simp only [Tr.text] at z
      exact z
    | @weave p pq vs l e e2 r =>
      cases hok with
      | weave hl okl =>
        have ll := textL_len b0 b9 l okl
        simp only [Tr.knots] at kn k100
        refine ⟨_, rfl, p, _, _, _, rfl, rfl, SqT.of e, rfl, ?_⟩
        refine ⟨_, rfl, rfl, _, rfl, ?_⟩
        rw [str_ne (by decide +kernel)]
        refine iteF ?_
        refine ⟨_, rfl, rfl, _, rfl, ?_⟩
        rw [str_ne (by decide +kernel)]
        refine iteF ?_
        refine ⟨_, rfl, rfl, _, rfl, ?_⟩
        rw [decide_eq_true rfl]
        refine iteT ?_
        have vl := r.len
        refine ⟨⟨_, rfl⟩, _, rfl, p, _, _, _, rfl, rfl, SqT.of e, rfl, pq, rfl, ⟨_, SqL.of e2⟩, fun D hD => ?_⟩
        refine lc_list (K := K) (a := pq) (xs := vs) (fun i H1 => Same H H1 ∧ H1 D = some (.lst (((Tr.textL b l).take i).map V.str))) ⟨same_new hD _, upd_same⟩ (fun i H1 _ h => SqL.of (h.1 _ _ e2)) ?_ ?_
        · rintro i x H1 hx ⟨s1, h1⟩
          obtain ⟨t, htt, tr⟩ := r.get hx
          obtain ⟨okt, kt⟩ := OkL.get okl htt
          refine ⟨rfl, turn_yes ⟨_, rfl, _, rfl, x, b, t, rfl, TrAt.same s1 t _ tr, okt, b0, b9, by omega, by omega, fun H2 s2 => ⟨_, s2 _ _ h1, ?_, fun c o hc => ?_, ?_⟩⟩⟩
          · rw [List.length_map, List.length_take]
            exact Nat.lt_of_lt_of_le (by omega : _ < 10000) big
          · rw [upd_ne (ne_of_none hc hD)]
            exact s2 _ _ (s1 _ _ hc)
          · rw [upd_same, List.take_add_one, textL_get htt]
            simp
        · rintro H1 ⟨s1, h1⟩
          rw [vl, ← textL_n, List.take_of_length_le (Nat.le_refl _)] at h1
          have jl := join_len ", " (Tr.textL b l)
          rw [c4] at jl
          refine ⟨", ", D, Tr.textL b l, rfl, rfl, .inl (SqL.of h1), by rw [c4]; omega, ?_⟩
          rw [TL.join_eq]
          refine ⟨_, _, rfl, rfl, (by (try simp only [PySem.Str.length_append, c0, c1, c2, c3, c4, c5, c6, d0, d1, d2]); omega), _, _, rfl, rfl, (by (try simp only [PySem.Str.length_append, c0, c1, c2, c3, c4, c5, c6, d0, d1, d2]); omega), ?_⟩
          have z := q H1 s1
          simp only [Tr.text, spell_eq, (by decide +kernel : ("weave" : Str) ++ "(" = "weave(")] at z
          exact z
    | @lead p v u t t2 e r r2 =>
      cases hok with
      | lead ok ok2 =>
        have l1 := text_len b0 b9 t ok
        have l2 := text_len b0 b9 t2 ok2
        simp only [Tr.knots] at kn k100
        refine ⟨_, rfl, p, _, _, _, rfl, rfl, SqT.of e, rfl, ?_⟩
        refine ⟨_, rfl, rfl, _, rfl, ?_⟩
        rw [str_ne (by decide +kernel)]
        refine iteF ?_
        refine ⟨_, rfl, rfl, _, rfl, ?_⟩
        rw [str_ne (by decide +kernel)]
        refine iteF ?_
        refine ⟨_, rfl, rfl, _, rfl, ?_⟩
        rw [str_ne (by decide +kernel)]
        refine iteF ?_
        refine ⟨_, rfl, rfl, _, rfl, ?_⟩
        rw [decide_eq_true rfl]
        refine iteT ?_
        refine ⟨_, rfl, p, _, _, _, rfl, rfl, SqT.of e, rfl, _, rfl, v, b, t, rfl, r, ok, b0, b9, by omega, by omega, fun H1 s1 => ⟨_, _, rfl, rfl, (by (try simp only [PySem.Str.length_append, c0, c1, c2, c3, c4, c5, c6, d0, d1, d2]); omega), _, _, rfl, rfl, (by (try simp only [PySem.Str.length_append, c0, c1, c2, c3, c4, c5, c6, d0, d1, d2]); omega), _, rfl, p, _, _, _, rfl, rfl, SqT.of (s1 _ _ e), rfl, _, rfl, u, b, t2, rfl, TrAt.same s1 t2 _ r2, ok2, b0, b9, by omega, by omega, fun H2 s2 => ⟨_, _, rfl, rfl, (by (try simp only [PySem.Str.length_append, c0, c1, c2, c3, c4, c5, c6, d0, d1, d2]); omega), _, _, rfl, rfl, (by (try simp only [PySem.Str.length_append, c0, c1, c2, c3, c4, c5, c6, d0, d1, d2]); omega), ?_⟩⟩⟩
        have z := q H2 (s1.trans s2)
        simp only [Tr.text, spell_eq, join2, (by decide +kernel : ("lead" : Str) ++ "(" = "lead("), PySem.Str.append_assoc] at z ⊢
        exact z
    | @part p j v t e r =>
      cases hok with
      | part j0 jb ok =>
        have y1 := fig_one j0 (by omega)
        have y2 := fig_one b0 b9
        have l1 := text_len b0 b9 t ok
        simp only [Tr.knots] at kn k100
        refine ⟨_, rfl, p, _, _, _, rfl, rfl, SqT.of e, rfl, ?_⟩
        refine ⟨_, rfl, rfl, _, rfl, ?_⟩
        rw [str_ne (by decide +kernel)]
        refine iteF ?_
        refine ⟨_, rfl, rfl, _, rfl, ?_⟩
        rw [str_ne (by decide +kernel)]
        refine iteF ?_
        refine ⟨_, rfl, rfl, _, rfl, ?_⟩
        rw [str_ne (by decide +kernel)]
        refine iteF ?_
        refine ⟨_, rfl, rfl, _, rfl, ?_⟩
        rw [str_ne (by decide +kernel)]
        refine iteF ?_
        refine ⟨_, rfl, _, _, rfl, rfl, (by (try simp only [PySem.Str.length_append, c0, c1, c2, c3, c4, c5, c6, d0, d1, d2]); omega), _, rfl, p, _, _, _, rfl, rfl, SqT.of e, rfl, _, rfl, .inl ⟨j, rfl, small_log ⟨j0, by omega⟩, ?_⟩⟩
        refine ⟨_, _, rfl, rfl, (by (try simp only [PySem.Str.length_append, c0, c1, c2, c3, c4, c5, c6, d0, d1, d2]); omega), _, _, rfl, rfl, (by (try simp only [PySem.Str.length_append, c0, c1, c2, c3, c4, c5, c6, d0, d1, d2]); omega), ?_⟩
        refine ⟨_, rfl, _, rfl, rfl, _, rfl, ?_⟩
        rw [decide_eq_true rfl]
        refine iteT ⟨_, rfl, _, rfl, .inl ⟨b, rfl, small_log ⟨b0, by omega⟩, _, _, rfl, rfl, (by (try simp only [PySem.Str.length_append, c0, c1, c2, c3, c4, c5, c6, d0, d1, d2]); omega), _, _, rfl, rfl, (by (try simp only [PySem.Str.length_append, c0, c1, c2, c3, c4, c5, c6, d0, d1, d2]); omega), ?_⟩⟩
        refine ⟨_, rfl, p, _, _, _, rfl, rfl, SqT.of e, rfl, _, rfl, v, b, t, rfl, r, ok, b0, b9, by omega, by omega, fun H1 s1 => ⟨_, _, rfl, rfl, (by (try simp only [PySem.Str.length_append, c0, c1, c2, c3, c4, c5, c6, d0, d1, d2]); omega), _, _, rfl, rfl, (by (try simp only [PySem.Str.length_append, c0, c1, c2, c3, c4, c5, c6, d0, d1, d2]); omega), ?_⟩⟩
        have z := q H1 s1
        simp only [Tr.text, spell_eq, join3, PySem.Str.append_assoc, (by decide +kernel : ("" : Str) = Str.empty), PySem.Str.empty_append] at z ⊢
        exact z
    | @drop p j v t e r =>
      cases hok with
      | drop c1' c9 ok =>
        have y1 := fig_one (i := j) (by omega) c9
        have l1 := text_len b0 b9 t ok
        simp only [Tr.knots] at kn k100
        refine ⟨_, rfl, p, _, _, _, rfl, rfl, SqT.of e, rfl, ?_⟩
        refine ⟨_, rfl, rfl, _, rfl, ?_⟩
        rw [str_ne (by decide +kernel)]
        refine iteF ?_
        refine ⟨_, rfl, rfl, _, rfl, ?_⟩
        rw [str_ne (by decide +kernel)]
        refine iteF ?_
        refine ⟨_, rfl, rfl, _, rfl, ?_⟩
        rw [str_ne (by decide +kernel)]
        refine iteF ?_
        refine ⟨_, rfl, rfl, _, rfl, ?_⟩
        rw [str_ne (by decide +kernel)]
        refine iteF ?_
        refine ⟨_, rfl, _, _, rfl, rfl, (by (try simp only [PySem.Str.length_append, c0, c1, c2, c3, c4, c5, c6, d0, d1, d2]); omega), _, rfl, p, _, _, _, rfl, rfl, SqT.of e, rfl, _, rfl, .inl ⟨j, rfl, small_log ⟨by omega, by omega⟩, ?_⟩⟩
        refine ⟨_, _, rfl, rfl, (by (try simp only [PySem.Str.length_append, c0, c1, c2, c3, c4, c5, c6, d0, d1, d2]); omega), _, _, rfl, rfl, (by (try simp only [PySem.Str.length_append, c0, c1, c2, c3, c4, c5, c6, d0, d1, d2]); omega), ?_⟩
        refine ⟨_, rfl, _, rfl, rfl, _, rfl, ?_⟩
        rw [str_ne (by decide +kernel)]
        refine iteF ⟨_, _, rfl, rfl, (by (try simp only [PySem.Str.length_append, c0, c1, c2, c3, c4, c5, c6, d0, d1, d2]); omega), ?_⟩
        refine ⟨_, rfl, p, _, _, _, rfl, rfl, SqT.of e, rfl, _, rfl, v, b, t, rfl, r, ok, b0, b9, by omega, by omega, fun H1 s1 => ⟨_, _, rfl, rfl, (by (try simp only [PySem.Str.length_append, c0, c1, c2, c3, c4, c5, c6, d0, d1, d2]); omega), _, _, rfl, rfl, (by (try simp only [PySem.Str.length_append, c0, c1, c2, c3, c4, c5, c6, d0, d1, d2]); omega), ?_⟩⟩
        have z := q H1 s1
        simp only [Tr.text, spell_eq, join2, PySem.Str.append_assoc, (by decide +kernel : ("" : Str) = Str.empty), PySem.Str.empty_append] at z ⊢
        exact z
    | @turn p w v t e r =>
      cases hok with
      | turn ew ok =>
        have y1 := lettered_len ew
        have l1 := text_len b0 b9 t ok
        simp only [Tr.knots] at kn k100
        refine ⟨_, rfl, p, _, _, _, rfl, rfl, SqT.of e, rfl, ?_⟩
        refine ⟨_, rfl, rfl, _, rfl, ?_⟩
        rw [str_ne (by decide +kernel)]
        refine iteF ?_
        refine ⟨_, rfl, rfl, _, rfl, ?_⟩
        rw [str_ne (by decide +kernel)]
        refine iteF ?_
        refine ⟨_, rfl, rfl, _, rfl, ?_⟩
        rw [str_ne (by decide +kernel)]
        refine iteF ?_
        refine ⟨_, rfl, rfl, _, rfl, ?_⟩
        rw [str_ne (by decide +kernel)]
        refine iteF ?_
        refine ⟨_, rfl, _, _, rfl, rfl, (by (try simp only [PySem.Str.length_append, c0, c1, c2, c3, c4, c5, c6, d0, d1, d2]); omega), _, rfl, p, _, _, _, rfl, rfl, SqT.of e, rfl, _, rfl, .inr (.inl ⟨w, rfl, ?_⟩)⟩
        refine ⟨_, _, rfl, rfl, (by (try simp only [PySem.Str.length_append, c0, c1, c2, c3, c4, c5, c6, d0, d1, d2]); omega), _, _, rfl, rfl, (by (try simp only [PySem.Str.length_append, c0, c1, c2, c3, c4, c5, c6, d0, d1, d2]); omega), ?_⟩
        refine ⟨_, rfl, _, rfl, rfl, _, rfl, ?_⟩
        rw [str_ne (by decide +kernel)]
        refine iteF ⟨_, _, rfl, rfl, (by (try simp only [PySem.Str.length_append, c0, c1, c2, c3, c4, c5, c6, d0, d1, d2]); omega), ?_⟩
        refine ⟨_, rfl, p, _, _, _, rfl, rfl, SqT.of e, rfl, _, rfl, v, b, t, rfl, r, ok, b0, b9, by omega, by omega, fun H1 s1 => ⟨_, _, rfl, rfl, (by (try simp only [PySem.Str.length_append, c0, c1, c2, c3, c4, c5, c6, d0, d1, d2]); omega), _, _, rfl, rfl, (by (try simp only [PySem.Str.length_append, c0, c1, c2, c3, c4, c5, c6, d0, d1, d2]); omega), ?_⟩⟩
        have z := q H1 s1
        simp only [Tr.text, spell_eq, join2, PySem.Str.append_assoc, (by decide +kernel : ("" : Str) = Str.empty), PySem.Str.empty_append] at z ⊢
        exact z
end
end Wp

namespace Wp
open PySem PySem.Spec PyProof.Rows L2 Hx
/-- _law_of, over a text: one of its signs -/
def spOfS : Sp := fun vs H Q _ => ∃ (d : Addr) (z : Str), vs = [.ref d, .str z] ∧ 0 < z.length ∧ z.length ≤ 1000 ∧ DeckAt H d ∧ ∀ c H', c ∈ z.cps.toList → But d H H' → DeckAt H' d → Q (.str ⟨#[c]⟩) H'
section
variable {P : Program} {w : World} {K : PySem.W.Frag} {mg : Str → Option Value} {base : Heap} {f fC fO : Addr} {fd fdC fdO : FuncData}
theorem ok_ofS (F : Fun K "_law_of" "_law_of" s_law_of f fd) (GC : FnOk P w K mg base CX0 1 fC fdC ["_law_deck_here", "_law_top"] spCard) (bC : Binds K fdC ["_law_deck_here", "_law_top"] [])
    (kC : PySem.W.keepIn K (.ref fC) = true) (mC : mg "_law_card" = some (.ref fC)) (ml : mg "len" = none) : FnOk P w K mg base CX0 2 f fd ["_law_deck_here", "_law_menu"] spOfS := by
  refine F.ok scOf (fun vs H Q E h => ?_) (fun cdv A outer s H vs Q E hr h => ?_)
  · obtain ⟨d, z, rfl, _⟩ := h
    rfl
  obtain ⟨d, z, rfl, z0, z1, hd, q⟩ := h
  refine ⟨_, pss_one (ps_ret (pe_ix ix_str (pv 1) (pe_call GC hr rfl mC kC bC .nil pass0 (pa_cons (pv 0) (pa_cons
    (pe_callB call_len_str (by rfl) ml PySem.boot_len (pa_cons (pv 1) pa_nil)) pa_nil))) (fun _ _ => rfl))), ?_⟩
  have zl : z.cps.toList.length = z.length := Array.length_toList
  refine ⟨_, rfl, _, rfl, _, rfl, z, rfl, small_line z1, d, _, rfl, by omega, by omega, hd, fun r H' r0 r1 b hd' => ?_⟩
  obtain ⟨c, hc, ec⟩ := atI_in (xs := z.cps.toList) r0 (by rw [zl]; exact r1)
  exact ⟨_, _, c, rfl, rfl, small_line z1, ec, q c H' hc b hd'⟩
end
end Wp

namespace Wp
open PySem PySem.Spec PyProof.Rows L2 Hx
theorem deck_ne {H : Hp} {d c : Addr} {o : HO} (hd : DeckAt H d) (h : H c = some o) (n : ∀ a m k : Int, o ≠ .lst [.int a, .int m, .int k]) : c ≠ d := fun z => by
  obtain ⟨a, m, k, _, _, e⟩ := hd
  rw [z, e] at h
  exact n a m k (Option.some.inj h).symm
mutual
theorem TrAt.but {H H' : Hp} {d : Addr} (hd : DeckAt H d) (s : But d H H') : ∀ (t : Tr) (v : V), TrAt H v t → TrAt H' v t
  | .sign _, _, h => by cases h with | sign e => exact .sign (s _ _ (deck_ne hd e (by intro a m k z; cases z)) e)
  | .name _, _, h => by cases h with | name e => exact .name (s _ _ (deck_ne hd e (by intro a m k z; cases z)) e)
  | .weave l, _, h => by
    cases h with
    | weave e e2 r =>
      refine .weave (s _ _ (deck_ne hd e (by intro a m k z; cases z)) e) (s _ _ (deck_ne hd e2 fun a m k z => ?_) e2) (TrAll.but hd s l _ r)
      cases HO.lst.inj z
      cases r with
      | cons a _ => cases a
  | .part _ t, _, h => by cases h with | part e r => exact .part (s _ _ (deck_ne hd e (by intro a m k z; cases z)) e) (TrAt.but hd s t _ r)
  | .drop _ t, _, h => by cases h with | drop e r => exact .drop (s _ _ (deck_ne hd e (by intro a m k z; cases z)) e) (TrAt.but hd s t _ r)
  | .lead t u, _, h => by cases h with | lead e r r2 => exact .lead (s _ _ (deck_ne hd e (by intro a m k z; cases z)) e) (TrAt.but hd s t _ r) (TrAt.but hd s u _ r2)
  | .turn _ t, _, h => by cases h with | turn e r => exact .turn (s _ _ (deck_ne hd e (by intro a m k z; cases z)) e) (TrAt.but hd s t _ r)
theorem TrAll.but {H H' : Hp} {d : Addr} (hd : DeckAt H d) (s : But d H H') : ∀ (l : List Tr) (vs : List V), TrAll H vs l → TrAll H' vs l
  | [], _, h => by cases h; exact .nil
  | t :: r, _, h => by cases h with | cons a b => exact .cons (TrAt.but hd s t _ a) (TrAll.but hd s r _ b)
end
theorem but_free {H H' : Hp} {d p : Addr} (b : But d H H') (hd : DeckAt H' d) (hp : H' p = none) : H p = none := by
  cases e : H p with
  | none => rfl
  | some o =>
    obtain ⟨x, y, k, _, _, g⟩ := hd
    by_cases n : p = d
    · rw [← n, hp] at g
      cases g
    · have z := b p o n e
      rw [hp] at z
      cases z
theorem new_same {H H1 H2 H3 : Hp} {d : Addr} (b : But d H H1) (hd : DeckAt H1 d) (b' : But d H2 H3) : Same (newPart H1 H2) (newPart H H3) := fun c o h => by
  obtain ⟨n, e⟩ := newPart_some h
  refine newPart_at (but_free b hd n) (b' c o (fun z => ?_) e)
  obtain ⟨x, y, k, _, _, g⟩ := hd
  rw [← z, n] at g
  cases g
/-- letters that may be drawn -/
structure Letters (z : Str) : Prop where
  one : 1 ≤ z.length
  four : z.length ≤ 4
  low : ∀ c ∈ z.cps.toList, letterB c = true
theorem letter_sign {z : Str} (h : Letters z) {c : Nat} (hc : c ∈ z.cps.toList) : lettered 1 ⟨#[c]⟩ = true := by
  have l : (⟨#[c]⟩ : Str).length = 1 := rfl
  unfold lettered
  rw [l]
  simp [h.low c hc]
def spLeafT : Sp := fun vs H Q _ => ∃ (d m : Addr) (z : Str) (ns : List Str), vs = [.ref d, .str z, .ref m] ∧ DeckAt H d ∧ Letters z ∧ H m = some (.lst (ns.map V.str)) ∧ (∀ n ∈ ns, nameB n = true ∧ PyData.strOk n = true) ∧ ns.length ≤ 20 ∧
  ∀ v H' t, But d H H' → DeckAt H' d → TrAt (newPart H H') v t → (∀ b, t.Ok b) → t.knots = 1 → Q v H'
theorem shaped_names : ∀ {ns : List Str}, (∀ n ∈ ns, PyData.strOk n = true) → PyData.canLayAll0 (ns.map PyData.str) = true ∧ PyData.depthAll (ns.map PyData.str) = 0
  | [], _ => ⟨rfl, rfl⟩
  | n :: ns, h => by
    obtain ⟨h1, h2⟩ := shaped_names (ns := ns) fun x hx => h x (List.mem_cons_of_mem _ hx)
    constructor
    · show (PyData.strOk n && PyData.canLayAll0 (ns.map PyData.str)) = true
      rw [h n List.mem_cons_self, h1]
      rfl
    · show max 0 (PyData.depthAll (ns.map PyData.str)) = 0
      rw [h2]
      rfl
theorem dq_names {H : Hp} : ∀ ns : List Str, DqAll H (ns.map V.str) (ns.map PyData.str)
  | [] => .nil
  | n :: ns => .cons (.str n) (dq_names ns)
section
variable {P : Program} {w : World} {K : PySem.W.Frag} {mg : Str → Option Value} {base : Heap} {f fC fO : Addr} {fd fdC fdO : FuncData}
theorem scLeaf : FnScope ["_law_deck_here", "_law_letters_here", "_law_menu"] ["_law_deck_here", "_law_letters_here", "_law_menu"] (defScope s_law_leaf) := ⟨rfl, rfl, rfl, by decide +kernel, rfl, by decide +kernel, by decide +kernel⟩
theorem ok_leaf (F : Fun K "_law_leaf" "_law_leaf" s_law_leaf f fd) (GC : FnOk P w K mg base CX0 1 fC fdC ["_law_deck_here", "_law_top"] spCard) (bC : Binds K fdC ["_law_deck_here", "_law_top"] []) (kC : PySem.W.keepIn K (.ref fC) = true) (mC : mg "_law_card" = some (.ref fC))
    (GO : FnOk P w K mg base CX0 2 fO fdO ["_law_deck_here", "_law_menu"] (spOf K)) (GS : FnOk P w K mg base CX0 2 fO fdO ["_law_deck_here", "_law_menu"] spOfS) (bO : Binds K fdO ["_law_deck_here", "_law_menu"] []) (kO : PySem.W.keepIn K (.ref fO) = true) (mO : mg "_law_of" = some (.ref fO)) :
    FnOk P w K mg base CX0 3 f fd ["_law_deck_here", "_law_letters_here", "_law_menu"] spLeafT := by
  refine F.ok scLeaf (fun vs H Q E h => ?_) (fun cdv A outer s H vs Q E hr h => ?_)
  · obtain ⟨d, m, z, ns, rfl, _⟩ := h
    rfl
  obtain ⟨d, m, z, ns, rfl, hd, hz, hm, hn, few, q⟩ := h
  refine ⟨_, pss_cons (ps_if (PW.pt (pw_or (pt_cmpR (op_eqQ hr.units) (pv 2) (pe_lst pa_nil) (nomark _)) (pw_or1 (pt_cmpR op_eq (pe_call GC (hr.mono (by decide)) rfl mC kC bC .nil pass0 (pa_cons (pv 0) (pa_cons pe_int pa_nil))) pe_int (nomark _)))))
      (pss_one (ps_ret (pe_tup (pa_cons pe_str (pa_cons (pe_call GS hr rfl mO kO bO .nil pass0 (pa_cons (pv 0) (pa_cons (pv 1) pa_nil))) pa_nil))))) pss_nil)
    (pss_one (ps_ret (pe_tup (pa_cons pe_str (pa_cons (pe_call GO hr rfl mO kO bO .nil pass0 (pa_cons (pv 0) (pa_cons (pv 2) pa_nil))) pa_nil))))), ?_⟩
  have sh : SeqAt.shaped (.list (ns.map PyData.str)) = true := by
    obtain ⟨h1, h2⟩ := shaped_names fun n h => (hn n h).2
    show (PyData.canLayAll0 (ns.map PyData.str) && decide (PyData.depthAll (ns.map PyData.str) + 1 ≤ 64)) = true
    rw [h1, h2]
    rfl
  have sign : ∀ H1, But d H H1 → DeckAt H1 d → ∀ c H2, c ∈ z.cps.toList → But d H1 H2 → DeckAt H2 d → ∀ p, H2 p = none → Q (.ref p) (upd H2 p (.tup [.str "sign", .str ⟨#[c]⟩])) := fun H1 b1 d1 c H2 hc b2 d2 p hp => by
    obtain ⟨x, y, k, h1, h2, e⟩ := id d2
    exact q _ _ (.sign ⟨#[c]⟩) ((b1.trans b2).new hp _) ⟨x, y, k, h1, h2, by rw [upd_ne (ne_of_none e hp)]; exact e⟩ (.sign (newPart_at (but_free (b1.trans b2) d2 hp) upd_same)) (fun b => .sign (letter_sign hz hc)) (by simp [Tr.knots])
  refine ⟨_, rfl, (by show 0 ≤ sizeLine; decide), fun pe hpe => ?_⟩
  have s1 := same_new hpe (.lst [])
  obtain ⟨x0, y0, k0, g1, g2, g3⟩ := id hd
  have d1 : DeckAt (upd H pe (.lst [])) d := ⟨x0, y0, k0, g1, g2, s1 _ _ g3⟩
  refine ⟨_, _, .lst (s1 _ _ hm) (dq_names ns), .lst upd_same .nil, sh, rfl, _, rfl, ?_⟩
  cases ns with
  | nil =>
    refine iteT (iteT ⟨_, rfl, _, rfl, d, z, rfl, by have := hz.one; omega, by have := hz.four; omega, d1, fun c H2 hc b2 d2 => ⟨(by show 2 ≤ sizeLine; decide), fun p hp => sign _ (But.of s1) d1 c H2 hc b2 d2 p hp⟩⟩)
  | cons n ns =>
    refine iteF ⟨_, rfl, d, 6, rfl, by decide, by decide, d1, fun r H1 r0 r6 b1 d1' => ⟨rfl, _, rfl, ?_⟩⟩
    have bb : But d H H1 := (But.of s1).trans b1
    refine ite2 (fun c0 => ?_) (fun c0 => ?_)
    · exact ⟨_, rfl, _, rfl, d, z, rfl, by have := hz.one; omega, by have := hz.four; omega, d1', fun c H2 hc b2 d2 => ⟨(by show 2 ≤ sizeLine; decide), fun p hp => sign _ bb d1' c H2 hc b2 d2 p hp⟩⟩
    · have hm1 : H1 m = some (.lst ((n :: ns).map V.str)) := bb _ _ (deck_ne hd hm (by intro a m k z; cases HO.lst.inj z)) hm
      refine ⟨_, rfl, _, rfl, d, m, _, rfl, Ne.symm (deck_ne hd hm (by intro a m k z; cases HO.lst.inj z)), SqL.of hm1, by simp, by rw [List.length_map]; omega, d1', fun v H2 hv b2 d2 => ⟨(by show 2 ≤ sizeLine; decide), fun p hp => ?_⟩⟩
      obtain ⟨nm, hnm, rfl⟩ := List.mem_map.mp hv
      obtain ⟨x, y, k, h1, h2, e⟩ := id d2
      exact q _ _ (.name nm) ((bb.trans b2).new hp _) ⟨x, y, k, h1, h2, by rw [upd_ne (ne_of_none e hp)]; exact e⟩ (.name (newPart_at (but_free (bb.trans b2) d2 hp) upd_same)) (fun b => .name (hn nm hnm).1) (by simp [Tr.knots])
end
end Wp

namespace Wp
open PySem PySem.Spec PyProof.Rows L2 Hx
def Nms (ns : List Str) : Prop := (∀ n ∈ ns, nameB n = true ∧ PyData.strOk n = true) ∧ ns.length ≤ 20
/-- the frame of a tree: base, signs, names outside of weaves, within them, under parts; no simple turns -/
def FrameAt (H : Hp) (fr : Addr) (b : Int) (z : Str) : Prop := ∃ (m1 m2 m3 : Addr) (n1 n2 n3 : List Str), H fr = some (.lst [.int b, .str z, .ref m1, .ref m2, .ref m3, .bl false]) ∧
  H m1 = some (.lst (n1.map V.str)) ∧ H m2 = some (.lst (n2.map V.str)) ∧ H m3 = some (.lst (n3.map V.str)) ∧ Nms n1 ∧ Nms n2 ∧ Nms n3
theorem names_ne {ns : List Str} : ∀ a m k : Int, HO.lst (ns.map V.str) ≠ .lst [.int a, .int m, .int k] := fun a m k z => by
  have y := HO.lst.inj z
  cases ns with
  | nil => cases y
  | cons n r => cases y
theorem FrameAt.but {H H' : Hp} {d fr : Addr} {b : Int} {z : Str} (hd : DeckAt H d) (s : But d H H') (h : FrameAt H fr b z) : FrameAt H' fr b z := by
  obtain ⟨m1, m2, m3, n1, n2, n3, h0, h1, h2, h3, k⟩ := h
  exact ⟨m1, m2, m3, n1, n2, n3, s _ _ (deck_ne hd h0 (by intro a m k z; cases z)) h0, s _ _ (deck_ne hd h1 names_ne) h1, s _ _ (deck_ne hd h2 names_ne) h2, s _ _ (deck_ne hd h3 names_ne) h3, k⟩
def spTree (n : Nat) : Sp := fun vs H Q _ => ∃ (d fr : Addr) (room parts b : Int) (z : Str), vs = [.ref d, .ref fr, .int room, .int parts] ∧ DeckAt H d ∧ FrameAt H fr b z ∧ Letters z ∧ 2 ≤ b ∧ b ≤ 4 ∧ 1 ≤ room ∧ room ≤ n ∧ room ≤ 100 ∧
  ∀ v H' t, But d H H' → DeckAt H' d → TrAt (newPart H H') v t → t.Ok b → (t.knots : Int) ≤ room → Q v H'
theorem and_if {tA tB : TT} {T W : TS} {D : Ends} {σ : L2.St} {H : Hp} {p1 p2 : Bool} (h1 : ∀ Q : Bool → Hp → Prop, Q p1 H → tA σ H Q) (h2 : ∀ Q : Bool → Hp → Prop, Q p2 H → tB σ H Q)
    (ht : p1 = true → p2 = true → T { D with nx := W D } σ H) (hf : (p1 && p2) = false → W D σ H) : tSeq (tIfS (tAnd tA tB) T tNext) W D σ H := by
  refine h1 _ ?_
  cases p1 with
  | false => exact iteF (iteF (hf rfl))
  | true =>
    refine iteT (h2 _ ?_)
    cases p2 with
    | false => exact iteF (hf rfl)
    | true => exact iteT (ht rfl rfl)
theorem one_if {tA : TT} {T W : TS} {D : Ends} {σ : L2.St} {H : Hp} {p1 : Bool} (h1 : ∀ Q : Bool → Hp → Prop, Q p1 H → tA σ H Q)
    (ht : p1 = true → T { D with nx := W D } σ H) (hf : p1 = false → W D σ H) : tSeq (tIfS tA T tNext) W D σ H := by
  refine h1 _ ?_
  cases p1 with
  | false => exact iteF (hf rfl)
  | true => exact iteT (ht rfl)
theorem DeckAt.new {H : Hp} {d p : Addr} {o : HO} (h : DeckAt H d) (hp : H p = none) : DeckAt (upd H p o) d := by
  obtain ⟨x, y, k, h1, h2, e⟩ := h
  exact ⟨x, y, k, h1, h2, by rw [upd_ne (ne_of_none e hp)]; exact e⟩
theorem TrAll.snoc {H : Hp} {v : V} {t : Tr} : ∀ {vs : List V} {l : List Tr}, TrAll H vs l → TrAt H v t → TrAll H (vs ++ [v]) (l ++ [t])
  | _, [], .nil, h => .cons h .nil
  | _, _ :: _, .cons a r, h => .cons a (TrAll.snoc r h)
theorem OkL.snoc {b : Int} {t : Tr} : ∀ {l : List Tr}, Tr.OkL b l → t.Ok b → Tr.OkL b (l ++ [t])
  | [], .nil, h => .cons h .nil
  | _ :: _, .cons a r, h => .cons a (OkL.snoc r h)
theorem knots_snoc {t : Tr} : ∀ {l : List Tr}, Tr.knotsL (l ++ [t]) = Tr.knotsL l + t.knots
  | [] => by simp [Tr.knotsL]
  | u :: r => by
    show Tr.knotsL (u :: (r ++ [t])) = _
    simp only [Tr.knotsL]
    rw [knots_snoc (l := r)]
    omega
theorem join_letters : ∀ ys : List Str, (∀ y ∈ ys, ∃ c, y = ⟨#[c]⟩ ∧ letterB c = true) → (Str.join "" ys).length = ys.length ∧ ∀ c ∈ (Str.join "" ys).cps.toList, letterB c = true
  | [], _ => ⟨by decide +kernel, fun c hc => by cases hc⟩
  | [y], h => by
    obtain ⟨c, rfl, e⟩ := h y (by simp)
    refine ⟨rfl, fun c' hc => ?_⟩
    have : c' = c := by simpa [Str.join] using hc
    rw [this]
    exact e
  | y :: y2 :: r, h => by
    obtain ⟨c, rfl, e⟩ := h y (by simp)
    obtain ⟨i1, i2⟩ := join_letters (y2 :: r) fun x hx => h x (List.mem_cons_of_mem _ hx)
    have ej : Str.join "" (⟨#[c]⟩ :: y2 :: r) = ⟨#[c]⟩ ++ Str.join "" (y2 :: r) := by
      show (⟨#[c]⟩ : Str) ++ "" ++ Str.join "" (y2 :: r) = _
      rw [(by decide +kernel : ("" : Str) = Str.empty), PySem.Str.append_empty]
    rw [ej]
    refine ⟨?_, fun c' hc => ?_⟩
    · rw [PySem.Str.length_append, i1]
      show 1 + _ = _
      simp only [List.length_cons]
      omega
    · rw [PySem.Str.cps_append, Array.toList_append] at hc
      rcases List.mem_append.mp hc with hc | hc
      · have : c' = c := by simpa using hc
        rw [this]
        exact e
      · exact i2 c' hc
theorem sum_ones : ∀ {ys : List Str}, (∀ y ∈ ys, ∃ c, y = (⟨#[c]⟩ : Str) ∧ letterB c = true) → (ys.map (·.length)).sum = ys.length
  | [], _ => rfl
  | y :: r, h => by
    obtain ⟨c, rfl, _⟩ := h y (by simp)
    rw [List.map_cons, List.sum_cons, sum_ones (ys := r) fun x hx => h x (List.mem_cons_of_mem _ hx)]
    show 1 + _ = _
    rw [List.length_cons]
    omega
structure Bltn3 (mg : Str → Option Value) : Prop where
  range : mg "range" = none
section
variable {P : Program} {w : World} {K : PySem.W.Frag} {mg : Str → Option Value} {base : Heap} {f fC fO fL : Addr} {fd fdC fdO fdL : FuncData}
theorem scTree : FnScope ["_law_deck_here", "_law_frame", "_law_room", "_law_parts", "_law_wide", "_law_letters_here", "_law_outside", "_law_within", "_law_under", "_law_simple", "_law_way", "_law_below", "_law_size", "_law_marks", "_law_k", "_law_letter"] ["_law_deck_here", "_law_frame", "_law_room", "_law_parts"] (defScope s_law_tree) := ⟨rfl, rfl, rfl, by decide +kernel, rfl, by decide +kernel, by decide +kernel⟩
theorem ok_tree (F : Fun K "_law_tree" "_law_tree" s_law_tree f fd) (Z2 : Bltn3 mg) (bF : Binds K fd ["_law_deck_here", "_law_frame", "_law_room", "_law_parts"] []) (mF : mg "_law_tree" = some (.ref f))
    (GC : FnOk P w K mg base CX0 1 fC fdC ["_law_deck_here", "_law_top"] spCard) (bC : Binds K fdC ["_law_deck_here", "_law_top"] []) (kC : PySem.W.keepIn K (.ref fC) = true) (mC : mg "_law_card" = some (.ref fC))
    (GS : FnOk P w K mg base CX0 2 fO fdO ["_law_deck_here", "_law_menu"] spOfS) (bO : Binds K fdO ["_law_deck_here", "_law_menu"] []) (kO : PySem.W.keepIn K (.ref fO) = true) (mO : mg "_law_of" = some (.ref fO))
    (GL : FnOk P w K mg base CX0 3 fL fdL ["_law_deck_here", "_law_letters_here", "_law_menu"] spLeafT) (bL : Binds K fdL ["_law_deck_here", "_law_letters_here", "_law_menu"] []) (kL : PySem.W.keepIn K (.ref fL) = true) (mL : mg "_law_leaf" = some (.ref fL)) :
    ∀ n, FnOk P w K mg base CX0 (4 + n) f fd ["_law_deck_here", "_law_frame", "_law_room", "_law_parts"] (spTree n) := by
  intro n
  induction n with
  | zero =>
    have no : ∀ vs H Q E, spTree 0 vs H Q E → False := fun vs H Q E ⟨d, fr, room, parts, b, z, _, _, _, _, _, _, r1, r0, _⟩ => by omega
    exact ⟨fun vs H Q E h => (no vs H Q E h).elim, fun A outer s H args us vs Q E _ _ _ _ h => (no vs H Q E h).elim⟩
  | succ n ih =>
    refine F.ok scTree (fun vs H Q E h => ?_) (fun cdv A outer s H vs Q E hr h => ?_)
    · obtain ⟨d, fr, room, parts, b, z, rfl, _⟩ := h
      rfl
    obtain ⟨d, fr, room, parts, b, z, rfl, hd, hf, hz, b2, b4, r1, rn, r100, q⟩ := h
    have k1 := hr.mono (show 1 ≤ 4 + n by omega)
    have k2 := hr.mono (show 2 ≤ 4 + n by omega)
    have k3 := hr.mono (show 3 ≤ 4 + n by omega)
    refine ⟨_, (pss_cons (ps_asg (pv 1) (pg_unl (by rfl) (pgs_cons (pg_name (i := 4) scTree.nd rfl (Or.inr rfl)) (pgs_cons (pg_name (i := 5) scTree.nd rfl (Or.inr rfl)) (pgs_cons (pg_name (i := 6) scTree.nd rfl (Or.inl rfl)) (pgs_cons (pg_name (i := 7) scTree.nd rfl (Or.inl rfl)) (pgs_cons (pg_name (i := 8) scTree.nd rfl (Or.inl rfl)) (pgs_cons (pg_name (i := 9) scTree.nd rfl (Or.inl rfl)) pgs_nil))))))))
      (pss_cons (ps_set (i := 10) scTree.nd rfl (Or.inl rfl) (pe_ifExp (pt_cmpR op_gt (pv 2) pe_int (nomark _)) (pe_call GC k1 rfl mC kC bC .nil pass0 (pa_cons (pv 0) (pa_cons pe_int pa_nil))) pe_int))
      (pss_cons (ps_if (PW.pt (pw_and (pt_cmpR op_lt (pv 10) pe_int (nomark _)) (pw_and1 (pt_cmpR op_gt (pv 2) (pv 4) (nomark _))))) (pss_cons (ps_set (i := 11) scTree.nd rfl (Or.inr rfl) (pe_lst (pa_cons (pv 4) (pa_cons (pv 5) (pa_cons (pv 7) (pa_cons (pv 7) (pa_cons (pv 8) (pa_cons (pv 9) pa_nil)))))))) (pss_one (ps_ret (pe_tup (pa_cons pe_str (pa_cons (pe_lc (te := tCall (spTree n) [] E0 (tCons (tVar 0) (tCons (tVar 11) (tCons (tOp (rI CDivN fun i j => .int (i.fdiv j)) (tOp (rI0 fun i j => .int (i - j)) (tVar 2) (tC (.int 1))) (tVar 4)) (tCons (tVar 3) tNil))))) (own := [("_law_k", 14)]) (g := gName 14) (tt := tYes) rfl scTree.nd (pi_range1 rfl Z2.range (pa_cons (pv 4) pa_nil)) (blkOk_by (N := ["_law_deck_here", "_law_frame", "_law_room", "_law_parts", "_law_wide", "_law_letters_here", "_law_outside", "_law_within", "_law_under", "_law_simple", "_law_way", "_law_below", "_law_size", "_law_marks", "_law_k", "_law_letter"]) (sc := defScope s_law_tree) (by decide +kernel)) (fun _ _ _ _ _ => pg_name (i := 14) scTree.nd rfl (Or.inl rfl)) (fun _ _ _ _ _ => pts_nil) (fun _ _ _ _ _ => (pe_call ih hr rfl mF F.kp bF .nil pass0 (pa_cons (pv 0) (pa_cons (pv 11) (pa_cons (pe_op op_fdivN (pe_op op_sub (pv 2) pe_int) (pv 4)) (pa_cons (pv 3) pa_nil))))))) pa_nil)))))) pss_nil)
      (pss_cons (ps_if (PW.pt (pw_and (pt_cmpR op_eq (pv 10) pe_int (nomark _)) (pw_and1 (pt_cmpR op_gt (pv 3) pe_int (nomark _))))) (pss_cons (ps_set (i := 11) scTree.nd rfl (Or.inr rfl) (pe_lst (pa_cons (pv 4) (pa_cons (pv 5) (pa_cons (pv 8) (pa_cons (pv 8) (pa_cons (pv 8) (pa_cons (pv 9) pa_nil)))))))) (pss_one (ps_ret (pe_tup (pa_cons pe_str (pa_cons (pe_call GC k1 rfl mC kC bC .nil pass0 (pa_cons (pv 0) (pa_cons (pv 4) pa_nil))) (pa_cons (pe_call ih hr rfl mF F.kp bF .nil pass0 (pa_cons (pv 0) (pa_cons (pv 11) (pa_cons (pe_op op_sub (pv 2) pe_int) (pa_cons (pe_op op_sub (pv 3) pe_int) pa_nil))))) pa_nil))))))) pss_nil)
      (pss_cons (ps_if (pt_cmpR op_eq (pv 10) pe_int (nomark _)) (pss_cons (ps_set (i := 12) scTree.nd rfl (Or.inl rfl) (pe_ix ix_list (pe_lst (pa_cons pe_int (pa_cons pe_int (pa_cons pe_int (pa_cons pe_int (pa_cons (pe_ifExp (pt_val (pv 9)) pe_int pe_int) pa_nil)))))) (pe_call GC k1 rfl mC kC bC .nil pass0 (pa_cons (pv 0) (pa_cons pe_int pa_nil))) (fun _ _ => rfl))) (pss_one (ps_ret (pe_tup (pa_cons pe_str (pa_cons (pv 12) (pa_cons (pe_call ih hr rfl mF F.kp bF .nil pass0 (pa_cons (pv 0) (pa_cons (pv 1) (pa_cons (pe_op op_sub (pv 2) pe_int) (pa_cons (pv 3) pa_nil))))) pa_nil))))))) pss_nil)
      (pss_cons (ps_if (PW.pt (pw_and (pt_cmpR op_lt (pv 10) pe_int (nomark _)) (pw_and1 (pt_cmpR op_gt (pv 2) pe_int (nomark _))))) (pss_one (ps_ret (pe_tup (pa_cons pe_str (pa_cons (pe_call GL k3 rfl mL kL bL .nil pass0 (pa_cons (pv 0) (pa_cons (pv 5) (pa_cons (pv 6) pa_nil)))) (pa_cons (pe_call ih hr rfl mF F.kp bF .nil pass0 (pa_cons (pv 0) (pa_cons (pv 1) (pa_cons (pe_op op_sub (pv 2) pe_int) (pa_cons (pv 3) pa_nil))))) pa_nil)))))) pss_nil)
      (pss_cons (ps_if (pt_cmpR op_eq (pv 10) pe_int (nomark _)) (pss_cons (ps_set (i := 13) scTree.nd rfl (Or.inl rfl) (pe_join pe_str (pe_lc (te := tCall spOfS [] E0 (tCons (tVar 0) (tCons (tVar 5) tNil))) (own := [("_law_letter", 15)]) (g := gName 15) (tt := tYes) rfl scTree.nd (pi_str (pv 5)) (blkOk_by (N := ["_law_deck_here", "_law_frame", "_law_room", "_law_parts", "_law_wide", "_law_letters_here", "_law_outside", "_law_within", "_law_under", "_law_simple", "_law_way", "_law_below", "_law_size", "_law_marks", "_law_k", "_law_letter"]) (sc := defScope s_law_tree) (by decide +kernel)) (fun _ _ _ _ _ => pg_name (i := 15) scTree.nd rfl (Or.inl rfl)) (fun _ _ _ _ _ => pts_nil) (fun _ _ _ _ _ => pe_call GS k2 rfl mO kO bO .nil pass0 (pa_cons (pv 0) (pa_cons (pv 5) pa_nil)))))) (pss_cons (ps_if (pt_val (pv 9)) pss_never pss_nil) (pss_one (ps_ret (pe_tup (pa_cons pe_str (pa_cons (pv 13) (pa_cons (pe_call ih hr rfl mF F.kp bF .nil pass0 (pa_cons (pv 0) (pa_cons (pv 1) (pa_cons (pe_op op_sub (pv 2) pe_int) (pa_cons (pv 3) pa_nil))))) pa_nil)))))))) pss_nil)
      (pss_one (ps_ret (pe_call GL k3 rfl mL kL bL .nil pass0 (pa_cons (pv 0) (pa_cons (pv 5) (pa_cons (pv 6) pa_nil))))))))))))), ?_⟩
    obtain ⟨m1, m2, m3, n1, n2, n3, h0, h1, h2, h3, o1, o2, o3⟩ := id hf
    refine ⟨_, rfl, fr, _, rfl, SqL.of h0, rfl, _, _, rfl, _, _, rfl, _, _, rfl, _, _, rfl, _, _, rfl, _, _, rfl, rfl, ?_⟩
    dsimp only
    refine seq_join (fun v H1 => ∃ way : Int, v = .int way ∧ 0 ≤ way ∧ way < 12 ∧ (room ≤ 1 → way = 11) ∧ But d H H1 ∧ DeckAt H1 d) (fun Q1 hQ => ?_) ?_
    · refine ⟨_, rfl, _, _, rfl, rfl, _, rfl, ?_⟩
      refine ite2 (fun c => ?_) (fun c => ?_)
      · exact ⟨_, rfl, d, 12, rfl, by decide, by decide, hd, fun r H1 r0 r12 bt hd1 => hQ _ _ ⟨r, rfl, r0, r12, fun z => absurd (of_decide_eq_true c) (by omega), bt, hd1⟩⟩
      · exact hQ _ _ ⟨11, rfl, by decide, by decide, fun _ => rfl, But.refl, hd⟩
    rintro _ H1 ⟨way, rfl, w0, w12, wr, bt, hd1⟩
    have hf1 := hf.but hd bt
    have lf : ∀ H2, But d H H2 → DeckAt H2 d → H2 m1 = some (.lst (n1.map V.str)) := fun H2 b _ => b _ _ (deck_ne hd h1 names_ne) h1
    refine and_if (p1 := decide (way < 4)) (p2 := decide (room > b)) (fun Q q => ⟨_, rfl, _, _, rfl, rfl, _, rfl, q⟩) (fun Q q => ⟨_, rfl, _, rfl, _, _, rfl, rfl, _, rfl, q⟩) (fun e1 e2 => ?_) (fun ne1 => ?_)
    · have rb : b < room := of_decide_eq_true e2
      refine ⟨_, rfl, _, rfl, _, rfl, _, rfl, _, rfl, _, rfl, (by show 6 ≤ sizeLine; decide), fun bl hbl => ?_⟩
      have fr2 : FrameAt (upd H1 bl (.lst [.int b, .str z, .ref m2, .ref m2, .ref m3, .bl false])) bl b z := by
        have g2 := bt _ _ (deck_ne hd h2 names_ne) h2
        have g3 := bt _ _ (deck_ne hd h3 names_ne) h3
        exact ⟨m2, m2, m3, n2, n2, n3, upd_same, upd_other g2 hbl, upd_other g2 hbl, upd_other g3 hbl, o2, o2, o3⟩
      have d2 := hd1.new (o := .lst [.int b, .str z, .ref m2, .ref m2, .ref m3, .bl false]) hbl
      have bt2 := bt.new hbl (.lst [.int b, .str z, .ref m2, .ref m2, .ref m3, .bl false])
      generalize upd H1 bl (.lst [.int b, .str z, .ref m2, .ref m2, .ref m3, .bl false]) = H2 at fr2 d2 bt2
      have hq : 1 ≤ (room - 1).fdiv b ∧ b * (room - 1).fdiv b ≤ room - 1 := by
        rw [Int.fdiv_eq_ediv_of_nonneg _ (by omega)]
        rcases (show b = 2 ∨ b = 3 ∨ b = 4 by omega) with rfl | rfl | rfl <;> omega
      generalize hr' : (room - 1).fdiv b = r at hq
      have rr : r ≤ room - 1 := by
        rcases (show b = 2 ∨ b = 3 ∨ b = 4 by omega) with rfl | rfl | rfl <;> omega
      refine ⟨_, rfl, b, rfl, by omega, by omega, fun D hD => ?_⟩
      have nD : D ≠ d := fun z => by
        obtain ⟨x, y, k, _, _, g⟩ := d2
        rw [← z, hD] at g
        cases g
      refine lc_range (lo := 0) (n := b.toNat) (fun i H3 => But d H2 H3 ∧ DeckAt H3 d ∧ ∃ ws l, H3 D = some (.lst ws) ∧ TrAll (without D (newPart H H3)) ws l ∧ l.length = i ∧ Tr.OkL b l ∧ (Tr.knotsL l : Int) ≤ i * r)
        ⟨But.refl.new hD _, d2.new hD, [], [], upd_same, .nil, rfl, .nil, by simp [Tr.knotsL]⟩ ?_ ?_
      · rintro i H3 hi ⟨b3, d3, ws, l, g, tr, ll, okl, kl⟩
        refine ⟨rfl, turn_yes ?_⟩
        refine ⟨_, rfl, _, rfl, _, rfl, _, _, rfl, rfl, _, rfl, _, _, rfl, rfl, ⟨by omega, by omega⟩, _, rfl, d, bl, r, parts, b, z, by show [V.ref d, V.ref bl, V.int ((room - 1).fdiv b), V.int parts] = _; rw [hr'], d3, fr2.but d2 b3, hz, b2, b4, by omega, by omega, by omega, fun v H4 t bt4 d4 trn ok k => ⟨ws, bt4 _ _ nD g, ?_, ?_⟩⟩
        · have wl : ws.length = l.length := tr.len
          exact Nat.lt_of_lt_of_le (by omega : ws.length < 1000) (small_line (Nat.le_refl _))
        have bb := b3.trans bt4
        have bu : But d H2 (upd H4 D (.lst (ws ++ [v]))) := fun c o n hc => by
          rw [upd_ne (ne_of_none hc hD)]
          exact bb c o n hc
        have du : DeckAt (upd H4 D (.lst (ws ++ [v]))) d := by
          obtain ⟨x, y, k, h1, h2, e⟩ := d4
          exact ⟨x, y, k, h1, h2, by rw [upd_ne (Ne.symm nD)]; exact e⟩
        refine ⟨bu, du, ws ++ [v], l ++ [t], upd_same, ?_, ?_, ?_, ?_⟩
        · refine TrAll.snoc (TrAll.same (fun c o h => ?_) l _ tr) (TrAt.same (fun c o h => ?_) t _ trn)
          · obtain ⟨n, e⟩ := without_some h
            obtain ⟨e0, e'⟩ := newPart_some e
            refine without_at n (newPart_at e0 ?_)
            rw [upd_ne n]
            refine bt4 c o (fun z => ?_) e'
            obtain ⟨x, y, k, _, _, gd⟩ := hd
            rw [← z, e0] at gd
            cases gd
          · obtain ⟨e0, e'⟩ := newPart_some h
            have n : c ≠ D := fun z => by
              rw [z, g] at e0
              cases e0
            refine without_at n (newPart_at (but_free (bt2.trans b3) d3 e0) ?_)
            rw [upd_ne n]
            exact e'
        · rw [List.length_append, ll]
          rfl
        · exact OkL.snoc okl ok
        · rw [knots_snoc]
          have : ((i + 1 : Nat) : Int) * r = i * r + r := by
            rw [Int.natCast_add, Int.add_mul]
            simp
          rw [this]
          omega
      · rintro H3 ⟨b3, d3, ws, l, g, tr, ll, okl, kl⟩
        refine ⟨(by show 2 ≤ sizeLine; decide), fun p hp => ?_⟩
        have all := bt2.trans b3
        have hD0 : H D = none := but_free bt2 d2 hD
        have np := (But.refl (d := d) (H := H3)).new hp (.tup [.str "weave", .ref D])
        refine q _ _ (.weave l) (all.new hp _) (d3.new hp) (.weave (newPart_at (but_free all d3 hp) upd_same) (newPart_at hD0 (upd_other g hp)) (TrAll.same (fun c o h => ?_) l _ tr)) (.weave (by omega) okl) ?_
        · obtain ⟨n, e⟩ := without_some h
          obtain ⟨e0, e'⟩ := newPart_some e
          exact newPart_at e0 (upd_other e' hp)
        · simp only [Tr.knots]
          have eb : ((b.toNat : Nat) : Int) = b := by omega
          rw [eb] at kl
          omega
    refine and_if (p1 := decide (way = 4)) (p2 := decide (parts > 0)) (fun Q q => ⟨_, rfl, rfl, _, rfl, by rw [dec_int]; exact q⟩) (fun Q q => ⟨_, rfl, _, _, rfl, rfl, _, rfl, q⟩) (fun e1 e2 => ?_) (fun ne2 => ?_)
    · have w4 := of_decide_eq_true e1
      have rm : 2 ≤ room := by
        by_cases c : room ≤ 1
        · have := wr c
          omega
        · omega
      refine ⟨_, rfl, _, rfl, _, rfl, _, rfl, _, rfl, _, rfl, (by show 6 ≤ sizeLine; decide), fun bl hbl => ?_⟩
      have fr2 : FrameAt (upd H1 bl (.lst [.int b, .str z, .ref m3, .ref m3, .ref m3, .bl false])) bl b z := by
        have g := bt _ _ (deck_ne hd h3 names_ne) h3
        exact ⟨m3, m3, m3, n3, n3, n3, upd_same, upd_other g hbl, upd_other g hbl, upd_other g hbl, o3, o3, o3⟩
      have d2 := hd1.new (o := .lst [.int b, .str z, .ref m3, .ref m3, .ref m3, .bl false]) hbl
      have bt2 := bt.new hbl (.lst [.int b, .str z, .ref m3, .ref m3, .ref m3, .bl false])
      refine ⟨_, rfl, _, rfl, d, b, rfl, by omega, by omega, d2, fun j H3 j0 jb bt3 d3 => ?_⟩
      refine ⟨_, rfl, _, rfl, _, rfl, _, _, rfl, rfl, _, rfl, _, _, rfl, rfl, d, bl, room - 1, parts - 1, b, z, rfl, d3, fr2.but d2 bt3, hz, b2, b4, by omega, by omega, by omega, fun v H4 t bt4 d4 tr ok k => ⟨(by show 3 ≤ sizeLine; decide), fun p hp => ?_⟩⟩
      have b34 := bt2.trans bt3
      have all := b34.trans bt4
      exact q _ _ (.part j t) (all.new hp _) (d4.new hp) (.part (newPart_at (but_free all d4 hp) upd_same) (TrAt.same (new_same b34 d3 ((But.refl).new hp _)) t _ tr)) (.part j0 jb ok) (by simp only [Tr.knots]; omega)
    refine one_if (p1 := decide (way = 5)) (fun Q q => ⟨_, rfl, rfl, _, rfl, by rw [dec_int]; exact q⟩) (fun e1 => ?_) (fun ne3 => ?_)
    · have w5 := of_decide_eq_true e1
      have rm : 2 ≤ room := by
        by_cases c : room ≤ 1
        · have := wr c
          omega
        · omega
      refine seq_join (fun v H2 => ∃ c : Int, v = .int c ∧ 1 ≤ c ∧ c ≤ 9 ∧ But d H1 H2 ∧ DeckAt H2 d) (fun Q1 hQ => ?_) ?_
      · refine ⟨_, rfl, _, rfl, iteF ⟨(by show 5 ≤ sizeLine; decide), fun l5 hl5 => ?_⟩⟩
        refine ⟨_, rfl, d, 5, rfl, by decide, by decide, hd1.new hl5, fun r H2 r0 r5 bt2 d2 => ?_⟩
        have g5 : H2 l5 = some (.lst [.int 1, .int 1, .int 2, .int 3, .int 9]) := bt2 _ _ (deck_ne (o := .lst [.int 1, .int 1, .int 2, .int 3, .int 9]) (hd1.new hl5) upd_same (by intro a m k z; cases z)) upd_same
        have bb := (But.refl.new hl5 (.lst [V.int 1, .int 1, .int 2, .int 3, .int 9])).trans bt2
        have key : ∃ c : Int, atI [V.int 1, .int 1, .int 2, .int 3, .int 9] r = some (.int c) ∧ 1 ≤ c ∧ c ≤ 9 := by
          rcases (show r = 0 ∨ r = 1 ∨ r = 2 ∨ r = 3 ∨ r = 4 by omega) with rfl | rfl | rfl | rfl | rfl
          · exact ⟨1, rfl, by decide, by decide⟩
          · exact ⟨1, rfl, by decide, by decide⟩
          · exact ⟨2, rfl, by decide, by decide⟩
          · exact ⟨3, rfl, by decide, by decide⟩
          · exact ⟨9, rfl, by decide, by decide⟩
        obtain ⟨c, ec, c1, c9⟩ := key
        exact ⟨l5, _, _, _, rfl, rfl, SqL.of g5, ec, hQ _ _ ⟨c, rfl, c1, c9, bb, d2⟩⟩
      rintro _ H2 ⟨c, rfl, c1, c9, bt2, d2⟩
      refine ⟨_, rfl, _, rfl, _, rfl, _, rfl, _, _, rfl, rfl, _, rfl, d, fr, room - 1, parts, b, z, rfl, d2, hf1.but hd1 bt2, hz, b2, b4, by omega, by omega, by omega, fun v H4 t bt4 d4 tr ok k => ⟨(by show 3 ≤ sizeLine; decide), fun p hp => ?_⟩⟩
      have b34 := bt.trans bt2
      have all := b34.trans bt4
      exact q _ _ (.drop c t) (all.new hp _) (d4.new hp) (.drop (newPart_at (but_free all d4 hp) upd_same) (TrAt.same (new_same b34 d2 ((But.refl).new hp _)) t _ tr)) (.drop c1 c9 ok) (by simp only [Tr.knots]; omega)
    refine and_if (p1 := decide (way < 8)) (p2 := decide (room > 2)) (fun Q q => ⟨_, rfl, _, _, rfl, rfl, _, rfl, q⟩) (fun Q q => ⟨_, rfl, _, _, rfl, rfl, _, rfl, q⟩) (fun e1 e2 => ?_) (fun ne4 => ?_)
    · have rm : 2 < room := of_decide_eq_true e2
      refine ⟨_, rfl, _, rfl, _, rfl, d, m1, z, n1, rfl, hd1, hz, lf H1 bt hd1, o1.1, o1.2, fun v1 H2 t1 bt2 d2 tr1 ok1 k1' => ?_⟩
      refine ⟨_, rfl, _, rfl, _, rfl, _, _, rfl, rfl, _, rfl, d, fr, room - 2, parts, b, z, rfl, d2, hf1.but hd1 bt2, hz, b2, b4, by omega, by omega, by omega, fun v H4 t bt4 d4 tr ok k => ⟨(by show 3 ≤ sizeLine; decide), fun p hp => ?_⟩⟩
      have b34 := bt.trans bt2
      have all := b34.trans bt4
      have np := (But.refl (d := d) (H := H4)).new hp (.tup [.str "lead", v1, v])
      exact q _ _ (.lead t1 t) (all.new hp _) (d4.new hp) (.lead (newPart_at (but_free all d4 hp) upd_same) (TrAt.same (new_same bt hd1 (bt4.trans np)) t1 _ tr1) (TrAt.same (new_same b34 d2 np) t _ tr)) (.lead (ok1 b) ok) (by simp only [Tr.knots]; omega)
    refine one_if (p1 := decide (way = 8)) (fun Q q => ⟨_, rfl, rfl, _, rfl, by rw [dec_int]; exact q⟩) (fun e1 => ?_) (fun ne5 => ?_)
    · have w8 := of_decide_eq_true e1
      have rm : 2 ≤ room := by
        by_cases c : room ≤ 1
        · have := wr c
          omega
        · omega
      refine seq_join (fun v H2 => ∃ mk : Str, v = .str mk ∧ lettered 4 mk = true ∧ But d H1 H2 ∧ DeckAt H2 d) (fun Q1 hQ => ?_) ?_
      · refine ⟨⟨_, rfl⟩, _, rfl, z, rfl, fun D hD => ?_⟩
        have nD : D ≠ d := fun z => by
          obtain ⟨x, y, k, _, _, g⟩ := hd1
          rw [← z, hD] at g
          cases g
        have zl : z.cps.size = z.length := rfl
        refine L2.lc_it L2.walk_str (fun i H2 => But d H1 H2 ∧ DeckAt H2 d ∧ ∃ ys : List Str, H2 D = some (.lst (ys.map V.str)) ∧ ys.length = i ∧ ∀ y ∈ ys, ∃ c, y = ⟨#[c]⟩ ∧ letterB c = true)
          ⟨But.refl.new hD _, hd1.new hD, [], upd_same, rfl, fun y hy => nomatch hy⟩ (fun _ _ _ _ => trivial) ?_ ?_
        · rintro i _ H2 _ hi ⟨b2', d2, ys, g, yl, yc⟩ ⟨rfl, c0, hc0, rfl⟩
          refine ⟨rfl, turn_yes ⟨_, rfl, _, rfl, d, z, rfl, by have := hz.one; omega, by have := hz.four; omega, d2, fun c H3 hc b3 d3 => ⟨ys.map V.str, b3 _ _ nD g, ?_, ?_, ?_, ys ++ [⟨#[c]⟩], ?_, ?_, ?_⟩⟩⟩
          · rw [List.length_map]
            have := hz.four
            exact Nat.lt_of_lt_of_le (by omega : ys.length < 1000) (small_line (Nat.le_refl _))
          · intro c' o n hc'
            rw [upd_ne (ne_of_none hc' hD)]
            exact (b2'.trans b3) c' o n hc'
          · obtain ⟨x, y, k, h1, h2, e⟩ := d3
            exact ⟨x, y, k, h1, h2, by rw [upd_ne (Ne.symm nD)]; exact e⟩
          · rw [upd_same, List.map_append]
            rfl
          · rw [List.length_append, yl]
            rfl
          · intro y hy
            rcases List.mem_append.mp hy with hy | hy
            · exact yc y hy
            · exact ⟨c, List.mem_singleton.mp hy, hz.low c hc⟩
        · rintro H2 ⟨b2', d2, ys, g, yl, yc⟩
          obtain ⟨j1, j2⟩ := join_letters ys yc
          have z4 := hz.four
          have z1 := hz.one
          refine ⟨"", D, ys, rfl, rfl, .inl (SqL.of g), ?_, ?_⟩
          · rw [(by decide +kernel : ("" : Str).length = 0), sum_ones yc]
            omega
          rw [TL.join_eq]
          refine hQ _ _ ⟨_, rfl, ?_, b2', d2⟩
          unfold lettered
          rw [j1, decide_eq_true (by omega), decide_eq_true (by omega), Bool.true_and, Bool.true_and, List.all_eq_true]
          exact fun c hc => j2 c hc
      rintro _ H2 ⟨mk, rfl, lm, bt2, d2⟩
      refine one_if (p1 := false) (fun Q q => ⟨_, rfl, _, rfl, q⟩) (fun e => nomatch e) (fun _ => ?_)
      refine ⟨_, rfl, _, rfl, _, rfl, _, rfl, _, _, rfl, rfl, _, rfl, d, fr, room - 1, parts, b, z, rfl, d2, hf1.but hd1 bt2, hz, b2, b4, by omega, by omega, by omega, fun v H4 t bt4 d4 tr ok k => ⟨(by show 3 ≤ sizeLine; decide), fun p hp => ?_⟩⟩
      have b34 := bt.trans bt2
      have all := b34.trans bt4
      exact q _ _ (.turn mk t) (all.new hp _) (d4.new hp) (.turn (newPart_at (but_free all d4 hp) upd_same) (TrAt.same (new_same b34 d2 ((But.refl).new hp _)) t _ tr)) (.turn lm ok) (by simp only [Tr.knots]; omega)
    refine ⟨_, rfl, _, rfl, _, rfl, d, m1, z, n1, rfl, hd1, hz, lf H1 bt hd1, o1.1, o1.2, fun v H2 t b2' d2 tr ok k => ?_⟩
    exact q _ _ t (bt.trans b2') d2 (TrAt.same (new_same bt hd1 But.refl) t _ tr) (ok b) (by rw [k]; exact r1)
end
end Wp

namespace Wp
open PySem PySem.Spec PyProof.Rows L2 Hx
def spSigns : Sp := fun vs H Q _ => ∃ (d : Addr) (k : Int), vs = [.ref d, .int k] ∧ 1 ≤ k ∧ k ≤ 4 ∧ DeckAt H d ∧ ∀ z H', Letters z → But d H H' → DeckAt H' d → Q (.str z) H'
theorem DeckAt.byt {d : Addr} {H H' : Hp} (h : DeckAt H d) (s : Same H H') : DeckAt H' d := by
  obtain ⟨x, y, z, e1, e2, e3⟩ := h
  exact ⟨x, y, z, e1, e2, s _ _ e3⟩
theorem DeckAt.off {d D : Addr} {H : Hp} (h : DeckAt H d) (n : H D = none) : d ≠ D := by
  obtain ⟨x, y, z, e1, e2, e3⟩ := h
  exact ne_of_none e3 n
theorem join_fit {ys : List Str} (h : ∀ y ∈ ys, ∃ c, y = (⟨#[c]⟩ : Str) ∧ letterB c = true) (hl : ys.length ≤ 1000) : (ys.map (·.length)).sum + ys.length * ("" : Str).length ≤ 16777216 := by
  have e0 : ("" : Str).length = 0 := by decide +kernel
  rw [e0, sum_ones h]
  omega
section
variable {P : Program} {w : World} {K : PySem.W.Frag} {mg : Str → Option Value} {base : Heap} {f fC fO fL fT fS fU : Addr} {fd fdC fdO fdL fdT fdS fdU : FuncData}
theorem scSigns : FnScope ["_law_deck_here", "_law_size", "_law_begin", "_law_pace", "_law_k"] ["_law_deck_here", "_law_size"] (defScope s_law_signs) := ⟨rfl, rfl, rfl, by decide +kernel, rfl, by decide +kernel, by decide +kernel⟩
theorem ok_signs (F : Fun K "_law_signs" "_law_signs" s_law_signs f fd) (Z : Bltn mg) (Z2 : Bltn3 mg)
    (GC : FnOk P w K mg base CX0 1 fC fdC ["_law_deck_here", "_law_top"] spCard) (bC : Binds K fdC ["_law_deck_here", "_law_top"] []) (kC : PySem.W.keepIn K (.ref fC) = true) (mC : mg "_law_card" = some (.ref fC)) :
    FnOk P w K mg base CX0 2 f fd ["_law_deck_here", "_law_size"] spSigns := by
  refine F.ok scSigns (fun vs H Q E h => ?_) (fun cdv A outer s H vs Q E hr h => ?_)
  · obtain ⟨d, k, rfl, _⟩ := h
    rfl
  obtain ⟨d, k, rfl, k1, k4, hd, q⟩ := h
  refine ⟨_, pss_cons (ps_asg (pe_tup (pa_cons (pe_call GC hr rfl mC kC bC .nil pass0 (pa_cons (pv 0) (pa_cons pe_int pa_nil))) (pa_cons (pe_ix ix_list (pe_lst (pa_cons pe_int (pa_cons pe_int (pa_cons pe_int (pa_cons pe_int (pa_cons pe_int (pa_cons pe_int pa_nil))))))) (pe_call GC hr rfl mC kC bC .nil pass0 (pa_cons (pv 0) (pa_cons pe_int pa_nil))) (fun _ _ => rfl)) pa_nil)))
      (pg_tup (by rfl) (pgs_cons (pg_name (i := 2) scSigns.nd rfl (Or.inr rfl)) (pgs_cons (pg_name (i := 3) scSigns.nd rfl (Or.inr rfl)) pgs_nil))))
    (pss_one (ps_ret (pe_join pe_str (pe_lc (own := [("_law_k", 4)]) (g := gName 4) (tt := tYes) rfl scSigns.nd (pi_range1 rfl Z2.range (pa_cons (pv 1) pa_nil))
      (blkOk_by (N := ["_law_deck_here", "_law_size", "_law_begin", "_law_pace", "_law_k"]) (sc := defScope s_law_signs) (by decide +kernel)) (fun _ _ _ _ _ => pg_name (i := 4) scSigns.nd rfl (Or.inl rfl)) (fun _ _ _ _ _ => pts_nil)
      (fun _ _ _ _ _ => pe_ix ix_str pe_str (pe_op op_mod (pe_callTy call_int1 (by rfl) Z.int PyProof.Rows.boot_int (pa_cons (pe_op op_add (pv 2) (pe_op op_mul (pv 3) (pv 4))) pa_nil)) pe_int) (fun _ _ => rfl)))))), ?_⟩
  refine ⟨_, rfl, d, 26, rfl, by decide, by decide, hd, fun r H1 r0 r1 b1 hd1 => ?_⟩
  refine ⟨(by show 6 ≤ sizeLine; decide), fun p1 n1 => ?_⟩
  refine ⟨_, rfl, d, 6, rfl, by decide, by decide, hd1.new n1, fun x H2 x0 x1 b2 hd2 => ?_⟩
  have np1 : p1 ≠ d := Ne.symm (hd1.off n1)
  obtain ⟨v, hv, ev⟩ := atI_in (xs := [V.int 1, .int 3, .int 5, .int 7, .int 9, .int 11]) x0 x1
  refine ⟨p1, _, _, v, rfl, rfl, b2.seq np1 (SqL.of upd_same), ev, ?_⟩
  obtain ⟨pace, rfl, p0, p11⟩ : ∃ i : Int, v = .int i ∧ 0 ≤ i ∧ i ≤ 11 := by
    simp only [List.mem_cons, List.not_mem_nil, or_false] at hv
    rcases hv with rfl | rfl | rfl | rfl | rfl | rfl <;> exact ⟨_, rfl, by decide, by decide⟩
  refine ⟨(by show 2 ≤ sizeLine; decide), fun pt nt => ?_⟩
  refine ⟨pt, _, rfl, SqT.of upd_same, rfl, _, _, rfl, _, _, rfl, rfl, ?_⟩
  have bH := (b1.trans ((But.refl.new n1 _).trans b2)).new nt (.tup [V.int r, .int pace])
  have hd3 : DeckAt (upd H2 pt (.tup [V.int r, .int pace])) d := hd2.new nt
  clear b1 b2 hd1 hd2 ev hv
  refine ⟨⟨_, rfl⟩, _, rfl, k, rfl, by omega, by omega, fun D hD => ?_⟩
  have al : abc.length = 26 := by decide +kernel
  refine lc_range (lo := 0) (n := k.toNat) (fun i H' => Same (upd H2 pt (.tup [V.int r, .int pace])) H' ∧ ∃ ys : List Str, ys.length = i ∧ (∀ y ∈ ys, ∃ c, y = (⟨#[c]⟩ : Str) ∧ letterB c = true) ∧ H' D = some (.lst (ys.map V.str)))
    ⟨same_new hD _, [], rfl, (by intro y hy; cases hy), upd_same⟩ ?_ ?_
  · rintro i H' hi ⟨s1, ys, rfl, hy, h1⟩
    refine ⟨rfl, turn_yes ?_⟩
    refine ⟨_, rfl, _, rfl, _, rfl, _, _, rfl, rfl, .inl ⟨by omega, by omega⟩, _, _, rfl, rfl, .inl ⟨_, rfl, ?_⟩⟩
    refine ⟨_, _, rfl, rfl, (by show (0 : Int) < 26; decide), ?_⟩
    generalize hz : (r + pace * (0 + (ys.length : Int))) % 26 = z
    have z0 : 0 ≤ z := by rw [← hz]; exact Int.emod_nonneg _ (by decide)
    have z1 : z < 26 := by rw [← hz]; exact Int.emod_lt_of_pos _ (by decide)
    obtain ⟨c, hc, ec⟩ := atI_in (xs := abc.cps.toList) z0 (by rw [abc_list]; exact z1)
    dsimp only
    rw [hz]
    refine ⟨_, _, c, rfl, rfl, (by show abc.length ≤ sizeLine; rw [al]; decide), ec, ?_⟩
    refine ⟨_, h1, ?_, fun b o hb => ?_, ys ++ [⟨#[c]⟩], by rw [List.length_append]; rfl, fun y hy2 => ?_, ?_⟩
    · rw [List.length_map]
      exact Nat.lt_of_lt_of_le (by omega : _ < 1000) (small_line (Nat.le_refl _))
    · rw [upd_ne (ne_of_none hb hD)]
      exact s1 b o hb
    · rcases List.mem_append.mp hy2 with q1 | q1
      · exact hy y q1
      · exact ⟨c, List.mem_singleton.mp q1, by rw [← is_letter]; exact decide_eq_true hc⟩
    · rw [upd_same, List.map_append]
      rfl
  · rintro H' ⟨s1, ys, hl, hy, h1⟩
    refine ⟨"", D, ys, rfl, rfl, .inl (SqL.of h1), join_fit hy (by omega), ?_⟩
    rw [TL.join_eq]
    obtain ⟨j1, j2⟩ := join_letters ys hy
    exact q _ H' ⟨by omega, by omega, j2⟩ (bH.trans (But.of s1)) (hd3.byt s1)
end
end Wp

namespace Wp
open PySem PySem.Spec PyProof.Rows L2 Hx
theorem inV_str {x : Str} : ∀ {l : List Str}, inV (.str x) (l.map V.str) = decide (x ∈ l)
  | [] => rfl
  | y :: r => by
    have ih := inV_str (x := x) (l := r)
    unfold inV at ih ⊢
    rw [List.map_cons, List.any_cons, ih]
    show (decide (y = x) || decide (x ∈ r)) = _
    by_cases h : y = x
    · subst h
      rw [decide_eq_true rfl, decide_eq_true (show y ∈ y :: r from List.mem_cons_self)]
      rfl
    · rw [decide_eq_false h, Bool.false_or]
      by_cases h2 : x ∈ r
      · rw [decide_eq_true h2, decide_eq_true (List.mem_cons_of_mem _ h2)]
      · rw [decide_eq_false h2, decide_eq_false fun z => (List.mem_cons.mp z).elim (fun e => h e.symm) h2]
theorem flat_strs : ∀ l : List Str, (l.map V.str).all flatV = true
  | [] => rfl
  | _ :: r => by rw [List.map_cons, List.all_cons, flat_strs r]; rfl
def menuT : List Str := ["x", "row", "in", "base", "full", "handed", "weav", "parts", "turns", "ab", "abc", "zzzzzzzz"]
def spareT : List Str := ["na", "nb", "nc", "nd", "ne", "nf", "ng", "nh"]
/-- a string of one to eight letters -/
def T8 (x : Str) : Prop := lettered 8 x = true ∧ PyData.strOk x = true
theorem menu_t8 : ∀ x ∈ menuT, T8 x := by
  have h : ∀ x ∈ menuT, lettered 8 x = true ∧ PyData.strOk x = true := by decide +kernel
  exact h
theorem spare_t8 : ∀ x ∈ spareT, T8 x := by
  have h : ∀ x ∈ spareT, lettered 8 x = true ∧ PyData.strOk x = true := by decide +kernel
  exact h
theorem letters_ok {x : Str} (h : ∀ c ∈ x.cps.toList, letterB c = true) : PyData.strOk x = true := by
  unfold PyData.strOk
  rw [← Array.all_toList]
  refine List.all_eq_true.mpr fun c hc => ?_
  have := of_decide_eq_true (h c hc)
  exact decide_eq_true (by omega)
theorem t8_of {x : Str} (h1 : 1 ≤ x.length) (h8 : x.length ≤ 8) (h : ∀ c ∈ x.cps.toList, letterB c = true) : T8 x := by
  refine ⟨?_, letters_ok h⟩
  unfold lettered
  rw [decide_eq_true (by omega), decide_eq_true (by omega), Bool.true_and, Bool.true_and]
  exact List.all_eq_true.mpr h
theorem if_join {c : TT} {t u w : TS} {D : Ends} {σ : L2.St} {H : Hp} (P : L2.St → Hp → Prop)
    (h : ∀ N : L2.St → Hp → Prop, (∀ σ' H', P σ' H' → N σ' H') → tIfS c t u { D with nx := N } σ H) (hq : ∀ σ' H', P σ' H' → w D σ' H') : tSeq (tIfS c t u) w D σ H := h _ hq
theorem nx_go {u : Ends → L2.St → Hp → Prop} {D D' : Ends} {σ : L2.St} {H : Hp} (h : u D σ H) : Ends.nx { D' with nx := u D } σ H := h
/-- one of the spare names is free -/
theorem spare_free {ns : List Str} (h : ns.length ≤ 2) : ∃ x ∈ spareT, x ∉ noNames ++ ns := by
  refine Classical.byContradiction fun z => ?_
  have all : ∀ x ∈ spareT, x ∈ ns := fun x hx => by
    have y : x ∈ noNames ++ ns := Classical.byContradiction fun n => z ⟨x, hx, n⟩
    rcases List.mem_append.mp y with y | y
    · have no : ∀ x ∈ spareT, x ∉ noNames := by decide +kernel
      exact absurd y (no x hx)
    · exact y
  have nd : spareT.Nodup := by decide +kernel
  have := sub_len nd all
  have l8 : spareT.length = 8 := rfl
  omega
def spTitles : Sp := fun vs H Q _ => ∃ (d t : Addr) (k : Int), vs = [.ref d, .int k, .ref t] ∧ 1 ≤ k ∧ k ≤ 3 ∧ DeckAt H d ∧ H t = some (.lst []) ∧
  ∀ p ns H', Nms ns → 0 < ns.length → But d H H' → DeckAt H' d → H p = none → H' p = some (.lst (ns.map V.str)) → Q (.ref p) H'
section
variable {P : Program} {w : World} {K : PySem.W.Frag} {mg : Str → Option Value} {base : Heap} {f fC fO fL fT fS fU : Addr} {fd fdC fdO fdL fdT fdS fdU : FuncData}
def NT : List Str := ["_law_deck_here", "_law_size", "_law_taken", "_law_menu", "_law_letters_here", "_law_found", "_law_k", "_law_title", "_law_banned", "_law_spare", "_law_turn", "_law_each"]
theorem scTitles : FnScope NT ["_law_deck_here", "_law_size", "_law_taken"] (defScope s_law_titles) := ⟨rfl, rfl, rfl, by decide +kernel, rfl, by decide +kernel, by decide +kernel⟩
theorem ok_titles (F : Fun K "_law_titles" "_law_titles" s_law_titles f fd) (Z2 : Bltn3 mg)
    (GC : FnOk P w K mg base CX0 1 fC fdC ["_law_deck_here", "_law_top"] spCard) (bC : Binds K fdC ["_law_deck_here", "_law_top"] []) (kC : PySem.W.keepIn K (.ref fC) = true) (mC : mg "_law_card" = some (.ref fC))
    (GO : FnOk P w K mg base CX0 2 fO fdO ["_law_deck_here", "_law_menu"] (spOf K)) (GS : FnOk P w K mg base CX0 2 fO fdO ["_law_deck_here", "_law_menu"] spOfS) (bO : Binds K fdO ["_law_deck_here", "_law_menu"] []) (kO : PySem.W.keepIn K (.ref fO) = true) (mO : mg "_law_of" = some (.ref fO)) :
    FnOk P w K mg base CX0 3 f fd ["_law_deck_here", "_law_size", "_law_taken"] spTitles := by
  refine F.ok scTitles (fun vs H Q E h => ?_) (fun cdv A outer s H vs Q E hr h => ?_)
  · obtain ⟨d, t, k, rfl, _⟩ := h
    rfl
  obtain ⟨d, t, k, rfl, k1, k3, hd, ht, q⟩ := h
  have r1 := hr.mono (by decide : 1 ≤ 2)
  refine ⟨_, pss_cons (ps_set (i := 3) scTitles.nd rfl (Or.inl rfl) (pe_lst (pa_cons pe_str (pa_cons pe_str (pa_cons pe_str (pa_cons pe_str (pa_cons pe_str (pa_cons pe_str (pa_cons pe_str (pa_cons pe_str (pa_cons pe_str (pa_cons pe_str (pa_cons pe_str (pa_cons pe_str pa_nil))))))))))))))
    (pss_cons (ps_asg (pe_tup (pa_cons pe_str (pa_cons (pe_lst pa_nil) pa_nil))) (pg_tup (by rfl) (pgs_cons (pg_name (i := 4) scTitles.nd rfl (Or.inr rfl)) (pgs_cons (pg_name (i := 5) scTitles.nd rfl (Or.inl rfl)) pgs_nil))))
    (pss_cons (ps_for PassesOwn.never rfl (pi_range1 rfl Z2.range (pa_cons (pv 1) pa_nil)) (pg_name (i := 6) scTitles.nd rfl (Or.inl rfl))
      (pss_cons (ps_set (i := 7) scTitles.nd rfl (Or.inl rfl) (pe_call GO hr rfl mO kO bO .nil pass0 (pa_cons (pv 0) (pa_cons (pv 3) pa_nil))))
      (pss_cons (ps_if (pt_cmpR op_eq (pe_call GC r1 rfl mC kC bC .nil pass0 (pa_cons (pv 0) (pa_cons pe_int pa_nil))) pe_int (nomark _))
        (pss_one (ps_set (i := 7) scTitles.nd rfl (Or.inl rfl) (pe_join pe_str (pe_lc (te := tCall spOfS [] E0 (tCons (tVar 0) (tCons (tVar 4) tNil))) (own := [("_law_turn", 10)]) (g := gName 10) (tt := tYes) rfl scTitles.nd
          (pi_range1 rfl Z2.range (pa_cons (pe_op op_add pe_int (pe_call GC r1 rfl mC kC bC .nil pass0 (pa_cons (pv 0) (pa_cons pe_int pa_nil)))) pa_nil))
          (blkOk_by (N := NT) (sc := defScope s_law_titles) (by decide +kernel)) (fun _ _ _ _ _ => pg_name (i := 10) scTitles.nd rfl (Or.inl rfl)) (fun _ _ _ _ _ => pts_nil)
          (fun _ _ _ _ _ => pe_call GS hr rfl mO kO bO .nil pass0 (pa_cons (pv 0) (pa_cons (pv 4) pa_nil))))))) pss_nil)
      (pss_cons (ps_set (i := 8) scTitles.nd rfl (Or.inr rfl) (pe_op op_cat (pe_op op_cat (pe_lst (pa_cons pe_str (pa_cons pe_str (pa_cons pe_str (pa_cons pe_str (pa_cons pe_str pa_nil)))))) (pv 2)) (pv 5)))
      (pss_cons (ps_set (i := 9) scTitles.nd rfl (Or.inl rfl) (pe_lst (pa_cons pe_str (pa_cons pe_str (pa_cons pe_str (pa_cons pe_str (pa_cons pe_str (pa_cons pe_str (pa_cons pe_str (pa_cons pe_str pa_nil))))))))))
      (pss_one (ps_expr (pe_bm PySem.F.plainAttrs_list PySem.F.slot_list_append PySem.F.type_list_append mt_append (pv 5) (pa_cons
        (pe_ix ix_list (pe_lc (te := tVar 11) (own := [("_law_each", 11)]) (g := gName 11) (tt := tTest (tOp (rIn K true) (tVar 11) (tVar 8))) rfl scTitles.nd
          (pi_list (pe_op op_cat (pe_lst (pa_cons (pv 7) pa_nil)) (pv 9)))
          (blkOk_by (N := NT) (sc := defScope s_law_titles) (by decide +kernel)) (fun _ _ _ _ _ => pg_name (i := 11) scTitles.nd rfl (Or.inl rfl)) (fun _ _ _ _ _ => pts_one (pt_cmpR op_notIn_seq (pv 11) (pv 8) (by rfl)))
          (fun _ _ _ _ _ => pv 11)) pe_int (fun _ _ => rfl)) pa_nil)))))))))
    (pss_one (ps_ret (pv 5))))), ?_⟩
  have ntd : t ≠ d := deck_ne hd ht (by intro a m k z; cases z)
  refine ⟨(by show 12 ≤ sizeLine; decide), fun pm nm => ?_⟩
  have b1 : But d H (upd H pm (.lst (menuT.map V.str))) := But.refl.new nm _
  have hd1 : DeckAt (upd H pm (.lst (menuT.map V.str))) d := hd.new nm
  have ht1 : (upd H pm (.lst (menuT.map V.str))) t = some (.lst []) := upd_other ht nm
  have hm1 : (upd H pm (.lst (menuT.map V.str))) pm = some (.lst (menuT.map V.str)) := upd_same
  have nmd : pm ≠ d := Ne.symm (hd.off nm)
  refine ⟨(by show 0 ≤ sizeLine; decide), fun pf nf => ?_⟩
  refine ⟨(by show 2 ≤ sizeLine; decide), fun pt nt => ?_⟩
  refine ⟨pt, _, rfl, SqT.of upd_same, rfl, _, _, rfl, _, _, rfl, rfl, ?_⟩
  have nf0 : H pf = none := but_free b1 hd1 nf
  have b3 := ((But.refl (d := d)).new nf (.lst [])).new nt (.tup [V.str "abcdefghijklmnopqrstuvwxyz", .ref pf])
  have hd3 := (hd1.new (o := .lst []) nf).new (o := .tup [V.str "abcdefghijklmnopqrstuvwxyz", .ref pf]) nt
  have hf3 : (upd (upd (upd H pm (.lst (menuT.map V.str))) pf (.lst [])) pt (.tup [V.str "abcdefghijklmnopqrstuvwxyz", .ref pf])) pf = some (.lst []) := upd_other upd_same nt
  have npf : pf ≠ d := Ne.symm (hd1.off nf)
  have goal : ∀ σ H', (But d (upd H pm (.lst (menuT.map V.str))) H' ∧ DeckAt H' d ∧ ∃ ns : List Str, ns.length = k.toNat ∧ (∀ n ∈ ns, nameB n = true ∧ PyData.strOk n = true) ∧ H' pf = some (.lst (ns.map V.str)) ∧
      ∃ v6 v7 v8 v9 v10 v11, σ = [some (.ref d), some (.int k), some (.ref t), some (.ref pm), some (.str abc), some (.ref pf), v6, v7, v8, v9, v10, v11]) →
      tRet (tVar 5) { nx := fun x H' => Q .non H', rt := Q } σ H' := by
    rintro σ H' ⟨bb, hdd, ns, ln, hn, hp, v6, v7, v8, v9, v10, v11, rfl⟩
    exact ⟨_, rfl, q pf ns H' ⟨hn, by omega⟩ (by omega) (b1.trans bb) hdd nf0 hp⟩
  refine ⟨_, rfl, k, rfl, by omega, by omega, ?_⟩
  refine for_range (lo := 0) (n := k.toNat) (fun i σ H' => But d (upd H pm (.lst (menuT.map V.str))) H' ∧ DeckAt H' d ∧ ∃ ns : List Str, ns.length = i ∧ (∀ n ∈ ns, nameB n = true ∧ PyData.strOk n = true) ∧ H' pf = some (.lst (ns.map V.str)) ∧
      ∃ v6 v7 v8 v9 v10 v11, σ = [some (.ref d), some (.int k), some (.ref t), some (.ref pm), some (.str abc), some (.ref pf), v6, v7, v8, v9, v10, v11])
    ⟨b3, hd3, [], rfl, (by intro n hn; cases hn), hf3, none, none, none, none, none, none, rfl⟩ ?_ goal
  clear goal b3 hd3 hf3 nt
  rintro i σ H3 hi ⟨b3, hd3, ns, rfl, hns, hf3, v6, v7, v8, v9, v10, v11, rfl⟩
  have hm3 := b3 pm _ nmd hm1
  have ht3 := b3 t _ ntd ht1
  have n2 : ns.length ≤ 2 := by omega
  -- a title
  refine seq_set ?_
  refine ⟨_, rfl, _, rfl, d, pm, menuT.map V.str, rfl, Ne.symm nmd, SqL.of hm3, by decide, by decide, hd3, fun v H4 hv b4 hd4 => ?_⟩
  obtain ⟨title, htl, rfl⟩ := List.mem_map.mp hv
  have t8 := menu_t8 title htl
  refine if_join (fun σ' H' => But d H4 H' ∧ DeckAt H' d ∧ ∃ title v10', T8 title ∧ σ' = [some (.ref d), some (.int k), some (.ref t), some (.ref pm), some (.str abc), some (.ref pf), some (.int (0 + (ns.length : Int))), some (.str title), v8, v9, v10', v11]) (fun Nx hN => ?_) ?_
  · refine ⟨_, rfl, d, 2, rfl, by decide, by decide, hd4, fun r H5 _ _ b5 hd5 => ⟨rfl, _, rfl, ?_⟩⟩
    refine ite2 (fun _ => ?_) (fun _ => ?_)
    · refine ⟨⟨_, rfl⟩, _, rfl, d, 8, rfl, by decide, by decide, hd5, fun r2 H6 y0 y1 b6 hd6 => ⟨_, _, rfl, rfl, _, rfl, by omega, by omega, fun D hD => ?_⟩⟩
      have nD := hd6.off hD
      refine lc_range (lo := 0) (n := (1 + r2).toNat) (fun i H' => But d H6 H' ∧ DeckAt H' d ∧ ∃ ys : List Str, ys.length = i ∧ (∀ y ∈ ys, ∃ c, y = (⟨#[c]⟩ : Str) ∧ letterB c = true) ∧ H' D = some (.lst (ys.map V.str)))
        ⟨But.refl.new hD _, hd6.new hD, [], rfl, (by intro y hy; cases hy), upd_same⟩ ?_ ?_
      · rintro i H7 hi2 ⟨b7, hd7, ys, rfl, hy, h1⟩
        have al : abc.length = 26 := by decide +kernel
        refine ⟨rfl, turn_yes ⟨_, rfl, _, rfl, d, abc, rfl, by rw [al]; decide, by rw [al]; decide, hd7, fun c H8 hc b8 hd8 => ?_⟩⟩
        have h2 := b8 D _ (Ne.symm nD) h1
        refine ⟨_, h2, ?_, ?_, ?_, ys ++ [⟨#[c]⟩], by rw [List.length_append]; rfl, fun y hy2 => ?_, ?_⟩
        · rw [List.length_map]
          exact Nat.lt_of_lt_of_le (by omega : _ < 1000) (small_line (Nat.le_refl _))
        · intro x o nx hx
          rw [upd_ne (ne_of_none hx hD)]
          exact b8 x o nx (b7 x o nx hx)
        · obtain ⟨x, y, z, e1, e2, e3⟩ := hd8
          exact ⟨x, y, z, e1, e2, by rw [upd_ne nD]; exact e3⟩
        · rcases List.mem_append.mp hy2 with q1 | q1
          · exact hy y q1
          · exact ⟨c, List.mem_singleton.mp q1, by rw [← is_letter]; exact decide_eq_true hc⟩
        · rw [upd_same, List.map_append]
          rfl
      · rintro H7 ⟨b7, hd7, ys, hl, hy, h1⟩
        refine ⟨"", D, ys, rfl, rfl, .inl (SqL.of h1), join_fit hy (by omega), ?_⟩
        rw [TL.join_eq]
        obtain ⟨j1, j2⟩ := join_letters ys hy
        exact hN _ _ ⟨(b5.trans b6).trans b7, hd7, _, v10, t8_of (by omega) (by omega) j2, rfl⟩
    · exact hN _ _ ⟨b5, hd5, title, v10, t8, rfl⟩
  clear t8 htl hv title
  rintro σ' H5 ⟨b5, hd5, title, v10', t8, rfl⟩
  have bA := (b3.trans b4).trans b5
  have hf5 := b5 pf _ npf (b4 pf _ npf hf3)
  have ht5 := b5 t _ ntd (b4 t _ ntd ht3)
  clear b3 b4 b5 hd3 hd4 hf3 ht3 hm3
  -- banned, spare
  refine seq_set ?_
  refine ⟨(by show 5 ≤ sizeLine; decide), fun q1 m1 => ?_⟩
  have npf1 : pf ≠ q1 := ne_of_none hf5 m1
  refine ⟨_, rfl, q1, t, _, _, rfl, rfl, upd_same, upd_other ht5 m1, (by show 5 + 0 ≤ sizeLine; decide), fun q2 m2 => ?_⟩
  have h1 := upd_other (o := .lst [V.str "weave", .str "part", .str "drop", .str "lead", .str "turn"]) hf5 m1
  have h2 := upd_other (o := .lst ([V.str "weave", .str "part", .str "drop", .str "lead", .str "turn"] ++ [])) h1 m2
  refine ⟨_, rfl, q2, pf, _, _, rfl, rfl, upd_same, h2, (by show 5 + _ ≤ sizeLine; rw [List.length_map]; exact small_line (by omega)), fun q3 m3 => ?_⟩
  have h3 := upd_other (o := .lst ([V.str "weave", .str "part", .str "drop", .str "lead", .str "turn"] ++ [] ++ ns.map V.str)) h2 m3
  have ss := ((same_new m1 (.lst [V.str "weave", .str "part", .str "drop", .str "lead", .str "turn"])).trans (same_new m2 (.lst ([V.str "weave", .str "part", .str "drop", .str "lead", .str "turn"] ++ [])))).trans (same_new m3 (.lst ([V.str "weave", .str "part", .str "drop", .str "lead", .str "turn"] ++ [] ++ ns.map V.str)))
  have hb : (upd (upd (upd H5 q1 (.lst [V.str "weave", .str "part", .str "drop", .str "lead", .str "turn"])) q2 (.lst ([V.str "weave", .str "part", .str "drop", .str "lead", .str "turn"] ++ []))) q3 (.lst ([V.str "weave", .str "part", .str "drop", .str "lead", .str "turn"] ++ [] ++ ns.map V.str))) q3 = some (.lst ((noNames ++ ns).map V.str)) := by
    rw [upd_same, List.append_nil, List.map_append]
    rfl
  have bB := bA.trans (But.of ss)
  have hdB := hd5.byt ss
  clear ss h1 h2 npf1 ht5 hf5 bA hd5
  generalize (upd (upd (upd H5 q1 (.lst [V.str "weave", .str "part", .str "drop", .str "lead", .str "turn"])) q2 (.lst ([V.str "weave", .str "part", .str "drop", .str "lead", .str "turn"] ++ []))) q3 (.lst ([V.str "weave", .str "part", .str "drop", .str "lead", .str "turn"] ++ [] ++ ns.map V.str))) = H6 at *
  refine seq_set ?_
  refine ⟨(by show 8 ≤ sizeLine; decide), fun q4 m4 => ?_⟩
  have hs : (upd H6 q4 (.lst [V.str "na", .str "nb", .str "nc", .str "nd", .str "ne", .str "nf", .str "ng", .str "nh"])) q4 = some (.lst [V.str "na", .str "nb", .str "nc", .str "nd", .str "ne", .str "nf", .str "ng", .str "nh"]) := upd_same
  have hb4 := upd_other (o := .lst [V.str "na", .str "nb", .str "nc", .str "nd", .str "ne", .str "nf", .str "ng", .str "nh"]) hb m4
  have hf4 := upd_other (o := .lst [V.str "na", .str "nb", .str "nc", .str "nd", .str "ne", .str "nf", .str "ng", .str "nh"]) h3 m4
  have bC := bB.new m4 (.lst [V.str "na", .str "nb", .str "nc", .str "nd", .str "ne", .str "nf", .str "ng", .str "nh"])
  have hdC : DeckAt (upd H6 q4 (.lst [V.str "na", .str "nb", .str "nc", .str "nd", .str "ne", .str "nf", .str "ng", .str "nh"])) d := hdB.new m4
  clear bB hdB hb h3
  refine ⟨_, rfl, .inl ⟨rfl, _, SqL.of hf4⟩, ?_⟩
  refine ⟨_, rfl, (by show 1 ≤ sizeLine; decide), fun q5 m5 => ?_⟩
  have c1 : (upd (upd H6 q4 (.lst [V.str "na", .str "nb", .str "nc", .str "nd", .str "ne", .str "nf", .str "ng", .str "nh"])) q5 (.lst [V.str title])) q5 = some (.lst [V.str title]) := upd_same
  have c2 := upd_other (o := .lst [V.str title]) hs m5
  refine ⟨_, rfl, q5, q4, _, _, rfl, rfl, c1, c2, (by show 1 + 8 ≤ sizeLine; decide), fun q6 m6 => ?_⟩
  have s6 := (same_new m5 (.lst [V.str title])).trans (same_new m6 (.lst ([V.str title] ++ [V.str "na", .str "nb", .str "nc", .str "nd", .str "ne", .str "nf", .str "ng", .str "nh"])))
  have hx : (upd (upd (upd H6 q4 (.lst [V.str "na", .str "nb", .str "nc", .str "nd", .str "ne", .str "nf", .str "ng", .str "nh"])) q5 (.lst [V.str title])) q6 (.lst ([V.str title] ++ [V.str "na", .str "nb", .str "nc", .str "nd", .str "ne", .str "nf", .str "ng", .str "nh"]))) q6 = some (.lst ((title :: spareT).map V.str)) := upd_same
  have hb6 := s6 _ _ hb4
  have hf6 := s6 _ _ hf4
  have bD := bC.trans (But.of s6)
  have hdD := hdC.byt s6
  clear c1 c2 s6 hb4 hf4 bC hdC hs
  generalize (upd (upd (upd H6 q4 (.lst [V.str "na", .str "nb", .str "nc", .str "nd", .str "ne", .str "nf", .str "ng", .str "nh"])) q5 (.lst [V.str title])) q6 (.lst ([V.str title] ++ [V.str "na", .str "nb", .str "nc", .str "nd", .str "ne", .str "nf", .str "ng", .str "nh"]))) = H7 at *
  clear m1 m2 m3 m4 m5 m6
  refine ⟨q6, rfl, ⟨_, SqL.of hx⟩, fun D hD => ?_⟩
  have nD := hdD.off hD
  have fin : ∀ z : Str, z ∉ noNames ++ ns → T8 z → nameB z = true ∧ PyData.strOk z = true := by
    intro z hz t8z
    refine ⟨?_, t8z.2⟩
    unfold nameB
    rw [t8z.1, inV_str, decide_eq_false fun y => hz (List.mem_append_left _ y)]
    rfl
  have all8 : ∀ z ∈ title :: spareT, T8 z := fun z hz => by
    rcases List.mem_cons.mp hz with rfl | hz
    · exact t8
    · exact spare_t8 z hz
  refine lc_list (K := K) (a := q6) (xs := (title :: spareT).map V.str) (fun i H' => Same H7 H' ∧ H' D = some (.lst ((((title :: spareT).take i).filter fun x => !decide (x ∈ noNames ++ ns)).map V.str))) ⟨same_new hD _, upd_same⟩ (fun i H' _ z => SqL.of (z.1 _ _ hx)) ?_ ?_
  · rintro i x H' hxi ⟨s1, g1⟩
    rw [List.getElem?_map] at hxi
    obtain ⟨y, hy, rfl⟩ := Option.map_eq_some_iff.mp hxi
    have iy : i < (title :: spareT).length := (List.getElem?_eq_some_iff.mp hy).1
    have tk : ((title :: spareT).take (i + 1)).filter (fun x => !decide (x ∈ noNames ++ ns)) = ((title :: spareT).take i).filter (fun x => !decide (x ∈ noNames ++ ns)) ++ (if (!decide (y ∈ noNames ++ ns)) = true then [y] else []) := by
      rw [List.take_add_one, hy, List.filter_append]
      congr 1
      show List.filter _ [y] = _
      rw [List.filter_cons, List.filter_nil]
    refine ⟨rfl, _, rfl, _, rfl, q3, _, rfl, .inl (SqL.of (s1 _ _ hb6)), rfl, flat_strs _, _, rfl, ?_⟩
    have ei : (if true = true then !inV (V.str y) ((noNames ++ ns).map V.str) else inV (V.str y) ((noNames ++ ns).map V.str)) = !decide (y ∈ noNames ++ ns) := by
      rw [if_pos rfl, inV_str]
    rw [ei, tk]
    refine ite2 (fun c => ?_) (fun c => ?_)
    · rw [if_pos c]
      refine ⟨_, rfl, _, g1, ?_, fun b o hbo => ?_, ?_⟩
      · rw [List.length_map]
        refine Nat.lt_of_le_of_lt (List.length_filter_le _ _) ?_
        rw [List.length_take]
        exact Nat.lt_of_le_of_lt (Nat.min_le_right _ _) (by show 1 + 8 < sizeLine; decide)
      · rw [upd_ne (ne_of_none hbo hD)]
        exact s1 b o hbo
      · rw [upd_same, List.map_append]
        rfl
    · rw [if_neg c, List.append_nil]
      exact ⟨s1, g1⟩
  · rintro H' ⟨s1, g1⟩
    rw [List.length_map, List.take_of_length_le (Nat.le_refl _)] at g1
    obtain ⟨x0, hx0, nx0⟩ := spare_free n2
    have ne : (title :: spareT).filter (fun x => !decide (x ∈ noNames ++ ns)) ≠ [] := by
      intro z
      have hm : x0 ∈ (title :: spareT).filter (fun x => !decide (x ∈ noNames ++ ns)) := List.mem_filter.mpr ⟨List.mem_cons_of_mem _ hx0, by rw [decide_eq_false nx0]; rfl⟩
      rw [z] at hm
      cases hm
    cases hf : (title :: spareT).filter (fun x => !decide (x ∈ noNames ++ ns)) with
    | nil => exact absurd hf ne
    | cons z0 zs =>
      rw [hf] at g1
      have hz0 : z0 ∈ (title :: spareT).filter (fun x => !decide (x ∈ noNames ++ ns)) := by rw [hf]; exact List.mem_cons_self
      obtain ⟨hz1, hz2⟩ := List.mem_filter.mp hz0
      have hz3 : z0 ∉ noNames ++ ns := fun y => by rw [decide_eq_true y] at hz2; cases hz2
      refine ⟨D, _, 0, .str z0, rfl, rfl, SqL.of g1, atI_nat (xs := (z0 :: zs).map V.str) (j := 0) rfl, ?_⟩
      have hf7 := s1 _ _ hf6
      refine ⟨pf, _, _, rfl, rfl, hf7, (by rw [List.length_map]; exact Nat.lt_of_lt_of_le (by omega : _ < 1000) (small_line (Nat.le_refl _))), ?_⟩
      refine ⟨?_, ?_, ns ++ [z0], by rw [List.length_append]; rfl, fun n hn => ?_, ?_, _, _, _, _, _, _, rfl⟩
      · intro b o nb hbo
        have : b ≠ pf := ne_of_none hbo nf
        rw [upd_ne this]
        exact s1 b o (bD b o nb hbo)
      · obtain ⟨x, y, z, e1, e2, e3⟩ := hdD.byt s1
        exact ⟨x, y, z, e1, e2, by rw [upd_ne (Ne.symm npf)]; exact e3⟩
      · rcases List.mem_append.mp hn with y | y
        · exact hns n y
        · rw [List.mem_singleton.mp y]
          exact fin z0 hz3 (all8 z0 hz1)
      · rw [upd_same, List.map_append]
        rfl
end
end Wp

namespace Wp
open PySem PySem.Spec PyProof.Rows L2 Hx

mutual
def Tr.pre : Tr → List Tr
  | .sign s => [.sign s] | .name n => [.name n] | .weave l => .weave l :: Tr.preL l | .part j t => .part j t :: t.pre | .drop c t => .drop c t :: t.pre | .lead t u => .lead t u :: (t.pre ++ u.pre) | .turn w t => .turn w t :: t.pre
def Tr.preL : List Tr → List Tr
  | [] => [] | t :: r => t.pre ++ Tr.preL r
end
theorem pre_eq (t : Tr) : t.pre = t :: Tr.preL t.kids := by
  cases t <;> simp [Tr.pre, Tr.kids, Tr.preL]
mutual
theorem pre_len : ∀ t : Tr, t.pre.length = t.knots
  | .sign _ => rfl
  | .name _ => rfl
  | .weave l => by have := preL_len l; simp only [Tr.pre, Tr.knots, List.length_cons]; omega
  | .part _ t => by have := pre_len t; simp only [Tr.pre, Tr.knots, List.length_cons]; omega
  | .drop _ t => by have := pre_len t; simp only [Tr.pre, Tr.knots, List.length_cons]; omega
  | .lead t u => by have := pre_len t; have := pre_len u; simp only [Tr.pre, Tr.knots, List.length_cons, List.length_append]; omega
  | .turn _ t => by have := pre_len t; simp only [Tr.pre, Tr.knots, List.length_cons]; omega
theorem preL_len : ∀ l : List Tr, (Tr.preL l).length = Tr.knotsL l
  | [] => rfl
  | t :: r => by have := pre_len t; have := preL_len r; simp only [Tr.preL, Tr.knotsL, List.length_append]; omega
end
theorem kids_knots (t : Tr) : Tr.knotsL t.kids + 1 = t.knots := by
  have h := pre_len t
  rw [pre_eq, List.length_cons, preL_len] at h
  exact h
theorem knotsL_get : ∀ {l : List Tr} {i : Nat} {t : Tr}, l[i]? = some t → t.knots ≤ Tr.knotsL l
  | [], i, t, h => by simp at h
  | u :: r, 0, t, h => by
    cases (Option.some.inj h)
    simp only [Tr.knotsL]
    omega
  | u :: r, i + 1, t, h => by
    have := knotsL_get (l := r) (i := i) h
    simp only [Tr.knotsL]
    omega
theorem TrAll.app {H : Hp} : ∀ {vs us : List V} {l m : List Tr}, TrAll H vs l → TrAll H us m → TrAll H (vs ++ us) (l ++ m)
  | _, _, _, _, .nil, h => h
  | _, _, _, _, .cons a r, h => .cons a (TrAll.app r h)
end Wp

namespace Wp
open PySem PySem.Spec PyProof.Rows L2 Hx
theorem preL_take {l : List Tr} {i : Nat} {t : Tr} (h : l[i]? = some t) : Tr.preL (l.take (i + 1)) = Tr.preL (l.take i) ++ t.pre := by
  rw [List.take_add_one, h]
  show Tr.preL (l.take i ++ [t]) = _
  generalize l.take i = r
  induction r with
  | nil => simp [Tr.preL]
  | cons u r ih =>
    show u.pre ++ Tr.preL (r ++ [t]) = (u.pre ++ Tr.preL r) ++ t.pre
    rw [ih, List.append_assoc]
theorem knotsL_take : ∀ (l : List Tr) (i : Nat), Tr.knotsL (l.take i) ≤ Tr.knotsL l
  | [], i => by rw [List.take_nil]; exact Nat.le_refl _
  | t :: r, 0 => Nat.zero_le _
  | t :: r, i + 1 => by
    have := knotsL_take r i
    simp only [List.take_succ_cons, Tr.knotsL]
    omega
end Wp

/-! operators of an own class without slots; a text times a number; a method called by keywords; dead rows -/
namespace Hx
open PySem PySem.Spec PyProof.Rows L2
/-- a row that is never reached -/
theorem ps_dead {X : Cx} {st : Stmt} : PS X st (fun _ _ _ => False) := ⟨fun _ _ _ _ _ _ h => h.elim⟩
section
variable {X : Cx}
theorem op_mul_str : OpR X (binaryOp .Mult) (fun x y H Q => ∃ z k, x = .str z ∧ y = .int k ∧ MulOk z k ∧ Q (.str (Txt.mul z k)) H) := by
  intro pins s σ H x y v u Q I rx ry h
  obtain ⟨z, k, rfl, rfl, hz, q⟩ := h
  obtain ⟨t, rfl⟩ := rx
  obtain ⟨t', rfl⟩ := ry
  exact SB.mul hz (fun t' tk => ⟨.str (Txt.mul z k), H, I.tok _, ⟨_, rfl⟩, q⟩)
end
/-- o.m(k = v, ..) -/
def tMethK (C : Addr) (m : Str) (sp : Sp) (gV : List V → List V → List V) (E : XK) (ta : TE) (tk : TA) : TE := fun σ H Q => ta σ H fun x H1 => ∃ a dx fs, x = .ref a ∧ H1 a = some (.ins C dx fs) ∧ fs.lookup m = none ∧
  tk σ H1 fun zs H2 => sp (gV [x] zs) H2 Q E
section
variable {X : Cx} {CX : CXT} {k : Nat} {f C : Addr} {fd : FuncData} {ps ks : List Str} {sp : Sp} {E : XK} {m : Str} {pos apos : Pos} {o : Expr} {kws : List Keyword} {ta : TE} {tk : TA}
  {g : List Value → List Value → List Value} {gV : List V → List V → List V}
theorem pe_methK {pl : Sem Bool} (he : PE X o ta) (c : Cls X.K C) (hm : Meth X.K C m f) (F : FnOk X.prog X.w X.K X.mg X.base CX k f fd ps sp) (hr : Room k X.A) (hb : KBinds X.K fd ps ks g gV) (hx : Passes CX X E) (hkw : PK X kws tk)
    (hall : (backToKw pos (keywordEach kws X.env)).all (·.1.isSome) = true := by rfl) (hks : (backToKw pos (keywordEach kws X.env)).filterMap (·.1) = ks := by rfl)
    (hpl : ((backTo pos (starEach [] X.env)).any (·.1) || (backToKw pos (keywordEach kws X.env)).any (·.1.isNone)) = false := by rfl)
    (ht : eval (.Call (.Attribute o m apos) [] kws pos) X.env = (do
      let ov ← eval o X.env
      standAt apos.atName
      let (f, first) ← holding [ov] (getMethod ov m pl)
      callWith pos f first (backTo pos (starEach [] X.env)) (backToKw pos (keywordEach kws X.env))) := by rfl) :
    PE X (.Call (.Attribute o m apos) [] kws pos) (tMethK C m sp gV E ta tk) := by
  refine ⟨fun pins s σ H Q I h => ?_⟩
  refine PySem.W.methodCall_KW (pl := pl) (thn (he.run pins s σ H _ I h) fun u s1 ⟨x, H1, I1, rx, a, dx, fs, ex, ea, l, q⟩ => ?_) ht
  subst ex
  obtain rfl : u = Value.ref a := rx
  refine getmeth_ok I1 ea c hm l ?_
  refine PySem.W.callWith_KW0 (first := [.ref a]) (h₀ := X.base) I.ok.mod.kin hm.kp hall ?_ hpl
  refine thn (hkw.run pos pins s1 σ H1 _ I1 q) fun ws s2 ⟨zs, H2, I2, rz, q2⟩ => ⟨I2.kIn, ?_⟩
  rw [hks]
  exact run_fnk (us := [.ref a]) (vs := [.ref a]) F hr hb hx I2 (.cons rfl .nil) rz q2
end
/-- o[i] where the class at C tells its items by a def of its own -/
structure ItemBy (P : Program) (w : World) (K : PySem.W.Frag) (mg : Str → Option Value) (base : Heap) (k : Nat) (C : Addr) (ps : List Str) (sp : Sp) : Prop where
  go : ∃ (g : Addr) (fd : FuncData), PySem.W.findIn K (.ref C) "__getitem__" = some (some (.ref g)) ∧ PySem.W.fnIn K g = true ∧ PySem.W.isFn K (.ref g) = true ∧
    FnOk P w K mg base CX0 k g fd ps sp ∧ Binds K fd ps []
def rItem (C : Addr) (sp : Sp) : R2 := fun x y H Q => ∃ (a dx : Addr) (fs : List (Str × V)), x = .ref a ∧ H a = some (.ins C dx fs) ∧ sp [x, y] H Q E0
section
variable {X : Cx} {k : Nat} {C : Addr} {ps : List Str} {sp : Sp}
theorem run_below {pins : List (Addr × Obj)} {σ : L2.St} {H : Hp} {s : Shared} {Q : VK} {us : List Value} {vs : List V} {A1 : Around} {f : Addr} {fd : FuncData}
    (F : FnOk X.prog X.w X.K X.mg X.base CX0 k f fd ps sp) (hr : Room k A1) (e0 : Env0 X.prog X.w X.K X.mg X.base A1 X.stack s H) (hb : Binds X.K fd ps []) (I : Inv X pins σ H s) (r : Vals vs us) (h : sp vs H Q E0) :
    wpAny (model X.prog X.w) A1 (call (.ref f) us) (EP X pins σ Q) X.xe s := by
  have l := F.len vs H Q E0 h
  have hl : us.length = ps.length := by rw [← r.length]; exact l
  have b := hb s us I.kIn (by rw [List.append_nil]; exact hl)
  rw [List.append_nil] at b
  refine wpAny_call (codeAny_mono (F.run A1 X.stack s H ⟨us, []⟩ us vs Q E0 hr e0 b r h) fun r s' hq => ?_)
  cases r with
  | error e => exact (show False from hq).elim
  | ok fl =>
    cases fl with
    | ret u => exact I.after hq
    | next => exact hq.elim
    | brk => exact hq.elim
    | cont => exact hq.elim
theorem pe_ixO {e i : Expr} {pos : Pos} {te ti : TE} (T : ItemBy X.prog X.w X.K X.mg X.base k C ps sp) (hr : Room (k + 1) X.A) (he : PE X e te) (hi : PE X i ti)
    (hsl : ∀ (a : Addr) (u : Value), subscripted i true (.ref a) u = runValue (.builtin "lifetime.subscript" ⟨[.ref a, u], []⟩)) : PE X (.Subscript e i pos) (tOp (rItem C sp) te ti) := by
  refine ⟨fun pins s σ H Q I h => ?_⟩
  refine Subscript_ (binT he hi I h fun v u s2 x y H2 I2 rx ry q => ?_)
  obtain ⟨a, dx, fs, rfl, ha, q⟩ := q
  cases (show v = Value.ref a from rx)
  obtain ⟨g, fd, h1, h2, h3, F, b⟩ := T.go
  obtain ⟨mA, O, _⟩ := ins_get I2.hok ha
  obtain ⟨od, J, _⟩ := O.look
  obtain ⟨m, hF⟩ := I2.fr
  exact PySem.W.sub_K hF I2.ok.mod.kin J h1 h2 h3 (run_below F hr.in1 I2.env0.in1 b I2 (.cons rx (.cons ry .nil)) q) (hsl _ _)
end
/-- x == y by the class's own def -/
structure EqBy (P : Program) (w : World) (K : PySem.W.Frag) (mg : Str → Option Value) (base : Heap) (k : Nat) (C : Addr) (ps : List Str) (sp : Sp) : Prop where
  go : ∃ (g : Addr) (fd : FuncData), PySem.W.findIn K (.ref C) "__eq__" = some (some (.ref g)) ∧ PySem.W.isFn K (.ref g) = true ∧
    FnOk P w K mg base CX0 k g fd ps sp ∧ Binds K fd ps []
  ne : PySem.W.findIn K (.ref C) "__ne__" = some (some (.builtin "object.__ne__"))
  obj : PySem.W.mroIn K C (.type "object") = some true
  str : PySem.W.notFirst K C (.type "str") = true
  tup : PySem.W.notFirst K C (.type "tuple") = true
/-- the right operand: a text, a tuple, an object of this class -/
def Right (C : Addr) (H : Hp) (y : V) : Prop := (∃ z : Str, y = .str z) ∨ (∃ (b : Addr) (xs : List V), y = .ref b ∧ H b = some (.tup xs)) ∨ ∃ (b dx : Addr) (fs : List (Str × V)), y = .ref b ∧ H b = some (.ins C dx fs)
def rEqO (C : Addr) (sp : Sp) : R2 := fun x y H Q => ∃ (a dx : Addr) (fs : List (Str × V)), x = .ref a ∧ H a = some (.ins C dx fs) ∧ Right C H y ∧ sp [x, y] H (fun v H' => ∃ k, v = .bl k ∧ Q (.bl k) H') E0
def rNeO (C : Addr) (sp : Sp) : R2 := fun x y H Q => ∃ (a dx : Addr) (fs : List (Str × V)), x = .ref a ∧ H a = some (.ins C dx fs) ∧ Right C H y ∧ sp [x, y] H (fun v H' => ∃ k, v = .bl k ∧ Q (.bl (!k)) H') E0
section
variable {X : Cx} {k : Nat} {C : Addr} {ps : List Str} {sp : Sp} {P : Program} {w : World} {K : PySem.W.Frag} {mg : Str → Option Value} {base : Heap}
theorem right_of {pins : List (Addr × Obj)} {σ : L2.St} {H : Hp} {s : Shared} {y : V} {u : Value} (T : EqBy P w K mg base k C ps sp) (I : Inv X pins σ H s) (ry : RelV y u) (r : Right C H y) :
    ∃ tb, PySem.W.Looks (model X.prog X.w) s.heap (typeOf u) tb ∧ PySem.W.notFirst K C tb = true := by
  rcases r with ⟨z, rfl⟩ | ⟨b, xs, rfl, hb⟩ | ⟨b, dx, fs, rfl, hb⟩
  · obtain ⟨t, rfl⟩ := ry
    exact ⟨.type "str", .of_pure rfl, T.str⟩
  · cases (show u = Value.ref b from ry)
    obtain ⟨its, _, ⟨o, ho, hc, _⟩, _⟩ := I.tuple (SqT.of hb)
    exact ⟨.type "tuple", hc ▸ (PySem.W.Looks.ld ho).andThen .now, T.tup⟩
  · cases (show u = Value.ref b from ry)
    obtain ⟨mA, O, _⟩ := ins_get I.hok hb
    obtain ⟨od, J, _⟩ := O.look
    exact ⟨.ref C, J.type, by unfold PySem.W.notFirst; simp⟩
theorem op_eqO (T : EqBy X.prog X.w X.K X.mg X.base k C ps sp) (hr : Room k X.A) : OpR X (compareOp .Eq) (rEqO C sp) := by
  intro pins s σ H x y v u Q I rx ry h
  obtain ⟨a, dx, fs, rfl, ha, r, q⟩ := h
  obtain ⟨tb, hb, hn⟩ := right_of T I ry r
  cases (show v = Value.ref a from rx)
  obtain ⟨g, fd, h1, h2, F, b⟩ := T.go
  obtain ⟨mA, O, _⟩ := ins_get I.hok ha
  obtain ⟨od, J, _⟩ := O.look
  obtain ⟨m, hF⟩ := I.fr
  refine PySem.W.cmp_ofEq (PySem.W.cmp_K (op := .Eq) hr.units0 hF I.ok.mod.kin J hb hn h1 h2 ?_)
  refine wpAny_mono (run_below F hr I.env0 b I (.cons rx (.cons ry .nil)) q) (fun w' s' z => ?_) fun _ _ e => e
  obtain ⟨z', H', I', rz, kk, rfl, qz⟩ := z
  cases (show w' = Value.bool kk from rz)
  exact ⟨.bl kk, H', I', rfl, qz⟩
end
end Hx
namespace Hx
open PySem PySem.Spec PyProof.Rows L2
section
variable {prog : Program} {w : World} {A : Around} {E : Value → Shared → Prop} {s : Shared} {K : PySem.W.Frag} {x C L f : Addr} {h₀ : Heap} {m : Str → Option Value} {ox : Obj} {od : Option Obj} {name : Str} {b tb : Value}
theorem ifBound_B {M : Model} {args : List Value} {id : String} {Q : Option Value → Shared → Prop} (X : K.In s.heap) (I : PySem.W.InstAt s.heap x ox C od) (hs : PySem.W.findIn K (.ref C) name = some (some (.builtin id)))
    (hb : ∀ self, bindSpecial (.builtin id) self = pure (.builtin id, [self])) (h : wpAny M A (call (.builtin id) (.ref x :: args)) (fun v => Q (some v)) E s) : wpAny M A (callSpecialIfBound? (.ref x) name args) Q E s := by
  simp only [callSpecialIfBound?, bindSpecialIfBound?]
  refine wpAny_holding (wpAny_bind (wpAny_bind (wpAny_bind (I.type.here ((PySem.W.looks_findIn X hs).here ?_)))))
  refine wpAny_bind (wpAny_askSetting (wpAny_ite ?_))
  have fin : wpAny M A (call (.builtin id) ([.ref x] ++ args) >>= fun v => pure (some v)) Q E s := wpAny_bind (wpAny_mono h (fun v s' h' => wpAny_pure h') fun _ _ h' => h')
  split
  · exact wpAny_bind ((PySem.W.Looks.of_pure (hb _)).here (wpAny_pure (by exact fin)))
  · exact wpAny_tryCatch (wpAny_bind ((PySem.W.Looks.of_pure (hb _)).here (wpAny_pure (by exact fin))))
theorem objNe_K (hu : A.units < cLine) (X : K.In s.heap) (I : PySem.W.InstAt s.heap x ox C od) (he : PySem.W.findIn K (.ref C) "__eq__" = some (some (.ref f))) (hf : PySem.W.isFn K (.ref f) = true) {Q : Fin → Shared → Prop}
    (hcall : wpAny (model prog w) A (call (.ref f) [.ref x, b]) (fun v s' => ∃ k, v = .bool k ∧ Q (.done (.ret (.bool (!k)))) s') E s) :
    wpAny (model prog w) A (Builtin.«object.__ne__» ⟨[.ref x, b], []⟩) Q E s := by
  unfold Builtin.«object.__ne__»
  repeat (first
    | with_reducible refine wpAny_cRoomFor hu ?_
    | (refine wpAny_bind (m := callSpecialIfBound? (.ref x) (Str.ofString "__eq__") [b])
        (PySem.W.ifBound_K X I he hf (wpAny_mono hcall (fun r s' hr => by
          obtain ⟨k, rfl, hq⟩ := hr
          repeat (first | exact hq | exact wpAny_pure hq | exact wpAny_truthy_bool hq | (refine wpAny_bind (m := truthy (.bool _)) (wpAny_truthy_bool ?_)) | wp_step)) fun _ _ e => e)))
    | wp_step)
theorem ne_K {Q : Value → Shared → Prop} (hu : A.units + 1 < cLine) (F : Fr h₀ L s.heap m) (X₀ : K.In h₀) (I : PySem.W.InstAt s.heap x ox C od) (hb : PySem.W.Looks (model prog w) s.heap (typeOf b) tb) (hn : PySem.W.notFirst K C tb = true)
    (hs : PySem.W.findIn K (.ref C) "__ne__" = some (some (.builtin "object.__ne__"))) (hm : PySem.W.mroIn K C (.type "object") = some true) (he : PySem.W.findIn K (.ref C) "__eq__" = some (some (.ref f))) (hf : PySem.W.isFn K (.ref f) = true)
    (h : wpAny (model prog w) A.in1 (call (.ref f) [.ref x, b]) (fun v s' => ∃ k, v = .bool k ∧ Q (.bool (!k)) s') E s) : wpAny (model prog w) A (richCompare .NotEq (.ref x) b) Q E s := by
  have X := X₀.keeps F.keep
  have FB := PySem.F.cmp_object
  have sub : PySem.W.Looks (model prog w) s.heap (isInstance (.ref x) (.type "object")) true := I.type.andThen (PySem.W.looks_mroIn X hm)
  have one : wpAny (model prog w) A (tryCompare (.ref x) "__ne__" b) (fun r s' => ∃ v, r = some v ∧ Q v s') E s := by
    unfold tryCompare
    refine wpAny_bind (ifBound_B X I hs FB.ne.bind (wpAny_call (codeAny_call_builtin FB.ne.plain PySem.F.cmpEntry_ne ?_)))
    refine @PySem.W.check_slot (model prog w) _ _ s "object.__ne__" "object" "__ne__" (.ref x) [b] [] _ PySem.F.cmpKind_ne PySem.F.cmpSplit_ne sub (PySem.F.cmpArgs_ne (.ref x) b) ?_
    refine objNe_K (A := A.in1) hu X I he hf (wpAny_mono h (fun v s' hv => ?_) fun _ _ e => e)
    obtain ⟨k, rfl, hq⟩ := hv
    exact ⟨k, rfl, wpAny_pure ⟨_, rfl, hq⟩⟩
  unfold richCompare
  simp only [oneThing_ref]
  refine wpAny_holding (wpAny_bind (wpAny_cRoomFor (Nat.lt_of_succ_lt hu) ?_))
  refine wpAny_bind (I.type.here (wpAny_bind (hb.here ?_)))
  split
  · rename_i q
    have e : PySem.W.subIn K tb (.ref C) = some false := by
      rcases Bool.or_eq_true_iff.mp hn with e | e
      · rw [beq_iff_eq.mp e] at q; simp at q
      · exact beq_iff_eq.mp e
    refine wpAny_bind ((PySem.W.looks_subIn X e).here ?_)
    simp only [Bool.false_eq_true, if_false]
    refine wpAny_bind (wpAny_mono one (fun r s' z => ?_) fun _ _ e => e)
    obtain ⟨v, rfl, hq⟩ := z
    exact wpAny_pure hq
  · refine wpAny_bind (wpAny_pure ?_)
    simp only [Bool.false_eq_true, if_false]
    refine wpAny_bind (wpAny_mono one (fun r s' z => ?_) fun _ _ e => e)
    obtain ⟨v, rfl, hq⟩ := z
    exact wpAny_pure hq
end
section
variable {X : Cx} {k : Nat} {C : Addr} {ps : List Str} {sp : Sp}
theorem op_neO (T : EqBy X.prog X.w X.K X.mg X.base k C ps sp) (hr : Room (k + 1) X.A) : OpR X (compareOp .NotEq) (rNeO C sp) := by
  intro pins s σ H x y v u Q I rx ry h
  obtain ⟨a, dx, fs, rfl, ha, r, q⟩ := h
  obtain ⟨tb, hb, hn⟩ := right_of T I ry r
  cases (show v = Value.ref a from rx)
  obtain ⟨g, fd, h1, h2, F, b⟩ := T.go
  obtain ⟨mA, O, _⟩ := ins_get I.hok ha
  obtain ⟨od, J, _⟩ := O.look
  obtain ⟨m, hF⟩ := I.fr
  refine PySem.W.cmp_ofNotEq (ne_K (by have := hr.un; omega) hF I.ok.mod.kin J hb hn T.ne T.obj h1 h2 ?_)
  refine wpAny_mono (run_below F hr.in1 I.env0.in1 b I (.cons rx (.cons ry .nil)) q) (fun w' s' z => ?_) fun _ _ e => e
  obtain ⟨z', H', I', rz, kk, rfl, qz⟩ := z
  cases (show w' = Value.bool kk from rz)
  exact ⟨kk, rfl, .bl (!kk), H', I', rfl, qz⟩
/-- repr(x) of an own object -/
structure ShowsBy (P : Program) (w : World) (K : PySem.W.Frag) (mg : Str → Option Value) (base : Heap) (k : Nat) (C : Addr) (sp : Sp) : Prop where
  go : ∃ (g : Addr) (fd : FuncData), PySem.W.findIn K (.ref C) "__repr__" = some (some (.ref g)) ∧ PySem.W.isFn K (.ref g) = true ∧
    FnOk P w K mg base CX0 k g fd ["self"] sp ∧ Binds K fd ["self"] []
def rShow (C : Addr) (sp : Sp) : List V → Hp → VK → Prop := fun xs H Q => ∃ (a dx : Addr) (fs : List (Str × V)), xs = [.ref a] ∧ H a = some (.ins C dx fs) ∧ sp [.ref a] H (fun v H' => ∃ y : Str, v = .str y ∧ Q (.str y) H') E0
theorem call_show (T : ShowsBy X.prog X.w X.K X.mg X.base k C sp) (hr : Room (k + 1) X.A) : CallR X (.builtin "repr") (rShow C sp) := by
  intro pins s σ H xs us Q I r h
  obtain ⟨a, dx, fs, rfl, ha, q⟩ := h
  rw [Vals.ref1 r]
  obtain ⟨g, fd, h1, h2, F, b⟩ := T.go
  obtain ⟨mA, O, _⟩ := ins_get I.hok ha
  obtain ⟨od, J, _⟩ := O.look
  obtain ⟨m, hF⟩ := I.fr
  refine PySem.W.repr_K hr.in1.units0 hF I.ok.mod.kin J h1 h2 ?_
  refine wpAny_mono (run_below F hr.in1 I.env0.in1 b I (us := [.ref a]) (vs := [.ref a]) (.cons rfl .nil) q) (fun w' s' z => ?_) fun _ _ e => e
  obtain ⟨z', H', I', rz, y, rfl, qz⟩ := z
  obtain ⟨t, rfl⟩ := rz
  exact ⟨.str y, H', I', ⟨t, rfl⟩, qz⟩
end
end Hx

namespace Hx
open PySem PySem.Spec PyProof.Rows L2
/-- repr of data, up to a line in length -/
def rReprL : List V → Hp → VK → Prop := fun xs H Q => ∃ v d, xs = [v] ∧ Dq H v d ∧ d.showable = true ∧ d.depth ≤ 20 ∧ d.shown.length ≤ sizeLine ∧ Q (.str d.shown) H
/-- repr(x) of an own object, its class in the reading -/
def rShowA (P : Program) (w : World) (K : PySem.W.Frag) (mg : Str → Option Value) (base : Heap) (k : Nat) : List V → Hp → VK → Prop := fun xs H Q => ∃ (a C dx : Addr) (fs : List (Str × V)) (sp : Sp), xs = [.ref a] ∧ H a = some (.ins C dx fs) ∧ Hx.ShowsBy P w K mg base k C sp ∧
  sp [.ref a] H (fun v H' => ∃ y : Str, v = .str y ∧ Q (.str y) H') E0
section
variable {X : Cx} {k : Nat}
theorem call_reprL (gd : X.A.guards = some []) (hu : X.A.units + 64 < cLine) (hm : Mods X.base) : CallR X (.builtin "repr") rReprL := by
  intro pins s σ H xs us Q I r h
  obtain ⟨v, d, rfl, hd, h1, h2, hz, q⟩ := h
  obtain ⟨u, rfl, ru⟩ := vals1 r
  obtain ⟨as, hr, ha⟩ := Dq.reads I d v u hd ru
  have hno : sysModules ∉ as := fun z => by
    obtain ⟨o, e⟩ := ha _ z
    obtain ⟨b, eb⟩ := hm
    have n := (I.bs _ _ eb).2
    rw [n] at e
    cases e
  have fin : ∀ (h' : Heap) (tu : Tok) (tk : Nat), (∀ b o, s.heap.get? b = some o → h'.get? b = some o) → EP X pins σ Q (.str d.shown tu) { s with heap := h', toks := tk } :=
    fun h' tu tk k => ⟨.str d.shown, H, I.kept (t' := tk) k, ⟨_, rfl⟩, q⟩
  cases hd with
  | non => cases ru; exact P.repr_of_none (fin _ _ _ fun _ _ z => z)
  | bl b => cases ru; exact P.repr_of_bool (fin _ _ _ fun _ _ z => z)
  | int i =>
    obtain ⟨t, rfl⟩ := ru
    exact P.repr_of_int (of_decide_eq_true h1) (fin _ _ _ fun _ _ z => z)
  | str x =>
    obtain ⟨t, rfl⟩ := ru
    exact P.repr_of_str (fin _ _ _ fun _ _ z => z) hz
  | lst _ _ => cases ru; exact repr_of_reads' hr h1 (fun _ => hno) gd (by omega) (fun _ _ z => z) fin hz
  | tup _ _ => cases ru; exact repr_of_reads' hr h1 (fun _ => hno) gd (by omega) (fun _ _ z => z) fin hz
  | dct _ _ => cases ru; exact repr_of_reads' hr h1 (fun _ => hno) gd (by omega) (fun _ _ z => z) fin hz
theorem call_showA (hr : Room (k + 1) X.A) : CallR X (.builtin "repr") (rShowA X.prog X.w X.K X.mg X.base k) := by
  intro pins s σ H xs us Q I r h
  obtain ⟨a, C, dx, fs, sp, rfl, ha, T, q⟩ := h
  exact call_show T hr pins s σ H _ us Q I r ⟨a, dx, fs, rfl, ha, q⟩
end
end Hx
namespace Wp
open PySem PySem.Spec PyProof.Rows L2 Hx
/-! the repr of an expression -/
def reprX (n : Int) : Str := ((Str.empty ++ "Expression of ") ++ toString n) ++ " knots"
def spReprX (C CF : Addr) : Sp := fun vs H Q _ => ∃ (a dx fa dfa : Addr) (fs gs : List (Str × V)) (n : Int), vs = [.ref a] ∧ H a = some (.ins C dx fs) ∧ fs.lookup ("facts" : Str) = some (.ref fa) ∧ H fa = some (.ins CF dfa gs) ∧ gs.lookup ("size" : Str) = some (.int n) ∧
  0 ≤ n ∧ n ≤ 100 ∧ Q (.str (reprX n)) H
theorem fig_ok : ∀ n : Nat, n ≤ 100 → PyData.strOk (toString (n : Int) : Str) = true ∧ (toString (n : Int) : Str).length ≤ 3 := by decide +kernel
theorem fig_okI {n : Int} (h0 : 0 ≤ n) (h1 : n ≤ 100) : PyData.strOk (toString n : Str) = true ∧ (toString n : Str).length ≤ 3 := by
  have := fig_ok n.toNat (by omega)
  rw [Int.toNat_of_nonneg h0] at this
  exact this
theorem strOk_iff {x : Str} : PyData.strOk x = true ↔ ∀ c ∈ x.cps.toList, c < 0x110000 := by
  unfold PyData.strOk
  rw [← Array.all_toList, List.all_eq_true]
  exact ⟨fun h c hc => of_decide_eq_true (h c hc), fun h c hc => decide_eq_true (h c hc)⟩
theorem cps_app (x y : Str) : (x ++ y).cps.toList = x.cps.toList ++ y.cps.toList := by
  show (x.cps ++ y.cps).toList = _
  rw [Array.toList_append]
theorem ok_app {x y : Str} (hx : PyData.strOk x = true) (hy : PyData.strOk y = true) : PyData.strOk (x ++ y) = true := by
  rw [strOk_iff] at hx hy ⊢
  intro c hc
  rw [cps_app] at hc
  rcases List.mem_append.mp hc with h | h
  · exact hx c h
  · exact hy c h
theorem ok_join {y : Str} (hy : PyData.strOk y = true) : ∀ ps : List Str, (∀ p ∈ ps, PyData.strOk p = true) → PyData.strOk (Str.join y ps) = true
  | [], _ => (by decide +kernel : PyData.strOk Str.empty = true)
  | [x], h => h x List.mem_cons_self
  | x :: z :: r, h => by
    show PyData.strOk (x ++ y ++ Str.join y (z :: r)) = true
    exact ok_app (ok_app (h x List.mem_cons_self) hy) (ok_join hy (z :: r) fun p hp => h p (List.mem_cons_of_mem _ hp))
theorem ok_spell {k : Str} {ys : List Str} (hk : PyData.strOk k = true) (h : ∀ p ∈ ys, PyData.strOk p = true) : PyData.strOk (spell k ys) = true := by
  unfold spell
  exact ok_app (ok_app (ok_app (ok_app (by decide +kernel) hk) (by decide +kernel)) (ok_join (by decide +kernel) ys h)) (by decide +kernel)
theorem okLet {m : Int} {x : Str} (h : lettered m x = true) : PyData.strOk x = true := by
  unfold lettered at h
  obtain ⟨_, h2⟩ := Bool.and_eq_true_iff.mp h
  exact letters_ok (List.all_eq_true.mp (Bool.and_eq_true_iff.mp h2).2)
theorem ok_nameB {x : Str} (h : nameB x = true) : PyData.strOk x = true := okLet (Bool.and_eq_true_iff.mp h).1
section
variable {b : Int}
mutual
theorem text_ok (b0 : 0 ≤ b) (b9 : b ≤ 9) : ∀ t : Tr, t.Ok b → PyData.strOk (t.text b) = true
  | .sign _, h => by
    cases h with
    | sign h => exact ok_app (ok_app (by decide +kernel) (okLet h)) (by decide +kernel)
  | .name _, h => by
    cases h with
    | name h => exact ok_nameB h
  | .weave l, h => by
    cases h with
    | weave _ h => exact ok_spell (by decide +kernel) (textL_ok b0 b9 l h)
  | .part j t, h => by
    cases h with
    | part h0 h1 h =>
      refine ok_spell (by decide +kernel) fun p hp => ?_
      simp only [List.mem_cons, List.not_mem_nil, or_false] at hp
      rcases hp with rfl | rfl | rfl
      · exact (fig_okI h0 (by omega)).1
      · exact (fig_okI b0 (by omega)).1
      · exact text_ok b0 b9 t h
  | .drop j t, h => by
    cases h with
    | drop h0 h1 h =>
      refine ok_spell (by decide +kernel) fun p hp => ?_
      simp only [List.mem_cons, List.not_mem_nil, or_false] at hp
      rcases hp with rfl | rfl
      · exact (fig_okI (by omega) (by omega)).1
      · exact text_ok b0 b9 t h
  | .lead t u, h => by
    cases h with
    | lead h h2 =>
      refine ok_spell (by decide +kernel) fun p hp => ?_
      simp only [List.mem_cons, List.not_mem_nil, or_false] at hp
      rcases hp with rfl | rfl
      · exact text_ok b0 b9 t h
      · exact text_ok b0 b9 u h2
  | .turn w t, h => by
    cases h with
    | turn h h2 =>
      refine ok_spell (by decide +kernel) fun p hp => ?_
      simp only [List.mem_cons, List.not_mem_nil, or_false] at hp
      rcases hp with rfl | rfl
      · exact okLet h
      · exact text_ok b0 b9 t h2
theorem textL_ok (b0 : 0 ≤ b) (b9 : b ≤ 9) : ∀ l : List Tr, Tr.OkL b l → ∀ p ∈ Tr.textL b l, PyData.strOk p = true
  | [], _, p, hp => by cases hp
  | t :: r, h, p, hp => by
    cases h with
    | cons h h2 =>
      rcases List.mem_cons.mp hp with rfl | hp
      · exact text_ok b0 b9 t h
      · exact textL_ok b0 b9 r h2 p hp
end
mutual
theorem names_okT : ∀ t : Tr, t.Ok b → ∀ n ∈ t.names, nameB n = true
  | .sign _, h, n, hn => by cases hn
  | .name _, h, n, hn => by
    cases h with
    | name h => rw [List.mem_singleton.mp hn]; exact h
  | .weave l, h, n, hn => by
    cases h with
    | weave _ h => exact namesL_okT l h n hn
  | .part j t, h, n, hn => by
    cases h with
    | part _ _ h => exact names_okT t h n hn
  | .drop j t, h, n, hn => by
    cases h with
    | drop _ _ h => exact names_okT t h n hn
  | .lead t u, h, n, hn => by
    cases h with
    | lead h h2 =>
      rcases List.mem_append.mp hn with hn | hn
      · exact names_okT t h n hn
      · exact names_okT u h2 n hn
  | .turn w t, h, n, hn => by
    cases h with
    | turn _ h => exact names_okT t h n hn
theorem namesL_okT : ∀ l : List Tr, Tr.OkL b l → ∀ n ∈ Tr.namesL l, nameB n = true
  | [], _, n, hn => by cases hn
  | t :: r, h, n, hn => by
    cases h with
    | cons h h2 =>
      rcases List.mem_append.mp hn with hn | hn
      · exact names_okT t h n hn
      · exact namesL_okT r h2 n hn
end
/-- the name that a knot itself is -/
def Tr.own : Tr → List Str
  | .name n => [n]
  | _ => []
mutual
theorem names_pre : ∀ t : Tr, t.pre.flatMap Tr.own = t.names
  | .sign _ => rfl
  | .name _ => rfl
  | .weave l => by
    show [] ++ (Tr.preL l).flatMap Tr.own = _
    rw [namesL_pre l]
    rfl
  | .part _ t => names_pre t
  | .drop _ t => names_pre t
  | .lead t u => by
    show [] ++ (t.pre ++ u.pre).flatMap Tr.own = _
    rw [List.flatMap_append, names_pre t, names_pre u]
    rfl
  | .turn _ t => names_pre t
theorem namesL_pre : ∀ l : List Tr, (Tr.preL l).flatMap Tr.own = Tr.namesL l
  | [] => rfl
  | t :: r => by
    show (t.pre ++ Tr.preL r).flatMap Tr.own = _
    rw [List.flatMap_append, names_pre t, namesL_pre r]
    rfl
end
end
/-! two lists of the same names in order are one -/
theorem rising_pair : ∀ (l : List Str) (p : Str), risingS p l = true → (p :: l).Pairwise fun a b => ¬ (b.cps.toList < a.cps.toList)
  | [], p, _ => by simp
  | x :: r, p, h => by
    have h' : (!ltCps x.cps.toList p.cps.toList && risingS x r) = true := h
    obtain ⟨h1, h2⟩ := Bool.and_eq_true_iff.mp h'
    have ih := rising_pair r x h2
    have hx : ¬ (x.cps.toList < p.cps.toList) := by
      rw [ltCps_eq] at h1
      intro z
      rw [decide_eq_true z] at h1
      cases h1
    refine List.pairwise_cons.mpr ⟨fun y hy => ?_, ih⟩
    rcases List.mem_cons.mp hy with rfl | hm
    · exact hx
    · have h3 := (List.pairwise_cons.mp ih).1 y hm
      have e1 : p.cps.toList ≤ x.cps.toList := List.not_lt.mp hx
      have e2 : x.cps.toList ≤ y.cps.toList := List.not_lt.mp h3
      exact List.not_lt.mpr (List.le_trans e1 e2)
theorem sorted_pair : ∀ l : List Str, sortedS l = true → l.Pairwise fun a b => ¬ (b.cps.toList < a.cps.toList)
  | [], _ => by simp
  | x :: r, h => rising_pair r x h
theorem str_ext {x y : Str} (h : x.cps.toList = y.cps.toList) : x = y := by
  cases x; cases y
  exact congrArg _ (Array.toList_inj.mp h)
theorem lab_unique {ns as bs : List Str} (h1 : Lab ns as) (h2 : Lab ns bs) : as = bs := by
  have hp : as.Perm bs := (List.perm_ext_iff_of_nodup h1.once h2.once).mpr fun x => (h1.mem x).trans (h2.mem x).symm
  have an : ∀ x y : Str, x ∈ as → y ∈ bs → ¬ (y.cps.toList < x.cps.toList) → ¬ (x.cps.toList < y.cps.toList) → x = y := fun x y _ _ a b =>
    str_ext (List.le_antisymm (List.not_lt.mp a) (List.not_lt.mp b))
  first
    | exact hp.eq_of_pairwise an (sorted_pair as h1.inOrder) (sorted_pair bs h2.inOrder)
    | exact List.Perm.eq_of_pairwise an (sorted_pair as h1.inOrder) (sorted_pair bs h2.inOrder) hp
    | exact hp.eq_of_sorted an (sorted_pair as h1.inOrder) (sorted_pair bs h2.inOrder)
/-! what is told of an expression, as data -/
def toldD (b : Int) : Tr → List PyData
  | .sign s => [.str s] | .name n => [.str n] | .weave _ => [] | .part j _ => [.int j, .int b] | .drop c _ => [.int c] | .lead .. => [] | .turn w _ => [.str w]
theorem told_dq {H : Hp} (b : Int) : ∀ t : Tr, DqAll H (t.told b) (toldD b t)
  | .sign s => .cons (.str s) .nil
  | .name n => .cons (.str n) .nil
  | .weave _ => .nil
  | .part j _ => .cons (.int j) (.cons (.int b) .nil)
  | .drop c _ => .cons (.int c) .nil
  | .lead .. => .nil
  | .turn w _ => .cons (.str w) .nil
def allD (b : Int) (t : Tr) (ls : List Str) : List PyData := [.str t.kind, .tuple (toldD b t), .tuple (ls.map PyData.str), .int (t.knots : Nat), .str (t.text b), .str (reprX (t.knots : Nat))]
/-- small data that a repr may be asked of -/
structure Fit (d : PyData) : Prop where
  show_ : d.showable = true
  dep : d.depth ≤ 20
  len : d.shown.length ≤ sizeLine
/-- leaves: texts and small ints -/
inductive Leaf : PyData → Nat → Prop
  | str (x : Str) : PyData.strOk x = true → Leaf (.str x) x.length
  | int (i : Int) : 0 ≤ i → i ≤ 100 → Leaf (.int i) 101
structure Flat (ds : List PyData) (n : Nat) : Prop where
  lay : PyData.canLayAll0 ds = true
  dep : PyData.depthAll ds = 0
  show_ : PyData.showableAll ds = true
  isI : PyData.intsShortAll 13 ds = true
  wt : PyData.weightAll ds ≤ n
theorem shown_small : ∀ n : Nat, n ≤ 100 → (PyData.shown (.int (n : Int))).length ≤ 13 := by decide +kernel
theorem flat_cons {d : PyData} {ds : List PyData} {m n : Nat} (h : Leaf d m) (r : Flat ds n) : Flat (d :: ds) (m + 1 + n) := by
  obtain ⟨r1, r2, r3, r4, r5⟩ := r
  cases h with
  | str x hx =>
    refine ⟨?_, ?_, ?_, ?_, ?_⟩
    · show (PyData.strOk x && PyData.canLayAll0 ds) = true
      rw [hx, r1]; rfl
    · show max 0 (PyData.depthAll ds) = 0
      rw [r2]; rfl
    · show (true && PyData.showableAll ds) = true
      rw [r3]; rfl
    · show (true && PyData.intsShortAll 13 ds) = true
      rw [r4]; rfl
    · show x.cps.size + 1 + PyData.weightAll ds ≤ x.cps.size + 1 + n
      omega
  | int i h0 h1 =>
    refine ⟨?_, ?_, ?_, ?_, ?_⟩
    · show (true && PyData.canLayAll0 ds) = true
      rw [r1]; rfl
    · show max 0 (PyData.depthAll ds) = 0
      rw [r2]; rfl
    · show (decide (i.natAbs.log2 < 1920) && PyData.showableAll ds) = true
      rw [r3, decide_eq_true (small_log ⟨h0, by omega⟩)]; rfl
    · have e := shown_small i.toNat (by omega)
      rw [Int.toNat_of_nonneg h0] at e
      show (decide ((PyData.shown (.int i)).length ≤ 13) && PyData.intsShortAll 13 ds) = true
      rw [r4, decide_eq_true e]; rfl
    · show (if i == 0 then 0 else i.natAbs.log2 + 1) + 1 + PyData.weightAll ds ≤ 101 + 1 + n
      have e := Nat.log2_le_self i.natAbs
      have e2 : i.natAbs ≤ 100 := by omega
      split <;> omega
theorem flat_nil : Flat [] 0 := ⟨rfl, rfl, rfl, rfl, Nat.zero_le _⟩
theorem flat_more {ds : List PyData} {m n : Nat} (h : Flat ds m) (e : m ≤ n) : Flat ds n := ⟨h.lay, h.dep, h.show_, h.isI, Nat.le_trans h.wt e⟩
theorem flat_strs9 : ∀ {ls : List Str}, (∀ x ∈ ls, PyData.strOk x = true ∧ x.length ≤ 8) → Flat (ls.map PyData.str) (ls.length * 9)
  | [], _ => flat_nil
  | x :: r, h => by
    obtain ⟨h1, h2⟩ := h x List.mem_cons_self
    refine flat_more (flat_cons (.str x h1) (flat_strs9 fun y hy => h y (List.mem_cons_of_mem _ hy))) ?_
    rw [List.length_cons, Nat.succ_mul]
    omega
theorem told_flat {b : Int} (b0 : 0 ≤ b) (b9 : b ≤ 9) : ∀ {t : Tr}, t.Ok b → Flat (toldD b t) 300
  | .sign s, h => by
    cases h with
    | sign h =>
      have := lettered_len h
      exact flat_more (flat_cons (.str s (okLet h)) flat_nil) (by omega)
  | .name n, h => by
    cases h with
    | name h =>
      have := nameB_len h
      exact flat_more (flat_cons (.str n (ok_nameB h)) flat_nil) (by omega)
  | .weave _, _ => flat_more flat_nil (by omega)
  | .part j _, h => by
    cases h with
    | part h0 h1 _ => exact flat_more (flat_cons (.int j h0 (by omega)) (flat_cons (.int b b0 (by omega)) flat_nil)) (by omega)
  | .drop c _, h => by
    cases h with
    | drop h0 h1 _ => exact flat_more (flat_cons (.int c (by omega) (by omega)) flat_nil) (by omega)
  | .lead .., _ => flat_more flat_nil (by omega)
  | .turn w _, h => by
    cases h with
    | turn h _ =>
      have := lettered_len h
      exact flat_more (flat_cons (.str w (okLet h)) flat_nil) (by omega)
theorem reprX_ok {n : Int} (h0 : 0 ≤ n) (h1 : n ≤ 100) : PyData.strOk (reprX n) = true ∧ (reprX n).length ≤ 30 := by
  obtain ⟨f1, f2⟩ := fig_okI h0 h1
  unfold reprX
  refine ⟨ok_app (ok_app (ok_app (by decide +kernel) (by decide +kernel)) f1) (by decide +kernel), ?_⟩
  simp only [PySem.Str.length_append, (by decide +kernel : ("Expression of " : Str).length = 14), (by decide +kernel : (" knots" : Str).length = 6), (by decide +kernel : Str.empty.length = 0)]
  omega
def kinds7 : List Str := ["drop", "lead", "name", "part", "sign", "turn", "weave"]
theorem kind_in : ∀ t : Tr, t.kind ∈ kinds7
  | .sign _ => (by decide +kernel : ("sign" : Str) ∈ kinds7)
  | .name _ => (by decide +kernel : ("name" : Str) ∈ kinds7)
  | .weave _ => (by decide +kernel : ("weave" : Str) ∈ kinds7)
  | .part .. => (by decide +kernel : ("part" : Str) ∈ kinds7)
  | .drop .. => (by decide +kernel : ("drop" : Str) ∈ kinds7)
  | .lead .. => (by decide +kernel : ("lead" : Str) ∈ kinds7)
  | .turn .. => (by decide +kernel : ("turn" : Str) ∈ kinds7)
theorem kinds_ok : ∀ k ∈ kinds7, PyData.strOk k = true ∧ k.length ≤ 5 := by decide +kernel
theorem kind_ok (t : Tr) : PyData.strOk t.kind = true ∧ t.kind.length ≤ 5 := kinds_ok _ (kind_in t)
theorem lab_few {t : Tr} {ls : List Str} (lab : Lab t.names ls) : ls.length ≤ t.knots :=
  Nat.le_trans (sub_len lab.once fun x hx => (lab.mem x).mp hx) (names_len t)
theorem allD_fit {b : Int} {t : Tr} {ls : List Str} (ok : t.Ok b) (b0 : 0 ≤ b) (b9 : b ≤ 9) (k : t.knots ≤ 12) (lab : Lab t.names ls) : Fit (.list (allD b t ls)) := by
  obtain ⟨k1, k2⟩ := kind_ok t
  have T := told_flat b0 b9 ok
  have few := lab_few lab
  have L := flat_strs9 (ls := ls) fun x hx => by
    have h := names_okT t ok x ((lab.mem x).mp hx)
    exact ⟨ok_nameB h, nameB_len h⟩
  have tl := text_len b0 b9 t ok
  have R := reprX_ok (n := (t.knots : Nat)) (by omega) (by omega)
  have F := flat_cons (.int (t.knots : Nat) (by omega) (by omega)) (flat_cons (.str _ (text_ok b0 b9 t ok)) (flat_cons (.str _ R.1) flat_nil))
  have R2 := R.2
  have lay : (PyData.list (allD b t ls)).canLay0 = true := by
    show (PyData.strOk t.kind && (PyData.canLayAll0 (toldD b t) && (PyData.canLayAll0 (ls.map PyData.str) && PyData.canLayAll0 [.int (t.knots : Nat), .str (t.text b), .str (reprX (t.knots : Nat))]))) = true
    rw [k1, T.lay, L.lay, F.lay]; rfl
  have hI : (PyData.list (allD b t ls)).intsShort 13 = true := by
    show (true && (PyData.intsShortAll 13 (toldD b t) && (PyData.intsShortAll 13 (ls.map PyData.str) && PyData.intsShortAll 13 [.int (t.knots : Nat), .str (t.text b), .str (reprX (t.knots : Nat))]))) = true
    rw [T.isI, L.isI, F.isI]; rfl
  have wt : (PyData.list (allD b t ls)).weight ≤ 2000 := by
    show t.kind.cps.size + 1 + (PyData.weightAll (toldD b t) + 1 + (PyData.weightAll (ls.map PyData.str) + 1 + PyData.weightAll [.int (t.knots : Nat), .str (t.text b), .str (reprX (t.knots : Nat))])) ≤ 2000
    have e1 : t.kind.cps.size ≤ 5 := k2
    have e2 := T.wt
    have e3 := L.wt
    have e4 := F.wt
    have e5 : ls.length * 9 ≤ 12 * 9 := Nat.mul_le_mul_right 9 (by omega)
    omega
  refine ⟨?_, ?_, ?_⟩
  · show (true && (PyData.showableAll (toldD b t) && (PyData.showableAll (ls.map PyData.str) && PyData.showableAll [.int (t.knots : Nat), .str (t.text b), .str (reprX (t.knots : Nat))]))) = true
    rw [T.show_, L.show_, F.show_]; rfl
  · show max 0 (max (PyData.depthAll (toldD b t) + 1) (max (PyData.depthAll (ls.map PyData.str) + 1) (PyData.depthAll [.int (t.knots : Nat), .str (t.text b), .str (reprX (t.knots : Nat))]))) + 1 ≤ 20
    rw [T.dep, L.dep, F.dep]
    decide
  · have h2 := PyData.shown_le 13 (by decide) _ (PyData.leavesShort_of_canLay0 13 _ lay hI)
    have e : 16000000 ≤ sizeLine := by decide
    omega
/-! the classes, as isinstance sees them -/
structure Kinds (K : PySem.W.Frag) (mg : Str → Option Value) (CE : Addr) (kc : KCls) (cls : Addr → Prop) : Prop where
  ty : ∀ (H : Hp) (C a dx : Addr) (fs : List (Str × V)), cls C → H a = some (.ins C dx fs) → TyX K H (.ref a) (.ref C)
  kit : ∀ k ∈ kinds7, ∀ j ∈ kinds7, PySem.W.kitOne K (.ref (kc k)) (.ref (kc j)) = some (decide (k = j))
  top : ∀ k ∈ kinds7, PySem.W.kitOne K (.ref (kc k)) (.ref CE) = some true
  gl : mg "Expression" = some (.ref CE)
section
variable {P : Program} {w : World} {K : PySem.W.Frag} {mg : Str → Option Value} {base : Heap} {f C CF : Addr} {fd : FuncData} {st : Stmt} {x qual : Str} {p1 p2 p3 p4 p5 p6 p7 p8 : Pos} {j1 j2 : Nat}
theorem ok_reprX (F : Fun K x qual st f fd) (S : FnScope ["self"] ["self"] (defScope st)) (hb : defBody st = [.Return (some (.JoinedStr [.Constant (.str "Expression of ") j1 p5, .FormattedValue (.Attribute (.Attribute (.Name "self" p1) "facts" p2) "size" p3) (-1) none p7, .Constant (.str " knots") j2 p8] p6)) p4]) (v1 : Vis (defScope st) "self")
    (cC : Cls K C) (nC : NoAttr K C "facts") (cF : Cls K CF) (nF : NoAttr K CF "size") : FnOk P w K mg base CX0 1 f fd ["self"] (spReprX C CF) := by
  refine F.ok S (fun vs H Q E h => ?_) (fun cdv A outer s H vs Q E hr h => ?_)
  · obtain ⟨a, dx, fa, dfa, fs, gs, n, rfl, _⟩ := h
    rfl
  obtain ⟨a, dx, fa, dfa, fs, gs, n, rfl, h1, h2, h3, h4, n0, n1, q⟩ := h
  rw [hb]
  refine ⟨_, pss_one (ps_ret (pe_joined (.cons pe_str (.cons (pe_fmt (pe_fld (pe_fld (pe_var (i := 0) rfl v1) rfl) rfl)) (.cons pe_str .nil))))), ?_⟩
  obtain ⟨f1, f2⟩ := fig_okI n0 n1
  refine ⟨"Expression of ", rfl, by decide +kernel, _, rfl, a, C, dx, fs, _, rfl, h1, cC, nC, h2, fa, CF, dfa, gs, .int n, rfl, h3, cF, nF, h4, .inr ⟨n, rfl, small_log ⟨n0, by omega⟩, toString n, rfl, ?_, " knots", rfl, ?_, q⟩⟩
  · simp only [PySem.Str.length_append, (by decide +kernel : ("Expression of " : Str).length = 14), (by decide +kernel : Str.empty.length = 0)]
    exact small_line (by omega)
  · simp only [PySem.Str.length_append, (by decide +kernel : ("Expression of " : Str).length = 14), (by decide +kernel : (" knots" : Str).length = 6), (by decide +kernel : Str.empty.length = 0)]
    exact small_line (by omega)
end
end Wp

namespace Wp
open PySem PySem.Spec PyProof.Rows L2 Hx
theorem eqv_self {d : PyData} (h : SeqAt.shaped d = true) : PyData.eqv d d = true := SeqAt.eqv_refl_plain d (PyData.plain_of_canLay0 d (SeqAt.canLay_of_shaped h))
theorem bools_lay : ∀ bs : List Bool, PyData.canLayAll0 (bs.map PyData.bool) = true ∧ PyData.depthAll (bs.map PyData.bool) = 0
  | [] => ⟨rfl, rfl⟩
  | b :: bs => by
    obtain ⟨h1, h2⟩ := bools_lay bs
    constructor
    · show (true && PyData.canLayAll0 (bs.map PyData.bool)) = true
      rw [h1]; rfl
    · show max 0 (PyData.depthAll (bs.map PyData.bool)) = 0
      rw [h2]; rfl
theorem shaped_bools (bs : List Bool) : SeqAt.shaped (.list (bs.map PyData.bool)) = true := by
  obtain ⟨h1, h2⟩ := bools_lay bs
  show (PyData.canLayAll0 (bs.map PyData.bool) && decide (PyData.depthAll (bs.map PyData.bool) + 1 ≤ 64)) = true
  rw [h1, h2]
  rfl
theorem dq_bools {H : Hp} : ∀ bs : List Bool, DqAll H (bs.map V.bl) (bs.map PyData.bool)
  | [] => .nil
  | b :: bs => .cons (.bl b) (dq_bools bs)
theorem TrAt.head {H : Hp} {v : V} {t : Tr} (h : TrAt H v t) : ∃ p xs, v = .ref p ∧ H p = some (.tup (.str t.kind :: xs)) := by
  cases h with
  | sign e => exact ⟨_, _, rfl, e⟩
  | name e => exact ⟨_, _, rfl, e⟩
  | weave e _ _ => exact ⟨_, _, rfl, e⟩
  | part e _ => exact ⟨_, _, rfl, e⟩
  | drop e _ => exact ⟨_, _, rfl, e⟩
  | lead e _ _ => exact ⟨_, _, rfl, e⟩
  | turn e _ => exact ⟨_, _, rfl, e⟩
theorem kind_name : ∀ {t : Tr}, t.kind = "name" → ∃ n, t = .name n
  | .sign _, h => absurd h (by decide +kernel : ¬ (("sign" : Str) = "name"))
  | .name n, _ => ⟨n, rfl⟩
  | .weave _, h => absurd h (by decide +kernel : ¬ (("weave" : Str) = "name"))
  | .part .., h => absurd h (by decide +kernel : ¬ (("part" : Str) = "name"))
  | .drop .., h => absurd h (by decide +kernel : ¬ (("drop" : Str) = "name"))
  | .lead .., h => absurd h (by decide +kernel : ¬ (("lead" : Str) = "name"))
  | .turn .., h => absurd h (by decide +kernel : ¬ (("turn" : Str) = "name"))
theorem own_else : ∀ {t : Tr}, t.kind ≠ "name" → t.own = []
  | .sign _, _ => rfl
  | .name n, h => absurd rfl h
  | .weave _, _ => rfl
  | .part .., _ => rfl
  | .drop .., _ => rfl
  | .lead .., _ => rfl
  | .turn .., _ => rfl
theorem ok_kids {b : Int} {t : Tr} (h : t.Ok b) : Tr.OkL b t.kids := by
  cases h with
  | sign _ => exact .nil
  | name _ => exact .nil
  | weave _ h => exact h
  | part _ _ h => exact .cons h .nil
  | drop _ _ h => exact .cons h .nil
  | lead h h2 => exact .cons h (.cons h2 .nil)
  | turn _ h => exact .cons h .nil
section
variable {CF : Addr} {kc : KCls} {cls : Addr → Prop} {b : Int} {H : Hp}
theorem ExAll.at : ∀ {vs : List V} {l : List Tr} {i : Nat} {u : Tr}, ExAll CF kc cls b H vs l → l[i]? = some u → ∃ x, vs[i]? = some x ∧ ExAt CF kc cls b H x u
  | _, _, 0, _, .cons a r, h => ⟨_, rfl, by cases h; exact a⟩
  | _, _, i + 1, _, .cons a r, h => ExAll.at (i := i) r h
theorem TrAll.at : ∀ {vs : List V} {l : List Tr} {i : Nat} {u : Tr}, TrAll H vs l → l[i]? = some u → ∃ x, vs[i]? = some x ∧ TrAt H x u
  | _, _, 0, _, .cons a r, h => ⟨_, rfl, by cases h; exact a⟩
  | _, _, i + 1, _, .cons a r, h => TrAll.at (i := i) r h
end
theorem kids_few (t : Tr) : t.kids.length ≤ t.knots := by
  have h : ∀ l : List Tr, l.length ≤ Tr.knotsL l := fun l => by
    induction l with
    | nil => exact Nat.zero_le _
    | cons u r ih =>
      have := knots_pos u
      simp only [List.length_cons, Tr.knotsL]
      omega
  have := h t.kids
  have := kids_knots t
  omega
theorem empty_app (x : Str) : Str.empty ++ x = x := by
  refine str_ext ?_
  rw [cps_app]
  rfl
theorem atI0 {v : V} {xs : List V} : atI (v :: xs) 0 = some v := atI_nat (xs := v :: xs) (j := 0) rfl
end Wp

namespace Wp
open PySem PySem.Spec PyProof.Rows L2 Hx
/-! two trees of one text are one -/
abbrev ch (x : Str) : List Nat := x.cps.toList
/-- what stands behind the text of an inner expression -/
def Stop (r : List Nat) : Prop := r = [] ∨ ∃ c q, r = c :: q ∧ letterB c = false ∧ c ≠ 40
theorem split_word : ∀ {l1 l2 r1 r2 : List Nat}, l1.all letterB = true → l2.all letterB = true → (r1 = [] ∨ ∃ c q, r1 = c :: q ∧ letterB c = false) → (r2 = [] ∨ ∃ c q, r2 = c :: q ∧ letterB c = false) → l1 ++ r1 = l2 ++ r2 → l1 = l2 ∧ r1 = r2
  | [], [], _, _, _, _, _, _, h => ⟨rfl, h⟩
  | [], c :: l2, r1, r2, _, h2, d1, _, h => by
    obtain ⟨e1, _⟩ := Bool.and_eq_true_iff.mp (show (letterB c && l2.all letterB) = true from h2)
    rcases d1 with rfl | ⟨c', q, rfl, n⟩
    · cases h
    · have e := (List.cons.inj h).1
      rw [e, e1] at n
      cases n
  | c :: l1, [], r1, r2, h1, _, _, d2, h => by
    obtain ⟨e1, _⟩ := Bool.and_eq_true_iff.mp (show (letterB c && l1.all letterB) = true from h1)
    rcases d2 with rfl | ⟨c', q, rfl, n⟩
    · cases h
    · have e := (List.cons.inj h).1
      rw [← e, e1] at n
      cases n
  | c :: l1, c' :: l2, r1, r2, h1, h2, d1, d2, h => by
    obtain ⟨e, h'⟩ := List.cons.inj h
    obtain ⟨_, h1'⟩ := Bool.and_eq_true_iff.mp (show (letterB c && l1.all letterB) = true from h1)
    obtain ⟨_, h2'⟩ := Bool.and_eq_true_iff.mp (show (letterB c' && l2.all letterB) = true from h2)
    obtain ⟨a, b⟩ := split_word h1' h2' d1 d2 h'
    exact ⟨by rw [e, a], b⟩
theorem Stop.weak {r : List Nat} (h : Stop r) : r = [] ∨ ∃ c q, r = c :: q ∧ letterB c = false := h.imp id fun ⟨c, q, e, n, _⟩ => ⟨c, q, e, n⟩
theorem ch_letters {m : Int} {x : Str} (h : lettered m x = true) : (ch x).all letterB = true ∧ 1 ≤ (ch x).length ∧ ((ch x).length : Int) ≤ m := by
  unfold lettered at h
  obtain ⟨h1, h2⟩ := Bool.and_eq_true_iff.mp h
  obtain ⟨h2, h3⟩ := Bool.and_eq_true_iff.mp h2
  have e : (ch x).length = x.length := Array.length_toList
  have := of_decide_eq_true h1
  have := of_decide_eq_true h2
  exact ⟨h3, by omega, by omega⟩
theorem ch_word {x : Str} (h : nameB x = true) : (ch x).all letterB = true ∧ 1 ≤ (ch x).length ∧ x ∉ noNames := by
  unfold nameB at h
  obtain ⟨h1, h2⟩ := Bool.and_eq_true_iff.mp h
  obtain ⟨a, b, _⟩ := ch_letters h1
  refine ⟨a, b, fun z => ?_⟩
  rw [inV_str, decide_eq_true z] at h2
  cases h2
theorem ch_sign (s : Str) : ch (((Str.empty ++ "'") ++ s) ++ "'") = 39 :: (ch s ++ [39]) := by
  show (((Str.empty ++ "'") ++ s) ++ "'").cps.toList = _
  rw [cps_app, cps_app, cps_app]
  rfl
theorem ch_spell (k : Str) (ys : List Str) : ch (spell k ys) = ch k ++ (40 :: (ch (Str.join ", " ys) ++ [41])) := by
  show (spell k ys).cps.toList = _
  unfold spell
  rw [cps_app, cps_app, cps_app, cps_app]
  show (([] ++ ch k) ++ [40]) ++ ch (Str.join ", " ys) ++ [41] = _
  simp
theorem ch_join2 (x y : Str) (r : List Str) : ch (Str.join ", " (x :: y :: r)) = ch x ++ (44 :: 32 :: ch (Str.join ", " (y :: r))) := by
  show (x ++ ", " ++ Str.join ", " (y :: r)).cps.toList = _
  rw [cps_app, cps_app]
  show (ch x ++ [44, 32]) ++ ch (Str.join ", " (y :: r)) = _
  simp
theorem fig_ch : ∀ n : Nat, n ≤ 9 → ch (toString (n : Int) : Str) = [48 + n] := by decide +kernel
theorem fig_chI {i : Int} (h0 : 0 ≤ i) (h9 : i ≤ 9) : ch (toString i : Str) = [48 + i.toNat] := by
  have := fig_ch i.toNat (by omega)
  rw [Int.toNat_of_nonneg h0] at this
  exact this
theorem stop_comma (r : List Nat) : Stop (44 :: r) := .inr ⟨44, r, rfl, by decide, by decide⟩
theorem stop_close (r : List Nat) : Stop (41 :: r) := .inr ⟨41, r, rfl, by decide, by decide⟩
/-- the word that a text begins with, and what is behind it -/
def wordOf : Tr → List Nat
  | .sign _ => [] | .name n => ch n | .weave _ => ch "weave" | .part .. => ch "part" | .drop .. => ch "drop" | .lead .. => ch "lead" | .turn .. => ch "turn"
def bodyOf (b : Int) : Tr → List Nat
  | .sign s => 39 :: (ch s ++ [39]) | .name _ => [] | .weave l => 40 :: (ch (Str.join ", " (Tr.textL b l)) ++ [41]) | .part j t => 40 :: (ch (Str.join ", " [toString j, toString b, t.text b]) ++ [41])
  | .drop c t => 40 :: (ch (Str.join ", " [toString c, t.text b]) ++ [41]) | .lead t u => 40 :: (ch (Str.join ", " [t.text b, u.text b]) ++ [41]) | .turn w t => 40 :: (ch (Str.join ", " [w, t.text b]) ++ [41])
theorem text_parts (b : Int) : ∀ t : Tr, ch (t.text b) = wordOf t ++ bodyOf b t
  | .sign s => ch_sign s
  | .name n => by show ch n = ch n ++ []; rw [List.append_nil]
  | .weave l => ch_spell _ _
  | .part j t => ch_spell _ _
  | .drop c t => ch_spell _ _
  | .lead t u => ch_spell _ _
  | .turn w t => ch_spell _ _
theorem word_letters {b : Int} : ∀ {t : Tr}, t.Ok b → (wordOf t).all letterB = true
  | .sign _, _ => rfl
  | .name n, h => by
    cases h with
    | name h => exact (ch_word h).1
  | .weave _, _ => (by decide +kernel : (ch "weave").all letterB = true)
  | .part .., _ => (by decide +kernel : (ch "part").all letterB = true)
  | .drop .., _ => (by decide +kernel : (ch "drop").all letterB = true)
  | .lead .., _ => (by decide +kernel : (ch "lead").all letterB = true)
  | .turn .., _ => (by decide +kernel : (ch "turn").all letterB = true)
theorem body_stop {b : Int} {r : List Nat} (hr : Stop r) : ∀ t : Tr, bodyOf b t ++ r = [] ∨ ∃ c q, bodyOf b t ++ r = c :: q ∧ letterB c = false
  | .sign _ => .inr ⟨39, _, rfl, by decide⟩
  | .name _ => hr.weak
  | .weave _ => .inr ⟨40, _, rfl, by decide⟩
  | .part .. => .inr ⟨40, _, rfl, by decide⟩
  | .drop .. => .inr ⟨40, _, rfl, by decide⟩
  | .lead .. => .inr ⟨40, _, rfl, by decide⟩
  | .turn .. => .inr ⟨40, _, rfl, by decide⟩
theorem str_of_ch {x y : Str} (h : ch x = ch y) : x = y := str_ext h
def kwC (k : Str) : List Nat := if k = "sign" then [] else ch k
theorem kw_inj : ∀ k ∈ kinds7, ∀ j ∈ kinds7, kwC k = kwC j → k = j := by decide +kernel
theorem word_kw : ∀ t : Tr, (∃ n, t = .name n) ∨ wordOf t = kwC t.kind
  | .sign _ => .inr (by show [] = kwC "sign"; decide +kernel)
  | .name n => .inl ⟨n, rfl⟩
  | .weave _ => .inr (by show ch "weave" = kwC "weave"; decide +kernel)
  | .part .. => .inr (by show ch "part" = kwC "part"; decide +kernel)
  | .drop .. => .inr (by show ch "drop" = kwC "drop"; decide +kernel)
  | .lead .. => .inr (by show ch "lead" = kwC "lead"; decide +kernel)
  | .turn .. => .inr (by show ch "turn" = kwC "turn"; decide +kernel)
theorem kw_no : ∀ k ∈ kinds7, k ≠ "name" → kwC k = [] ∨ ∃ x ∈ noNames, kwC k = ch x := by decide +kernel
theorem name_word {b : Int} {n : Str} {u : Tr} (h : nameB n = true) (hu : u.Ok b) (e : ch n = wordOf u) : u = .name n := by
  rcases word_kw u with ⟨m, rfl⟩ | e2
  · rw [str_of_ch (show ch n = ch m from e)]
  · by_cases c : u.kind = "name"
    · obtain ⟨m, rfl⟩ := kind_name c
      rw [str_of_ch (show ch n = ch m from e)]
    · exfalso
      obtain ⟨_, w1, w2⟩ := ch_word h
      rw [e2] at e
      rcases kw_no _ (kind_in u) c with z | ⟨x, hx, z⟩
      · rw [e, z] at w1
        cases w1
      · rw [z] at e
        rw [str_of_ch e] at w2
        exact w2 hx
theorem word_kind {b : Int} {t u : Tr} (ht : t.Ok b) (hu : u.Ok b) (e : wordOf t = wordOf u) : t.kind = u.kind ∧ (∀ n, t = .name n → u = .name n) := by
  rcases word_kw t with ⟨n, rfl⟩ | e1
  · cases ht with
    | name hn =>
      have z := name_word hn hu e
      subst z
      exact ⟨rfl, fun _ y => y⟩
  · rcases word_kw u with ⟨m, rfl⟩ | e2
    · cases hu with
      | name hm =>
        have z := name_word hm ht e.symm
        subst z
        exact ⟨rfl, fun _ y => y⟩
    · rw [e1, e2] at e
      have k := kw_inj _ (kind_in t) _ (kind_in u) e
      refine ⟨k, fun n z => ?_⟩
      subst z
      obtain ⟨m, rfl⟩ := kind_name k.symm
      have e3 : ch n = kwC "name" := e1
      have e4 : ch m = kwC "name" := e2
      rw [str_of_ch (e3.trans e4.symm)]
section
variable {b : Int}
mutual
theorem text_inj (b2 : 2 ≤ b) (b4 : b ≤ 4) : ∀ (t u : Tr) (r s : List Nat), t.Ok b → u.Ok b → Stop r → Stop s → ch (t.text b) ++ r = ch (u.text b) ++ s → t = u ∧ r = s
  | t, u, r, s, ht, hu, hr, hs, h => by
    rw [text_parts, text_parts, List.append_assoc, List.append_assoc] at h
    obtain ⟨ew, eb⟩ := split_word (word_letters ht) (word_letters hu) (body_stop hr t) (body_stop hs u) h
    obtain ⟨kk, nn⟩ := word_kind ht hu ew
    match t, u, ht, hu, kk, nn, eb with
    | .name n, u, ht, hu, kk, nn, eb =>
      have e := nn n rfl
      subst e
      exact ⟨rfl, eb⟩
    | .sign x, .sign y, ht, hu, kk, nn, eb =>
      cases ht with
      | sign ht =>
        cases hu with
        | sign hu =>
          have e1 : ch x ++ (39 :: r) = ch y ++ (39 :: s) := by
            have := (List.cons.inj eb).2
            simpa using this
          obtain ⟨a, c⟩ := split_word (ch_letters ht).1 (ch_letters hu).1 (.inr ⟨39, _, rfl, by decide⟩) (.inr ⟨39, _, rfl, by decide⟩) e1
          exact ⟨by rw [str_of_ch a], (List.cons.inj c).2⟩
    | .weave l, .weave m, ht, hu, kk, nn, eb =>
      cases ht with
      | weave hl ht =>
        cases hu with
        | weave hm hu =>
          have e1 : ch (Str.join ", " (Tr.textL b l)) ++ (41 :: r) = ch (Str.join ", " (Tr.textL b m)) ++ (41 :: s) := by
            have := (List.cons.inj eb).2
            simpa using this
          obtain ⟨a, c⟩ := textL_inj b2 b4 l m r s ht hu (by omega) (by omega) hr hs e1
          exact ⟨by rw [a], c⟩
    | .part j t, .part k u, ht, hu, kk, nn, eb =>
      cases ht with
      | part j0 j1 ht =>
        cases hu with
        | part k0 k1 hu =>
          have e1 := (List.cons.inj eb).2
          rw [ch_join2, ch_join2, ch_join2, ch_join2, fig_chI j0 (by omega), fig_chI k0 (by omega), fig_chI (i := b) (by omega) (by omega)] at e1
          have e2 : (48 + j.toNat) :: 44 :: 32 :: (48 + b.toNat) :: 44 :: 32 :: (ch (t.text b) ++ (41 :: r)) = (48 + k.toNat) :: 44 :: 32 :: (48 + b.toNat) :: 44 :: 32 :: (ch (u.text b) ++ (41 :: s)) := by
            simpa [Str.join] using e1
          simp only [List.cons.injEq, true_and] at e2
          obtain ⟨a, c⟩ := text_inj b2 b4 t u _ _ ht hu (stop_close r) (stop_close s) e2.2
          have ejk : j = k := by omega
          exact ⟨by rw [a, ejk], (List.cons.inj c).2⟩
    | .drop j t, .drop k u, ht, hu, kk, nn, eb =>
      cases ht with
      | drop j0 j1 ht =>
        cases hu with
        | drop k0 k1 hu =>
          have e1 := (List.cons.inj eb).2
          rw [ch_join2, ch_join2, fig_chI (by omega) j1, fig_chI (by omega) k1] at e1
          have e2 : (48 + j.toNat) :: 44 :: 32 :: (ch (t.text b) ++ (41 :: r)) = (48 + k.toNat) :: 44 :: 32 :: (ch (u.text b) ++ (41 :: s)) := by
            simpa [Str.join] using e1
          simp only [List.cons.injEq, true_and] at e2
          obtain ⟨a, c⟩ := text_inj b2 b4 t u _ _ ht hu (stop_close r) (stop_close s) e2.2
          have ejk : j = k := by omega
          exact ⟨by rw [a, ejk], (List.cons.inj c).2⟩
    | .lead t t2, .lead u u2, ht, hu, kk, nn, eb =>
      cases ht with
      | lead ht ht2 =>
        cases hu with
        | lead hu hu2 =>
          have e1 := (List.cons.inj eb).2
          rw [ch_join2, ch_join2] at e1
          have e2 : ch (t.text b) ++ (44 :: 32 :: (ch (t2.text b) ++ (41 :: r))) = ch (u.text b) ++ (44 :: 32 :: (ch (u2.text b) ++ (41 :: s))) := by
            simpa [Str.join] using e1
          obtain ⟨a, c⟩ := text_inj b2 b4 t u _ _ ht hu (stop_comma _) (stop_comma _) e2
          simp only [List.cons.injEq, true_and] at c
          obtain ⟨a2, c2⟩ := text_inj b2 b4 t2 u2 _ _ ht2 hu2 (stop_close r) (stop_close s) c
          exact ⟨by rw [a, a2], (List.cons.inj c2).2⟩
    | .turn x t, .turn y u, ht, hu, kk, nn, eb =>
      cases ht with
      | turn hx ht =>
        cases hu with
        | turn hy hu =>
          have e1 := (List.cons.inj eb).2
          rw [ch_join2, ch_join2] at e1
          have e2 : ch x ++ (44 :: 32 :: (ch (t.text b) ++ (41 :: r))) = ch y ++ (44 :: 32 :: (ch (u.text b) ++ (41 :: s))) := by
            simpa [Str.join] using e1
          obtain ⟨a, c⟩ := split_word (ch_letters hx).1 (ch_letters hy).1 (.inr ⟨44, _, rfl, by decide⟩) (.inr ⟨44, _, rfl, by decide⟩) e2
          simp only [List.cons.injEq, true_and] at c
          obtain ⟨a2, c2⟩ := text_inj b2 b4 t u _ _ ht hu (stop_close r) (stop_close s) c
          exact ⟨by rw [str_of_ch a, a2], (List.cons.inj c2).2⟩
theorem textL_inj (b2 : 2 ≤ b) (b4 : b ≤ 4) : ∀ (l m : List Tr) (r s : List Nat), Tr.OkL b l → Tr.OkL b m → l.length = m.length → 0 < l.length → Stop r → Stop s →
    ch (Str.join ", " (Tr.textL b l)) ++ (41 :: r) = ch (Str.join ", " (Tr.textL b m)) ++ (41 :: s) → l = m ∧ r = s
  | [t], [u], r, s, ht, hu, _, _, hr, hs, h => by
    cases ht with
    | cons ht _ =>
      cases hu with
      | cons hu _ =>
        obtain ⟨a, c⟩ := text_inj b2 b4 t u _ _ ht hu (stop_close r) (stop_close s) h
        exact ⟨by rw [a], (List.cons.inj c).2⟩
  | t :: t2 :: l, u :: u2 :: m, r, s, ht, hu, hl, _, hr, hs, h => by
    cases ht with
    | cons ht htl =>
      cases hu with
      | cons hu hul =>
        have h2 : ch (t.text b) ++ (44 :: 32 :: (ch (Str.join ", " (Tr.textL b (t2 :: l))) ++ (41 :: r))) = ch (u.text b) ++ (44 :: 32 :: (ch (Str.join ", " (Tr.textL b (u2 :: m))) ++ (41 :: s))) := by
          have e1 : ch (Str.join ", " (Tr.textL b (t :: t2 :: l))) = ch (t.text b) ++ (44 :: 32 :: ch (Str.join ", " (Tr.textL b (t2 :: l)))) := ch_join2 _ _ _
          have e2 : ch (Str.join ", " (Tr.textL b (u :: u2 :: m))) = ch (u.text b) ++ (44 :: 32 :: ch (Str.join ", " (Tr.textL b (u2 :: m)))) := ch_join2 _ _ _
          rw [e1, e2] at h
          simpa using h
        obtain ⟨a, c⟩ := text_inj b2 b4 t u _ _ ht hu (stop_comma _) (stop_comma _) h2
        simp only [List.cons.injEq, true_and] at c
        obtain ⟨a2, c2⟩ := textL_inj b2 b4 (t2 :: l) (u2 :: m) r s htl hul (by simpa using hl) (by simp) hr hs c
        exact ⟨by rw [a, a2], c2⟩
  | [], _, _, _, _, _, _, h0, _, _, _ => by cases h0
  | [_], [], _, _, _, _, hl, _, _, _, _ => by cases hl
  | [_], _ :: _ :: _, _, _, _, _, hl, _, _, _, _ => by cases hl
  | _ :: _ :: _, [], _, _, _, _, hl, _, _, _, _ => by cases hl
  | _ :: _ :: _, [_], _, _, _, _, hl, _, _, _, _ => by cases hl
end
theorem text_one (b2 : 2 ≤ b) (b4 : b ≤ 4) {t u : Tr} (ht : t.Ok b) (hu : u.Ok b) (h : t.text b = u.text b) : t = u :=
  (text_inj b2 b4 t u [] [] ht hu (.inl rfl) (.inl rfl) (by rw [h])).1
end
end Wp

namespace Wp
open PySem PySem.Spec PyProof.Rows L2 Hx
/-! the pieces of a text, as lists of signs -/
def pieceC (l : List Nat) : List Nat :=
  if l.takeWhile letterB = [] then
    match l with
    | [] => []
    | 39 :: r => (39 :: r).take 3
    | 44 :: 32 :: _ => [44, 32]
    | c :: _ => [c]
  else if l[(l.takeWhile letterB).length]? = some 40 then l.takeWhile letterB ++ [40] else l.takeWhile letterB
def piecesF : Nat → List Nat → List (List Nat)
  | 0, _ => []
  | n + 1, l => if l = [] then [] else pieceC l :: piecesF n (l.drop (pieceC l).length)
def pieces (l : List Nat) : List (List Nat) := piecesF l.length l
theorem take_word : ∀ {w r : List Nat}, w.all letterB = true → (r = [] ∨ ∃ c q, r = c :: q ∧ letterB c = false) → (w ++ r).takeWhile letterB = w
  | [], r, _, h => by
    rcases h with rfl | ⟨c, q, rfl, n⟩
    · rfl
    · rw [List.nil_append, List.takeWhile_cons, n]
      rfl
  | c :: w, r, a, h => by
    obtain ⟨a1, a2⟩ := Bool.and_eq_true_iff.mp (show (letterB c && w.all letterB) = true from a)
    rw [List.cons_append, List.takeWhile_cons, a1]
    show c :: (w ++ r).takeWhile letterB = c :: w
    rw [take_word a2 h]
theorem piece_len (l : List Nat) : (pieceC l).length ≤ l.length ∧ (l ≠ [] → 0 < (pieceC l).length) := by
  unfold pieceC
  have tw : (l.takeWhile letterB).length ≤ l.length := (List.takeWhile_prefix _).length_le
  by_cases h : l.takeWhile letterB = []
  · rw [if_pos h]
    split
    · exact ⟨Nat.le_refl _, fun z => absurd rfl z⟩
    · refine ⟨?_, fun _ => ?_⟩
      · rw [List.length_take]; exact Nat.min_le_right _ _
      · rw [List.length_take, List.length_cons]; omega
    · refine ⟨?_, fun _ => Nat.succ_pos _⟩
      simp only [List.length_cons, List.length_nil]; omega
    · refine ⟨?_, fun _ => Nat.succ_pos _⟩
      simp only [List.length_cons, List.length_nil]; omega
  · rw [if_neg h]
    have h0 : 0 < (l.takeWhile letterB).length := List.length_pos_iff.mpr h
    by_cases g : l[(l.takeWhile letterB).length]? = some 40
    · rw [if_pos g, List.length_append]
      obtain ⟨lt, _⟩ := List.getElem?_eq_some_iff.mp g
      simp only [List.length_cons, List.length_nil]
      exact ⟨by omega, fun _ => by omega⟩
    · rw [if_neg g]
      exact ⟨tw, fun _ => h0⟩
theorem piecesF_more : ∀ (n m : Nat) (l : List Nat), l.length ≤ n → l.length ≤ m → piecesF n l = piecesF m l
  | 0, 0, _, _, _ => rfl
  | 0, m + 1, l, h, _ => by
    have : l = [] := List.length_eq_zero_iff.mp (by omega)
    subst this
    rfl
  | n + 1, 0, l, _, h => by
    have : l = [] := List.length_eq_zero_iff.mp (by omega)
    subst this
    rfl
  | n + 1, m + 1, l, h1, h2 => by
    unfold piecesF
    by_cases e : l = []
    · rw [if_pos e, if_pos e]
    · rw [if_neg e, if_neg e]
      have ⟨a, b⟩ := piece_len l
      have b := b e
      rw [piecesF_more n m _ (by rw [List.length_drop]; omega) (by rw [List.length_drop]; omega)]
theorem pieces_nil : pieces [] = [] := rfl
theorem pieces_step {l : List Nat} (h : l ≠ []) : pieces l = pieceC l :: pieces (l.drop (pieceC l).length) := by
  have ⟨a, b⟩ := piece_len l
  have b := b h
  obtain ⟨n, hn⟩ : ∃ n, l.length = n + 1 := ⟨l.length - 1, by omega⟩
  show piecesF l.length l = _
  rw [hn]
  show (if l = [] then [] else pieceC l :: piecesF n (l.drop (pieceC l).length)) = _
  rw [if_neg h]
  unfold pieces
  rw [piecesF_more n _ _ (by rw [List.length_drop]; omega) (Nat.le_refl _)]
/-- a piece in front -/
theorem pieces_app {p r : List Nat} (n : p ≠ []) (h : pieceC (p ++ r) = p) : pieces (p ++ r) = p :: pieces r := by
  rw [pieces_step (by intro z; exact n (List.append_eq_nil_iff.mp z).1), h, List.drop_left]
theorem piece_one {c : Nat} {r : List Nat} (h1 : letterB c = false) (h2 : c ≠ 39) (h3 : c ≠ 44 ∨ ∀ q, r ≠ 32 :: q) : pieceC (c :: r) = [c] := by
  unfold pieceC
  have e : (c :: r).takeWhile letterB = [] := by rw [List.takeWhile_cons, h1]; rfl
  rw [if_pos e]
  split
  · rename_i z; cases z
  · rename_i z; exact absurd (List.cons.inj z).1 h2
  · rename_i q z
    obtain ⟨a, b⟩ := List.cons.inj z
    rcases h3 with n | n
    · exact absurd a n
    · exact absurd b (n q)
  · rename_i z
    rw [(List.cons.inj z).1]
theorem piece_comma (r : List Nat) : pieceC (44 :: 32 :: r) = [44, 32] := by
  unfold pieceC
  rw [if_pos (by rw [List.takeWhile_cons, show letterB 44 = false by decide]; rfl)]
  rfl
theorem piece_quote (r : List Nat) : pieceC (39 :: r) = (39 :: r).take 3 := by
  unfold pieceC
  rw [if_pos (by rw [List.takeWhile_cons, show letterB 39 = false by decide]; rfl)]
  rfl
theorem piece_word {w r : List Nat} (a : w.all letterB = true) (n : w ≠ []) (h : r = [] ∨ ∃ c q, r = c :: q ∧ letterB c = false ∧ c ≠ 40) : pieceC (w ++ r) = w := by
  have tw := take_word a (h.imp id fun ⟨c, q, e, x, _⟩ => ⟨c, q, e, x⟩)
  unfold pieceC
  rw [tw, if_neg n, if_neg]
  rw [List.getElem?_append_right (Nat.le_refl _), Nat.sub_self]
  rcases h with rfl | ⟨c, q, rfl, _, x⟩
  · intro z; cases z
  · intro z
    exact x (Option.some.inj z)
theorem piece_open {w r : List Nat} (a : w.all letterB = true) (n : w ≠ []) : pieceC (w ++ (40 :: r)) = w ++ [40] := by
  have tw := take_word (r := 40 :: r) a (.inr ⟨40, r, rfl, by decide⟩)
  unfold pieceC
  rw [tw, if_neg n, if_pos]
  rw [List.getElem?_append_right (Nat.le_refl _), Nat.sub_self]
  rfl
end Wp

namespace Wp
open PySem PySem.Spec PyProof.Rows L2 Hx
def un (l : List Nat) : Str := ⟨l.toArray⟩
theorem ch_un (l : List Nat) : ch (un l) = l := List.toList_toArray
theorem un_ch (x : Str) : un (ch x) = x := str_of_ch (ch_un _)
end Wp

/-! x[::-1]; bool of an own object; == and != of an own object beside any value -/
namespace Hx
open PySem PySem.Spec PyProof.Rows L2
def SlB (X : Cx) (r : V → Hp → VK → Prop) : Prop :=
  ∀ (pins : List (Addr × Obj)) (s : Shared) (σ : L2.St) (H : Hp) (x : V) (v : Value) (tk : Tok) (sl : Addr) (Q : VK), Inv X pins σ H s → RelV x v → s.heap.IsSliceOf sl .none .none (.int (-1) tk) → r x H Q →
    ∃ T id, typeLookup (.type T) "__getitem__" = pure (some (.builtin id)) ∧ s.TypeIs v T ∧ wpAny (model X.prog X.w) X.A (getItem v (.ref sl)) (EP X pins σ Q) X.xe s
def tBack (r : V → Hp → VK → Prop) (te tk : TE) : TE := fun σ H Q => te σ H fun x H1 => tk σ H1 fun y H2 => y = .int (-1) ∧ r x H2 Q
def revS (z : Str) : Str := ⟨z.cps.toList.reverse.toArray⟩
section
variable {X : Cx} {e k : Expr} {te tk : TE} {pos p2 : Pos}
theorem pe_back {r : V → Hp → VK → Prop} (hr : SlB X r) (he : PE X e te) (hk : PE X k tk) : PE X (.Subscript e (.Slice none none (some k) p2) pos) (tBack r te tk) := by
  refine ⟨fun pins s σ H Q I h => ?_⟩
  refine Subscript_ (thn (he.run pins s σ H _ I h) fun v s1 ⟨x, H1, I1, r1, q1⟩ => ?_)
  refine wpAny_Slice ?_
  rw [evalPart_none, evalPart_some]
  refine wpAny_pure (wpAny_pure ?_)
  refine thn (hk.run pins s1 σ H1 _ I1 q1) fun u s3 ⟨y, H3, I3, r3, q3⟩ => ?_
  obtain ⟨rfl, q⟩ := q3
  obtain ⟨t, rfl⟩ := r3
  have I4 : Inv X pins σ H3 { s3 with heap := s3.heap.push { cls := .type "slice", data := .fields #[.none, .none, .int (-1) t] } } := I3.kept (t' := s3.toks) fun b ob q => Heap.get?_push_of_some _ q
  obtain ⟨T, id, hT, ht, hg⟩ := hr pins { s3 with heap := s3.heap.push { cls := .type "slice", data := .fields #[.none, .none, .int (-1) t] } } σ H3 x v t s3.heap.objs.size Q I4 r1 (Heap.IsSliceOf.new ..) q
  show wpAny (model X.prog X.w) X.A (subscriptTail e (.Slice none none (some k) p2) v (.ref s3.heap.objs.size)) (EP X pins σ Q) X.xe { s3 with heap := s3.heap.push { cls := .type "slice", data := .fields #[.none, .none, .int (-1) t] } }
  exact tail_any (ops := [v, .ref s3.heap.objs.size]) ht hT hg (by with_unfolding_all rfl)
def rBackL (K : PySem.W.Frag) : V → Hp → VK → Prop := fun x H Q => ∃ a xs, x = .ref a ∧ SqL K H a xs ∧ ∀ p, H p = none → Q (.ref p) (upd H p (.lst xs.reverse))
theorem sl_backL : SlB X (rBackL X.K) := by
  intro pins s σ H x v tk sl Q I rx hs h
  obtain ⟨a, xs, rfl, hx, q⟩ := h
  cases rx
  obtain ⟨its, r, ht, hz⟩ := I.list hx
  have hlen := r.length
  refine ⟨"list", _, slot_list_getitem.lookup, ht.isList.typeIs, ?_⟩
  refine wpAny_getItem_list_slice ht.isList hs .none .none (.int (-1) tk) (by decide) ?_ (by rw [List.size_toArray] <;> omega)
  rw [PySem.W.krv_pick]
  refine ⟨.ref s.heap.objs.size, _, I.laid (t' := s.toks) (o := .lst xs.reverse) (fun b ob q => Heap.get?_push_of_some _ q) (Nat.le_refl _) ?_, rfl, q _ (I.hok.fresh (Nat.le_refl _))⟩
  exact ⟨by rw [List.length_reverse]; exact hz, _, 0, r.reverse, Heap.get?_push_size _ rfl⟩
def rBackS : V → Hp → VK → Prop := fun x H Q => ∃ z : Str, x = .str z ∧ z.length ≤ sizeLine ∧ Q (.str (revS z)) H
theorem back_is (x : Str) (u : Tok) : Txt.sliceBy x none none (-1, u) = revS x := by
  have h := step_rev_list x u
  have e : (Txt.sliceBy x none none (-1, u)).cps.toList = x.cps.toList.reverse := by
    rw [h]
    refine List.ext_getElem (by simp [Str.length]) fun i h1 h2 => ?_
    simp only [List.length_map, List.length_range] at h1
    rw [List.getElem_map, List.getElem_range, List.getElem_reverse]
    have hl : x.cps.toList.length = x.length := Array.length_toList
    have : x.length - 1 - i < x.cps.size := by show _ < x.length; omega
    simp [Array.getD, this, hl]
  unfold revS
  rw [← e]
theorem sl_backS : SlB X rBackS := by
  intro pins s σ H x v tk sl Q I rx hs h
  obtain ⟨z, rfl, hz, q⟩ := h
  obtain ⟨t, rfl⟩ := rx
  obtain ⟨os, hos, hcs, hds⟩ := hs
  refine ⟨"str", _, F.slot_str_getitem.lookup, typeIs_str _ _ _, ?_⟩
  refine wpAny_getItem_str_slice (l := none) (u := none) (st := some (-1, tk)) ⟨os, hos, hcs, hds⟩ rfl ?_
  refine post_val_or_str ⟨Nat.le_trans (Txt.sliceBy_le z none none (-1, tk) (show (-1 : Int) ≠ 0 by decide)) hz, fun t' c => ?_⟩
  refine ⟨.str (revS z), H, I.tok _, ⟨t', ?_⟩, q⟩
  show Value.str (Txt.sliceBy z none none (-1, tk)) t' = .str (revS z) t'
  rw [back_is]
end
/-! bool of an own object -/
section
variable {M : Model} {A : Around} {E : Value → Shared → Prop} {s : Shared} {K : PySem.W.Frag} {x C : Addr} {ox : Obj} {od : Option Obj}
theorem truthy_own0 {Q : Bool → Shared → Prop} (X : K.In s.heap) (I : PySem.W.InstAt s.heap x ox C od) (hs : PySem.W.findIn K (.ref C) "__bool__" = some none) (hl : PySem.W.findIn K (.ref C) "__len__" = some none)
    (h : Q true s) : wpAny M A (truthy (.ref x)) Q E s := by
  unfold truthy
  refine wpAny_bind (m := callSpecial? (.ref x) (Str.ofString "__bool__")) (wpAny_bind (wpAny_bind (I.type.here ((PySem.W.looks_findIn X hs).here (wpAny_pure ?_)))))
  refine wpAny_bind (wpAny_bind (I.type.here ((PySem.W.looks_findIn X hl).here ?_)))
  exact wpAny_pure h
theorem meets_bool_own (hs : PySem.W.findIn K (.ref C) "__bool__" = some none) (hl : PySem.W.findIn K (.ref C) "__len__" = some none) :
    Meets (Builtin.«bool.__new__» ⟨[.type "bool", .ref x], []⟩) (fun _ R s => (K.In s.heap ∧ PySem.W.InstAt s.heap x ox C od) ∧ R (.ok (.ret (.bool true))) s) :=
  Meets.of_wp fun prog w A R s hs' => by
    obtain ⟨⟨X, I⟩, hs'⟩ := hs'
    have f1 := F.conv_sub_bool
    repeat (any_goals (first | assumption | (with_reducible refine truthy_own0 X I hs hl ?_) | wp_step))
    all_goals first | exact ⟨_, rfl, hs'⟩ | exact hs' | skip
end
section
variable {X : Cx}
theorem call_boolO : CallR X (.type "bool") (fun xs H Q => ∃ (a C dx : Addr) (fs : List (Str × V)), xs = [.ref a] ∧ H a = some (.ins C dx fs) ∧ PySem.W.findIn X.K (.ref C) "__bool__" = some none ∧ PySem.W.findIn X.K (.ref C) "__len__" = some none ∧ Q (.bl true) H) := by
  intro pins s σ H xs us Q I r h
  obtain ⟨a, C, dx, fs, rfl, ha, h1, h2, q⟩ := h
  rw [Vals.ref1 r]
  obtain ⟨mA, O, _⟩ := ins_get I.hok ha
  obtain ⟨od, J, _⟩ := O.look
  exact call_bool_1 (meets_bool_own h1 h2) ⟨⟨I.kIn, J⟩, rfl, ⟨.bl true, H, I, rfl, q⟩⟩
/-! == and != beside any value -/
/-- the class of a right operand -/
inductive RightT (H : Hp) : V → Value → Prop
  | non : RightT H .non (.type "NoneType")
  | bl (b : Bool) : RightT H (.bl b) (.type "bool")
  | int (i : Int) : RightT H (.int i) (.type "int")
  | str (z : Str) : RightT H (.str z) (.type "str")
  | lst {a : Addr} {xs : List V} (e : H a = some (.lst xs)) : RightT H (.ref a) (.type "list")
  | tup {a : Addr} {xs : List V} (e : H a = some (.tup xs)) : RightT H (.ref a) (.type "tuple")
  | ins {a C dx : Addr} {fs : List (Str × V)} (e : H a = some (.ins C dx fs)) : RightT H (.ref a) (.ref C)
/-- a class with an __eq__ of its own, nothing asked of the right operand -/
structure EqAny (P : Program) (w : World) (K : PySem.W.Frag) (mg : Str → Option Value) (base : Heap) (k : Nat) (C : Addr) (sp : Sp) : Prop where
  go : ∃ (g : Addr) (fd : FuncData) (ps : List Str), PySem.W.findIn K (.ref C) "__eq__" = some (some (.ref g)) ∧ PySem.W.isFn K (.ref g) = true ∧ FnOk P w K mg base CX0 k g fd ps sp ∧ Binds K fd ps []
  ne : PySem.W.findIn K (.ref C) "__ne__" = some (some (.builtin "object.__ne__"))
  obj : PySem.W.mroIn K C (.type "object") = some true
def rEqA (P : Program) (w : World) (K : PySem.W.Frag) (mg : Str → Option Value) (base : Heap) (k : Nat) : R2 := fun x y H Q => ∃ (a C dx : Addr) (fs : List (Str × V)) (sp : Sp) (t : Value), x = .ref a ∧ H a = some (.ins C dx fs) ∧ EqAny P w K mg base k C sp ∧
  RightT H y t ∧ PySem.W.notFirst K C t = true ∧ sp [x, y] H (fun v H' => ∃ b, v = .bl b ∧ Q (.bl b) H') E0
def rNeA (P : Program) (w : World) (K : PySem.W.Frag) (mg : Str → Option Value) (base : Heap) (k : Nat) : R2 := fun x y H Q => ∃ (a C dx : Addr) (fs : List (Str × V)) (sp : Sp) (t : Value), x = .ref a ∧ H a = some (.ins C dx fs) ∧ EqAny P w K mg base k C sp ∧
  RightT H y t ∧ PySem.W.notFirst K C t = true ∧ sp [x, y] H (fun v H' => ∃ b, v = .bl b ∧ Q (.bl (!b)) H') E0
theorem right_any {pins : List (Addr × Obj)} {σ : L2.St} {H : Hp} {s : Shared} {y : V} {u t : Value} (I : Inv X pins σ H s) (ry : RelV y u) (r : RightT H y t) : PySem.W.Looks (model X.prog X.w) s.heap (typeOf u) t := by
  cases r with
  | non => cases ry; exact .of_pure rfl
  | bl b => cases ry; exact .of_pure rfl
  | int i => obtain ⟨t, rfl⟩ := ry; exact .of_pure rfl
  | str z => obtain ⟨t, rfl⟩ := ry; exact .of_pure rfl
  | @lst a xs e =>
    cases (show u = Value.ref a from ry)
    obtain ⟨_, its, n, rv, hg⟩ := (show ObjOk X.prog X.w H s.heap a (.lst xs) from I.hok a _ e)
    exact (PySem.W.Looks.ld hg).andThen .now
  | @tup a xs e =>
    cases (show u = Value.ref a from ry)
    obtain ⟨its, _, ⟨o, ho, hc, _⟩, _⟩ := I.tuple (SqT.of e)
    exact hc ▸ (PySem.W.Looks.ld ho).andThen .now
  | @ins a C dx fs e =>
    cases (show u = Value.ref a from ry)
    obtain ⟨mA, O, _⟩ := ins_get I.hok e
    obtain ⟨od, J, _⟩ := O.look
    exact J.type
variable {k : Nat}
theorem op_eqA (hr : Room k X.A) : OpR X (compareOp .Eq) (rEqA X.prog X.w X.K X.mg X.base k) := by
  intro pins s σ H x y v u Q I rx ry h
  obtain ⟨a, C, dx, fs, sp, t, rfl, ha, T, r, hn, q⟩ := h
  have hb := right_any I ry r
  cases (show v = Value.ref a from rx)
  obtain ⟨g, fd, ps, h1, h2, F, b⟩ := T.go
  obtain ⟨mA, O, _⟩ := ins_get I.hok ha
  obtain ⟨od, J, _⟩ := O.look
  obtain ⟨m, hF⟩ := I.fr
  refine PySem.W.cmp_ofEq (PySem.W.cmp_K (op := .Eq) hr.units0 hF I.ok.mod.kin J hb hn h1 h2 ?_)
  refine wpAny_mono (run_below F hr I.env0 b I (.cons rx (.cons ry .nil)) q) (fun w' s' z => ?_) fun _ _ e => e
  obtain ⟨z', H', I', rz, kk, rfl, qz⟩ := z
  cases (show w' = Value.bool kk from rz)
  exact ⟨.bl kk, H', I', rfl, qz⟩
theorem op_neA (hr : Room (k + 1) X.A) : OpR X (compareOp .NotEq) (rNeA X.prog X.w X.K X.mg X.base k) := by
  intro pins s σ H x y v u Q I rx ry h
  obtain ⟨a, C, dx, fs, sp, t, rfl, ha, T, r, hn, q⟩ := h
  have hb := right_any I ry r
  cases (show v = Value.ref a from rx)
  obtain ⟨g, fd, ps, h1, h2, F, b⟩ := T.go
  obtain ⟨mA, O, _⟩ := ins_get I.hok ha
  obtain ⟨od, J, _⟩ := O.look
  obtain ⟨m, hF⟩ := I.fr
  refine PySem.W.cmp_ofNotEq (ne_K (by have := hr.un; omega) hF I.ok.mod.kin J hb hn T.ne T.obj h1 h2 ?_)
  refine wpAny_mono (run_below F hr.in1 I.env0.in1 b I (.cons rx (.cons ry .nil)) q) (fun w' s' z => ?_) fun _ _ e => e
  obtain ⟨z', H', I', rz, kk, rfl, qz⟩ := z
  cases (show w' = Value.bool kk from rz)
  exact ⟨kk, rfl, .bl (!kk), H', I', rfl, qz⟩
end
end Hx

namespace Hx
open PySem PySem.Spec PyProof.Rows L2
/-! slices with a step upwards, of lists; get of a dict of the module -/
def stepV (xs : List V) (lo hi : Option Int) (c : Int) : List V := (sliceRange (sliceBounds lo hi (some c) xs.length).1 (sliceBounds lo hi (some c) xs.length).2.1 (sliceBounds lo hi (some c) xs.length).2.2).filterMap (xs[·]?)
theorem vals_pick {xs : List V} {its : List Value} (r : Vals xs its) : ∀ is : List Nat, Vals (is.filterMap (xs[·]?)) (is.filterMap (its.toArray[·]?))
  | [] => .nil
  | i :: is => by
    have ih := vals_pick r is
    have e2 : its.toArray[i]? = its[i]? := by simp
    rw [List.filterMap_cons, List.filterMap_cons, e2]
    cases h : xs[i]? with
    | none =>
      have : its[i]? = none := by
        have l := r.length
        have := List.getElem?_eq_none_iff.mp h
        exact List.getElem?_eq_none_iff.mpr (by omega)
      rw [this]
      exact ih
    | some x =>
      obtain ⟨u, hu, rv⟩ := r.get h
      rw [hu]
      exact .cons rv ih
theorem pick_len {α : Type} (f : Nat → Option α) : ∀ is : List Nat, (is.filterMap f).length ≤ is.length
  | [] => Nat.le_refl _
  | i :: is => by
    have ih := pick_len f is
    rw [List.filterMap_cons]
    cases f i with
    | none => exact Nat.le_succ_of_le ih
    | some x => exact Nat.succ_le_succ ih
theorem step_len {xs : List V} {lo hi : Option Int} {c : Int} (h : 0 < c) : (stepV xs lo hi c).length ≤ xs.length := by
  refine Nat.le_trans (pick_len _ _) (sliceRange_length_le _ _ _ _ (fun _ => ?_) fun z => absurd h z)
  unfold sliceBounds
  dsimp only [Option.getD_some]
  constructor
  · cases lo with
    | none => dsimp only; rw [if_pos h]; exact Int.le_refl 0
    | some i => dsimp only; rw [if_pos h]; exact Int.le_max_left _ _
  · cases hi with
    | none => dsimp only; rw [if_pos h]; exact Int.le_refl _
    | some i => dsimp only; rw [if_pos h]; omega
def tStep (K : PySem.W.Frag) (te : TE) (tl th : TO) (tk : TE) : TE := fun σ H Q => te σ H fun x H1 => tl σ H1 fun l H2 => th σ H2 fun u H3 => tk σ H3 fun y H4 => ∃ a xs c, x = .ref a ∧ y = .int c ∧ SqL K H4 a xs ∧ 0 < c ∧ ∀ p, H4 p = none → Q (.ref p) (upd H4 p (.lst (stepV xs l u c)))
section
variable {X : Cx} {e k : Expr} {lo hi : Option Expr} {te tk : TE} {tl th : TO} {pos p2 : Pos}
theorem pe_stepL (he : PE X e te) (hl : PO X lo tl) (hu : PO X hi th) (hk : PE X k tk) : PE X (.Subscript e (.Slice lo hi (some k) p2) pos) (tStep X.K te tl th tk) := by
  constructor
  intro pins s σ H Q I h
  refine Subscript_ (thn (he.run pins s σ H _ I h) ?_)
  rintro v s1 ⟨x, H1, I1, r1, q1⟩
  refine wpAny_Slice (thn (hl.run pins s1 σ H1 _ I1 q1) ?_)
  rintro vl s2 ⟨l, H2, I2, pl, q2⟩
  refine thn (hu.run pins s2 σ H2 _ I2 q2) ?_
  rintro vu s3 ⟨u, H3, I3, pu, q3⟩
  rw [evalPart_some]
  refine thn (hk.run pins s3 σ H3 _ I3 q3) ?_
  rintro vk s4 ⟨y, H4, I4, r4, q4⟩
  obtain ⟨a, xs, c, rfl, rfl, hx, c0, q⟩ := q4
  obtain ⟨t, rfl⟩ := r4
  cases r1
  obtain ⟨hp, g, dr, tok, os⟩ := s4
  obtain ⟨its, r, ht, hz⟩ := I4.list hx
  have I5 : Inv X pins σ H4 ⟨hp.push { cls := .type "slice", data := .fields #[vl, vu, .int c t] }, g, dr, tok, os⟩ := I4.kept (t' := tok) fun b ob z => Heap.get?_push_of_some _ z
  obtain ⟨its', r', ht', hz'⟩ := I5.list hx
  have hlen := r'.length
  have go : wpAny (model X.prog X.w) X.A (getItem (.ref a) (.ref hp.objs.size)) (EP X pins σ Q) X.xe ⟨hp.push { cls := .type "slice", data := .fields #[vl, vu, .int c t] }, g, dr, tok, os⟩ := by
    refine wpAny_getItem_list_slice ht'.isList (Heap.IsSliceOf.new ..) pl pu (.int c t) (fun z => by cases z; exact absurd c0 (by decide)) ?_ (by rw [List.size_toArray] <;> omega)
    refine ⟨.ref _, _, I5.laid (t' := tok) (o := .lst (stepV xs l u c)) (fun b ob z => Heap.get?_push_of_some _ z) (Nat.le_refl _) ?_, rfl, q _ (I5.hok.fresh (Nat.le_refl _))⟩
    refine ⟨Nat.le_trans (step_len c0) hz', _, 0, ?_, Heap.get?_push_size _ rfl⟩
    have vp := vals_pick r' (sliceRange (sliceBounds l u (some c) xs.length).1 (sliceBounds l u (some c) xs.length).2.1 (sliceBounds l u (some c) xs.length).2.2)
    have es : its'.toArray.size = xs.length := by rw [List.size_toArray]; omega
    rw [es]
    exact vp
  show wpAny (model X.prog X.w) X.A (subscriptTail e (.Slice lo hi (some k) p2) (.ref a) (.ref hp.objs.size)) (EP X pins σ Q) X.xe _
  exact tail_any (ops := [.ref a, .ref hp.objs.size]) ht'.isList.typeIs slot_list_getitem.lookup go (by with_unfolding_all rfl)
end
/-! every second one -/
def evens {α : Type} : List α → List α
  | [] => []
  | [x] => [x]
  | x :: _ :: r => x :: evens r
def odds {α : Type} : List α → List α
  | [] => []
  | [_] => []
  | _ :: y :: r => y :: odds r
theorem evens_pick {α : Type} : ∀ xs : List α, (List.range ((xs.length + 1) / 2)).filterMap (fun k => xs[2 * k]?) = evens xs
  | [] => by simp [evens]
  | [x] => by simp [evens, List.range_succ]
  | x :: y :: r => by
    have ih := evens_pick r
    have e : ((x :: y :: r).length + 1) / 2 = (r.length + 1) / 2 + 1 := by simp only [List.length_cons]; omega
    rw [e, List.range_succ_eq_map, List.filterMap_cons]
    show x :: ((List.range ((r.length + 1) / 2)).map Nat.succ).filterMap (fun k => (x :: y :: r)[2 * k]?) = _
    rw [List.filterMap_map]
    show x :: (List.range ((r.length + 1) / 2)).filterMap (fun k => (x :: y :: r)[2 * (k + 1)]?) = x :: evens r
    rw [← ih]
    congr 1
theorem odds_pick {α : Type} : ∀ xs : List α, (List.range (xs.length / 2)).filterMap (fun k => xs[1 + 2 * k]?) = odds xs
  | [] => by simp [odds]
  | [x] => by simp [odds]
  | x :: y :: r => by
    have ih := odds_pick r
    have e : (x :: y :: r).length / 2 = r.length / 2 + 1 := by simp only [List.length_cons]; omega
    rw [e, List.range_succ_eq_map, List.filterMap_cons]
    show y :: ((List.range (r.length / 2)).map Nat.succ).filterMap (fun k => (x :: y :: r)[1 + 2 * k]?) = _
    rw [List.filterMap_map]
    show y :: (List.range (r.length / 2)).filterMap (fun k => (x :: y :: r)[1 + 2 * (k + 1)]?) = y :: odds r
    rw [← ih]
    refine congrArg (y :: ·) ?_
    refine congrArg (fun f => List.filterMap f _) (funext fun k => ?_)
    show (x :: y :: r)[1 + 2 * (k + 1)]? = r[1 + 2 * k]?
    rw [show 1 + 2 * (k + 1) = (1 + 2 * k) + 1 + 1 by omega, List.getElem?_cons_succ, List.getElem?_cons_succ]
theorem step_even (xs : List V) : stepV xs none none 2 = evens xs := by
  rw [← evens_pick]
  unfold stepV
  have b : sliceBounds none none (some 2) xs.length = (0, (xs.length : Int), 2) := rfl
  rw [b]
  unfold sliceRange
  rw [List.filterMap_map]
  have e : (if (2 : Int) > 0 then (if (0 : Int) < (xs.length : Int) then ((xs.length : Int) - 0 + 2 - 1) / 2 else 0) else (if (0 : Int) > (xs.length : Int) then (0 - (xs.length : Int) - 2 - 1) / (-2) else 0)).toNat = (xs.length + 1) / 2 := by
    rw [if_pos (by decide)]
    split <;> omega
  dsimp only
  rw [e]
  refine congrArg (fun f => List.filterMap f _) (funext fun k => ?_)
  show xs[((0 : Int) + 2 * (k : Int)).toNat]? = xs[2 * k]?
  rw [show ((0 : Int) + 2 * (k : Int)).toNat = 2 * k by omega]
theorem step_odd (xs : List V) : stepV xs (some 1) none 2 = odds xs := by
  rw [← odds_pick]
  unfold stepV
  have b : sliceBounds (some 1) none (some 2) xs.length = (max 0 (min 1 (xs.length : Int)), (xs.length : Int), 2) := rfl
  rw [b]
  unfold sliceRange
  rw [List.filterMap_map]
  have e : (if (2 : Int) > 0 then (if max 0 (min 1 (xs.length : Int)) < (xs.length : Int) then ((xs.length : Int) - max 0 (min 1 (xs.length : Int)) + 2 - 1) / 2 else 0) else (if max 0 (min 1 (xs.length : Int)) > (xs.length : Int) then (max 0 (min 1 (xs.length : Int)) - (xs.length : Int) - 2 - 1) / (-2) else 0)).toNat = xs.length / 2 := by
    rw [if_pos (by decide)]
    split <;> omega
  dsimp only
  rw [e]
  by_cases h : xs = []
  · subst h
    rfl
  have l0 : 0 < xs.length := List.length_pos_iff.mpr h
  refine congrArg (fun f => List.filterMap f _) (funext fun k => ?_)
  show xs[(max 0 (min 1 (xs.length : Int)) + 2 * (k : Int)).toNat]? = xs[1 + 2 * k]?
  rw [show (max 0 (min 1 (xs.length : Int)) + 2 * (k : Int)).toNat = 1 + 2 * k by omega]
/-! d.get(k, x), d a dict of the module -/
def tKGet (K : PySem.W.Frag) (w : World) (td ty tx : TE) : TE := fun σ H Q => td σ H fun x H1 => ∃ (d : Addr) (es : Array DictEntry) (n : Nat), x = .ref d ∧ KDict K w d es n ∧ ty σ H1 fun y H2 => tx σ H2 fun z H3 => ∃ (k : Str) (r : Option Value), y = .str k ∧ PySem.W.nsIn K d k = some r ∧
  ((r = none ∧ Q z H3) ∨ ∃ u v, r = some u ∧ RelV v u ∧ Q v H3)
theorem pe_kget {X : Cx} {o e f : Expr} {apos cpos : Pos} {td ty tx : TE} (ho : PE X o td) (he : PE X e ty) (hf : PE X f tx) (m : M2 X o "get" apos e f cpos) : PE X (.Call (.Attribute o "get" apos) [e, f] [] cpos) (tKGet X.K X.w td ty tx) := by
  constructor
  intro pins s σ H Q I h
  refine wpAny_Call_method m.base m.few m.line PySem.F.plainAttrs_dict PySem.F.slot_dict_get PySem.F.type_dict_get (thn (ho.run pins s σ H _ I h) ?_)
  rintro u s1 ⟨x, H1, I1, rx, d, es, n, rfl, D, q1⟩
  obtain rfl : u = Value.ref d := rx
  refine ⟨kd_type D I1, fun b z => ?_, ?_⟩
  · cases z
    exact ⟨_, I1.kIn _ _ D.at_, rfl⟩
  rw [m.trees]
  refine Calls.callWith_builtin rfl (Calls.evalArgs_plain (Calls.spliced_cons (thn (he.run pins s1 σ H1 _ I1 q1) ?_)))
  rintro iv s2 ⟨y, H2, I2, ry, q2⟩
  refine Calls.spliced_cons (thn (hf.run pins s2 σ H2 _ I2 q2) ?_)
  rintro fv s3 ⟨z, H3, I3, rz, k, r, rfl, e, q3⟩
  refine Calls.spliced_nil ?_
  obtain ⟨t, rfl⟩ := ry
  have hm := PySem.W.mapOf_K (prog := X.prog) (w := X.w) I3.kIn D.at_ D.lit
  refine call_meetsIn PySem.F.slot_dict_get hm.typeIs PySem.F.entry_dict_get (PySem.F.args_dict_get_3 _ _ _) (meets_dict_get_default (strKind X.prog X.w) d (strKind_is X.prog X.w k t) D.low fv) ⟨_, hm, ?_⟩
  show wants _ _ (.ok (.ret ((findBy Value.isStrOf es k).getD fv))) _
  rw [PySem.W.find_K D.at_ e]
  rcases q3 with ⟨rfl, q⟩ | ⟨u, v, rfl, rv, q⟩
  · exact ⟨z, H3, I3.tok _, rz, q⟩
  · exact ⟨v, H3, I3.tok _, rv, q⟩
end Hx

/-! x op y by the left operand's own def, whatever stands at the right -/
namespace PySem.W
open Lean Elab Tactic Meta PySem PySem.Calls PyProof.Rows
section
variable {prog : Program} {w : World} {A : Around} {E : Value → Shared → Prop} {s : Shared} {K : Frag} {x C D L f g : Addr} {h₀ : Heap} {m : Str → Option Value} {ox : Obj} {od : Option Obj} {T : String}
theorem own_binT {op : Operator} {b : Value} {fo ro rc : Option Value} {Q : Value → Shared → Prop} (F : Fr h₀ L s.heap m) (X₀ : K.In h₀) (I : InstAt s.heap x ox C od) (hb : Looks (model prog w) s.heap (typeOf b) (.type T)) (hc : selfFirst K C = true)
    (hs : findIn K (.ref C) (PySem.dunder op.info.2) = some (some (.ref f))) (hf : isFn K (.ref f) = true) (hr : findIn K (.ref C) (dunderR op.info.2) = some rc) (hp : rc = none ∨ ∃ g : Addr, rc = some (.ref g))
    (h1 : findIn K (.type T) (PySem.dunder op.info.2) = some fo) (h2 : findIn K (.type T) (dunderR op.info.2) = some ro) (hsub : subIn K (.type T) (.ref C) = some false)
    (h : wpAny (model prog w) A (call (.ref f) [.ref x, b]) (CmpBack Q) E s) : wpAny (model prog w) A (binaryOp op (.ref x) b) Q E s := by
  have X := X₀.keeps F.keep
  obtain ⟨cd, rest, hcd, hm⟩ := ksp_first hc
  rcases hi : op.info with ⟨sym, nm'⟩
  rw [hi] at hs hr h1 h2
  dsimp only at hs hr h1 h2
  have one := ksp_try X I hs hf h
  obtain ⟨hh, g, d, tt, os⟩ := s
  have L1 : Looks (model prog w) hh (typeOf (.ref x)) (.ref C) := I.type
  have L2 : Looks (model prog w) hh (typeOf b) (.type T) := hb
  have L3 : Looks (model prog w) hh (fillsNumberSlot (.ref C) nm') true := fills_K X hcd hm hs
  have L4 : Looks (model prog w) hh (fillsNumberSlot (.type T) nm') ((fo.isSome && !isSeqSlot fo) || (ro.isSome && !isSeqSlot ro)) := ksp_fillsT X h1 h2
  have L5 : Looks (model prog w) hh (isSubtype (.type T) (.ref C)) false := looks_subIn X hsub
  have L6 : Looks (model prog w) hh (numberSlotInPython (.ref C) nm') true := ksp_inPy X hs hr hp
  have L7 : Looks (model prog w) hh (numberSlotInPython (.type T) nm') false := Looks.of_pure rfl
  have L8 : Looks (model prog w) hh (typeLookup (.type T) (dunderR nm')) ro := looks_findIn X h2
  generalize ((fo.isSome && !isSeqSlot fo) || (ro.isSome && !isSeqSlot ro)) = right at L4
  have hne : (Value.ref C == Value.type T) = false := Bool.eq_false_iff.mpr fun q => by cases beq_iff_eq.mp q
  simp only [binaryOp, hi]
  refine wpAny_holding (wpAny_bind ?_)
  unfold binaryOp1
  refine wpAny_bind (L1.at (wpAny_bind (L2.at (wpAny_bind (L3.at ?_)))))
  simp only [hne, Bool.false_eq_true, if_false]
  cases right with
  | false =>
    ksp_lk
    refine wpAny_mono one (fun r s' hr' => ?_) fun _ _ e => e
    obtain ⟨v, rfl, hq⟩ := hr'
    ksp_lk
    exact hq
  | true =>
    ksp_lk
    refine wpAny_mono one (fun r s' hr' => ?_) fun _ _ e => e
    obtain ⟨v, rfl, hq⟩ := hr'
    ksp_lk
    exact hq
/-- the right operand is of another own class that has the operator, too -/
theorem own_binR {op : Operator} {b : Value} {rc rd : Option Value} {Q : Value → Shared → Prop} (F : Fr h₀ L s.heap m) (X₀ : K.In h₀) (I : InstAt s.heap x ox C od) (hb : Looks (model prog w) s.heap (typeOf b) (.ref D)) (hc : selfFirst K C = true) (hcd : selfFirst K D = true)
    (hs : findIn K (.ref C) (PySem.dunder op.info.2) = some (some (.ref f))) (hf : isFn K (.ref f) = true) (hr : findIn K (.ref C) (dunderR op.info.2) = some rc) (hp : rc = none ∨ ∃ g : Addr, rc = some (.ref g))
    (h1 : findIn K (.ref D) (PySem.dunder op.info.2) = some (some (.ref g))) (h2 : findIn K (.ref D) (dunderR op.info.2) = some rd) (hp2 : rd = none ∨ ∃ g : Addr, rd = some (.ref g)) (hsub : subIn K (.ref D) (.ref C) = some false) (hne : C ≠ D)
    (h : wpAny (model prog w) A (call (.ref f) [.ref x, b]) (CmpBack Q) E s) : wpAny (model prog w) A (binaryOp op (.ref x) b) Q E s := by
  have X := X₀.keeps F.keep
  obtain ⟨cd, rest, hcc, hm⟩ := ksp_first hc
  obtain ⟨cd2, rest2, hcc2, hm2⟩ := ksp_first hcd
  rcases hi : op.info with ⟨sym, nm'⟩
  rw [hi] at hs hr h1 h2
  dsimp only at hs hr h1 h2
  have one := ksp_try X I hs hf h
  obtain ⟨hh, gg, d, tt, os⟩ := s
  have L1 : Looks (model prog w) hh (typeOf (.ref x)) (.ref C) := I.type
  have L2 : Looks (model prog w) hh (typeOf b) (.ref D) := hb
  have L3 : Looks (model prog w) hh (fillsNumberSlot (.ref C) nm') true := fills_K X hcc hm hs
  have L4 : Looks (model prog w) hh (fillsNumberSlot (.ref D) nm') true := fills_K X hcc2 hm2 h1
  have L5 : Looks (model prog w) hh (isSubtype (.ref D) (.ref C)) false := looks_subIn X hsub
  have L6 : Looks (model prog w) hh (numberSlotInPython (.ref C) nm') true := ksp_inPy X hs hr hp
  have L7 : Looks (model prog w) hh (numberSlotInPython (.ref D) nm') true := ksp_inPy X h1 h2 hp2
  have hne2 : (Value.ref C == Value.ref D) = false := Bool.eq_false_iff.mpr fun q => hne (Value.ref.inj (beq_iff_eq.mp q))
  simp only [binaryOp, hi]
  refine wpAny_holding (wpAny_bind ?_)
  unfold binaryOp1
  refine wpAny_bind (L1.at (wpAny_bind (L2.at (wpAny_bind (L3.at ?_)))))
  simp only [hne2, Bool.false_eq_true, if_false]
  ksp_lk
  refine wpAny_mono one (fun r s' hr' => ?_) fun _ _ e => e
  obtain ⟨v, rfl, hq⟩ := hr'
  ksp_lk
  exact hq
end
end PySem.W
namespace Hx
open PySem PySem.Spec PyProof.Rows L2
/-- the class at C has the operator by a def of its own, which may let an error out -/
structure BinOwn (P : Program) (w : World) (K : PySem.W.Frag) (mg : Str → Option Value) (base : Heap) (k : Nat) (C : Addr) (op : Operator) (sp : Sp) : Prop where
  go : ∃ (g : Addr) (fd : FuncData) (ps : List Str), PySem.W.findIn K (.ref C) (PySem.dunder op.info.2) = some (some (.ref g)) ∧ PySem.W.isFn K (.ref g) = true ∧ FnOk P w K mg base (L2.CX P w) k g fd ps sp ∧ Binds K fd ps []
  first : PySem.W.selfFirst K C = true
  refl : PySem.W.findIn K (.ref C) (dunderR op.info.2) = some none
/-- what the class of the right operand is asked for -/
inductive BinR (K : PySem.W.Frag) (C : Addr) (op : Operator) : Value → Prop
  | ty {T : String} {fo ro : Option Value} : PySem.W.findIn K (.type T) (PySem.dunder op.info.2) = some fo → PySem.W.findIn K (.type T) (dunderR op.info.2) = some ro → PySem.W.subIn K (.type T) (.ref C) = some false → BinR K C op (.type T)
  | same : BinR K C op (.ref C)
  | other {D g : Addr} : C ≠ D → PySem.W.selfFirst K D = true → PySem.W.findIn K (.ref D) (PySem.dunder op.info.2) = some (some (.ref g)) → PySem.W.findIn K (.ref D) (dunderR op.info.2) = some none → PySem.W.subIn K (.ref D) (.ref C) = some false → BinR K C op (.ref D)
/-- the class of the right operand, as it stands -/
inductive RightB (H : Hp) : V → Value → Prop
  | non : RightB H .non (.type "NoneType")
  | bl (b : Bool) : RightB H (.bl b) (.type "bool")
  | int (i : Int) : RightB H (.int i) (.type "int")
  | str (z : Str) : RightB H (.str z) (.type "str")
  | lst {a : Addr} {xs : List V} : H a = some (.lst xs) → RightB H (.ref a) (.type "list")
  | tup {a : Addr} {xs : List V} : H a = some (.tup xs) → RightB H (.ref a) (.type "tuple")
  | dK {a : Addr} {ks : List (Key × V)} : H a = some (.dK ks) → RightB H (.ref a) (.type "dict")
  | ins {a C dx : Addr} {fs : List (Str × V)} : H a = some (.ins C dx fs) → RightB H (.ref a) (.ref C)
def rBinA (P : Program) (w : World) (K : PySem.W.Frag) (mg : Str → Option Value) (base : Heap) (k : Nat) (op : Operator) (E : XK) : R2 := fun x y H Q => ∃ (a C dx : Addr) (fs : List (Str × V)) (sp : Sp) (t : Value), x = .ref a ∧ H a = some (.ins C dx fs) ∧
  BinOwn P w K mg base k C op sp ∧ RightB H y t ∧ BinR K C op t ∧ sp [x, y] H (fun v H' => ∃ r, v = .ref r ∧ Q (.ref r) H') E
section
variable {X : Cx} {k : Nat} {op : Operator} {E : XK}
theorem right_b {pins : List (Addr × Obj)} {σ : L2.St} {H : Hp} {s : Shared} {y : V} {u t : Value} (I : Inv X pins σ H s) (ry : RelV y u) (r : RightB H y t) : PySem.W.Looks (model X.prog X.w) s.heap (typeOf u) t := by
  cases r with
  | non => cases ry; exact .of_pure rfl
  | bl b => cases ry; exact .of_pure rfl
  | int i => obtain ⟨t, rfl⟩ := ry; exact .of_pure rfl
  | str z => obtain ⟨t, rfl⟩ := ry; exact .of_pure rfl
  | @lst a xs e =>
    cases (show u = Value.ref a from ry)
    obtain ⟨_, its, n, rv, hg⟩ := (show ObjOk X.prog X.w H s.heap a (.lst xs) from I.hok a _ e)
    exact (PySem.W.Looks.ld hg).andThen .now
  | @tup a xs e =>
    cases (show u = Value.ref a from ry)
    obtain ⟨its, _, ⟨o, ho, hc, _⟩, _⟩ := I.tuple (SqT.of e)
    exact hc ▸ (PySem.W.Looks.ld ho).andThen .now
  | @dK a ks e =>
    cases (show u = Value.ref a from ry)
    obtain ⟨_, _, vs, rk, o, des, ep, hg, hx, hd, _⟩ := (show ObjOk X.prog X.w H s.heap a (.dK ks) from I.hok a _ e)
    exact hx.1 ▸ (PySem.W.Looks.ld hg).andThen .now
  | @ins a C dx fs e =>
    cases (show u = Value.ref a from ry)
    obtain ⟨mA, O, _⟩ := ins_get I.hok e
    obtain ⟨od, J, _⟩ := O.look
    exact J.type
theorem run_belowE {pins : List (Addr × Obj)} {σ : L2.St} {H : Hp} {s : Shared} {Q : VK} {us : List Value} {vs : List V} {A1 : Around} {f : Addr} {fd : FuncData} {ps : List Str} {sp : Sp}
    (F : FnOk X.prog X.w X.K X.mg X.base (L2.CX X.prog X.w) k f fd ps sp) (hr : Room k A1) (e0 : Env0 X.prog X.w X.K X.mg X.base A1 X.stack s H) (hb : Binds X.K fd ps []) (hx : Passes (L2.CX X.prog X.w) X E) (I : Inv X pins σ H s) (r : Vals vs us) (h : sp vs H Q E) :
    wpAny (model X.prog X.w) A1 (call (.ref f) us) (EP X pins σ Q) X.xe s := by
  have l := F.len vs H Q E h
  have hl : us.length = ps.length := by rw [← r.length]; exact l
  have b := hb s us I.kIn (by rw [List.append_nil]; exact hl)
  rw [List.append_nil] at b
  refine wpAny_call (codeAny_mono (F.run A1 X.stack s H ⟨us, []⟩ us vs Q E hr e0 b r h) fun r s' hq => ?_)
  cases r with
  | error e => exact hx pins σ H s e s' I hq
  | ok fl =>
    cases fl with
    | ret u => exact I.after hq
    | next => exact hq.elim
    | brk => exact hq.elim
    | cont => exact hq.elim
/-- x op y, x an own object -/
theorem op_binA (hr : Room k X.A) (hx : Passes (L2.CX X.prog X.w) X E) : OpR X (binaryOp op) (rBinA X.prog X.w X.K X.mg X.base k op E) := by
  intro pins s σ H x y v u Q I rx ry h
  obtain ⟨a, C, dx, fs, sp, t, rfl, ha, T, r, br, q⟩ := h
  have hb := right_b I ry r
  cases (show v = Value.ref a from rx)
  obtain ⟨g, fd, ps, h1, h2, F, b⟩ := T.go
  obtain ⟨mA, O, _⟩ := ins_get I.hok ha
  obtain ⟨od, J, _⟩ := O.look
  obtain ⟨m, hF⟩ := I.fr
  have run : wpAny (model X.prog X.w) X.A (call (.ref g) [.ref a, u]) (PySem.W.CmpBack (EP X pins σ Q)) X.xe s := by
    refine wpAny_mono (run_belowE F hr I.env0 b hx I (.cons rx (.cons ry .nil)) q) (fun w' s' z => ?_) fun _ _ e => e
    obtain ⟨z', H', I', rz, r', rfl, qz⟩ := z
    cases (show w' = Value.ref r' from rz)
    exact ⟨.ref r', H', I', rfl, qz⟩
  cases br with
  | ty b1 b2 b3 => exact PySem.W.own_binT hF I.ok.mod.kin J hb T.first h1 h2 T.refl (.inl rfl) b1 b2 b3 run
  | same => exact PySem.W.binop_K hF I.ok.mod.kin J hb T.first h1 h2 run
  | other n b1 b2 b3 b4 => exact PySem.W.own_binR hF I.ok.mod.kin J hb T.first b1 h1 h2 T.refl (.inl rfl) b2 b3 (.inl rfl) b4 n run
end
end Hx

/-! del xs[a:]; xs.extend(tuple); C(*ys) -/
namespace Hx
open PySem PySem.Spec PyProof.Rows L2
section
variable {prog : Program} {w : World} {A : Around} {E : Value → Shared → Prop} {s : Shared}
theorem filt_take {F : Nat → Bool} {a : Nat} : ∀ (l : List Value) (k : Nat), (∀ i, k ≤ i → i < k + l.length → F i = decide (a ≤ i)) → (l.zipIdx k).filterMap (fun (p : Value × Nat) => if F p.2 then none else some p.1) = l.take (a - k)
  | [], k, _ => by simp
  | x :: r, k, h => by
    rw [List.zipIdx_cons, List.filterMap_cons]
    have e := h k (Nat.le_refl _) (by rw [List.length_cons]; omega)
    have ih := filt_take (F := F) (a := a) r (k + 1) fun i h1 h2 => h i (by omega) (by rw [List.length_cons]; omega)
    dsimp only
    rw [e, ih]
    by_cases c : a ≤ k
    · rw [decide_eq_true c, show a - k = 0 by omega, show a - (k + 1) = 0 by omega]
      simp
    · rw [decide_eq_false c, show a - k = (a - (k + 1)) + 1 by omega]
      simp
theorem bounds_tail {a n : Nat} (hac : a ≤ n) : sliceBounds (some (a : Int)) none none n = ((a : Int), (n : Int), 1) := by
  simp only [sliceBounds, Option.getD_none]
  have h1 : ¬ ((a : Int) < 0) := by omega
  simp only [h1, if_false, show (1 : Int) > 0 by decide, if_true]
  first
    | (congr 1; omega)
    | (congr 1
       · omega)
set_option maxRecDepth 100000 in
theorem delItem_tail {l sl : Addr} {items : Array Value} {n : Nat} {vl : Value} {a : Nat} {Q : Unit → Shared → Prop}
    (e : s.heap.get? l = some { cls := .type "list", data := .seq items n }) (hs : s.heap.IsSliceOf sl vl .none .none) (pl : IsPart vl (some (a : Int))) (ha : a ≤ items.size)
    (hsz : items.size ≤ sizeLine) (h : ∀ F : Array Value → Array Value, F items = (items.toList.take a).toArray → Q () { s with heap := s.heap.update l (Obj.mapSeq F) }) :
    wpAny (model prog w) A (delItem (.ref l) (.ref sl)) Q E s := by
  have hl : s.heap.IsList l items := PySem.IsL.isList e
  obtain ⟨os, hos, hcs, hds⟩ := id hs
  have hTs : s.TypeIs (.ref sl) "slice" := ⟨os, hos, hcs⟩
  have hstep : ¬ ((rawPart none == rawInt 0) = true) := Bool.false_ne_true
  refine PySem.wpAny_delItem_slot hl.typeIs (by decide) F.slot_list_delitem (wpAny_call_entry F.slot_list_delitem hl.typeIs F.entry_list_delitem ?_ (F.args_list_delitem_2 _ _))
  show wpAny _ _ (Builtin.List.listSubscript? (.ref sl) >>= _) _ _ s
  refine wpAny_bind ?_
  unfold Builtin.List.listSubscript?
  refine wpAny_bind (wpAny_specialOf hTs slice_no_index ?_)
  simp only [Option.isNone_none, if_true]
  refine wpAny_pure ?_
  show wpAny _ _ (typeOf (.ref sl) >>= _) _ _ s
  refine wpAny_bind (wpAny_typeOf hTs ?_)
  first
    | rw [if_neg (by decide)]
    | refine PySem.W.KFB.if_not (by decide) ?_
  rw [listSliceParts_eq]
  refine wpAny_bind (wpAny_bind (wpAny_field hos hds (x := .none) rfl (wpAny_bind (wpAny_listPart .none ?_))))
  rw [if_neg hstep]
  refine wpAny_bind (wpAny_field hos hds (x := vl) rfl (wpAny_bind (wpAny_listPart pl ?_)))
  refine wpAny_bind (wpAny_field hos hds (x := .none) rfl (wpAny_bind (wpAny_listPart .none (wpAny_pure ?_))))
  dsimp only
  unfold Builtin.List.listItems
  refine wpAny_bind (wpAny_bind (wpAny_seqItems e rfl (wpAny_pure ?_)))
  refine wpAny_bind (wpAny_of_eq ((sliceIndices_raw (some (a : Int)) none none items.size (by simp)).trans (congrArg (pure : Int × Int × Int → Sem (Int × Int × Int)) (bounds_tail ha))) ?_)
  refine wpAny_bind (wpAny_rule ?_)
  dsimp only
  have key : ∀ F : Nat → Bool, (∀ i, i < items.size → F i = decide (a ≤ i)) → (List.filterMap (fun x : Value × Nat => if F x.snd = true then none else some x.fst) items.toList.zipIdx).toArray = (items.toList.take a).toArray := fun F hF => by
    rw [filt_take (F := F) (a := a) items.toList 0 fun i _ h2 => hF i (by rw [Array.length_toList] at h2; omega)]
    rfl
  refine wpAny_bind (wpAny_updateSeq (hz := hsz) (_hz' := ?_) e rfl ?_)
  · refine wpAny_bind (wpAny_letGo ?_)
    refine wpAny_pure ⟨.none, rfl, h _ ?_⟩
    refine key _ fun i hi => ?_
    show (if (1 : Int) > 0 then (decide ((a : Int) ≤ (i : Int)) && decide ((i : Int) < (items.size : Int)) && (((i : Int) - (a : Int)) % 1 == 0)) else _) = _
    rw [if_pos (by decide), Int.emod_one, decide_eq_true (show (i : Int) < (items.size : Int) by omega), Bool.and_true]
    simp
  · refine Nat.le_trans (Nat.le_of_eq (congrArg Array.size (key _ fun i hi => ?_))) ?_
    · show (if (1 : Int) > 0 then (decide ((a : Int) ≤ (i : Int)) && decide ((i : Int) < (items.size : Int)) && (((i : Int) - (a : Int)) % 1 == 0)) else _) = _
      rw [if_pos (by decide), Int.emod_one, decide_eq_true (show (i : Int) < (items.size : Int) by omega), Bool.and_true]
      simp
    · rw [List.size_toArray, List.length_take, Array.length_toList]
      omega
end
section
variable {X : Cx}
/-- del xs[a:] at the value level -/
theorem del_tail {pins : List (Addr × Obj)} {s : Shared} {σ : L2.St} {H : Hp} {l sl : Addr} {xs : List V} {a : Int} {vl : Value} {Q : Unit → Shared → Prop} (I : Inv X pins σ H s)
    (hH : H l = some (.lst xs)) (hs : s.heap.IsSliceOf sl vl .none .none) (ra : IsPart vl (some a)) (h0 : 0 ≤ a) (hac : a ≤ xs.length)
    (h : ∀ s', Inv X pins σ (upd H l (.lst (xs.take a.toNat))) s' → Q () s') : wpAny (model X.prog X.w) X.A (delItem (.ref l) (.ref sl)) Q X.xe s := by
  obtain ⟨z, its, n, r, hl, e⟩ := I.lstM hH
  obtain ⟨a', rfl⟩ := Int.eq_ofNat_of_zero_le h0
  simp only [Int.toNat_natCast] at h
  refine delItem_tail (a := a') e hs ra (by rw [List.size_toArray]; omega) (by rw [List.size_toArray]; omega) fun F hF => h _ ?_
  refine I.lset (its' := its.take a') (t' := s.toks) hH e hF (r.take _) ?_
  rw [List.length_take]
  omega
def tDelTail (to ti : TE) : TS := fun D σ H => to σ H fun x H1 => tPart ti σ H1 fun k H2 => ∃ (a : Int) (l : Addr) (xs : List V), k = some a ∧ x = .ref l ∧ H2 l = some (.lst xs) ∧ 0 ≤ a ∧ a ≤ (xs.length : Int) ∧ D.nx σ (upd H2 l (.lst (xs.take a.toNat)))
/-- del xs[a:] -/
theorem ps_delTail {o i : Expr} {to ti : TE} {pos tpos p2 : Pos} (ho : PE X o to) (hi : PE X i ti) : PS X (.Delete [.Subscript o (.Slice (some i) none none p2) tpos] pos) (tDelTail to ti) := by
  refine ⟨fun pins s σ H D I h => ?_⟩
  refine wpAny_Delete (wpAny_deleteEach_cons (wpAny_delete_Subscript (thn (ho.run pins s σ H _ I h) fun u s1 ⟨x, H1, I1, rx, q1⟩ => ?_)))
  refine wpAny_Slice (thn ((po_some hi).run pins s1 σ H1 _ I1 q1) fun vl s2 ⟨k, H2, I2, pl, q2⟩ => ?_)
  obtain ⟨a, l, xs, rfl, rfl, hH, h0, h1, q⟩ := q2
  cases (show u = Value.ref l from rx)
  rw [evalPart_none]
  refine wpAny_pure ?_
  refine wpAny_pure ?_
  have I4 : Inv X pins σ H2 { s2 with heap := s2.heap.push { cls := .type "slice", data := .fields #[vl, .none, .none] } } := I2.kept (t' := s2.toks) fun b ob q => Heap.get?_push_of_some _ q
  exact del_tail I4 hH (Heap.IsSliceOf.new ..) pl h0 h1 fun s' I' => wpAny_deleteEach_nil ⟨σ, _, I', q⟩
/-- xs.extend(tuple) -/
def rExtendT : V → List V → Hp → VK → Prop := fun x vs H Q => ∃ l b xs zs, x = .ref l ∧ vs = [.ref b] ∧ H l = some (.lst xs) ∧ H b = some (.tup zs) ∧ xs.length + zs.length ≤ sizeLine ∧ Q .non (upd H l (.lst (xs ++ zs)))
theorem mt_extendT : MtM X "list.extend" rExtendT := by
  intro pins s σ H x vs v us Q I rx rv h
  obtain ⟨l, b, xs, zs, rfl, rfl, hH, hB, hz, q⟩ := h
  cases rx
  obtain ⟨u, rfl, ru⟩ := rv.one
  cases ru
  obtain ⟨z, its, n, r, hl, e⟩ := I.lstM hH
  obtain ⟨its2, r2, ⟨o, ho, hc, n2, hd⟩, hl2⟩ := I.tuple (SqT.of hB)
  have e2l := r2.length
  have e1l := r.length
  have hll : s.heap.IsList l its.toArray := PySem.IsL.isList e
  have hsz : its.toArray.size + its2.toArray.size ≤ sizeLine := by rw [List.size_toArray, List.size_toArray]; omega
  have hTb : s.TypeIs (.ref b) "tuple" := ⟨o, ho, hc⟩
  refine wpAny_call_entry F.slot_list_extend hll.typeIs F.entry_list_extend ?_ (F.args_list_extend_2 _ _)
  show wpAny _ _ (Builtin.List.listExtendWith (.ref l) (.ref b) .none) _ _ s
  unfold Builtin.List.listExtendWith
  refine wpAny_bind (wpAny_typeOf hTb ?_)
  rw [if_pos (by simp)]
  unfold Builtin.List.listItems
  refine wpAny_bind (wpAny_bind (wpAny_seqItems ho hd (wpAny_pure ?_)))
  refine wpAny_bind (wpAny_bind (wpAny_seqItems e rfl (wpAny_pure ?_)))
  have hlong : ¬ ((!its.toArray.isEmpty && Builtin.List.listTooLong (its.toArray.size + its2.toArray.size)) = true) := by
    rw [notLongL hsz, Bool.and_false]
    exact Bool.false_ne_true
  rw [if_neg hlong]
  refine wpAny_bind (wpAny_updateSeq (hz := by rw [List.size_toArray]; omega) (_hz' := by rw [Array.size_append]; omega) e rfl ?_)
  refine wpAny_bind (wpAny_pure (wpAny_pure ?_))
  refine ⟨.none, rfl, .non, _, I.lset (its' := its ++ its2) hH e (by simp) (r.append r2) ?_, rfl, q⟩
  rw [List.length_append]
  omega
end
section
variable {X : Cx} {CX : CXT} {k : Nat} {f C : Addr} {sp : Sp} {E : XK} {x : Str} {e : Expr} {te : TE} {p sp_ pos : Pos}
/-- C(*ys) -/
theorem pe_makeS (M : Mk X.K C f) (F : FnR X.prog X.w X.K X.mg X.base CX k f sp) (hr : Room (k + 1) X.A) (hg : Gl X x) (hm : X.mg x = some (.ref C)) (hx : Passes CX X E) (he : PE X e te) (hd : (x == ("__debug__" : Str)) = false := by decide)
    (hst : starEach [.Starred e sp_] X.env = [(true, eval e X.env)] := by rfl) :
    PE X (.Call (.Name x p) [.Starred e sp_] [] pos) (fun σ H Q => te σ H fun y H1 => ∃ a xs, y = V.ref a ∧ (SqT X.K H1 a xs ∨ SqL X.K H1 a xs) ∧ ∀ x dx, H1 x = Option.none → H1 dx = Option.none → dx ≠ x →
      sp (V.ref x :: xs) (upd (upd H1 dx (.own x)) x (.ins C dx [])) (fun v H2 => v = .non ∧ Q (.ref x) H2) E) := by
  refine ⟨fun pins s σ H Q I h => ?_⟩
  refine wpAny_Call_Name_kw (ld_glob I hg hm ?_ hd)
  refine PySem.W.callWith_S (h₀ := X.base) I.ok.mod.kin M.kp (thn (he.run pins s σ H _ I h) fun v s1 ⟨y, H1, I1, ry, a, xs, ey, hxs, q⟩ => ?_) hst
  subst ey
  obtain rfl : v = Value.ref a := ry
  exact StX.star_any I1 hxs fun us s2 I2 rv => ⟨I2.kIn, StX.run_makeR M F hr hx I2 rv q⟩
end
end Hx

namespace Wp
open PySem PySem.Spec PyProof.Rows L2 Hx
theorem tw_eq : ∀ {l : List Nat} {k : Nat}, k ≤ l.length → (∀ i, i < k → ∃ c, l[i]? = some c ∧ letterB c = true) → (l[k]? = none ∨ ∃ c, l[k]? = some c ∧ letterB c = false) → l.takeWhile letterB = l.take k
  | [], 0, _, _, _ => rfl
  | [], k + 1, h, _, _ => by simp at h
  | c :: l, 0, _, _, h => by
    rcases h with h | ⟨d, h, n⟩
    · cases h
    · cases h
      rw [List.takeWhile_cons, n]
      rfl
  | c :: l, k + 1, h, a, n => by
    obtain ⟨d, hd, ld⟩ := a 0 (Nat.succ_pos _)
    cases hd
    rw [List.takeWhile_cons, ld]
    show c :: l.takeWhile letterB = c :: l.take k
    rw [tw_eq (Nat.le_of_succ_le_succ h) (fun i hi => a (i + 1) (Nat.succ_lt_succ hi)) n]
theorem ch_slice (z : Str) {a b : Nat} (h : a ≤ b) : ch (cutS z (some (a : Int)) (some (b : Int))) = ((ch z).drop a).take (b - a) := by
  show ((z.cps.toList.drop (HT.sIx z.length 0 (some (a : Int)))).take (HT.sIx z.length z.length (some (b : Int)) - HT.sIx z.length 0 (some (a : Int)))).toArray.toList = _
  have lz : z.length = (ch z).length := Array.length_toList.symm
  rw [HT.sIx_nat, HT.sIx_nat, List.toList_toArray, lz]
  by_cases c : b ≤ (ch z).length
  · rw [Nat.min_eq_left c, Nat.min_eq_left (by omega)]
  · rw [Nat.min_eq_right (by omega)]
    by_cases d : a ≤ (ch z).length
    · rw [Nat.min_eq_left d]
      have e : ((ch z).drop a).length ≤ (ch z).length - a := by rw [List.length_drop]; exact Nat.le_refl _
      rw [List.take_of_length_le e, List.take_of_length_le (by rw [List.length_drop]; omega)]
    · rw [Nat.min_eq_right (by omega), Nat.sub_self, List.take_zero, List.drop_eq_nil_of_le (by omega), List.take_nil]
theorem cut_un (z : Str) {a b : Nat} (h : a ≤ b) : cutS z (some (a : Int)) (some (b : Int)) = un (((ch z).drop a).take (b - a)) := str_of_ch (by rw [ch_slice z h, ch_un])
theorem un_inj {a b : List Nat} (h : un a = un b) : a = b := by
  rw [← ch_un a, h, ch_un]
theorem un_eq {l : List Nat} {y : Str} : decide (V.str (un l) = V.str y) = decide (l = ch y) := by
  rw [Bool.eq_iff_iff, decide_eq_true_eq, decide_eq_true_eq]
  constructor
  · intro h
    rw [← V.str.inj h, ch_un]
  · intro h
    rw [h, un_ch]
theorem atI_ch {x : Str} {a c : Nat} (h : (ch x)[a]? = some c) : atI x.cps.toList ((a : Nat) : Int) = some c := atI_nat h
theorem lt_ch {x : Str} {a : Nat} (h : a < x.length) : ∃ c, (ch x)[a]? = some c := by
  have e : (ch x).length = x.length := Array.length_toList
  exact ⟨(ch x)[a]'(by omega), List.getElem?_eq_getElem (by omega)⟩
theorem len_ch2 (x : Str) : (ch x).length = x.length := Array.length_toList
theorem take1 {l : List Nat} {k : Nat} : (l.drop k).take 1 = (match l[k]? with | some c => [c] | none => []) := by
  cases h : l[k]? with
  | none =>
    rw [List.drop_eq_nil_of_le (List.getElem?_eq_none_iff.mp h)]
    rfl
  | some c =>
    obtain ⟨hk, e⟩ := List.getElem?_eq_some_iff.mp h
    rw [List.drop_eq_getElem_cons hk, e]
    rfl
theorem tand_go {tA tB : TT} {Q : Bool → Hp → Prop} {σ : L2.St} {H : Hp} (p1 p2 : Bool) (h1 : ∀ Q : Bool → Hp → Prop, Q p1 H → tA σ H Q) (h2 : p1 = true → ∀ Q : Bool → Hp → Prop, Q p2 H → tB σ H Q) (q : Q (p1 && p2) H) : tAnd tA tB σ H Q := by
  refine h1 _ ?_
  cases p1 with
  | false => exact iteF q
  | true => exact iteT (h2 rfl _ q)
def spPiece : Sp := fun vs H Q _ => ∃ (x : Str) (a : Nat), vs = [.str x, .int (a : Nat)] ∧ a < x.length ∧ x.length ≤ 100000 ∧ Q (.str (un (pieceC ((ch x).drop a)))) H
def spPieces : Sp := fun vs H Q _ => ∃ (x : Str), vs = [.str x] ∧ x.length ≤ 100000 ∧ ∀ p H', Same H H' → H p = none → H' p = some (.lst ((pieces (ch x)).map fun l => V.str (un l))) → Q (.ref p) H'
section
variable {P : Program} {w : World} {K : PySem.W.Frag} {mg : Str → Option Value} {base : Heap} {f fP : Addr} {fd fdP : FuncData}
theorem scPiece : FnScope ["text", "at", "end"] ["text", "at"] (defScope s_piece_at) := ⟨rfl, rfl, rfl, by decide +kernel, rfl, by decide +kernel, by decide +kernel⟩
theorem ok_piece (F : Fun K "piece_at" "piece_at" s_piece_at f fd) (Z : Bltn mg) (C : Consts mg K) : FnOk P w K mg base CX0 1 f fd ["text", "at"] spPiece := by
  refine F.ok scPiece (fun vs H Q E h => ?_) (fun cdv A outer s H vs Q E hr h => ?_)
  · obtain ⟨x, a, rfl, _⟩ := h
    rfl
  obtain ⟨x, a, rfl, hlt, few, q⟩ := h
  have small : x.length ≤ sizeLine := Nat.le_trans few (by decide)
  obtain ⟨tl, ml⟩ := C.letters
  refine ⟨_, pss_cons (ps_set (i := 2) scPiece.nd rfl (Or.inl rfl) (pv 1))
    (pss_cons (ps_while PassesOwn.never (PW.pt (pw_and (pt_cmpR op_lt (pv 2) (pe_callB call_len_str (by rfl) Z.len PySem.boot_len (pa_cons (pv 0) pa_nil)) (nomark _))
        (pw_and1 (pt_cmpR op_in_sign (pe_ix ix_str (pv 0) (pv 2) (fun _ _ => rfl)) (pe_glob (v := .str abc) rfl ml ⟨_, rfl⟩) (by rfl)))))
      (pss_one (ps_aug (i := 2) scPiece.nd rfl (Or.inl rfl) pe_int ip_add)))
    (pss_cons (ps_if (pt_cmpR op_gt (pv 2) (pv 1) (nomark _))
      (pss_one (ps_ret (pe_ifExp (pt_cmpR op_eq (pe_slice sl_str (pv 0) (po_some (pv 2)) (po_some (pe_op op_add (pv 2) pe_int))) pe_str (nomark _))
        (pe_slice sl_str (pv 0) (po_some (pv 1)) (po_some (pe_op op_add (pv 2) pe_int))) (pe_slice sl_str (pv 0) (po_some (pv 1)) (po_some (pv 2)))))) pss_nil)
    (pss_cons (ps_if (pt_cmpR op_eq (pe_ix ix_str (pv 0) (pv 1) (fun _ _ => rfl)) pe_str (nomark _))
      (pss_one (ps_ret (pe_slice sl_str (pv 0) (po_some (pv 1)) (po_some (pe_op op_add (pv 1) pe_int))))) pss_nil)
    (pss_cons (ps_if (pt_cmpR op_eq (pe_slice sl_str (pv 0) (po_some (pv 1)) (po_some (pe_op op_add (pv 1) pe_int))) pe_str (nomark _)) (pss_one (ps_ret pe_str)) pss_nil)
    (pss_one (ps_ret (pe_ix ix_str (pv 0) (pv 1) (fun _ _ => rfl)))))))), ?_⟩
  obtain ⟨l, hl⟩ : ∃ l, (ch x).drop a = l := ⟨_, rfl⟩
  rw [hl] at q
  have lx := len_ch2 x
  have get : ∀ k, l[k]? = (ch x)[a + k]? := fun k => by rw [← hl, List.getElem?_drop]
  have ll : l.length = x.length - a := by rw [← hl, List.length_drop, lx]
  refine ⟨_, rfl, ?_⟩
  dsimp only
  refine ⟨fun m σ H' => H' = H ∧ ∃ k : Nat, σ = [some (.str x), some (.int (a : Nat)), some (.int ((a + k : Nat) : Int))] ∧ m = l.length - k ∧ k ≤ l.length ∧ ∀ i, i < k → ∃ c, l[i]? = some c ∧ letterB c = true,
    ⟨_, rfl, 0, rfl, rfl, Nat.zero_le _, fun i hi => absurd hi (Nat.not_lt_zero _)⟩, ?_⟩
  rintro m σ H' ⟨rfl, k, rfl, rfl, le, al⟩
  obtain ⟨p2, hp2, st2⟩ : ∃ p2 : Bool, (∀ c, l[k]? = some c → letterB c = p2) ∧ (p2 = true → k < l.length → ∃ c, l[k]? = some c ∧ letterB c = true) := by
    cases e : l[k]? with
    | none => exact ⟨true, fun c z => (by cases z), fun _ z => absurd (List.getElem?_eq_none_iff.mp e) (by omega)⟩
    | some c => exact ⟨letterB c, fun d z => by cases z; rfl, fun z _ => ⟨c, rfl, z⟩⟩
  refine tand_go (decide (k < l.length)) p2 (fun Q' hq => ?_) (fun c Q' hq => ?_) ?_
  · refine ⟨_, rfl, _, rfl, x, rfl, small, _, _, rfl, rfl, _, rfl, ?_⟩
    have e : decide (((a + k : Nat) : Int) < (x.length : Int)) = decide (k < l.length) := by
      rw [Bool.eq_iff_iff, decide_eq_true_eq, decide_eq_true_eq]
      omega
    rw [e]
    exact hq
  · have hk := of_decide_eq_true c
    have hg : l[k]? = some (l[k]'hk) := List.getElem?_eq_getElem hk
    refine ⟨_, rfl, _, rfl, x, _, l[k]'hk, rfl, rfl, small, atI_ch (a := a + k) (by rw [← get]; exact hg), _, abc, rfl, rfl, _, rfl, ?_⟩
    rw [is_letter, hp2 _ hg]
    exact hq
  refine ite2 (fun c => ?_) (fun c => ?_)
  · obtain ⟨c1, c2⟩ := Bool.and_eq_true_iff.mp c
    have hk := of_decide_eq_true c1
    refine ⟨fun σ' H'' => H'' = H' ∧ ∃ k' : Nat, σ' = [some (.str x), some (.int (a : Nat)), some (.int ((a + k' : Nat) : Int))] ∧ k' = k + 1, ?_, ?_⟩
    · rintro σ' H'' ⟨rfl, k', rfl, rfl⟩
      refine ⟨l.length - (k + 1), by omega, rfl, k + 1, rfl, rfl, hk, fun i hi => ?_⟩
      rcases Nat.lt_succ_iff_lt_or_eq.mp hi with z | rfl
      · exact al i z
      · exact st2 c2 hk
    · exact ⟨_, rfl, _, _, rfl, rfl, rfl, k + 1, rfl, rfl⟩
  have stop : l[k]? = none ∨ ∃ c, l[k]? = some c ∧ letterB c = false := by
    cases e : l[k]? with
    | none => exact .inl rfl
    | some d =>
      refine .inr ⟨d, rfl, ?_⟩
      have hk : k < l.length := (List.getElem?_eq_some_iff.mp e).1
      rw [hp2 d e]
      cases p2 with
      | false => rfl
      | true => exact absurd (Bool.and_eq_true_iff.mpr ⟨decide_eq_true hk, rfl⟩) c
  have tw := tw_eq le al stop
  have twl : (l.takeWhile letterB).length = k := by rw [tw, List.length_take]; omega
  have sl1 : cutS x (some ((a + k : Nat) : Int)) (some ((a + k + 1 : Nat) : Int)) = un ((l.drop k).take 1) := by
    rw [cut_un x (by omega), ← hl, List.drop_drop]
    rw [show a + k + 1 - (a + k) = 1 by omega]
  have sl2 : ∀ j, cutS x (some ((a : Nat) : Int)) (some ((a + j : Nat) : Int)) = un (l.take j) := fun j => by
    rw [cut_un x (by omega), ← hl]
    rw [show a + j - a = j by omega]
  refine ⟨_, rfl, _, rfl, _, _, rfl, rfl, _, rfl, ?_⟩
  refine ite2 (fun g => ?_) (fun g => ?_)
  · have k0 : 0 < k := by
      have := of_decide_eq_true g
      omega
    have tn : l.takeWhile letterB ≠ [] := by
      intro z
      rw [z] at twl
      simp at twl
      omega
    refine ⟨_, rfl, _, rfl, _, rfl, _, rfl, _, _, rfl, rfl, _, rfl, x, rfl, small, rfl, _, rfl, ?_⟩
    rw [show (((a + k : Nat) : Int) + 1) = ((a + k + 1 : Nat) : Int) from rfl, sl1, un_eq, take1]
    refine ite2 (fun o => ?_) (fun o => ?_)
    · refine ⟨_, rfl, _, rfl, _, rfl, _, rfl, _, _, rfl, rfl, _, rfl, x, rfl, small, ?_⟩
      rw [show (((a + k : Nat) : Int) + 1) = ((a + (k + 1) : Nat) : Int) from rfl, sl2]
      have e : l[k]? = some 40 := by
        have o' := of_decide_eq_true o
        rw [show ch ("(" : Str) = [40] by decide +kernel] at o'
        cases e : l[k]? with
        | none => rw [e] at o'; cases o'
        | some c => rw [e] at o'; cases o'; rfl
      have ep : pieceC l = l.take (k + 1) := by
        unfold pieceC
        rw [twl, if_neg tn, if_pos e, tw, List.take_add_one, e]
        rfl
      rw [← ep]
      exact q
    · refine ⟨_, rfl, _, rfl, _, rfl, _, rfl, _, rfl, x, rfl, small, ?_⟩
      rw [sl2]
      have e : ¬ l[k]? = some 40 := fun z => by
        rw [z] at o
        exact o (decide_eq_true (by decide +kernel))
      have ep : pieceC l = l.take k := by
        unfold pieceC
        rw [twl, if_neg tn, if_neg e, tw]
      rw [← ep]
      exact q
  · have k0 : k = 0 := by
      have : ¬ (((a + k : Nat) : Int) > ((a : Nat) : Int)) := fun z => g (decide_eq_true z)
      omega
    subst k0
    have t0 : l.takeWhile letterB = [] := tw
    obtain ⟨y, hc⟩ : ∃ y, l[0]? = some y := by
      rw [get]
      exact lt_ch hlt
    have nl : letterB y = false := by
      rcases stop with z | ⟨d, hd, z⟩
      · rw [hc] at z; cases z
      · rw [hc] at hd; cases hd; exact z
    obtain ⟨r, rfl⟩ : ∃ r, l = y :: r := by
      cases l with
      | nil => cases hc
      | cons d r => cases hc; exact ⟨r, rfl⟩
    have hx : (ch x)[a]? = some y := by
      exact (get 0).symm.trans hc
    refine ⟨_, rfl, _, rfl, x, _, y, rfl, rfl, small, atI_ch hx, rfl, _, rfl, ?_⟩
    rw [show (⟨#[y]⟩ : Str) = un [y] from rfl, un_eq, show ch ("'" : Str) = [39] by decide +kernel]
    refine ite2 (fun o => ?_) (fun o => ?_)
    · have o' : y = 39 := List.head_eq_of_cons_eq (of_decide_eq_true o)
      subst o'
      refine ⟨_, rfl, _, rfl, _, rfl, _, rfl, _, _, rfl, rfl, _, rfl, x, rfl, small, ?_⟩
      rw [show (((a : Nat) : Int) + 3) = ((a + 3 : Nat) : Int) from rfl, sl2, ← piece_quote]
      exact q
    · have n39 : y ≠ 39 := fun z => o (decide_eq_true (by rw [z]))
      refine ⟨_, rfl, _, rfl, _, rfl, _, rfl, _, _, rfl, rfl, _, rfl, x, rfl, small, rfl, _, rfl, ?_⟩
      rw [show (((a : Nat) : Int) + 2) = ((a + 2 : Nat) : Int) from rfl, sl2, un_eq, show ch (", " : Str) = [44, 32] by decide +kernel]
      refine ite2 (fun o2 => ?_) (fun o2 => ?_)
      · have e := of_decide_eq_true o2
        obtain ⟨r', rfl, rfl⟩ : ∃ r', y = 44 ∧ r = 32 :: r' := by
          cases r with
          | nil => cases e
          | cons d r' =>
            have e1 := List.cons.inj e
            have e2 := List.cons.inj e1.2
            exact ⟨r', e1.1, by rw [e2.1]⟩
        have : un [44, 32] = (", " : Str) := by
          rw [← un_ch (", " : Str), show ch (", " : Str) = [44, 32] by decide +kernel]
        rw [piece_comma, this] at q
        exact q
      · refine ⟨_, rfl, _, rfl, x, _, y, rfl, rfl, small, atI_ch hx, ?_⟩
        rw [piece_one nl n39 ?_] at q
        · exact q
        · by_cases c44 : y = 44
          · refine .inr fun r' z => o2 (decide_eq_true ?_)
            rw [c44, z]
            rfl
          · exact .inl c44
theorem scPieces : FnScope ["text", "pieces", "at", "piece"] ["text"] (defScope s_pieces_of) := ⟨rfl, rfl, rfl, by decide +kernel, rfl, by decide +kernel, by decide +kernel⟩
theorem ok_pieces (F : Fun K "pieces_of" "pieces_of" s_pieces_of f fd) (Z : Bltn mg) (GP : FnOk P w K mg base CX0 1 fP fdP ["text", "at"] spPiece) (bP : Binds K fdP ["text", "at"] []) (kP : PySem.W.keepIn K (.ref fP) = true) (mP : mg "piece_at" = some (.ref fP)) :
    FnOk P w K mg base CX0 2 f fd ["text"] spPieces := by
  refine F.ok scPieces (fun vs H Q E h => ?_) (fun cdv A outer s H vs Q E hr h => ?_)
  · obtain ⟨x, rfl, _⟩ := h
    rfl
  obtain ⟨x, rfl, few, q⟩ := h
  have small : x.length ≤ sizeLine := Nat.le_trans few (by decide)
  have lx := len_ch2 x
  refine ⟨_, pss_cons (ps_set (i := 1) scPieces.nd rfl (Or.inl rfl) (pe_lst pa_nil))
    (pss_cons (ps_set (i := 2) scPieces.nd rfl (Or.inl rfl) pe_int)
    (pss_cons (ps_while PassesOwn.never (pt_cmpR op_lt (pv 2) (pe_callB call_len_str (by rfl) Z.len PySem.boot_len (pa_cons (pv 0) pa_nil)) (nomark _))
      (pss_cons (ps_set (i := 3) scPieces.nd rfl (Or.inl rfl) (pe_call GP hr rfl mP kP bP .nil pass0 (pa_cons (pv 0) (pa_cons (pv 2) pa_nil))))
      (pss_cons (ps_expr (pe_bm PySem.F.plainAttrs_list PySem.F.slot_list_append PySem.F.type_list_append mt_append (pv 1) (pa_cons (pv 3) pa_nil)))
      (pss_one (ps_aug (i := 2) scPieces.nd rfl (Or.inl rfl) (pe_callB call_len_str (by rfl) Z.len PySem.boot_len (pa_cons (pv 3) pa_nil)) ip_add)))))
    (pss_one (ps_ret (pv 1))))), ?_⟩
  refine ⟨(by show 0 ≤ sizeLine; decide), fun p hp => ?_⟩
  dsimp only
  refine ⟨fun m σ H' => Same H H' ∧ ∃ (a : Nat) (ps : List (List Nat)) (o : Option V), σ = [some (.str x), some (.ref p), some (.int (a : Nat)), o] ∧ m = x.length - a ∧ a ≤ x.length ∧ H' p = some (.lst (ps.map fun l => V.str (un l))) ∧ ps.length ≤ a ∧
      pieces (ch x) = ps ++ pieces ((ch x).drop a), ⟨_, same_new hp _, 0, [], none, rfl, rfl, Nat.zero_le _, upd_same, Nat.zero_le _, rfl⟩, ?_⟩
  rintro m σ H' ⟨s1, a, ps, o, rfl, rfl, le, h1, fewp, eq⟩
  refine ⟨_, rfl, _, rfl, x, rfl, small, _, _, rfl, rfl, _, rfl, ?_⟩
  refine ite2 (fun c => ?_) (fun c => ?_)
  · have c' : a < x.length := by
      have := of_decide_eq_true c
      omega
    have ne : (ch x).drop a ≠ [] := by
      intro z
      have := congrArg List.length z
      rw [List.length_drop, lx, List.length_nil] at this
      omega
    obtain ⟨pl, pp⟩ := piece_len ((ch x).drop a)
    have pp := pp ne
    rw [List.length_drop, lx] at pl
    refine ⟨fun σ' H'' => ∃ m', m' < x.length - a ∧ Same H H'' ∧ ∃ (a : Nat) (ps : List (List Nat)) (o : Option V), σ' = [some (.str x), some (.ref p), some (.int (a : Nat)), o] ∧ m' = x.length - a ∧ a ≤ x.length ∧ H'' p = some (.lst (ps.map fun l => V.str (un l))) ∧ ps.length ≤ a ∧
      pieces (ch x) = ps ++ pieces ((ch x).drop a), fun σ' H'' z => z, ?_⟩
    refine ⟨_, rfl, _, rfl, x, a, rfl, c', few, ?_⟩
    refine ⟨_, rfl, .inl ⟨rfl, _, SqL.of h1⟩, _, rfl, p, _, _, rfl, rfl, h1, ?_, ?_⟩
    · rw [List.length_map]
      exact Nat.lt_of_le_of_lt (by omega : ps.length ≤ 100000) (by decide)
    refine ⟨_, rfl, _, rfl, un (pieceC ((ch x).drop a)), rfl, ?_, _, _, rfl, rfl, ?_⟩
    · show (un _).cps.size ≤ sizeLine
      rw [show (un (pieceC ((ch x).drop a))).cps.size = (pieceC ((ch x).drop a)).length from List.size_toArray ..]
      exact Nat.le_trans (by omega : _ ≤ x.length) small
    have el : ((a : Nat) : Int) + (((un (pieceC ((ch x).drop a))).length : Nat) : Int) = ((a + (pieceC ((ch x).drop a)).length : Nat) : Int) := by
      rw [show (un (pieceC ((ch x).drop a))).length = (pieceC ((ch x).drop a)).length from List.size_toArray ..]
      omega
    dsimp only
    rw [el]
    refine ⟨x.length - (a + (pieceC ((ch x).drop a)).length), by omega, fun b u hb => ?_, a + (pieceC ((ch x).drop a)).length, ps ++ [pieceC ((ch x).drop a)], _, rfl, rfl, by omega, ?_, ?_, ?_⟩
    · rw [upd_ne (ne_of_none hb hp)]
      exact s1 b u hb
    · rw [upd_same, List.map_append]
      rfl
    · rw [List.length_append, List.length_singleton]
      omega
    · rw [eq, pieces_step ne, List.drop_drop, List.append_assoc]
      rfl
  · have c' : a = x.length := by
      have : ¬ (((a : Nat) : Int) < ((x.length : Nat) : Int)) := fun z => c (decide_eq_true z)
      omega
    have e : (ch x).drop a = [] := List.drop_eq_nil_of_le (by omega)
    rw [e, pieces_nil, List.append_nil] at eq
    refine ⟨_, rfl, q p H' s1 hp ?_⟩
    rw [eq]
    exact h1
end
end Wp

/-! k06: the texts that are read, of mixed bases; the law's own reader reads just these. Pure lists of code points. -/
namespace M6
def low (c : Nat) : Bool := decide (97 ≤ c ∧ c ≤ 122)
def kWeave : List Nat := [119, 101, 97, 118, 101]
def kPart : List Nat := [112, 97, 114, 116]
def kDrop : List Nat := [100, 114, 111, 112]
def kLead : List Nat := [108, 101, 97, 100]
def kTurn : List Nat := [116, 117, 114, 110]
def kinds : List (List Nat) := [kWeave, kPart, kDrop, kLead, kTurn]
inductive Xt where
  | sign (c : Nat) | name (w : List Nat) | w2 (a b : Xt) | w3 (a b c : Xt) | w4 (a b c d : Xt) | part (j b : Nat) (t : Xt) | drop (c : Nat) (t : Xt) | lead (t u : Xt) | turn (w : List Nat) (t : Xt)
def joinC : List (List Nat) → List Nat
  | [] => [] | [a] => a | a :: b :: r => a ++ 44 :: 32 :: joinC (b :: r)
def call (k : List Nat) (args : List (List Nat)) : List Nat := k ++ 40 :: (joinC args ++ [41])
def Xt.text : Xt → List Nat
  | .sign c => [39, c, 39] | .name w => w | .w2 a b => call kWeave [a.text, b.text] | .w3 a b c => call kWeave [a.text, b.text, c.text] | .w4 a b c d => call kWeave [a.text, b.text, c.text, d.text]
  | .part j b t => call kPart [[48 + j], [48 + b], t.text] | .drop c t => call kDrop [[48 + c], t.text] | .lead t u => call kLead [t.text, u.text] | .turn w t => call kTurn [w, t.text]
def Xt.Ok : Xt → Prop
  | .sign c => low c = true | .name w => w.all low = true ∧ 1 ≤ w.length ∧ w.length ≤ 8 ∧ w ∉ kinds | .w2 a b => a.Ok ∧ b.Ok | .w3 a b c => a.Ok ∧ b.Ok ∧ c.Ok | .w4 a b c d => a.Ok ∧ b.Ok ∧ c.Ok ∧ d.Ok
  | .part j b t => 2 ≤ b ∧ b ≤ 4 ∧ j < b ∧ t.Ok | .drop c t => 1 ≤ c ∧ c ≤ 9 ∧ t.Ok | .lead t u => t.Ok ∧ u.Ok | .turn w t => w.all low = true ∧ 1 ≤ w.length ∧ w.length ≤ 4 ∧ t.Ok
/-! the law's reader, told by what is left -/
def headW (w r : List Nat) : Option (List Nat) :=
  if w = kWeave ∨ w = kLead then some r
  else if w = kTurn then (if 1 ≤ (r.takeWhile low).length ∧ (r.takeWhile low).length ≤ 4 ∧ (r.drop (r.takeWhile low).length).take 2 = [44, 32] then some (r.drop ((r.takeWhile low).length + 2)) else none)
  else if w = kDrop then (match r with | c :: 44 :: 32 :: q => if 49 ≤ c ∧ c ≤ 57 then some q else none | _ => none)
  else (match r with | a :: 44 :: 32 :: b :: 44 :: 32 :: q => if 50 ≤ b ∧ b ≤ 52 ∧ 48 ≤ a ∧ a < b then some q else none | _ => none)
def most (w : List Nat) : Nat := if w = kWeave then 4 else if w = kLead then 2 else 1
def loopE (f : List Nat → Option (List Nat)) (m : Nat) : Nat → Nat → List Nat → Option (List Nat)
  | 0, _, _ => none
  | j + 1, k, r => (f r).bind fun q => if q.take 1 = [41] then (if min m 2 ≤ k + 1 then some (q.drop 1) else none) else if q.take 2 = [44, 32] then loopE f m j (k + 1) (q.drop 2) else none
def endF : Nat → List Nat → Option (List Nat)
  | 0, _ => none
  | n + 1, l => if l.take 1 = [39] then (if ((l.drop 1).takeWhile low).length = 1 ∧ (l.drop 2).take 1 = [39] then some (l.drop 3) else none)
    else if l.takeWhile low ∉ kinds then (if 1 ≤ (l.takeWhile low).length ∧ (l.takeWhile low).length ≤ 8 then some (l.drop (l.takeWhile low).length) else none)
    else if (l.drop (l.takeWhile low).length).take 1 ≠ [40] then none
    else (headW (l.takeWhile low) (l.drop ((l.takeWhile low).length + 1))).bind fun r => loopE (endF n) (most (l.takeWhile low)) (most (l.takeWhile low)) 0 r
def Stop (r : List Nat) : Prop := r = [] ∨ ∃ c q, r = c :: q ∧ low c = false
theorem tw {w r : List Nat} (h : w.all low = true) (s : Stop r) : (w ++ r).takeWhile low = w := by
  induction w with
  | nil =>
    rcases s with rfl | ⟨c, q, rfl, hc⟩
    · rfl
    · show List.takeWhile low (c :: q) = []
      rw [List.takeWhile_cons, hc]
      rfl
  | cons a w ih =>
    rw [List.all_cons, Bool.and_eq_true] at h
    show List.takeWhile low (a :: (w ++ r)) = a :: w
    rw [List.takeWhile_cons, h.1, ih h.2]
    rfl
theorem drop_app {w r : List Nat} : (w ++ r).drop w.length = r := by simp
theorem drop_app1 {w r : List Nat} {c : Nat} : (w ++ c :: r).drop (w.length + 1) = r := by
  have := @drop_app (w ++ [c]) r
  rw [List.length_append, List.append_assoc] at this
  exact this
theorem kinds_low : ∀ w ∈ kinds, w.all low = true ∧ w ≠ [] ∧ w.head? ≠ some 39 := by decide
theorem low39 : low 39 = false := by decide
theorem low40 : low 40 = false := by decide
theorem low41 : low 41 = false := by decide
theorem low44 : low 44 = false := by decide
theorem take1_ne {w r : List Nat} {c : Nat} (h : w.all low = true) (n : w ≠ []) (hc : low c = false) : (w ++ r).take 1 ≠ [c] := by
  cases w with
  | nil => exact absurd rfl n
  | cons a w =>
    intro e
    have : a = c := by simpa using e
    rw [this, List.all_cons, hc] at h
    cases h
theorem stop41 {r : List Nat} : Stop (41 :: r) := .inr ⟨_, _, rfl, low41⟩
theorem stop44 {r : List Nat} : Stop (44 :: r) := .inr ⟨_, _, rfl, low44⟩
/-- the law's reader at a call -/
theorem end_call {n : Nat} {k r q : List Nat} (hk : k ∈ kinds) (h : headW k r = some q) : endF (n + 1) (k ++ 40 :: r) = loopE (endF n) (most k) (most k) 0 q := by
  obtain ⟨a, ne, _⟩ := kinds_low k hk
  have t : (k ++ 40 :: r).takeWhile low = k := tw a (.inr ⟨_, _, rfl, low40⟩)
  show (if (k ++ 40 :: r).take 1 = [39] then _ else _) = _
  rw [if_neg (take1_ne a ne low39), t, if_neg (fun z => z hk), drop_app, drop_app1, h]
  rfl
theorem loop_more {f : List Nat → Option (List Nat)} {m j k : Nat} {x r : List Nat} (h : f (x ++ 44 :: 32 :: r) = some (44 :: 32 :: r)) : loopE f m (j + 1) k (x ++ 44 :: 32 :: r) = loopE f m j (k + 1) r := by
  show (f _).bind _ = _
  rw [h]
  rfl
theorem loop_end {f : List Nat → Option (List Nat)} {m j k : Nat} {x r : List Nat} (h : f (x ++ 41 :: r) = some (41 :: r)) (hk : min m 2 ≤ k + 1) : loopE f m (j + 1) k (x ++ 41 :: r) = some r := by
  show (f _).bind _ = _
  rw [h]
  show (if List.take 1 (41 :: r) = [41] then (if min m 2 ≤ k + 1 then some (List.drop 1 (41 :: r)) else none) else (if List.take 2 (41 :: r) = [44, 32] then loopE f m j (k + 1) (List.drop 2 (41 :: r)) else none)) = _
  rw [if_pos (show List.take 1 (41 :: r) = [41] from rfl), if_pos hk]
  rfl
theorem low_fig {j : Nat} (h : j ≤ 9) : low (48 + j) = false := by
  unfold low
  exact decide_eq_false (by omega)
/-- what is read in full: a tree's text -/
theorem end_text : ∀ (t : Xt), t.Ok → ∀ (n : Nat) (r : List Nat), t.text.length < n → Stop r → endF n (t.text ++ r) = some r := by
  intro t
  have len : ∀ {k : List Nat} {xs : List (List Nat)} {n : Nat}, (call k xs).length < n + 1 → (joinC xs).length < n := by
    intro k xs n h
    unfold call at h
    simp only [List.length_append, List.length_cons, List.length_nil] at h
    omega
  induction t with
  | sign c =>
    intro h n r hn _
    cases n with
    | zero => cases hn
    | succ n =>
      have h : low c = true := h
      show endF (n + 1) (39 :: c :: 39 :: r) = some r
      have : (c :: 39 :: r).takeWhile low = [c] := tw (w := [c]) (by simp [h]) (.inr ⟨_, _, rfl, low39⟩)
      unfold endF
      rw [if_pos (show List.take 1 (39 :: c :: 39 :: r) = [39] from rfl)]
      show (if (List.takeWhile low (c :: 39 :: r)).length = 1 ∧ List.take 1 (39 :: r) = [39] then some r else none) = _
      rw [this]
      exact if_pos ⟨rfl, rfl⟩
  | name w =>
    intro h n r hn s
    obtain ⟨a, l1, l8, nk⟩ := h
    cases n with
    | zero => cases hn
    | succ n =>
      have ne : w ≠ [] := fun z => by rw [z] at l1; cases l1
      show endF (n + 1) (w ++ r) = _
      unfold endF
      rw [if_neg (take1_ne a ne low39), tw a s, if_pos nk, if_pos ⟨l1, l8⟩, drop_app]
  | w2 a b iha ihb =>
    intro h n r hn s
    obtain ⟨ha, hb⟩ := h
    cases n with
    | zero => cases hn
    | succ n =>
      have l := len hn
      simp only [joinC, List.length_append, List.length_cons] at l
      show endF (n + 1) (kWeave ++ 40 :: (joinC [a.text, b.text] ++ [41]) ++ r) = _
      rw [show kWeave ++ 40 :: (joinC [a.text, b.text] ++ [41]) ++ r = kWeave ++ 40 :: (a.text ++ 44 :: 32 :: (b.text ++ 41 :: r)) from by simp [joinC]]
      rw [end_call (q := a.text ++ 44 :: 32 :: (b.text ++ 41 :: r)) (by decide) (if_pos (.inl rfl))]
      show loopE _ 4 4 0 _ = _
      rw [loop_more (iha ha n _ (by omega) stop44), loop_end (ihb hb n _ (by omega) stop41) (by decide)]
  | w3 a b c iha ihb ihc =>
    intro h n r hn s
    obtain ⟨ha, hb, hc⟩ := h
    cases n with
    | zero => cases hn
    | succ n =>
      have l := len hn
      simp only [joinC, List.length_append, List.length_cons] at l
      show endF (n + 1) (kWeave ++ 40 :: (joinC [a.text, b.text, c.text] ++ [41]) ++ r) = _
      rw [show kWeave ++ 40 :: (joinC [a.text, b.text, c.text] ++ [41]) ++ r = kWeave ++ 40 :: (a.text ++ 44 :: 32 :: (b.text ++ 44 :: 32 :: (c.text ++ 41 :: r))) from by simp [joinC]]
      rw [end_call (q := a.text ++ 44 :: 32 :: (b.text ++ 44 :: 32 :: (c.text ++ 41 :: r))) (by decide) (if_pos (.inl rfl))]
      show loopE _ 4 4 0 _ = _
      rw [loop_more (iha ha n _ (by omega) stop44), loop_more (ihb hb n _ (by omega) stop44), loop_end (ihc hc n _ (by omega) stop41) (by decide)]
  | w4 a b c d iha ihb ihc ihd =>
    intro h n r hn s
    obtain ⟨ha, hb, hc, hd⟩ := h
    cases n with
    | zero => cases hn
    | succ n =>
      have l := len hn
      simp only [joinC, List.length_append, List.length_cons] at l
      show endF (n + 1) (kWeave ++ 40 :: (joinC [a.text, b.text, c.text, d.text] ++ [41]) ++ r) = _
      rw [show kWeave ++ 40 :: (joinC [a.text, b.text, c.text, d.text] ++ [41]) ++ r = kWeave ++ 40 :: (a.text ++ 44 :: 32 :: (b.text ++ 44 :: 32 :: (c.text ++ 44 :: 32 :: (d.text ++ 41 :: r)))) from by simp [joinC]]
      rw [end_call (q := a.text ++ 44 :: 32 :: (b.text ++ 44 :: 32 :: (c.text ++ 44 :: 32 :: (d.text ++ 41 :: r)))) (by decide) (if_pos (.inl rfl))]
      show loopE _ 4 4 0 _ = _
      rw [loop_more (iha ha n _ (by omega) stop44), loop_more (ihb hb n _ (by omega) stop44), loop_more (ihc hc n _ (by omega) stop44), loop_end (ihd hd n _ (by omega) stop41) (by decide)]
  | part j b t ih =>
    intro h n r hn s
    obtain ⟨b2, b4, jb, ht⟩ := h
    cases n with
    | zero => cases hn
    | succ n =>
      have l := len hn
      simp only [joinC, List.length_append, List.length_cons] at l
      show endF (n + 1) (kPart ++ 40 :: (joinC [[48 + j], [48 + b], t.text] ++ [41]) ++ r) = _
      rw [show kPart ++ 40 :: (joinC [[48 + j], [48 + b], t.text] ++ [41]) ++ r = kPart ++ 40 :: ((48 + j) :: 44 :: 32 :: (48 + b) :: 44 :: 32 :: (t.text ++ 41 :: r)) from by simp [joinC]]
      rw [end_call (q := t.text ++ 41 :: r) (by decide) (by
        show (if _ then _ else _) = _
        rw [if_neg (by decide), if_neg (by decide), if_neg (by decide)]
        show (if 50 ≤ 48 + b ∧ 48 + b ≤ 52 ∧ 48 ≤ 48 + j ∧ 48 + j < 48 + b then _ else _) = _
        rw [if_pos (by omega)])]
      show loopE _ 1 1 0 _ = _
      rw [loop_end (ih ht n _ (by omega) stop41) (by decide)]
  | drop c t ih =>
    intro h n r hn s
    obtain ⟨c1, c9, ht⟩ := h
    cases n with
    | zero => cases hn
    | succ n =>
      have l := len hn
      simp only [joinC, List.length_append, List.length_cons] at l
      show endF (n + 1) (kDrop ++ 40 :: (joinC [[48 + c], t.text] ++ [41]) ++ r) = _
      rw [show kDrop ++ 40 :: (joinC [[48 + c], t.text] ++ [41]) ++ r = kDrop ++ 40 :: ((48 + c) :: 44 :: 32 :: (t.text ++ 41 :: r)) from by simp [joinC]]
      rw [end_call (q := t.text ++ 41 :: r) (by decide) (by
        show (if _ then _ else _) = _
        rw [if_neg (by decide), if_neg (by decide), if_pos rfl]
        show (if 49 ≤ 48 + c ∧ 48 + c ≤ 57 then _ else _) = _
        rw [if_pos (by omega)])]
      show loopE _ 1 1 0 _ = _
      rw [loop_end (ih ht n _ (by omega) stop41) (by decide)]
  | lead t u iht ihu =>
    intro h n r hn s
    obtain ⟨ht, hu⟩ := h
    cases n with
    | zero => cases hn
    | succ n =>
      have l := len hn
      simp only [joinC, List.length_append, List.length_cons] at l
      show endF (n + 1) (kLead ++ 40 :: (joinC [t.text, u.text] ++ [41]) ++ r) = _
      rw [show kLead ++ 40 :: (joinC [t.text, u.text] ++ [41]) ++ r = kLead ++ 40 :: (t.text ++ 44 :: 32 :: (u.text ++ 41 :: r)) from by simp [joinC]]
      rw [end_call (q := t.text ++ 44 :: 32 :: (u.text ++ 41 :: r)) (by decide) (if_pos (.inr rfl))]
      show loopE _ 2 2 0 _ = _
      rw [loop_more (iht ht n _ (by omega) stop44), loop_end (ihu hu n _ (by omega) stop41) (by decide)]
  | turn w t ih =>
    intro h n r hn s
    obtain ⟨a, l1, l4, ht⟩ := h
    cases n with
    | zero => cases hn
    | succ n =>
      have l := len hn
      simp only [joinC, List.length_append, List.length_cons] at l
      show endF (n + 1) (kTurn ++ 40 :: (joinC [w, t.text] ++ [41]) ++ r) = _
      rw [show kTurn ++ 40 :: (joinC [w, t.text] ++ [41]) ++ r = kTurn ++ 40 :: (w ++ 44 :: 32 :: (t.text ++ 41 :: r)) from by simp [joinC]]
      rw [end_call (q := t.text ++ 41 :: r) (by decide) (by
        show (if _ then _ else _) = _
        rw [if_neg (by decide), if_pos rfl, tw a stop44, drop_app, if_pos ⟨l1, l4, rfl⟩]
        rw [← List.drop_drop, drop_app]
        rfl)]
      show loopE _ 1 1 0 _ = _
      rw [loop_end (ih ht n _ (by omega) stop41) (by decide)]
end M6

/-! what the law's reader reads is a tree's text -/
namespace M6
theorem loop_inv {f : List Nat → Option (List Nat)} {m j k : Nat} {q r : List Nat} (h : loopE f m (j + 1) k q = some r) :
    ∃ q1, f q = some q1 ∧ ((q1 = 41 :: r ∧ min m 2 ≤ k + 1) ∨ ∃ q2, q1 = 44 :: 32 :: q2 ∧ loopE f m j (k + 1) q2 = some r) := by
  have h : ((f q).bind fun q => if q.take 1 = [41] then (if min m 2 ≤ k + 1 then some (q.drop 1) else none) else if q.take 2 = [44, 32] then loopE f m j (k + 1) (q.drop 2) else none) = some r := h
  cases hf : f q with
  | none => rw [hf] at h; cases h
  | some q1 =>
    rw [hf] at h
    have h : (if q1.take 1 = [41] then (if min m 2 ≤ k + 1 then some (q1.drop 1) else none) else if q1.take 2 = [44, 32] then loopE f m j (k + 1) (q1.drop 2) else none) = some r := h
    refine ⟨q1, rfl, ?_⟩
    split at h
    · rename_i e
      split at h
      · rename_i hk
        have h := Option.some.inj h
        cases q1 with
        | nil => cases e
        | cons c q1 =>
          have e : [c] = [41] := e
          have h : q1 = r := h
          rw [List.cons.inj e |>.1, h]
          exact .inl ⟨rfl, hk⟩
      · cases h
    · split at h
      · rename_i e
        match q1, e, h with
        | c :: d :: q2, e, h =>
          have e : [c, d] = [44, 32] := e
          have e1 := (List.cons.inj e).1
          have e2 := (List.cons.inj (List.cons.inj e).2).1
          rw [e1, e2]
          exact .inr ⟨q2, rfl, h⟩
        | [c], e, h => cases e
        | [], e, h => cases e
      · cases h
theorem tw_all : ∀ l : List Nat, (l.takeWhile low).all low = true
  | [] => rfl
  | a :: l => by
    rw [List.takeWhile_cons]
    cases h : low a with
    | true =>
      show (low a && _) = true
      rw [h]
      exact tw_all l
    | false => rfl
theorem tw_drop : ∀ l : List Nat, l = l.takeWhile low ++ l.drop (l.takeWhile low).length
  | [] => rfl
  | a :: l => by
    rw [List.takeWhile_cons]
    cases h : low a with
    | true =>
      show a :: l = a :: (l.takeWhile low ++ l.drop (l.takeWhile low).length)
      rw [← tw_drop l]
    | false => rfl
theorem take1 {l : List Nat} {c : Nat} (h : l.take 1 = [c]) : l = c :: l.drop 1 := by
  cases l with
  | nil => cases h
  | cons d l =>
    have h : [d] = [c] := h
    rw [(List.cons.inj h).1]
    rfl
theorem take2 {l : List Nat} {c d : Nat} (h : l.take 2 = [c, d]) : l = c :: d :: l.drop 2 := by
  match l, h with
  | a :: b :: l, h =>
    have h : [a, b] = [c, d] := h
    rw [(List.cons.inj h).1, (List.cons.inj (List.cons.inj h).2).1]
    rfl
  | [a], h => cases h
  | [], h => cases h
theorem end_inv : ∀ (n : Nat) (l r : List Nat), endF n l = some r → ∃ t : Xt, t.Ok ∧ l = t.text ++ r := by
  intro n
  induction n with
  | zero => intro l r h; cases h
  | succ n ih =>
    intro l r h
    unfold endF at h
    split at h
    · rename_i hq
      split at h
      · rename_i hc
        obtain ⟨h1, h2⟩ := hc
        have h := Option.some.inj h
        have e1 := take1 hq
        have e2 := tw_drop (l.drop 1)
        have a2 := tw_all (l.drop 1)
        generalize (l.drop 1).takeWhile low = w at h1 e2 a2
        match w, h1 with
        | [c], _ =>
          have e3 : (l.drop 2) = (l.drop 1).drop 1 := by rw [List.drop_drop]
          have e4 : (l.drop 3) = (l.drop 2).drop 1 := by rw [List.drop_drop]
          have e2 : l.drop 1 = c :: (l.drop 1).drop 1 := e2
          have e5 := take1 h2
          refine ⟨.sign c, show low c = true by simpa using a2, ?_⟩
          show l = 39 :: c :: 39 :: r
          rw [e1, e2, ← e3, e5, ← e4, h]
      · cases h
    · split at h
      · rename_i hk
        split at h
        · rename_i hl
          have h := Option.some.inj h
          exact ⟨.name (l.takeWhile low), ⟨tw_all l, hl.1, hl.2, hk⟩, by rw [← h]; exact tw_drop l⟩
        · cases h
      · rename_i hk
        have hk : l.takeWhile low ∈ kinds := Decidable.not_not.mp hk
        split at h
        · cases h
        · rename_i hp
          have hp := take1 (Decidable.not_not.mp hp)
          have el := tw_drop l
          rw [hp] at el
          rw [List.drop_drop] at el
          generalize l.takeWhile low = k at h hk el
          generalize l.drop (k.length + 1) = r0 at h el
          cases hh : headW k r0 with
          | none => rw [hh] at h; cases h
          | some q =>
            rw [hh] at h
            have h : loopE (endF n) (most k) (most k) 0 q = some r := h
            have cases5 : k = kWeave ∨ k = kPart ∨ k = kDrop ∨ k = kLead ∨ k = kTurn := by simpa [kinds] using hk
            rcases cases5 with rfl | rfl | rfl | rfl | rfl
            · have hh : some r0 = some q := hh
              cases hh
              have h : loopE (endF n) 4 4 0 r0 = some r := h
              obtain ⟨q1, f1, h⟩ := loop_inv h
              obtain ⟨a, oa, ea⟩ := ih _ _ f1
              rcases h with ⟨_, z⟩ | ⟨q2, e1, h⟩
              · exact absurd z (by decide)
              obtain ⟨q3, f2, h⟩ := loop_inv h
              obtain ⟨b, ob, eb⟩ := ih _ _ f2
              rcases h with ⟨e2, _⟩ | ⟨q4, e2, h⟩
              · refine ⟨.w2 a b, ⟨oa, ob⟩, ?_⟩
                rw [el, ea, e1, eb, e2]
                simp [Xt.text, call, joinC]
              obtain ⟨q5, f3, h⟩ := loop_inv h
              obtain ⟨c, oc, ec⟩ := ih _ _ f3
              rcases h with ⟨e3, _⟩ | ⟨q6, e3, h⟩
              · refine ⟨.w3 a b c, ⟨oa, ob, oc⟩, ?_⟩
                rw [el, ea, e1, eb, e2, ec, e3]
                simp [Xt.text, call, joinC]
              obtain ⟨q7, f4, h⟩ := loop_inv h
              obtain ⟨d, od, ed⟩ := ih _ _ f4
              rcases h with ⟨e4, _⟩ | ⟨q8, e4, h⟩
              · refine ⟨.w4 a b c d, ⟨oa, ob, oc, od⟩, ?_⟩
                rw [el, ea, e1, eb, e2, ec, e3, ed, e4]
                simp [Xt.text, call, joinC]
              · cases h
            · have h : loopE (endF n) 1 1 0 q = some r := h
              obtain ⟨q1, f1, h⟩ := loop_inv h
              obtain ⟨t, ot, et⟩ := ih _ _ f1
              rcases h with ⟨e1, _⟩ | ⟨q2, e1, h⟩
              · unfold headW at hh
                rw [if_neg (by decide), if_neg (by decide), if_neg (by decide)] at hh
                split at hh
                · rename_i a b q' 
                  split at hh
                  · rename_i hb
                    have hh := Option.some.inj hh
                    refine ⟨.part (a - 48) (b - 48) t, ⟨by omega, by omega, by omega, ot⟩, ?_⟩
                    rw [el, hh, et, e1]
                    simp [Xt.text, call, joinC]
                    omega
                  · cases hh
                · cases hh
              · cases h
            · have h : loopE (endF n) 1 1 0 q = some r := h
              obtain ⟨q1, f1, h⟩ := loop_inv h
              obtain ⟨t, ot, et⟩ := ih _ _ f1
              rcases h with ⟨e1, _⟩ | ⟨q2, e1, h⟩
              · unfold headW at hh
                rw [if_neg (by decide), if_neg (by decide), if_pos rfl] at hh
                split at hh
                · rename_i c q'
                  split at hh
                  · rename_i hb
                    have hh := Option.some.inj hh
                    refine ⟨.drop (c - 48) t, ⟨by omega, by omega, ot⟩, ?_⟩
                    rw [el, hh, et, e1]
                    simp [Xt.text, call, joinC]
                    omega
                  · cases hh
                · cases hh
              · cases h
            · have hh : some r0 = some q := hh
              cases hh
              have h : loopE (endF n) 2 2 0 r0 = some r := h
              obtain ⟨q1, f1, h⟩ := loop_inv h
              obtain ⟨a, oa, ea⟩ := ih _ _ f1
              rcases h with ⟨_, z⟩ | ⟨q2, e1, h⟩
              · exact absurd z (by decide)
              obtain ⟨q3, f2, h⟩ := loop_inv h
              obtain ⟨b, ob, eb⟩ := ih _ _ f2
              rcases h with ⟨e2, _⟩ | ⟨q4, e2, h⟩
              · refine ⟨.lead a b, ⟨oa, ob⟩, ?_⟩
                rw [el, ea, e1, eb, e2]
                simp [Xt.text, call, joinC]
              · cases h
            · have h : loopE (endF n) 1 1 0 q = some r := h
              obtain ⟨q1, f1, h⟩ := loop_inv h
              obtain ⟨t, ot, et⟩ := ih _ _ f1
              rcases h with ⟨e1, _⟩ | ⟨q2, e1, h⟩
              · unfold headW at hh
                rw [if_neg (by decide), if_pos rfl] at hh
                split at hh
                · rename_i hb
                  have hh := Option.some.inj hh
                  obtain ⟨l1, l4, t2⟩ := hb
                  have e0 := tw_drop r0
                  rw [take2 t2, List.drop_drop, hh, et, e1] at e0
                  refine ⟨.turn (r0.takeWhile low) t, ⟨tw_all r0, l1, l4, ot⟩, ?_⟩
                  rw [el]
                  generalize r0.takeWhile low = w at e0
                  rw [e0]
                  simp [Xt.text, call, joinC]
                · cases hh
              · cases h
/-- a text is read in full just if it is a tree's -/
theorem end_iff (l : List Nat) (n : Nat) (hn : l.length < n) : endF n l = some [] ↔ ∃ t : Xt, t.Ok ∧ l = t.text := by
  constructor
  · intro h
    obtain ⟨t, o, e⟩ := end_inv n l [] h
    exact ⟨t, o, by rw [e, List.append_nil]⟩
  · rintro ⟨t, o, rfl⟩
    have := end_text t o n [] hn (.inl rfl)
    rwa [List.append_nil] at this
end M6

/-! the program's reader: pieces, frames; what it reads is a tree's text -/
namespace M6
inductive It where
  | tx (p : List Nat) | ex (t : Xt)
def It.text : It → List Nat
  | .tx p => p | .ex t => t.text
def It.Ok : It → Prop
  | .tx _ => True | .ex t => t.Ok
def textI (I : List It) : List Nat := (I.map It.text).flatten
def evens {α : Type} : List α → List α
  | [] => [] | [a] => [a] | a :: _ :: r => a :: evens r
def odds {α : Type} : List α → List α
  | [] => [] | [_] => [] | _ :: b :: r => b :: odds r
def isComma : It → Bool
  | .tx p => decide (p = [44, 32]) | .ex _ => false
def signP (p : List Nat) : Prop := ∃ c, p.tail.dropLast = [c] ∧ low c = true
def nameP (p : List Nat) : Prop := p.all low = true ∧ 1 ≤ p.length ∧ p.length ≤ 8 ∧ p ∉ kinds
instance (p : List Nat) : Decidable (nameP p) := by unfold nameP; infer_instance
def leafI : It → Option Xt
  | .ex t => some t
  | .tx p => if p.head? = some 39 ∧ p.getLast? = some 39 then (match p.tail.dropLast with | [c] => if low c = true then some (.sign c) else none | _ => none) else if nameP p then some (.name p) else none
def dig : It → Option Nat
  | .tx [c] => if 48 ≤ c ∧ c ≤ 57 then some (c - 48) else none
  | _ => none
def wordI : It → Option (List Nat)
  | .tx p => if p.all low = true ∧ 1 ≤ p.length ∧ p.length ≤ 4 then some p else none
  | _ => none
def makeI (w : List Nat) (ps : List It) : Option Xt :=
  if w = kWeave then (match ps with
    | [a, b] => (leafI a).bind fun a => (leafI b).bind fun b => some (.w2 a b)
    | [a, b, c] => (leafI a).bind fun a => (leafI b).bind fun b => (leafI c).bind fun c => some (.w3 a b c)
    | [a, b, c, d] => (leafI a).bind fun a => (leafI b).bind fun b => (leafI c).bind fun c => (leafI d).bind fun d => some (.w4 a b c d)
    | _ => none)
  else if w = kPart then (match ps with
    | [j, b, t] => (dig j).bind fun j => (dig b).bind fun b => (leafI t).bind fun t => if j ≤ 3 ∧ max 2 (j + 1) ≤ b ∧ b ≤ 4 then some (.part j b t) else none
    | _ => none)
  else if w = kDrop then (match ps with
    | [c, t] => (dig c).bind fun c => (leafI t).bind fun t => if 1 ≤ c ∧ c ≤ 9 then some (.drop c t) else none
    | _ => none)
  else if w = kLead then (match ps with
    | [t, u] => (leafI t).bind fun t => (leafI u).bind fun u => some (.lead t u)
    | _ => none)
  else (match ps with
    | [v, t] => (wordI v).bind fun v => (leafI t).bind fun t => some (.turn v t)
    | _ => none)
def closedI (w : List Nat) (I : List It) : Option Xt := if w ∈ kinds ∧ (odds I).length + 1 = (evens I).length ∧ (odds I).all isComma = true then makeI w (evens I) else none
structure Mc where
  cur : List It
  up : List (List Nat × List It)
def step (m : Mc) (p : List Nat) : Option Mc :=
  if p.getLast? = some 40 then some ⟨[], (p.dropLast, m.cur) :: m.up⟩
  else match m.up with
    | (w, F) :: up => if p = [41] then (closedI w m.cur).bind fun t => some ⟨F ++ [.ex t], up⟩ else some ⟨m.cur ++ [.tx p], m.up⟩
    | [] => some ⟨m.cur ++ [.tx p], []⟩
def run : Mc → List (List Nat) → Option Mc
  | m, [] => some m
  | m, p :: ps => (step m p).bind fun m => run m ps
def fin (m : Mc) : Option Xt := match m.up, m.cur with | [], [i] => leafI i | _, _ => none
/-! ### what is read is a tree's text -/
theorem last_drop {p : List Nat} {c : Nat} (h : p.getLast? = some c) : p = p.dropLast ++ [c] := by
  have hn : p ≠ [] := fun z => by rw [z] at h; cases h
  have := List.dropLast_concat_getLast hn
  rw [List.getLast?_eq_some_getLast hn] at h
  rw [Option.some.inj h] at this
  exact this.symm
theorem leaf_text {i : It} {t : Xt} (o : i.Ok) (h : leafI i = some t) : t.Ok ∧ t.text = i.text := by
  cases i with
  | ex u =>
    have h : some u = some t := h
    cases h
    exact ⟨o, rfl⟩
  | tx p =>
    unfold leafI at h
    dsimp only at h
    split at h
    · rename_i hq
      obtain ⟨h1, h2⟩ := hq
      split at h
      · rename_i c hc
        split at h
        · rename_i lc
          cases h
          refine ⟨lc, ?_⟩
          match p, h1, h2, hc with
          | a :: q, h1, h2, hc =>
            have h1 : a = 39 := Option.some.inj h1
            have hc : q.dropLast = [c] := hc
            have hn : q ≠ [] := fun z => by rw [z] at hc; cases hc
            have h2 : q.getLast? = some 39 := by
              rw [List.getLast?_cons] at h2
              cases hq : q.getLast? with
              | none => exact absurd (List.getLast?_eq_none_iff.mp hq) hn
              | some z => rw [hq] at h2; simpa using h2
            have : q = q.dropLast ++ [39] := last_drop h2
            show [39, c, 39] = a :: q
            rw [this, hc, h1]
            rfl
        · cases h
      · cases h
    · split at h
      · rename_i hn
        cases h
        exact ⟨hn, rfl⟩
      · cases h
theorem comma_text : ∀ {I : List It}, (odds I).length + 1 = (evens I).length → (odds I).all isComma = true → textI I = joinC ((evens I).map It.text)
  | [], h, _ => by cases h
  | [a], _, _ => by simp [textI, evens, joinC]
  | [a, b], h, _ => by simp [odds, evens] at h
  | a :: b :: c :: r, h, hc => by
    have e1 : evens (a :: b :: c :: r) = a :: evens (c :: r) := rfl
    have e2 : odds (a :: b :: c :: r) = b :: odds (c :: r) := rfl
    rw [e1, e2, List.length_cons, List.length_cons] at h
    rw [e2, List.all_cons, Bool.and_eq_true] at hc
    have ih := comma_text (I := c :: r) (by omega) hc.2
    have hb : b.text = [44, 32] := by
      cases b with
      | tx p => exact of_decide_eq_true hc.1
      | ex t => cases hc.1
    rw [e1]
    have ne : ∃ x y, evens (c :: r) = x :: y := by
      cases r with
      | nil => exact ⟨_, _, rfl⟩
      | cons d r => exact ⟨_, _, rfl⟩
    obtain ⟨x, y, e⟩ := ne
    rw [e] at ih ⊢
    show textI (a :: b :: c :: r) = a.text ++ 44 :: 32 :: joinC (x.text :: y.map It.text)
    have : textI (a :: b :: c :: r) = a.text ++ (b.text ++ textI (c :: r)) := by simp [textI]
    rw [this, hb, ih]
    rfl
theorem mem_evens {α : Type} : ∀ {I : List α} {a : α}, a ∈ evens I → a ∈ I
  | [], _, h => h
  | [x], _, h => h
  | x :: y :: r, a, h => by
    rcases List.mem_cons.mp h with h | h
    · exact List.mem_cons.mpr (.inl h)
    · exact List.mem_cons_of_mem _ (List.mem_cons_of_mem _ (mem_evens h))
theorem dig_text {i : It} {n : Nat} (h : dig i = some n) : n ≤ 9 ∧ i.text = [48 + n] := by
  unfold dig at h
  split at h
  · split at h
    · rename_i c hc
      have := Option.some.inj h
      refine ⟨by omega, ?_⟩
      show [_] = _
      rw [← this]
      congr 1
      omega
    · cases h
  · cases h
theorem word_text {i : It} {w : List Nat} (h : wordI i = some w) : (w.all low = true ∧ 1 ≤ w.length ∧ w.length ≤ 4) ∧ i.text = w := by
  unfold wordI at h
  split at h
  · split at h
    · rename_i hp
      cases h
      exact ⟨hp, rfl⟩
    · cases h
  · cases h
theorem bind_some {α β : Type} {x : Option α} {f : α → Option β} {b : β} (h : x.bind f = some b) : ∃ a, x = some a ∧ f a = some b := by
  cases x with
  | none => cases h
  | some a => exact ⟨a, rfl, h⟩
theorem make_text {w : List Nat} {ps : List It} {t : Xt} (hw : w ∈ kinds) (o : ∀ i ∈ ps, i.Ok) (h : makeI w ps = some t) : t.Ok ∧ t.text = call w (ps.map It.text) := by
  have ok : ∀ {i u}, i ∈ ps → leafI i = some u → u.Ok ∧ u.text = i.text := fun m e => leaf_text (o _ m) e
  unfold makeI at h
  split at h
  · rename_i e
    subst e
    split at h
    · obtain ⟨a, ha, h⟩ := bind_some h
      obtain ⟨b, hb, h⟩ := bind_some h
      cases h
      obtain ⟨o1, e1⟩ := ok (by simp) ha
      obtain ⟨o2, e2⟩ := ok (by simp) hb
      refine ⟨⟨o1, o2⟩, ?_⟩
      show call kWeave [_, _] = call kWeave [_, _]
      rw [e1, e2]
    · obtain ⟨a, ha, h⟩ := bind_some h
      obtain ⟨b, hb, h⟩ := bind_some h
      obtain ⟨c, hc, h⟩ := bind_some h
      cases h
      obtain ⟨o1, e1⟩ := ok (by simp) ha
      obtain ⟨o2, e2⟩ := ok (by simp) hb
      obtain ⟨o3, e3⟩ := ok (by simp) hc
      refine ⟨⟨o1, o2, o3⟩, ?_⟩
      show call kWeave [_, _, _] = call kWeave [_, _, _]
      rw [e1, e2, e3]
    · obtain ⟨a, ha, h⟩ := bind_some h
      obtain ⟨b, hb, h⟩ := bind_some h
      obtain ⟨c, hc, h⟩ := bind_some h
      obtain ⟨d, hd, h⟩ := bind_some h
      cases h
      obtain ⟨o1, e1⟩ := ok (by simp) ha
      obtain ⟨o2, e2⟩ := ok (by simp) hb
      obtain ⟨o3, e3⟩ := ok (by simp) hc
      obtain ⟨o4, e4⟩ := ok (by simp) hd
      refine ⟨⟨o1, o2, o3, o4⟩, ?_⟩
      show call kWeave [_, _, _, _] = call kWeave [_, _, _, _]
      rw [e1, e2, e3, e4]
    · cases h
  · split at h
    · rename_i e
      subst e
      split at h
      · obtain ⟨j, hj, h⟩ := bind_some h
        obtain ⟨b, hb, h⟩ := bind_some h
        obtain ⟨u, hu, h⟩ := bind_some h
        split at h
        · rename_i hr
          cases h
          obtain ⟨_, e1⟩ := dig_text hj
          obtain ⟨_, e2⟩ := dig_text hb
          obtain ⟨o3, e3⟩ := ok (by simp) hu
          refine ⟨⟨by omega, by omega, by omega, o3⟩, ?_⟩
          show call kPart [_, _, _] = call kPart [_, _, _]
          rw [e1, e2, e3]
        · cases h
      · cases h
    · split at h
      · rename_i e
        subst e
        split at h
        · obtain ⟨j, hj, h⟩ := bind_some h
          obtain ⟨u, hu, h⟩ := bind_some h
          split at h
          · rename_i hr
            cases h
            obtain ⟨_, e1⟩ := dig_text hj
            obtain ⟨o3, e3⟩ := ok (by simp) hu
            refine ⟨⟨hr.1, hr.2, o3⟩, ?_⟩
            show call kDrop [_, _] = call kDrop [_, _]
            rw [e1, e3]
          · cases h
        · cases h
      · split at h
        · rename_i e
          subst e
          split at h
          · obtain ⟨a, ha, h⟩ := bind_some h
            obtain ⟨b, hb, h⟩ := bind_some h
            cases h
            obtain ⟨o1, e1⟩ := ok (by simp) ha
            obtain ⟨o2, e2⟩ := ok (by simp) hb
            refine ⟨⟨o1, o2⟩, ?_⟩
            show call kLead [_, _] = call kLead [_, _]
            rw [e1, e2]
          · cases h
        · rename_i n1 n2 n3 n4
          have e : w = kTurn := by
            have : w = kWeave ∨ w = kPart ∨ w = kDrop ∨ w = kLead ∨ w = kTurn := by simpa [kinds] using hw
            rcases this with z | z | z | z | z
            · exact absurd z n1
            · exact absurd z n2
            · exact absurd z n3
            · exact absurd z n4
            · exact z
          subst e
          split at h
          · obtain ⟨v, hv, h⟩ := bind_some h
            obtain ⟨u, hu, h⟩ := bind_some h
            cases h
            obtain ⟨o1, e1⟩ := word_text hv
            obtain ⟨o2, e2⟩ := ok (by simp) hu
            refine ⟨⟨o1.1, o1.2.1, o1.2.2, o2⟩, ?_⟩
            show call kTurn [_, _] = call kTurn [_, _]
            rw [e1, e2]
          · cases h
theorem closed_text {w : List Nat} {I : List It} {t : Xt} (o : ∀ i ∈ I, i.Ok) (h : closedI w I = some t) : t.Ok ∧ t.text = w ++ 40 :: (textI I ++ [41]) := by
  unfold closedI at h
  split at h
  · rename_i hc
    obtain ⟨h1, h2, h3⟩ := hc
    obtain ⟨a, b⟩ := make_text h1 (fun i hi => o i (mem_evens hi)) h
    refine ⟨a, ?_⟩
    rw [b, comma_text h2 h3]
    rfl
  · cases h
def upText : List (List Nat × List It) → List Nat
  | [] => [] | (w, F) :: up => upText up ++ (textI F ++ (w ++ [40]))
def Mc.text (m : Mc) : List Nat := upText m.up ++ textI m.cur
structure Mc.Ok (m : Mc) : Prop where
  cur : ∀ i ∈ m.cur, i.Ok
  up : ∀ x ∈ m.up, ∀ i ∈ x.2, i.Ok
theorem textI_snoc {I : List It} {i : It} : textI (I ++ [i]) = textI I ++ i.text := by simp [textI]
theorem step_text {m m' : Mc} {p : List Nat} (o : m.Ok) (h : step m p = some m') : m'.Ok ∧ m'.text = m.text ++ p := by
  obtain ⟨cur, up⟩ := m
  obtain ⟨oc, ou⟩ := o
  unfold step at h
  dsimp only at h oc ou
  split at h
  · rename_i hp
    cases h
    refine ⟨⟨(fun i hi => nomatch hi), fun x hx => ?_⟩, ?_⟩
    · rcases List.mem_cons.mp hx with hx | hx
      · subst hx; exact oc
      · exact ou x hx
    · show (upText up ++ (textI cur ++ (p.dropLast ++ [40]))) ++ textI [] = (upText up ++ textI cur) ++ p
      rw [← last_drop hp]
      simp [textI]
  · have put : ∀ {u}, (Mc.mk (cur ++ [.tx p]) u).up = up → (Mc.mk (cur ++ [.tx p]) u).Ok ∧ (Mc.mk (cur ++ [.tx p]) u).text = (Mc.mk cur up).text ++ p := by
      rintro u rfl
      refine ⟨⟨fun i hi => ?_, ou⟩, ?_⟩
      · rcases List.mem_append.mp hi with hi | hi
        · exact oc i hi
        · rw [List.mem_singleton.mp hi]; trivial
      · show upText u ++ textI (cur ++ [.tx p]) = (upText u ++ textI cur) ++ p
        rw [textI_snoc, List.append_assoc]
        rfl
    split at h
    · rename_i w F up'
      split at h
      · rename_i e
        subst e
        obtain ⟨t, ht, h⟩ := bind_some h
        cases h
        obtain ⟨ot, et⟩ := closed_text oc ht
        refine ⟨⟨fun i hi => ?_, fun x hx => ou x (List.mem_cons_of_mem _ hx)⟩, ?_⟩
        · rcases List.mem_append.mp hi with hi | hi
          · exact ou _ (List.mem_cons.mpr (.inl rfl)) i hi
          · rw [List.mem_singleton.mp hi]; exact ot
        · show upText up' ++ textI (F ++ [.ex t]) = (upText up' ++ (textI F ++ (w ++ [40]))) ++ textI cur ++ [41]
          rw [textI_snoc]
          show upText up' ++ (textI F ++ t.text) = _
          rw [et]
          simp
      · cases h
        exact put rfl
    · cases h
      exact put rfl
theorem run_text : ∀ {ps : List (List Nat)} {m m' : Mc}, m.Ok → run m ps = some m' → m'.Ok ∧ m'.text = m.text ++ ps.flatten
  | [], m, m', o, h => by
    have h : some m = some m' := h
    cases h
    exact ⟨o, by simp⟩
  | p :: ps, m, m', o, h => by
    have h : (step m p).bind (fun m => run m ps) = some m' := h
    obtain ⟨m1, h1, h2⟩ := bind_some h
    obtain ⟨o1, e1⟩ := step_text o h1
    obtain ⟨o2, e2⟩ := run_text o1 h2
    exact ⟨o2, by rw [e2, e1]; simp⟩
theorem fin_text {m : Mc} {t : Xt} (o : m.Ok) (h : fin m = some t) : t.Ok ∧ t.text = m.text := by
  obtain ⟨cur, up⟩ := m
  unfold fin at h
  dsimp only at h
  split at h
  · rename_i i
    obtain ⟨a, b⟩ := leaf_text (o.cur i (List.mem_singleton.mpr rfl)) h
    exact ⟨a, by rw [b]; simp [Mc.text, upText, textI]⟩
  · cases h
def readP (ps : List (List Nat)) : Option Xt := (run ⟨[], []⟩ ps).bind fin
theorem read_text {ps : List (List Nat)} {t : Xt} (h : readP ps = some t) : t.Ok ∧ t.text = ps.flatten := by
  obtain ⟨m, h1, h2⟩ := bind_some h
  have o0 : (Mc.mk [] []).Ok := ⟨fun i hi => (by cases hi), fun x hx => (by cases hx)⟩
  obtain ⟨o, e⟩ := run_text o0 h1
  obtain ⟨a, b⟩ := fin_text o h2
  exact ⟨a, by rw [b, e]; simp [Mc.text, upText, textI]⟩
end M6

/-! a tree's text is read -/
namespace M6
def itemOf : Xt → It
  | .sign c => .tx [39, c, 39] | .name w => .tx w | t => .ex t
def callP (k : List Nat) (x : List (List Nat)) : List (List Nat) := (k ++ [40]) :: (x ++ [[41]])
def Xt.ps : Xt → List (List Nat)
  | .sign c => [[39, c, 39]] | .name w => [w] | .w2 a b => callP kWeave (a.ps ++ [44, 32] :: b.ps) | .w3 a b c => callP kWeave (a.ps ++ [44, 32] :: (b.ps ++ [44, 32] :: c.ps)) | .w4 a b c d => callP kWeave (a.ps ++ [44, 32] :: (b.ps ++ [44, 32] :: (c.ps ++ [44, 32] :: d.ps)))
  | .part j b t => callP kPart ([48 + j] :: [44, 32] :: [48 + b] :: [44, 32] :: t.ps) | .drop c t => callP kDrop ([48 + c] :: [44, 32] :: t.ps) | .lead t u => callP kLead (t.ps ++ [44, 32] :: u.ps) | .turn w t => callP kTurn (w :: [44, 32] :: t.ps)
theorem leaf_item : ∀ {t : Xt}, t.Ok → leafI (itemOf t) = some t
  | .sign c, h => by
    show (if ([39, c, 39] : List Nat).head? = some 39 ∧ ([39, c, 39] : List Nat).getLast? = some 39 then (if low c = true then some (Xt.sign c) else none) else (if nameP [39, c, 39] then some (Xt.name [39, c, 39]) else none)) = _
    rw [if_pos ⟨rfl, rfl⟩]
    exact if_pos h
  | .name w, h => by
    have h' : nameP w := h
    show (if w.head? = some 39 ∧ w.getLast? = some 39 then _ else (if nameP w then some (Xt.name w) else none)) = _
    rw [if_neg, if_pos h']
    rintro ⟨z, _⟩
    have := List.all_eq_true.mp h'.1 39 (List.mem_of_head? z)
    exact absurd this (by decide)
  | .w2 .., _ => rfl
  | .w3 .., _ => rfl
  | .w4 .., _ => rfl
  | .part .., _ => rfl
  | .drop .., _ => rfl
  | .lead .., _ => rfl
  | .turn .., _ => rfl
theorem run_app : ∀ {ps qs : List (List Nat)} {m : Mc}, run m (ps ++ qs) = (run m ps).bind fun m => run m qs
  | [], _, _ => rfl
  | p :: ps, qs, m => by
    show (step m p).bind (fun m => run m (ps ++ qs)) = ((step m p).bind fun m => run m ps).bind fun m => run m qs
    cases step m p with
    | none => rfl
    | some m1 => exact run_app
theorem step_put {m : Mc} {p : List Nat} (h1 : p.getLast? ≠ some 40) (h2 : p ≠ [41]) : step m p = some ⟨m.cur ++ [.tx p], m.up⟩ := by
  unfold step
  rw [if_neg h1]
  obtain ⟨cur, up⟩ := m
  cases up with
  | nil => rfl
  | cons x up => exact if_neg h2
theorem step_open {m : Mc} {k : List Nat} : step m (k ++ [40]) = some ⟨[], (k, m.cur) :: m.up⟩ := by
  unfold step
  rw [if_pos (by simp), List.dropLast_concat]
theorem step_close {I F : List It} {w : List Nat} {up : List (List Nat × List It)} {t : Xt} (h : closedI w I = some t) : step ⟨I, (w, F) :: up⟩ [41] = some ⟨F ++ [.ex t], up⟩ := by
  unfold step
  rw [if_neg (by decide)]
  show (if [41] = [41] then (closedI w I).bind _ else _) = _
  rw [if_pos rfl, h]
  rfl
/-- these pieces lay these things -/
def Lays (ps : List (List Nat)) (I : List It) : Prop := ∀ m : Mc, run m ps = some ⟨m.cur ++ I, m.up⟩
theorem lays_one {p : List Nat} (h1 : p.getLast? ≠ some 40) (h2 : p ≠ [41]) : Lays [p] [.tx p] := fun m => by
  show (step m p).bind _ = _
  rw [step_put h1 h2]
  rfl
theorem lays_app {ps qs : List (List Nat)} {I J : List It} (a : Lays ps I) (b : Lays qs J) : Lays (ps ++ qs) (I ++ J) := fun m => by
  rw [run_app, a m]
  show run _ qs = _
  rw [b]
  simp
theorem lays_comma {ps qs : List (List Nat)} {I J : List It} (a : Lays ps I) (b : Lays qs J) : Lays (ps ++ [44, 32] :: qs) (I ++ .tx [44, 32] :: J) :=
  lays_app a (lays_app (lays_one (p := [44, 32]) (by decide) (by decide)) b)
theorem lays_call {k : List Nat} {x : List (List Nat)} {I : List It} {t : Xt} (h : Lays x I) (c : closedI k I = some t) : Lays (callP k x) [.ex t] := fun m => by
  show (step m (k ++ [40])).bind _ = _
  rw [step_open]
  show run _ (x ++ [[41]]) = _
  rw [run_app, h]
  show (step ⟨[] ++ I, (k, m.cur) :: m.up⟩ [41]).bind _ = _
  rw [List.nil_append, step_close c]
  rfl
theorem lays_fig {j : Nat} (h : j ≤ 9) : Lays [[48 + j]] [.tx [48 + j]] := lays_one (fun z => by have := Option.some.inj (show some (48 + j) = some 40 from z); omega) (fun z => by have := (List.cons.inj z).1; omega)
theorem lays_word {w : List Nat} (a : w.all low = true) (n : 1 ≤ w.length) : Lays [w] [.tx w] := by
  refine lays_one (fun z => ?_) fun z => ?_
  · exact absurd (List.all_eq_true.mp a _ (List.mem_of_getLast? z)) (by decide)
  · rw [z] at a
    exact absurd a (by decide)
theorem dig_fig {j : Nat} (h : j ≤ 9) : dig (.tx [48 + j]) = some j := by
  show (if 48 ≤ 48 + j ∧ 48 + j ≤ 57 then some (48 + j - 48) else none) = _
  rw [if_pos (by omega)]
  congr 1
  omega
theorem lays_tree : ∀ (t : Xt), t.Ok → Lays t.ps [itemOf t] := by
  intro t
  induction t with
  | sign c =>
    intro h
    have h : low c = true := h
    exact lays_one (fun z => by have := Option.some.inj (show some 39 = some 40 from z); omega) (fun z => by have := (List.cons.inj z).1; omega)
  | name w => intro h; exact lays_word h.1 h.2.1
  | w2 a b iha ihb =>
    rintro ⟨ha, hb⟩
    refine lays_call (lays_comma (iha ha) (ihb hb)) ?_
    show (if _ then makeI kWeave [itemOf a, itemOf b] else none) = _
    rw [if_pos ⟨by decide, rfl, rfl⟩]
    show (leafI (itemOf a)).bind _ = _
    rw [leaf_item ha]
    show (leafI (itemOf b)).bind _ = _
    rw [leaf_item hb]
    rfl
  | w3 a b c iha ihb ihc =>
    rintro ⟨ha, hb, hc⟩
    refine lays_call (lays_comma (iha ha) (lays_comma (ihb hb) (ihc hc))) ?_
    show (if _ then makeI kWeave [itemOf a, itemOf b, itemOf c] else none) = _
    rw [if_pos ⟨by decide, rfl, rfl⟩]
    show (leafI (itemOf a)).bind _ = _
    rw [leaf_item ha]
    show (leafI (itemOf b)).bind _ = _
    rw [leaf_item hb]
    show (leafI (itemOf c)).bind _ = _
    rw [leaf_item hc]
    rfl
  | w4 a b c d iha ihb ihc ihd =>
    rintro ⟨ha, hb, hc, hd⟩
    refine lays_call (lays_comma (iha ha) (lays_comma (ihb hb) (lays_comma (ihc hc) (ihd hd)))) ?_
    show (if _ then makeI kWeave [itemOf a, itemOf b, itemOf c, itemOf d] else none) = _
    rw [if_pos ⟨by decide, rfl, rfl⟩]
    show (leafI (itemOf a)).bind _ = _
    rw [leaf_item ha]
    show (leafI (itemOf b)).bind _ = _
    rw [leaf_item hb]
    show (leafI (itemOf c)).bind _ = _
    rw [leaf_item hc]
    show (leafI (itemOf d)).bind _ = _
    rw [leaf_item hd]
    rfl
  | part j b t ih =>
    rintro ⟨b2, b4, jb, ht⟩
    refine lays_call (lays_comma (lays_fig (j := j) (by omega)) (lays_comma (lays_fig (j := b) (by omega)) (ih ht))) ?_
    show (if _ then makeI kPart [.tx [48 + j], .tx [48 + b], itemOf t] else none) = _
    rw [if_pos ⟨by decide, rfl, rfl⟩]
    show (dig (.tx [48 + j])).bind _ = _
    rw [dig_fig (by omega)]
    show (dig (.tx [48 + b])).bind _ = _
    rw [dig_fig (by omega)]
    show (leafI (itemOf t)).bind _ = _
    rw [leaf_item ht]
    show (if j ≤ 3 ∧ max 2 (j + 1) ≤ b ∧ b ≤ 4 then _ else _) = _
    rw [if_pos ⟨by omega, by omega, by omega⟩]
  | drop c t ih =>
    rintro ⟨c1, c9, ht⟩
    refine lays_call (lays_comma (lays_fig (j := c) (by omega)) (ih ht)) ?_
    show (if _ then makeI kDrop [.tx [48 + c], itemOf t] else none) = _
    rw [if_pos ⟨by decide, rfl, rfl⟩]
    show (dig (.tx [48 + c])).bind _ = _
    rw [dig_fig (by omega)]
    show (leafI (itemOf t)).bind _ = _
    rw [leaf_item ht]
    show (if 1 ≤ c ∧ c ≤ 9 then _ else _) = _
    rw [if_pos ⟨c1, c9⟩]
  | lead a b iha ihb =>
    rintro ⟨ha, hb⟩
    refine lays_call (lays_comma (iha ha) (ihb hb)) ?_
    show (if _ then makeI kLead [itemOf a, itemOf b] else none) = _
    rw [if_pos ⟨by decide, rfl, rfl⟩]
    show (leafI (itemOf a)).bind _ = _
    rw [leaf_item ha]
    show (leafI (itemOf b)).bind _ = _
    rw [leaf_item hb]
    rfl
  | turn w t ih =>
    rintro ⟨a, l1, l4, ht⟩
    refine lays_call (lays_comma (lays_word a l1) (ih ht)) ?_
    show (if _ then makeI kTurn [.tx w, itemOf t] else none) = _
    rw [if_pos ⟨by decide, rfl, rfl⟩]
    show (wordI (.tx w)).bind _ = _
    rw [show wordI (.tx w) = some w from if_pos ⟨a, l1, l4⟩]
    show (leafI (itemOf t)).bind _ = _
    rw [leaf_item ht]
    rfl
theorem read_tree {t : Xt} (h : t.Ok) : readP t.ps = some t := by
  unfold readP
  rw [lays_tree t h ⟨[], []⟩]
  exact leaf_item h
end M6

/-! the pieces of a text; what the program's reader reads in full are just the trees' texts -/
namespace M6
def pieceC (l : List Nat) : List Nat :=
  if l.takeWhile low = [] then
    match l with
    | [] => []
    | 39 :: r => (39 :: r).take 3
    | 44 :: 32 :: _ => [44, 32]
    | c :: _ => [c]
  else if l[(l.takeWhile low).length]? = some 40 then l.takeWhile low ++ [40] else l.takeWhile low
def piecesF : Nat → List Nat → List (List Nat)
  | 0, _ => []
  | n + 1, l => if l = [] then [] else pieceC l :: piecesF n (l.drop (pieceC l).length)
def pieces (l : List Nat) : List (List Nat) := piecesF l.length l
theorem take_word : ∀ {w r : List Nat}, w.all low = true → (r = [] ∨ ∃ c q, r = c :: q ∧ low c = false) → (w ++ r).takeWhile low = w
  | [], r, _, h => by
    rcases h with rfl | ⟨c, q, rfl, n⟩
    · rfl
    · rw [List.nil_append, List.takeWhile_cons, n]
      rfl
  | c :: w, r, a, h => by
    obtain ⟨a1, a2⟩ := Bool.and_eq_true_iff.mp (show (low c && w.all low) = true from a)
    rw [List.cons_append, List.takeWhile_cons, a1]
    show c :: (w ++ r).takeWhile low = c :: w
    rw [take_word a2 h]
theorem piece_len (l : List Nat) : (pieceC l).length ≤ l.length ∧ (l ≠ [] → 0 < (pieceC l).length) := by
  unfold pieceC
  have tw : (l.takeWhile low).length ≤ l.length := (List.takeWhile_prefix _).length_le
  by_cases h : l.takeWhile low = []
  · rw [if_pos h]
    split
    · exact ⟨Nat.le_refl _, fun z => absurd rfl z⟩
    · refine ⟨?_, fun _ => ?_⟩
      · rw [List.length_take]; exact Nat.min_le_right _ _
      · rw [List.length_take, List.length_cons]; omega
    · refine ⟨?_, fun _ => Nat.succ_pos _⟩
      simp only [List.length_cons, List.length_nil]; omega
    · refine ⟨?_, fun _ => Nat.succ_pos _⟩
      simp only [List.length_cons, List.length_nil]; omega
  · rw [if_neg h]
    have h0 : 0 < (l.takeWhile low).length := List.length_pos_iff.mpr h
    by_cases g : l[(l.takeWhile low).length]? = some 40
    · rw [if_pos g, List.length_append]
      obtain ⟨lt, _⟩ := List.getElem?_eq_some_iff.mp g
      simp only [List.length_cons, List.length_nil]
      exact ⟨by omega, fun _ => by omega⟩
    · rw [if_neg g]
      exact ⟨tw, fun _ => h0⟩
theorem piecesF_more : ∀ (n m : Nat) (l : List Nat), l.length ≤ n → l.length ≤ m → piecesF n l = piecesF m l
  | 0, 0, _, _, _ => rfl
  | 0, m + 1, l, h, _ => by
    have : l = [] := List.length_eq_zero_iff.mp (by omega)
    subst this
    rfl
  | n + 1, 0, l, _, h => by
    have : l = [] := List.length_eq_zero_iff.mp (by omega)
    subst this
    rfl
  | n + 1, m + 1, l, h1, h2 => by
    unfold piecesF
    by_cases e : l = []
    · rw [if_pos e, if_pos e]
    · rw [if_neg e, if_neg e]
      have ⟨a, b⟩ := piece_len l
      have b := b e
      rw [piecesF_more n m _ (by rw [List.length_drop]; omega) (by rw [List.length_drop]; omega)]
theorem pieces_nil : pieces [] = [] := rfl
theorem pieces_step {l : List Nat} (h : l ≠ []) : pieces l = pieceC l :: pieces (l.drop (pieceC l).length) := by
  have ⟨a, b⟩ := piece_len l
  have b := b h
  obtain ⟨n, hn⟩ : ∃ n, l.length = n + 1 := ⟨l.length - 1, by omega⟩
  show piecesF l.length l = _
  rw [hn]
  show (if l = [] then [] else pieceC l :: piecesF n (l.drop (pieceC l).length)) = _
  rw [if_neg h]
  unfold pieces
  rw [piecesF_more n _ _ (by rw [List.length_drop]; omega) (Nat.le_refl _)]
/-- a piece in front -/
theorem pieces_app {p r : List Nat} (n : p ≠ []) (h : pieceC (p ++ r) = p) : pieces (p ++ r) = p :: pieces r := by
  rw [pieces_step (by intro z; exact n (List.append_eq_nil_iff.mp z).1), h, List.drop_left]
theorem piece_one {c : Nat} {r : List Nat} (h1 : low c = false) (h2 : c ≠ 39) (h3 : c ≠ 44 ∨ ∀ q, r ≠ 32 :: q) : pieceC (c :: r) = [c] := by
  unfold pieceC
  have e : (c :: r).takeWhile low = [] := by rw [List.takeWhile_cons, h1]; rfl
  rw [if_pos e]
  split
  · rename_i z; cases z
  · rename_i z; exact absurd (List.cons.inj z).1 h2
  · rename_i q z
    obtain ⟨a, b⟩ := List.cons.inj z
    rcases h3 with n | n
    · exact absurd a n
    · exact absurd b (n q)
  · rename_i z
    rw [(List.cons.inj z).1]
theorem piece_comma (r : List Nat) : pieceC (44 :: 32 :: r) = [44, 32] := by
  unfold pieceC
  rw [if_pos (by rw [List.takeWhile_cons, show low 44 = false by decide]; rfl)]
  rfl
theorem piece_quote (r : List Nat) : pieceC (39 :: r) = (39 :: r).take 3 := by
  unfold pieceC
  rw [if_pos (by rw [List.takeWhile_cons, show low 39 = false by decide]; rfl)]
  rfl
theorem piece_word {w r : List Nat} (a : w.all low = true) (n : w ≠ []) (h : r = [] ∨ ∃ c q, r = c :: q ∧ low c = false ∧ c ≠ 40) : pieceC (w ++ r) = w := by
  have tw := take_word a (h.imp id fun ⟨c, q, e, x, _⟩ => ⟨c, q, e, x⟩)
  unfold pieceC
  rw [tw, if_neg n, if_neg]
  rw [List.getElem?_append_right (Nat.le_refl _), Nat.sub_self]
  rcases h with rfl | ⟨c, q, rfl, _, x⟩
  · intro z; cases z
  · intro z
    exact x (Option.some.inj z)
theorem piece_open {w r : List Nat} (a : w.all low = true) (n : w ≠ []) : pieceC (w ++ (40 :: r)) = w ++ [40] := by
  have tw := take_word (r := 40 :: r) a (.inr ⟨40, r, rfl, by decide⟩)
  unfold pieceC
  rw [tw, if_neg n, if_pos]
  rw [List.getElem?_append_right (Nat.le_refl _), Nat.sub_self]
  rfl
theorem piece_pre (l : List Nat) : l = pieceC l ++ l.drop (pieceC l).length := by
  unfold pieceC
  split
  · rename_i h
    split
    · rfl
    · rename_i r
      match r with
      | [] => rfl
      | [a] => rfl
      | a :: b :: q => rfl
    · rfl
    · rfl
  · split
    · rename_i h g
      have e := tw_drop l
      have d : l.drop (l.takeWhile low).length = 40 :: l.drop ((l.takeWhile low).length + 1) := by
        obtain ⟨lt, e40⟩ := List.getElem?_eq_some_iff.mp g
        rw [List.drop_eq_getElem_cons lt, e40]
      rw [d] at e
      rw [List.length_append]
      generalize l.drop ((l.takeWhile low).length + 1) = q at e
      generalize l.takeWhile low = w at e
      subst e
      rw [List.append_assoc]
      rfl
    · exact tw_drop l
theorem pieces_flat : ∀ (n : Nat) (l : List Nat), l.length ≤ n → (pieces l).flatten = l := by
  intro n
  induction n with
  | zero =>
    intro l h
    have : l = [] := List.length_eq_zero_iff.mp (by omega)
    subst this
    rfl
  | succ n ih =>
    intro l h
    by_cases e : l = []
    · subst e; rfl
    · rw [pieces_step e, List.flatten_cons, ih _ (by rw [List.length_drop]; have := (piece_len l).2 e; omega)]
      exact (piece_pre l).symm
def Stop2 (r : List Nat) : Prop := r = [] ∨ ∃ c q, r = c :: q ∧ low c = false ∧ c ≠ 40
def Fronts (x : List Nat) (ps : List (List Nat)) : Prop := ∀ r, Stop2 r → pieces (x ++ r) = ps ++ pieces r
theorem stop2_comma {r : List Nat} : Stop2 (44 :: r) := .inr ⟨_, _, rfl, low44, by decide⟩
theorem stop2_close {r : List Nat} : Stop2 (41 :: r) := .inr ⟨_, _, rfl, low41, by decide⟩
theorem fronts_comma {x y : List Nat} {ps qs : List (List Nat)} (a : Fronts x ps) (b : Fronts y qs) : Fronts (x ++ 44 :: 32 :: y) (ps ++ [44, 32] :: qs) := fun r hr => by
  rw [List.append_assoc]
  show pieces (x ++ (44 :: 32 :: (y ++ r))) = _
  rw [a _ stop2_comma, show (44 :: 32 :: (y ++ r)) = [44, 32] ++ (y ++ r) from rfl, pieces_app (by simp) (piece_comma _), b r hr]
  simp
theorem fronts_call {k x : List Nat} {ps : List (List Nat)} (a : k.all low = true) (n : k ≠ []) (h : Fronts x ps) : Fronts (k ++ (40 :: (x ++ [41]))) (callP k ps) := by
  intro r hr
  have e : (k ++ (40 :: (x ++ [41]))) ++ r = (k ++ [40]) ++ (x ++ (41 :: r)) := by simp
  rw [e, pieces_app (by simp) (by rw [List.append_assoc]; exact piece_open a n), h _ stop2_close]
  have e2 : 41 :: r = [41] ++ r := rfl
  rw [e2, pieces_app (by simp) (piece_one (by decide) (by decide) (.inl (by decide)))]
  simp [callP]
theorem fronts_word {w : List Nat} (a : w.all low = true) (n : w ≠ []) : Fronts w [w] := fun r hr => by
  rw [pieces_app n (piece_word a n hr)]
  rfl
theorem fronts_fig {j : Nat} (h : j ≤ 9) : Fronts [48 + j] [[48 + j]] := fun r hr => by
  rw [pieces_app (by simp) (piece_one (low_fig h) (by omega) (.inl (by omega)))]
  rfl
theorem ne_of_len {w : List Nat} (h : 1 ≤ w.length) : w ≠ [] := fun z => by rw [z] at h; cases h
theorem fronts_tree : ∀ (t : Xt), t.Ok → Fronts t.text t.ps := by
  intro t
  induction t with
  | sign c =>
    intro h r hr
    show pieces ([39, c, 39] ++ r) = [[39, c, 39]] ++ pieces r
    rw [pieces_app (by simp) (piece_quote _)]
    rfl
  | name w => intro h; exact fronts_word h.1 (ne_of_len h.2.1)
  | w2 a b iha ihb => rintro ⟨ha, hb⟩; exact fronts_call (by decide) (by decide) (fronts_comma (iha ha) (ihb hb))
  | w3 a b c iha ihb ihc => rintro ⟨ha, hb, hc⟩; exact fronts_call (by decide) (by decide) (fronts_comma (iha ha) (fronts_comma (ihb hb) (ihc hc)))
  | w4 a b c d iha ihb ihc ihd => rintro ⟨ha, hb, hc, hd⟩; exact fronts_call (by decide) (by decide) (fronts_comma (iha ha) (fronts_comma (ihb hb) (fronts_comma (ihc hc) (ihd hd))))
  | part j b t ih => rintro ⟨b2, b4, jb, ht⟩; exact fronts_call (by decide) (by decide) (fronts_comma (fronts_fig (j := j) (by omega)) (fronts_comma (fronts_fig (j := b) (by omega)) (ih ht)))
  | drop c t ih => rintro ⟨c1, c9, ht⟩; exact fronts_call (by decide) (by decide) (fronts_comma (fronts_fig (j := c) (by omega)) (ih ht))
  | lead a b iha ihb => rintro ⟨ha, hb⟩; exact fronts_call (by decide) (by decide) (fronts_comma (iha ha) (ihb hb))
  | turn w t ih => rintro ⟨a, l1, l4, ht⟩; exact fronts_call (by decide) (by decide) (fronts_comma (fronts_word a (ne_of_len l1)) (ih ht))
/-- what the program's reader reads -/
theorem read_iff (l : List Nat) (t : Xt) : readP (pieces l) = some t ↔ t.Ok ∧ l = t.text := by
  constructor
  · intro h
    obtain ⟨o, e⟩ := read_text h
    exact ⟨o, by rw [e, pieces_flat _ l (Nat.le_refl _)]⟩
  · rintro ⟨o, rfl⟩
    have := fronts_tree t o [] (.inl rfl)
    rw [List.append_nil, pieces_nil, List.append_nil] at this
    rw [this]
    exact read_tree o
/-- the two readers agree -/
theorem readers_agree (l : List Nat) (n : Nat) (hn : l.length < n) : (endF n l = some [] ↔ ∃ t, readP (pieces l) = some t) ∧ ∀ t, readP (pieces l) = some t → t.Ok ∧ t.text = l :=
  ⟨(end_iff l n hn).trans ⟨fun ⟨t, o, e⟩ => ⟨t, (read_iff l t).mpr ⟨o, e⟩⟩, fun ⟨t, h⟩ => ⟨t, (read_iff l t).mp h⟩⟩, fun t h => ⟨((read_iff l t).mp h).1, ((read_iff l t).mp h).2.symm⟩⟩
end M6

/-! k06: the pieces are those of M6; the items as they stand on the heap -/
namespace Wp
open PySem PySem.Spec PyProof.Rows L2 Hx
theorem low_is : letterB = M6.low := rfl
theorem piece_m6 (l : List Nat) : pieceC l = M6.pieceC l := by
  unfold pieceC M6.pieceC
  rw [low_is]
  try rfl
theorem piecesF_m6 : ∀ (n : Nat) (l : List Nat), piecesF n l = M6.piecesF n l
  | 0, _ => rfl
  | n + 1, l => by
    unfold piecesF M6.piecesF
    rw [piece_m6, piecesF_m6 n]
theorem pieces_m6 (l : List Nat) : pieces l = M6.pieces l := piecesF_m6 _ _
section
variable {CF : Addr} {cls : Addr → Prop}
/-- an expression with the tree's text -/
def Exx (CF : Addr) (cls : Addr → Prop) (H : Hp) (v : V) (t : M6.Xt) : Prop := ∃ e : Told, v = .ref e.at_ ∧ Arg CF cls H e ∧ e.text = un t.text ∧ 2 * e.labels.length ≤ t.text.length + 1
def ItX (CF : Addr) (cls : Addr → Prop) (H : Hp) (v : V) : M6.It → Prop
  | .tx p => v = .str (un p)
  | .ex t => Exx CF cls H v t
theorem Exx.same {H H' : Hp} {v : V} {t : M6.Xt} (h : Exx CF cls H v t) (s : Same H H') : Exx CF cls H' v t := by
  obtain ⟨e, h1, h2, h3⟩ := h
  exact ⟨e, h1, h2.same s, h3⟩
theorem ItX.same {H H' : Hp} {v : V} : ∀ {i : M6.It}, ItX CF cls H v i → Same H H' → ItX CF cls H' v i
  | .tx _, h, _ => h
  | .ex _, h, s => Exx.same h s
theorem Exx.sm {H H' : Hp} {v : V} {t : M6.Xt} (h : Exx CF cls H v t) (s : Sm H H') : Exx CF cls H' v t := by
  obtain ⟨e, h1, h2, h3⟩ := h
  exact ⟨e, h1, ⟨XpAt.sm h2.stands s, h2.few, h2.short⟩, h3⟩
theorem ItX.sm {H H' : Hp} {v : V} : ∀ {i : M6.It}, ItX CF cls H v i → Sm H H' → ItX CF cls H' v i
  | .tx _, h, _ => h
  | .ex _, h, s => Exx.sm h s
end
/-! what a piece looks like -/
/-- a word, a word that opens, a comma, something behind a quote, or one sign -/
inductive PieceS : List Nat → Prop
  | word {w : List Nat} : w ≠ [] → w.all letterB = true → PieceS w
  | opens {w : List Nat} : w ≠ [] → w.all letterB = true → PieceS (w ++ [40])
  | comma : PieceS [44, 32]
  | quote {q : List Nat} : q.length ≤ 2 → PieceS (39 :: q)
  | one {c : Nat} : letterB c = false → PieceS [c]
theorem piece_shape {l : List Nat} (h : l ≠ []) : PieceS (pieceC l) := by
  unfold pieceC
  split
  · rename_i e
    split
    · exact absurd rfl h
    · rename_i r
      have : (39 :: r).take 3 = 39 :: r.take 2 := rfl
      rw [this]
      exact .quote (by rw [List.length_take]; exact Nat.min_le_left _ _)
    · exact .comma
    · rename_i c r _ _
      refine .one ?_
      rw [List.takeWhile_cons] at e
      cases hc : letterB c with
      | false => rfl
      | true => rw [hc] at e; cases e
  · rename_i e
    have a := M6.tw_all l
    split
    · exact .opens e a
    · exact .word e a
theorem pieces_shape : ∀ (n : Nat) (l : List Nat), l.length ≤ n → ∀ p ∈ pieces l, PieceS p
  | 0, l, h, p, hp => by
    have : l = [] := List.length_eq_zero_iff.mp (by omega)
    subst this
    rw [pieces_nil] at hp
    cases hp
  | n + 1, l, h, p, hp => by
    by_cases e : l = []
    · subst e
      rw [pieces_nil] at hp
      cases hp
    · rw [pieces_step e] at hp
      rcases List.mem_cons.mp hp with rfl | hp
      · exact piece_shape e
      · exact pieces_shape n _ (by rw [List.length_drop]; have := (piece_len l).2 e; omega) p hp
end Wp

/-! k06: ahead_of, of any item -/
namespace Wp
open PySem PySem.Spec PyProof.Rows L2 Hx
def figs : Str := "0123456789"
structure Reads (mg : Str → Option Value) : Prop where
  figures : ∃ t, mg "FIGURES" = some (.str figs t)
  tuple : mg "tuple" = none
  any : mg "any" = none
theorem fig_in : ∀ n : Nat, n ≤ 9 → (!(Builtin.Str.occurrences figs (toString (n : Int) : Str) 0 figs.length 1).isEmpty) = true ∧ PySem.intText? (toString (n : Int) : Str) = some (n : Int) ∧ (toString (n : Int) : Str).length ≤ 640 := by decide +kernel
theorem fig_inI {i : Int} (h0 : 0 ≤ i) (h9 : i ≤ 9) : (!(Builtin.Str.occurrences figs (toString i : Str) 0 figs.length 1).isEmpty) = true ∧ PySem.intText? (toString i : Str) = some i ∧ (toString i : Str).length ≤ 640 := by
  have := fig_in i.toNat (by omega)
  rw [Int.toNat_of_nonneg h0] at this
  exact this
theorem figs_low : ∀ c ∈ figs.cps.toList, letterB c = false := by decide +kernel
theorem figs_mem : ∀ c, c ∈ figs.cps.toList → 48 ≤ c ∧ c ≤ 57 := by
  intro c h
  have e : figs.cps.toList = [48, 49, 50, 51, 52, 53, 54, 55, 56, 57] := by decide +kernel
  rw [e] at h
  simp only [List.mem_cons, List.not_mem_nil, or_false] at h
  omega
/-- what is no part of the figures -/
theorem not_fig {x : Str} {c : Nat} (h : c ∈ ch x) (n : ¬ (48 ≤ c ∧ c ≤ 57)) : (!(Builtin.Str.occurrences figs x 0 figs.length 1).isEmpty) = false := by
  rw [Bool.eq_false_iff]
  intro z
  obtain ⟨i, _, h'⟩ := (PySem.StrLaws.found_iff figs x).mp z
  rw [PySem.StrLaws.subAt_eq] at h'
  have e : (figs.cps.toList.drop i).take x.length = ch x := by simpa using h'
  rw [← e] at h
  exact n (figs_mem c (List.mem_of_mem_drop (List.mem_of_mem_take h)))
theorem letter_no {c : Nat} (h : letterB c = true) : ¬ (48 ≤ c ∧ c ≤ 57) := by
  have := of_decide_eq_true h
  omega
/-- a piece that is one figure, or none -/
theorem piece_fig {p : List Nat} (h : PieceS p) : (∃ n : Nat, n ≤ 9 ∧ M6.dig (.tx p) = some n ∧ un p = (toString (n : Int) : Str)) ∨ (M6.dig (.tx p) = none ∧ (!(Builtin.Str.occurrences figs (un p) 0 figs.length 1).isEmpty) = false) := by
  have out : ∀ {c : Nat}, c ∈ p → ¬ (48 ≤ c ∧ c ≤ 57) → (!(Builtin.Str.occurrences figs (un p) 0 figs.length 1).isEmpty) = false := fun hc hn => not_fig (by rw [ch_un]; exact hc) hn
  have dn : (∀ c, p = [c] → ¬ (48 ≤ c ∧ c ≤ 57)) → M6.dig (.tx p) = none := fun h => by
    match p, h with
    | [c], h => exact if_neg (h c rfl)
    | [], _ => rfl
    | _ :: _ :: _, _ => rfl
  have all : ∀ {c : Nat}, c ∈ p → ¬ (48 ≤ c ∧ c ≤ 57) → M6.dig (.tx p) = none ∧ (!(Builtin.Str.occurrences figs (un p) 0 figs.length 1).isEmpty) = false := fun {c} hc hn => ⟨dn fun d e => by
    rw [e] at hc
    rw [← List.mem_singleton.mp hc]
    exact hn, out hc hn⟩
  cases h with
  | word n a =>
    cases p with
    | nil => exact absurd rfl n
    | cons c w =>
      rw [List.all_cons, Bool.and_eq_true] at a
      exact .inr (all (c := c) (by simp) (letter_no a.1))
  | opens n a => exact .inr (all (c := 40) (by simp) (by omega))
  | comma => exact .inr (all (c := 44) (by simp) (by omega))
  | quote q => exact .inr (all (c := 39) (by simp) (by omega))
  | @one c hc =>
    by_cases g : 48 ≤ c ∧ c ≤ 57
    · refine .inl ⟨c - 48, by omega, if_pos g, ?_⟩
      have e := fig_chI (i := ((c - 48 : Nat) : Int)) (by omega) (by omega)
      have e2 : (((c - 48 : Nat) : Int)).toNat = c - 48 := Int.toNat_natCast _
      rw [e2] at e
      have e3 : 48 + (c - 48) = c := by omega
      rw [e3] at e
      rw [← e]
      exact un_ch _
    · exact .inr (all (c := c) (by simp) g)
def figV (p : List Nat) : V := match M6.dig (.tx p) with | some n => .int (n : Nat) | none => .str (un p)
section
variable {P : Program} {w : World} {K : PySem.W.Frag} {mg : Str → Option Value} {base : Heap} {f : Addr} {fd : FuncData}
def spAheadX (K : PySem.W.Frag) : Sp := fun vs H Q _ => ∃ v, vs = [v] ∧ ((∃ p, v = .str (un p) ∧ PieceS p ∧ Q (figV p) H) ∨ (NotStr K H v ∧ Q v H))
theorem scAhead : FnScope ["piece"] ["piece"] (defScope s_ahead_of) := ⟨rfl, rfl, rfl, by decide +kernel, rfl, by decide +kernel, by decide +kernel⟩
theorem ok_ahead (F : Fun K "ahead_of" "ahead_of" s_ahead_of f fd) (Z : Bltn mg) (R : Reads mg) : FnOk P w K mg base CX0 1 f fd ["piece"] (spAheadX K) := by
  refine F.ok scAhead (fun vs H Q E h => ?_) (fun cdv A outer s H vs Q E hr h => ?_)
  · obtain ⟨x, rfl, _⟩ := h
    rfl
  obtain ⟨v, rfl, h⟩ := h
  obtain ⟨tf, mf⟩ := R.figures
  refine ⟨_, pss_cons (ps_if (PW.pt (pw_and (pt_val (pe_callB call_isi (by rfl) Z.isinstance PyProof.Rows.boot_isinstance (pa_cons (pv 0) (pa_cons (pe_bty (T := "str") rfl Z.str (by decide +kernel)) pa_nil))))
      (pw_and1 (pt_cmpR op_in_str (pv 0) (pe_glob (v := .str figs) rfl mf ⟨_, rfl⟩) (by rfl))))) (pss_one (ps_ret (pe_callTy call_int_str (by rfl) Z.int (by decide +kernel) (pa_cons (pv 0) pa_nil)))) pss_nil)
    (pss_one (ps_ret (pv 0))), ?_⟩
  rcases h with ⟨p, rfl, sh, q⟩ | ⟨⟨t, ty, ki⟩, q⟩
  · refine ⟨_, rfl, _, _, .type "str", _, true, rfl, .ty "str", .base (.str _), kit_ty (by decide +kernel), _, rfl, iteT ?_⟩
    refine ⟨_, rfl, un p, figs, rfl, rfl, _, rfl, ?_⟩
    unfold figV at q
    rcases piece_fig sh with ⟨n, h9, e, eu⟩ | ⟨e, o⟩
    · rw [e] at q
      obtain ⟨e1, e2, e3⟩ := fig_inI (i := (n : Int)) (by omega) (by omega)
      rw [eu, e1]
      exact iteT ⟨_, rfl, _, _, rfl, e2, e3, q⟩
    · rw [e] at q
      rw [o]
      exact iteF ⟨_, rfl, q⟩
  · exact ⟨_, rfl, _, _, t, .type "str", false, rfl, .ty "str", ty, ki, _, rfl, iteF (iteF ⟨_, rfl, q⟩)⟩
end
end Wp

/-! k06: make, of a sign or a name -/
namespace Wp
open PySem PySem.Spec PyProof.Rows L2 Hx
def spMkLeaf (CF : Addr) (cls : Addr → Prop) (Cs Cm : Addr) : Sp := fun vs H Q E => ∃ (k : Str) (pt pi : Addr) (x : Str), vs = [.str k, .ref pt, .ref pi] ∧ H pt = some (.tup [.str x]) ∧ x.length ≤ 1000 ∧
  ((k = "sign" ∧ ((lettered 1 x = true ∧ ∀ v H' c, ch x = [c] → M6.low c = true → Same H H' → Exx CF cls H' v (.sign c) → Q v H') ∨ (lettered 1 x = false ∧ Tells E Cs (.str x) H))) ∨
   (k = "name" ∧ ((nameB x = true ∧ ∀ v H', Same H H' → Exx CF cls H' v (.name (ch x)) → Q v H') ∨ (nameB x = false ∧ Tells E Cm (.str x) H))))
section
variable {P : Program} {w : World} {K : PySem.W.Frag} {mg : Str → Option Value} {base : Heap} {f fM CF CE Cn Cs Cm Cw Ce : Addr} {fd fdM : FuncData} {kc : KCls} {cls : Addr → Prop}
theorem sign_chs {x : Str} (e : lettered 1 x = true) : ∃ c, ch x = [c] ∧ M6.low c = true := by
  obtain ⟨l1, l2, l3⟩ := ch_letters e
  match hs : ch x, l1, l2, l3 with
  | [c], l1, _, _ =>
    refine ⟨c, rfl, ?_⟩
    have := List.all_eq_true.mp l1 c (by simp)
    exact this
  | [], _, l2, _ => simp at l2
  | _ :: _ :: _, _, _, l3 => simp at l3; omega
theorem sign_text (x : Str) : ((Str.empty ++ "'") ++ x) ++ "'" = un (39 :: (ch x ++ [39])) := by
  refine str_of_ch ?_
  rw [ch_un]
  exact text_parts 2 (.sign x)
theorem scMk6 : FnScope ["kind", "told", "inner"] ["kind", "told", "inner"] (defScope s_make) := ⟨rfl, rfl, rfl, by decide +kernel, rfl, by decide +kernel, by decide +kernel⟩
theorem ok_mkLeaf (F : Fun K "make" "make" s_make f fd) (T : Ctors P w K mg base CF CE Cn Cs Cm Cw Ce kc cls) : FnOk P w K mg base (L2N.CX P w) 9 f fd ["kind", "told", "inner"] (spMkLeaf CF cls Cs Cm) := by
  refine F.okN scMk6 (fun vs H Q E h => ?_) (fun cdv A outer s H vs Q E hr h => ?_)
  · obtain ⟨k, pt, pi, x, rfl, _⟩ := h
    rfl
  obtain ⟨k, pt, pi, x, rfl, ht, few, h⟩ := h
  obtain ⟨ms, fS, dS, MS, GS, BS⟩ := T.sign
  obtain ⟨mn, fN, dN, MN, GN, BN⟩ := T.name
  have tk := L2N.takes_of (X := cxOf (L2N.CX P w) P w K mg base ["kind", "told", "inner"] "make" (defScope s_make) f cdv A outer s H E) rfl rfl rfl rfl
  have pass : Passes (L2N.CX P w) (cxOf (L2N.CX P w) P w K mg base ["kind", "told", "inner"] "make" (defScope s_make) f cdv A outer s H E) E := L2N.passes_call tk fun _ _ _ _ h => h
  refine ⟨_, pss_cons (ps_if (pt_cmpR op_eq (pv 0) pe_str (nomark _)) (pss_one (ps_ret (pe_make MS GS hr rfl ms BS .nil pass (pa_cons (pe_ix ix_tup (pv 1) pe_int (fun _ _ => rfl)) pa_nil)))) pss_nil)
    (pss_cons (ps_if (pt_cmpR op_eq (pv 0) pe_str (nomark _)) (pss_one (ps_ret (pe_make MN GN hr rfl mn BN .nil pass (pa_cons (pe_ix ix_tup (pv 1) pe_int (fun _ _ => rfl)) pa_nil)))) pss_nil)
    (pss_cons ps_never (pss_cons ps_never (pss_cons ps_never (pss_cons ps_never (pss_one ps_never)))))), ?_⟩
  rcases h with ⟨rfl, h⟩ | ⟨rfl, h⟩
  · refine ⟨_, rfl, rfl, _, rfl, ?_⟩
    rw [decide_eq_true rfl]
    refine iteT ?_
    refine ⟨_, rfl, pt, _, _, _, rfl, rfl, SqT.of ht, rfl, fun y dx hx hdx ne => ⟨y, dx, kc "sign", .str x, rfl, T.own "sign" (by simp), upd_same, ?_⟩⟩
    rcases h with ⟨e, q⟩ | ⟨e, t⟩
    · refine .inl ⟨x, rfl, few, e, fun H1 bt xp => ⟨rfl, ?_⟩⟩
      obtain ⟨c, hc, lc⟩ := sign_chs e
      have st := sign_text x
      rw [hc] at st
      have xp : XpAt CF cls H1 y (kc "sign") "sign" (((Str.empty ++ "'") ++ x) ++ "'") [.str x] [] [] 1 := xp
      rw [st] at xp
      exact q _ _ c hc lc (grown hx hdx ne bt) ⟨⟨y, kc "sign", "sign", _, _, _, _, _⟩, rfl, ⟨xp, Nat.zero_le _, by show (3 : Nat) ≤ 20000; decide⟩, rfl, Nat.zero_le _⟩
    · exact .inr ⟨.inl ⟨x, rfl, few, e⟩, t.same (born hx hdx ne)⟩
  · refine ⟨_, rfl, rfl, _, rfl, ?_⟩
    rw [str_ne (by decide +kernel)]
    refine iteF ⟨_, rfl, rfl, _, rfl, ?_⟩
    rw [decide_eq_true rfl]
    refine iteT ?_
    refine ⟨_, rfl, pt, _, _, _, rfl, rfl, SqT.of ht, rfl, fun y dx hx hdx ne => ⟨y, dx, kc "name", .str x, rfl, T.own "name" (by simp), upd_same, ?_⟩⟩
    rcases h with ⟨e, q⟩ | ⟨e, t⟩
    · refine .inl ⟨x, rfl, few, e, fun H1 bt xp => ⟨rfl, ?_⟩⟩
      have l8 := nameB_len e
      have l1 : 1 ≤ (ch x).length := (ch_word e).2.1
      exact q _ _ (grown hx hdx ne bt) ⟨⟨y, kc "name", "name", x, _, _, _, _⟩, rfl, ⟨xp, by show (1 : Nat) ≤ 200; decide, by show x.length ≤ 20000; omega⟩, (un_ch x).symm, by show 2 * 1 ≤ (ch x).length + 1; omega⟩
    · exact .inr ⟨.inl ⟨x, rfl, few, e⟩, t.same (born hx hdx ne)⟩
end
end Wp

/-! k06: knot_of, of any item -/
namespace Wp
open PySem PySem.Spec PyProof.Rows L2 Hx
/-- an error of one of the classes S, all stands -/
def Fails (S : Addr → Prop) (E : XK) (H : Hp) : Prop := ∀ C d H', S C → Same H H' → E (.ref C) d H'
theorem Fails.same {S : Addr → Prop} {E : XK} {H H' : Hp} (h : Fails S E H) (s : Same H H') : Fails S E H' := fun C d H2 c s2 => h C d H2 c (s.trans s2)
theorem Fails.tells {S : Addr → Prop} {E : XK} {H : Hp} {C : Addr} {v : V} (h : Fails S E H) (c : S C) : Tells E C v H := fun H' d s hd => h C (some d) _ c (s.trans (same_new hd _))

def spKnot (CF : Addr) (cls : Addr → Prop) (S : Addr → Prop) (f : Addr) : Sp := fun vs H Q E => ∃ (v : V) (i : M6.It), vs = [v, .ref f] ∧ ItX CF cls H v i ∧ (∀ p, i = .tx p → p ≠ [] ∧ p.length ≤ 1000) ∧
  ((∃ t, M6.leafI i = some t ∧ ∀ v H', Same H H' → Exx CF cls H' v t → Q v H') ∨ (M6.leafI i = none ∧ Fails S E H))
theorem let1 {l : List Nat} : lettered 1 (un l) = true ↔ ∃ c, l = [c] ∧ M6.low c = true := by
  constructor
  · intro e
    obtain ⟨c, h, lc⟩ := sign_chs e
    rw [ch_un] at h
    exact ⟨c, h, lc⟩
  · rintro ⟨c, rfl, lc⟩
    have : letterB c = true := lc
    show (decide _ && (decide _ && List.all [c] letterB)) = true
    rw [List.all_cons, this]
    rfl
theorem kinds_un : M6.kinds.map un = [("weave" : Str), "part", "drop", "lead", "turn"] := by decide +kernel
theorem name_is {l : List Nat} : nameB (un l) = true ↔ M6.nameP l := by
  unfold nameB M6.nameP
  rw [Bool.and_eq_true, Bool.not_eq_true', inV_str, decide_eq_false_iff_not]
  have e : un l ∈ noNames ↔ l ∈ M6.kinds := by
    rw [show noNames = M6.kinds.map un from kinds_un.symm]
    constructor
    · intro h
      obtain ⟨k, hk, e⟩ := List.mem_map.mp h
      rw [← un_inj e]
      exact hk
    · exact fun h => List.mem_map.mpr ⟨l, h, rfl⟩
  have z : (un l).length = l.length := List.size_toArray ..
  unfold lettered
  rw [e, Bool.and_eq_true, Bool.and_eq_true, decide_eq_true_eq, decide_eq_true_eq, z]
  constructor
  · rintro ⟨⟨a, b, c⟩, d⟩
    exact ⟨c, by omega, by omega, d⟩
  · rintro ⟨c, a, b, d⟩
    exact ⟨⟨by omega, by omega, c⟩, d⟩
section
variable {P : Program} {w : World} {K : PySem.W.Frag} {mg : Str → Option Value} {base : Heap} {f fM CF CE Cn Cs Cm Cw Ce : Addr} {fd fdM : FuncData} {kc : KCls} {cls : Addr → Prop}
theorem scKnot : FnScope ["piece", "make"] ["piece", "make"] (defScope s_knot_of) := ⟨rfl, rfl, rfl, by decide +kernel, rfl, by decide +kernel, by decide +kernel⟩
theorem exx_not_str {KD : PySem.W.Frag} {H : Hp} {v : V} {t : M6.Xt} (nt : ∀ (H : Hp) (C a dx : Addr) (fs : List (Str × V)), cls C → H a = some (.ins C dx fs) → NotStr KD H (.ref a)) (h : Exx CF cls H v t) : NotStr KD H v := by
  obtain ⟨e, rfl, ⟨⟨dx, fa, dfa, pm, pi, pl, c, h1, _⟩, _, _⟩, _⟩ := h
  exact nt _ _ _ _ _ c h1
theorem ch_mid (x : Str) : ch (cutS x (some 1) (some (-1))) = (ch x).tail.dropLast := by
  show ((x.cps.toList.drop (HT.sIx x.length 0 (some 1))).take (HT.sIx x.length x.length (some (-1)) - HT.sIx x.length 0 (some 1))).toArray.toList = _
  have lx := len_ch2 x
  have e1 : HT.sIx x.length 0 (some 1) = min 1 x.length := HT.sIx_nat x.length 0 1
  have e2 : HT.sIx x.length x.length (some (-1)) = x.length - 1 := by
    show (if (-1 : Int) < 0 then ((-1 : Int) + (x.length : Int)).toNat else min (-1 : Int).toNat x.length) = _
    rw [if_pos (by decide)]
    omega
  rw [e1, e2, List.toList_toArray]
  show ((ch x).drop (min 1 x.length)).take (x.length - 1 - min 1 x.length) = _
  rw [← lx]
  cases hl : ch x with
  | nil => rfl
  | cons c r =>
    have m1 : min 1 (c :: r).length = 1 := by simp
    rw [m1]
    show r.take ((c :: r).length - 1 - 1) = r.dropLast
    rw [List.dropLast_eq_take]
    rfl
theorem atI_first {l : List Nat} {x : Nat} (h : l.head? = some x) : atI (un l).cps.toList 0 = some x := by
  rw [show (un l).cps.toList = l from ch_un l]
  exact atI_nat (j := 0) (by rw [← h]; cases l <;> rfl)
theorem atI_end {l : List Nat} {x : Nat} (h : l.getLast? = some x) : atI (un l).cps.toList (-1) = some x := by
  rw [show (un l).cps.toList = l from ch_un l]
  have n : 0 < l.length := by
    cases l with
    | nil => cases h
    | cons => simp
  unfold atI ixN
  rw [if_neg (by omega), if_pos (by omega)]
  show l[((-1 : Int) + (l.length : Int)).toNat]? = _
  rw [show ((-1 : Int) + (l.length : Int)).toNat = l.length - 1 by omega, ← h, List.getLast?_eq_getElem?]
theorem ok_knot (F : Fun K "knot_of" "knot_of" s_knot_of f fd) (Z : Bltn mg) (nt : ∀ (H : Hp) (C a dx : Addr) (fs : List (Str × V)), cls C → H a = some (.ins C dx fs) → NotStr K H (.ref a)) {S : Addr → Prop} (sS : S Cs) (sM : S Cm)
    (GM : FnOk P w K mg base (L2N.CX P w) 9 fM fdM ["kind", "told", "inner"] (spMkLeaf CF cls Cs Cm)) (bM : Binds K fdM ["kind", "told", "inner"] []) (kM : PySem.W.keepIn K (.ref fM) = true) :
    FnOk P w K mg base (L2N.CX P w) 10 f fd ["piece", "make"] (spKnot CF cls S fM) := by
  refine F.okN scKnot (fun vs H Q E h => ?_) (fun cdv A outer s H vs Q E hr h => ?_)
  · obtain ⟨v, i, rfl, _⟩ := h
    rfl
  obtain ⟨v, i, rfl, hi, hp, h⟩ := h
  have tk := L2N.takes_of (X := cxOf (L2N.CX P w) P w K mg base ["piece", "make"] "knot_of" (defScope s_knot_of) f cdv A outer s H E) rfl rfl rfl rfl
  have pass : Passes (L2N.CX P w) (cxOf (L2N.CX P w) P w K mg base ["piece", "make"] "knot_of" (defScope s_knot_of) f cdv A outer s H E) E := L2N.passes_call tk fun _ _ _ _ h => h
  refine ⟨_, pss_cons (ps_if (pt_not (pt_val (pe_callB call_isi (by rfl) Z.isinstance PyProof.Rows.boot_isinstance (pa_cons (pv 0) (pa_cons (pe_bty (T := "str") rfl Z.str (by decide +kernel)) pa_nil))))) (pss_one (ps_ret (pv 0))) pss_nil)
    (pss_cons (ps_if (PW.pt (pw_and (pt_cmpR op_eq (pe_ix ix_str (pv 0) pe_int (fun _ _ => rfl)) pe_str (nomark _)) (pw_and1 (pt_cmpR op_eq (pe_ix ix_str (pv 0) (pe_un un_neg pe_int) (fun _ _ => rfl)) pe_str (nomark _)))))
      (pss_one (ps_ret (pe_callL (i := 1) GM hr rfl (.inl rfl) kM bM .nil pass (pa_cons pe_str (pa_cons (pe_tup (pa_cons (pe_slice sl_str (pv 0) (po_some pe_int) (po_some (pe_un un_neg pe_int))) pa_nil)) (pa_cons (pe_tup pa_nil) pa_nil)))))) pss_nil)
    (pss_one (ps_ret (pe_callL (i := 1) GM hr rfl (.inl rfl) kM bM .nil pass (pa_cons pe_str (pa_cons (pe_tup (pa_cons (pv 0) pa_nil)) (pa_cons (pe_tup pa_nil) pa_nil))))))), ?_⟩
  have alt : (∃ t : M6.Xt, Exx CF cls H v t ∧ Q v H) ∨ ∃ p : List Nat, p ≠ [] ∧ p.length ≤ 1000 ∧ v = .str (un p) ∧
      (if p.head? = some 39 ∧ p.getLast? = some 39 then (lettered 1 (un p.tail.dropLast) = true ∧ ∀ v H' c, ch (un p.tail.dropLast) = [c] → M6.low c = true → Same H H' → Exx CF cls H' v (.sign c) → Q v H') ∨ (lettered 1 (un p.tail.dropLast) = false ∧ Fails S E H)
        else (nameB (un p) = true ∧ ∀ v H', Same H H' → Exx CF cls H' v (.name (ch (un p))) → Q v H') ∨ (nameB (un p) = false ∧ Fails S E H)) := by
    cases i with
    | ex t =>
      rcases h with ⟨u, e, q⟩ | ⟨e, _⟩
      · cases e
        exact .inl ⟨t, hi, q v H (Same.refl H) hi⟩
      · cases e
    | tx p =>
      obtain ⟨n, few⟩ := hp p rfl
      refine .inr ⟨p, n, few, hi, ?_⟩
      by_cases d : p.head? = some 39 ∧ p.getLast? = some 39
      · rw [if_pos d]
        have lf : M6.leafI (.tx p) = (match p.tail.dropLast with | [c] => if M6.low c = true then some (.sign c) else none | _ => none) := if_pos d
        by_cases g : lettered 1 (un p.tail.dropLast) = true
        · refine .inl ⟨g, ?_⟩
          obtain ⟨c, ec, lc⟩ := let1.mp g
          rw [ec] at lf
          have lf : M6.leafI (.tx p) = some (.sign c) := lf.trans (if_pos lc)
          rcases h with ⟨u, e, q⟩ | ⟨e, _⟩
          · rw [lf] at e
            cases e
            intro v' H' c' hc' _ s x
            rw [ch_un, ec] at hc'
            cases hc'
            exact q v' H' s x
          · rw [lf] at e
            cases e
        · rw [Bool.not_eq_true] at g
          refine .inr ⟨g, ?_⟩
          rcases h with ⟨u, e, q⟩ | ⟨_, fl⟩
          · rw [lf] at e
            split at e
            · rename_i c ec
              split at e
              · rename_i lc
                have := let1.mpr ⟨c, ec, lc⟩
                rw [g] at this
                cases this
              · cases e
            · cases e
          · exact fl
      · rw [if_neg d]
        have lf : M6.leafI (.tx p) = (if M6.nameP p then some (.name p) else none) := if_neg d
        by_cases g : nameB (un p) = true
        · refine .inl ⟨g, ?_⟩
          have lf := lf.trans (if_pos (name_is.mp g))
          rcases h with ⟨u, e, q⟩ | ⟨e, _⟩
          · rw [lf] at e
            cases e
            rw [ch_un]
            exact q
          · rw [lf] at e
            cases e
        · have lf := lf.trans (if_neg fun z => g (name_is.mpr z))
          rw [Bool.not_eq_true] at g
          refine .inr ⟨g, ?_⟩
          rcases h with ⟨u, e, q⟩ | ⟨_, fl⟩
          · rw [lf] at e
            cases e
          · exact fl
  rcases alt with ⟨t, ex, q⟩ | ⟨p, n, few, rfl, h⟩
  · obtain ⟨t', ty, k1⟩ := exx_not_str nt ex
    exact ⟨_, rfl, _, _, t', _, false, rfl, .ty "str", ty, k1, _, rfl, iteT ⟨_, rfl, q⟩⟩
  have small : (un p).length ≤ sizeLine := by
    show (un p).cps.size ≤ sizeLine
    rw [show (un p).cps.size = p.length from List.size_toArray ..]
    exact small_line few
  obtain ⟨c0, h0⟩ : ∃ c, p.head? = some c := by
    cases p with
    | nil => exact absurd rfl n
    | cons c r => exact ⟨c, rfl⟩
  obtain ⟨c1, h1⟩ : ∃ c, p.getLast? = some c := by
    cases e : p.getLast? with
    | none => exact absurd (List.getLast?_eq_none_iff.mp e) n
    | some c => exact ⟨c, rfl⟩
  refine ⟨_, rfl, _, _, .type "str", _, true, rfl, .ty "str", .base (.str _), kit_ty (by decide +kernel), _, rfl, iteF ?_⟩
  have sg : ∀ c : Nat, decide (V.str (⟨#[c]⟩ : Str) = V.str "'") = decide (c = 39) := fun c => by
    rw [show (⟨#[c]⟩ : Str) = un [c] from rfl, un_eq, show ch ("'" : Str) = [39] by decide +kernel]
    by_cases z : c = 39
    · rw [z]
      rfl
    · rw [decide_eq_false z, decide_eq_false (fun y => z (List.head_eq_of_cons_eq y))]
  refine next_go (and_if (p1 := decide (c0 = 39)) (p2 := decide (c1 = 39)) (fun Q' hq => ?_) (fun Q' hq => ?_) (fun e0 e1 => ?_) (fun c => ?_))
  · refine ⟨_, rfl, un p, _, c0, rfl, rfl, small, atI_first h0, rfl, _, rfl, ?_⟩
    rw [sg]
    exact hq
  · refine ⟨_, rfl, _, rfl, un p, _, c1, rfl, rfl, small, atI_end h1, rfl, _, rfl, ?_⟩
    rw [sg]
    exact hq
  · rw [if_pos ⟨by rw [h0, of_decide_eq_true e0], by rw [h1, of_decide_eq_true e1]⟩] at h
    have em : cutS (un p) (some 1) (some (-1)) = un p.tail.dropLast := str_of_ch (by rw [ch_mid, ch_un, ch_un])
    refine ⟨rfl, _, rfl, _, rfl, _, rfl, _, rfl, un p, rfl, small, ?_⟩
    rw [em]
    refine ⟨(by show 1 ≤ sizeLine; decide), fun pt hpt => ⟨(by show 0 ≤ sizeLine; decide), fun pi hpi => ?_⟩⟩
    have s2 := (same_new hpt (.tup [V.str (un p.tail.dropLast)])).trans (same_new hpi (.tup []))
    refine ⟨"sign", pt, pi, un p.tail.dropLast, rfl, upd_other upd_same hpi, ?_, .inl ⟨rfl, ?_⟩⟩
    · show (un _).cps.size ≤ 1000
      rw [show (un p.tail.dropLast).cps.size = p.tail.dropLast.length from List.size_toArray .., List.length_dropLast, List.length_tail]
      omega
    rcases h with ⟨e, q⟩ | ⟨e, fl⟩
    · exact .inl ⟨e, fun v' H' c hc lc s3 => q v' H' c hc lc (s2.trans s3)⟩
    · exact .inr ⟨e, (fl.same s2).tells sS⟩
  · rw [if_neg] at h
    · refine ⟨rfl, _, rfl, (by show 1 ≤ sizeLine; decide), fun pt hpt => ⟨(by show 0 ≤ sizeLine; decide), fun pi hpi => ?_⟩⟩
      have s2 := (same_new hpt (.tup [V.str (un p)])).trans (same_new hpi (.tup []))
      refine ⟨"name", pt, pi, un p, rfl, upd_other upd_same hpi, ?_, .inr ⟨rfl, ?_⟩⟩
      · show (un _).cps.size ≤ 1000
        rw [show (un p).cps.size = p.length from List.size_toArray ..]
        exact few
      rcases h with ⟨e, q⟩ | ⟨e, fl⟩
      · exact .inl ⟨e, fun v' H' s3 => q v' H' (s2.trans s3)⟩
      · exact .inr ⟨e, (fl.same s2).tells sM⟩
    · rintro ⟨z0, z1⟩
      rw [h0] at z0
      rw [h1] at z1
      rw [decide_eq_true (Option.some.inj z0), decide_eq_true (Option.some.inj z1)] at c
      cases c
end
end Wp

/-! k06: a call's expression on the heap, out of its parts -/
namespace Wp
open PySem PySem.Spec PyProof.Rows L2 Hx
section
variable {CF : Addr} {cls : Addr → Prop}
theorem flat_sum : ∀ es : List Told, (es.flatMap (·.labels)).length = (es.map fun e => e.labels.length).sum
  | [] => rfl
  | e :: es => by rw [List.flatMap_cons, List.length_append, flat_sum es, List.map_cons, List.sum_cons]
theorem exx_of {H : Hp} {a C : Addr} {kind text : Str} {told : List V} {es : List Told} {ls : List Str} {size : Int} {t : M6.Xt} (xp : XpAt CF cls H a C kind text told (es.map fun e => .ref e.at_) ls size) (pm : ls.Perm ((namesOf kind told es).foldl Hs.put []))
    (hk : kind ≠ "name") (et : text = un t.text) (fit : 2 * (es.map fun e => e.labels.length).sum ≤ t.text.length + 1) (short : t.text.length ≤ 400) : Exx CF cls H (.ref a) t := by
  have ml := Hs.puts_len (namesOf kind told es) []
  have e1 : namesOf kind told es = es.flatMap (·.labels) := by
    unfold namesOf
    rw [if_neg hk]
  have pl := pm.length_eq
  rw [e1, flat_sum] at ml
  rw [e1] at pl
  rw [List.length_nil] at ml
  have few : 2 * ls.length ≤ t.text.length + 1 := by omega
  subst et
  exact ⟨⟨a, C, kind, _, told, _, ls, size⟩, rfl, ⟨xp, by show ls.length ≤ 200; omega, by show (un t.text).cps.size ≤ 20000; rw [show (un t.text).cps.size = t.text.length from List.size_toArray ..]; omega⟩, rfl, few⟩
end
theorem ch_joinC : ∀ ys : List Str, ch (Str.join ", " ys) = M6.joinC (ys.map ch)
  | [] => rfl
  | [a] => rfl
  | a :: b :: r => by
    rw [ch_join2, ch_joinC (b :: r)]
    rfl
theorem spell_un (k : Str) (ys : List Str) : spell k ys = un (M6.call (ch k) (ys.map ch)) := by
  refine str_of_ch ?_
  rw [ch_un]
  unfold spell M6.call
  rw [← ch_joinC]
  show (((Str.empty ++ k) ++ "(") ++ Str.join ", " ys ++ ")").cps.toList = _
  rw [cps_app, cps_app, cps_app, empty_app]
  show ch k ++ ch ("(" : Str) ++ ch (Str.join ", " ys) ++ ch (")" : Str) = _
  rw [show ch ("(" : Str) = [40] by decide +kernel, show ch (")" : Str) = [41] by decide +kernel]
  simp
theorem kinds_ch : ch ("weave" : Str) = M6.kWeave ∧ ch ("part" : Str) = M6.kPart ∧ ch ("drop" : Str) = M6.kDrop ∧ ch ("lead" : Str) = M6.kLead ∧ ch ("turn" : Str) = M6.kTurn := by decide +kernel
theorem fig_un {j : Nat} (h : j ≤ 9) : ch (toString (j : Int) : Str) = [48 + j] := by
  have := fig_chI (i := (j : Int)) (by omega) (by omega)
  rwa [Int.toNat_natCast] at this
theorem text_turn (w : List Nat) (t : M6.Xt) : spell "turn" [un w, un t.text] = un (M6.Xt.turn w t).text := by
  rw [spell_un, kinds_ch.2.2.2.2]
  show un (M6.call _ [ch (un w), ch (un t.text)]) = _
  rw [ch_un, ch_un]
  rfl
theorem text_lead (t u : M6.Xt) : spell "lead" [un t.text, un u.text] = un (M6.Xt.lead t u).text := by
  rw [spell_un, kinds_ch.2.2.2.1]
  show un (M6.call _ [ch (un t.text), ch (un u.text)]) = _
  rw [ch_un, ch_un]
  rfl
theorem text_drop {c : Nat} (h : c ≤ 9) (t : M6.Xt) : spell "drop" [toString (c : Int), un t.text] = un (M6.Xt.drop c t).text := by
  rw [spell_un, kinds_ch.2.2.1]
  show un (M6.call _ [ch (toString (c : Int) : Str), ch (un t.text)]) = _
  rw [ch_un, fig_un h]
  rfl
theorem text_part {j b : Nat} (hj : j ≤ 9) (hb : b ≤ 9) (t : M6.Xt) : spell "part" [toString (j : Int), toString (b : Int), un t.text] = un (M6.Xt.part j b t).text := by
  rw [spell_un, kinds_ch.2.1]
  show un (M6.call _ [ch (toString (j : Int) : Str), ch (toString (b : Int) : Str), ch (un t.text)]) = _
  rw [ch_un, fig_un hj, fig_un hb]
  rfl
theorem text_weave (ts : List M6.Xt) : spell "weave" (ts.map fun t => un t.text) = un (M6.call M6.kWeave (ts.map (·.text))) := by
  rw [spell_un, kinds_ch.1, List.map_map]
  congr 2
end Wp

/-! k06: make, of the five calls -/
namespace M6
def aheadN (w : List Nat) : Nat := if w = kPart then 2 else if w = kDrop ∨ w = kTurn then 1 else 0
def behindN (w : List Nat) : Nat := if w = kLead then 2 else 1
def makeW : List Xt → Option Xt
  | [a, b] => some (.w2 a b) | [a, b, c] => some (.w3 a b c) | [a, b, c, d] => some (.w4 a b c d) | _ => none
/-- what the classes make of what is told and of inner ones -/
def makeT (w : List Nat) (is : List It) (ts : List Xt) : Option Xt :=
  if w = kWeave then makeW ts
  else if w = kPart then (match is, ts with | [j, b], [t] => (dig j).bind fun j => (dig b).bind fun b => if j ≤ 3 ∧ max 2 (j + 1) ≤ b ∧ b ≤ 4 then some (.part j b t) else none | _, _ => none)
  else if w = kDrop then (match is, ts with | [c], [t] => (dig c).bind fun c => if 1 ≤ c ∧ c ≤ 9 then some (.drop c t) else none | _, _ => none)
  else if w = kLead then (match ts with | [t, u] => some (.lead t u) | _ => none)
  else (match is, ts with | [v], [t] => (wordI v).bind fun v => some (.turn v t) | _, _ => none)
theorem kinds_ne : kWeave ≠ kPart ∧ kWeave ≠ kDrop ∧ kWeave ≠ kLead ∧ kWeave ≠ kTurn ∧ kPart ≠ kDrop ∧ kPart ≠ kLead ∧ kPart ≠ kTurn ∧ kDrop ≠ kLead ∧ kDrop ≠ kTurn ∧ kLead ≠ kTurn := by decide
end M6
namespace Wp
open PySem PySem.Spec PyProof.Rows L2 Hx
/-- what ahead_of tells of an item -/
def AhX (CF : Addr) (cls : Addr → Prop) (H : Hp) (u : V) : M6.It → Prop
  | .tx p => u = figV p ∧ PieceS p ∧ p.length ≤ 1000
  | .ex t => Exx CF cls H u t
def spMkC (CF : Addr) (cls : Addr → Prop) (S : Addr → Prop) : Sp := fun vs H Q E => ∃ (k : Str) (wd : List Nat) (pt pi : Addr) (us ws : List V) (is : List M6.It) (ts : List M6.Xt),
  vs = [.str k, .ref pt, .ref pi] ∧ k = un wd ∧ wd ∈ M6.kinds ∧ H pt = some (.tup us) ∧ H pi = some (.tup ws) ∧ Paired (AhX CF cls H) us is ∧ Paired (Exx CF cls H) ws ts ∧ is.length = M6.aheadN wd ∧ (wd ≠ M6.kWeave → ts.length = M6.behindN wd) ∧ ts.length ≤ 400 ∧
  (M6.call wd (is.map M6.It.text ++ ts.map M6.Xt.text)).length ≤ 400 ∧
  ((∃ t, M6.makeT wd is ts = some t ∧ ∀ v H', Same H H' → Exx CF cls H' v t → Q v H') ∨ (M6.makeT wd is ts = none ∧ Fails S E H))
section
variable {P : Program} {w : World} {K : PySem.W.Frag} {mg : Str → Option Value} {base : Heap} {f fM CF CE Cn Cs Cm Cw Ce : Addr} {fd fdM : FuncData} {kc : KCls} {cls : Addr → Prop}
theorem AhX.same {H H' : Hp} {u : V} : ∀ {i : M6.It}, AhX CF cls H u i → Same H H' → AhX CF cls H' u i
  | .tx _, h, _ => h
  | .ex _, h, s => Exx.same h s
theorem exx_not_int {KD : PySem.W.Frag} {H : Hp} {v : V} {t : M6.Xt} (ni : ∀ (H : Hp) (C a dx : Addr) (fs : List (Str × V)), cls C → H a = some (.ins C dx fs) → NotInt KD H (.ref a)) (h : Exx CF cls H v t) : NotInt KD H v := by
  obtain ⟨e, rfl, ⟨⟨dx, fa, dfa, pm, pi, pl, c, h1, _⟩, _, _⟩, _⟩ := h
  exact ni _ _ _ _ _ c h1
theorem str_not_int {KD : PySem.W.Frag} {H : Hp} {x : Str} : NotInt KD H (.str x) := ⟨.type "str", false, false, .base (.str x), kit_ty (by decide +kernel), kit_ty (by decide +kernel), rfl⟩
theorem int_not_str {KD : PySem.W.Frag} {H : Hp} {i : Int} : NotStr KD H (.int i) := ⟨.type "int", .base (.int i), kit_ty (by decide +kernel)⟩
/-- what is told as a number: a figure, or none -/
theorem ah_num {KD : PySem.W.Frag} {H : Hp} {u : V} {i : M6.It} (ni : ∀ (H : Hp) (C a dx : Addr) (fs : List (Str × V)), cls C → H a = some (.ins C dx fs) → NotInt KD H (.ref a)) (h : AhX CF cls H u i) :
    (∃ n : Nat, n ≤ 9 ∧ M6.dig i = some n ∧ u = .int (n : Nat)) ∨ (M6.dig i = none ∧ NotInt KD H u) := by
  cases i with
  | ex t => exact .inr ⟨rfl, exx_not_int ni h⟩
  | tx p =>
    obtain ⟨rfl, sh, _⟩ := h
    unfold figV
    rcases piece_fig sh with ⟨n, h9, e, _⟩ | ⟨e, _⟩
    · rw [e]
      exact .inl ⟨n, h9, rfl, rfl⟩
    · rw [e]
      exact .inr ⟨rfl, str_not_int⟩
theorem let4 {l : List Nat} : lettered 4 (un l) = true ↔ l.all M6.low = true ∧ 1 ≤ l.length ∧ l.length ≤ 4 := by
  have z : (un l).length = l.length := List.size_toArray ..
  unfold lettered
  rw [Bool.and_eq_true, Bool.and_eq_true, decide_eq_true_eq, decide_eq_true_eq, z]
  constructor
  · rintro ⟨a, b, c⟩
    exact ⟨c, by omega, by omega⟩
  · rintro ⟨c, a, b⟩
    exact ⟨by omega, by omega, c⟩
/-- what is told as a word -/
theorem ah_word {KD : PySem.W.Frag} {H : Hp} {u : V} {i : M6.It} (nt : ∀ (H : Hp) (C a dx : Addr) (fs : List (Str × V)), cls C → H a = some (.ins C dx fs) → NotStr KD H (.ref a)) (h : AhX CF cls H u i) :
    (∃ l : List Nat, M6.wordI i = some l ∧ i.text = l ∧ u = .str (un l) ∧ (un l).length ≤ 1000 ∧ lettered 4 (un l) = true) ∨ (M6.wordI i = none ∧ ((∃ x : Str, u = .str x ∧ x.length ≤ 1000 ∧ lettered 4 x = false) ∨ NotStr KD H u)) := by
  cases i with
  | ex t => exact .inr ⟨rfl, .inr (exx_not_str nt h)⟩
  | tx p =>
    obtain ⟨rfl, sh, few⟩ := h
    have z : (un p).length = p.length := List.size_toArray ..
    unfold figV
    rcases piece_fig sh with ⟨n, h9, e, _⟩ | ⟨e, _⟩
    · rw [e]
      refine .inr ⟨?_, .inr int_not_str⟩
      refine if_neg fun q => ?_
      match p, e, q with
      | [c], e, q =>
        have e : (if 48 ≤ c ∧ c ≤ 57 then some (c - 48) else none) = some n := e
        have hl : M6.low c = true := by
          have := q.1
          rw [List.all_cons, Bool.and_eq_true] at this
          exact this.1
        have hl := of_decide_eq_true (show decide (97 ≤ c ∧ c ≤ 122) = true from hl)
        rw [if_neg (by omega)] at e
        cases e
      | [], e, _ => cases e
      | _ :: _ :: _, e, _ => cases e
    · rw [e]
      by_cases q : p.all M6.low = true ∧ 1 ≤ p.length ∧ p.length ≤ 4
      · exact .inl ⟨p, if_pos q, rfl, rfl, by omega, let4.mpr q⟩
      · refine .inr ⟨if_neg q, .inl ⟨un p, rfl, by omega, ?_⟩⟩
        rw [Bool.eq_false_iff]
        exact fun z => q (let4.mp z)
/-- inner expressions, as the classes take them -/
theorem args_of {H : Hp} : ∀ {ws : List V} {ts : List M6.Xt}, Paired (Exx CF cls H) ws ts → ∃ es : List Told, ws = es.map (fun e => V.ref e.at_) ∧ (∀ e ∈ es, Arg CF cls H e) ∧ es.map (·.text) = ts.map (fun t => un t.text) ∧ es.length = ts.length ∧
    2 * (es.map fun e => e.labels.length).sum ≤ (ts.map fun t => t.text.length + 1).sum
  | _, _, .nil => ⟨[], rfl, (fun e he => nomatch he), rfl, rfl, Nat.le_refl _⟩
  | _, _, .cons ⟨e, rfl, a, tx, fit⟩ r => by
    obtain ⟨es, rfl, h1, h2, h3, h4⟩ := args_of r
    refine ⟨e :: es, rfl, fun x hx => ?_, by rw [List.map_cons, List.map_cons, h2, tx], by rw [List.length_cons, List.length_cons, h3], ?_⟩
    · rcases List.mem_cons.mp hx with rfl | hx
      · exact a
      · exact h1 x hx
    · rw [List.map_cons, List.sum_cons, List.map_cons, List.sum_cons]
      omega
theorem call_len {k : List Nat} {xs : List (List Nat)} : (M6.call k xs).length = k.length + 2 + (M6.joinC xs).length := by
  unfold M6.call
  simp only [List.length_append, List.length_cons, List.length_nil]
  omega
theorem ws_len {H : Hp} {ws : List V} {ts : List M6.Xt} (h : Paired (Exx CF cls H) ws ts) : ws.length = ts.length := h.length
end
end Wp

/-! k06: make, of the five calls: the def -/
namespace Wp
open PySem PySem.Spec PyProof.Rows L2 Hx
section
variable {P : Program} {w : World} {K : PySem.W.Frag} {mg : Str → Option Value} {base : Heap} {f fM CF CE Cn Cs Cm Cw Ce : Addr} {fd fdM : FuncData} {kc : KCls} {cls : Addr → Prop}
theorem un_kinds : un M6.kWeave = ("weave" : Str) ∧ un M6.kPart = ("part" : Str) ∧ un M6.kDrop = ("drop" : Str) ∧ un M6.kLead = ("lead" : Str) ∧ un M6.kTurn = ("turn" : Str) := by decide +kernel
theorem ni_same {K : PySem.W.Frag} {H H' : Hp} {v : V} (h : NotInt K H v) (s : Same H H') : NotInt K H' v := let ⟨t, x, y, a, b⟩ := h; ⟨t, x, y, TyX.same a s, b⟩
theorem nt_same {K : PySem.W.Frag} {H H' : Hp} {v : V} (h : NotStr K H v) (s : Same H H') : NotStr K H' v := let ⟨t, a, b⟩ := h; ⟨t, TyX.same a s, b⟩
theorem made_go {H : Hp} {x dx C : Addr} {kind text : Str} {told : List V} {es : List Told} {t : M6.Xt} {Q : VK} (hx : H x = none) (hdx : H dx = none) (ne : dx ≠ x) (hk : kind ≠ "name") (et : text = un t.text)
    (fit : 2 * (es.map fun e => e.labels.length).sum ≤ t.text.length + 1) (short : t.text.length ≤ 400) (q : ∀ v H', Same H H' → Exx CF cls H' v t → Q v H') :
    Made CF cls (upd (upd H dx (.own x)) x (.ins C dx [])) x C kind text told es fun v H2 => v = .non ∧ Q (.ref x) H2 := fun H2 ls bt xp pm srt =>
  ⟨rfl, q _ _ (grown hx hdx ne bt) (exx_of xp pm hk et fit short)⟩
theorem weave_bad {H : Hp} {x dx : Addr} {ws : List V} {Q : VK} {E : XK} (hx : H x = none) (hdx : H dx = none) (ne : dx ≠ x) (own : cls (kc "weave")) (few : ws.length ≤ 400) (bad : ¬ (2 ≤ ws.length ∧ ws.length ≤ 4)) (t : Tells E Cn (.int (ws.length : Nat)) H) :
    spWeave K CF CE Cn Ce cls (.ref x :: ws) (upd (upd H dx (.own x)) x (.ins (kc "weave") dx [])) Q E := by
  refine ⟨[.ref x], ws, rfl, rfl, small_line (by omega), fun p hp => ?_⟩
  have g := born (C := kc "weave") hx hdx ne
  exact ⟨x, dx, kc "weave", p, ws, rfl, own, upd_other upd_same hp, upd_same, .inr (.inl ⟨bad, t.same (g.trans (same_new hp _))⟩)⟩
theorem weave_good {H : Hp} {x dx : Addr} {ws : List V} {ts : List M6.Xt} {t : M6.Xt} {Q : VK} {E : XK} (hx : H x = none) (hdx : H dx = none) (ne : dx ≠ x) (own : cls (kc "weave")) (hw : Paired (Exx CF cls H) ws ts) (n2 : 2 ≤ ts.length) (n4 : ts.length ≤ 4)
    (et : t.text = M6.call M6.kWeave (ts.map (·.text))) (fit : (ts.map fun t => t.text.length + 1).sum ≤ t.text.length + 1) (short : t.text.length ≤ 400) (q : ∀ v H', Same H H' → Exx CF cls H' v t → Q v H') :
    spWeave K CF CE Cn Ce cls (.ref x :: ws) (upd (upd H dx (.own x)) x (.ins (kc "weave") dx [])) (fun v H2 => v = .non ∧ Q (.ref x) H2) E := by
  obtain ⟨es, rfl, h1, h2, h3, h4⟩ := args_of hw
  refine ⟨[.ref x], es.map (fun e => V.ref e.at_), rfl, rfl, by rw [List.length_map]; exact small_line (by omega), fun p hp => ?_⟩
  have g := born (C := kc "weave") hx hdx ne
  refine ⟨x, dx, kc "weave", p, _, rfl, own, upd_other upd_same hp, upd_same, .inl ⟨es, rfl, by omega, by omega, fun e he => (h1 e he).same (g.trans (same_new hp _)), fun H2 ls bt xp pm srt => ⟨rfl, ?_⟩⟩⟩
  have s2 : Same H H2 := fun c o hc => bt c o (ne_of_none hc hx) ((g.trans (same_new hp _)) c o hc)
  refine q _ _ s2 (exx_of xp pm (by decide +kernel) ?_ (by omega) short)
  rw [h2, text_weave, et]
theorem ok_mkC (F : Fun K "make" "make" s_make f fd) (T : Ctors P w K mg base CF CE Cn Cs Cm Cw Ce kc cls) {S : Addr → Prop} (sN : S Cn) (sW : S Cw)
    (nt : ∀ (H : Hp) (C a dx : Addr) (fs : List (Str × V)), cls C → H a = some (.ins C dx fs) → NotStr K H (.ref a)) (ni : ∀ (H : Hp) (C a dx : Addr) (fs : List (Str × V)), cls C → H a = some (.ins C dx fs) → NotInt K H (.ref a)) :
    FnOk P w K mg base (L2N.CX P w) 9 f fd ["kind", "told", "inner"] (spMkC CF cls S) := by
  refine F.okN scMk6 (fun vs H Q E h => ?_) (fun cdv A outer s H vs Q E hr h => ?_)
  · obtain ⟨k, wd, pt, pi, us, ws, is, ts, rfl, _⟩ := h
    rfl
  obtain ⟨k, wd, pt, pi, us, ws, is, ts, rfl, hk, hwd, ht, hi, hu, hw, nis, nts, few, short, h⟩ := h
  obtain ⟨ms, fS, dS, MS, GS, BS⟩ := T.sign
  obtain ⟨mn, fN, dN, MN, GN, BN⟩ := T.name
  obtain ⟨mw, fW, MW, GW⟩ := T.weave
  obtain ⟨mp, fP, dP, MP, GP, BP⟩ := T.part
  obtain ⟨md, fD, dD, MD, GD, BD⟩ := T.drop
  obtain ⟨ml, fL, dL, ML, GL, BL⟩ := T.lead
  obtain ⟨mt, fT, dT, MT, GT, BT⟩ := T.turn
  have tk := L2N.takes_of (X := cxOf (L2N.CX P w) P w K mg base ["kind", "told", "inner"] "make" (defScope s_make) f cdv A outer s H E) rfl rfl rfl rfl
  have pass : Passes (L2N.CX P w) (cxOf (L2N.CX P w) P w K mg base ["kind", "told", "inner"] "make" (defScope s_make) f cdv A outer s H E) E := L2N.passes_call tk fun _ _ _ _ h => h
  refine ⟨_, pss_cons (ps_if (pt_cmpR op_eq (pv 0) pe_str (nomark _)) (pss_one ps_never) pss_nil)
    (pss_cons (ps_if (pt_cmpR op_eq (pv 0) pe_str (nomark _)) (pss_one ps_never) pss_nil)
    (pss_cons (ps_if (pt_cmpR op_eq (pv 0) pe_str (nomark _)) (pss_one (ps_ret (pe_makeS MW GW hr rfl mw pass (pv 2)))) pss_nil)
    (pss_cons (ps_if (pt_cmpR op_eq (pv 0) pe_str (nomark _)) (pss_one (ps_ret (pe_make MP GP hr rfl mp BP .nil pass (pa_cons (pe_ix ix_tup (pv 1) pe_int (fun _ _ => rfl)) (pa_cons (pe_ix ix_tup (pv 1) pe_int (fun _ _ => rfl)) (pa_cons (pe_ix ix_tup (pv 2) pe_int (fun _ _ => rfl)) pa_nil)))))) pss_nil)
    (pss_cons (ps_if (pt_cmpR op_eq (pv 0) pe_str (nomark _)) (pss_one (ps_ret (pe_make MD GD hr rfl md BD .nil pass (pa_cons (pe_ix ix_tup (pv 1) pe_int (fun _ _ => rfl)) (pa_cons (pe_ix ix_tup (pv 2) pe_int (fun _ _ => rfl)) pa_nil))))) pss_nil)
    (pss_cons (ps_if (pt_cmpR op_eq (pv 0) pe_str (nomark _)) (pss_one (ps_ret (pe_make ML GL hr rfl ml BL .nil pass (pa_cons (pe_ix ix_tup (pv 2) pe_int (fun _ _ => rfl)) (pa_cons (pe_ix ix_tup (pv 2) pe_int (fun _ _ => rfl)) pa_nil))))) pss_nil)
    (pss_one (ps_ret (pe_make MT GT hr rfl mt BT .nil pass (pa_cons (pe_ix ix_tup (pv 1) pe_int (fun _ _ => rfl)) (pa_cons (pe_ix ix_tup (pv 2) pe_int (fun _ _ => rfl)) pa_nil)))))))))), ?_⟩
  have wk : wd = M6.kWeave ∨ wd = M6.kPart ∨ wd = M6.kDrop ∨ wd = M6.kLead ∨ wd = M6.kTurn := by simpa [M6.kinds] using hwd
  obtain ⟨z1, z2, z3, z4, z5, z6, z7, z8, z9, z10⟩ := M6.kinds_ne
  obtain ⟨u1, u2, u3, u4, u5⟩ := un_kinds
  have no : ∀ {a b : Str}, a ≠ b → (decide (V.str a = V.str b)) = false := fun n => str_ne n
  rcases wk with rfl | rfl | rfl | rfl | rfl
  · rw [u1] at hk
    subst hk
    (refine ⟨_, rfl, rfl, _, rfl, ?_⟩; rw [str_ne (by decide +kernel)]; refine iteF ?_)
    (refine ⟨_, rfl, rfl, _, rfl, ?_⟩; rw [str_ne (by decide +kernel)]; refine iteF ?_)
    refine ⟨_, rfl, rfl, _, rfl, ?_⟩
    rw [decide_eq_true rfl]
    refine iteT ?_
    have is0 : is = [] := List.length_eq_zero_iff.mp (by rw [nis]; rfl)
    subst is0
    rw [List.map_nil, List.nil_append] at short
    have mk : M6.makeT M6.kWeave [] ts = M6.makeW ts := if_pos rfl
    rw [mk] at h
    have lw := hw.length
    refine ⟨_, rfl, pi, ws, rfl, .inl (SqT.of hi), fun x dx hx hdx ne => ?_⟩
    have ow := T.own "weave" (by simp)
    have bad : ∀ n : Nat, ts.length = n → ¬ (2 ≤ n ∧ n ≤ 4) → M6.makeW ts = none → spWeave K CF CE Cn Ce cls (.ref x :: ws) (upd (upd H dx (.own x)) x (.ins (kc "weave") dx [])) (fun v H2 => v = .non ∧ Q (.ref x) H2) E := fun n e1 e2 e3 => by
      rcases h with ⟨t, e, _⟩ | ⟨_, fl⟩
      · rw [e3] at e
        cases e
      · exact weave_bad hx hdx ne ow (by omega) (by omega) (fl.tells sN)
    have good : ∀ t : M6.Xt, M6.makeW ts = some t → 2 ≤ ts.length → ts.length ≤ 4 → t.text = M6.call M6.kWeave (ts.map (·.text)) → (ts.map fun t => t.text.length + 1).sum ≤ t.text.length + 1 →
        spWeave K CF CE Cn Ce cls (.ref x :: ws) (upd (upd H dx (.own x)) x (.ins (kc "weave") dx [])) (fun v H2 => v = .non ∧ Q (.ref x) H2) E := fun _ e1 e2 e3 e4 e5 => by
      rcases h with ⟨t, e, q⟩ | ⟨e, _⟩
      · rw [e1] at e
        cases e
        exact weave_good hx hdx ne ow hw e2 e3 e4 e5 (by rw [e4]; exact short) q
      · rw [e1] at e
        cases e
    match ts, bad, good with
    | [], bad, _ => exact bad (0) rfl (by omega) rfl
    | [_], bad, _ => exact bad (1) rfl (by omega) rfl
    | [a, b], _, good => exact good _ rfl (by show 2 ≤ 2; decide) (by show 2 ≤ 4; decide) rfl (by
        show _ ≤ (M6.call M6.kWeave [a.text, b.text]).length + 1
        rw [call_len]
        simp only [List.map_cons, List.map_nil, List.sum_cons, List.sum_nil, M6.joinC, List.length_append, List.length_cons]
        omega)
    | [a, b, c], _, good => exact good _ rfl (by show 2 ≤ 3; decide) (by show 3 ≤ 4; decide) rfl (by
        show _ ≤ (M6.call M6.kWeave [a.text, b.text, c.text]).length + 1
        rw [call_len]
        simp only [List.map_cons, List.map_nil, List.sum_cons, List.sum_nil, M6.joinC, List.length_append, List.length_cons]
        omega)
    | [a, b, c, d], _, good => exact good _ rfl (by show 2 ≤ 4; decide) (by show 4 ≤ 4; decide) rfl (by
        show _ ≤ (M6.call M6.kWeave [a.text, b.text, c.text, d.text]).length + 1
        rw [call_len]
        simp only [List.map_cons, List.map_nil, List.sum_cons, List.sum_nil, M6.joinC, List.length_append, List.length_cons]
        omega)
    | a :: b :: c :: d :: e :: r, bad, _ => exact bad (r.length + 5) rfl (by omega) rfl
  · rw [u2] at hk
    subst hk
    (refine ⟨_, rfl, rfl, _, rfl, ?_⟩; rw [str_ne (by decide +kernel)]; refine iteF ?_)
    (refine ⟨_, rfl, rfl, _, rfl, ?_⟩; rw [str_ne (by decide +kernel)]; refine iteF ?_)
    (refine ⟨_, rfl, rfl, _, rfl, ?_⟩; rw [str_ne (by decide +kernel)]; refine iteF ?_)
    refine ⟨_, rfl, rfl, _, rfl, ?_⟩
    rw [decide_eq_true rfl]
    refine iteT ?_
    have nis : is.length = 2 := nis.trans (if_pos rfl)
    have nts : ts.length = 1 := (nts (Ne.symm z1)).trans (if_neg z6)
    match is, ts, nis, nts, hu, hw with
    | [i, j], [t], _, _, .cons a1 (.cons a2 .nil), .cons b1 .nil =>
      have mk : M6.makeT M6.kPart [i, j] [t] = (M6.dig i).bind fun j1 => (M6.dig j).bind fun b => if j1 ≤ 3 ∧ max 2 (j1 + 1) ≤ b ∧ b ≤ 4 then some (.part j1 b t) else none := (if_neg (Ne.symm z1)).trans (if_pos rfl)
      rw [mk] at h
      refine ⟨_, rfl, pt, _, _, _, rfl, rfl, SqT.of ht, rfl, _, rfl, pt, _, _, _, rfl, rfl, SqT.of ht, rfl, _, rfl, pi, _, _, _, rfl, rfl, SqT.of hi, rfl, fun x dx hx hdx ne => ?_⟩
      obtain ⟨e, rfl, ea, et, ef⟩ := b1
      have g := born (C := kc "part") hx hdx ne
      refine ⟨x, dx, kc "part", _, _, _, rfl, T.own "part" (by simp), upd_same, ?_⟩
      rcases ah_num ni a1 with ⟨n, n9, en, rfl⟩ | ⟨en, no1⟩
      · rw [en] at h
        by_cases n3 : n ≤ 3
        · rcases ah_num ni a2 with ⟨m, m9, em, rfl⟩ | ⟨em, no2⟩
          · rw [em] at h
            have lj : lo (n : Int) = ((max 2 (n + 1) : Nat) : Int) := by
              unfold lo
              split <;> omega
            have h : (∃ u, (if n ≤ 3 ∧ max 2 (n + 1) ≤ m ∧ m ≤ 4 then some (M6.Xt.part n m t) else none) = some u ∧ ∀ v H', Same H H' → Exx CF cls H' v u → Q v H') ∨ ((if n ≤ 3 ∧ max 2 (n + 1) ≤ m ∧ m ≤ 4 then some (M6.Xt.part n m t) else none) = none ∧ Fails S E H) := h
            by_cases hm : max 2 (n + 1) ≤ m ∧ m ≤ 4
            · rw [if_pos ⟨n3, hm⟩] at h
              rcases h with ⟨u, eu, q⟩ | ⟨eu, _⟩
              · cases eu
                refine .inl ⟨n, m, e, rfl, by omega, by omega, rfl, by rw [lj]; omega, by omega, rfl, ea.same g, made_go hx hdx ne (by decide +kernel) ?_ ?_ ?_ q⟩
                · rw [et]
                  exact text_part (by omega) (by omega) t
                · show 2 * ([e].map fun e => e.labels.length).sum ≤ (M6.call M6.kPart [[48 + n], [48 + m], t.text]).length + 1
                  rw [call_len]
                  simp only [List.map_cons, List.map_nil, List.sum_cons, List.sum_nil, M6.joinC, List.length_append, List.length_cons]
                  omega
                · have := (M6.dig_text en).2
                  have e2 := (M6.dig_text em).2
                  rw [show ([i, j].map M6.It.text ++ [t].map M6.Xt.text) = [i.text, j.text, t.text] from rfl, this, e2] at short
                  exact short
              · cases eu
            · rw [if_neg (fun z => hm z.2)] at h
              rcases h with ⟨u, eu, _⟩ | ⟨_, fl⟩
              · cases eu
              · exact .inr (.inr (.inl ⟨n, rfl, by omega, by omega, .inl ⟨m, rfl, by rw [lj]; omega⟩, (fl.same g).tells sN⟩))
          · rw [em] at h
            rcases h with ⟨u, eu, _⟩ | ⟨_, fl⟩
            · cases eu
            · exact .inr (.inr (.inl ⟨n, rfl, by omega, by omega, .inr (ni_same no2 g), (fl.same g).tells sN⟩))
        · have fl : Fails S E H := by
            rcases h with ⟨u, eu, _⟩ | ⟨_, fl⟩
            · obtain ⟨b0, eb0, eb⟩ := M6.bind_some eu
              cases eb0
              obtain ⟨b, _, eb⟩ := M6.bind_some eb
              rw [if_neg (fun z => n3 z.1)] at eb
              cases eb
            · exact fl
          exact .inr (.inl ⟨.inl ⟨n, rfl, by omega⟩, (fl.same g).tells sN⟩)
      · rw [en] at h
        rcases h with ⟨u, eu, _⟩ | ⟨_, fl⟩
        · cases eu
        · exact .inr (.inl ⟨.inr (ni_same no1 g), (fl.same g).tells sN⟩)
  · rw [u3] at hk
    subst hk
    (refine ⟨_, rfl, rfl, _, rfl, ?_⟩; rw [str_ne (by decide +kernel)]; refine iteF ?_)
    (refine ⟨_, rfl, rfl, _, rfl, ?_⟩; rw [str_ne (by decide +kernel)]; refine iteF ?_)
    (refine ⟨_, rfl, rfl, _, rfl, ?_⟩; rw [str_ne (by decide +kernel)]; refine iteF ?_)
    (refine ⟨_, rfl, rfl, _, rfl, ?_⟩; rw [str_ne (by decide +kernel)]; refine iteF ?_)
    refine ⟨_, rfl, rfl, _, rfl, ?_⟩
    rw [decide_eq_true rfl]
    refine iteT ?_
    have nis : is.length = 1 := nis.trans ((if_neg (Ne.symm z5)).trans (if_pos (.inl rfl)))
    have nts : ts.length = 1 := (nts (Ne.symm z2)).trans (if_neg z8)
    match is, ts, nis, nts, hu, hw with
    | [i], [t], _, _, .cons a1 .nil, .cons b1 .nil =>
      have mk : M6.makeT M6.kDrop [i] [t] = (M6.dig i).bind fun c => if 1 ≤ c ∧ c ≤ 9 then some (.drop c t) else none := (if_neg (Ne.symm z2)).trans ((if_neg (Ne.symm z5)).trans (if_pos rfl))
      rw [mk] at h
      refine ⟨_, rfl, pt, _, _, _, rfl, rfl, SqT.of ht, rfl, _, rfl, pi, _, _, _, rfl, rfl, SqT.of hi, rfl, fun x dx hx hdx ne => ?_⟩
      obtain ⟨e, rfl, ea, et, ef⟩ := b1
      have g := born (C := kc "drop") hx hdx ne
      refine ⟨x, dx, kc "drop", _, _, rfl, T.own "drop" (by simp), upd_same, ?_⟩
      rcases ah_num ni a1 with ⟨n, n9, en, rfl⟩ | ⟨en, no1⟩
      · rw [en] at h
        have h : (∃ u, (if 1 ≤ n ∧ n ≤ 9 then some (M6.Xt.drop n t) else none) = some u ∧ ∀ v H', Same H H' → Exx CF cls H' v u → Q v H') ∨ ((if 1 ≤ n ∧ n ≤ 9 then some (M6.Xt.drop n t) else none) = none ∧ Fails S E H) := h
        by_cases hm : 1 ≤ n ∧ n ≤ 9
        · rw [if_pos hm] at h
          rcases h with ⟨u, eu, q⟩ | ⟨eu, _⟩
          · cases eu
            refine .inl ⟨n, e, rfl, by omega, by omega, rfl, ea.same g, made_go hx hdx ne (by decide +kernel) ?_ ?_ ?_ q⟩
            · rw [et]
              exact text_drop n9 t
            · show 2 * ([e].map fun e => e.labels.length).sum ≤ (M6.call M6.kDrop [[48 + n], t.text]).length + 1
              rw [call_len]
              simp only [List.map_cons, List.map_nil, List.sum_cons, List.sum_nil, M6.joinC, List.length_append, List.length_cons]
              omega
            · have := (M6.dig_text en).2
              rw [show ([i].map M6.It.text ++ [t].map M6.Xt.text) = [i.text, t.text] from rfl, this] at short
              exact short
          · cases eu
        · rw [if_neg hm] at h
          rcases h with ⟨u, eu, _⟩ | ⟨_, fl⟩
          · cases eu
          · exact .inr (.inl ⟨.inl ⟨n, rfl, by omega⟩, (fl.same g).tells sN⟩)
      · rw [en] at h
        rcases h with ⟨u, eu, _⟩ | ⟨_, fl⟩
        · cases eu
        · exact .inr (.inl ⟨.inr (ni_same no1 g), (fl.same g).tells sN⟩)
  · rw [u4] at hk
    subst hk
    (refine ⟨_, rfl, rfl, _, rfl, ?_⟩; rw [str_ne (by decide +kernel)]; refine iteF ?_)
    (refine ⟨_, rfl, rfl, _, rfl, ?_⟩; rw [str_ne (by decide +kernel)]; refine iteF ?_)
    (refine ⟨_, rfl, rfl, _, rfl, ?_⟩; rw [str_ne (by decide +kernel)]; refine iteF ?_)
    (refine ⟨_, rfl, rfl, _, rfl, ?_⟩; rw [str_ne (by decide +kernel)]; refine iteF ?_)
    (refine ⟨_, rfl, rfl, _, rfl, ?_⟩; rw [str_ne (by decide +kernel)]; refine iteF ?_)
    refine ⟨_, rfl, rfl, _, rfl, ?_⟩
    rw [decide_eq_true rfl]
    refine iteT ?_
    have nis : is.length = 0 := nis.trans ((if_neg (Ne.symm z6)).trans (if_neg (fun z => z.elim (fun z => z8 z.symm) z10)))
    have nts : ts.length = 2 := (nts (Ne.symm z3)).trans (if_pos rfl)
    have is0 : is = [] := List.length_eq_zero_iff.mp nis
    subst is0
    match ts, nts, hw with
    | [t, t2], _, .cons b1 (.cons b2 .nil) =>
      have mk : M6.makeT M6.kLead [] [t, t2] = some (.lead t t2) := (if_neg (Ne.symm z3)).trans ((if_neg (Ne.symm z6)).trans ((if_neg (Ne.symm z8)).trans (if_pos rfl)))
      rw [mk] at h
      refine ⟨_, rfl, pi, _, _, _, rfl, rfl, SqT.of hi, rfl, _, rfl, pi, _, _, _, rfl, rfl, SqT.of hi, rfl, fun x dx hx hdx ne => ?_⟩
      obtain ⟨e, rfl, ea, et, ef⟩ := b1
      obtain ⟨e2, rfl, ea2, et2, ef2⟩ := b2
      have g := born (C := kc "lead") hx hdx ne
      refine ⟨x, dx, kc "lead", _, _, rfl, T.own "lead" (by simp), upd_same, ?_⟩
      rcases h with ⟨u, eu, q⟩ | ⟨eu, _⟩
      · cases eu
        refine .inl ⟨e, e2, rfl, rfl, ea.same g, ea2.same g, made_go hx hdx ne (by decide +kernel) ?_ ?_ ?_ q⟩
        · rw [et, et2]
          exact text_lead t t2
        · show 2 * ([e, e2].map fun e => e.labels.length).sum ≤ (M6.call M6.kLead [t.text, t2.text]).length + 1
          rw [call_len]
          simp only [List.map_cons, List.map_nil, List.sum_cons, List.sum_nil, M6.joinC, List.length_append, List.length_cons]
          omega
        · exact short
      · cases eu
  · rw [u5] at hk
    subst hk
    (refine ⟨_, rfl, rfl, _, rfl, ?_⟩; rw [str_ne (by decide +kernel)]; refine iteF ?_)
    (refine ⟨_, rfl, rfl, _, rfl, ?_⟩; rw [str_ne (by decide +kernel)]; refine iteF ?_)
    (refine ⟨_, rfl, rfl, _, rfl, ?_⟩; rw [str_ne (by decide +kernel)]; refine iteF ?_)
    (refine ⟨_, rfl, rfl, _, rfl, ?_⟩; rw [str_ne (by decide +kernel)]; refine iteF ?_)
    (refine ⟨_, rfl, rfl, _, rfl, ?_⟩; rw [str_ne (by decide +kernel)]; refine iteF ?_)
    (refine ⟨_, rfl, rfl, _, rfl, ?_⟩; rw [str_ne (by decide +kernel)]; refine iteF ?_)
    have nis : is.length = 1 := nis.trans ((if_neg (Ne.symm z7)).trans (if_pos (.inr rfl)))
    have nts : ts.length = 1 := (nts (Ne.symm z4)).trans (if_neg (Ne.symm z10))
    match is, ts, nis, nts, hu, hw with
    | [i], [t], _, _, .cons a1 .nil, .cons b1 .nil =>
      have mk : M6.makeT M6.kTurn [i] [t] = (M6.wordI i).bind fun v => some (.turn v t) := (if_neg (Ne.symm z4)).trans ((if_neg (Ne.symm z7)).trans ((if_neg (Ne.symm z9)).trans (if_neg (Ne.symm z10))))
      rw [mk] at h
      refine ⟨_, rfl, pt, _, _, _, rfl, rfl, SqT.of ht, rfl, _, rfl, pi, _, _, _, rfl, rfl, SqT.of hi, rfl, fun x dx hx hdx ne => ?_⟩
      obtain ⟨e, rfl, ea, et, ef⟩ := b1
      have g := born (C := kc "turn") hx hdx ne
      refine ⟨x, dx, kc "turn", _, _, rfl, T.own "turn" (by simp), upd_same, ?_⟩
      rcases ah_word nt a1 with ⟨l, el, etx, rfl, l1000, l4⟩ | ⟨en, bad⟩
      · rw [el] at h
        rcases h with ⟨u, eu, q⟩ | ⟨eu, _⟩
        · cases eu
          refine .inl ⟨un l, e, rfl, l1000, l4, rfl, ea.same g, made_go hx hdx ne (by decide +kernel) ?_ ?_ ?_ q⟩
          · rw [et]
            exact text_turn l t
          · show 2 * ([e].map fun e => e.labels.length).sum ≤ (M6.call M6.kTurn [l, t.text]).length + 1
            rw [call_len]
            simp only [List.map_cons, List.map_nil, List.sum_cons, List.sum_nil, M6.joinC, List.length_append, List.length_cons]
            omega
          · rw [show ([i].map M6.It.text ++ [t].map M6.Xt.text) = [i.text, t.text] from rfl, etx] at short
            exact short
        · cases eu
      · rw [en] at h
        rcases h with ⟨u, eu, _⟩ | ⟨_, fl⟩
        · cases eu
        · exact .inr (.inl ⟨bad.imp id fun z => nt_same z g, (fl.same g).tells sW⟩)
end
end Wp

/-! k06: what is closed, told by what is ahead and what is inner -/
namespace M6
def leafsI : List It → Option (List Xt)
  | [] => some []
  | i :: r => (leafI i).bind fun t => (leafsI r).bind fun ts => some (t :: ts)
theorem bind_none {α β : Type} (x : Option α) : (x.bind fun _ => (none : Option β)) = none := by cases x <;> rfl
theorem make_split {w : List Nat} {is js : List It} (hw : w ∈ kinds) (n : is.length = aheadN w) : makeI w (is ++ js) = (leafsI js).bind fun ts => makeT w is ts := by
  have wk : w = kWeave ∨ w = kPart ∨ w = kDrop ∨ w = kLead ∨ w = kTurn := by simpa [kinds] using hw
  obtain ⟨z1, z2, z3, z4, z5, z6, z7, z8, z9, z10⟩ := kinds_ne
  rcases wk with rfl | rfl | rfl | rfl | rfl
  · have is0 : is = [] := List.length_eq_zero_iff.mp (by rw [n]; rfl)
    subst is0
    have e : ∀ ts, makeT kWeave [] ts = makeW ts := fun ts => if_pos rfl
    have e2 : (fun ts => makeT kWeave [] ts) = makeW := funext e
    rw [e2]
    unfold makeI
    rw [if_pos rfl]
    match js with
    | [] => rfl
    | [a] => simp only [leafsI]; dsimp only [List.nil_append, List.cons_append]; cases leafI a <;> rfl
    | [a, b] => simp only [leafsI]; dsimp only [List.nil_append, List.cons_append]; cases leafI a <;> cases leafI b <;> rfl
    | [a, b, c] => simp only [leafsI]; dsimp only [List.nil_append, List.cons_append]; cases leafI a <;> cases leafI b <;> cases leafI c <;> rfl
    | [a, b, c, d] => simp only [leafsI]; dsimp only [List.nil_append, List.cons_append]; cases leafI a <;> cases leafI b <;> cases leafI c <;> cases leafI d <;> rfl
    | a :: b :: c :: d :: e :: r => simp only [leafsI]; dsimp only [List.nil_append, List.cons_append]; cases leafI a <;> cases leafI b <;> cases leafI c <;> cases leafI d <;> cases leafI e <;> cases leafsI r <;> rfl
  · have n : is.length = 2 := n.trans (if_pos rfl)
    match is, n with
    | [i, j], _ =>
      have e : ∀ ts, makeT kPart [i, j] ts = (match ts with | [t] => (dig i).bind fun j1 => (dig j).bind fun b => if j1 ≤ 3 ∧ max 2 (j1 + 1) ≤ b ∧ b ≤ 4 then some (.part j1 b t) else none | _ => none) := fun ts => by
        unfold makeT
        rw [if_neg (Ne.symm z1), if_pos rfl]
        match ts with
        | [] => rfl
        | [_] => rfl
        | _ :: _ :: _ => rfl
      rw [funext e]
      unfold makeI
      rw [if_neg (Ne.symm z1), if_pos rfl]
      match js with
      | [] => rfl
      | [a] => simp only [leafsI]; dsimp only [List.nil_append, List.cons_append]; cases dig i <;> cases dig j <;> cases leafI a <;> rfl
      | a :: b :: r => simp only [leafsI]; dsimp only [List.nil_append, List.cons_append]; cases leafI a <;> cases leafI b <;> cases leafsI r <;> rfl
  · have n : is.length = 1 := n.trans ((if_neg (Ne.symm z5)).trans (if_pos (.inl rfl)))
    match is, n with
    | [i], _ =>
      have e : ∀ ts, makeT kDrop [i] ts = (match ts with | [t] => (dig i).bind fun c => if 1 ≤ c ∧ c ≤ 9 then some (.drop c t) else none | _ => none) := fun ts => by
        unfold makeT
        rw [if_neg (Ne.symm z2), if_neg (Ne.symm z5), if_pos rfl]
        match ts with
        | [] => rfl
        | [_] => rfl
        | _ :: _ :: _ => rfl
      rw [funext e]
      unfold makeI
      rw [if_neg (Ne.symm z2), if_neg (Ne.symm z5), if_pos rfl]
      match js with
      | [] => rfl
      | [a] => simp only [leafsI]; dsimp only [List.nil_append, List.cons_append]; cases dig i <;> cases leafI a <;> rfl
      | a :: b :: r => simp only [leafsI]; dsimp only [List.nil_append, List.cons_append]; cases leafI a <;> cases leafI b <;> cases leafsI r <;> rfl
  · have n : is.length = 0 := n.trans ((if_neg (Ne.symm z6)).trans (if_neg (fun z => z.elim (fun z => z8 z.symm) z10)))
    have is0 : is = [] := List.length_eq_zero_iff.mp n
    subst is0
    have e : ∀ ts, makeT kLead [] ts = (match ts with | [t, u] => some (.lead t u) | _ => none) := fun ts => by
      unfold makeT
      rw [if_neg (Ne.symm z3), if_neg (Ne.symm z6), if_neg (Ne.symm z8), if_pos rfl]
      try rfl
    rw [funext e]
    unfold makeI
    rw [if_neg (Ne.symm z3), if_neg (Ne.symm z6), if_neg (Ne.symm z8), if_pos rfl]
    match js with
    | [] => rfl
    | [a] => simp only [leafsI]; dsimp only [List.nil_append, List.cons_append]; cases leafI a <;> rfl
    | [a, b] => simp only [leafsI]; dsimp only [List.nil_append, List.cons_append]; cases leafI a <;> cases leafI b <;> rfl
    | a :: b :: c :: r => simp only [leafsI]; dsimp only [List.nil_append, List.cons_append]; cases leafI a <;> cases leafI b <;> cases leafI c <;> cases leafsI r <;> rfl
  · have n : is.length = 1 := n.trans ((if_neg (Ne.symm z7)).trans (if_pos (.inr rfl)))
    match is, n with
    | [i], _ =>
      have e : ∀ ts, makeT kTurn [i] ts = (match ts with | [t] => (wordI i).bind fun v => some (.turn v t) | _ => none) := fun ts => by
        unfold makeT
        rw [if_neg (Ne.symm z4), if_neg (Ne.symm z7), if_neg (Ne.symm z9), if_neg (Ne.symm z10)]
        match ts with
        | [] => rfl
        | [_] => rfl
        | _ :: _ :: _ => rfl
      rw [funext e]
      unfold makeI
      rw [if_neg (Ne.symm z4), if_neg (Ne.symm z7), if_neg (Ne.symm z9), if_neg (Ne.symm z10)]
      match js with
      | [] => rfl
      | [a] => simp only [leafsI]; dsimp only [List.nil_append, List.cons_append]; cases wordI i <;> cases leafI a <;> rfl
      | a :: b :: r => simp only [leafsI]; dsimp only [List.nil_append, List.cons_append]; cases leafI a <;> cases leafI b <;> cases leafsI r <;> rfl
/-- too few stand ahead -/
theorem make_short {w : List Nat} {ps : List It} (hw : w ∈ kinds) (n : ps.length < aheadN w) : makeI w ps = none := by
  have wk : w = kWeave ∨ w = kPart ∨ w = kDrop ∨ w = kLead ∨ w = kTurn := by simpa [kinds] using hw
  obtain ⟨z1, z2, z3, z4, z5, z6, z7, z8, z9, z10⟩ := kinds_ne
  rcases wk with rfl | rfl | rfl | rfl | rfl
  · exact absurd n (Nat.not_lt_zero _)
  · have n : ps.length < 2 := n
    unfold makeI
    rw [if_neg (Ne.symm z1), if_pos rfl]
    match ps, n with
    | [], _ => rfl
    | [_], _ => rfl
  · have n : ps.length < 1 := n
    unfold makeI
    rw [if_neg (Ne.symm z2), if_neg (Ne.symm z5), if_pos rfl]
    match ps, n with
    | [], _ => rfl
  · exact absurd n (Nat.not_lt_zero _)
  · have n : ps.length < 1 := n
    unfold makeI
    rw [if_neg (Ne.symm z4), if_neg (Ne.symm z7), if_neg (Ne.symm z9), if_neg (Ne.symm z10)]
    match ps, n with
    | [], _ => rfl
/-- too few or too many stand within -/
theorem make_many {w : List Nat} {is : List It} {ts : List Xt} (hw : w ∈ kinds) (nw : w ≠ kWeave) (n : ts.length ≠ behindN w) : makeT w is ts = none := by
  have wk : w = kWeave ∨ w = kPart ∨ w = kDrop ∨ w = kLead ∨ w = kTurn := by simpa [kinds] using hw
  obtain ⟨z1, z2, z3, z4, z5, z6, z7, z8, z9, z10⟩ := kinds_ne
  unfold makeT
  rw [if_neg nw]
  rcases wk with rfl | rfl | rfl | rfl | rfl
  · exact absurd rfl nw
  · have n : ts.length ≠ 1 := n
    rw [if_pos rfl]
    match ts, n with
    | [], _ => split <;> first | rfl | (rename_i h; cases h)
    | _ :: _ :: _, _ => split <;> first | rfl | (rename_i h; cases h)
  · have n : ts.length ≠ 1 := n
    rw [if_neg (Ne.symm z5), if_pos rfl]
    match ts, n with
    | [], _ => split <;> first | rfl | (rename_i h; cases h)
    | _ :: _ :: _, _ => split <;> first | rfl | (rename_i h; cases h)
  · have n : ts.length ≠ 2 := n
    rw [if_neg (Ne.symm z6), if_neg (Ne.symm z8), if_pos rfl]
    match ts, n with
    | [], _ => rfl
    | [_], _ => rfl
    | _ :: _ :: _ :: _, _ => rfl
  · have n : ts.length ≠ 1 := n
    rw [if_neg (Ne.symm z7), if_neg (Ne.symm z9), if_neg (Ne.symm z10)]
    match ts, n with
    | [], _ => split <;> first | rfl | (rename_i h; cases h)
    | _ :: _ :: _, _ => split <;> first | rfl | (rename_i h; cases h)
theorem leafs_len : ∀ {js : List It} {ts : List Xt}, leafsI js = some ts → ts.length = js.length
  | [], ts, h => by cases h; rfl
  | i :: r, ts, h => by
    obtain ⟨t, _, h⟩ := bind_some h
    obtain ⟨us, h2, h⟩ := bind_some h
    cases h
    rw [List.length_cons, List.length_cons, leafs_len h2]
theorem leaf_text0 {i : It} {t : Xt} (h : leafI i = some t) : t.text = i.text := by
  cases i with
  | ex u => cases (show some u = some t from h); rfl
  | tx p => exact (leaf_text (i := .tx p) trivial h).2
theorem leafs_text : ∀ {js : List It} {ts : List Xt}, leafsI js = some ts → ts.map Xt.text = js.map It.text
  | [], ts, h => by cases h; rfl
  | i :: r, ts, h => by
    obtain ⟨t, h1, h⟩ := bind_some h
    obtain ⟨us, h2, h⟩ := bind_some h
    cases h
    rw [List.map_cons, List.map_cons, leafs_text h2, leaf_text0 h1]
/-- a leaf more behind -/
theorem leafs_snoc : ∀ {js : List It} {i : It}, leafsI (js ++ [i]) = (leafsI js).bind fun ts => (leafI i).bind fun t => some (ts ++ [t])
  | [], i => by
    show (leafI i).bind _ = (some []).bind _
    cases leafI i <;> rfl
  | j :: js, i => by
    show (leafI j).bind (fun t => (leafsI (js ++ [i])).bind fun ts => some (t :: ts)) = ((leafI j).bind fun t => (leafsI js).bind fun ts => some (t :: ts)).bind _
    rw [leafs_snoc]
    cases leafI j <;> cases leafsI js <;> cases leafI i <;> rfl
theorem leafs_take {js : List It} {n : Nat} (h : leafsI (js.take n) = none) : leafsI js = none := by
  have app : ∀ {a b : List It}, leafsI a = none → leafsI (a ++ b) = none := by
    intro a b
    induction a with
    | nil => intro h; cases h
    | cons x a ih =>
      intro h
      show (leafI x).bind (fun t => (leafsI (a ++ b)).bind fun ts => some (t :: ts)) = none
      have h : (leafI x).bind (fun t => (leafsI a).bind fun ts => some (t :: ts)) = none := h
      cases hx : leafI x with
      | none => rfl
      | some t =>
        rw [hx] at h
        cases ha : leafsI a with
        | none => rw [ih ha]; rfl
        | some ts => rw [ha] at h; cases h
  have := app (b := js.drop n) h
  rwa [List.take_append_drop] at this
end M6
namespace Wp
theorem evens6 {α : Type} : ∀ I : List α, M6.evens I = Hx.evens I
  | [] => rfl
  | [_] => rfl
  | a :: _ :: r => congrArg (a :: ·) (evens6 r)
theorem odds6 {α : Type} : ∀ I : List α, M6.odds I = Hx.odds I
  | [] => rfl
  | [_] => rfl
  | _ :: b :: r => congrArg (b :: ·) (odds6 r)
end Wp

namespace Wp
open PySem PySem.Spec PyProof.Rows L2 Hx
/-! == of expressions -/
def spEqX (K : PySem.W.Frag) (CE CF : Addr) (cls : Addr → Prop) (C : Addr) : Sp := fun vs H Q _ => ∃ (a dx fa dfa : Addr) (fs gs : List (Str × V)) (z : Str) (y : V), vs = [.ref a, y] ∧ H a = some (.ins C dx fs) ∧ fs.lookup ("facts" : Str) = some (.ref fa) ∧ H fa = some (.ins CF dfa gs) ∧ gs.lookup ("text" : Str) = some (.str z) ∧
  ((NotExp K CE H y ∧ Q (.bl false) H) ∨ ∃ (a2 C2 dx2 fa2 dfa2 : Addr) (fs2 gs2 : List (Str × V)) (z2 : Str), y = .ref a2 ∧ cls C2 ∧ H a2 = some (.ins C2 dx2 fs2) ∧ fs2.lookup ("facts" : Str) = some (.ref fa2) ∧ H fa2 = some (.ins CF dfa2 gs2) ∧ gs2.lookup ("text" : Str) = some (.str z2) ∧
    Q (.bl (decide (z = z2))) H)
section
variable {P : Program} {w : World} {K : PySem.W.Frag} {mg : Str → Option Value} {base : Heap} {f C CF CE : Addr} {fd : FuncData} {st : Stmt} {x qual : Str} {p1 p2 p3 p4 p5 p6 p7 p8 p9 p10 p11 p12 p13 : Pos} {cls : Addr → Prop}
theorem ok_eqX (F : Fun K x qual st f fd) (S : FnScope ["self", "other"] ["self", "other"] (defScope st))
    (hb : defBody st = [.Return (some (.BoolOp .And [.Call (.Name "isinstance" p1) [.Name "other" p2, .Name "Expression" p3] [] p4, .Compare (.Attribute (.Attribute (.Name "self" p5) "facts" p6) "text" p7) [.Eq] [.Attribute (.Attribute (.Name "other" p8) "facts" p9) "text" p10] p11] p12)) p13])
    (v1 : Vis (defScope st) "self") (v2 : Vis (defScope st) "other") (g1 : ∀ n cdv, (envOfC qual (defScope st) n f cdv).kindOf "isinstance" = some .globalImplicit) (g2 : ∀ n cdv, (envOfC qual (defScope st) n f cdv).kindOf "Expression" = some .globalImplicit)
    (mi : mg "isinstance" = none) (mE : mg "Expression" = some (.ref CE)) (OW : ∀ C, cls C → Own K C) (ix : IsX K CE cls) (hC : cls C) (cF : Cls K CF) (nF : NoAttr K CF "text") : FnOk P w K mg base CX0 1 f fd ["self", "other"] (spEqX K CE CF cls C) := by
  refine F.ok S (fun vs H Q E h => ?_) (fun cdv A outer s H vs Q E hr h => ?_)
  · obtain ⟨a, dx, fa, dfa, fs, gs, z, y, rfl, _⟩ := h
    rfl
  obtain ⟨a, dx, fa, dfa, fs, gs, z, y, rfl, h1, h2, h3, h4, h⟩ := h
  rw [hb]
  refine ⟨_, pss_one (ps_ret (pe_and (pe_callB call_isi (g1 _ _) mi PyProof.Rows.boot_isinstance (pa_cons (pe_var (i := 1) rfl v2) (pa_cons (pe_gref (g2 _ _) mE) pa_nil)))
    (pe_one (pe_cmpR op_eq (pe_fld (pe_fld (pe_var (i := 0) rfl v1) rfl) rfl) (pe_fld (pe_fld (pe_var (i := 1) rfl v2) rfl) rfl) (nomark _))))), ?_⟩
  have O := OW C hC
  rcases h with ⟨⟨t, ty, k⟩, q⟩ | ⟨a2, C2, dx2, fa2, dfa2, fs2, gs2, z2, rfl, hC2, e1, e2, e3, e4, q⟩
  · exact ⟨_, rfl, _, _, t, _, false, rfl, .own CE, ty, k, _, rfl, iteF q⟩
  · obtain ⟨t, ty, k⟩ := ix H C2 a2 dx2 fs2 hC2 e1
    have O2 := OW C2 hC2
    refine ⟨_, rfl, _, _, t, _, true, rfl, .own CE, ty, k, _, rfl, iteT ?_⟩
    refine ⟨_, rfl, a, C, dx, fs, _, rfl, h1, O.cls, O.no, h2, fa, CF, dfa, gs, .str z, rfl, h3, cF, nF, h4, ?_⟩
    refine ⟨_, rfl, a2, C2, dx2, fs2, _, rfl, e1, O2.cls, O2.no, e2, fa2, CF, dfa2, gs2, .str z2, rfl, e3, cF, nF, e4, rfl, ?_⟩
    have e : decide (V.str z = V.str z2) = decide (z = z2) := by
      by_cases c : z = z2
      · rw [decide_eq_true c, decide_eq_true (congrArg V.str c)]
      · rw [str_ne c, decide_eq_false c]
    rw [e]
    exact q
end
def types6 : List String := ["NoneType", "bool", "int", "str", "list", "tuple"]
structure EqFacts (P : Program) (w : World) (K : PySem.W.Frag) (mg : Str → Option Value) (base : Heap) (CE CF : Addr) (cls : Addr → Prop) : Prop where
  nt : ∀ T ∈ types6, PySem.W.kitOne K (.type T) (.ref CE) = some false
  nf : ∀ C, cls C → ∀ T ∈ types6, PySem.W.notFirst K C (.type T) = true
  nc : ∀ C C2, cls C → cls C2 → PySem.W.notFirst K C (.ref C2) = true
  nb : ∀ C, cls C → PySem.W.findIn K (.ref C) "__bool__" = some none ∧ PySem.W.findIn K (.ref C) "__len__" = some none
  eq : ∀ C, cls C → EqAny P w K mg base 1 C (spEqX K CE CF cls C)
theorem right_ty {K : PySem.W.Frag} {H : Hp} {y : V} {T : String} (h : RightT H y (.type T)) : TyX K H y (.type T) := by
  cases h with
  | non => exact .base .non
  | bl b => exact .base (.bl b)
  | int i => exact .base (.int i)
  | str z => exact .base (.str z)
  | lst e => exact .base (.lst e)
  | tup e => exact .base (.tup e)
theorem RightT.same {H H' : Hp} {y : V} {t : Value} (h : RightT H y t) (s : Same H H') : RightT H' y t := by
  cases h with
  | non => exact .non
  | bl b => exact .bl b
  | int i => exact .int i
  | str z => exact .str z
  | lst e => exact .lst (s _ _ e)
  | tup e => exact .tup (s _ _ e)
  | ins e => exact .ins (s _ _ e)
/-- a value that is no expression -/
def Thing (H : Hp) (y : V) : Prop := ∃ T ∈ types6, RightT H y (.type T)
section
variable {P : Program} {w : World} {K : PySem.W.Frag} {mg : Str → Option Value} {base : Heap} {CE CF : Addr} {kc : KCls} {cls : Addr → Prop} {b : Int} {H : Hp} {v u : V} {t t2 : Tr}
/-- == of two expressions -/
theorem eq_two (T : EqFacts P w K mg base CE CF cls) (hv : ExAt CF kc cls b H v t) (hu : ExAt CF kc cls b H u t2) {Q : VK} (q : Q (.bl (decide (t.text b = t2.text b))) H) : rEqA P w K mg base 1 v u H Q := by
  cases hv with
  | @mk a1 in1 ls1 _ hx1 l1 k1 =>
  cases hu with
  | @mk a2 in2 ls2 _ hx2 l2 k2 =>
  obtain ⟨dx1, fa1, dfa1, pm1, pi1, pl1, hC1, h1, h2, h3, h4, h5⟩ := hx1
  obtain ⟨dx2, fa2, dfa2, pm2, pi2, pl2, hC2, g1, g2, g3, g4, g5⟩ := hx2
  exact ⟨a1, _, dx1, _, _, _, rfl, h1, T.eq _ hC1, .ins g1, T.nc _ _ hC1 hC2, a1, dx1, fa1, dfa1, _, _, t.text b, _, rfl, h1, rfl, h2, rfl, .inr ⟨a2, _, dx2, fa2, dfa2, _, _, t2.text b, rfl, hC2, g1, rfl, g2, rfl, _, rfl, q⟩⟩
theorem ne_two (T : EqFacts P w K mg base CE CF cls) (hv : ExAt CF kc cls b H v t) (hu : ExAt CF kc cls b H u t2) {Q : VK} (q : Q (.bl (!decide (t.text b = t2.text b))) H) : rNeA P w K mg base 1 v u H Q := by
  cases hv with
  | @mk a1 in1 ls1 _ hx1 l1 k1 =>
  cases hu with
  | @mk a2 in2 ls2 _ hx2 l2 k2 =>
  obtain ⟨dx1, fa1, dfa1, pm1, pi1, pl1, hC1, h1, h2, h3, h4, h5⟩ := hx1
  obtain ⟨dx2, fa2, dfa2, pm2, pi2, pl2, hC2, g1, g2, g3, g4, g5⟩ := hx2
  exact ⟨a1, _, dx1, _, _, _, rfl, h1, T.eq _ hC1, .ins g1, T.nc _ _ hC1 hC2, a1, dx1, fa1, dfa1, _, _, t.text b, _, rfl, h1, rfl, h2, rfl, .inr ⟨a2, _, dx2, fa2, dfa2, _, _, t2.text b, rfl, hC2, g1, rfl, g2, rfl, _, rfl, q⟩⟩
theorem eq_thing (T : EqFacts P w K mg base CE CF cls) (hv : ExAt CF kc cls b H v t) (hu : Thing H u) {Q : VK} (q : Q (.bl false) H) : rEqA P w K mg base 1 v u H Q := by
  cases hv with
  | @mk a1 in1 ls1 _ hx1 l1 k1 =>
  obtain ⟨dx1, fa1, dfa1, pm1, pi1, pl1, hC1, h1, h2, h3, h4, h5⟩ := hx1
  obtain ⟨ty, hty, r⟩ := hu
  exact ⟨a1, _, dx1, _, _, _, rfl, h1, T.eq _ hC1, r, T.nf _ hC1 _ hty, a1, dx1, fa1, dfa1, _, _, t.text b, _, rfl, h1, rfl, h2, rfl, .inl ⟨⟨_, right_ty r, T.nt _ hty⟩, _, rfl, q⟩⟩
theorem ne_thing (T : EqFacts P w K mg base CE CF cls) (hv : ExAt CF kc cls b H v t) (hu : Thing H u) {Q : VK} (q : Q (.bl true) H) : rNeA P w K mg base 1 v u H Q := by
  cases hv with
  | @mk a1 in1 ls1 _ hx1 l1 k1 =>
  obtain ⟨dx1, fa1, dfa1, pm1, pi1, pl1, hC1, h1, h2, h3, h4, h5⟩ := hx1
  obtain ⟨ty, hty, r⟩ := hu
  exact ⟨a1, _, dx1, _, _, _, rfl, h1, T.eq _ hC1, r, T.nf _ hC1 _ hty, a1, dx1, fa1, dfa1, _, _, t.text b, _, rfl, h1, rfl, h2, rfl, .inl ⟨⟨_, right_ty r, T.nt _ hty⟩, _, rfl, q⟩⟩
end
end Wp

/-! a list comprehension whose element may let an error out (its context None) -/
namespace Hx
open PySem PySem.Spec PyProof.Rows L2
theorem Inv.toR {Y : Cx} {xb : Value → Shared → Prop} {pins : List (Addr × Obj)} {σ : L2.St} {H : Hp} {s : Shared} (I : Inv Y pins σ H s) : Inv { Y with xe := xb } pins σ H s :=
  ⟨⟨I.ok.mod, I.ok.kind, I.ok.glob, I.ok.blt, I.ok.above, I.ok.inj, I.ok.has, I.ok.cab, I.ok.hd, I.ok.frames, I.ok.stk, I.ok.exf, I.ok.bs, I.ok.bsz, I.ok.noex, I.ok.exfs, I.ok.funs, I.ok.frf⟩, I.os, I.bare, I.base, I.loc, I.cell, I.free, I.freeC, I.pin, I.hok, I.len⟩
theorem Inv.ofR {Y : Cx} {xb : Value → Shared → Prop} {pins : List (Addr × Obj)} {σ : L2.St} {H : Hp} {s : Shared} (I : Inv { Y with xe := xb } pins σ H s) : Inv Y pins σ H s :=
  ⟨⟨I.ok.mod, I.ok.kind, I.ok.glob, I.ok.blt, I.ok.above, I.ok.inj, I.ok.has, I.ok.cab, I.ok.hd, I.ok.frames, I.ok.stk, I.ok.exf, I.ok.bs, I.ok.bsz, I.ok.noex, I.ok.exfs, I.ok.funs, I.ok.frf⟩, I.os, I.bare, I.base, I.loc, I.cell, I.free, I.freeC, I.pin, I.hok, I.len⟩
section
variable {X : Cx} {pins : List (Addr × Obj)} {σ : L2.St} {H H' : Hp} {s s' : Shared} {B : Heap} {a : Addr} {cls : Value} {d : Option Addr} {ch : List Addr}
/-- an exception that is held by our frame, what was turned meanwhile at ch -/
theorem xe_held {W : WX} (I : Inv X pins σ H s) (hch : ∀ b ∈ ch, FpOk X pins H b) (fl : HandSPX.HeldZ B X.stack a (L2N.Zn cls d) X.env.locals s'.heap) (hok : HOk X.prog X.w H' B)
    (u1 : ∀ b o, s.heap.get? b = some o → H b = none → b ∉ frs X.stack → b ∉ ch → B.get? b = some o) (u2 : ∀ b o, s.heap.get? b = some o → b ∈ frs X.stack → ∃ sl, s'.heap.get? b = some { o with slots := sl })
    (u3 : ∀ b o, s.heap.get? b = some o → H b = none → b ∉ ch → H' b = none) (u4 : ∀ b o, s.heap.get? b = some o → b ∉ frs X.stack → b ∉ ch → ∃ o', B.get? b = some o')
    (u5 : ∀ b xs, H b = some (.tup xs) → H' b = some (.tup xs)) (u6 : ∀ b o u, H b = some (.frz o u) → H' b = some (.frz o u)) (u7 : ∀ b ps, H b = some (.tbl ps) → ∃ more, H' b = some (.tbl (ps ++ more)))
    (na : H' a = none) (os : s'.os = s.os) (ag : AllBare s'.gens) (hW : W cls d σ H') : L2N.XE X W (.ref a) s' := by
  obtain ⟨G, g1, g2⟩ := restrict s'.heap fun b => (B.get? b).isSome || decide (b ∈ frs X.stack)
  have st : B.StaysIn s'.heap := fl.1
  have gB : ∀ b o, B.get? b = some o → G.get? b = some o := fun b o e => by
    rw [g1 b (by simp [e])]
    exact st b o e
  have gF : ∀ b, b ∈ frs X.stack → G.get? b = s'.heap.get? b := fun b hb => g1 b (by simp [hb])
  have og : ∀ b o, G.get? b = some o → s'.heap.get? b = some o ∧ ((B.get? b).isSome = true ∨ b ∈ frs X.stack) := fun b o e => by
    cases q : ((B.get? b).isSome || decide (b ∈ frs X.stack)) with
    | false => rw [g2 b q] at e; cases e
    | true =>
      rw [g1 b q] at e
      exact ⟨e, by simpa [Bool.or_eq_true] using q⟩
  refine ⟨a, B, { s with heap := G, gens := s'.gens, drawn := s'.drawn, toks := s'.toks }, pins, σ, H', cls, d, rfl, ?_, fun b o e hb => ?_, Heap.UpToSlots.of_keeps fun b o e => (og b o e).1, .inr (.inr fl), na, os, ag, hW⟩
  · refine I.call (ch := ch) ⟨fun b o e n hb hc => gB b o (u1 b o e n hb hc), fun b o e n hb _ => ?_, fun b o e n hc => u3 b o e n hc, fun b o e hc => ?_, u5, u6, u7⟩ (hok.kept gB) ag fun b hb => ?_
    · obtain ⟨sl, q⟩ := u2 b o e hb
      exact ⟨sl, by rw [gF b hb]; exact q⟩
    · by_cases hb : b ∈ frs X.stack
      · obtain ⟨sl, q⟩ := u2 b o e hb
        exact ⟨_, by rw [gF b hb]; exact q⟩
      · obtain ⟨o', q⟩ := u4 b o e hb hc
        exact ⟨o', gB b o' q⟩
    · obtain ⟨_, h2, _, h4, h5, h6⟩ := hch b hb
      exact ⟨h4, h2, h5, h6⟩
  · obtain ⟨e', h⟩ := og b o e
    rcases h with h | h
    · obtain ⟨o', q⟩ := Option.isSome_iff_exists.mp h
      have z := st b o' q
      rw [e'] at z; cases z
      exact q
    · exact absurd h hb
/-- what a raise out of the block's element owes -/
theorem comp_fails {E : XK} {H3 : Hp} {s3 : Shared} {fp : List Addr} {scope : Scope} {ce : Env} {pins' : List (Addr × Obj)} {σ' : L2.St} {u : Value} (tk : L2N.Takes X fun cls d _ H => E cls d H) (hst : X.stack = X.env :: X.outer) (hf : X.env.frame = some X.env.locals)
    (I3 : Inv X pins σ H3 s3) (cf : ce.frame = X.env.frame) (hC : s3.heap.objs.size ≤ ce.locals) (f3 : ∀ b ∈ fp, FpOk X pins H3 b) (J : Inv (X.blk s3 H3 scope ce fp) pins' σ' H s) (c : L2N.CX X.prog X.w X.stack H s E u s') :
    notedBy (model X.prog X.w) X.A ce (CompFails (model X.prog X.w) X.A X.xe ce) u s' := by
  obtain ⟨a, B, H', cls, d, rfl, ⟨st, na0, ff, tr⟩, hok, ub, na, os, ag, hE⟩ := c
  obtain ⟨m, ⟨oC, es, ep, hoC, hdC, rC⟩, _⟩ := J.loc
  have hoC : s.heap.get? ce.locals = some oC := hoC
  have base : Un (frs X.stack) fp H3 H s3.heap s.heap := J.base
  have old : ∀ b o, s3.heap.get? b = some o → b ≠ ce.locals := fun b o q => Nat.ne_of_lt (Nat.lt_of_lt_of_le (Heap.lt_size q) hC)
  have CnF : ce.locals ∉ frs X.stack := fun hb => by
    obtain ⟨_, o', e', _⟩ := I3.stack.mem hb
    exact old _ _ e' rfl
  have hBC : B.get? ce.locals = some oC := ub.keep _ oC hoC J.free CnF
  have hsC : s'.heap.get? ce.locals = some oC := st _ oC hBC
  have HC' : H' ce.locals = none := ub.free _ oC hoC J.free
  obtain ⟨G, g1, g2⟩ := restrict B fun b => decide (b ≠ ce.locals)
  have gz : G.get? ce.locals = none := g2 _ (by simp)
  have gB : ∀ b o, G.get? b = some o → b ≠ ce.locals ∧ B.get? b = some o := fun b o q => by
    by_cases hb : b = ce.locals
    · rw [hb, gz] at q
      cases q
    · exact ⟨hb, by rw [← g1 b (by simp [hb])]; exact q⟩
  have Bg : ∀ b o, b ≠ ce.locals → B.get? b = some o → G.get? b = some o := fun b o hb q => by rw [g1 b (by simp [hb])]; exact q
  have nG : ∀ b, B.get? b = none → G.get? b = none := fun b n => by
    cases q : G.get? b with
    | none => rfl
    | some o =>
      obtain ⟨_, q2⟩ := gB b o q
      rw [n] at q2
      cases q2
  have fl : HandSPX.FlyingZ G (X.env :: X.outer) a (L2N.Zn cls d) s'.heap := by
    refine ⟨fun b o q => st b o (gB b o q).2, nG a na0, ?_, ?_⟩
    · rw [← hst]
      exact funFrames_none ff fun L hL => nG L (ff.mem hL).1
    · obtain ⟨oe, vs, T, oT, ts, h1, h2, h3, h4, h5, h6, h7, h8, h9⟩ := tr
      exact ⟨oe, vs, T, oT, ts, h1, h2, h3, h4, nG T h5, h6, h7, h8, h9⟩
  have hokG : HOk X.prog X.w H' G := fun b v q => by
    refine (hok b v q).stay (fun c v hc y => Bg c v ?_ y) (fun _ y => y) fun _ _ y => y
    rcases hc with y | y
    · rw [y]; exact fun hb => by rw [hb, HC'] at q; cases q
    · exact fun hb => by rw [hb, HC'] at y; cases y
  have hfr : X.A.frames = some (X.env :: X.outer) := by rw [I3.ok.frames, hst]
  show wpAny _ X.A (noteFrame (.ref a) ce) _ _ s'
  rw [noteFrame_env _ cf]
  refine PXN.looks_onZ L2N.Zn.steady hfr hf fl fun h1 hh1 up1 => ?_
  have hn1 : h1.Ns ce.locals m := (show s'.heap.Ns ce.locals m from ⟨oC, es, ep, hsC, hdC, rC⟩).upToSlots up1
  obtain ⟨st1, na1, ff1, tr1⟩ := hh1
  refine ⟨m, hn1, fun h2 m2 hn2 hs2 => ?_⟩
  have nrec : ∀ b o vs, h1.get? b = some o → o.data = .fields vs → b ≠ ce.locals := fun b o vs q q2 z => by
    obtain ⟨o2, es2, ep2, q3, q4, _⟩ := hn1
    rw [z, q3] at q
    cases q
    rw [q4] at q2
    cases q2
  have b2 : G.StaysIn h2 := fun b o q => (hs2.2 b (gB b o q).1).trans (st1 b o q)
  have f2 := Heap.FunFrames.sameBut hs2 hn2 ff1
  have t2 : HandSPX.TracedZ h2 G a (L2N.Zn cls d) (rawInt X.env.locals) := by
    obtain ⟨oe, vs, T, oT, ts, h1, h2, h3, h4, h5, h6, h7, h8, h9⟩ := tr1
    exact ⟨oe, vs, T, oT, ts, (hs2.2 a (nrec a oe vs h1 h3)).trans h1, h2, h3, h4, h5, h6, (hs2.2 T (nrec T oT ts h7 h8)).trans h7, h8, h9⟩
  unfold PySem.passOn
  obtain ⟨oe, vs, T, oT, ts, he, hz, hd, hv1, hr⟩ := id t2
  refine wpAny_bind (wpAny_field he hd hv1 ?_)
  rw [if_neg (show ¬ ((Value.ref T == Value.none) = true) from by simp)]
  have fin : wpAny (model X.prog X.w) X.A (setFlight (.ref a) ce.frame) (fun _ s4 => wpAny (model X.prog X.w) X.A (throw (.ref a) : Sem Value) (fun _ _ => False) X.xe s4) X.xe { s' with heap := h2 } := by
    rw [cf, hf]
    refine HandSPX.setFlight_anyZ (s := { s' with heap := h2 }) b2 f2 t2 fun h3 b3 f3' t3 up3 => wpAny_throw (tk _ _ ?_)
    refine xe_held (B := G) (H' := H') (a := a) (cls := cls) (d := d) (W := fun cls d _ H => E cls d H) I3 f3 ⟨b3, na1, by rw [hst]; exact f3', t3⟩ hokG (fun b o e n hb hx => Bg b o (old b o e) (ub.keep b o (base.keep b o e n hb hx) (base.free b o e n hx) hb)) (fun b o e hb => ?_)
      (fun b o e n hx => ?_) (fun b o e hb hx => ?_) (fun b xs q => ub.tups b xs (base.tups b xs q)) (fun b o u q => ub.frzs b o u (base.frzs b o u q)) (fun b ps q => ?_) na (os.trans J.os) ag hE
    · obtain ⟨_, o2, e2, hd2⟩ := I3.stack.mem hb
      rw [e] at e2
      cases e2
      have nx : b ∉ fp := fun z => by
        obtain ⟨_, k2, k3, _⟩ := f3 b z
        exact (List.mem_cons.mp (I3.stkSub b hb)).elim k2 k3
      obtain ⟨sl1, q1⟩ := base.slot b o e (I3.stkFree b hb) hb nx
      obtain ⟨sl2, q2⟩ := ub.slot b _ q1 hb
      obtain ⟨sl3, q3⟩ := up1 b _ q2 hd2
      obtain ⟨sl4, q4⟩ := up3 b _ ((hs2.2 b (old b o e)).trans q3) hd2
      exact ⟨sl4, q4⟩
    · obtain ⟨o', q⟩ := base.there b o e hx
      exact ub.free b o' q (base.free b o e n hx)
    · obtain ⟨o', q⟩ := base.there b o e hx
      obtain ⟨o2, q2⟩ := ub.there b o' q hb
      exact ⟨o2, Bg b o2 (old b o e) q2⟩
    · obtain ⟨m1, e1⟩ := base.tbls b ps q
      obtain ⟨m2, e2⟩ := ub.tbls b _ e1
      exact ⟨m1 ++ m2, by rw [e2, Array.append_assoc]⟩
  first
    | exact wpAny_bind (wpAny_pure (wpAny_bind fin))
    | exact wpAny_bind fin
end
/-- the context of a block whose element may raise -/
abbrev Cx.blkR (X : Cx) (s : Shared) (H : Hp) (scope : Scope) (cenv : Env) (fp : List Addr) (xb : Value → Shared → Prop) : Cx := { X.blk s H scope cenv fp with xe := xb }
section
variable {X : Cx}
theorem pe_lcN {E : XK} {elt tg iter : Expr} {ifs : List Expr} {scope : Scope} {own : List (Str × Nat)} {pos : Pos} {wi : TI} {g : TG} {tt : TT} {te : TE} (hc : X.calm = true) (hN : X.N.Nodup) (tk : L2N.Takes X fun cls d _ H => E cls d H) (hst : X.stack = X.env :: X.outer) (hf : X.env.frame = some X.env.locals)
    (hi : PI X tg iter wi) (ok : BlkOk X.N X.env.scope scope own)
    (hg : ∀ (s : Shared) (H : Hp) (C : Addr) (cl : List (Str × Addr)) (fp : List Addr), PG (X.blk s H scope (compEnvC scope cl C X.env) fp) tg g) (ht : ∀ (s : Shared) (H : Hp) (C : Addr) (cl : List (Str × Addr)) (fp : List Addr), PTs (X.blk s H scope (compEnvC scope cl C X.env) fp) ifs tt)
    (he : ∀ (s : Shared) (H : Hp) (C : Addr) (cl : List (Str × Addr)) (fp : List Addr) (xb : Value → Shared → Prop), Passes (L2N.CX X.prog X.w) (Cx.blkR X s H scope (compEnvC scope cl C X.env) fp xb) E → PE (Cx.blkR X s H scope (compEnvC scope cl C X.env) fp xb) elt te)
    (hs : ∀ x, foldedSetIterable iter X.env x = pure x := by intro _; rfl) :
    PE X (.ListComp elt [⟨tg, iter, ifs, 0⟩] scope pos) (tLc wi g tt te (own.map (·.2))) := by
  refine ⟨fun pins s σ H Q I h => ?_⟩
  rw [eval_ListComp]
  have cap : ∀ y ∈ scope.names, y.2 = .free → ∃ c, X.env.cells.lookup y.1 = some c := fun y hy e => (ok.free y hy e).elim (fun k => I.ok.has _ (.inl k)) fun k => I.ok.has _ (.inr k)
  refine comprehension_at (use := none) rfl hs (closure_ok cap) ok.kind (fun y hy e => by rw [ok.uniq y hy, e]) (thn (hi.run pins s σ H _ I h) fun xv s1 hx => thn hx fun itv s2 h2 => ?_)
  obtain ⟨it, fp, tn, J, H2, rfl, I2, T, st2, f2, q⟩ := h2
  refine wpAny_newObj_type (newEnv_comp ?_) (by show 0 ≤ sizeLine; decide)
  generalize hD : s2.heap.objs.size = D
  have nD : H2 D = none := I2.hok.fresh (Nat.le_of_eq hD)
  obtain ⟨W, ⟨m0, w0⟩, turn⟩ := q D nD
  generalize hs3 : ({ s2 with heap := s2.heap.push { cls := .type "list", data := .seq ([] : List Value).toArray } } : Shared) = s3
  have e3 : s3.heap = s2.heap.push { cls := .type "list", data := .seq ([] : List Value).toArray } := by rw [← hs3]
  have I3 : Inv X pins σ (upd H2 D (.lst [])) s3 := by
    rw [← hs3]
    refine I2.laid (t' := s2.toks) (fun b o e => Heap.get?_push_of_some _ e) (Nat.le_of_eq hD) ⟨Nat.zero_le _, [], 0, .nil, ?_⟩
    rw [← hD]
    exact Heap.get?_push_size _ rfl
  have lt2 : ∀ b ∈ fp, b < s2.heap.objs.size := fun b hb => let ⟨o, e, _⟩ := T.obj _ _ st2 b hb; Heap.lt_size e
  have f3 : ∀ b ∈ fp, FpOk X pins (upd H2 D (.lst [])) b ∧ b < s3.heap.objs.size := fun b hb => by
    refine ⟨⟨?_, (f2 b hb).2⟩, by rw [e3, Heap.size_push]; exact Nat.lt_succ_of_lt (lt2 b hb)⟩
    rw [upd_ne (by rw [← hD]; exact Nat.ne_of_lt (lt2 b hb))]
    exact (f2 b hb).1
  have st3 : tn 0 s3.heap := T.keep _ _ _ st2 fun b _ o e => by rw [e3]; exact Heap.get?_push_of_some _ e
  have I4 := block_start I3 ok hN f3
  have pg := hg s3 (upd H2 D (.lst [])) s3.heap.objs.size (cellsFrom (s3.heap.objs.size + 1) scope.names (cloFrom X.env.cells scope.names [])) fp
  have pt := ht s3 (upd H2 D (.lst [])) s3.heap.objs.size (cellsFrom (s3.heap.objs.size + 1) scope.names (cloFrom X.env.cells scope.names [])) fp
  have pe := he s3 (upd H2 D (.lst [])) s3.heap.objs.size (cellsFrom (s3.heap.objs.size + 1) scope.names (cloFrom X.env.cells scope.names [])) fp
  show codeAny _ _ (.compStart (.ListComp elt [⟨tg, iter, ifs, 0⟩] scope pos) 0 (.ref it) (.ref D) (compEnvC scope (cellsFrom (s3.heap.objs.size + 1) scope.names (cloFrom X.env.cells scope.names [])) s3.heap.objs.size X.env)) (compEnds (model X.prog X.w) X.A X.xe none (EP X pins σ Q) (.ref D) (compEnvC scope (cellsFrom (s3.heap.objs.size + 1) scope.names (cloFrom X.env.cells scope.names [])) s3.heap.objs.size X.env)) _
  have nf : ∀ b ∈ fp, (upd H2 D (.lst [])) b = none := fun b hb => (f3 b hb).1.1
  generalize hce : compEnvC scope (cellsFrom (s3.heap.objs.size + 1) scope.names (cloFrom X.env.cells scope.names [])) s3.heap.objs.size X.env = ce at I4 pg pt pe ⊢
  have cL : ce.locals = s3.heap.objs.size := by subst hce; rfl
  have cF : ce.frame = X.env.frame := by subst hce; rfl
  generalize hH3 : upd H2 D (.lst []) = H3 at I3 I4 pg pt pe w0 nf f3
  generalize hs4 : ({ s3 with heap := pushCells (s3.heap.push { cls := .type "dict", data := .dict #[] }) scope.names } : Shared) = s4 at I4 ⊢
  have up4 : ∀ b o, s3.heap.get? b = some o → s4.heap.get? b = some o := fun b o e => by rw [← hs4]; exact pushCells_keeps _ _ _ _ (Heap.get?_push_of_some _ e)
  have st4 : tn 0 s4.heap := T.keep _ _ _ st3 fun b _ o e => up4 b o e
  have pe := pe (notedBy (model X.prog X.w) X.A ce (CompFails (model X.prog X.w) X.A X.xe ce)) fun pins' σ' H' s' e s'' J' c => comp_fails (X := X) tk hst hf I3 cF (Nat.le_of_eq cL.symm) (fun b hb => (f3 b hb).1) (Inv.ofR J') c
  have stat : ∀ {σ' : L2.St} {H' : Hp} {s' : Shared}, Inv (X.blk s3 H3 scope ce fp) [] σ' H' s' → (∀ b ∈ fp, H' b = none) → ∀ b ∈ fp, FpOk (X.blk s3 H3 scope ce fp) [] H' b := fun {σ' H' s'} I' hn b hb =>
    ⟨hn b hb, (I'.ok.exf b hb).1, I'.ok.exfs b hb, .inl hb, fun x c e => (I'.ok.exf b hb).2 x c e, fun p hp => absurd (show p ∈ ([] : List (Addr × Obj)) ++ [] from hp) (by simp)⟩
  have loop : codeAny (model X.prog X.w) X.A (.compLoop (.ListComp elt [⟨tg, iter, ifs, 0⟩] scope pos) 0 (.ref it) (.ref D) ce) (compEnds (model X.prog X.w) X.A X.xe none (EP X pins σ Q) (.ref D) ce) s4 := by
    refine compLoop_any (fun n s' => ∃ i H', Inv (X.blk s3 H3 scope ce fp) [] (wipe σ (own.map (·.2))) H' s' ∧ tn i s'.heap ∧ (∀ b ∈ fp, H' b = none) ∧ W i n H') ?_ m0 ⟨0, H3, I4, st4, nf, w0⟩
    rintro n s5 ⟨i, H5, I5, st5, n5, w5⟩
    rcases turn i n H5 w5 with ⟨stop, qq⟩ | ⟨go, Nx, hNx, step⟩
    · refine thnF (T.done (X.blk s3 H3 scope ce fp) rfl rfl rfl hc i [] s5 _ H5 (fun _ _ => False) I5 (stat I5 n5) st5 stop) fun r s6 ⟨hr, I6⟩ => ?_
      subst hr
      have I7 : Inv X pins σ H5 s6 := I3.call' (ch := fp) I6.os I6.base I6.hok I6.bare fun b hb => ⟨(f3 b hb).1.2.2.2.1, (f3 b hb).1.2.1, (f3 b hb).1.2.2.2.2.1, (f3 b hb).1.2.2.2.2.2⟩
      have nC : H5 s3.heap.objs.size = none := by
        have z : H5 ce.locals = none := I6.free
        rwa [cL] at z
      obtain ⟨m, hn, _⟩ := I6.loc
      have hn : s6.heap.Ns ce.locals m := hn
      obtain ⟨c0, c1, c2, c3, c4, c5⟩ := I3.fpOk (Nat.le_refl s3.heap.objs.size) nC
      refine ⟨m, hn, fun h'' sb => ?_⟩
      rw [cL] at sb
      exact ⟨.ref D, H5, I7.turned (t' := s6.toks) (fun b o hb e => (sb.2 b hb).trans e) c0 c1 c3 c4 c5, rfl, qq⟩
    · refine thnF (T.item (X.blk s3 H3 scope ce fp) rfl rfl rfl hc i [] s5 _ H5 (fun _ _ => False) I5 (stat I5 n5) st5 go) fun r s6 ⟨u, hr, h6⟩ => ?_
      subst hr
      refine thnF h6 fun _ s7 ⟨x, H7, I7, r7, y7, st7, n7⟩ => ?_
      refine thnF (pg.run _ s7 _ H7 x u _ (I7.pinned (stat I7 n7) (T.obj _ _ st7)) r7 (step x H7 y7)) fun _ s8 ⟨σ8, H8, I8, hw8, q8⟩ => ?_
      refine thnF (pt.run _ s8 σ8 H8 _ I8 q8) fun b s9 ⟨H9, I9, q9⟩ => ?_
      have next : ∀ {s' : Shared} {H' : Hp}, Inv (X.blk s3 H3 scope ce fp) ([] ++ pinsAt fp s7.heap) σ8 H' s' → Nx H' → ∃ m, m < n ∧ ∃ i H', Inv (X.blk s3 H3 scope ce fp) [] (wipe σ (own.map (·.2))) H' s' ∧ tn i s'.heap ∧ (∀ b ∈ fp, H' b = none) ∧ W i m H' := by
        intro s' H' I' nx
        obtain ⟨m', hm, w'⟩ := hNx H' nx
        have still : ∀ b ∈ fp, ∀ o, s7.heap.get? b = some o → s'.heap.get? b = some o ∧ H' b = none := fun b hb o e =>
          let z := I'.pin (b, o) (List.mem_append_right _ (List.mem_append_right _ (mem_pinsAt hb e)))
          ⟨z.1, z.2.1⟩
        have hl : (wipe σ (own.map (·.2))).length = σ8.length := by rw [← hw8, wipe_length]
        refine ⟨m', hm, i + 1, H', (I'.unpinned (pins := [])).weak hl (fun j v e => ?_), T.keep _ _ _ st7 fun b hb o e => (still b hb o e).1, fun b hb => ?_, w'⟩
        · rw [← hw8] at e
          exact (wipe_some e).1
        · obtain ⟨o, e, _⟩ := T.obj _ _ st7 b hb
          exact (still b hb o e).2
      cases b with
      | false =>
        simp only [Bool.false_eq_true, if_false] at q9 ⊢
        exact next I9 q9
      | true =>
        simp only [if_true] at q9 ⊢
        refine wpAny_mono (pe.run _ s9 σ8 H9 _ (Inv.toR I9) q9) (fun z s10 ⟨yv, H10, I10, r10, acc, hD10, hz10, nx⟩ => ?_) fun e s' hx => hx
        exact app_ok (X := X.blk s3 H3 scope ce fp) (Inv.ofR I10) hD10 hz10 r10 fun s11 I11 => next I11 nx
  exact codeAny_compStart_list loop (T.self X.A 0 _ _ _ st4 loop)
end
end Hx

/-! k06: closed, of any items -/
namespace Wp
open PySem PySem.Spec PyProof.Rows L2 Hx
/-- the tables of the reader, of any word -/
structure Tabs6 (K : PySem.W.Frag) (w : World) (mg : Str → Option Value) : Prop where
  ahead : ∃ a es n, mg "AHEAD" = some (.ref a) ∧ KDict K w a es n ∧ (∀ p ∈ ([("weave", 0), ("part", 2), ("drop", 1), ("lead", 0), ("turn", 1)] : List (Str × Int)), ∃ t, PySem.W.nsIn K a p.1 = some (some (.int p.2 t))) ∧
    ∀ z, z ∉ (["weave", "part", "drop", "lead", "turn"] : List Str) → PySem.W.nsIn K a z = some none
  behind : ∃ a es n, mg "BEHIND" = some (.ref a) ∧ KDict K w a es n ∧ (∀ p ∈ ([("part", 1), ("drop", 1), ("lead", 2), ("turn", 1)] : List (Str × Int)), ∃ t, PySem.W.nsIn K a p.1 = some (some (.int p.2 t))) ∧ PySem.W.nsIn K a "weave" = some none
theorem Tabs6.ahead_at {K : PySem.W.Frag} {w : World} {mg : Str → Option Value} (T : Tabs6 K w mg) : ∃ a es n, mg "AHEAD" = some (.ref a) ∧ KDict K w a es n ∧ (∀ wd ∈ M6.kinds, ∃ k, PySem.W.nsIn K a (un wd) = some (some (.int (M6.aheadN wd : Nat) k))) ∧
    ∀ wd, wd ∉ M6.kinds → PySem.W.nsIn K a (un wd) = some none := by
  obtain ⟨a, es, n, m, D, h, h2⟩ := T.ahead
  obtain ⟨u1, u2, u3, u4, u5⟩ := un_kinds
  refine ⟨a, es, n, m, D, fun wd c => ?_, fun wd c => h2 _ fun z => c ?_⟩
  · have wk : wd = M6.kWeave ∨ wd = M6.kPart ∨ wd = M6.kDrop ∨ wd = M6.kLead ∨ wd = M6.kTurn := by simpa [M6.kinds] using c
    rcases wk with rfl | rfl | rfl | rfl | rfl
    · rw [u1]; exact h ("weave", 0) (by simp)
    · rw [u2]; exact h ("part", 2) (by simp)
    · rw [u3]; exact h ("drop", 1) (by simp)
    · rw [u4]; exact h ("lead", 0) (by simp)
    · rw [u5]; exact h ("turn", 1) (by simp)
  · rw [← u1, ← u2, ← u3, ← u4, ← u5] at z
    have : un wd ∈ M6.kinds.map un := z
    obtain ⟨y, hy, e⟩ := List.mem_map.mp this
    rwa [← un_inj e]
theorem Tabs6.behind_at {K : PySem.W.Frag} {w : World} {mg : Str → Option Value} (T : Tabs6 K w mg) : ∃ a es n, mg "BEHIND" = some (.ref a) ∧ KDict K w a es n ∧ ∀ wd ∈ M6.kinds,
    (wd = M6.kWeave ∧ PySem.W.nsIn K a (un wd) = some none) ∨ (wd ≠ M6.kWeave ∧ ∃ k, PySem.W.nsIn K a (un wd) = some (some (.int (M6.behindN wd : Nat) k))) := by
  obtain ⟨a, es, n, m, D, h, h2⟩ := T.behind
  obtain ⟨u1, u2, u3, u4, u5⟩ := un_kinds
  refine ⟨a, es, n, m, D, fun wd c => ?_⟩
  have wk : wd = M6.kWeave ∨ wd = M6.kPart ∨ wd = M6.kDrop ∨ wd = M6.kLead ∨ wd = M6.kTurn := by simpa [M6.kinds] using c
  rcases wk with rfl | rfl | rfl | rfl | rfl
  · exact .inl ⟨rfl, by rw [u1]; exact h2⟩
  · exact .inr ⟨by decide, by rw [u2]; exact h ("part", 1) (by simp)⟩
  · exact .inr ⟨by decide, by rw [u3]; exact h ("drop", 1) (by simp)⟩
  · exact .inr ⟨by decide, by rw [u4]; exact h ("lead", 2) (by simp)⟩
  · exact .inr ⟨by decide, by rw [u5]; exact h ("turn", 1) (by simp)⟩
theorem Paired.evens {α β : Type} {R : α → β → Prop} : ∀ {xs : List α} {ys : List β}, Paired R xs ys → Paired R (Hx.evens xs) (Hx.evens ys)
  | [], [], .nil => .nil
  | [_], [_], .cons a .nil => .cons a .nil
  | _ :: _ :: _, _ :: _ :: _, .cons a (.cons _ t) => .cons a (Paired.evens t)
theorem Paired.odds {α β : Type} {R : α → β → Prop} : ∀ {xs : List α} {ys : List β}, Paired R xs ys → Paired R (Hx.odds xs) (Hx.odds ys)
  | [], [], .nil => .nil
  | [_], [_], .cons a .nil => .nil
  | _ :: _ :: _, _ :: _ :: _, .cons _ (.cons b t) => .cons b (Paired.odds t)
theorem paired_app {α β : Type} {R : α → β → Prop} : ∀ {ys zs : List β} {xs : List α}, Paired R xs (ys ++ zs) → ∃ us vs, xs = us ++ vs ∧ Paired R us ys ∧ Paired R vs zs
  | [], _, xs, h => ⟨[], xs, rfl, .nil, h⟩
  | y :: ys, zs, x :: xs, .cons a t => by
    obtain ⟨us, vs, rfl, h1, h2⟩ := paired_app t
    exact ⟨x :: us, vs, rfl, .cons a h1, h2⟩
theorem sm_list {H : Hp} {D : Addr} {xs ys : List V} (h : H D = some (.lst xs)) : Sm H (upd H D (.lst ys)) := fun c o hc n => by
  have : c ≠ D := fun z => by
    rw [z, h] at hc
    cases hc
    exact n _ rfl
  rw [upd_ne this]
  exact hc
def NCl : List Str := ["word", "pieces", "text", "make", "commas", "parts", "many", "told", "inner", "comma", "part"]
theorem scClosed : FnScope NCl ["word", "pieces", "text", "make"] (defScope s_closed) := ⟨rfl, rfl, rfl, by decide +kernel, rfl, by decide +kernel, by decide +kernel⟩
theorem paired_snoc {α β : Type} {R : α → β → Prop} {xs : List α} {ys : List β} {x : α} {y : β} (h : Paired R xs ys) (r : R x y) : Paired R (xs ++ [x]) (ys ++ [y]) := by
  induction h with
  | nil => exact .cons r .nil
  | cons a _ ih => exact .cons a ih
theorem op_or {X : Cx} {f : Value → Value → Sem Value} {r1 r2 : R2} (h1 : OpR X f r1) (h2 : OpR X f r2) : OpR X f (fun x y H Q => r1 x y H Q ∨ r2 x y H Q) := by
  intro pins s σ H x y v u Q I rx ry h
  rcases h with h | h
  · exact h1 pins s σ H x y v u Q I rx ry h
  · exact h2 pins s σ H x y v u Q I rx ry h
def spClosedX (CF : Addr) (cls : Addr → Prop) (S : Addr → Prop) (fM : Addr) : Sp := fun vs H Q E => ∃ (wd : List Nat) (p : Addr) (x : Str) (us : List V) (I : List M6.It), vs = [.str (un wd), .ref p, .str x, .ref fM] ∧ H p = some (.lst us) ∧ Paired (ItX CF cls H) us I ∧
  (∀ q, M6.It.tx q ∈ I → PieceS q ∧ q ≠ [] ∧ q.length ≤ 1000) ∧ I.length ≤ 400 ∧ (wd ++ 40 :: (M6.textI I ++ [41])).length ≤ 400 ∧ ((∃ t, M6.closedI wd I = some t ∧ ∀ v H', Same H H' → Exx CF cls H' v t → Q v H') ∨ (M6.closedI wd I = none ∧ Fails S E H))
theorem paired_split {α β : Type} {R : α → β → Prop} : ∀ {xs : List α} {ys : List β} (n : Nat), Paired R xs ys → Paired R (xs.take n) (ys.take n) ∧ Paired R (xs.drop n) (ys.drop n)
  | _, _, 0, h => ⟨.nil, h⟩
  | _, _, n + 1, .nil => ⟨.nil, .nil⟩
  | _, _, n + 1, .cons a t => ⟨.cons a (paired_split n t).1, (paired_split n t).2⟩
theorem cut_to {xs : List V} {k : Nat} : cutV xs none (some (k : Int)) = xs.take k := by
  unfold cutV
  rw [HT.sIx_none, HT.sIx_nat, List.drop_zero, Nat.sub_zero]
  by_cases h : k ≤ xs.length
  · rw [Nat.min_eq_left h]
  · rw [Nat.min_eq_right (by omega), List.take_length, List.take_of_length_le (by omega)]
theorem cut_from {xs : List V} {k : Nat} : cutV xs (some (k : Int)) none = xs.drop k := by
  unfold cutV
  rw [HT.sIx_none, HT.sIx_nat]
  by_cases h : k ≤ xs.length
  · rw [Nat.min_eq_left h, ← List.length_drop, List.take_length]
  · rw [Nat.min_eq_right (by omega), List.drop_eq_nil_of_le (Nat.le_refl _), List.drop_eq_nil_of_le (by omega), List.take_nil]
section
variable {P : Program} {w : World} {K : PySem.W.Frag} {mg : Str → Option Value} {base : Heap} {f fM fA fK CF CE Cn Cs Cm Cw Ce Ct : Addr} {fd fdM fdA fdK : FuncData} {kc : KCls} {cls : Addr → Prop}
/-- an expression beside a text: != -/
theorem ne_str {H : Hp} {v : V} {t : M6.Xt} {x : Str} (T : EqFacts P w K mg base CE CF cls) (hv : Exx CF cls H v t) {Q : VK} (q : Q (.bl true) H) : rNeA P w K mg base 1 v (.str x) H Q := by
  obtain ⟨e, rfl, ⟨⟨dx, fa, dfa, pm, pi, pl, c, h1, h2, h3, h4, h5⟩, _, _⟩, _⟩ := hv
  exact ⟨_, _, dx, _, _, _, rfl, h1, T.eq _ c, .str x, T.nf _ c _ (by simp [types6]), _, dx, fa, dfa, _, _, e.text, _, rfl, h1, rfl, h2, rfl, .inl ⟨⟨_, .base (.str x), T.nt _ (by simp [types6])⟩, _, rfl, q⟩⟩
theorem evens_len {α : Type} (l : List α) : (Hx.evens l).length ≤ l.length ∧ (Hx.odds l).length ≤ l.length := by
  have go : ∀ (n : Nat) (l : List α), l.length ≤ n → (Hx.evens l).length ≤ l.length ∧ (Hx.odds l).length ≤ l.length := by
    intro n
    induction n with
    | zero =>
      intro l h
      have : l = [] := List.length_eq_zero_iff.mp (by omega)
      subst this
      exact ⟨Nat.le_refl _, Nat.le_refl _⟩
    | succ n ih =>
      intro l h
      match l, h with
      | [], _ => exact ⟨Nat.le_refl _, Nat.le_refl _⟩
      | [_], _ => exact ⟨Nat.le_refl _, Nat.zero_le _⟩
      | a :: b :: r, h =>
        obtain ⟨i1, i2⟩ := ih r (by simp only [List.length_cons] at h; omega)
        show ((Hx.evens r).length + 1 ≤ r.length + 2) ∧ ((Hx.odds r).length + 1 ≤ r.length + 2)
        omega
  exact go _ l (Nat.le_refl _)
theorem mem_odds {α : Type} : ∀ {I : List α} {a : α}, a ∈ M6.odds I → a ∈ I
  | [], _, h => h
  | [x], _, h => nomatch h
  | x :: y :: r, a, h => by
    rcases List.mem_cons.mp h with h | h
    · exact List.mem_cons_of_mem _ (List.mem_cons.mpr (.inl h))
    · exact List.mem_cons_of_mem _ (List.mem_cons_of_mem _ (mem_odds h))
theorem ok_closedX (F : Fun K "closed" "closed" s_closed f fd) (Z : Bltn mg) (R : Reads mg) (T : Tabs6 K w mg) (EQ : EqFacts P w K mg base CE CF cls) {S : Addr → Prop} (sT : S Ct) (M : MkC P w K mg base "InvalidText" Ct "given") (ty : PySem.W.typeIn K (.ref Ct) = some (.type "type"))
    (GM : FnOk P w K mg base (L2N.CX P w) 9 fM fdM ["kind", "told", "inner"] (spMkC CF cls S)) (bM : Binds K fdM ["kind", "told", "inner"] []) (kM : PySem.W.keepIn K (.ref fM) = true)
    (GA : FnOk P w K mg base CX0 1 fA fdA ["piece"] (spAheadX K)) (bA : Binds K fdA ["piece"] []) (kA : PySem.W.keepIn K (.ref fA) = true) (mA : mg "ahead_of" = some (.ref fA))
    (nt : ∀ (H : Hp) (C a dx : Addr) (fs : List (Str × V)), cls C → H a = some (.ins C dx fs) → NotStr K H (.ref a))
    (GK : FnOk P w K mg base (L2N.CX P w) 10 fK fdK ["piece", "make"] (spKnot CF cls S fM)) (bK : Binds K fdK ["piece", "make"] []) (kK : PySem.W.keepIn K (.ref fK) = true) (mK : mg "knot_of" = some (.ref fK)) :
    FnOk P w K mg base (L2N.CX P w) 11 f fd ["word", "pieces", "text", "make"] (spClosedX CF cls S fM) := by
  refine F.okN scClosed (fun vs H Q E h => ?_) (fun cdv A outer s H vs Q E hr h => ?_)
  · obtain ⟨wd, p, x, us, I, rfl, _⟩ := h
    rfl
  obtain ⟨wd, p, x, us, I, rfl, hp, hI, pcs, few, short, h⟩ := h
  obtain ⟨aA, esA, nA, gA, DA, hA, hA2⟩ := T.ahead_at
  obtain ⟨aB, esB, nB, gB, DB, hB⟩ := T.behind_at
  have tk := L2N.takes_of (X := cxOf (L2N.CX P w) P w K mg base NCl "closed" (defScope s_closed) f cdv A outer s H E) rfl rfl rfl rfl
  have pass : Passes (L2N.CX P w) (cxOf (L2N.CX P w) P w K mg base NCl "closed" (defScope s_closed) f cdv A outer s H E) E := L2N.passes_call tk fun _ _ _ _ h => h
  have r2 : Room 2 (cxOf (L2N.CX P w) P w K mg base NCl "closed" (defScope s_closed) f cdv A outer s H E).A := hr.mono (by decide)
  refine ⟨_, pss_cons (ps_set (i := 4) scClosed.nd rfl (Or.inl rfl) (pe_stepL (pv 1) (po_some pe_int) po_none pe_int))
    (pss_cons (ps_set (i := 5) scClosed.nd rfl (Or.inl rfl) (pe_stepL (pv 1) po_none po_none pe_int))
    (pss_cons (ps_if (PW.pt (pw_or (pt_cmpR (op_notIn_kd DA) (pv 0) (pe_gref rfl gA) (by rfl))
        (pw_or (pt_cmpR op_ne (pe_op op_add (pe_callB call_len_seq (by rfl) Z.len PySem.boot_len (pa_cons (pv 4) pa_nil)) pe_int) (pe_callB call_len_seq (by rfl) Z.len PySem.boot_len (pa_cons (pv 5) pa_nil)) (nomark _))
        (pw_or1 (pt_val (pe_callB (cr_any rfl) (by rfl) R.any (by decide +kernel) (pa_cons (pe_lc (te := tOp (fun x y H Q => rNe x y H Q ∨ rNeA P w K mg base 1 x y H Q) (tVar 9) (tC (.str ", "))) (own := [("comma", 9)]) (g := gName 9) (tt := tYes) rfl scClosed.nd (pi_list (pv 4))
          (blkOk_by (N := NCl) (sc := defScope s_closed) (by decide +kernel)) (fun _ _ _ _ _ => pg_name (i := 9) scClosed.nd rfl (Or.inl rfl)) (fun _ _ _ _ _ => pts_nil)
          (fun _ _ _ _ _ => pe_cmpR (op_or op_ne (op_neA r2)) (pv 9) pe_str (nomark _))) pa_nil))))))) (pss_one (ps_raise1N M ty rfl tk r2 rfl (pv 2))) pss_nil)
    (pss_cons (ps_set (i := 6) scClosed.nd rfl (Or.inl rfl) (pe_ix ix_kdict (pe_gref rfl gA) (pv 0) (fun _ _ => rfl)))
    (pss_cons (ps_set (i := 7) scClosed.nd rfl (Or.inl rfl) (pe_callTy call_tuple_of (by rfl) R.tuple (by decide +kernel) (pa_cons (pe_lc (te := tCall (spAheadX K) [] E0 (tCons (tVar 10) tNil)) (own := [("part", 10)]) (g := gName 10) (tt := tYes) rfl scClosed.nd (pi_list (pe_slice sl_list (pv 5) po_none (po_some (pv 6))))
          (blkOk_by (N := NCl) (sc := defScope s_closed) (by decide +kernel)) (fun _ _ _ _ _ => pg_name (i := 10) scClosed.nd rfl (Or.inl rfl)) (fun _ _ _ _ _ => pts_nil)
          (fun _ _ _ _ _ => pe_call GA (hr.mono (by decide)) rfl mA kA bA .nil pass0 (pa_cons (pv 10) pa_nil))) pa_nil)))
    (pss_cons (ps_set (i := 8) scClosed.nd rfl (Or.inl rfl) (pe_callTy call_tuple_of (by rfl) R.tuple (by decide +kernel) (pa_cons (pe_lcN (te := tCall (spKnot CF cls S fM) [] E (tCons (tVar 10) (tCons (tVar 3) tNil))) (own := [("part", 10)]) (g := gName 10) (tt := tYes) rfl scClosed.nd tk rfl rfl (pi_list (pe_slice sl_list (pv 5) (po_some (pv 6)) po_none))
          (blkOk_by (N := NCl) (sc := defScope s_closed) (by decide +kernel)) (fun _ _ _ _ _ => pg_name (i := 10) scClosed.nd rfl (Or.inl rfl)) (fun _ _ _ _ _ => pts_nil)
          (fun _ _ _ _ _ xb hx => pe_call GK hr rfl mK kK bK .nil hx (pa_cons (pv 10) (pa_cons (pv 3) pa_nil)))) pa_nil)))
    (pss_cons (ps_if (pt_cmpR op_ne (pe_callB call_len_seq (by rfl) Z.len PySem.boot_len (pa_cons (pv 8) pa_nil)) (pe_kget (pe_gref rfl gB) (pv 0) (pe_callB call_len_seq (by rfl) Z.len PySem.boot_len (pa_cons (pv 8) pa_nil)) ⟨rfl, rfl, rfl, rfl⟩) (nomark _)) (pss_one (ps_raise1N M ty rfl tk r2 rfl (pv 2))) pss_nil)
    (pss_one (ps_ret (pe_callL (i := 3) GM (hr.mono (by decide)) rfl (.inr (.inl rfl)) kM bM .nil pass (pa_cons (pv 0) (pa_cons (pv 7) (pa_cons (pv 8) pa_nil)))))))))))), ?_⟩
  have fail : ∀ H', Same H H' → Fails S E H → ∀ d, H' d = none → E (.ref Ct) (some d) (upd H' d (.xd [("given", .str x)])) := fun H' s fl d hd => (fl.same s).tells sT H' d (Same.refl _) hd
  have bad : M6.closedI wd I = none → Fails S E H := fun e => by
    rcases h with ⟨t, e2, _⟩ | ⟨_, fl⟩
    · rw [e] at e2; cases e2
    · exact fl
  -- the values
  have hev := Paired.evens hI
  have hod := Paired.odds hI
  rw [← evens6 I] at hev
  rw [← odds6 I] at hod
  obtain ⟨pv', epv⟩ : ∃ l, Hx.evens us = l := ⟨_, rfl⟩
  obtain ⟨cs, ecs⟩ : ∃ l, Hx.odds us = l := ⟨_, rfl⟩
  rw [epv] at hev
  rw [ecs] at hod
  have lpv : pv'.length = (M6.evens I).length := hev.length
  have lcs : cs.length = (M6.odds I).length := hod.length
  have few2 : (M6.evens I).length ≤ 400 ∧ (M6.odds I).length ≤ 400 := by
    have := evens_len I
    rw [← evens6, ← odds6] at this
    omega
  refine ⟨_, rfl, _, rfl, p, us, 2, rfl, rfl, SqL.of hp, by decide, fun p1 n1 => ?_⟩
  rw [step_odd, ecs]
  have s1 := same_new n1 (.lst cs)
  refine ⟨_, rfl, p, us, 2, rfl, rfl, SqL.of (s1 _ _ hp), by decide, fun p2 n2 => ?_⟩
  rw [step_even, epv]
  have s2 := s1.trans (same_new n2 (.lst pv'))
  obtain ⟨H2, eH2, s2, h1, h2⟩ : ∃ H2, upd (upd H p1 (.lst cs)) p2 (.lst pv') = H2 ∧ Same H H2 ∧ H2 p1 = some (.lst cs) ∧ H2 p2 = some (.lst pv') := ⟨_, rfl, s2, upd_other upd_same n2, upd_same⟩
  rw [eH2]
  dsimp only
  by_cases hwd : wd ∈ M6.kinds
  case neg =>
    have cl : M6.closedI wd I = none := if_neg fun z => hwd z.1
    exact ⟨_, rfl, un wd, _, rfl, rfl, hA2 wd hwd, _, rfl, iteT (iteT ⟨_, rfl, fail H2 s2 (bad cl)⟩)⟩
  obtain ⟨ka, hka⟩ := hA wd hwd
  refine ⟨_, rfl, un wd, _, rfl, rfl, hka, _, rfl, iteF ?_⟩
  refine ⟨_, rfl, p1, _, rfl, .inl (SqL.of h1), _, _, rfl, rfl, _, rfl, p2, _, rfl, .inl (SqL.of h2), rfl, _, rfl, ?_⟩
  dsimp only
  by_cases hl : (M6.odds I).length + 1 = (M6.evens I).length
  case neg =>
    have cl : M6.closedI wd I = none := if_neg fun z => hl z.2.1
    have e1 : (!decide (V.int (((cs.length : Nat) : Int) + 1) = V.int ((pv'.length : Nat) : Int))) = true := by
      rw [decide_eq_false (fun z => hl (by have := V.int.inj z; omega)), Bool.not_false]
    rw [e1]
    exact iteT (iteT ⟨_, rfl, fail H2 s2 (bad cl)⟩)
  have e1 : (!decide (V.int (((cs.length : Nat) : Int) + 1) = V.int ((pv'.length : Nat) : Int))) = false := by
    rw [decide_eq_true (congrArg V.int (by omega)), Bool.not_true]
  rw [e1]
  refine iteF ?_
  refine ⟨_, rfl, p1, rfl, ⟨_, SqL.of h1⟩, fun D hD => ?_⟩
  have nD1 : p1 ≠ D := ne_of_none h1 hD
  refine lc_list (K := K) (a := p1) (xs := cs) (fun i H' => Same H2 H' ∧ H' D = some (.lst (((M6.odds I).take i).map fun j => V.bl (!M6.isComma j)))) ⟨same_new hD _, upd_same⟩ (fun i H' _ h => SqL.of (h.1 _ _ h1)) ?_ ?_
  · rintro i y H' hy ⟨s3, h3⟩
    obtain ⟨it, hit, hx⟩ := paired_get hod hy
    have li : i < cs.length := (List.getElem?_eq_some_iff.mp hy).1
    have fin : ∃ acc, H' D = some (.lst acc) ∧ acc.length < sizeLine ∧ Same H2 (upd H' D (.lst (acc ++ [V.bl (!M6.isComma it)]))) ∧ upd H' D (.lst (acc ++ [V.bl (!M6.isComma it)])) D = some (.lst (((M6.odds I).take (i + 1)).map fun j => V.bl (!M6.isComma j))) := by
      refine ⟨_, h3, ?_, fun b o hb => ?_, ?_⟩
      · rw [List.length_map, List.length_take]
        exact Nat.lt_of_le_of_lt (by omega : _ ≤ 10000) (by decide)
      · rw [upd_ne (ne_of_none hb hD)]
        exact s3 b o hb
      · rw [upd_same, List.take_add_one, hit, List.map_append]
        rfl
    refine ⟨rfl, turn_yes ⟨_, rfl, ?_⟩⟩
    cases it with
    | tx q =>
      have ey : y = V.str (un q) := hx
      subst ey
      refine .inl ⟨rfl, ?_⟩
      have e2 : (!decide (V.str (un q) = V.str ", ")) = !M6.isComma (.tx q) := by
        rw [un_eq, show ch (", " : Str) = [44, 32] by decide +kernel]
        rfl
      rw [e2]
      exact fin
    | ex t => exact .inr (ne_str EQ (Exx.same hx (s2.trans s3)) fin)
  rintro H3 ⟨s3, h3⟩
  rw [lcs, List.take_length] at h3
  have h3 : H3 D = some (.lst (((M6.odds I).map fun j => !M6.isComma j).map V.bl)) := by
    rw [h3, List.map_map]
    rfl
  refine ⟨D, _, rfl, SqL.of h3, ?_⟩
  by_cases hc : (M6.odds I).all M6.isComma = true
  case neg =>
    have cl : M6.closedI wd I = none := if_neg fun z => hc z.2.2
    have e3 : ((M6.odds I).map fun j => !M6.isComma j).any id = true := by
      rw [List.any_map]
      rw [Bool.not_eq_true, List.all_eq_false] at hc
      obtain ⟨j, hj, nj⟩ := hc
      refine List.any_eq_true.mpr ⟨j, hj, ?_⟩
      show (!M6.isComma j) = true
      rw [Bool.not_eq_true] at nj
      rw [nj]
      rfl
    rw [e3]
    exact ⟨_, rfl, iteT ⟨_, rfl, fail H3 (s2.trans s3) (bad cl)⟩⟩
  have e3 : ((M6.odds I).map fun j => !M6.isComma j).any id = false := by
    rw [List.any_map, List.any_eq_false]
    intro j hj z
    have := List.all_eq_true.mp hc j hj
    have z : (!M6.isComma j) = true := z
    rw [this] at z
    cases z
  rw [e3]
  refine ⟨_, rfl, iteF ?_⟩
  have cl : M6.closedI wd I = M6.makeI wd (M6.evens I) := if_pos ⟨hwd, hl, hc⟩
  rw [cl] at h bad
  have short2 : (M6.call wd ((M6.evens I).map M6.It.text)).length ≤ 400 := by
    rw [M6.comma_text hl hc] at short
    exact short
  clear cl short
  refine ⟨_, rfl, aA, un wd, .int (M6.aheadN wd : Nat), rfl, rfl, ⟨esA, nA, _, DA.at_, DA.lit, hka, ⟨_, rfl⟩⟩, ?_⟩
  dsimp only
  -- told
  obtain ⟨hp1, hp2⟩ := paired_split (M6.aheadN wd) hev
  obtain ⟨is, eis⟩ : ∃ l, (M6.evens I).take (M6.aheadN wd) = l := ⟨_, rfl⟩
  obtain ⟨js, ejs⟩ : ∃ l, (M6.evens I).drop (M6.aheadN wd) = l := ⟨_, rfl⟩
  have eps : is ++ js = M6.evens I := by rw [← eis, ← ejs, List.take_append_drop]
  rw [eis] at hp1
  rw [ejs] at hp2
  obtain ⟨tv, etv⟩ : ∃ l, pv'.take (M6.aheadN wd) = l := ⟨_, rfl⟩
  obtain ⟨kv, ekv⟩ : ∃ l, pv'.drop (M6.aheadN wd) = l := ⟨_, rfl⟩
  rw [etv] at hp1
  rw [ekv] at hp2
  have lis : is.length ≤ 400 := by rw [← eis, List.length_take]; omega
  have ljs : js.length ≤ 400 := by rw [← ejs, List.length_drop]; omega
  have mem : ∀ {i}, i ∈ is → i ∈ I := fun hi => M6.mem_evens (List.mem_of_mem_take (by rw [eis]; exact hi))
  have memj : ∀ {i}, i ∈ js → i ∈ I := fun hi => M6.mem_evens (List.mem_of_mem_drop (by rw [ejs]; exact hi))
  refine ⟨_, rfl, _, rfl, _, rfl, p2, _, rfl, SqL.of (s3 _ _ h2), fun q1 nq1 => ?_⟩
  rw [cut_to, etv]
  have s4 := s3.trans (same_new nq1 (.lst tv))
  refine ⟨q1, rfl, ⟨_, SqL.of upd_same⟩, fun D2 hD2 => ?_⟩
  have hq1 : upd H3 q1 (.lst tv) q1 = some (.lst tv) := upd_same
  refine lc_list (K := K) (a := q1) (xs := tv) (fun i H' => Same (upd H3 q1 (.lst tv)) H' ∧ ∃ ys, H' D2 = some (.lst ys) ∧ Paired (AhX CF cls H) ys (is.take i)) ⟨same_new hD2 _, [], upd_same, .nil⟩ (fun i H' _ h => SqL.of (h.1 _ _ hq1)) ?_ ?_
  · rintro i y H' hy ⟨s5, ys, h5, r5⟩
    obtain ⟨it, hit, hx⟩ := paired_get hp1 hy
    have ly := r5.length
    have fin : ∀ u, AhX CF cls H u it → ∃ acc, H' D2 = some (.lst acc) ∧ acc.length < sizeLine ∧ Same (upd H3 q1 (.lst tv)) (upd H' D2 (.lst (acc ++ [u]))) ∧ ∃ zs, upd H' D2 (.lst (acc ++ [u])) D2 = some (.lst zs) ∧ Paired (AhX CF cls H) zs (is.take (i + 1)) := fun u hu => by
      refine ⟨_, h5, ?_, fun b' o hb => ?_, _, upd_same, ?_⟩
      · rw [ly, List.length_take]
        exact Nat.lt_of_le_of_lt (by omega : _ ≤ 10000) (by decide)
      · rw [upd_ne (ne_of_none hb hD2)]
        exact s5 b' o hb
      · rw [List.take_add_one, hit]
        exact paired_snoc r5 hu
    refine ⟨rfl, turn_yes ⟨_, rfl, _, rfl, ?_⟩⟩
    cases it with
    | tx q =>
      have ey : y = V.str (un q) := hx
      obtain ⟨sh, ne, le⟩ := pcs q (mem (List.mem_of_getElem? hit))
      exact .inl ⟨q, ey, sh, fin _ ⟨rfl, sh, le⟩⟩
    | ex t =>
      have sH : Same H H' := s2.trans (s4.trans s5)
      exact .inr ⟨exx_not_str nt (Exx.same hx sH), fin _ hx⟩
  rintro H5 ⟨s5, ys, h5, r5⟩
  rw [hp1.length, List.take_length] at r5
  refine ⟨D2, _, rfl, .inl ⟨SqL.of h5, fun pt npt => ?_⟩⟩
  have s6 := (s4.trans s5).trans (same_new npt (.tup ys))
  obtain ⟨H6, eH6, s6, h6⟩ : ∃ H6, upd H5 pt (.tup ys) = H6 ∧ Same H2 H6 ∧ H6 pt = some (.tup ys) := ⟨_, rfl, s6, upd_same⟩
  dsimp only
  rw [eH6]
  -- inner
  refine ⟨_, rfl, _, rfl, _, rfl, p2, _, rfl, SqL.of (s6 _ _ h2), fun q2 nq2 => ?_⟩
  rw [cut_from, ekv]
  refine ⟨q2, rfl, ⟨_, SqL.of upd_same⟩, fun D3 hD3 => ?_⟩
  have hq2 : upd H6 q2 (.lst kv) q2 = some (.lst kv) := upd_same
  have s7 := s6.trans (same_new nq2 (.lst kv))
  have nD : ∀ c o, upd H6 q2 (.lst kv) c = some o → c ≠ D3 := fun c o hc => ne_of_none hc hD3
  have split : is.length = M6.aheadN wd → M6.makeI wd (M6.evens I) = (M6.leafsI js).bind fun ts => M6.makeT wd is ts := fun e => by rw [← eps]; exact M6.make_split hwd e
  have lis2 : is.length = min (M6.aheadN wd) (M6.evens I).length := by rw [← eis, List.length_take]
  have none_of : M6.leafsI js = none → M6.makeI wd (M6.evens I) = none := fun e => by
    by_cases le : is.length = M6.aheadN wd
    · rw [split le, e]; rfl
    · exact M6.make_short hwd (by omega)
  refine lc_list (K := K) (a := q2) (xs := kv) (fun i H' => Same (upd H6 q2 (.lst kv)) H' ∧ ∃ ws ts, H' D3 = some (.lst ws) ∧ M6.leafsI (js.take i) = some ts ∧ Paired (Exx CF cls H') ws ts) ⟨same_new hD3 _, [], [], upd_same, rfl, .nil⟩ (fun i H' _ h => SqL.of (h.1 _ _ hq2)) ?_ ?_
  · rintro i y H' hy ⟨s8, ws, ts, h8, e8, r8⟩
    obtain ⟨it, hit, hx⟩ := paired_get hp2 hy
    have sH : Same H H' := s2.trans (s7.trans s8)
    have tk1 : js.take (i + 1) = js.take i ++ [it] := by
      rw [List.take_add_one, hit]
      rfl
    have l8 := M6.leafs_len e8
    refine ⟨rfl, turn_yes ⟨_, rfl, _, rfl, _, it, rfl, ItX.same hx sH, fun q e => ?_, ?_⟩⟩
    · subst e
      exact (pcs q (memj (List.mem_of_getElem? hit))).2
    · cases hlf : M6.leafI it with
      | none =>
        refine .inr ⟨rfl, (bad (none_of (M6.leafs_take (n := i + 1) ?_))).same sH⟩
        rw [tk1, M6.leafs_snoc, e8, hlf]
        rfl
      | some t =>
        refine .inl ⟨t, rfl, fun v' H'' s9 e9 => ?_⟩
        have h9 := s9 _ _ h8
        refine ⟨ws, h9, ?_, fun b' o hb => ?_, ws ++ [v'], ts ++ [t], upd_same, ?_, ?_⟩
        · rw [r8.length, l8, List.length_take]
          exact Nat.lt_of_le_of_lt (by omega : _ ≤ 10000) (by decide)
        · rw [upd_ne (nD _ _ hb)]
          exact s9 _ _ (s8 b' o hb)
        · rw [tk1, M6.leafs_snoc, e8, hlf]
          rfl
        · exact paired_snoc (paired_imp (fun v t z => Exx.sm (Exx.same z s9) (sm_list h9)) r8) (Exx.sm e9 (sm_list h9))
  rintro H7 ⟨s8, ws, ts, h8, e8, r8⟩
  rw [hp2.length, List.take_length] at e8
  refine ⟨D3, _, rfl, .inl ⟨SqL.of h8, fun pi npi => ?_⟩⟩
  have s9 := same_new npi (.tup ws)
  have hpi : upd H7 pi (.tup ws) pi = some (.tup ws) := upd_same
  have r9 := paired_imp (fun v t z => Exx.same z s9) r8
  have s10 : Same H6 (upd H7 pi (.tup ws)) := ((same_new nq2 _).trans s8).trans s9
  dsimp only
  have lts := M6.leafs_len e8
  have lws : ws.length = ts.length := r8.length
  have due : (!decide (V.int ((ws.length : Nat) : Int) = V.int ((ws.length : Nat) : Int))) = false := by rw [decide_eq_true rfl, Bool.not_true]
  have sHf : Same H (upd H7 pi (.tup ws)) := (s2.trans s6).trans s10
  have all_ : is.length = M6.aheadN wd → (wd ≠ M6.kWeave → ts.length = M6.behindN wd) → spMkC CF cls S [.str (un wd), .ref pt, .ref pi] (upd H7 pi (.tup ws)) Q E := fun e e2 => by
    refine ⟨_, wd, pt, pi, ys, ws, is, ts, rfl, rfl, hwd, s10 _ _ h6, hpi, paired_imp (fun v i z => AhX.same z sHf) r5, r9, e, e2, by omega, ?_, ?_⟩
    · rw [M6.leafs_text e8, ← List.map_append, eps]
      exact short2
    · have e3 := split e
      rw [e8] at e3
      have e3 : M6.makeI wd (M6.evens I) = M6.makeT wd is ts := e3
      rw [e3] at h
      rcases h with ⟨t, e4, q⟩ | ⟨e4, fl⟩
      · exact .inl ⟨t, e4, fun v H' s11 ex => q v H' (sHf.trans s11) ex⟩
      · exact .inr ⟨e4, fl.same sHf⟩
  refine ⟨_, rfl, pi, _, rfl, .inr (SqT.of hpi), aB, esB, nB, rfl, DB, _, rfl, _, rfl, pi, _, rfl, .inr (SqT.of hpi), un wd, ?_⟩
  rcases hB wd hwd with ⟨rfl, e⟩ | ⟨nw, k, e⟩
  · refine ⟨_, rfl, e, .inl ⟨rfl, rfl, _, rfl, ?_⟩⟩
    rw [due]
    refine iteF ?_
    exact ⟨rfl, _, rfl, _, rfl, _, rfl, all_ (by rw [lis2]; exact Nat.zero_min _) (fun z => absurd rfl z)⟩
  · refine ⟨_, rfl, e, .inr ⟨_, .int ((M6.behindN wd : Nat) : Int), rfl, ⟨_, rfl⟩, rfl, _, rfl, ?_⟩⟩
    by_cases hb : ts.length = M6.behindN wd
    · have due2 : (!decide (V.int ((ws.length : Nat) : Int) = V.int ((M6.behindN wd : Nat) : Int))) = false := by rw [lws, hb, decide_eq_true rfl, Bool.not_true]
      rw [due2]
      refine iteF ?_
      refine ⟨rfl, _, rfl, _, rfl, _, rfl, all_ ?_ (fun _ => hb)⟩
      by_cases le : M6.aheadN wd ≤ (M6.evens I).length
      · rw [lis2]; exact Nat.min_eq_left le
      · have : js = [] := by rw [← ejs]; exact List.drop_eq_nil_of_le (by omega)
        rw [this] at lts
        have b1 : 1 ≤ M6.behindN wd := by unfold M6.behindN; split <;> decide
        rw [List.length_nil] at lts
        omega
    · have due2 : (!decide (V.int ((ws.length : Nat) : Int) = V.int ((M6.behindN wd : Nat) : Int))) = true := by
        rw [decide_eq_false (fun z => hb (by have := V.int.inj z; omega)), Bool.not_false]
      rw [due2]
      refine iteT ⟨_, rfl, fail _ sHf (bad ?_)⟩
      by_cases le : is.length = M6.aheadN wd
      · rw [split le, e8]
        exact M6.make_many hwd nw hb
      · exact M6.make_short hwd (by omega)
end
end Wp

namespace Wp
open PySem PySem.Spec PyProof.Rows L2 Hx
/-! k06: the reader's words and frames in the heap -/
structure Mq where
  ws : List (List Nat)
  fs : List (List M6.It)
section
variable (CF : Addr) (cls : Addr → Prop)
def FrAt (H : Hp) (a : Addr) (F : List M6.It) : Prop := ∃ vs, H a = some (.lst vs) ∧ Paired (ItX CF cls H) vs F
structure RdAt (H0 H : Hp) (wa fa pl : Addr) (ps : List V) (as : List Addr) (m : Mq) (n : Nat) : Prop where
  same : Same H0 H
  words : H wa = some (.lst (m.ws.map fun l => V.str (un l)))
  frames : H fa = some (.lst (as.map V.ref))
  items : Paired (FrAt CF cls H) as m.fs
  pieces : H pl = some (.lst ps)
  nd : as.Nodup
  wf : wa ≠ fa
  wn : wa ∉ as
  fn : fa ∉ as
  pn : pl ≠ wa ∧ pl ≠ fa ∧ pl ∉ as
  new : H0 wa = none ∧ H0 fa = none ∧ ∀ a ∈ as, H0 a = none
  few : m.ws.length ≤ n ∧ as.length ≤ n + 1 ∧ ∀ F ∈ m.fs, F.length ≤ n
end
section
variable {CF : Addr} {cls : Addr → Prop} {H0 H H' : Hp} {wa fa pl : Addr} {ps : List V} {as : List Addr} {ws : List (List Nat)} {fs : List (List M6.It)} {F I : List M6.It} {n : Nat}
theorem IxSm (s : Sm H H') {v : V} {i : M6.It} (h : ItX CF cls H v i) : ItX CF cls H' v i := ItX.sm h s
theorem same_sm (s : Same H H') : Sm H H' := fun c o h _ => s c o h
theorem new_sm {p : Addr} {o : HO} (h : H p = none) : Sm H (upd H p o) := same_sm (same_new h o)
theorem FrAt.sm (s : Sm H H') {a : Addr} (k : ∀ vs, H a = some (.lst vs) → H' a = some (.lst vs)) (h : FrAt CF cls H a F) : FrAt CF cls H' a F := by
  obtain ⟨vs, h1, h2⟩ := h
  exact ⟨vs, k vs h1, paired_imp (fun v i z => IxSm s z) h2⟩
theorem frs_sm (s : Sm H H') : ∀ {as : List Addr} {fs : List (List M6.It)}, (∀ a ∈ as, ∀ vs, H a = some (.lst vs) → H' a = some (.lst vs)) → Paired (FrAt CF cls H) as fs → Paired (FrAt CF cls H') as fs
  | _, _, _, .nil => .nil
  | _ :: _, _ :: _, k, .cons a t => .cons (a.sm s (k _ List.mem_cons_self)) (frs_sm s (fun a ha => k a (List.mem_cons_of_mem _ ha)) t)
theorem paired_last {α β : Type} {R : α → β → Prop} {xs : List α} {ys : List β} {y : β} (h : Paired R xs (ys ++ [y])) : ∃ us u, xs = us ++ [u] ∧ Paired R us ys ∧ R u y := by
  obtain ⟨us, vs, rfl, h1, h2⟩ := paired_app h
  match vs, h2 with
  | [u], .cons a .nil => exact ⟨us, u, rfl, h1, a⟩
/-- a word more, a frame more -/
theorem RdAt.opn {w : List Nat} {z : Addr} (R : RdAt CF cls H0 H wa fa pl ps as ⟨ws, fs⟩ n) (hz : upd H wa (.lst ((ws ++ [w]).map fun l => V.str (un l))) z = none) :
    RdAt CF cls H0 (upd (upd (upd H wa (.lst ((ws ++ [w]).map fun l => V.str (un l)))) z (.lst [])) fa (.lst ((as ++ [z]).map V.ref))) wa fa pl ps (as ++ [z]) ⟨ws ++ [w], fs ++ [[]]⟩ (n + 1) := by
  have R1 : H wa = some (.lst (ws.map fun l => V.str (un l))) := R.words
  have R2 := R.frames
  have nzw : z ≠ wa := fun e => by rw [e, upd_same] at hz; cases hz
  have hz0 : H z = none := by rw [upd_ne nzw] at hz; exact hz
  have nzf : z ≠ fa := fun e => by rw [e, R2] at hz0; cases hz0
  have nza : ∀ a ∈ as, z ≠ a := fun a ha e => by
    obtain ⟨F, _, vs, h, _⟩ : ∃ F, F ∈ fs ∧ FrAt CF cls H a F := by
      obtain ⟨i, hi⟩ := List.getElem?_of_mem ha
      obtain ⟨F, hF, r⟩ := paired_get R.items hi
      exact ⟨F, List.mem_of_getElem? hF, r⟩
    rw [← e, hz0] at h
    cases h
  have nzp : pl ≠ z := fun e => by
    have := R.pieces
    rw [e, hz0] at this
    cases this
  have sm : Sm H (upd (upd (upd H wa (.lst ((ws ++ [w]).map fun l => V.str (un l)))) z (.lst [])) fa (.lst ((as ++ [z]).map V.ref))) := fun c o hc nl => by
    have c1 : c ≠ wa := fun e => by rw [e, R1] at hc; cases hc; exact nl _ rfl
    have c2 : c ≠ fa := fun e => by rw [e, R2] at hc; cases hc; exact nl _ rfl
    have c3 : c ≠ z := fun e => by rw [e, hz0] at hc; cases hc
    rw [upd_ne c2, upd_ne c3, upd_ne c1]
    exact hc
  have out : ∀ c, c ≠ wa → c ≠ fa → c ≠ z → upd (upd (upd H wa (.lst ((ws ++ [w]).map fun l => V.str (un l)))) z (.lst [])) fa (.lst ((as ++ [z]).map V.ref)) c = H c := fun c c1 c2 c3 => by
    rw [upd_ne c2, upd_ne c3, upd_ne c1]
  refine ⟨fun c o hc => ?_, ?_, upd_same, ?_, ?_, ?_, R.wf, ?_, ?_, ?_, ?_, ?_⟩
  · have c1 : c ≠ wa := fun e => by rw [e, R.new.1] at hc; cases hc
    have c2 : c ≠ fa := fun e => by rw [e, R.new.2.1] at hc; cases hc
    have h1 := R.same _ _ hc
    have c3 : c ≠ z := fun e => by rw [e, hz0] at h1; cases h1
    rw [out c c1 c2 c3]
    exact h1
  · rw [upd_ne R.wf, upd_ne (Ne.symm nzw), upd_same]
  · refine paired_snoc (frs_sm sm (fun a ha vs h => ?_) R.items) ⟨[], ?_, .nil⟩
    · rw [out a (fun e => R.wn (e ▸ ha)) (fun e => R.fn (e ▸ ha)) (Ne.symm (nza a ha))]
      exact h
    · rw [upd_ne nzf, upd_same]
  · rw [out pl R.pn.1 R.pn.2.1 nzp]
    exact R.pieces
  · exact List.nodup_append.mpr ⟨R.nd, by simp, fun a ha c hc => by rw [List.mem_singleton.mp hc]; exact fun e => nza a ha e.symm⟩
  · intro h
    rcases List.mem_append.mp h with h | h
    · exact R.wn h
    · exact nzw (List.mem_singleton.mp h).symm
  · intro h
    rcases List.mem_append.mp h with h | h
    · exact R.fn h
    · exact nzf (List.mem_singleton.mp h).symm
  · refine ⟨R.pn.1, R.pn.2.1, fun h => ?_⟩
    rcases List.mem_append.mp h with h | h
    · exact R.pn.2.2 h
    · exact nzp (List.mem_singleton.mp h)
  · refine ⟨R.new.1, R.new.2.1, fun a ha => ?_⟩
    rcases List.mem_append.mp ha with h | h
    · exact R.new.2.2 a h
    · rw [List.mem_singleton.mp h]
      exact R.same.free hz0
  · obtain ⟨f1, f2, f3⟩ := R.few
    have f1 : ws.length ≤ n := f1
    refine ⟨by show (ws ++ [w]).length ≤ n + 1; rw [List.length_append, List.length_singleton]; omega, by rw [List.length_append, List.length_singleton]; omega, fun F hF => ?_⟩
    rcases List.mem_append.mp hF with h | h
    · exact Nat.le_succ_of_le (f3 F h)
    · rw [List.mem_singleton.mp h]
      exact Nat.zero_le _
/-- a thing more in the last frame -/
theorem RdAt.put {a : Addr} {vs : List V} {v : V} {i : M6.It} (R : RdAt CF cls H0 H wa fa pl ps (as ++ [a]) ⟨ws, fs ++ [F]⟩ n) (ha : H a = some (.lst vs)) (hv : ItX CF cls H v i) :
    RdAt CF cls H0 (upd H a (.lst (vs ++ [v]))) wa fa pl ps (as ++ [a]) ⟨ws, fs ++ [F ++ [i]]⟩ (n + 1) := by
  obtain ⟨us, u, e, h1, vs', h2, h3⟩ := paired_last R.items
  obtain ⟨rfl, e2⟩ := List.append_inj' e rfl
  have e3 : a = u := (List.cons.inj e2).1
  subst e3
  rw [ha] at h2
  cases h2
  have na : a ∉ as := fun h => by
    have := List.nodup_append.mp R.nd
    exact this.2.2 a h a (List.mem_singleton.mpr rfl) rfl
  have mem : a ∈ as ++ [a] := List.mem_append_right _ (List.mem_singleton.mpr rfl)
  have sm : Sm H (upd H a (.lst (vs ++ [v]))) := sm_list ha
  refine ⟨fun c o hc => ?_, ?_, ?_, ?_, ?_, R.nd, R.wf, R.wn, R.fn, R.pn, R.new, ?_⟩
  · have c1 : c ≠ a := fun e => by rw [e, R.new.2.2 a mem] at hc; cases hc
    rw [upd_ne c1]
    exact R.same _ _ hc
  · rw [upd_ne (show wa ≠ a from fun e => R.wn (by rw [e]; exact mem))]
    exact R.words
  · rw [upd_ne (show fa ≠ a from fun e => R.fn (by rw [e]; exact mem))]
    exact R.frames
  · refine paired_snoc (frs_sm sm (fun c hc us h => ?_) h1) ⟨_, upd_same, paired_snoc (paired_imp (fun v i z => IxSm sm z) h3) (IxSm sm hv)⟩
    rw [upd_ne (show c ≠ a from fun e => na (by rw [← e]; exact hc))]
    exact h
  · rw [upd_ne (show pl ≠ a from fun e => R.pn.2.2 (by rw [e]; exact mem))]
    exact R.pieces
  · obtain ⟨f1, f2, f3⟩ := R.few
    refine ⟨Nat.le_succ_of_le f1, Nat.le_succ_of_le f2, fun G hG => ?_⟩
    rcases List.mem_append.mp hG with h | h
    · exact Nat.le_succ_of_le (f3 G (List.mem_append_left _ h))
    · rw [List.mem_singleton.mp h, List.length_append, List.length_singleton]
      exact Nat.succ_le_succ (f3 F (List.mem_append_right _ (List.mem_singleton.mpr rfl)))
/-- a word and a frame less -/
theorem RdAt.pop {w : List Nat} {a : Addr} (R : RdAt CF cls H0 H wa fa pl ps (as ++ [a]) ⟨ws ++ [w], fs ++ [I]⟩ n) :
    RdAt CF cls H0 (upd (upd H wa (.lst (ws.map fun l => V.str (un l)))) fa (.lst (as.map V.ref))) wa fa pl ps as ⟨ws, fs⟩ n := by
  have R1 : H wa = some (.lst ((ws ++ [w]).map fun l => V.str (un l))) := R.words
  have R2 := R.frames
  obtain ⟨us, u, e, h1, _⟩ := paired_last R.items
  obtain ⟨rfl, e2⟩ := List.append_inj' e rfl
  have out : ∀ c, c ≠ wa → c ≠ fa → upd (upd H wa (.lst (ws.map fun l => V.str (un l)))) fa (.lst (as.map V.ref)) c = H c := fun c c1 c2 => by rw [upd_ne c2, upd_ne c1]
  have sm : Sm H (upd (upd H wa (.lst (ws.map fun l => V.str (un l)))) fa (.lst (as.map V.ref))) := fun c o hc nl => by
    have c1 : c ≠ wa := fun e => by rw [e, R1] at hc; cases hc; exact nl _ rfl
    have c2 : c ≠ fa := fun e => by rw [e, R2] at hc; cases hc; exact nl _ rfl
    rw [out c c1 c2]
    exact hc
  have sub : ∀ c, c ∈ as → c ∈ as ++ [a] := fun c h => List.mem_append_left _ h
  refine ⟨fun c o hc => ?_, ?_, upd_same, ?_, ?_, (List.nodup_append.mp R.nd).1, R.wf, fun h => R.wn (sub _ h), fun h => R.fn (sub _ h), ⟨R.pn.1, R.pn.2.1, fun h => R.pn.2.2 (sub _ h)⟩, ⟨R.new.1, R.new.2.1, fun c h => R.new.2.2 c (sub _ h)⟩, ?_⟩
  · have c1 : c ≠ wa := fun e => by rw [e, R.new.1] at hc; cases hc
    have c2 : c ≠ fa := fun e => by rw [e, R.new.2.1] at hc; cases hc
    rw [out c c1 c2]
    exact R.same _ _ hc
  · rw [upd_ne R.wf, upd_same]
  · refine frs_sm sm (fun c hc us h => ?_) h1
    rw [out c (fun e => R.wn (e ▸ sub c hc)) (fun e => R.fn (e ▸ sub c hc))]
    exact h
  · rw [out pl R.pn.1 R.pn.2.1]
    exact R.pieces
  · obtain ⟨f1, f2, f3⟩ := R.few
    have f1 : (ws ++ [w]).length ≤ n := f1
    rw [List.length_append] at f1 f2
    exact ⟨by show ws.length ≤ n; omega, by omega, fun G hG => f3 G (List.mem_append_left _ hG)⟩
theorem RdAt.later (R : RdAt CF cls H0 H wa fa pl ps as ⟨ws, fs⟩ n) (s : Same H H') : RdAt CF cls H0 H' wa fa pl ps as ⟨ws, fs⟩ n :=
  ⟨R.same.trans s, s _ _ R.words, s _ _ R.frames, frs_sm (same_sm s) (fun a _ vs h => s _ _ h) R.items, s _ _ R.pieces, R.nd, R.wf, R.wn, R.fn, R.pn, R.new, R.few⟩
end
end Wp

/-! k06: read_text, of any text -/
namespace Wp
open PySem PySem.Spec PyProof.Rows L2 Hx
theorem pieces_len : ∀ (n : Nat) (l : List Nat), l.length ≤ n → (pieces l).length ≤ l.length
  | 0, l, h => by
    have : l = [] := List.length_eq_zero_iff.mp (by omega)
    subst this
    exact Nat.le_refl _
  | n + 1, l, h => by
    by_cases e : l = []
    · subst e
      exact Nat.le_refl _
    · have ⟨a, c⟩ := piece_len l
      have c := c e
      have ih := pieces_len n (l.drop (pieceC l).length) (by rw [List.length_drop]; omega)
      rw [pieces_step e, List.length_cons]
      rw [List.length_drop] at ih
      omega
theorem pieces_mem : ∀ (n : Nat) (l : List Nat), l.length ≤ n → ∀ p ∈ pieces l, p ≠ [] ∧ p.length ≤ l.length
  | 0, l, h, p, hp => by
    have : l = [] := List.length_eq_zero_iff.mp (by omega)
    subst this
    cases hp
  | n + 1, l, h, p, hp => by
    by_cases e : l = []
    · subst e
      cases hp
    · have ⟨a, c⟩ := piece_len l
      have c := c e
      have ih := pieces_mem n (l.drop (pieceC l).length) (by rw [List.length_drop]; omega)
      rw [pieces_step e] at hp
      rcases List.mem_cons.mp hp with rfl | hp
      · exact ⟨List.length_pos_iff.mp c, a⟩
      · obtain ⟨i1, i2⟩ := ih p hp
        rw [List.length_drop] at i2
        exact ⟨i1, by omega⟩
theorem ch_init (x : Str) : ch (cutS x none (some (-1))) = (ch x).dropLast := by
  show ((x.cps.toList.drop (HT.sIx x.length 0 none)).take (HT.sIx x.length x.length (some (-1)) - HT.sIx x.length 0 none)).toArray.toList = _
  have lx := len_ch2 x
  have e2 : HT.sIx x.length x.length (some (-1)) = x.length - 1 := by
    show (if (-1 : Int) < 0 then ((-1 : Int) + (x.length : Int)).toNat else min (-1 : Int).toNat x.length) = _
    rw [if_pos (by decide)]
    omega
  rw [e2, HT.sIx_none, List.toList_toArray, List.drop_zero, Nat.sub_zero, ← lx, List.dropLast_eq_take]
def NRt : List Str := ["text", "make", "words", "frames", "piece", "knot"]
def toQ (m : M6.Mc) : Mq := ⟨(m.up.map (·.1)).reverse, (m.up.map (·.2)).reverse ++ [m.cur]⟩
def spReadX (CF : Addr) (cls : Addr → Prop) (S : Addr → Prop) (fM : Addr) : Sp := fun vs H Q E => ∃ (x : Str), vs = [.str x, .ref fM] ∧ x.length ≤ 400 ∧
  ((∃ t, M6.readP (M6.pieces (ch x)) = some t ∧ ∀ v H', Same H H' → Exx CF cls H' v t → Q v H') ∨ (M6.readP (M6.pieces (ch x)) = none ∧ Fails S E H))
section
variable {P : Program} {w : World} {K : PySem.W.Frag} {mg : Str → Option Value} {base : Heap} {f fM fP fC fK CF CE Cn Cs Cm Cw Ce Ct : Addr} {fd fdM fdP fdC fdK : FuncData} {kc : KCls} {cls : Addr → Prop}
theorem scReadT : FnScope NRt ["text", "make"] (defScope s_read_text) := ⟨rfl, rfl, rfl, by decide +kernel, rfl, by decide +kernel, by decide +kernel⟩
theorem ok_readX (F : Fun K "read_text" "read_text" s_read_text f fd) (Z : Bltn mg) {S : Addr → Prop} (sT : S Ct) (M : MkC P w K mg base "InvalidText" Ct "given") (ty : PySem.W.typeIn K (.ref Ct) = some (.type "type"))
    (GP : FnOk P w K mg base CX0 2 fP fdP ["text"] spPieces) (bP : Binds K fdP ["text"] []) (kP : PySem.W.keepIn K (.ref fP) = true) (mP : mg "pieces_of" = some (.ref fP))
    (GC : FnOk P w K mg base (L2N.CX P w) 11 fC fdC ["word", "pieces", "text", "make"] (spClosedX CF cls S fM)) (bC : Binds K fdC ["word", "pieces", "text", "make"] []) (kC : PySem.W.keepIn K (.ref fC) = true) (mC : mg "closed" = some (.ref fC))
    (GK : FnOk P w K mg base (L2N.CX P w) 10 fK fdK ["piece", "make"] (spKnot CF cls S fM)) (bK : Binds K fdK ["piece", "make"] []) (kK : PySem.W.keepIn K (.ref fK) = true) (mK : mg "knot_of" = some (.ref fK)) :
    FnOk P w K mg base (L2N.CX P w) 12 f fd ["text", "make"] (spReadX CF cls S fM) := by
  refine F.okN scReadT (fun vs H Q E h => ?_) (fun cdv A outer s H vs Q E hr h => ?_)
  · obtain ⟨x, rfl, _⟩ := h
    rfl
  obtain ⟨x, rfl, few, h⟩ := h
  have tk := L2N.takes_of (X := cxOf (L2N.CX P w) P w K mg base NRt "read_text" (defScope s_read_text) f cdv A outer s H E) rfl rfl rfl rfl
  have pass : Passes (L2N.CX P w) (cxOf (L2N.CX P w) P w K mg base NRt "read_text" (defScope s_read_text) f cdv A outer s H E) E := L2N.passes_call tk fun _ _ _ _ h => h
  refine ⟨_, pss_cons (ps_set (i := 2) scReadT.nd rfl (Or.inl rfl) (pe_lst pa_nil))
    (pss_cons (ps_set (i := 3) scReadT.nd rfl (Or.inl rfl) (pe_lst (pa_cons (pe_lst pa_nil) pa_nil)))
    (pss_cons (ps_for (passes_of rfl) rfl (pi_list (pe_call GP (hr.mono (by decide)) rfl mP kP bP .nil pass0 (pa_cons (pv 0) pa_nil))) (pg_name (i := 4) scReadT.nd rfl (Or.inl rfl))
      (pss_one (ps_if (pt_cmpR op_eq (pe_ix ix_str (pv 4) (pe_un un_neg pe_int) (fun _ _ => rfl)) pe_str (nomark _))
        (pss_cons (ps_expr (pe_bm PySem.F.plainAttrs_list PySem.F.slot_list_append PySem.F.type_list_append mt_append (pv 2) (pa_cons (pe_slice sl_str (pv 4) po_none (po_some (pe_un un_neg pe_int))) pa_nil)))
          (pss_one (ps_expr (pe_bm PySem.F.plainAttrs_list PySem.F.slot_list_append PySem.F.type_list_append mt_append (pv 3) (pa_cons (pe_lst pa_nil) pa_nil)))))
        (pss_one (ps_if (PW.pt (pw_and (pt_cmpR op_eq (pv 4) pe_str (nomark _)) (pw_and1 (pt_truth (pv 2) (fun _ => rfl)))))
          (pss_cons (ps_set (i := 5) scReadT.nd rfl (Or.inl rfl) (pe_call GC hr rfl mC kC bC .nil pass
              (pa_cons (pe_bm0 PySem.F.plainAttrs_list PySem.F.slot_list_pop PySem.F.type_list_pop mt_pop (pv 2)) (pa_cons (pe_bm0 PySem.F.plainAttrs_list PySem.F.slot_list_pop PySem.F.type_list_pop mt_pop (pv 3)) (pa_cons (pv 0) (pa_cons (pv 1) pa_nil))))))
            (pss_one (ps_expr (pe_bm PySem.F.plainAttrs_list PySem.F.slot_list_append PySem.F.type_list_append mt_append (pe_ix ix_list (pv 3) (pe_un un_neg pe_int) (fun _ _ => rfl)) (pa_cons (pv 5) pa_nil)))))
          (pss_one (ps_expr (pe_bm PySem.F.plainAttrs_list PySem.F.slot_list_append PySem.F.type_list_append mt_append (pe_ix ix_list (pv 3) (pe_un un_neg pe_int) (fun _ _ => rfl)) (pa_cons (pv 4) pa_nil)))))))))
    (pss_cons (ps_if (PW.pt (pw_or (pt_truth (pv 2) (fun _ => rfl)) (pw_or1 (pt_cmpR op_ne (pe_callB call_len_seq (by rfl) Z.len PySem.boot_len (pa_cons (pe_ix ix_list (pv 3) pe_int (fun _ _ => rfl)) pa_nil)) pe_int (nomark _)))))
      (pss_one (ps_raise1N M ty rfl tk (hr.mono (by decide)) rfl (pv 0))) pss_nil)
    (pss_one (ps_ret (pe_call GK (hr.mono (by decide)) rfl mK kK bK .nil pass (pa_cons (pe_ix ix_list (pe_ix ix_list (pv 3) pe_int (fun _ _ => rfl)) pe_int (fun _ _ => rfl)) (pa_cons (pv 1) pa_nil)))))))), ?_⟩
  have lx := len_ch2 x
  have lp := pieces_len (ch x).length (ch x) (Nat.le_refl _)
  have line : ∀ n : Nat, n ≤ 10001 → n < sizeLine := fun n h => Nat.lt_of_le_of_lt h (by decide)
  refine ⟨(by show 0 ≤ sizeLine; decide), fun wa nwa => ?_⟩
  refine ⟨(by show 0 ≤ sizeLine; decide), fun f0 nf0 => ⟨(by show 1 ≤ sizeLine; decide), fun fa nfa => ?_⟩⟩
  have w0 : H wa = none := nwa
  have n1 : wa ≠ f0 := ne_of_none upd_same nf0
  have f00 : H f0 = none := by rw [upd_ne (Ne.symm n1)] at nf0; exact nf0
  have n2 : f0 ≠ fa := ne_of_none upd_same nfa
  have n3 : wa ≠ fa := ne_of_none (o := .lst []) (by rw [upd_ne n1]; exact upd_same) nfa
  have fa0 : H fa = none := by rw [upd_ne (Ne.symm n2), upd_ne (Ne.symm n3)] at nfa; exact nfa
  have s0 : Same H (upd (upd (upd H wa (.lst [])) f0 (.lst [])) fa (.lst [.ref f0])) := ((same_new nwa _).trans (same_new nf0 _)).trans (same_new nfa _)
  obtain ⟨H0, eH0, s0, hw0, hf0, hff0⟩ : ∃ H0, upd (upd (upd H wa (.lst [])) f0 (.lst [])) fa (.lst [.ref f0]) = H0 ∧ Same H H0 ∧ H0 wa = some (.lst []) ∧ H0 fa = some (.lst [.ref f0]) ∧ H0 f0 = some (.lst []) :=
    ⟨_, rfl, s0, by rw [upd_ne n3, upd_ne n1]; exact upd_same, upd_same, by rw [upd_ne n2]; exact upd_same⟩
  dsimp only
  rw [eH0]
  refine ⟨_, rfl, x, rfl, Nat.le_trans few (by decide), fun pl H1 s1 npl hpl => ?_⟩
  obtain ⟨ps, eps⟩ : ∃ ps, ((pieces (ch x)).map fun l => V.str (un l)) = ps := ⟨_, rfl⟩
  rw [eps] at hpl
  have pw : pl ≠ wa ∧ pl ≠ fa ∧ pl ∉ [f0] := by
    refine ⟨fun e => ?_, fun e => ?_, fun e => ?_⟩
    · rw [e, hw0] at npl; cases npl
    · rw [e, hf0] at npl; cases npl
    · rw [List.mem_singleton.mp e, hff0] at npl; cases npl
  have R0 : RdAt CF cls H H1 wa fa pl ps [f0] (toQ ⟨[], []⟩) 0 :=
    ⟨s0.trans s1, s1 _ _ hw0, s1 _ _ hf0, .cons ⟨[], s1 _ _ hff0, .nil⟩ .nil, hpl, by simp, n3, by simpa using n1, by simpa using Ne.symm n2, pw, ⟨w0, fa0, by simpa using f00⟩, by simp [toQ]⟩
  obtain ⟨all, eall⟩ : ∃ l, pieces (ch x) = l := ⟨_, rfl⟩
  have flat : all.flatten = ch x := by rw [← eall, pieces_m6]; exact M6.pieces_flat _ _ (Nat.le_refl _)
  have shape : ∀ q ∈ all, PieceS q ∧ q ≠ [] ∧ q.length ≤ 1000 := fun q hq => by
    rw [← eall] at hq
    obtain ⟨z1, z2⟩ := pieces_mem _ (ch x) (Nat.le_refl _) q hq
    exact ⟨pieces_shape _ (ch x) (Nat.le_refl _) q hq, z1, by omega⟩
  rw [← pieces_m6, eall] at h
  rw [eall] at eps lp
  have bad : M6.readP all = none → Fails S E H := fun e => by
    rcases h with ⟨t, e2, _⟩ | ⟨_, fl⟩
    · rw [e] at e2; cases e2
    · exact fl
  have inv0 : ∀ q, (M6.It.tx q ∈ (M6.Mc.mk [] []).cur ∨ ∃ g ∈ (M6.Mc.mk [] []).up, M6.It.tx q ∈ g.2) → q ∈ all := fun q z => by
    rcases z with z | ⟨g, hg, _⟩
    · cases z
    · cases hg
  have ok0 : (M6.Mc.mk [] []).Ok := ⟨(fun i hi => nomatch hi), (fun x hx => nomatch hx)⟩
  refine ⟨pl, rfl, ⟨_, SqL.of hpl⟩, for_list (K := K) (a := pl) (xs := ps)
    (fun i σ H' => ∃ (as : List Addr) (m : M6.Mc) (o1 o2 : Option V), σ = [some (.str x), some (.ref fM), some (.ref wa), some (.ref fa), o1, o2] ∧ RdAt CF cls H H' wa fa pl ps as (toQ m) i ∧ m.Ok ∧ m.text ++ (all.drop i).flatten = ch x ∧
      (∀ q, (M6.It.tx q ∈ m.cur ∨ ∃ g ∈ m.up, M6.It.tx q ∈ g.2) → q ∈ all) ∧ (M6.run m (all.drop i)).bind M6.fin = M6.readP all)
    ⟨_, ⟨[], []⟩, _, _, rfl, R0, ok0, flat, inv0, rfl⟩ (fun i σ H' _ ⟨_, _, _, _, _, R, _⟩ => SqL.of R.pieces) ?_ ?_⟩
  · rintro i y σ H' hy ⟨as, m, o1, o2, rfl, R, mok, mtx, mem, rn⟩
    rw [← eps, List.getElem?_map] at hy
    cases hpc : all[i]? with
    | none => rw [hpc] at hy; cases hy
    | some pc =>
    rw [hpc] at hy
    cases hy
    obtain ⟨hi, epc⟩ := List.getElem?_eq_some_iff.mp hpc
    rw [List.drop_eq_getElem_cons hi, epc] at rn mtx
    have li : i ≤ 10000 := by omega
    have inall : pc ∈ all := List.mem_of_getElem? hpc
    obtain ⟨_, pn, pl2⟩ := shape pc inall
    have small : (un pc).length ≤ sizeLine := by
      show (un pc).cps.size ≤ sizeLine
      rw [show (un pc).cps.size = pc.length from List.size_toArray ..]
      exact Nat.le_of_lt (line _ (by omega))
    obtain ⟨c1, hl1⟩ : ∃ c, pc.getLast? = some c := by
      cases e : pc.getLast? with
      | none => exact absurd (List.getLast?_eq_none_iff.mp e) pn
      | some c => exact ⟨c, rfl⟩
    have t1 : decide (V.str (⟨#[c1]⟩ : Str) = V.str "(") = decide (c1 = 40) := by
      rw [show (⟨#[c1]⟩ : Str) = un [c1] from rfl, un_eq, show ch ("(" : Str) = [40] by decide +kernel]
      by_cases z : c1 = 40
      · rw [z]; rfl
      · rw [decide_eq_false z, decide_eq_false (fun y => z (List.head_eq_of_cons_eq y))]
    have t2 : decide (V.str (un pc) = V.str ")") = decide (pc = [41]) := by rw [un_eq, show ch (")" : Str) = [41] by decide +kernel]
    refine ⟨_, rfl, _, rfl, un pc, _, c1, rfl, rfl, small, atI_end hl1, rfl, _, rfl, ?_⟩
    rw [t1]
    obtain ⟨few1, few2, few3⟩ := R.few
    have run1 : M6.run m (pc :: all.drop (i + 1)) = (M6.step m pc).bind fun m => M6.run m (all.drop (i + 1)) := rfl
    rw [run1] at rn
    -- what holds behind a step
    have next : ∀ {m1 : M6.Mc}, M6.step m pc = some m1 → (∀ q, (M6.It.tx q ∈ m1.cur ∨ ∃ g ∈ m1.up, M6.It.tx q ∈ g.2) → q ∈ all) → m1.Ok ∧ m1.text ++ (all.drop (i + 1)).flatten = ch x ∧
        (∀ q, (M6.It.tx q ∈ m1.cur ∨ ∃ g ∈ m1.up, M6.It.tx q ∈ g.2) → q ∈ all) ∧ (M6.run m1 (all.drop (i + 1))).bind M6.fin = M6.readP all := fun {m1} e hm => by
      obtain ⟨o1, e1⟩ := M6.step_text mok e
      refine ⟨o1, ?_, hm, ?_⟩
      · rw [e1, List.append_assoc, ← mtx]
        rfl
      · rw [e] at rn
        exact rn
    obtain ⟨cur, up⟩ := m
    by_cases ec : c1 = 40
    · rw [decide_eq_true ec]
      have hw : H' wa = some (.lst ((up.map (·.1)).reverse.map fun l => V.str (un l))) := R.words
      have hf := R.frames
      have few1 : ((up.map (·.1)).reverse).length ≤ i := few1
      have st : M6.step ⟨cur, up⟩ pc = some ⟨[], (pc.dropLast, cur) :: up⟩ := if_pos (by rw [hl1, ec])
      have ew : cutS (un pc) none (some (-1)) = un pc.dropLast := str_of_ch (by rw [ch_init, ch_un, ch_un])
      refine iteT ⟨_, rfl, .inl ⟨rfl, _, SqL.of hw⟩, _, rfl, _, rfl, _, rfl, _, rfl, small, wa, _, _, rfl, rfl, hw, ?_, ?_⟩
      · rw [List.length_map]
        exact line _ (by omega)
      rw [ew, show ((up.map (·.1)).reverse.map fun l => V.str (un l)) ++ [V.str (un pc.dropLast)] = ((up.map (·.1)).reverse ++ [pc.dropLast]).map fun l => V.str (un l) by simp]
      have hf1 : upd H' wa (.lst (((up.map (·.1)).reverse ++ [pc.dropLast]).map fun l => V.str (un l))) fa = some (.lst (as.map V.ref)) := by
        rw [upd_ne (Ne.symm R.wf)]
        exact hf
      refine ⟨_, rfl, .inl ⟨rfl, _, SqL.of hf1⟩, (by show 0 ≤ sizeLine; decide), fun z hz => ⟨fa, _, _, rfl, rfl, upd_other hf1 hz, ?_, ?_⟩⟩
      · rw [List.length_map]
        exact line _ (by omega)
      rw [show as.map V.ref ++ [V.ref z] = (as ++ [z]).map V.ref by simp]
      have RO := RdAt.opn (w := pc.dropLast) R hz
      have eq : toQ ⟨[], (pc.dropLast, cur) :: up⟩ = ⟨(up.map (·.1)).reverse ++ [pc.dropLast], ((up.map (·.2)).reverse ++ [cur]) ++ [[]]⟩ := by simp [toQ]
      rw [← eq] at RO
      refine ⟨as ++ [z], ⟨[], (pc.dropLast, cur) :: up⟩, _, _, rfl, RO, next st fun q hq => ?_⟩
      rcases hq with hq | ⟨g, hg, hq⟩
      · cases hq
      · rcases List.mem_cons.mp hg with rfl | hg
        · exact mem q (.inl hq)
        · exact mem q (.inr ⟨g, hg, hq⟩)
    rw [decide_eq_false ec]
    have n40 : ¬ (pc.getLast? = some 40) := fun z => ec (by rw [hl1] at z; exact Option.some.inj z)
    -- a piece more in the last frame
    have put : M6.step ⟨cur, up⟩ pc = some ⟨cur ++ [.tx pc], up⟩ → ∃ us' aF vsF, as = us' ++ [aF] ∧ H' fa = some (.lst (us'.map V.ref ++ [V.ref aF])) ∧ H' aF = some (.lst vsF) ∧ vsF.length < sizeLine ∧
        ∃ (as : List Addr) (m : M6.Mc) (o1' o2' : Option V), ([some (.str x), some (.ref fM), some (.ref wa), some (.ref fa), some (V.str (un pc)), o2] : List (Option V)) = [some (.str x), some (.ref fM), some (.ref wa), some (.ref fa), o1', o2'] ∧
          RdAt CF cls H (upd H' aF (.lst (vsF ++ [V.str (un pc)]))) wa fa pl ps as (toQ m) (i + 1) ∧ m.Ok ∧ m.text ++ (all.drop (i + 1)).flatten = ch x ∧ (∀ q, (M6.It.tx q ∈ m.cur ∨ ∃ g ∈ m.up, M6.It.tx q ∈ g.2) → q ∈ all) ∧ (M6.run m (all.drop (i + 1))).bind M6.fin = M6.readP all := fun st => by
      obtain ⟨us', aF, eus, hus', vsF, hF1, hF2⟩ := paired_last R.items
      subst eus
      have hf3 : H' fa = some (.lst (us'.map V.ref ++ [V.ref aF])) := by
        have := R.frames
        rw [List.map_append] at this
        exact this
      have R1 : _ := (RdAt.put R hF1 (v := V.str (un pc)) (i := .tx pc) rfl)
      have lF : vsF.length < sizeLine := by
        have : cur.length ≤ i := few3 cur (by simp [toQ])
        have hl : vsF.length = cur.length := hF2.length
        exact line _ (by omega)
      refine ⟨us', aF, vsF, rfl, hf3, hF1, lF, us' ++ [aF], ⟨cur ++ [M6.It.tx pc], up⟩, _, _, rfl, R1, next st fun q hq => ?_⟩
      rcases hq with hq | ⟨g, hg, hq⟩
      · rcases List.mem_append.mp hq with hq | hq
        · exact mem q (.inl hq)
        · cases List.mem_singleton.mp hq
          exact inall
      · exact mem q (.inr ⟨g, hg, hq⟩)
    refine iteF ⟨_, rfl, rfl, _, rfl, ?_⟩
    rw [t2]
    by_cases e41 : pc = [41]
    case neg =>
      have st : M6.step ⟨cur, up⟩ pc = some ⟨cur ++ [.tx pc], up⟩ := by
        unfold M6.step
        rw [if_neg n40]
        cases up with
        | nil => rfl
        | cons g r => exact if_neg e41
      obtain ⟨us', aF, vsF, eas, hf3, hF1, lF, inv⟩ := put st
      rw [decide_eq_false e41]
      refine iteF (iteF ?_)
      exact ⟨_, rfl, _, rfl, fa, _, _, _, rfl, rfl, SqL.of hf3, atI_last _ _, .inl ⟨rfl, _, SqL.of hF1⟩, _, rfl, aF, _, _, rfl, rfl, hF1, lF, inv⟩
    rw [decide_eq_true e41]
    cases up with
    | nil =>
      have st : M6.step ⟨cur, []⟩ pc = some ⟨cur ++ [.tx pc], []⟩ := by
        unfold M6.step
        rw [if_neg n40]
      obtain ⟨us', aF, vsF, eas, hf3, hF1, lF, inv⟩ := put st
      have hw : H' wa = some (.lst []) := R.words
      refine iteT ⟨_, rfl, _, .inl ⟨_, SqL.of hw, rfl⟩, iteF ?_⟩
      exact ⟨_, rfl, _, rfl, fa, _, _, _, rfl, rfl, SqL.of hf3, atI_last _ _, .inl ⟨rfl, _, SqL.of hF1⟩, _, rfl, aF, _, _, rfl, rfl, hF1, lF, inv⟩
    | cons g up =>
      clear put
      obtain ⟨wd, F⟩ := g
      have eq0 : toQ ⟨cur, (wd, F) :: up⟩ = ⟨(up.map (·.1)).reverse ++ [wd], ((up.map (·.2)).reverse ++ [F]) ++ [cur]⟩ := by simp [toQ]
      rw [eq0] at R few1 few3
      have hw : H' wa = some (.lst (((up.map (·.1)).reverse.map fun l => V.str (un l)) ++ [V.str (un wd)])) := by
        have := R.words
        rw [List.map_append] at this
        exact this
      obtain ⟨us, aI, eas, hus, vsI, hI1, hI2⟩ := paired_last R.items
      subst eas
      obtain ⟨us', aF, eus, hus', _⟩ := paired_last hus
      subst eus
      have R2 : RdAt CF cls H (upd (upd H' wa (.lst ((up.map (·.1)).reverse.map fun l => V.str (un l)))) fa (.lst ((us' ++ [aF]).map V.ref))) wa fa pl ps (us' ++ [aF]) ⟨(up.map (·.1)).reverse, (up.map (·.2)).reverse ++ [F]⟩ i := R.pop
      have hf : H' fa = some (.lst ((us' ++ [aF]).map V.ref ++ [V.ref aI])) := by
        have := R.frames
        rw [List.map_append] at this
        exact this
      have nIw : aI ≠ wa := fun e => R.wn (by rw [← e]; simp)
      have nIf : aI ≠ fa := fun e => R.fn (by rw [← e]; simp)
      refine iteT ⟨_, rfl, _, .inl ⟨_, SqL.of hw, rfl⟩, ?_⟩
      rw [show (!(((up.map (·.1)).reverse.map fun l => V.str (un l)) ++ [V.str (un wd)]).isEmpty) = true by simp]
      refine iteT ?_
      refine ⟨_, rfl, .inl ⟨rfl, _, SqL.of hw⟩, wa, _, V.str (un wd), rfl, rfl, hw, by simp, ?_⟩
      rw [List.dropLast_concat]
      have hf1 : upd H' wa (.lst ((up.map (·.1)).reverse.map fun l => V.str (un l))) fa = some (.lst ((us' ++ [aF]).map V.ref ++ [V.ref aI])) := by
        rw [upd_ne (Ne.symm R.wf)]
        exact hf
      refine ⟨_, rfl, .inl ⟨rfl, _, SqL.of hf1⟩, fa, _, V.ref aI, rfl, rfl, hf1, by simp, ?_⟩
      rw [List.dropLast_concat]
      have sm : Sm H' (upd (upd H' wa (.lst ((up.map (·.1)).reverse.map fun l => V.str (un l)))) fa (.lst ((us' ++ [aF]).map V.ref))) := fun c o hc nl => by
        rw [upd_ne (fun e => by rw [e, hf] at hc; cases hc; exact nl _ rfl), upd_ne (fun e => by rw [e, hw] at hc; cases hc; exact nl _ rfl)]
        exact hc
      have st : M6.step ⟨cur, (wd, F) :: up⟩ pc = (M6.closedI wd cur).bind fun t => some ⟨F ++ [.ex t], up⟩ := by
        unfold M6.step
        rw [if_neg n40]
        exact if_pos e41
      have short : (wd ++ 40 :: (M6.textI cur ++ [41])).length ≤ 400 := by
        have z := congrArg List.length mtx
        have e : (M6.Mc.mk cur ((wd, F) :: up)).text = (M6.upText up ++ (M6.textI F ++ (wd ++ [40]))) ++ M6.textI cur := rfl
        rw [e, e41, List.flatten_cons] at z
        simp only [List.length_append, List.length_cons, List.length_nil] at z ⊢
        omega
      have lcur : cur.length ≤ i := few3 cur (by simp)
      have icur : cur.length ≤ 400 := by omega
      refine ⟨_, rfl, _, rfl, wd, aI, x, vsI, cur, rfl, ?_, paired_imp (fun v j z => IxSm sm z) hI2, fun q hq => shape q (mem q (.inl hq)), icur, short, ?_⟩
      · rw [upd_ne nIf, upd_ne nIw]
        exact hI1
      cases hcl : M6.closedI wd cur with
      | none =>
        refine .inr ⟨rfl, (bad ?_).same R2.same⟩
        rw [st, hcl] at rn
        exact rn.symm
      | some t =>
        refine .inl ⟨t, rfl, fun v H3 s3 ex => ?_⟩
        rw [hcl] at st
        have st : M6.step ⟨cur, (wd, F) :: up⟩ pc = some ⟨F ++ [.ex t], up⟩ := st
        have R3 := R2.later s3
        obtain ⟨us2, aF2, eas, hus2, vsF, hF1, hF2⟩ := paired_last R3.items
        have e2 : aF = aF2 := by
          obtain ⟨_, e3⟩ := List.append_inj' eas rfl
          exact (List.cons.inj e3).1
        subst e2
        have hf3 : H3 fa = some (.lst (us'.map V.ref ++ [V.ref aF])) := by
          have := R3.frames
          rw [List.map_append] at this
          exact this
        dsimp only
        refine ⟨_, rfl, _, rfl, fa, _, _, _, rfl, rfl, SqL.of hf3, atI_last _ _, .inl ⟨rfl, _, SqL.of hF1⟩, _, rfl, aF, _, _, rfl, rfl, hF1, ?_, ?_⟩
        · obtain ⟨_, _, g3⟩ := R3.few
          have : F.length ≤ i := g3 F (by simp)
          rw [hF2.length]
          exact line _ (by omega)
        refine ⟨us' ++ [aF], ⟨F ++ [M6.It.ex t], up⟩, _, _, rfl, R3.put hF1 (i := .ex t) ex, next st fun q hq => ?_⟩
        rcases hq with hq | ⟨g, hg, hq⟩
        · rcases List.mem_append.mp hq with hq | hq
          · exact mem q (.inr ⟨_, List.mem_cons_self, hq⟩)
          · cases List.mem_singleton.mp hq
        · exact mem q (.inr ⟨g, List.mem_cons_of_mem _ hg, hq⟩)
  · rintro σ H' ⟨as, m, o1, o2, rfl, R, mok, mtx, mem, rn⟩
    have le : ps.length = all.length := by rw [← eps, List.length_map]
    rw [le, List.drop_length] at rn
    have rn : M6.fin m = M6.readP all := rn
    obtain ⟨cur, up⟩ := m
    have hw : H' wa = some (.lst ((up.map (·.1)).reverse.map fun l => V.str (un l))) := R.words
    refine ⟨_, rfl, !((up.map (·.1)).reverse.map fun l => V.str (un l)).isEmpty, .inl ⟨_, SqL.of hw, rfl⟩, ?_⟩
    have fail : Fails S E H → ∀ d, H' d = none → E (.ref Ct) (some d) (upd H' d (.xd [("given", .str x)])) := fun fl d hd => (fl.same R.same).tells sT H' d (Same.refl _) hd
    cases up with
    | cons g up =>
      have ne : (!((((g :: up).map (·.1)).reverse.map fun l => V.str (un l)).isEmpty)) = true := by simp
      rw [ne]
      have : M6.readP all = none := rn.symm
      exact iteT (iteT ⟨_, rfl, fail (bad this)⟩)
    | nil =>
      obtain ⟨a, ea, us, hu1, hu2⟩ : ∃ a, as = [a] ∧ FrAt CF cls H' a cur := by
        match as, (show Paired (FrAt CF cls H') as [cur] from R.items) with
        | [a], .cons z .nil => exact ⟨a, rfl, z⟩
      subst ea
      have hf : H' fa = some (.lst [V.ref a]) := R.frames
      refine iteF ⟨_, rfl, fa, _, _, _, rfl, rfl, SqL.of hf, atI0, a, _, rfl, .inl (SqL.of hu1), rfl, _, rfl, ?_⟩
      have lu := hu2.length
      by_cases l1 : cur.length = 1
      case neg =>
        have ne : (!decide (V.int ((us.length : Nat) : Int) = V.int 1)) = true := by
          rw [lu, decide_eq_false (fun z => l1 (by have := V.int.inj z; omega)), Bool.not_false]
        rw [ne]
        refine iteT ⟨_, rfl, fail (bad ?_)⟩
        rw [← rn]
        match cur, l1 with
        | [], _ => rfl
        | _ :: _ :: _, _ => rfl
      have ne : (!decide (V.int ((us.length : Nat) : Int) = V.int 1)) = false := by
        rw [decide_eq_true (congrArg V.int (by omega : ((us.length : Nat) : Int) = 1)), Bool.not_true]
      rw [ne]
      refine iteF ?_
      match cur, l1, us, hu1, hu2, rn, mem with
      | [it], _, [v], hu1, .cons hv .nil, rn, mem =>
        have rn : M6.leafI it = M6.readP all := rn
        refine ⟨_, rfl, fa, _, _, _, rfl, rfl, SqL.of hf, atI0, a, _, _, _, rfl, rfl, SqL.of hu1, atI0, _, rfl, v, it, rfl, hv, fun q e => ?_, ?_⟩
        · subst e
          exact (shape q (mem q (.inl (List.mem_singleton.mpr rfl)))).2
        · rw [rn]
          rcases h with ⟨t, e, q⟩ | ⟨e, fl⟩
          · exact .inl ⟨t, e, fun v' H'' s' ex => q v' H'' (R.same.trans s') ex⟩
          · exact .inr ⟨e, fl.same R.same⟩
end
end Wp

/-! k06: read_expression, of any text of at most 400 signs -/
namespace Wp
open PySem PySem.Spec PyProof.Rows L2 Hx
def spReadEX (CF : Addr) (cls : Addr → Prop) (Ct : Addr) : Sp := fun vs H Q E => ∃ x : Str, vs = [.str x] ∧ x.length ≤ 400 ∧
  ((∃ t, M6.readP (M6.pieces (ch x)) = some t ∧ ∀ u H', Same H H' → Exx CF cls H' u t → Q u H') ∨ (M6.readP (M6.pieces (ch x)) = none ∧ Tells E Ct (.str x) H))
section
variable {P : Program} {w : World} {K : PySem.W.Frag} {mg : Str → Option Value} {base : Heap} {f fM fR CF CE Cn Cs Cm Cw Ce Ct CW : Addr} {fd fdR : FuncData} {kc : KCls} {cls : Addr → Prop}
theorem scReadE : FnScope ["text"] ["text"] (defScope s_read_expression) := ⟨rfl, rfl, rfl, by decide +kernel, rfl, by decide +kernel, by decide +kernel⟩
theorem ok_readEX (F : Fun K "read_expression" "read_expression" s_read_expression f fd) (Z : Bltn mg) {S : Addr → Prop} (hS : ∀ C, S C → PySem.W.exmOne K (.ref C) (.ref CW) = some true)
    (M : MkC P w K mg base "InvalidText" Ct "given") (MH : MkH P w K mg base "InvalidText" Ct "given") (ty : PySem.W.typeIn K (.ref Ct) = some (.type "type")) (mW : mg "WrongValue" = some (.ref CW)) (mM : mg "make" = some (.ref fM))
    (GR : FnOk P w K mg base (L2N.CX P w) 12 fR fdR ["text", "make"] (spReadX CF cls S fM)) (bR : Binds K fdR ["text", "make"] []) (kR : PySem.W.keepIn K (.ref fR) = true) (mR : mg "read_text" = some (.ref fR)) :
    FnOk P w K mg base (L2.CX P w) 13 f fd ["text"] (spReadEX CF cls Ct) := by
  refine F.okX scReadE (fun vs H Q E h => ?_) (fun cdv A outer s H vs Q E hr h => ?_)
  · obtain ⟨x, rfl, _⟩ := h
    rfl
  obtain ⟨x, rfl, few, h⟩ := h
  have tk := L2.takes_of (X := cxOf (L2.CX P w) P w K mg base ["text"] "read_expression" (defScope s_read_expression) f cdv A outer s H E) rfl rfl rfl rfl
  refine ⟨_, pss_cons (ps_if (pt_not (pt_val (pe_callB call_isi (by rfl) Z.isinstance PyProof.Rows.boot_isinstance (pa_cons (pv 0) (pa_cons (pe_bty (T := "str") rfl Z.str (by decide +kernel)) pa_nil))))) (pss_one ps_never) pss_nil)
    (pss_one (L2H.ps_try_onlyX (ts := fun a cls d => tRaise1 0 Ct "given" fun cls d _ H => E cls d H) rfl rfl ⟨rfl, by decide, .inl mW⟩ (fun hd => L2H.passesAt_of rfl hd) tk
      (fun W pn xe tkN tkP hp => pss_one (ps_ret (pe_callS GR hr rfl mR kR bR (fun σ => L2N.passAt tkN σ) (pa_cons (pv 0) (pa_cons (pe_gref rfl mM) pa_nil)))))
      (fun a oe cls d pn hz hf tkS hot => pss_one (ps_raise1F MH ty hot tkS (L2H.roomH_mark (hr.mono (by decide)) _) rfl (pv 0))))), ?_⟩
  refine ⟨_, rfl, _, _, .type "str", _, true, rfl, .ty "str", .base (.str x), kit_ty (by decide +kernel), _, rfl, iteF ?_⟩
  refine ⟨_, rfl, x, rfl, few, ?_⟩
  rcases h with ⟨t, e, q⟩ | ⟨e, tl⟩
  · exact .inl ⟨t, e, q⟩
  · exact .inr ⟨e, fun C d H' hC s' => ⟨true, hS C hC, fun _ a na => ⟨_, rfl, fun d' hd => tl H' d' s' hd⟩, fun z => nomatch z⟩⟩
end
end Wp

/-! k06: the law's own reader: letters, heads -/
namespace Wp
open PySem PySem.Spec PyProof.Rows L2 Hx
structure Bltn6 (mg : Str → Option Value) : Prop where
  range : mg "range" = none
  max : mg "max" = none
  min : mg "min" = none
  len : mg "len" = none
  str : mg "str" = none
theorem small62 {i : Int} (h : -100000 ≤ i) (h2 : i ≤ 100000) : -(2 ^ 62) ≤ i ∧ i < 2 ^ 62 := by
  have e : (2 : Int) ^ 62 = 4611686018427387904 := by decide
  omega
/-- how many letters stand first -/
def lets (l : List Nat) : Nat := (l.takeWhile M6.low).length
def spLetters6 : Sp := fun vs H Q _ => ∃ (x : Str) (a : Nat), vs = [.str x, .int (a : Nat)] ∧ x.length ≤ 400 ∧ a ≤ 1000 ∧ Q (.int ((lets ((ch x).drop a) : Nat) : Int)) H
section
variable {P : Program} {w : World} {K : PySem.W.Frag} {mg : Str → Option Value} {base : Heap} {f fL fH : Addr} {fd fdL fdH : FuncData}
theorem scLetters6 : FnScope ["_law_text_here", "_law_at", "_law_size"] ["_law_text_here", "_law_at"] (defScope s_law_letters) := ⟨rfl, rfl, rfl, by decide +kernel, rfl, by decide +kernel, by decide +kernel⟩
theorem ok_letters6 (F : Fun K "_law_letters" "_law_letters" s_law_letters f fd) (Z : Bltn6 mg) : FnOk P w K mg base CX0 1 f fd ["_law_text_here", "_law_at"] spLetters6 := by
  refine F.ok scLetters6 (fun vs H Q E h => ?_) (fun cdv A outer s H vs Q E hr h => ?_)
  · obtain ⟨x, a, rfl, _⟩ := h
    rfl
  obtain ⟨x, a, rfl, few, fa, q⟩ := h
  have small : x.length ≤ sizeLine := Nat.le_trans few (by decide)
  refine ⟨_, pss_cons (ps_for PassesOwn.never rfl (pi_range1 rfl Z.range (pa_cons (pe_op op_sub (pe_callB call_len_str (by rfl) Z.len PySem.boot_len (pa_cons (pv 0) pa_nil)) (pv 1)) pa_nil)) (pg_name (i := 2) scLetters6.nd rfl (Or.inl rfl))
      (pss_one (ps_if (pt_cmpR op_notIn_sign (pe_ix ix_str (pv 0) (pe_op op_add (pv 1) (pv 2)) (fun _ _ => rfl)) pe_str (by rfl)) (pss_one (ps_ret (pv 2))) pss_nil)))
    (pss_one (ps_ret (pe_callB (call_max2 rfl) (by rfl) Z.max PyProof.Rows.boot_max (pa_cons pe_int (pa_cons (pe_op op_sub (pe_callB call_len_str (by rfl) Z.len PySem.boot_len (pa_cons (pv 0) pa_nil)) (pv 1)) pa_nil))))), ?_⟩
  obtain ⟨l, hl⟩ : ∃ l, (ch x).drop a = l := ⟨_, rfl⟩
  rw [hl] at q
  have lx := len_ch2 x
  have get : ∀ k, l[k]? = (ch x)[a + k]? := fun k => by rw [← hl, List.getElem?_drop]
  have ll : l.length = x.length - a := by rw [← hl, List.length_drop, lx]
  obtain ⟨b1, b2⟩ := small62 (i := (x.length : Int) - (a : Int)) (by omega) (by omega)
  refine ⟨_, rfl, x, rfl, small, _, rfl, _, _, rfl, rfl, _, rfl, b1, b2, ?_⟩
  have tn : ((x.length : Int) - (a : Int)).toNat = l.length := by omega
  rw [tn]
  refine for_range (n := l.length) (fun k σ H' => H' = H ∧ ∃ o : Option V, σ = [some (.str x), some (.int (a : Nat)), o] ∧ ∀ i, i < k → ∃ c, l[i]? = some c ∧ letterB c = true)
    ⟨rfl, _, rfl, fun i hi => absurd hi (Nat.not_lt_zero _)⟩ ?_ ?_
  · rintro k σ H' hk ⟨rfl, o, rfl, al⟩
    have hg : l[k]? = some (l[k]'hk) := List.getElem?_eq_getElem hk
    refine ⟨_, rfl, _, rfl, _, rfl, _, _, rfl, rfl, x, _, l[k]'hk, rfl, rfl, small, ?_, _, abc, rfl, rfl, _, rfl, ?_⟩
    · have := atI_ch (x := x) (a := a + k) (c := l[k]'hk) (by rw [← get]; exact hg)
      have e : ((a : Int) + (0 + (k : Int))) = ((a + k : Nat) : Int) := by omega
      rw [e]
      exact this
    · rw [is_letter]
      cases hc : letterB (l[k]'hk) with
      | true =>
        refine iteF ⟨rfl, _, rfl, fun i hi => ?_⟩
        rcases Nat.lt_succ_iff_lt_or_eq.mp hi with z | rfl
        · exact al i z
        · exact ⟨_, hg, hc⟩
      | false =>
        refine iteT ⟨_, rfl, ?_⟩
        have e : lets l = k := by
          unfold lets
          rw [show M6.low = letterB from rfl, tw_eq (Nat.le_of_lt hk) al (.inr ⟨_, hg, hc⟩), List.length_take]
          omega
        rw [e] at q
        have e2 : (0 + (k : Int)) = (k : Int) := by omega
        rw [e2]
        exact q
  · rintro σ H' ⟨rfl, o, rfl, al⟩
    refine ⟨_, rfl, x, rfl, small, _, rfl, _, _, rfl, rfl, _, _, rfl, ?_⟩
    have e : lets l = l.length := by
      unfold lets
      rw [show M6.low = letterB from rfl, tw_eq (Nat.le_refl _) al (.inl (List.getElem?_eq_none (Nat.le_refl _))), List.take_length]
    rw [e] at q
    have e2 : (if (x.length : Int) - (a : Int) > 0 then (x.length : Int) - (a : Int) else 0) = (l.length : Int) := by split <;> omega
    rw [e2]
    exact q
end
end Wp

/-! k06: the law's own reader: heads -/
namespace Wp
open PySem PySem.Spec PyProof.Rows L2 Hx
theorem take3 {r : List Nat} {c d e : Nat} (h : r.take 3 = [c, d, e]) : r = c :: d :: e :: r.drop 3 := by
  match r, h with
  | a :: b :: f :: q, h =>
    have h : [a, b, f] = [c, d, e] := h
    cases h
    rfl
  | [], h => cases h
  | [_], h => cases h
  | [_, _], h => cases h
theorem take6 {r : List Nat} {c d e c2 d2 e2 : Nat} (h : r.take 6 = [c, d, e, c2, d2, e2]) : r = c :: d :: e :: c2 :: d2 :: e2 :: r.drop 6 := by
  match r, h with
  | a1 :: a2 :: a3 :: a4 :: a5 :: a6 :: q, h =>
    have h : [a1, a2, a3, a4, a5, a6] = [c, d, e, c2, d2, e2] := h
    cases h
    rfl
  | [], h => cases h
  | [_], h => cases h
  | [_, _], h => cases h
  | [_, _, _], h => cases h
  | [_, _, _, _], h => cases h
  | [_, _, _, _, _], h => cases h
theorem head_all {r : List Nat} : M6.headW M6.kWeave r = some r ∧ M6.headW M6.kLead r = some r := ⟨if_pos (.inl rfl), if_pos (.inr rfl)⟩
theorem head_turn {r : List Nat} : M6.headW M6.kTurn r = if 1 ≤ lets r ∧ lets r ≤ 4 ∧ (r.drop (lets r)).take 2 = [44, 32] then some (r.drop (lets r + 2)) else none := by
  unfold M6.headW
  rw [if_neg (by decide), if_pos rfl]
  rfl
theorem head_drop {r : List Nat} : M6.headW M6.kDrop r = (match r with | c :: 44 :: 32 :: q => if 49 ≤ c ∧ c ≤ 57 then some q else none | _ => none) := by
  unfold M6.headW
  rw [if_neg (by decide), if_neg (by decide), if_pos rfl]
  try rfl
theorem head_part {r : List Nat} : M6.headW M6.kPart r = (match r with | a :: 44 :: 32 :: b :: 44 :: 32 :: q => if 50 ≤ b ∧ b ≤ 52 ∧ 48 ≤ a ∧ a < b then some q else none | _ => none) := by
  unfold M6.headW
  rw [if_neg (by decide), if_neg (by decide), if_neg (by decide)]
  try rfl
theorem head_drop_yes {r : List Nat} {k : Nat} (hk : k < 9) (h : r.take 3 = [49 + k, 44, 32]) : M6.headW M6.kDrop r = some (r.drop 3) := by
  rw [head_drop]
  have e := take3 h
  rw [e]
  exact if_pos (by omega)
theorem head_drop_no {r : List Nat} (h : ∀ k, k < 9 → r.take 3 ≠ [49 + k, 44, 32]) : M6.headW M6.kDrop r = none := by
  rw [head_drop]
  split
  · rename_i c q
    refine if_neg fun z => h (c - 49) (by omega) ?_
    show [c, 44, 32] = _
    rw [show 49 + (c - 49) = c by omega]
  · rfl
theorem head_part_yes {r : List Nat} {k b : Nat} (hb : 2 ≤ b) (hb4 : b ≤ 4) (hk : k < b) (h : r.take 6 = [48 + k, 44, 32, 48 + b, 44, 32]) : M6.headW M6.kPart r = some (r.drop 6) := by
  rw [head_part]
  have e := take6 h
  rw [e]
  exact if_pos (by omega)
theorem head_part_no {r : List Nat} (h : ∀ b, 2 ≤ b → b ≤ 4 → ∀ k, k < b → r.take 6 ≠ [48 + k, 44, 32, 48 + b, 44, 32]) : M6.headW M6.kPart r = none := by
  rw [head_part]
  split
  · rename_i c b q
    refine if_neg fun z => h (b - 48) (by omega) (by omega) (c - 48) (by omega) ?_
    show [c, 44, 32, b, 44, 32] = _
    rw [show 48 + (c - 48) = c by omega, show 48 + (b - 48) = b by omega]
  · rfl
/-- the texts that are told ahead -/
def dropS (k : Nat) : Str := (toString (1 + (k : Int)) : Str) ++ ", "
def partS (b : Int) (k : Nat) : Str := (((toString (0 + (k : Int)) : Str) ++ ", ") ++ (toString b : Str)) ++ ", "
theorem drop_un {k : Nat} (h : k < 9) : dropS k = un [49 + k, 44, 32] := by
  have e := fig_un (j := 1 + k) (by omega)
  have e1 : ((1 + k : Nat) : Int) = 1 + (k : Int) := by omega
  rw [e1] at e
  refine str_of_ch ?_
  rw [ch_un]
  show (dropS k).cps.toList = _
  unfold dropS
  rw [cps_app]
  show ch (toString (1 + (k : Int)) : Str) ++ ch (", " : Str) = _
  rw [e, show ch (", " : Str) = [44, 32] by decide +kernel, show 48 + (1 + k) = 49 + k by omega]
  rfl
theorem part_un {b k : Nat} (hb : b ≤ 9) (h : k ≤ 9) : partS (b : Nat) k = un [48 + k, 44, 32, 48 + b, 44, 32] := by
  have e := fig_un (j := k) h
  have e1 : (0 + (k : Int)) = (k : Int) := by omega
  have e2 := fig_un (j := b) hb
  refine str_of_ch ?_
  rw [ch_un]
  show (partS (b : Nat) k).cps.toList = _
  unfold partS
  rw [cps_app, cps_app, cps_app, e1]
  show ((ch (toString (k : Int) : Str) ++ ch (", " : Str)) ++ ch (toString (b : Int) : Str)) ++ ch (", " : Str) = _
  rw [e, e2, show ch (", " : Str) = [44, 32] by decide +kernel]
  rfl
theorem len_app (x y : Str) : (x ++ y).length = x.length + y.length := by
  rw [← len_ch2, ← len_ch2, ← len_ch2]
  show (x ++ y).cps.toList.length = _
  rw [cps_app, List.length_append]
theorem len_le (x : Str) {n : Nat} (h : (ch x).length ≤ n) : x.length ≤ n := by rw [← len_ch2]; exact h
/-- where a reader ends, as a number -/
def Res (x : Str) (v : Int) : Option (List Nat) → Prop
  | some q => ∃ b : Nat, v = (b : Nat) ∧ b ≤ x.length ∧ (ch x).drop b = q
  | none => v = -1
def spHead6 : Sp := fun vs H Q _ => ∃ (wd : List Nat) (x : Str) (a : Nat), vs = [.str (un wd), .str x, .int (a : Nat)] ∧ wd ∈ M6.kinds ∧ x.length ≤ 400 ∧ a ≤ x.length ∧
  ∀ v H', Res x v (M6.headW wd ((ch x).drop a)) → Same H H' → Q (.int v) H'
def NHd : List Str := ["_law_word", "_law_text_here", "_law_at", "_law_size", "_law_base", "_law_k"]
section
variable {P : Program} {w : World} {K : PySem.W.Frag} {mg : Str → Option Value} {base : Heap} {f fL fH : Addr} {fd fdL fdH : FuncData}
theorem scHead6 : FnScope NHd ["_law_word", "_law_text_here", "_law_at"] (defScope s_law_head) := ⟨rfl, rfl, rfl, by decide +kernel, rfl, by decide +kernel, by decide +kernel⟩
theorem ok_head6 (F : Fun K "_law_head" "_law_head" s_law_head f fd) (Z : Bltn6 mg)
    (GL : FnOk P w K mg base CX0 1 fL fdL ["_law_text_here", "_law_at"] spLetters6) (bL : Binds K fdL ["_law_text_here", "_law_at"] []) (kL : PySem.W.keepIn K (.ref fL) = true) (mL : mg "_law_letters" = some (.ref fL)) :
    FnOk P w K mg base CX0 2 f fd ["_law_word", "_law_text_here", "_law_at"] spHead6 := by
  refine F.ok scHead6 (fun vs H Q E h => ?_) (fun cdv A outer s H vs Q E hr h => ?_)
  · obtain ⟨wd, x, a, rfl, _⟩ := h
    rfl
  obtain ⟨wd, x, a, rfl, hwd, few, ha, q⟩ := h
  have small : x.length ≤ sizeLine := Nat.le_trans few (by decide)
  refine ⟨_, pss_cons (ps_if (pt_cmpR op_in_seq (pv 0) (pe_lst (pa_cons pe_str (pa_cons pe_str pa_nil))) (by rfl)) (pss_one (ps_ret (pv 2))) pss_nil)
    (pss_cons (ps_if (pt_cmpR op_eq (pv 0) pe_str (nomark _)) (pss_cons (ps_set (i := 3) scHead6.nd rfl (Or.inl rfl) (pe_call GL hr rfl mL kL bL .nil pass0 (pa_cons (pv 1) (pa_cons (pv 2) pa_nil))))
      (pss_one (ps_ret (pe_ifExp (PW.pt (pw_and (pt_chain op_le op_le pe_int (pv 3) pe_int) (pw_and1 (pt_cmpR op_eq (pe_slice sl_str (pv 1) (po_some (pe_op op_add (pv 2) (pv 3))) (po_some (pe_op op_add (pe_op op_add (pv 2) (pv 3)) pe_int))) pe_str (nomark _)))))
        (pe_op op_add (pe_op op_add (pv 2) (pv 3)) pe_int) (pe_un un_neg pe_int))))) pss_nil)
    (pss_cons (ps_if (pt_cmpR op_eq (pv 0) pe_str (nomark _)) (pss_one (ps_ret (pe_ifExp (pt_cmpR op_in_seq (pe_slice sl_str (pv 1) (po_some (pv 2)) (po_some (pe_op op_add (pv 2) pe_int)))
        (pe_lc (own := [("_law_k", 5)]) (g := gName 5) (tt := tYes) rfl scHead6.nd (pi_range2 rfl Z.range (pa_cons pe_int (pa_cons pe_int pa_nil))) (blkOk_by (N := NHd) (sc := defScope s_law_head) (by decide +kernel))
          (fun _ _ _ _ _ => pg_name (i := 5) scHead6.nd rfl (Or.inl rfl)) (fun _ _ _ _ _ => pts_nil) (fun _ _ _ _ _ => pe_op op_add_str (pe_callTy call_str_int (by rfl) Z.str (by decide +kernel) (pa_cons (pv 5) pa_nil)) pe_str)) (by rfl))
        (pe_op op_add (pv 2) pe_int) (pe_un un_neg pe_int)))) pss_nil)
    (pss_cons (ps_for PassesOwn.never rfl (pi_list (pe_lst (pa_cons pe_int (pa_cons pe_int (pa_cons pe_int pa_nil))))) (pg_name (i := 4) scHead6.nd rfl (Or.inr rfl))
      (pss_one (ps_if (pt_cmpR op_in_seq (pe_slice sl_str (pv 1) (po_some (pv 2)) (po_some (pe_op op_add (pv 2) pe_int)))
        (pe_lc (own := [("_law_k", 5)]) (g := gName 5) (tt := tYes) rfl scHead6.nd (pi_range1 rfl Z.range (pa_cons (pv 4) pa_nil)) (blkOk_by (N := NHd) (sc := defScope s_law_head) (by decide +kernel))
          (fun _ _ _ _ _ => pg_name (i := 5) scHead6.nd rfl (Or.inl rfl)) (fun _ _ _ _ _ => pts_nil) (fun _ _ _ _ _ => pe_op op_add_str (pe_op op_add_str (pe_op op_add_str (pe_callTy call_str_int (by rfl) Z.str (by decide +kernel) (pa_cons (pv 5) pa_nil)) pe_str)
            (pe_callTy call_str_int (by rfl) Z.str (by decide +kernel) (pa_cons (pv 4) pa_nil))) pe_str)) (by rfl)) (pss_one (ps_ret (pe_op op_add (pv 2) pe_int))) pss_nil)))
    (pss_one (ps_ret (pe_un un_neg pe_int)))))), ?_⟩
  obtain ⟨r, hr'⟩ : ∃ r, (ch x).drop a = r := ⟨_, rfl⟩
  rw [hr'] at q
  have lx := len_ch2 x
  have lr : r.length = x.length - a := by rw [← hr', List.length_drop, lx]
  have dr : ∀ k, (ch x).drop (a + k) = r.drop k := fun k => by rw [← hr', List.drop_drop]
  have res : ∀ {k : Nat} {v : Int}, v = (a : Int) + k → k ≤ r.length → Res x v (some (r.drop k)) := fun {k v} e hk => ⟨a + k, by omega, by omega, dr k⟩
  have wk : wd = M6.kWeave ∨ wd = M6.kPart ∨ wd = M6.kDrop ∨ wd = M6.kLead ∨ wd = M6.kTurn := by simpa [M6.kinds] using hwd
  obtain ⟨u1, u2, u3, u4, u5⟩ := un_kinds
  refine ⟨_, rfl, (by show 2 ≤ sizeLine; decide), fun p hp => ?_⟩
  have s1 := same_new hp (.lst [V.str "weave", V.str "lead"])
  obtain ⟨H1, eH1, s1, hp1⟩ : ∃ H1, upd H p (.lst [V.str "weave", V.str "lead"]) = H1 ∧ Same H H1 ∧ H1 p = some (.lst [V.str "weave", V.str "lead"]) := ⟨_, rfl, s1, upd_same⟩
  rw [eH1]
  refine ⟨p, _, rfl, .inl (SqL.of hp1), rfl, by decide +kernel, _, rfl, ?_⟩
  rcases wk with rfl | rfl | rfl | rfl | rfl
  · rw [u1, show (if false = true then !inV (V.str "weave") [V.str "weave", V.str "lead"] else inV (V.str "weave") [V.str "weave", V.str "lead"]) = true by decide +kernel]
    exact iteT ⟨_, rfl, q _ _ (by rw [head_all.1]; exact res (k := 0) (by omega) (Nat.zero_le _)) s1⟩
  · rw [u2, show (if false = true then !inV (V.str "part") [V.str "weave", V.str "lead"] else inV (V.str "part") [V.str "weave", V.str "lead"]) = false by decide +kernel]
    refine iteF ⟨_, rfl, rfl, _, rfl, ?_⟩
    rw [str_ne (by decide +kernel)]
    refine iteF ⟨_, rfl, rfl, _, rfl, ?_⟩
    rw [str_ne (by decide +kernel)]
    refine iteF ?_
    refine ⟨(by show 3 ≤ sizeLine; decide), fun p2 hp2 => ?_⟩
    have s2 := s1.trans (same_new hp2 (.lst [V.int 2, V.int 3, V.int 4]))
    obtain ⟨H2, eH2, s2, h2⟩ : ∃ H2, upd H1 p2 (.lst [V.int 2, V.int 3, V.int 4]) = H2 ∧ Same H H2 ∧ H2 p2 = some (.lst [V.int 2, V.int 3, V.int 4]) := ⟨_, rfl, s2, upd_same⟩
    rw [eH2]
    refine ⟨p2, rfl, ⟨_, SqL.of h2⟩, for_list (K := K) (a := p2) (xs := [V.int 2, V.int 3, V.int 4])
      (fun i σ H' => ∃ o4, σ = [some (.str "part"), some (.str x), some (.int (a : Nat)), none, o4, none] ∧ Same H2 H' ∧ ∀ b, 2 ≤ b → b < 2 + i → ∀ k, k < b → r.take 6 ≠ [48 + k, 44, 32, 48 + b, 44, 32])
      ⟨_, rfl, Same.refl _, fun b h1 h2 => absurd h2 (by omega)⟩ (fun i σ H' _ ⟨_, _, s, _⟩ => SqL.of (s _ _ h2)) ?_ ?_⟩
    · rintro i y σ H' hy ⟨o4, rfl, s3, no⟩
      have hi : i < 3 := (List.getElem?_eq_some_iff.mp hy).1
      have ey : y = V.int ((2 + i : Nat) : Int) := by
        match i, hi, hy with
        | 0, _, hy => cases hy; rfl
        | 1, _, hy => cases hy; rfl
        | 2, _, hy => cases hy; rfl
      subst ey
      obtain ⟨b, hb⟩ : ∃ b, 2 + i = b := ⟨_, rfl⟩
      rw [hb]
      have cut : cutS x (some (a : Int)) (some ((a : Int) + 6)) = un (r.take 6) := by
        have e : ((a : Int) + 6) = ((a + 6 : Nat) : Int) := by omega
        rw [e, cut_un x (by omega), hr', show a + 6 - a = 6 by omega]
      obtain ⟨b1, b2⟩ := small62 (i := (b : Int)) (by omega) (by omega)
      refine ⟨_, rfl, _, rfl, _, rfl, _, rfl, _, _, rfl, rfl, _, rfl, _, rfl, small, ?_⟩
      rw [cut]
      refine ⟨_, rfl, _, rfl, b1, b2, fun D hD => ?_⟩
      refine lc_range (n := (b : Int).toNat) (fun i H3 => Same H' H3 ∧ H3 D = some (.lst (((List.range i).map fun k => partS (b : Nat) k).map V.str))) ⟨same_new hD _, upd_same⟩ ?_ ?_
      · rintro j H3 hj ⟨s4, h4⟩
        have hj : j < b := by omega
        have ls : ∀ {m : Nat} {y : Str}, y = un [48 + m] → y.length = 1 := fun {m y} e => by rw [e]; rfl
        have f1 : (toString (0 + (j : Int)) : Str).length = 1 := by
          rw [← len_ch2, show (0 + (j : Int)) = (j : Int) by omega, fig_un (by omega)]
          rfl
        have f2 : (toString ((b : Nat) : Int) : Str).length = 1 := by
          rw [← len_ch2, fig_un (by omega)]
          rfl
        have f3 : (", " : Str).length = 2 := by decide +kernel
        have l1 : ((toString (0 + (j : Int)) : Str) ++ ", ").length = 3 := by rw [len_app, f1, f3]
        have l2 : (((toString (0 + (j : Int)) : Str) ++ ", ") ++ (toString ((b : Nat) : Int) : Str)).length = 4 := by rw [len_app, l1, f2]
        have sl : ∀ n : Nat, n ≤ 10 → n ≤ sizeLine := fun n h => Nat.le_trans h (by decide)
        refine ⟨rfl, turn_yes ⟨_, rfl, _, rfl, ?_, _, _, rfl, rfl, sl _ (by omega), _, rfl, _, rfl, ?_, _, _, rfl, rfl, sl _ (by omega), _, _, rfl, rfl, sl _ (by omega), ?_⟩⟩
        · exact small_log (by omega)
        · exact small_log (by omega)
        refine ⟨_, h4, ?_, fun b' o hb' => ?_, ?_⟩
        · rw [List.length_map, List.length_map, List.length_range]
          exact Nat.lt_of_le_of_lt (by omega : _ ≤ 10000) (by decide)
        · rw [upd_ne (ne_of_none hb' hD)]
          exact s4 b' o hb'
        · rw [upd_same, List.range_succ, List.map_append, List.map_append]
          rfl
      rintro H3 ⟨s4, h4⟩
      have tb : (b : Int).toNat = b := by omega
      rw [tb] at h4
      refine ⟨D, _, rfl, .inl (SqL.of h4), rfl, flat_strs _, _, rfl, ?_⟩
      rw [if_neg (by decide), inV_str]
      by_cases hit : ∃ k, k < b ∧ r.take 6 = [48 + k, 44, 32, 48 + b, 44, 32]
      · obtain ⟨k, hk, ek⟩ := hit
        rw [decide_eq_true (List.mem_map.mpr ⟨k, List.mem_range.mpr hk, by rw [part_un (by omega) (by omega), ek]⟩)]
        have l6 : 6 ≤ r.length := by
          have := congrArg List.length ek
          rw [List.length_take] at this
          simp only [List.length_cons, List.length_nil] at this
          omega
        refine iteT ⟨_, rfl, _, _, rfl, rfl, q _ _ ?_ (s2.trans (s3.trans s4))⟩
        rw [head_part_yes (by omega) (by omega) hk ek]
        exact res (k := 6) rfl l6
      · rw [decide_eq_false (fun z => by
          obtain ⟨k, hk, ek⟩ := List.mem_map.mp z
          have hk := List.mem_range.mp hk
          rw [part_un (by omega) (by omega)] at ek
          exact hit ⟨k, hk, (un_inj ek).symm⟩)]
        refine iteF ⟨_, rfl, s3.trans s4, fun b' h1 h2 k hk ek => ?_⟩
        rcases Nat.lt_or_ge b' (2 + i) with z | z
        · exact no b' h1 z k hk ek
        · have : b' = b := by omega
          subst this
          exact hit ⟨k, hk, ek⟩
    · rintro σ H' ⟨o4, rfl, s3, no⟩
      refine ⟨_, rfl, q _ _ ?_ (s2.trans s3)⟩
      rw [head_part_no fun b h1 h2 => no b h1 (by show b < 2 + 3; omega)]
      rfl
  · rw [u3, show (if false = true then !inV (V.str "drop") [V.str "weave", V.str "lead"] else inV (V.str "drop") [V.str "weave", V.str "lead"]) = false by decide +kernel]
    refine iteF ⟨_, rfl, rfl, _, rfl, ?_⟩
    rw [str_ne (by decide +kernel)]
    refine iteF ⟨_, rfl, rfl, _, rfl, ?_⟩
    rw [decide_eq_true rfl]
    refine iteT ?_
    have cut : cutS x (some (a : Int)) (some ((a : Int) + 3)) = un (r.take 3) := by
      have e : ((a : Int) + 3) = ((a + 3 : Nat) : Int) := by omega
      rw [e, cut_un x (by omega), hr', show a + 3 - a = 3 by omega]
    refine ⟨_, rfl, _, rfl, _, rfl, _, rfl, _, _, rfl, rfl, _, rfl, _, rfl, small, ?_⟩
    rw [cut]
    refine ⟨_, _, rfl, by decide, fun D hD => ?_⟩
    refine lc_range (lo := 1) (n := 9) (fun i H3 => Same H1 H3 ∧ H3 D = some (.lst (((List.range i).map dropS).map V.str))) ⟨same_new hD _, upd_same⟩ ?_ ?_
    · rintro j H3 hj ⟨s4, h4⟩
      have f1 : (toString (1 + (j : Int)) : Str).length = 1 := by
        have := fig_un (j := 1 + j) (by omega)
        rw [show ((1 + j : Nat) : Int) = 1 + (j : Int) by omega] at this
        rw [← len_ch2, this]
        rfl
      have f3 : (", " : Str).length = 2 := by decide +kernel
      refine ⟨rfl, turn_yes ⟨_, rfl, _, rfl, small_log (by omega), _, _, rfl, rfl, Nat.le_trans (by omega : _ ≤ 10) (by decide), ?_⟩⟩
      refine ⟨_, h4, ?_, fun b' o hb' => ?_, ?_⟩
      · rw [List.length_map, List.length_map, List.length_range]
        exact Nat.lt_of_le_of_lt (by omega : _ ≤ 10000) (by decide)
      · rw [upd_ne (ne_of_none hb' hD)]
        exact s4 b' o hb'
      · rw [upd_same, List.range_succ, List.map_append, List.map_append]
        rfl
    rintro H3 ⟨s4, h4⟩
    refine ⟨D, _, rfl, .inl (SqL.of h4), rfl, flat_strs _, _, rfl, ?_⟩
    rw [if_neg (by decide), inV_str]
    by_cases hit : ∃ k, k < 9 ∧ r.take 3 = [49 + k, 44, 32]
    · obtain ⟨k, hk, ek⟩ := hit
      rw [decide_eq_true (List.mem_map.mpr ⟨k, List.mem_range.mpr hk, by rw [drop_un hk, ek]⟩)]
      have l3 : 3 ≤ r.length := by
        have := congrArg List.length ek
        rw [List.length_take] at this
        simp only [List.length_cons, List.length_nil] at this
        omega
      refine iteT ⟨_, rfl, _, _, rfl, rfl, q _ _ ?_ (s1.trans s4)⟩
      rw [head_drop_yes hk ek]
      exact res (k := 3) rfl l3
    · rw [decide_eq_false (fun z => by
        obtain ⟨k, hk, ek⟩ := List.mem_map.mp z
        have hk := List.mem_range.mp hk
        rw [drop_un hk] at ek
        exact hit ⟨k, hk, (un_inj ek).symm⟩)]
      refine iteF ⟨_, rfl, q _ _ ?_ (s1.trans s4)⟩
      rw [head_drop_no fun k hk ek => hit ⟨k, hk, ek⟩]
      rfl
  · rw [u4, show (if false = true then !inV (V.str "lead") [V.str "weave", V.str "lead"] else inV (V.str "lead") [V.str "weave", V.str "lead"]) = true by decide +kernel]
    exact iteT ⟨_, rfl, q _ _ (by rw [head_all.2]; exact res (k := 0) (by omega) (Nat.zero_le _)) s1⟩
  · rw [u5, show (if false = true then !inV (V.str "turn") [V.str "weave", V.str "lead"] else inV (V.str "turn") [V.str "weave", V.str "lead"]) = false by decide +kernel]
    refine iteF ⟨_, rfl, rfl, _, rfl, ?_⟩
    rw [decide_eq_true rfl]
    refine iteT ⟨_, rfl, _, rfl, x, a, rfl, few, by omega, ?_⟩
    rw [hr']
    rw [head_turn] at q
    have ll : lets r ≤ r.length := by
      unfold lets
      have := congrArg List.length (M6.tw_drop r)
      rw [List.length_append] at this
      omega
    obtain ⟨n, hn⟩ : ∃ n, lets r = n := ⟨_, rfl⟩
    rw [hn] at q ll ⊢
    have cut : cutS x (some ((a : Int) + (n : Int))) (some ((a : Int) + (n : Int) + 2)) = un ((r.drop n).take 2) := by
      have e : ((a : Int) + (n : Int)) = ((a + n : Nat) : Int) := by omega
      have e2 : (((a + n : Nat) : Int) + 2) = ((a + n + 2 : Nat) : Int) := by omega
      rw [e, e2, cut_un x (by omega), dr, show a + n + 2 - (a + n) = 2 by omega]
    refine ⟨_, rfl, _, _, rfl, rfl, _, rfl, ?_⟩
    have bad : ¬ (1 ≤ n ∧ n ≤ 4 ∧ (r.drop n).take 2 = [44, 32]) → ∀ {H' : Hp}, Same H H' → Q (.int (-1)) H' := fun z H' s => q _ _ (by rw [if_neg z]; rfl) s
    by_cases c1 : 1 ≤ n
    case neg =>
      rw [decide_eq_false (by omega)]
      exact iteF ⟨_, rfl, iteF (iteF ⟨_, rfl, bad (fun z => c1 z.1) s1⟩)⟩
    rw [decide_eq_true (by omega)]
    refine iteT ⟨_, _, rfl, rfl, _, rfl, ?_⟩
    by_cases c2 : n ≤ 4
    case neg =>
      rw [decide_eq_false (by omega)]
      exact iteF (iteF ⟨_, rfl, bad (fun z => c2 z.2.1) s1⟩)
    rw [decide_eq_true (by omega)]
    refine iteT ⟨_, rfl, _, rfl, _, rfl, _, _, rfl, rfl, _, rfl, _, rfl, _, rfl, _, _, rfl, rfl, _, _, rfl, rfl, _, rfl, _, rfl, small, ?_⟩
    rw [cut]
    refine ⟨rfl, _, rfl, ?_⟩
    rw [un_eq, show ch (", " : Str) = [44, 32] by decide +kernel]
    by_cases c3 : (r.drop n).take 2 = [44, 32]
    case neg =>
      rw [decide_eq_false c3]
      exact iteF ⟨_, rfl, bad (fun z => c3 z.2.2) s1⟩
    rw [decide_eq_true c3]
    refine iteT ⟨_, rfl, _, rfl, _, _, rfl, rfl, _, _, rfl, rfl, q _ _ ?_ s1⟩
    rw [if_pos ⟨c1, c2, c3⟩]
    have l2 : n + 2 ≤ r.length := by
      have := congrArg List.length c3
      rw [List.length_take, List.length_drop] at this
      simp only [List.length_cons, List.length_nil] at this
      omega
    exact res (k := n + 2) (by omega) l2
end
end Wp

/-! k06: the law's own reader -/
namespace M6
theorem headW_len {w r q : List Nat} (h : headW w r = some q) : q.length ≤ r.length := by
  unfold headW at h
  split at h
  · cases h; exact Nat.le_refl _
  · split at h
    · split at h
      · cases h
        rw [List.length_drop]
        omega
      · cases h
    · split at h
      · split at h
        · rename_i c q'
          split at h
          · cases h
            simp only [List.length_cons]
            omega
          · cases h
        · cases h
      · split at h
        · rename_i a b q'
          split at h
          · cases h
            simp only [List.length_cons]
            omega
          · cases h
        · cases h
theorem end_len {n : Nat} {l r : List Nat} (h : endF n l = some r) : r.length ≤ l.length := by
  obtain ⟨t, _, e⟩ := end_inv n l r h
  rw [e, List.length_append]
  omega
theorem loop_congr {f g : List Nat → Option (List Nat)} {m : Nat} (len : ∀ s q, f s = some q → q.length ≤ s.length) : ∀ {j k : Nat} {r : List Nat}, (∀ s : List Nat, s.length ≤ r.length → f s = g s) → loopE f m j k r = loopE g m j k r
  | 0, _, _, _ => rfl
  | j + 1, k, r, h => by
    show (f r).bind _ = (g r).bind _
    rw [← h r (Nat.le_refl _)]
    cases hf : f r with
    | none => rfl
    | some q =>
      have l := len r q hf
      show (if q.take 1 = [41] then (if min m 2 ≤ k + 1 then some (q.drop 1) else none) else if q.take 2 = [44, 32] then loopE f m j (k + 1) (q.drop 2) else none) = (if q.take 1 = [41] then (if min m 2 ≤ k + 1 then some (q.drop 1) else none) else if q.take 2 = [44, 32] then loopE g m j (k + 1) (q.drop 2) else none)
      rw [loop_congr len (fun s hs => h s (by rw [List.length_drop] at hs; omega))]
theorem kinds_len : ∀ w ∈ kinds, 4 ≤ w.length := by decide
/-- what stands behind a word that opens is shorter by five -/
theorem rest_len {l : List Nat} (h1 : l.takeWhile low ∈ kinds) (h2 : (l.drop (l.takeWhile low).length).take 1 = [40]) : (l.drop ((l.takeWhile low).length + 1)).length + 5 ≤ l.length := by
  have a := kinds_len _ h1
  have b := congrArg List.length h2
  rw [List.length_take, List.length_drop] at b
  simp only [List.length_cons, List.length_nil] at b
  rw [List.length_drop]
  omega
/-- enough fuel -/
theorem end_fuel : ∀ (n m : Nat) (l : List Nat), l.length < 5 * n → l.length < 5 * m → endF n l = endF m l
  | 0, _, _, h, _ => absurd h (Nat.not_lt_zero _)
  | _, 0, _, _, h => absurd h (Nat.not_lt_zero _)
  | n + 1, m + 1, l, hn, hm => by
    unfold endF
    split
    · rfl
    · split
      · rfl
      · rename_i h1
        split
        · rfl
        · rename_i h2
          have h1 : l.takeWhile low ∈ kinds := Classical.not_not.mp h1
          have h2 : (l.drop (l.takeWhile low).length).take 1 = [40] := Classical.not_not.mp h2
          have rl := rest_len h1 h2
          cases hh : headW (l.takeWhile low) (l.drop ((l.takeWhile low).length + 1)) with
          | none => rfl
          | some r =>
            have hl := headW_len hh
            show loopE (endF n) _ _ _ r = loopE (endF m) _ _ _ r
            exact loop_congr (fun s q h => end_len h) fun s hs => end_fuel n m s (by omega) (by omega)
end M6
namespace Wp
open PySem PySem.Spec PyProof.Rows L2 Hx
def spEnd6 (n : Nat) : Sp := fun vs H Q _ => ∃ (x : Str) (a : Nat), vs = [.str x, .int (a : Nat)] ∧ x.length ≤ 400 ∧ a ≤ x.length ∧ ((ch x).drop a).length < 5 * n ∧ ∀ v H', Res x v (M6.endF n ((ch x).drop a)) → Same H H' → Q (.int v) H'
def NEn : List Str := ["_law_text_here", "_law_at", "_law_size", "_law_word", "_law_most", "_law_k"]
section
variable {P : Program} {w : World} {K : PySem.W.Frag} {mg : Str → Option Value} {base : Heap} {f fL fH : Addr} {fd fdL fdH : FuncData}
theorem scEnd6 : FnScope NEn ["_law_text_here", "_law_at"] (defScope s_law_end) := ⟨rfl, rfl, rfl, by decide +kernel, rfl, by decide +kernel, by decide +kernel⟩
def mostD : List (Key × V) := [(.inr "weave", .int 4), (.inr "lead", .int 2), (.inr "part", .int 1), (.inr "drop", .int 1), (.inr "turn", .int 1)]
theorem most_at : ∀ wd ∈ M6.kinds, valV (mergeK [] mostD) (.inr (un wd)) = some (.int (M6.most wd : Nat)) := by decide +kernel
theorem ok_end6 (F : Fun K "_law_end" "_law_end" s_law_end f fd) (Z : Bltn6 mg) (bE : Binds K fd ["_law_text_here", "_law_at"] []) (kE : PySem.W.keepIn K (.ref f) = true) (mE : mg "_law_end" = some (.ref f))
    (GL : FnOk P w K mg base CX0 1 fL fdL ["_law_text_here", "_law_at"] spLetters6) (bL : Binds K fdL ["_law_text_here", "_law_at"] []) (kL : PySem.W.keepIn K (.ref fL) = true) (mL : mg "_law_letters" = some (.ref fL))
    (GH : FnOk P w K mg base CX0 2 fH fdH ["_law_word", "_law_text_here", "_law_at"] spHead6) (bH : Binds K fdH ["_law_word", "_law_text_here", "_law_at"] []) (kH : PySem.W.keepIn K (.ref fH) = true) (mH : mg "_law_head" = some (.ref fH)) :
    ∀ n, FnOk P w K mg base CX0 (3 + n) f fd ["_law_text_here", "_law_at"] (spEnd6 n)
  | 0 => by
    refine F.ok scEnd6 (fun vs H Q E h => ?_) (fun cdv A outer s H vs Q E hr h => ?_)
    · obtain ⟨x, a, rfl, _⟩ := h
      rfl
    · obtain ⟨x, a, _, _, _, h, _⟩ := h
      exact absurd h (Nat.not_lt_zero _)
  | n + 1 => by
    have GE := ok_end6 F Z bE kE mE GL bL kL mL GH bH kH mH n
    refine F.ok scEnd6 (fun vs H Q E h => ?_) (fun cdv A outer s H vs Q E hr h => ?_)
    · obtain ⟨x, a, rfl, _⟩ := h
      rfl
    obtain ⟨x, a, rfl, few, ha, hn, q⟩ := h
    have small : x.length ≤ sizeLine := Nat.le_trans few (by decide)
    have r1 := hr.mono (by omega : 1 ≤ 3 + n)
    have r2 := hr.mono (by omega : 2 ≤ 3 + n)
    have hu : (A.deeper (envOfC "_law_end" (defScope s_law_end) s.heap.objs.size f cdv)).units + 1 < cLine := by have := hr.un; omega
    refine ⟨_, pss_cons (ps_if (pt_cmpR op_eq (pe_slice sl_str (pv 0) (po_some (pv 1)) (po_some (pe_op op_add (pv 1) pe_int))) pe_str (nomark _))
        (pss_one (ps_ret (pe_ifExp (PW.pt (pw_and (pt_cmpR op_eq (pe_call GL r1 rfl mL kL bL .nil pass0 (pa_cons (pv 0) (pa_cons (pe_op op_add (pv 1) pe_int) pa_nil))) pe_int (nomark _))
          (pw_and1 (pt_cmpR op_eq (pe_slice sl_str (pv 0) (po_some (pe_op op_add (pv 1) pe_int)) (po_some (pe_op op_add (pv 1) pe_int))) pe_str (nomark _))))) (pe_op op_add (pv 1) pe_int) (pe_un un_neg pe_int)))) pss_nil)
      (pss_cons (ps_set (i := 2) scEnd6.nd rfl (Or.inl rfl) (pe_call GL r1 rfl mL kL bL .nil pass0 (pa_cons (pv 0) (pa_cons (pv 1) pa_nil))))
      (pss_cons (ps_set (i := 3) scEnd6.nd rfl (Or.inl rfl) (pe_slice sl_str (pv 0) (po_some (pv 1)) (po_some (pe_op op_add (pv 1) (pv 2)))))
      (pss_cons (ps_if (pt_cmpR op_notIn_seq (pv 3) (pe_lst (pa_cons pe_str (pa_cons pe_str (pa_cons pe_str (pa_cons pe_str (pa_cons pe_str pa_nil)))))) (by rfl))
        (pss_one (ps_ret (pe_ifExp (pt_chain op_le op_le pe_int (pv 2) pe_int) (pe_op op_add (pv 1) (pv 2)) (pe_un un_neg pe_int)))) pss_nil)
      (pss_cons (ps_if (pt_cmpR op_ne (pe_slice sl_str (pv 0) (po_some (pe_op op_add (pv 1) (pv 2))) (po_some (pe_op op_add (pe_op op_add (pv 1) (pv 2)) pe_int))) pe_str (nomark _)) (pss_one (ps_ret (pe_un un_neg pe_int))) pss_nil)
      (pss_cons (ps_set (i := 1) scEnd6.nd rfl (Or.inl rfl) (pe_call GH r2 rfl mH kH bH .nil pass0 (pa_cons (pv 3) (pa_cons (pv 0) (pa_cons (pe_op op_add (pe_op op_add (pv 1) (pv 2)) pe_int) pa_nil)))))
      (pss_cons (ps_set (i := 4) scEnd6.nd rfl (Or.inl rfl) (pe_dget hu (pe_disp (pps_cons pe_str pe_int (pps_cons pe_str pe_int (pps_cons pe_str pe_int (pps_cons pe_str pe_int (pps_cons pe_str pe_int pps_nil))))) (by rfl) (by rfl) (fun z => by cases z) (by decide)) (pv 3) (fun _ _ => rfl)))
      (pss_cons (ps_for PassesOwn.never rfl (pi_range1 rfl Z.range (pa_cons (pv 4) pa_nil)) (pg_name (i := 5) scEnd6.nd rfl (Or.inl rfl))
        (pss_cons (ps_set (i := 1) scEnd6.nd rfl (Or.inl rfl) (pe_ifExp (pt_cmpR op_ge (pv 1) pe_int (nomark _)) (pe_call GE hr rfl mE kE bE .nil pass0 (pa_cons (pv 0) (pa_cons (pv 1) pa_nil))) (pe_un un_neg pe_int)))
        (pss_cons (ps_if (pt_cmpR op_lt (pv 1) pe_int (nomark _)) (pss_one (ps_ret (pe_un un_neg pe_int))) pss_nil)
        (pss_cons (ps_if (pt_cmpR op_eq (pe_slice sl_str (pv 0) (po_some (pv 1)) (po_some (pe_op op_add (pv 1) pe_int))) pe_str (nomark _))
          (pss_one (ps_ret (pe_ifExp (pt_cmpR op_ge (pe_op op_add (pv 5) pe_int) (pe_callB (call_min2 rfl) (by rfl) Z.min PyProof.Rows.boot_min (pa_cons (pv 4) (pa_cons pe_int pa_nil))) (nomark _)) (pe_op op_add (pv 1) pe_int) (pe_un un_neg pe_int)))) pss_nil)
        (pss_one (ps_set (i := 1) scEnd6.nd rfl (Or.inl rfl) (pe_ifExp (pt_cmpR op_eq (pe_slice sl_str (pv 0) (po_some (pv 1)) (po_some (pe_op op_add (pv 1) pe_int))) pe_str (nomark _)) (pe_op op_add (pv 1) pe_int) (pe_un un_neg pe_int))))))))
      (pss_one (ps_ret (pe_un un_neg pe_int)))))))))), ?_⟩
    obtain ⟨l, hl⟩ : ∃ l, (ch x).drop a = l := ⟨_, rfl⟩
    rw [hl] at q hn
    have lx := len_ch2 x
    have ll : l.length = x.length - a := by rw [← hl, List.length_drop, lx]
    have dr : ∀ k, (ch x).drop (a + k) = l.drop k := fun k => by rw [← hl, List.drop_drop]
    have cut : ∀ {i j : Int} (k m : Nat), i = (a : Int) + k → j = (a : Int) + m → k ≤ m → cutS x (some i) (some j) = un ((l.drop k).take (m - k)) := fun {i j} k m e1 e2 h => by
      have e1 : i = ((a + k : Nat) : Int) := by omega
      have e2 : j = ((a + m : Nat) : Int) := by omega
      rw [e1, e2, cut_un x (by omega), dr, show a + m - (a + k) = m - k by omega]
    have res : ∀ {k : Nat} {v : Int}, v = (a : Int) + k → k ≤ l.length → Res x v (some (l.drop k)) := fun {k v} e hk => ⟨a + k, by omega, by omega, dr k⟩
    have letl : ∀ k, lets k ≤ k.length := fun k => by
      unfold lets
      have := congrArg List.length (M6.tw_drop k)
      rw [List.length_append] at this
      omega
    have sg : ∀ {t : List Nat} {y : Str} {c : Nat}, ch y = [c] → decide (V.str (un t) = V.str y) = decide (t = [c]) := fun {t y c} e => by rw [un_eq, e]
    have e39 : ch ("'" : Str) = [39] := by decide +kernel
    have e40 : ch ("(" : Str) = [40] := by decide +kernel
    have e41 : ch (")" : Str) = [41] := by decide +kernel
    refine ⟨_, rfl, _, rfl, _, rfl, _, rfl, _, _, rfl, rfl, _, rfl, _, rfl, small, rfl, _, rfl, ?_⟩
    rw [cut 0 1 (by omega) (by omega) (by omega), sg e39]
    have d0 : (l.drop 0).take (1 - 0) = l.take 1 := rfl
    rw [d0]
    by_cases hq : l.take 1 = [39]
    case pos =>
      have en : M6.endF (n + 1) l = if lets (l.drop 1) = 1 ∧ (l.drop 2).take 1 = [39] then some (l.drop 3) else none := if_pos hq
      rw [en] at q
      rw [decide_eq_true hq]
      refine iteT ⟨_, rfl, _, rfl, _, _, rfl, rfl, x, a + 1, rfl, few, by omega, ?_⟩
      rw [dr 1]
      refine ⟨rfl, _, rfl, ?_⟩
      have bad : ¬ (lets (l.drop 1) = 1 ∧ (l.drop 2).take 1 = [39]) → Q (.int (-1)) H := fun z => q _ _ (by rw [if_neg z]; rfl) (Same.refl _)
      by_cases h1 : lets (l.drop 1) = 1
      case neg =>
        rw [decide_eq_false (fun z => h1 (by have := V.int.inj z; omega))]
        exact iteF (iteF ⟨_, rfl, bad fun z => h1 z.1⟩)
      rw [decide_eq_true (congrArg V.int (by omega))]
      refine iteT ⟨_, rfl, _, rfl, _, _, rfl, rfl, _, rfl, _, rfl, _, _, rfl, rfl, _, rfl, _, rfl, small, rfl, _, rfl, ?_⟩
      rw [cut 2 3 (by omega) (by omega) (by omega), sg e39]
      by_cases h2 : (l.drop 2).take 1 = [39]
      case neg =>
        rw [decide_eq_false h2]
        exact iteF ⟨_, rfl, bad fun z => h2 z.2⟩
      rw [decide_eq_true h2]
      refine iteT ⟨_, rfl, _, _, rfl, rfl, q _ _ ?_ (Same.refl _)⟩
      rw [if_pos ⟨h1, h2⟩]
      have := congrArg List.length h2
      rw [List.length_take, List.length_drop] at this
      simp only [List.length_cons, List.length_nil] at this
      exact res (k := 3) (by omega) (by omega)
    rw [decide_eq_false hq]
    refine iteF ⟨_, rfl, _, rfl, x, a, rfl, few, by omega, ?_⟩
    rw [hl]
    have len := letl l
    obtain ⟨sz, hsz⟩ : ∃ sz, lets l = sz := ⟨_, rfl⟩
    rw [hsz] at len ⊢
    have tw : l.takeWhile M6.low = l.take sz := by
      have e := congrArg (List.take sz) (M6.tw_drop l)
      rw [← hsz] at e ⊢
      rw [e]
      unfold lets
      rw [List.take_left]
    refine ⟨_, rfl, _, rfl, _, rfl, _, rfl, _, rfl, _, _, rfl, rfl, _, rfl, _, rfl, small, ?_⟩
    rw [cut 0 sz (by omega) (by omega) (by omega)]
    have d1 : (l.drop 0).take (sz - 0) = l.take sz := rfl
    rw [d1, ← tw]
    obtain ⟨wd, hw⟩ : ∃ wd, l.takeWhile M6.low = wd := ⟨_, rfl⟩
    have lw : wd.length = sz := by rw [← hw, ← hsz]; rfl
    rw [hw]
    refine ⟨_, rfl, (by show 5 ≤ sizeLine; decide), fun p hp => ?_⟩
    obtain ⟨H1, eH1, s1, hp1⟩ : ∃ H1, upd H p (.lst [V.str "weave", .str "part", .str "drop", .str "lead", .str "turn"]) = H1 ∧ Same H H1 ∧ H1 p = some (.lst [V.str "weave", .str "part", .str "drop", .str "lead", .str "turn"]) := ⟨_, rfl, same_new hp _, upd_same⟩
    rw [eH1]
    refine ⟨p, _, rfl, .inl (SqL.of hp1), rfl, by decide +kernel, _, rfl, ?_⟩
    rw [if_pos rfl]
    have em : inV (V.str (un wd)) [V.str "weave", .str "part", .str "drop", .str "lead", .str "turn"] = decide (wd ∈ M6.kinds) := by
      have e := inV_str (x := un wd) (l := M6.kinds.map un)
      have e2 : (M6.kinds.map un).map V.str = [V.str "weave", .str "part", .str "drop", .str "lead", .str "turn"] := by rw [kinds_un]; rfl
      rw [e2] at e
      rw [e, Bool.eq_iff_iff, decide_eq_true_eq, decide_eq_true_eq]
      constructor
      · intro z
        obtain ⟨y, hy, e⟩ := List.mem_map.mp z
        rwa [← un_inj e]
      · exact fun z => List.mem_map.mpr ⟨wd, z, rfl⟩
    rw [em]
    by_cases hwd : wd ∈ M6.kinds
    case neg =>
      have en : M6.endF (n + 1) l = if 1 ≤ wd.length ∧ wd.length ≤ 8 then some (l.drop wd.length) else none := by
        unfold M6.endF
        rw [if_neg hq, hw, if_pos hwd]
      rw [en, lw] at q
      rw [decide_eq_false hwd, Bool.not_false]
      refine iteT ⟨_, rfl, _, _, rfl, rfl, _, rfl, ?_⟩
      have bad : ¬ (1 ≤ sz ∧ sz ≤ 8) → Q (.int (-1)) H1 := fun z => q _ _ (by rw [if_neg z]; rfl) s1
      by_cases c1 : 1 ≤ sz
      case neg =>
        rw [decide_eq_false (by omega)]
        exact iteF ⟨_, rfl, iteF ⟨_, rfl, bad fun z => c1 z.1⟩⟩
      rw [decide_eq_true (by omega)]
      refine iteT ⟨_, _, rfl, rfl, _, rfl, ?_⟩
      by_cases c2 : sz ≤ 8
      case neg =>
        rw [decide_eq_false (by omega)]
        exact iteF ⟨_, rfl, bad fun z => c2 z.2⟩
      rw [decide_eq_true (by omega)]
      refine iteT ⟨_, rfl, _, rfl, _, _, rfl, rfl, q _ _ ?_ s1⟩
      rw [if_pos ⟨c1, c2⟩]
      exact res rfl len
    rw [decide_eq_true hwd, Bool.not_true]
    refine iteF ⟨_, rfl, _, rfl, _, rfl, _, _, rfl, rfl, _, rfl, _, rfl, _, rfl, _, _, rfl, rfl, _, _, rfl, rfl, _, rfl, _, rfl, small, rfl, _, rfl, ?_⟩
    rw [cut sz (sz + 1) (by omega) (by omega) (by omega), sg e40, show sz + 1 - sz = 1 by omega]
    by_cases ho : (l.drop sz).take 1 = [40]
    case neg =>
      have en : M6.endF (n + 1) l = none := by
        unfold M6.endF
        rw [if_neg hq, hw, if_neg (fun z => z hwd), lw, if_pos ho]
      rw [en] at q
      rw [decide_eq_false ho, Bool.not_false]
      exact iteT ⟨_, rfl, q _ _ rfl s1⟩
    have en : M6.endF (n + 1) l = (M6.headW wd (l.drop (sz + 1))).bind fun r => M6.loopE (M6.endF n) (M6.most wd) (M6.most wd) 0 r := by
      show (if l.take 1 = [39] then _ else _) = _
      rw [if_neg hq, hw, if_neg (fun z => z hwd), lw, if_neg (fun z => z ho)]
    rw [en] at q
    clear en
    rw [decide_eq_true ho, Bool.not_true]
    have rl := M6.rest_len (l := l) (by rw [hw]; exact hwd) (by rw [hw, lw]; exact ho)
    rw [hw, lw] at rl
    have la : a + (sz + 1) ≤ x.length := by
      have := congrArg List.length ho
      rw [List.length_take, List.length_drop] at this
      simp only [List.length_cons, List.length_nil] at this
      omega
    have pos1 : ((a : Int) + (sz : Int)) + 1 = ((a + (sz + 1) : Nat) : Int) := by omega
    refine iteF ⟨_, rfl, _, rfl, _, rfl, _, rfl, _, _, rfl, rfl, _, _, rfl, rfl, wd, x, a + (sz + 1), ?_, hwd, few, la, ?_⟩
    · show [V.str (un wd), V.str x, V.int (((a : Int) + (sz : Int)) + 1)] = _
      rw [pos1]
    rw [dr]
    intro v1 H2 rv1 s2
    obtain ⟨o1, ho1⟩ : ∃ o, M6.headW wd (l.drop (sz + 1)) = o := ⟨_, rfl⟩
    have lo1 : ∀ q, o1 = some q → q.length < 5 * n := fun q e => by
      have := M6.headW_len (ho1.trans e)
      omega
    rw [ho1] at rv1 q
    -- most
    refine fun pd npd => ⟨upd_same, mostD, rfl, by decide, _, rfl, pd, .int (M6.most wd : Nat), rfl, ?_, ?_⟩
    · have := DGet.k (H := upd (upd H2 pd (.dK [])) pd (.dK (mergeK [] mostD))) (a := pd) (kvs := mergeK [] mostD) (k := .inr (un wd)) upd_same
      rw [most_at wd hwd] at this
      exact this
    have s3 : Same H (upd (upd H2 pd (.dK [])) pd (.dK (mergeK [] mostD))) := fun c o hc => by
      have n1 : c ≠ pd := ne_of_none ((s1.trans s2) _ _ hc) npd
      rw [upd_ne n1, upd_ne n1]
      exact (s1.trans s2) _ _ hc
    obtain ⟨H3, eH3, s3⟩ : ∃ H3, upd (upd H2 pd (.dK [])) pd (.dK (mergeK [] mostD)) = H3 ∧ Same H H3 := ⟨_, rfl, s3⟩
    rw [eH3]
    have ml : 1 ≤ M6.most wd ∧ M6.most wd ≤ 4 := by
      unfold M6.most
      split
      · omega
      · split <;> omega
    obtain ⟨m, hm⟩ : ∃ m, M6.most wd = m := ⟨_, rfl⟩
    rw [hm] at q ml ⊢
    obtain ⟨b1, b2⟩ := small62 (i := (m : Int)) (by omega) (by omega)
    refine ⟨_, rfl, _, rfl, b1, b2, ?_⟩
    rw [show ((m : Int)).toNat = m by omega]
    refine for_range (n := m) (fun i σ H' => ∃ (v : Int) (o : Option (List Nat)) (o5 : Option V), σ = [some (.str x), some (.int v), some (.int (sz : Nat)), some (.str (un wd)), some (.int (m : Nat)), o5] ∧ Same H H' ∧ Res x v o ∧ (∀ q, o = some q → q.length < 5 * n) ∧
      ∀ v H', Res x v (o.bind fun r => M6.loopE (M6.endF n) m (m - i) i r) → Same H H' → Q (.int v) H')
      ⟨v1, o1, _, rfl, s3, rv1, lo1, q⟩ ?_ ?_
    · rintro i σ H' hi ⟨v, o, o5, rfl, s4, rv, lo, q⟩
      obtain ⟨j, hj⟩ : ∃ j, m - i = j + 1 := ⟨m - i - 1, by omega⟩
      have hj2 : m - (i + 1) = j := by omega
      rw [hj] at q
      rw [hj2]
      -- what the inner reader tells
      have ro : (o.bind fun r => M6.loopE (M6.endF n) m (j + 1) i r) = (o.bind fun r => M6.endF n r).bind fun q => if q.take 1 = [41] then (if min m 2 ≤ i + 1 then some (q.drop 1) else none) else if q.take 2 = [44, 32] then M6.loopE (M6.endF n) m j (i + 1) (q.drop 2) else none := by
        cases o <;> rfl
      rw [ro] at q
      have back : ∀ (D : Ends) H5, D.rt = Q → Same H H5 → ∀ v2 o2, Res x v2 o2 → (∀ q, o2 = some q → q.length < 5 * n) → o2 = (o.bind fun r => M6.endF n r) →
          (∀ (v : Int) (o : Option (List Nat)), Res x v o → (∀ q, o = some q → q.length < 5 * n) → (∀ v H', Res x v (o.bind fun r => M6.loopE (M6.endF n) m j (i + 1) r) → Same H H' → Q (.int v) H') →
            D.nx [some (.str x), some (.int v), some (.int (sz : Nat)), some (.str (un wd)), some (.int (m : Nat)), some (.int (0 + (i : Int)))] H5) →
          tSeq (tIfS (tTest (tOp (rI0 fun i j => V.bl (decide (i < j))) (tVar 1) (tC (V.int 0)))) (tRet (tUn (rU fun i => V.int (-i)) (tC (V.int 1)))) tNext)
            (tSeq (tIfS (tTest (tOp rEq (tSl rSlS (tVar 0) (tPart (tVar 1)) (tPart (tOp (rI0 fun i j => V.int (i + j)) (tVar 1) (tC (V.int 1))))) (tC (V.str ")"))))
              (tRet (tIf (tTest (tOp (rI0 fun i j => V.bl (decide (j ≤ i))) (tOp (rI0 fun i j => V.int (i + j)) (tVar 5) (tC (V.int 1))) (tCB (fun xs H Q => ∃ i j, xs = [V.int i, V.int j] ∧ Q (V.int (if j < i then j else i)) H) (tCons (tVar 4) (tCons (tC (V.int 2)) tNil)))))
                (tOp (rI0 fun i j => V.int (i + j)) (tVar 1) (tC (V.int 1))) (tUn (rU fun i => V.int (-i)) (tC (V.int 1))))) tNext)
              (tAsg (tIf (tTest (tOp rEq (tSl rSlS (tVar 0) (tPart (tVar 1)) (tPart (tOp (rI0 fun i j => V.int (i + j)) (tVar 1) (tC (V.int 2))))) (tC (V.str ", ")))) (tOp (rI0 fun i j => V.int (i + j)) (tVar 1) (tC (V.int 2))) (tUn (rU fun i => V.int (-i)) (tC (V.int 1)))) (gName 1)))
            D [some (.str x), some (.int v2), some (.int (sz : Nat)), some (.str (un wd)), some (.int (m : Nat)), some (.int (0 + (i : Int)))] H5 := by
        intro D H5 hD s5 v2 o2 rv2 lo2 e2 nx
        rw [← e2] at q
        refine ⟨_, rfl, _, _, rfl, rfl, _, rfl, ?_⟩
        cases o2 with
        | none =>
          have ev : v2 = -1 := rv2
          subst ev
          rw [decide_eq_true (by decide)]
          refine iteT ⟨_, rfl, ?_⟩
          rw [show (Ends.rt D) = Q from hD]
          exact q _ _ rfl s5
        | some r2 =>
          obtain ⟨b, rfl, hb, eb⟩ := rv2
          rw [decide_eq_false (by omega)]
          have cut2 : ∀ (k : Nat), cutS x (some ((b : Nat) : Int)) (some (((b : Nat) : Int) + (k : Int))) = un (r2.take k) := fun k => by
            have e1 : (((b : Nat) : Int) + (k : Int)) = ((b + k : Nat) : Int) := by omega
            rw [e1, cut_un x (by omega), eb, show b + k - b = k by omega]
          have lb : r2.length = x.length - b := by rw [← eb, List.length_drop, lx]
          refine iteF ⟨_, rfl, _, rfl, _, rfl, _, rfl, _, _, rfl, rfl, _, rfl, _, rfl, small, rfl, _, rfl, ?_⟩
          rw [show cutS x (some ((b : Nat) : Int)) (some (((b : Nat) : Int) + 1)) = un (r2.take 1) from cut2 1, sg e41]
          have q : ∀ v H', Res x v (if r2.take 1 = [41] then (if min m 2 ≤ i + 1 then some (r2.drop 1) else none) else if r2.take 2 = [44, 32] then M6.loopE (M6.endF n) m j (i + 1) (r2.drop 2) else none) → Same H H' → Q (.int v) H' := q
          by_cases h1 : r2.take 1 = [41]
          · rw [if_pos h1] at q
            rw [decide_eq_true h1]
            refine iteT ⟨_, rfl, _, _, rfl, rfl, _, rfl, _, _, rfl, _, _, rfl, rfl, _, rfl, ?_⟩
            have l1 : 1 ≤ r2.length := by
              have := congrArg List.length h1
              rw [List.length_take] at this
              simp only [List.length_cons, List.length_nil] at this
              omega
            by_cases h2 : min m 2 ≤ i + 1
            · rw [if_pos h2] at q
              rw [decide_eq_true (by split <;> omega)]
              refine iteT ⟨_, rfl, _, _, rfl, rfl, ?_⟩
              rw [show (Ends.rt D) = Q from hD]
              exact q _ _ ⟨b + 1, by omega, by omega, by rw [← eb, List.drop_drop]⟩ s5
            · rw [if_neg h2] at q
              rw [decide_eq_false (by split <;> omega)]
              refine iteF ⟨_, rfl, ?_⟩
              rw [show (Ends.rt D) = Q from hD]
              exact q _ _ rfl s5
          · rw [if_neg h1] at q
            rw [decide_eq_false h1]
            refine iteF ⟨_, rfl, _, rfl, _, rfl, _, rfl, _, _, rfl, rfl, _, rfl, _, rfl, small, rfl, _, rfl, ?_⟩
            rw [show cutS x (some ((b : Nat) : Int)) (some (((b : Nat) : Int) + 2)) = un (r2.take 2) from cut2 2, un_eq, show ch (", " : Str) = [44, 32] by decide +kernel]
            by_cases h2 : r2.take 2 = [44, 32]
            · rw [if_pos h2] at q
              rw [decide_eq_true h2]
              have l2 : 2 ≤ r2.length := by
                have := congrArg List.length h2
                rw [List.length_take] at this
                simp only [List.length_cons, List.length_nil] at this
                omega
              refine iteT ⟨_, rfl, _, _, rfl, rfl, nx _ (some (r2.drop 2)) ⟨b + 2, by omega, by omega, by rw [← eb, List.drop_drop]⟩ (fun q e => ?_) q⟩
              cases e
              have := lo2 r2 rfl
              rw [List.length_drop]
              omega
            · rw [if_neg h2] at q
              rw [decide_eq_false h2]
              exact iteF ⟨_, rfl, nx _ none rfl (fun q e => nomatch e) q⟩
      refine ⟨_, rfl, _, _, rfl, rfl, _, rfl, ?_⟩
      cases o with
      | none =>
        have ev : v = -1 := rv
        subst ev
        rw [decide_eq_false (by decide)]
        exact iteF ⟨_, rfl, back _ H' rfl s4 (-1) none rfl (fun q e => nomatch e) rfl fun v o rv lo q => ⟨v, o, _, rfl, s4, rv, lo, q⟩⟩
      | some r =>
        obtain ⟨b, rfl, hb, eb⟩ := rv
        rw [decide_eq_true (by omega)]
        have lr := lo r rfl
        refine iteT ⟨_, rfl, _, rfl, x, b, rfl, few, hb, by rw [eb]; exact lr, fun v2 H5 rv2 s5 => ?_⟩
        rw [eb] at rv2
        refine back _ H5 rfl (s4.trans s5) v2 _ rv2 (fun q e => ?_) rfl fun v o rv lo q => ⟨v, o, _, rfl, s4.trans s5, rv, lo, q⟩
        have := M6.end_len e
        omega
    · rintro σ H' ⟨v, o, o5, rfl, s4, rv, lo, q⟩
      refine ⟨_, rfl, q _ _ ?_ s4⟩
      rw [Nat.sub_self]
      cases o <;> rfl
end
end Wp

/-! k06: a text with some signs otherwise -/
namespace Wp
open PySem PySem.Spec PyProof.Rows L2 Hx
def spSpoiled : Sp := fun vs H Q _ => ∃ (d : Addr) (x : Str), vs = [.ref d, .str x] ∧ DeckAt H d ∧ x.length ≤ 1000 ∧ PyData.strOk x = true ∧ ∀ y H', y.length ≤ 400 → PyData.strOk y = true → But d H H' → DeckAt H' d → Q (.str y) H'
def NSp : List Str := ["_law_deck_here", "_law_text_here", "_law_turn", "_law_way", "_law_at", "_law_sign"]
theorem ch_cut (x : Str) (lo hi : Option Int) : ch (cutS x lo hi) = ((ch x).drop (HT.sIx x.length 0 lo)).take (HT.sIx x.length x.length hi - HT.sIx x.length 0 lo) := by
  show ((x.cps.toList.drop (HT.sIx x.length 0 lo)).take (HT.sIx x.length x.length hi - HT.sIx x.length 0 lo)).toArray.toList = _
  rw [List.toList_toArray]
theorem cut_ok {x : Str} (lo hi : Option Int) (h : PyData.strOk x = true) : PyData.strOk (cutS x lo hi) = true := by
  rw [strOk_iff] at h ⊢
  intro c hc
  have hc : c ∈ ch (cutS x lo hi) := hc
  rw [ch_cut] at hc
  exact h c (List.mem_of_mem_drop (List.mem_of_mem_take hc))
theorem cut_short (x : Str) (lo hi : Option Int) : (cutS x lo hi).length ≤ x.length := by
  rw [← len_ch2, ← len_ch2, ch_cut, List.length_take, List.length_drop]
  omega
theorem app_ok {x y : Str} (hx : PyData.strOk x = true) (hy : PyData.strOk y = true) : PyData.strOk (x ++ y) = true := by
  rw [strOk_iff] at hx hy ⊢
  intro c hc
  rw [cps_app] at hc
  rcases List.mem_append.mp hc with h | h
  · exact hx c h
  · exact hy c h
section
variable {P : Program} {w : World} {K : PySem.W.Frag} {mg : Str → Option Value} {base : Heap} {f fC fO : Addr} {fd fdC fdO : FuncData}
theorem scSpoiled : FnScope NSp ["_law_deck_here", "_law_text_here"] (defScope s_law_spoiled) := ⟨rfl, rfl, rfl, by decide +kernel, rfl, by decide +kernel, by decide +kernel⟩
theorem ok_spoiled (F : Fun K "_law_spoiled" "_law_spoiled" s_law_spoiled f fd) (Z : Bltn6 mg)
    (GC : FnOk P w K mg base CX0 1 fC fdC ["_law_deck_here", "_law_top"] spCard) (bC : Binds K fdC ["_law_deck_here", "_law_top"] []) (kC : PySem.W.keepIn K (.ref fC) = true) (mC : mg "_law_card" = some (.ref fC))
    (GO : FnOk P w K mg base CX0 2 fO fdO ["_law_deck_here", "_law_menu"] spOfS) (bO : Binds K fdO ["_law_deck_here", "_law_menu"] []) (kO : PySem.W.keepIn K (.ref fO) = true) (mO : mg "_law_of" = some (.ref fO)) :
    FnOk P w K mg base CX0 3 f fd ["_law_deck_here", "_law_text_here"] spSpoiled := by
  refine F.ok scSpoiled (fun vs H Q E h => ?_) (fun cdv A outer s H vs Q E hr h => ?_)
  · obtain ⟨d, x, rfl, _⟩ := h
    rfl
  obtain ⟨d, x, rfl, hd, few, ok, q⟩ := h
  have r1 := hr.mono (by decide : 1 ≤ 2)
  refine ⟨_, pss_cons (ps_for PassesOwn.never rfl (pi_range1 rfl Z.range (pa_cons (pe_call GC r1 rfl mC kC bC .nil pass0 (pa_cons (pv 0) (pa_cons pe_int pa_nil))) pa_nil)) (pg_name (i := 2) scSpoiled.nd rfl (Or.inl rfl))
      (pss_cons (ps_par (i := 3) (j := 4) rfl scSpoiled.nd rfl rfl (by decide) rfl rfl (pa_cons (pe_call GC r1 rfl mC kC bC .nil pass0 (pa_cons (pv 0) (pa_cons pe_int pa_nil)))
        (pa_cons (pe_call GC r1 rfl mC kC bC .nil pass0 (pa_cons (pv 0) (pa_cons (pe_op op_add (pe_callB call_len_str (by rfl) Z.len PySem.boot_len (pa_cons (pv 1) pa_nil)) pe_int) pa_nil))) pa_nil)) rfl)
      (pss_cons (ps_set (i := 5) scSpoiled.nd rfl (Or.inl rfl) (pe_call GO hr rfl mO kO bO .nil pass0 (pa_cons (pv 0) (pa_cons pe_str pa_nil))))
      (pss_one (ps_if (pt_cmpR op_eq (pv 3) pe_int (nomark _))
        (pss_one (ps_set (i := 1) scSpoiled.nd rfl (Or.inl rfl) (pe_op op_add_str (pe_op op_add_str (pe_slice sl_str (pv 1) po_none (po_some (pv 4))) (pe_slice sl_str (pv 1) (po_some (pe_op op_fdiv (pv 4) pe_int)) (po_some (pv 4)))) (pe_slice sl_str (pv 1) (po_some (pv 4)) po_none))))
        (pss_one (ps_set (i := 1) scSpoiled.nd rfl (Or.inl rfl) (pe_op op_add_str (pe_op op_add_str (pe_slice sl_str (pv 1) po_none (po_some (pv 4)))
          (pe_ix ix_list (pe_lst (pa_cons pe_str (pa_cons (pv 5) (pa_cons (pv 5) (pa_cons (pe_op op_add_str (pv 5) (pv 5)) pa_nil))))) (pv 3) (fun _ _ => rfl)))
          (pe_slice sl_str (pv 1) (po_some (pe_op op_add (pv 4) (pe_ix ix_list (pe_lst (pa_cons pe_int (pa_cons pe_int (pa_cons pe_int (pa_cons pe_int pa_nil))))) (pv 3) (fun _ _ => rfl)))) po_none)))))))))
    (pss_one (ps_ret (pe_slice sl_str (pv 1) po_none (po_some pe_int)))), ?_⟩
  have line : ∀ n : Nat, n ≤ 100000 → n ≤ sizeLine := fun n h => Nat.le_trans h (by decide)
  refine ⟨_, rfl, d, 4, rfl, by decide, by decide, hd, fun r H1 r0 r4 b1 hd1 => ?_⟩
  obtain ⟨z1, z2⟩ := small62 (i := r) (by omega) (by omega)
  refine ⟨r, rfl, z1, z2, for_range (n := r.toNat) (fun i σ H' => ∃ (y : Str) (o2 o3 o4 o5 : Option V), σ = [some (.ref d), some (.str y), o2, o3, o4, o5] ∧ y.length + 2 ≤ 1002 * 3 ^ i ∧ PyData.strOk y = true ∧ But d H H' ∧ DeckAt H' d)
    ⟨x, _, _, _, _, rfl, by show x.length + 2 ≤ 1002 * 1; omega, ok, b1, hd1⟩ ?_ ?_⟩
  · rintro i σ H' hi ⟨y, o2, o3, o4, o5, rfl, ly, oy, b2, hd2⟩
    have p3 : 3 ^ i ≤ 9 := Nat.pow_le_pow_right (n := 3) (by decide) (by omega : i ≤ 2)
    have ps : 3 ^ (i + 1) = 3 ^ i * 3 := Nat.pow_succ ..
    rw [ps]
    generalize 3 ^ i = p at ly p3
    have ly2 : y.length ≤ 9018 := by omega
    refine ⟨_, rfl, d, 5, rfl, by decide, by decide, hd2, fun way H3 w0 w5 b3 hd3 => ?_⟩
    refine ⟨_, rfl, _, rfl, y, rfl, line _ (by omega), _, _, rfl, rfl, d, (y.length : Int) + 1, rfl, by omega, by omega, hd3, fun at_ H4 a0 a1 b4 hd4 => ⟨_, _, rfl, ?_⟩⟩
    refine nx_go (seq_set ?_)
    refine ⟨_, rfl, d, _, rfl, (by decide +kernel), (by decide +kernel), hd4, fun c H5 hc b5 hd5 => ?_⟩
    have oc : PyData.strOk (⟨#[c]⟩ : Str) = true := by
      have all : ∀ c ∈ ("abz'(), 0123459weavpt" : Str).cps.toList, PyData.strOk (⟨#[c]⟩ : Str) = true := by decide +kernel
      exact all c hc
    have lc : (⟨#[c]⟩ : Str).length = 1 := rfl
    have bH := ((b2.trans b3).trans b4).trans b5
    refine ⟨_, rfl, rfl, _, rfl, ?_⟩
    have done : ∀ (z : Str) H6, z.length ≤ 3 * y.length + 2 → PyData.strOk z = true → But d H H6 → DeckAt H6 d → ∃ y o2' o3' o4' o5', ([some (.ref d), some (.str z), some (.int (0 + (i : Int))), some (.int way), some (.int at_), some (.str ⟨#[c]⟩)] : List (Option V)) = [some (.ref d), some (.str y), o2', o3', o4', o5'] ∧
        y.length + 2 ≤ 1002 * (p * 3) ∧ PyData.strOk y = true ∧ But d H H6 ∧ DeckAt H6 d := fun z H6 lz oz b6 hd6 => ⟨z, _, _, _, _, rfl, by omega, oz, b6, hd6⟩
    have ly3 : y.length ≤ sizeLine := line _ (by omega)
    have cs : ∀ lo hi, (cutS y lo hi).length ≤ y.length := fun lo hi => cut_short y lo hi
    refine ite2 (fun c1 => ?_) (fun c1 => ?_)
    · have s1 := cs none (some at_)
      have s2 := cs (some (at_ / 2)) (some at_)
      have s3 := cs (some at_) none
      refine ⟨_, rfl, _, rfl, _, rfl, y, rfl, ly3, _, rfl, _, rfl, _, _, rfl, rfl, ⟨by decide, by decide⟩, _, rfl, _, rfl, _, rfl, y, rfl, ly3, _, _, rfl, rfl, line _ (by omega), _, rfl, _, rfl, _, rfl, y, rfl, ly3, _, _, rfl, rfl, line _ (by rw [len_app]; omega), ?_⟩
      exact done _ _ (by rw [len_app, len_app]; omega) (app_ok (app_ok (cut_ok _ _ oy) (cut_ok _ _ oy)) (cut_ok _ _ oy)) bH hd5
    · have wne : way ≠ 4 := fun e => by
        rw [e, decide_eq_true rfl] at c1
        exact absurd c1 (by decide)
      have ix1 : ∃ v : Str, atI [V.str "", .str ⟨#[c]⟩, .str ⟨#[c]⟩, .str ((⟨#[c]⟩ : Str) ++ ⟨#[c]⟩)] way = some (.str v) ∧ PyData.strOk v = true ∧ v.length ≤ 2 := by
        have w4 : way = 0 ∨ way = 1 ∨ way = 2 ∨ way = 3 := by omega
        rcases w4 with rfl | rfl | rfl | rfl
        · exact ⟨_, rfl, by decide +kernel, by decide +kernel⟩
        · exact ⟨_, rfl, oc, by rw [lc]; decide⟩
        · exact ⟨_, rfl, oc, by rw [lc]; decide⟩
        · exact ⟨_, rfl, app_ok oc oc, by rw [len_app, lc]; decide⟩
      have ix2 : ∃ k : Int, atI [V.int 1, .int 0, .int 1, .int 0] way = some (.int k) := by
        have w4 : way = 0 ∨ way = 1 ∨ way = 2 ∨ way = 3 := by omega
        rcases w4 with rfl | rfl | rfl | rfl
        · exact ⟨_, rfl⟩
        · exact ⟨_, rfl⟩
        · exact ⟨_, rfl⟩
        · exact ⟨_, rfl⟩
      obtain ⟨v, ev, ov, lv⟩ := ix1
      obtain ⟨k, ek⟩ := ix2
      have s1 := cs none (some at_)
      have s3 := cs (some (at_ + k)) none
      refine ⟨_, rfl, _, rfl, _, rfl, y, rfl, ly3, ?_⟩
      refine ⟨_, rfl, _, rfl, _, rfl, _, rfl, _, _, rfl, rfl, line _ (by rw [lc]; decide), (by show 4 ≤ sizeLine; decide), fun p1 n1 => ?_⟩
      refine ⟨_, rfl, p1, _, _, _, rfl, rfl, SqL.of upd_same, ev, _, _, rfl, rfl, line _ (by omega), ?_⟩
      refine ⟨_, rfl, _, rfl, (by show 4 ≤ sizeLine; decide), fun p2 n2 => ?_⟩
      refine ⟨_, rfl, p2, _, _, _, rfl, rfl, SqL.of upd_same, ek, _, _, rfl, rfl, _, rfl, y, rfl, ly3, _, _, rfl, rfl, line _ (by rw [len_app]; omega), ?_⟩
      exact done _ _ (by rw [len_app, len_app]; omega) (app_ok (app_ok (cut_ok _ _ oy) ov) (cut_ok _ _ oy)) (bH.trans ((But.refl.new n1 _).trans (But.refl.new n2 _))) ((hd5.new n1).new n2)
  · rintro σ H' ⟨y, o2, o3, o4, o5, rfl, ly, oy, b2, hd2⟩
    have p3 : 3 ^ r.toNat ≤ 27 := Nat.pow_le_pow_right (n := 3) (by decide) (by omega : r.toNat ≤ 3)
    refine ⟨_, rfl, _, rfl, y, rfl, line _ (by omega), q _ _ ?_ (cut_ok _ _ oy) b2 hd2⟩
    rw [← len_ch2, ch_cut]
    refine Nat.le_trans (List.length_take_le _ _) ?_
    have e : HT.sIx y.length y.length (some 400) = min 400 y.length := HT.sIx_nat y.length y.length 400
    rw [e]
    omega
end
end Wp

/-! k06: _law_right -/
namespace Wp
open PySem PySem.Spec PyProof.Rows L2 Hx
/-- a datum that may be shown -/
structure Shows (H : Hp) (v : V) (d : PyData) : Prop where
  dq : Dq H v d
  show_ : d.showable = true
  dep : d.depth ≤ 20
  len : d.shown.length ≤ sizeLine
theorem str_shows {H : Hp} {x : Str} (h : PyData.strOk x = true) (l : x.length ≤ 1000) : Shows H (.str x) (.str x) := by
  have lay : (PyData.str x).canLay0 = true := h
  have h2 := PyData.shown_le 13 (by decide) _ (PyData.leavesShort_of_canLay0 13 _ lay rfl)
  refine ⟨.str x, rfl, by show 0 ≤ 20; decide, ?_⟩
  have wt : (PyData.str x).weight = x.length := rfl
  have e : 16000000 ≤ sizeLine := by decide
  omega
theorem call_tellP {X : Cx} {P : Program} {w : World} {K : PySem.W.Frag} {mg : Str → Option Value} {base : Heap} {k : Nat} (h1 : X.prog = P) (h2 : X.w = w) (h3 : X.K = K) (h4 : X.mg = mg) (h5 : X.base = base) (room : Room (k + 2) X.A) : CallR X (.type "str") (rTell P w K mg base k) := by
  subst h1 h2 h3 h4 h5
  exact call_tell room
def spRight6 : Sp := fun vs H Q _ => ∃ d, vs = [.ref d] ∧ DeckAt H d ∧ ∀ H', But d H H' → Q (.bl true) H'
def NR6 : List Str := ["_law_deck_here", "_law_wide", "_law_letters_here", "_law_titles_here", "_law_tree_here", "_law_text_here", "_law_is_right", "_law_told", "e"]
theorem scRight6 : FnScope NR6 ["_law_deck_here"] (defScope s_law_right) := ⟨rfl, rfl, rfl, by decide +kernel, rfl, by decide +kernel, by decide +kernel⟩
section
variable {P : Program} {w : World} {K : PySem.W.Frag} {mg : Str → Option Value} {base : Heap} {f fC fS fT fE fX fP fN fR CF CE Ct : Addr} {fd fdC fdS fdT fdE fdX fdP fdN fdR : FuncData} {kc : KCls} {cls : Addr → Prop}
theorem ok_right6 (F : Fun K "_law_right" "_law_right" s_law_right f fd) (Z : Bltn6 mg) (L : Kls P w K mg base CF cls) (mR : mg "repr" = none) (hm : Mods base)
    (XF : XfC K Ct) (no : PySem.W.findIn K (.ref Ct) "given" = some none) (mT : mg "InvalidText" = some (.ref Ct)) (ex : PySem.W.exmOne K (.ref Ct) (.ref Ct) = some true)
    (GC : FnOk P w K mg base CX0 1 fC fdC ["_law_deck_here", "_law_top"] spCard) (bC : Binds K fdC ["_law_deck_here", "_law_top"] []) (kC : PySem.W.keepIn K (.ref fC) = true) (mC : mg "_law_card" = some (.ref fC))
    (GS : FnOk P w K mg base CX0 2 fS fdS ["_law_deck_here", "_law_size"] spSigns) (bS : Binds K fdS ["_law_deck_here", "_law_size"] []) (kS : PySem.W.keepIn K (.ref fS) = true) (mS : mg "_law_signs" = some (.ref fS))
    (GT : FnOk P w K mg base CX0 3 fT fdT ["_law_deck_here", "_law_size", "_law_taken"] spTitles) (bT : Binds K fdT ["_law_deck_here", "_law_size", "_law_taken"] []) (kT : PySem.W.keepIn K (.ref fT) = true) (mTi : mg "_law_titles" = some (.ref fT))
    (GE : FnOk P w K mg base CX0 (4 + 12) fE fdE ["_law_deck_here", "_law_frame", "_law_room", "_law_parts"] (spTree 12)) (bE : Binds K fdE ["_law_deck_here", "_law_frame", "_law_room", "_law_parts"] []) (kE : PySem.W.keepIn K (.ref fE) = true) (mE : mg "_law_tree" = some (.ref fE))
    (GX : FnOk P w K mg base CX0 (9 + 12) fX fdX ["_law_tree_here", "_law_wide"] (spText 12)) (bX : Binds K fdX ["_law_tree_here", "_law_wide"] []) (kX : PySem.W.keepIn K (.ref fX) = true) (mX : mg "_law_text" = some (.ref fX))
    (GP : FnOk P w K mg base CX0 3 fP fdP ["_law_deck_here", "_law_text_here"] spSpoiled) (bP : Binds K fdP ["_law_deck_here", "_law_text_here"] []) (kP : PySem.W.keepIn K (.ref fP) = true) (mP : mg "_law_spoiled" = some (.ref fP))
    (GN : FnOk P w K mg base CX0 (3 + 81) fN fdN ["_law_text_here", "_law_at"] (spEnd6 81)) (bN : Binds K fdN ["_law_text_here", "_law_at"] []) (kN : PySem.W.keepIn K (.ref fN) = true) (mN : mg "_law_end" = some (.ref fN))
    (GR : FnOk P w K mg base (L2.CX P w) 13 fR fdR ["text"] (spReadEX CF cls Ct)) (bR : Binds K fdR ["text"] []) (kR : PySem.W.keepIn K (.ref fR) = true) (mRd : mg "read_expression" = some (.ref fR)) :
    GOk P w K mg base CX0 85 f fd ["_law_deck_here"] spRight6 := by
  refine gok0 F scRight6 (fun vs H Q E h => ?_) (fun cdv A outer s H vs Q E hr gd h => ?_)
  · obtain ⟨d, rfl, _⟩ := h
    rfl
  obtain ⟨d, rfl, hd, q⟩ := h
  have r1 := hr.mono (by decide : 1 ≤ 84)
  have r2 := hr.mono (by decide : 2 ≤ 84)
  have r3 := hr.mono (by decide : 3 ≤ 84)
  have r13 := hr.mono (by decide : 13 ≤ 84)
  have r16 := hr.mono (by decide : 4 + 12 ≤ 84)
  have r21 := hr.mono (by decide : 9 + 12 ≤ 84)
  have hu : (A.deeper (envOfC "_law_right" (defScope s_law_right) s.heap.objs.size f cdv)).units + 64 < cLine := hr.units
  refine ⟨_, pss_cons (ps_par (i := 1) (j := 2) rfl scRight6.nd rfl rfl (by decide) rfl rfl (pa_cons (pe_op op_add pe_int (pe_call GC r1 rfl mC kC bC .nil pass0 (pa_cons (pv 0) (pa_cons pe_int pa_nil))))
      (pa_cons (pe_call GS r2 rfl mS kS bS .nil pass0 (pa_cons (pv 0) (pa_cons (pe_op op_add pe_int (pe_call GC r1 rfl mC kC bC .nil pass0 (pa_cons (pv 0) (pa_cons pe_int pa_nil)))) pa_nil))) pa_nil)) rfl)
    (pss_cons (ps_set (i := 3) scRight6.nd rfl (Or.inl rfl) (pe_call GT r3 rfl mTi kT bT .nil pass0 (pa_cons (pv 0) (pa_cons pe_int (pa_cons (pe_lst pa_nil) pa_nil)))))
    (pss_cons (ps_set (i := 4) scRight6.nd rfl (Or.inl rfl) (pe_call GE r16 rfl mE kE bE .nil pass0 (pa_cons (pv 0) (pa_cons
      (pe_lst (pa_cons (pv 1) (pa_cons (pv 2) (pa_cons (pv 3) (pa_cons (pv 3) (pa_cons (pv 3) (pa_cons pe_bl pa_nil))))))) (pa_cons (pe_op op_add pe_int (pe_call GC r1 rfl mC kC bC .nil pass0 (pa_cons (pv 0) (pa_cons pe_int pa_nil)))) (pa_cons pe_int pa_nil))))))
    (pss_cons (ps_set (i := 5) scRight6.nd rfl (Or.inl rfl) (pe_call GP r3 rfl mP kP bP .nil pass0 (pa_cons (pv 0) (pa_cons (pe_call GX r21 rfl mX kX bX .nil pass0 (pa_cons (pv 4) (pa_cons (pv 1) pa_nil))) pa_nil))))
    (pss_cons (ps_par (i := 6) (j := 7) rfl scRight6.nd rfl rfl (by decide) rfl rfl (pa_cons (pe_cmpR op_eq (pe_call GN hr rfl mN kN bN .nil pass0 (pa_cons (pv 5) (pa_cons pe_int pa_nil))) (pe_callB call_len_str (by rfl) Z.len PySem.boot_len (pa_cons (pv 5) pa_nil)) (nomark _)) (pa_cons pe_str pa_nil)) rfl)
    (pss_cons (ps_try_as (i := 8) rfl rfl scRight6.nd rfl rfl ⟨rfl, by decide, .inl mT⟩ takes0
      (fun W pn xe tk _ => pss_one (ps_set (i := 7) scRight6.nd rfl (Or.inl rfl) (pe_callTy (T := "str") (r := rTell P w K mg base 1) (call_tellP rfl rfl rfl rfl rfl r3) (by rfl) Z.str (by decide +kernel) (pa_cons (pe_callS GR r13 rfl mRd kR bR (fun σ => passAt tk σ) (pa_cons (pv 5) pa_nil)) pa_nil))))
      (fun a oe cls d pn hz hf => pss_one (ps_ret (pe_and (pe_not (pv 6)) (pe_one (pe_cmpR op_eq (pe_callB (call_reprL gd hu hm) (by rfl) mR PyProof.Rows.boot_repr (pa_cons (pe_xf XF no hz hf (pv 8)) pa_nil)) (pe_callB (call_reprL gd hu hm) (by rfl) mR PyProof.Rows.boot_repr (pa_cons (pv 5) pa_nil)) (nomark _)))))))
    (pss_one (ps_ret (pe_and (pv 6) (pe_one (pe_cmpR op_eq (pv 7) (pv 5) (nomark _))))))))))), ?_⟩
  refine ⟨_, rfl, d, 3, rfl, by decide, by decide, hd, fun x1 H1 a0 a1 b1 hd1 => ⟨_, _, rfl, rfl, ?_⟩⟩
  refine ⟨_, rfl, _, rfl, d, 4, rfl, by decide, by decide, hd1, fun x2 H2 c0 c1 b2 hd2 => ⟨_, _, rfl, rfl, ?_⟩⟩
  refine ⟨d, 1 + x2, rfl, by omega, by omega, hd2, fun z H3 lz b3 hd3 => ⟨_, _, rfl, ?_⟩⟩
  refine nx_go (seq_set ?_)
  refine ⟨_, rfl, (by show 0 ≤ sizeLine; decide), fun pe ne => ?_⟩
  refine ⟨d, pe, 2, rfl, by decide, by decide, hd3.new ne, upd_same, fun pt ns H5 hns _ b5 hd5 npt hpt => ?_⟩
  have bH := ((b1.trans b2).trans b3).trans ((But.refl.new ne (.lst [])).trans b5)
  refine ⟨_, rfl, _, rfl, _, rfl, _, rfl, _, rfl, _, rfl, (by show 6 ≤ sizeLine; decide), fun pl nl => ?_⟩
  have hl : (upd H5 pl (.lst [V.int (2 + x1), .str z, .ref pt, .ref pt, .ref pt, .bl false])) pt = some (.lst (ns.map V.str)) := upd_other hpt nl
  refine ⟨_, rfl, d, 9, rfl, by decide, by decide, hd5.new nl, fun x4 H6 e0 e1 b6 hd6 => ⟨_, _, rfl, rfl, ?_⟩⟩
  have fr : FrameAt H6 pl (2 + x1) z := FrameAt.but (hd5.new nl) b6 ⟨pt, pt, pt, ns, ns, ns, upd_same, hl, hl, hl, hns, hns, hns⟩
  refine ⟨d, pl, 1 + x4, 1, 2 + x1, z, rfl, hd6, fr, lz, by omega, by omega, by omega, by omega, by omega, fun v H7 t b7 hd7 ht7 ok7 kn7 => ?_⟩
  have ht : TrAt H7 v t := TrAt.same (fun c o h => (newPart_some h).2) _ _ ht7
  have bH7 := (bH.trans (But.refl.new nl (.lst [V.int (2 + x1), .str z, .ref pt, .ref pt, .ref pt, .bl false]))).trans (b6.trans b7)
  refine ⟨_, rfl, _, rfl, _, rfl, v, 2 + x1, t, rfl, ht, ok7, by omega, by omega, by omega, by omega, fun H8 s8 => ?_⟩
  have tl := text_len (by omega) (by omega) t ok7
  have to := text_ok (b := 2 + x1) (by omega) (by omega) t ok7
  refine ⟨d, t.text (2 + x1), rfl, ?_, by omega, to, fun x H9 lx ox b9 hd9 => ?_⟩
  · obtain ⟨a, m, c, h1, h2, e⟩ := hd7
    exact ⟨a, m, c, h1, h2, s8 _ _ e⟩
  have bH9 : But d H H9 := (bH7.trans (But.of s8)).trans b9
  have lc := len_ch2 x
  refine ⟨_, rfl, x, 0, rfl, lx, Nat.zero_le _, by rw [List.drop_zero]; omega, fun v2 H10 rv s10 => ?_⟩
  rw [List.drop_zero, M6.end_fuel 81 401 (ch x) (by omega) (by omega)] at rv
  obtain ⟨ag1, ag2⟩ := M6.readers_agree (ch x) 401 (by omega)
  have small : x.length ≤ sizeLine := Nat.le_trans lx (by decide)
  refine ⟨_, rfl, x, rfl, small, rfl, ?_⟩
  refine ⟨_, _, rfl, ?_⟩
  have sd : ∀ {H' : Hp}, Same H10 H' → But d H H' := fun s => (bH9.trans (But.of s10)).trans (But.of s)
  cases hR : M6.readP (M6.pieces (ch x)) with
  | none =>
    have ne : decide (V.int v2 = V.int ((x.length : Nat) : Int)) = false := by
      rw [decide_eq_false_iff_not]
      intro z
      have z := V.int.inj z
      cases hE : M6.endF 401 (ch x) with
      | none =>
        rw [hE] at rv
        have rv : v2 = -1 := rv
        omega
      | some r =>
        rw [hE] at rv
        obtain ⟨b, e1, e2, e3⟩ := rv
        have eb : b = x.length := by omega
        have : r = [] := by rw [← e3, eb, ← lc, List.drop_length]
        rw [this] at hE
        obtain ⟨t', e'⟩ := ag1.mp hE
        rw [hR] at e'
        cases e'
    rw [ne]
    refine ⟨_, rfl, x, rfl, lx, .inr ⟨hR, fun H' dd s1 hd => ⟨true, ex, fun _ a na => ?_, fun z => nomatch z⟩⟩⟩
    have sh := str_shows (H := H' ) ox (by omega)
    have s2 := s1.trans (same_new hd (.xd [("given", V.str x)]))
    have dq : ∀ H'', Dq H'' (.str x) (.str x) := fun H'' => (str_shows (H := H'') ox (by omega)).dq
    refine ⟨_, rfl, _, rfl, _, rfl, iteT ?_⟩
    refine ⟨_, rfl, rfl, rfl, dd, _, .str x, rfl, upd_same, rfl, .str x, .str x, rfl, dq _, sh.show_, sh.dep, sh.len, _, rfl, .str x, .str x, rfl, dq _, sh.show_, sh.dep, sh.len, rfl, ?_⟩
    rw [decide_eq_true rfl]
    exact q _ (sd s2)
  | some t2 =>
    obtain ⟨ot, et⟩ := ag2 t2 hR
    have eq : decide (V.int v2 = V.int ((x.length : Nat) : Int)) = true := by
      rw [decide_eq_true_eq]
      have hE := ag1.mpr ⟨t2, hR⟩
      rw [hE] at rv
      obtain ⟨b, e1, e2, e3⟩ := rv
      have : (List.drop b (ch x)).length = 0 := by rw [e3]; rfl
      rw [List.length_drop] at this
      exact congrArg V.int (by omega)
    rw [eq]
    refine ⟨_, rfl, x, rfl, lx, .inl ⟨t2, hR, fun u H11 s11 ex => ?_⟩⟩
    obtain ⟨e, rfl, ⟨⟨dx, fa, dfa, pm, pi, pl, hC, h1, h2, h3, h4, h5⟩, _, _⟩, etx, _⟩ := ex
    have etx : e.text = x := by rw [etx, et, un_ch]
    refine ⟨_, rfl, .inr (.inr ⟨e.at_, e.own, dx, _, spStr e.own CF, rfl, h1, L.str _ hC, e.at_, dx, fa, dfa, _, _, e.text, rfl, h1, rfl, h2, rfl, _, rfl, ?_⟩)⟩
    refine ⟨_, rfl, _, rfl, iteT ⟨_, rfl, _, rfl, rfl, ?_⟩⟩
    rw [etx, decide_eq_true rfl]
    exact q _ (sd s11)
end
end Wp

/-! k06: the law -/
namespace Wp
open PySem PySem.Spec PyProof.Rows L2 Hx
def spLaw (K : PySem.W.Frag) : Sp := fun vs H Q _ => ∃ (a : Addr) (ns : List Int), vs = [.ref a] ∧ SqL K H a (ns.map V.int) ∧ ns.length ≤ 63 ∧ ∀ H', Q (.bl true) H'
def NLw : List Str := ["_law_cells", "_law_turn"]
theorem scLaw : FnScope NLw ["_law_cells"] (defScope s_law) := ⟨rfl, rfl, rfl, by decide +kernel, rfl, by decide +kernel, by decide +kernel⟩
section
variable {P : Program} {w : World} {K : PySem.W.Frag} {mg : Str → Option Value} {base : Heap} {f fD fR : Addr} {fd fdD fdR : FuncData}
theorem ok_law (F : Fun K "law" "law" s_law f fd) (Z : Bltn6 mg) (mAll : mg "all" = none)
    (GD : FnOk P w K mg base CX0 1 fD fdD ["_law_cells", "_law_turn"] (spDeck K)) (bD : Binds K fdD ["_law_cells", "_law_turn"] []) (kD : PySem.W.keepIn K (.ref fD) = true) (mD : mg "_law_deck" = some (.ref fD))
    (GR : GOk P w K mg base CX0 85 fR fdR ["_law_deck_here"] spRight6) (bR : Binds K fdR ["_law_deck_here"] []) (kR : PySem.W.keepIn K (.ref fR) = true) (mR : mg "_law_right" = some (.ref fR)) :
    GOk P w K mg base CX0 86 f fd ["_law_cells"] (spLaw K) := by
  refine gok0 F scLaw (fun vs H Q E h => ?_) (fun cdv A outer s H vs Q E hr gd h => ?_)
  · obtain ⟨a, ns, rfl, _⟩ := h
    rfl
  obtain ⟨a, ns, rfl, hS, h63, q⟩ := h
  have r1 := hr.mono (by decide : 1 ≤ 85)
  refine ⟨_, pss_one (ps_ret (pe_callB (cr_all rfl) (by rfl) mAll PyProof.Rows.boot_all (pa_cons
      (pe_lc (te := tCall spRight6 [] E0 (tCons (tCall (spDeck K) [] E0 (tCons (tVar 0) (tCons (tVar 1) tNil))) tNil)) (own := [("_law_turn", 1)]) (g := gName 1) (tt := tYes) rfl scLaw.nd
        (pi_range1 rfl Z.range (pa_cons (pe_callB (call_max2 rfl) (by rfl) Z.max PyProof.Rows.boot_max (pa_cons pe_int (pa_cons
          (pe_callB (call_min2 rfl) (by rfl) Z.min PyProof.Rows.boot_min (pa_cons (pe_callB call_len_seq (by rfl) Z.len PySem.boot_len (pa_cons (pv 0) pa_nil)) (pa_cons pe_int pa_nil))) pa_nil))) pa_nil))
        (blkOk_by (N := NLw) (sc := defScope s_law) (by decide +kernel))
        (fun _ _ _ _ _ => pg_name (i := 1) scLaw.nd rfl (Or.inl rfl)) (fun _ _ _ _ _ => pts_nil)
        (fun _ _ _ _ _ => pe_callG GR hr gd rfl mR kR bR .nil pass0 (pa_cons (pe_call GD r1 rfl mD kD bD .nil pass0 (pa_cons (pv 0) (pa_cons (pv 1) pa_nil))) pa_nil))) pa_nil))), ?_⟩
  have hl : (ns.map V.int).length = ns.length := List.length_map _
  refine ⟨_, rfl, a, _, rfl, .inl hS, _, _, rfl, _, _, rfl, ?_⟩
  generalize hnum : (if (if (16 : Int) < (((ns.map V.int).length : Nat) : Int) then (16 : Int) else (((ns.map V.int).length : Nat) : Int)) > 2 then (if (16 : Int) < (((ns.map V.int).length : Nat) : Int) then (16 : Int) else (((ns.map V.int).length : Nat) : Int)) else 2) = z
  have hz : 2 ≤ z ∧ z ≤ 16 := by
    rw [← hnum]
    split <;> split <;> omega
  refine ⟨z, rfl, by omega, by omega, fun D hD => ?_⟩
  refine lc_range (lo := 0) (n := z.toNat) (fun i H2 => Same H H2 ∧ H2 D = some (.lst ((List.replicate i true).map V.bl))) ⟨same_new hD _, upd_same⟩ ?_ ?_
  · rintro i H1 hi ⟨s6, h5⟩
    refine ⟨rfl, turn_yes ?_⟩
    refine ⟨_, rfl, _, rfl, a, ns, i, ?_, s6.seq hS, h63, fun p' H2 s7 np dk => ?_⟩
    · show [V.ref a, V.int (0 + (i : Int))] = _
      rw [Int.zero_add]
    refine ⟨p', rfl, dk, fun H3 b => ?_⟩
    have npD : D ≠ p' := ne_of_none h5 np
    refine ⟨_, b _ _ npD (s7 _ _ h5), ?_, ?_, ?_⟩
    · rw [List.length_map, List.length_replicate]
      exact Nat.lt_of_lt_of_le (by omega : i < 1000) (small_line (Nat.le_refl _))
    · intro c o hc
      have nD : c ≠ D := ne_of_none hc hD
      rw [upd_ne nD]
      exact b c o (ne_of_none (s6 c o hc) np) (s7 c o (s6 c o hc))
    · rw [upd_same, List.replicate_succ', List.map_append]
      rfl
  · rintro H1 ⟨s6, h5⟩
    refine ⟨D, List.replicate z.toNat true, rfl, SqL.of h5, ?_⟩
    have e : (List.replicate z.toNat true).all id = true := by
      rw [List.all_eq_true]
      intro x hx
      exact (List.eq_of_mem_replicate hx)
    rw [e]
    exact q H1
end
end Wp

namespace Wp
open PySem PySem.Spec PyProof.Rows L2 Hx
/-! the promises out of what the head shows -/
section
variable {P : Program} {w : World} {K : PySem.W.Frag} {h : Heap} {mg : Str → Option Value} {base : Heap}
theorem exX_err (e : exX K = true) {x : Str} (hx : x ∈ errsX) : exErr K x = true := List.all_eq_true.mp (Bool.and_eq_true_iff.mp e).1 x hx
theorem exX_cls (e : exX K = true) {x : Str} (hx : x ∈ cnX) : exCls K x = true := List.all_eq_true.mp (Bool.and_eq_true_iff.mp (Bool.and_eq_true_iff.mp e).2).1 x hx
theorem exX_facts (e : exX K = true) : exFacts K = true := (Bool.and_eq_true_iff.mp (Bool.and_eq_true_iff.mp (Bool.and_eq_true_iff.mp e).2).2).1
theorem exX_old (e : exX K = true) : exOld K = true := (Bool.and_eq_true_iff.mp (Bool.and_eq_true_iff.mp (Bool.and_eq_true_iff.mp (Bool.and_eq_true_iff.mp e).2).2).2).1
theorem exX_rest (e : exX K = true) : (glosX.all (fun x => (He.Fa.glo x).ok K) && (freeX.all (fun x => (He.Fa.free x).ok K) && (exConsts K && (exEq K && exRead K)))) = true := (Bool.and_eq_true_iff.mp (Bool.and_eq_true_iff.mp (Bool.and_eq_true_iff.mp (Bool.and_eq_true_iff.mp e).2).2).2).2
theorem exX_glo (e : exX K = true) {x : Str} (hx : x ∈ glosX) : (He.Fa.glo x).ok K = true := List.all_eq_true.mp (Bool.and_eq_true_iff.mp (exX_rest e)).1 x hx
theorem exX_free (e : exX K = true) {x : Str} (hx : x ∈ freeX) : (He.Fa.free x).ok K = true := List.all_eq_true.mp (Bool.and_eq_true_iff.mp (Bool.and_eq_true_iff.mp (exX_rest e)).2).1 x hx
theorem exX_consts (e : exX K = true) : exConsts K = true := (Bool.and_eq_true_iff.mp (Bool.and_eq_true_iff.mp (Bool.and_eq_true_iff.mp (exX_rest e)).2).2).1
theorem exX_eq (e : exX K = true) : exEq K = true := (Bool.and_eq_true_iff.mp (Bool.and_eq_true_iff.mp (Bool.and_eq_true_iff.mp (Bool.and_eq_true_iff.mp (exX_rest e)).2).2).2).1
theorem exX_read (e : exX K = true) : exRead K = true := (Bool.and_eq_true_iff.mp (Bool.and_eq_true_iff.mp (Bool.and_eq_true_iff.mp (Bool.and_eq_true_iff.mp (exX_rest e)).2).2).2).2
theorem m_glo (X : K.In h) (G : h.Ns mainGlobals mg) (e : exX K = true) (x : Str) (hx : x ∈ glosX := by decide +kernel) : mg x = some (.ref (He.ga K x)) := He.glo_ok X G (exX_glo e hx)
theorem m_free (X : K.In h) (G : h.Ns mainGlobals mg) (e : exX K = true) (x : Str) (hx : x ∈ freeX := by decide +kernel) : mg x = none := He.free_ok X G (exX_free e hx)
/-- a class of errors -/
structure ErrF (K : PySem.W.Frag) (x : Str) : Prop where
  g : (He.Fa.glo x).ok K = true
  ex : ExK K (He.ga K x) "ValueError" "ValueError.__new__" "ValueError.__init__" He.veBase
  hi : PySem.W.findIn K (.ref (He.ga K x)) "__init__" = some (some (.ref (He.ma K (He.ga K x) "__init__")))
  tI : PySem.W.typeIn K (.ref (He.ma K (He.ga K x) "__init__")) = some (.type "function")
  free : PySem.W.takerIn K (He.ga K x) "given" = some none
  no : PySem.W.findIn K (.ref (He.ga K x)) "given" = some none
  ty : PySem.W.typeIn K (.ref (He.ga K x)) = some (.type "type")
theorem errF (e : exX K = true) {x : Str} (hx : x ∈ errsX) : ErrF K x := by
  have h1 := exX_err e hx
  have h2 := exX_old e
  simp only [exErr, exOld, He.eqO, Bool.and_eq_true, decide_eq_true_eq] at h1 h2
  obtain ⟨a1, a2, a3, a4, a5, a6, a7, a8, a9, a10, a11, a12, a13, a14, a15, a16⟩ := h1
  exact ⟨decide_eq_true a1, ⟨PySem.F.excBase_ValueError, PySem.F.store_ValueError, a2, a3, a4, a5, a6, a7, a8, a9, a10, h2.1, h2.2, a11⟩, a12, a13, a14, a15, a16⟩
theorem mkc (X : K.In h) (G : h.Ns mainGlobals mg) {x qual : Str} {st : Stmt} {fd : FuncData} {q1 q2 q3 q4 : Pos} (E : ErrF K x) (F : Fun K "__init__" qual st (He.ma K (He.ga K x) "__init__") fd) (S : FnScope ["self", "given"] ["self", "given"] (defScope st))
    (hb : defBody st = [.Assign [.Attribute (.Name "self" q1) "given" q2] (.Name "given" q3) q4]) (v1 : Vis (defScope st) "self") (v2 : Vis (defScope st) "given") (b : Binds K fd ["self", "given"] [])
    (bk : ∀ (s : Shared) (self w1 : Value), BindsTo s fd ⟨[self], [("given", w1)]⟩ [("self", self), ("given", w1)]) : MkC P w K mg base x (He.ga K x) "given" :=
  ⟨⟨_, fd, _, _, _, _, E.ex, E.hi, E.tI, ok_in1 F S hb v1 v2 (by decide) (by decide) E.ex E.free, b, bk⟩, He.glo_ok X G E.g, E.no⟩
/-- one of the seven classes -/
structure ClsF (K : PySem.W.Frag) (x : Str) : Prop where
  g : (He.Fa.glo x).ok K = true
  cls : Cls K (He.ga K x)
  mkr : Mk K (He.ga K x) (He.ma K (He.ga K x) "__init__")
  no : NoAttr K (He.ga K x) "facts"
  str : Meth K (He.ga K x) "__str__" (He.ma K (He.ga K x) "__str__")
  rep : Meth K (He.ga K x) "__repr__" (He.ma K (He.ga K x) "__repr__")
  prop : ∀ p ∈ propsX, PropOf K (He.ga K x) p (He.ma K (He.ga K x) p) (pG x p K)
  cl : PySem.W.findIn K (.ref (He.ga K x)) "__class__" = some (some (.builtin "object.__class__"))
  mo : PySem.W.mroIn K (He.ga K x) (.type "object") = some true
  kit : ∀ y ∈ cnX, PySem.W.kitOne K (.ref (He.ga K x)) (.ref (He.ga K y)) = some (decide (x = y))
  top : PySem.W.kitOne K (.ref (He.ga K x)) (.ref (He.ga K "Expression")) = some true
theorem clsF (e : exX K = true) {x : Str} (hx : x ∈ cnX) : ClsF K x := by
  have h1 := exX_cls e hx
  unfold exCls at h1
  obtain ⟨a1, h1⟩ := Bool.and_eq_true_iff.mp h1
  obtain ⟨a2, h1⟩ := Bool.and_eq_true_iff.mp h1
  obtain ⟨a3, h1⟩ := Bool.and_eq_true_iff.mp h1
  obtain ⟨a4, h1⟩ := Bool.and_eq_true_iff.mp h1
  obtain ⟨a5, h1⟩ := Bool.and_eq_true_iff.mp h1
  obtain ⟨a6, h1⟩ := Bool.and_eq_true_iff.mp h1
  obtain ⟨a7, h1⟩ := Bool.and_eq_true_iff.mp h1
  obtain ⟨a8, h1⟩ := Bool.and_eq_true_iff.mp h1
  obtain ⟨a9, h1⟩ := Bool.and_eq_true_iff.mp h1
  obtain ⟨a10, a11⟩ := Bool.and_eq_true_iff.mp h1
  exact ⟨a1, He.cls_ok a2, He.mkr_ok a3, He.noat_ok a4, He.meth_ok a5, He.meth_ok a6, fun p hp => pB_ok (List.all_eq_true.mp a7 p hp), He.eqO_ok a8, of_decide_eq_true a9, fun y hy => of_decide_eq_true (List.all_eq_true.mp a10 y hy), of_decide_eq_true a11⟩
theorem clsF_facts (e : exX K = true) : (He.Fa.glo "Facts").ok K = true ∧ FactsC K (He.ga K "Facts") ∧ Mk K (He.ga K "Facts") (He.ma K (He.ga K "Facts") "__init__") := by
  have h1 := exX_facts e
  unfold exFacts at h1
  obtain ⟨a1, h1⟩ := Bool.and_eq_true_iff.mp h1
  obtain ⟨a2, h1⟩ := Bool.and_eq_true_iff.mp h1
  obtain ⟨a3, a4⟩ := Bool.and_eq_true_iff.mp h1
  exact ⟨a1, ⟨He.cls_ok a2, fun f hf => He.noat_ok (List.all_eq_true.mp a4 f hf)⟩, He.mkr_ok a3⟩
theorem constsX (X : K.In h) (G : h.Ns mainGlobals mg) (e : exX K = true) : Consts mg K := by
  have h1 := exX_consts e
  unfold exConsts at h1
  obtain ⟨a1, h1⟩ := Bool.and_eq_true_iff.mp h1
  obtain ⟨a2, h1⟩ := Bool.and_eq_true_iff.mp h1
  obtain ⟨a3, h1⟩ := Bool.and_eq_true_iff.mp h1
  obtain ⟨a4, h1⟩ := Bool.and_eq_true_iff.mp h1
  obtain ⟨a5, h1⟩ := Bool.and_eq_true_iff.mp h1
  obtain ⟨a6, a7⟩ := Bool.and_eq_true_iff.mp h1
  exact ⟨He.str_ok X G a1, He.int_ok X G a2, He.int_ok X G a3, He.int_ok X G a4, He.int_ok X G a5, He.int_ok X G a6, _, m_glo X G e "NO_NAMES", fun H => He.tupB_ok a7 H⟩
/-- the class of a kind -/
def cnOf (k : Str) : Str := if k = "drop" then "Drop" else if k = "lead" then "Lead" else if k = "name" then "Name" else if k = "part" then "Part" else if k = "sign" then "Sign" else if k = "turn" then "Turn" else "Weave"
theorem cn_in : ∀ k ∈ kinds7, cnOf k ∈ cnX := by decide +kernel
theorem cn_inj : ∀ k ∈ kinds7, ∀ j ∈ kinds7, decide (cnOf k = cnOf j) = decide (k = j) := by decide +kernel
def kcX (K : PySem.W.Frag) : KCls := fun k => He.ga K (cnOf k)
def clsX (K : PySem.W.Frag) (C : Addr) : Prop := ∃ x ∈ cnX, C = He.ga K x
theorem tyX_own (e : exX K = true) (H : Hp) (C a dx : Addr) (fs : List (Str × V)) (hC : clsX K C) (ha : H a = some (.ins C dx fs)) : TyX K H (.ref a) (.ref C) := by
  obtain ⟨x, hx, rfl⟩ := hC
  have c := clsF e hx
  have h2 := exX_old e
  simp only [exOld, He.eqO, Bool.and_eq_true, decide_eq_true_eq] at h2
  exact .base (.ins ha c.cls c.cl h2.1 h2.2 c.mo)
theorem ixX (e : exX K = true) : IsX K (He.ga K "Expression") (clsX K) := fun H C a dx fs hC ha => ⟨.ref C, tyX_own e H C a dx fs hC ha, by
  obtain ⟨x, hx, rfl⟩ := hC
  exact (clsF e hx).top⟩
theorem kindsX (X : K.In h) (G : h.Ns mainGlobals mg) (e : exX K = true) : Kinds K mg (He.ga K "Expression") (kcX K) (clsX K) :=
  ⟨fun H C a dx fs hC ha => tyX_own e H C a dx fs hC ha, fun k hk j hj => by
    rw [← cn_inj k hk j hj]
    exact (clsF e (cn_in k hk)).kit _ (cn_in j hj), fun k hk => (clsF e (cn_in k hk)).top, m_glo X G e "Expression"⟩
theorem ownX (e : exX K = true) (C : Addr) (hC : clsX K C) : Own K C := by
  obtain ⟨x, hx, rfl⟩ := hC
  exact ⟨(clsF e hx).cls, (clsF e hx).no⟩
theorem cls_of (k : Str) (hk : k ∈ kinds7) : clsX K (kcX K k) := ⟨cnOf k, cn_in k hk, rfl⟩
end
end Wp

namespace Wp
open PySem PySem.Spec PyProof.Rows L2 Hx
/-- what a class of expressions tells of itself -/
structure TellF (P : Program) (w : World) (K : PySem.W.Frag) (mg : Str → Option Value) (base : Heap) (C : Addr) : Prop where
  str : TellsBy P w K mg base 1 C (spStr C (He.ga K "Facts"))
  rep : Hx.ShowsBy P w K mg base 1 C (spReprX C (He.ga K "Facts"))
  kind : PropBy P w K mg base 1 C "kind" (spGet C (He.ga K "Facts") "word")
  inner : PropBy P w K mg base 1 C "inner" (spGet C (He.ga K "Facts") "parts")
  told : PropBy P w K mg base 1 C "told" (spGet C (He.ga K "Facts") "marks")
  names : PropBy P w K mg base 1 C "names" (spGet C (He.ga K "Facts") "labels")
  knots : PropBy P w K mg base 1 C "knots" (spGet C (He.ga K "Facts") "size")
section
variable {P : Program} {w : World} {K : PySem.W.Frag} {h : Heap} {mg : Str → Option Value} {base : Heap}

theorem sc_Drop_str : FnScope ["self"] ["self"] (defScope s_Drop_str) := ⟨rfl, rfl, rfl, by decide +kernel, rfl, by decide +kernel, by decide +kernel⟩
theorem sc_Drop_repr : FnScope ["self"] ["self"] (defScope s_Drop_repr) := ⟨rfl, rfl, rfl, by decide +kernel, rfl, by decide +kernel, by decide +kernel⟩
theorem sc_Drop_kind : FnScope ["self"] ["self"] (defScope s_Drop_kind) := ⟨rfl, rfl, rfl, by decide +kernel, rfl, by decide +kernel, by decide +kernel⟩
theorem sc_Drop_inner : FnScope ["self"] ["self"] (defScope s_Drop_inner) := ⟨rfl, rfl, rfl, by decide +kernel, rfl, by decide +kernel, by decide +kernel⟩
theorem sc_Drop_told : FnScope ["self"] ["self"] (defScope s_Drop_told) := ⟨rfl, rfl, rfl, by decide +kernel, rfl, by decide +kernel, by decide +kernel⟩
theorem sc_Drop_names : FnScope ["self"] ["self"] (defScope s_Drop_names) := ⟨rfl, rfl, rfl, by decide +kernel, rfl, by decide +kernel, by decide +kernel⟩
theorem sc_Drop_knots : FnScope ["self"] ["self"] (defScope s_Drop_knots) := ⟨rfl, rfl, rfl, by decide +kernel, rfl, by decide +kernel, by decide +kernel⟩
theorem tell_Drop (c : SaysZ exX dsX K) (z : mg "str" = none) : TellF P w K mg base (He.ga K "Drop") := by
  have e := c.ex
  have C := clsF e (x := "Drop") (by decide +kernel)
  have FC := (clsF_facts e).2.1
  obtain ⟨f1, F1⟩ := c.def_ 46 (d := ⟨mA "Drop" "__str__", "__str__", "Drop.__str__", s_Drop_str⟩) rfl
  obtain ⟨f2, F2⟩ := c.def_ 47 (d := ⟨mA "Drop" "__repr__", "__repr__", "Drop.__repr__", s_Drop_repr⟩) rfl
  obtain ⟨g0, G0⟩ := c.def_ 67 (d := ⟨pG "Drop" "kind", "kind", "Drop.kind", s_Drop_kind⟩) rfl
  obtain ⟨g1, G1⟩ := c.def_ 68 (d := ⟨pG "Drop" "inner", "inner", "Drop.inner", s_Drop_inner⟩) rfl
  obtain ⟨g2, G2⟩ := c.def_ 69 (d := ⟨pG "Drop" "told", "told", "Drop.told", s_Drop_told⟩) rfl
  obtain ⟨g3, G3⟩ := c.def_ 70 (d := ⟨pG "Drop" "names", "names", "Drop.names", s_Drop_names⟩) rfl
  obtain ⟨g4, G4⟩ := c.def_ 71 (d := ⟨pG "Drop" "knots", "knots", "Drop.knots", s_Drop_knots⟩) rfl
  exact ⟨⟨C.cls, _, f1, C.str.at_, C.str.fn, ok_str F1 sc_Drop_str rfl (Or.inl rfl) (fun _ _ => rfl) z C.cls C.no FC.cls (FC.no "text" (by simp)), F1.binds (ps := ["self"]) (fun _ _ _ _ _ _ us hl => match us, hl with | [_], _ => rfl)⟩,
    ⟨_, f2, C.rep.at_, C.rep.fn, ok_reprX F2 sc_Drop_repr rfl (Or.inl rfl) C.cls C.no FC.cls (FC.no "size" (by simp)), F2.binds (ps := ["self"]) (fun _ _ _ _ _ _ us hl => match us, hl with | [_], _ => rfl)⟩,
    ⟨C.cls, _, _, g0, C.prop "kind" (by decide +kernel), ok_get G0 sc_Drop_kind rfl (Or.inl rfl) C.cls C.no FC.cls (FC.no "word" (by simp)), G0.binds (ps := ["self"]) (fun _ _ _ _ _ _ us hl => match us, hl with | [_], _ => rfl)⟩,
    ⟨C.cls, _, _, g1, C.prop "inner" (by decide +kernel), ok_get G1 sc_Drop_inner rfl (Or.inl rfl) C.cls C.no FC.cls (FC.no "parts" (by simp)), G1.binds (ps := ["self"]) (fun _ _ _ _ _ _ us hl => match us, hl with | [_], _ => rfl)⟩,
    ⟨C.cls, _, _, g2, C.prop "told" (by decide +kernel), ok_get G2 sc_Drop_told rfl (Or.inl rfl) C.cls C.no FC.cls (FC.no "marks" (by simp)), G2.binds (ps := ["self"]) (fun _ _ _ _ _ _ us hl => match us, hl with | [_], _ => rfl)⟩,
    ⟨C.cls, _, _, g3, C.prop "names" (by decide +kernel), ok_get G3 sc_Drop_names rfl (Or.inl rfl) C.cls C.no FC.cls (FC.no "labels" (by simp)), G3.binds (ps := ["self"]) (fun _ _ _ _ _ _ us hl => match us, hl with | [_], _ => rfl)⟩,
    ⟨C.cls, _, _, g4, C.prop "knots" (by decide +kernel), ok_get G4 sc_Drop_knots rfl (Or.inl rfl) C.cls C.no FC.cls (FC.no "size" (by simp)), G4.binds (ps := ["self"]) (fun _ _ _ _ _ _ us hl => match us, hl with | [_], _ => rfl)⟩⟩
theorem sc_Lead_str : FnScope ["self"] ["self"] (defScope s_Lead_str) := ⟨rfl, rfl, rfl, by decide +kernel, rfl, by decide +kernel, by decide +kernel⟩
theorem sc_Lead_repr : FnScope ["self"] ["self"] (defScope s_Lead_repr) := ⟨rfl, rfl, rfl, by decide +kernel, rfl, by decide +kernel, by decide +kernel⟩
theorem sc_Lead_kind : FnScope ["self"] ["self"] (defScope s_Lead_kind) := ⟨rfl, rfl, rfl, by decide +kernel, rfl, by decide +kernel, by decide +kernel⟩
theorem sc_Lead_inner : FnScope ["self"] ["self"] (defScope s_Lead_inner) := ⟨rfl, rfl, rfl, by decide +kernel, rfl, by decide +kernel, by decide +kernel⟩
theorem sc_Lead_told : FnScope ["self"] ["self"] (defScope s_Lead_told) := ⟨rfl, rfl, rfl, by decide +kernel, rfl, by decide +kernel, by decide +kernel⟩
theorem sc_Lead_names : FnScope ["self"] ["self"] (defScope s_Lead_names) := ⟨rfl, rfl, rfl, by decide +kernel, rfl, by decide +kernel, by decide +kernel⟩
theorem sc_Lead_knots : FnScope ["self"] ["self"] (defScope s_Lead_knots) := ⟨rfl, rfl, rfl, by decide +kernel, rfl, by decide +kernel, by decide +kernel⟩
theorem tell_Lead (c : SaysZ exX dsX K) (z : mg "str" = none) : TellF P w K mg base (He.ga K "Lead") := by
  have e := c.ex
  have C := clsF e (x := "Lead") (by decide +kernel)
  have FC := (clsF_facts e).2.1
  obtain ⟨f1, F1⟩ := c.def_ 49 (d := ⟨mA "Lead" "__str__", "__str__", "Lead.__str__", s_Lead_str⟩) rfl
  obtain ⟨f2, F2⟩ := c.def_ 50 (d := ⟨mA "Lead" "__repr__", "__repr__", "Lead.__repr__", s_Lead_repr⟩) rfl
  obtain ⟨g0, G0⟩ := c.def_ 72 (d := ⟨pG "Lead" "kind", "kind", "Lead.kind", s_Lead_kind⟩) rfl
  obtain ⟨g1, G1⟩ := c.def_ 73 (d := ⟨pG "Lead" "inner", "inner", "Lead.inner", s_Lead_inner⟩) rfl
  obtain ⟨g2, G2⟩ := c.def_ 74 (d := ⟨pG "Lead" "told", "told", "Lead.told", s_Lead_told⟩) rfl
  obtain ⟨g3, G3⟩ := c.def_ 75 (d := ⟨pG "Lead" "names", "names", "Lead.names", s_Lead_names⟩) rfl
  obtain ⟨g4, G4⟩ := c.def_ 76 (d := ⟨pG "Lead" "knots", "knots", "Lead.knots", s_Lead_knots⟩) rfl
  exact ⟨⟨C.cls, _, f1, C.str.at_, C.str.fn, ok_str F1 sc_Lead_str rfl (Or.inl rfl) (fun _ _ => rfl) z C.cls C.no FC.cls (FC.no "text" (by simp)), F1.binds (ps := ["self"]) (fun _ _ _ _ _ _ us hl => match us, hl with | [_], _ => rfl)⟩,
    ⟨_, f2, C.rep.at_, C.rep.fn, ok_reprX F2 sc_Lead_repr rfl (Or.inl rfl) C.cls C.no FC.cls (FC.no "size" (by simp)), F2.binds (ps := ["self"]) (fun _ _ _ _ _ _ us hl => match us, hl with | [_], _ => rfl)⟩,
    ⟨C.cls, _, _, g0, C.prop "kind" (by decide +kernel), ok_get G0 sc_Lead_kind rfl (Or.inl rfl) C.cls C.no FC.cls (FC.no "word" (by simp)), G0.binds (ps := ["self"]) (fun _ _ _ _ _ _ us hl => match us, hl with | [_], _ => rfl)⟩,
    ⟨C.cls, _, _, g1, C.prop "inner" (by decide +kernel), ok_get G1 sc_Lead_inner rfl (Or.inl rfl) C.cls C.no FC.cls (FC.no "parts" (by simp)), G1.binds (ps := ["self"]) (fun _ _ _ _ _ _ us hl => match us, hl with | [_], _ => rfl)⟩,
    ⟨C.cls, _, _, g2, C.prop "told" (by decide +kernel), ok_get G2 sc_Lead_told rfl (Or.inl rfl) C.cls C.no FC.cls (FC.no "marks" (by simp)), G2.binds (ps := ["self"]) (fun _ _ _ _ _ _ us hl => match us, hl with | [_], _ => rfl)⟩,
    ⟨C.cls, _, _, g3, C.prop "names" (by decide +kernel), ok_get G3 sc_Lead_names rfl (Or.inl rfl) C.cls C.no FC.cls (FC.no "labels" (by simp)), G3.binds (ps := ["self"]) (fun _ _ _ _ _ _ us hl => match us, hl with | [_], _ => rfl)⟩,
    ⟨C.cls, _, _, g4, C.prop "knots" (by decide +kernel), ok_get G4 sc_Lead_knots rfl (Or.inl rfl) C.cls C.no FC.cls (FC.no "size" (by simp)), G4.binds (ps := ["self"]) (fun _ _ _ _ _ _ us hl => match us, hl with | [_], _ => rfl)⟩⟩
theorem sc_Name_str : FnScope ["self"] ["self"] (defScope s_Name_str) := ⟨rfl, rfl, rfl, by decide +kernel, rfl, by decide +kernel, by decide +kernel⟩
theorem sc_Name_repr : FnScope ["self"] ["self"] (defScope s_Name_repr) := ⟨rfl, rfl, rfl, by decide +kernel, rfl, by decide +kernel, by decide +kernel⟩
theorem sc_Name_kind : FnScope ["self"] ["self"] (defScope s_Name_kind) := ⟨rfl, rfl, rfl, by decide +kernel, rfl, by decide +kernel, by decide +kernel⟩
theorem sc_Name_inner : FnScope ["self"] ["self"] (defScope s_Name_inner) := ⟨rfl, rfl, rfl, by decide +kernel, rfl, by decide +kernel, by decide +kernel⟩
theorem sc_Name_told : FnScope ["self"] ["self"] (defScope s_Name_told) := ⟨rfl, rfl, rfl, by decide +kernel, rfl, by decide +kernel, by decide +kernel⟩
theorem sc_Name_names : FnScope ["self"] ["self"] (defScope s_Name_names) := ⟨rfl, rfl, rfl, by decide +kernel, rfl, by decide +kernel, by decide +kernel⟩
theorem sc_Name_knots : FnScope ["self"] ["self"] (defScope s_Name_knots) := ⟨rfl, rfl, rfl, by decide +kernel, rfl, by decide +kernel, by decide +kernel⟩
theorem tell_Name (c : SaysZ exX dsX K) (z : mg "str" = none) : TellF P w K mg base (He.ga K "Name") := by
  have e := c.ex
  have C := clsF e (x := "Name") (by decide +kernel)
  have FC := (clsF_facts e).2.1
  obtain ⟨f1, F1⟩ := c.def_ 52 (d := ⟨mA "Name" "__str__", "__str__", "Name.__str__", s_Name_str⟩) rfl
  obtain ⟨f2, F2⟩ := c.def_ 53 (d := ⟨mA "Name" "__repr__", "__repr__", "Name.__repr__", s_Name_repr⟩) rfl
  obtain ⟨g0, G0⟩ := c.def_ 77 (d := ⟨pG "Name" "kind", "kind", "Name.kind", s_Name_kind⟩) rfl
  obtain ⟨g1, G1⟩ := c.def_ 78 (d := ⟨pG "Name" "inner", "inner", "Name.inner", s_Name_inner⟩) rfl
  obtain ⟨g2, G2⟩ := c.def_ 79 (d := ⟨pG "Name" "told", "told", "Name.told", s_Name_told⟩) rfl
  obtain ⟨g3, G3⟩ := c.def_ 80 (d := ⟨pG "Name" "names", "names", "Name.names", s_Name_names⟩) rfl
  obtain ⟨g4, G4⟩ := c.def_ 81 (d := ⟨pG "Name" "knots", "knots", "Name.knots", s_Name_knots⟩) rfl
  exact ⟨⟨C.cls, _, f1, C.str.at_, C.str.fn, ok_str F1 sc_Name_str rfl (Or.inl rfl) (fun _ _ => rfl) z C.cls C.no FC.cls (FC.no "text" (by simp)), F1.binds (ps := ["self"]) (fun _ _ _ _ _ _ us hl => match us, hl with | [_], _ => rfl)⟩,
    ⟨_, f2, C.rep.at_, C.rep.fn, ok_reprX F2 sc_Name_repr rfl (Or.inl rfl) C.cls C.no FC.cls (FC.no "size" (by simp)), F2.binds (ps := ["self"]) (fun _ _ _ _ _ _ us hl => match us, hl with | [_], _ => rfl)⟩,
    ⟨C.cls, _, _, g0, C.prop "kind" (by decide +kernel), ok_get G0 sc_Name_kind rfl (Or.inl rfl) C.cls C.no FC.cls (FC.no "word" (by simp)), G0.binds (ps := ["self"]) (fun _ _ _ _ _ _ us hl => match us, hl with | [_], _ => rfl)⟩,
    ⟨C.cls, _, _, g1, C.prop "inner" (by decide +kernel), ok_get G1 sc_Name_inner rfl (Or.inl rfl) C.cls C.no FC.cls (FC.no "parts" (by simp)), G1.binds (ps := ["self"]) (fun _ _ _ _ _ _ us hl => match us, hl with | [_], _ => rfl)⟩,
    ⟨C.cls, _, _, g2, C.prop "told" (by decide +kernel), ok_get G2 sc_Name_told rfl (Or.inl rfl) C.cls C.no FC.cls (FC.no "marks" (by simp)), G2.binds (ps := ["self"]) (fun _ _ _ _ _ _ us hl => match us, hl with | [_], _ => rfl)⟩,
    ⟨C.cls, _, _, g3, C.prop "names" (by decide +kernel), ok_get G3 sc_Name_names rfl (Or.inl rfl) C.cls C.no FC.cls (FC.no "labels" (by simp)), G3.binds (ps := ["self"]) (fun _ _ _ _ _ _ us hl => match us, hl with | [_], _ => rfl)⟩,
    ⟨C.cls, _, _, g4, C.prop "knots" (by decide +kernel), ok_get G4 sc_Name_knots rfl (Or.inl rfl) C.cls C.no FC.cls (FC.no "size" (by simp)), G4.binds (ps := ["self"]) (fun _ _ _ _ _ _ us hl => match us, hl with | [_], _ => rfl)⟩⟩
theorem sc_Part_str : FnScope ["self"] ["self"] (defScope s_Part_str) := ⟨rfl, rfl, rfl, by decide +kernel, rfl, by decide +kernel, by decide +kernel⟩
theorem sc_Part_repr : FnScope ["self"] ["self"] (defScope s_Part_repr) := ⟨rfl, rfl, rfl, by decide +kernel, rfl, by decide +kernel, by decide +kernel⟩
theorem sc_Part_kind : FnScope ["self"] ["self"] (defScope s_Part_kind) := ⟨rfl, rfl, rfl, by decide +kernel, rfl, by decide +kernel, by decide +kernel⟩
theorem sc_Part_inner : FnScope ["self"] ["self"] (defScope s_Part_inner) := ⟨rfl, rfl, rfl, by decide +kernel, rfl, by decide +kernel, by decide +kernel⟩
theorem sc_Part_told : FnScope ["self"] ["self"] (defScope s_Part_told) := ⟨rfl, rfl, rfl, by decide +kernel, rfl, by decide +kernel, by decide +kernel⟩
theorem sc_Part_names : FnScope ["self"] ["self"] (defScope s_Part_names) := ⟨rfl, rfl, rfl, by decide +kernel, rfl, by decide +kernel, by decide +kernel⟩
theorem sc_Part_knots : FnScope ["self"] ["self"] (defScope s_Part_knots) := ⟨rfl, rfl, rfl, by decide +kernel, rfl, by decide +kernel, by decide +kernel⟩
theorem tell_Part (c : SaysZ exX dsX K) (z : mg "str" = none) : TellF P w K mg base (He.ga K "Part") := by
  have e := c.ex
  have C := clsF e (x := "Part") (by decide +kernel)
  have FC := (clsF_facts e).2.1
  obtain ⟨f1, F1⟩ := c.def_ 55 (d := ⟨mA "Part" "__str__", "__str__", "Part.__str__", s_Part_str⟩) rfl
  obtain ⟨f2, F2⟩ := c.def_ 56 (d := ⟨mA "Part" "__repr__", "__repr__", "Part.__repr__", s_Part_repr⟩) rfl
  obtain ⟨g0, G0⟩ := c.def_ 82 (d := ⟨pG "Part" "kind", "kind", "Part.kind", s_Part_kind⟩) rfl
  obtain ⟨g1, G1⟩ := c.def_ 83 (d := ⟨pG "Part" "inner", "inner", "Part.inner", s_Part_inner⟩) rfl
  obtain ⟨g2, G2⟩ := c.def_ 84 (d := ⟨pG "Part" "told", "told", "Part.told", s_Part_told⟩) rfl
  obtain ⟨g3, G3⟩ := c.def_ 85 (d := ⟨pG "Part" "names", "names", "Part.names", s_Part_names⟩) rfl
  obtain ⟨g4, G4⟩ := c.def_ 86 (d := ⟨pG "Part" "knots", "knots", "Part.knots", s_Part_knots⟩) rfl
  exact ⟨⟨C.cls, _, f1, C.str.at_, C.str.fn, ok_str F1 sc_Part_str rfl (Or.inl rfl) (fun _ _ => rfl) z C.cls C.no FC.cls (FC.no "text" (by simp)), F1.binds (ps := ["self"]) (fun _ _ _ _ _ _ us hl => match us, hl with | [_], _ => rfl)⟩,
    ⟨_, f2, C.rep.at_, C.rep.fn, ok_reprX F2 sc_Part_repr rfl (Or.inl rfl) C.cls C.no FC.cls (FC.no "size" (by simp)), F2.binds (ps := ["self"]) (fun _ _ _ _ _ _ us hl => match us, hl with | [_], _ => rfl)⟩,
    ⟨C.cls, _, _, g0, C.prop "kind" (by decide +kernel), ok_get G0 sc_Part_kind rfl (Or.inl rfl) C.cls C.no FC.cls (FC.no "word" (by simp)), G0.binds (ps := ["self"]) (fun _ _ _ _ _ _ us hl => match us, hl with | [_], _ => rfl)⟩,
    ⟨C.cls, _, _, g1, C.prop "inner" (by decide +kernel), ok_get G1 sc_Part_inner rfl (Or.inl rfl) C.cls C.no FC.cls (FC.no "parts" (by simp)), G1.binds (ps := ["self"]) (fun _ _ _ _ _ _ us hl => match us, hl with | [_], _ => rfl)⟩,
    ⟨C.cls, _, _, g2, C.prop "told" (by decide +kernel), ok_get G2 sc_Part_told rfl (Or.inl rfl) C.cls C.no FC.cls (FC.no "marks" (by simp)), G2.binds (ps := ["self"]) (fun _ _ _ _ _ _ us hl => match us, hl with | [_], _ => rfl)⟩,
    ⟨C.cls, _, _, g3, C.prop "names" (by decide +kernel), ok_get G3 sc_Part_names rfl (Or.inl rfl) C.cls C.no FC.cls (FC.no "labels" (by simp)), G3.binds (ps := ["self"]) (fun _ _ _ _ _ _ us hl => match us, hl with | [_], _ => rfl)⟩,
    ⟨C.cls, _, _, g4, C.prop "knots" (by decide +kernel), ok_get G4 sc_Part_knots rfl (Or.inl rfl) C.cls C.no FC.cls (FC.no "size" (by simp)), G4.binds (ps := ["self"]) (fun _ _ _ _ _ _ us hl => match us, hl with | [_], _ => rfl)⟩⟩
theorem sc_Sign_str : FnScope ["self"] ["self"] (defScope s_Sign_str) := ⟨rfl, rfl, rfl, by decide +kernel, rfl, by decide +kernel, by decide +kernel⟩
theorem sc_Sign_repr : FnScope ["self"] ["self"] (defScope s_Sign_repr) := ⟨rfl, rfl, rfl, by decide +kernel, rfl, by decide +kernel, by decide +kernel⟩
theorem sc_Sign_kind : FnScope ["self"] ["self"] (defScope s_Sign_kind) := ⟨rfl, rfl, rfl, by decide +kernel, rfl, by decide +kernel, by decide +kernel⟩
theorem sc_Sign_inner : FnScope ["self"] ["self"] (defScope s_Sign_inner) := ⟨rfl, rfl, rfl, by decide +kernel, rfl, by decide +kernel, by decide +kernel⟩
theorem sc_Sign_told : FnScope ["self"] ["self"] (defScope s_Sign_told) := ⟨rfl, rfl, rfl, by decide +kernel, rfl, by decide +kernel, by decide +kernel⟩
theorem sc_Sign_names : FnScope ["self"] ["self"] (defScope s_Sign_names) := ⟨rfl, rfl, rfl, by decide +kernel, rfl, by decide +kernel, by decide +kernel⟩
theorem sc_Sign_knots : FnScope ["self"] ["self"] (defScope s_Sign_knots) := ⟨rfl, rfl, rfl, by decide +kernel, rfl, by decide +kernel, by decide +kernel⟩
theorem tell_Sign (c : SaysZ exX dsX K) (z : mg "str" = none) : TellF P w K mg base (He.ga K "Sign") := by
  have e := c.ex
  have C := clsF e (x := "Sign") (by decide +kernel)
  have FC := (clsF_facts e).2.1
  obtain ⟨f1, F1⟩ := c.def_ 58 (d := ⟨mA "Sign" "__str__", "__str__", "Sign.__str__", s_Sign_str⟩) rfl
  obtain ⟨f2, F2⟩ := c.def_ 59 (d := ⟨mA "Sign" "__repr__", "__repr__", "Sign.__repr__", s_Sign_repr⟩) rfl
  obtain ⟨g0, G0⟩ := c.def_ 87 (d := ⟨pG "Sign" "kind", "kind", "Sign.kind", s_Sign_kind⟩) rfl
  obtain ⟨g1, G1⟩ := c.def_ 88 (d := ⟨pG "Sign" "inner", "inner", "Sign.inner", s_Sign_inner⟩) rfl
  obtain ⟨g2, G2⟩ := c.def_ 89 (d := ⟨pG "Sign" "told", "told", "Sign.told", s_Sign_told⟩) rfl
  obtain ⟨g3, G3⟩ := c.def_ 90 (d := ⟨pG "Sign" "names", "names", "Sign.names", s_Sign_names⟩) rfl
  obtain ⟨g4, G4⟩ := c.def_ 91 (d := ⟨pG "Sign" "knots", "knots", "Sign.knots", s_Sign_knots⟩) rfl
  exact ⟨⟨C.cls, _, f1, C.str.at_, C.str.fn, ok_str F1 sc_Sign_str rfl (Or.inl rfl) (fun _ _ => rfl) z C.cls C.no FC.cls (FC.no "text" (by simp)), F1.binds (ps := ["self"]) (fun _ _ _ _ _ _ us hl => match us, hl with | [_], _ => rfl)⟩,
    ⟨_, f2, C.rep.at_, C.rep.fn, ok_reprX F2 sc_Sign_repr rfl (Or.inl rfl) C.cls C.no FC.cls (FC.no "size" (by simp)), F2.binds (ps := ["self"]) (fun _ _ _ _ _ _ us hl => match us, hl with | [_], _ => rfl)⟩,
    ⟨C.cls, _, _, g0, C.prop "kind" (by decide +kernel), ok_get G0 sc_Sign_kind rfl (Or.inl rfl) C.cls C.no FC.cls (FC.no "word" (by simp)), G0.binds (ps := ["self"]) (fun _ _ _ _ _ _ us hl => match us, hl with | [_], _ => rfl)⟩,
    ⟨C.cls, _, _, g1, C.prop "inner" (by decide +kernel), ok_get G1 sc_Sign_inner rfl (Or.inl rfl) C.cls C.no FC.cls (FC.no "parts" (by simp)), G1.binds (ps := ["self"]) (fun _ _ _ _ _ _ us hl => match us, hl with | [_], _ => rfl)⟩,
    ⟨C.cls, _, _, g2, C.prop "told" (by decide +kernel), ok_get G2 sc_Sign_told rfl (Or.inl rfl) C.cls C.no FC.cls (FC.no "marks" (by simp)), G2.binds (ps := ["self"]) (fun _ _ _ _ _ _ us hl => match us, hl with | [_], _ => rfl)⟩,
    ⟨C.cls, _, _, g3, C.prop "names" (by decide +kernel), ok_get G3 sc_Sign_names rfl (Or.inl rfl) C.cls C.no FC.cls (FC.no "labels" (by simp)), G3.binds (ps := ["self"]) (fun _ _ _ _ _ _ us hl => match us, hl with | [_], _ => rfl)⟩,
    ⟨C.cls, _, _, g4, C.prop "knots" (by decide +kernel), ok_get G4 sc_Sign_knots rfl (Or.inl rfl) C.cls C.no FC.cls (FC.no "size" (by simp)), G4.binds (ps := ["self"]) (fun _ _ _ _ _ _ us hl => match us, hl with | [_], _ => rfl)⟩⟩
theorem sc_Turn_str : FnScope ["self"] ["self"] (defScope s_Turn_str) := ⟨rfl, rfl, rfl, by decide +kernel, rfl, by decide +kernel, by decide +kernel⟩
theorem sc_Turn_repr : FnScope ["self"] ["self"] (defScope s_Turn_repr) := ⟨rfl, rfl, rfl, by decide +kernel, rfl, by decide +kernel, by decide +kernel⟩
theorem sc_Turn_kind : FnScope ["self"] ["self"] (defScope s_Turn_kind) := ⟨rfl, rfl, rfl, by decide +kernel, rfl, by decide +kernel, by decide +kernel⟩
theorem sc_Turn_inner : FnScope ["self"] ["self"] (defScope s_Turn_inner) := ⟨rfl, rfl, rfl, by decide +kernel, rfl, by decide +kernel, by decide +kernel⟩
theorem sc_Turn_told : FnScope ["self"] ["self"] (defScope s_Turn_told) := ⟨rfl, rfl, rfl, by decide +kernel, rfl, by decide +kernel, by decide +kernel⟩
theorem sc_Turn_names : FnScope ["self"] ["self"] (defScope s_Turn_names) := ⟨rfl, rfl, rfl, by decide +kernel, rfl, by decide +kernel, by decide +kernel⟩
theorem sc_Turn_knots : FnScope ["self"] ["self"] (defScope s_Turn_knots) := ⟨rfl, rfl, rfl, by decide +kernel, rfl, by decide +kernel, by decide +kernel⟩
theorem tell_Turn (c : SaysZ exX dsX K) (z : mg "str" = none) : TellF P w K mg base (He.ga K "Turn") := by
  have e := c.ex
  have C := clsF e (x := "Turn") (by decide +kernel)
  have FC := (clsF_facts e).2.1
  obtain ⟨f1, F1⟩ := c.def_ 61 (d := ⟨mA "Turn" "__str__", "__str__", "Turn.__str__", s_Turn_str⟩) rfl
  obtain ⟨f2, F2⟩ := c.def_ 62 (d := ⟨mA "Turn" "__repr__", "__repr__", "Turn.__repr__", s_Turn_repr⟩) rfl
  obtain ⟨g0, G0⟩ := c.def_ 92 (d := ⟨pG "Turn" "kind", "kind", "Turn.kind", s_Turn_kind⟩) rfl
  obtain ⟨g1, G1⟩ := c.def_ 93 (d := ⟨pG "Turn" "inner", "inner", "Turn.inner", s_Turn_inner⟩) rfl
  obtain ⟨g2, G2⟩ := c.def_ 94 (d := ⟨pG "Turn" "told", "told", "Turn.told", s_Turn_told⟩) rfl
  obtain ⟨g3, G3⟩ := c.def_ 95 (d := ⟨pG "Turn" "names", "names", "Turn.names", s_Turn_names⟩) rfl
  obtain ⟨g4, G4⟩ := c.def_ 96 (d := ⟨pG "Turn" "knots", "knots", "Turn.knots", s_Turn_knots⟩) rfl
  exact ⟨⟨C.cls, _, f1, C.str.at_, C.str.fn, ok_str F1 sc_Turn_str rfl (Or.inl rfl) (fun _ _ => rfl) z C.cls C.no FC.cls (FC.no "text" (by simp)), F1.binds (ps := ["self"]) (fun _ _ _ _ _ _ us hl => match us, hl with | [_], _ => rfl)⟩,
    ⟨_, f2, C.rep.at_, C.rep.fn, ok_reprX F2 sc_Turn_repr rfl (Or.inl rfl) C.cls C.no FC.cls (FC.no "size" (by simp)), F2.binds (ps := ["self"]) (fun _ _ _ _ _ _ us hl => match us, hl with | [_], _ => rfl)⟩,
    ⟨C.cls, _, _, g0, C.prop "kind" (by decide +kernel), ok_get G0 sc_Turn_kind rfl (Or.inl rfl) C.cls C.no FC.cls (FC.no "word" (by simp)), G0.binds (ps := ["self"]) (fun _ _ _ _ _ _ us hl => match us, hl with | [_], _ => rfl)⟩,
    ⟨C.cls, _, _, g1, C.prop "inner" (by decide +kernel), ok_get G1 sc_Turn_inner rfl (Or.inl rfl) C.cls C.no FC.cls (FC.no "parts" (by simp)), G1.binds (ps := ["self"]) (fun _ _ _ _ _ _ us hl => match us, hl with | [_], _ => rfl)⟩,
    ⟨C.cls, _, _, g2, C.prop "told" (by decide +kernel), ok_get G2 sc_Turn_told rfl (Or.inl rfl) C.cls C.no FC.cls (FC.no "marks" (by simp)), G2.binds (ps := ["self"]) (fun _ _ _ _ _ _ us hl => match us, hl with | [_], _ => rfl)⟩,
    ⟨C.cls, _, _, g3, C.prop "names" (by decide +kernel), ok_get G3 sc_Turn_names rfl (Or.inl rfl) C.cls C.no FC.cls (FC.no "labels" (by simp)), G3.binds (ps := ["self"]) (fun _ _ _ _ _ _ us hl => match us, hl with | [_], _ => rfl)⟩,
    ⟨C.cls, _, _, g4, C.prop "knots" (by decide +kernel), ok_get G4 sc_Turn_knots rfl (Or.inl rfl) C.cls C.no FC.cls (FC.no "size" (by simp)), G4.binds (ps := ["self"]) (fun _ _ _ _ _ _ us hl => match us, hl with | [_], _ => rfl)⟩⟩
theorem sc_Weave_str : FnScope ["self"] ["self"] (defScope s_Weave_str) := ⟨rfl, rfl, rfl, by decide +kernel, rfl, by decide +kernel, by decide +kernel⟩
theorem sc_Weave_repr : FnScope ["self"] ["self"] (defScope s_Weave_repr) := ⟨rfl, rfl, rfl, by decide +kernel, rfl, by decide +kernel, by decide +kernel⟩
theorem sc_Weave_kind : FnScope ["self"] ["self"] (defScope s_Weave_kind) := ⟨rfl, rfl, rfl, by decide +kernel, rfl, by decide +kernel, by decide +kernel⟩
theorem sc_Weave_inner : FnScope ["self"] ["self"] (defScope s_Weave_inner) := ⟨rfl, rfl, rfl, by decide +kernel, rfl, by decide +kernel, by decide +kernel⟩
theorem sc_Weave_told : FnScope ["self"] ["self"] (defScope s_Weave_told) := ⟨rfl, rfl, rfl, by decide +kernel, rfl, by decide +kernel, by decide +kernel⟩
theorem sc_Weave_names : FnScope ["self"] ["self"] (defScope s_Weave_names) := ⟨rfl, rfl, rfl, by decide +kernel, rfl, by decide +kernel, by decide +kernel⟩
theorem sc_Weave_knots : FnScope ["self"] ["self"] (defScope s_Weave_knots) := ⟨rfl, rfl, rfl, by decide +kernel, rfl, by decide +kernel, by decide +kernel⟩
theorem tell_Weave (c : SaysZ exX dsX K) (z : mg "str" = none) : TellF P w K mg base (He.ga K "Weave") := by
  have e := c.ex
  have C := clsF e (x := "Weave") (by decide +kernel)
  have FC := (clsF_facts e).2.1
  obtain ⟨f1, F1⟩ := c.def_ 64 (d := ⟨mA "Weave" "__str__", "__str__", "Weave.__str__", s_Weave_str⟩) rfl
  obtain ⟨f2, F2⟩ := c.def_ 65 (d := ⟨mA "Weave" "__repr__", "__repr__", "Weave.__repr__", s_Weave_repr⟩) rfl
  obtain ⟨g0, G0⟩ := c.def_ 97 (d := ⟨pG "Weave" "kind", "kind", "Weave.kind", s_Weave_kind⟩) rfl
  obtain ⟨g1, G1⟩ := c.def_ 98 (d := ⟨pG "Weave" "inner", "inner", "Weave.inner", s_Weave_inner⟩) rfl
  obtain ⟨g2, G2⟩ := c.def_ 99 (d := ⟨pG "Weave" "told", "told", "Weave.told", s_Weave_told⟩) rfl
  obtain ⟨g3, G3⟩ := c.def_ 100 (d := ⟨pG "Weave" "names", "names", "Weave.names", s_Weave_names⟩) rfl
  obtain ⟨g4, G4⟩ := c.def_ 101 (d := ⟨pG "Weave" "knots", "knots", "Weave.knots", s_Weave_knots⟩) rfl
  exact ⟨⟨C.cls, _, f1, C.str.at_, C.str.fn, ok_str F1 sc_Weave_str rfl (Or.inl rfl) (fun _ _ => rfl) z C.cls C.no FC.cls (FC.no "text" (by simp)), F1.binds (ps := ["self"]) (fun _ _ _ _ _ _ us hl => match us, hl with | [_], _ => rfl)⟩,
    ⟨_, f2, C.rep.at_, C.rep.fn, ok_reprX F2 sc_Weave_repr rfl (Or.inl rfl) C.cls C.no FC.cls (FC.no "size" (by simp)), F2.binds (ps := ["self"]) (fun _ _ _ _ _ _ us hl => match us, hl with | [_], _ => rfl)⟩,
    ⟨C.cls, _, _, g0, C.prop "kind" (by decide +kernel), ok_get G0 sc_Weave_kind rfl (Or.inl rfl) C.cls C.no FC.cls (FC.no "word" (by simp)), G0.binds (ps := ["self"]) (fun _ _ _ _ _ _ us hl => match us, hl with | [_], _ => rfl)⟩,
    ⟨C.cls, _, _, g1, C.prop "inner" (by decide +kernel), ok_get G1 sc_Weave_inner rfl (Or.inl rfl) C.cls C.no FC.cls (FC.no "parts" (by simp)), G1.binds (ps := ["self"]) (fun _ _ _ _ _ _ us hl => match us, hl with | [_], _ => rfl)⟩,
    ⟨C.cls, _, _, g2, C.prop "told" (by decide +kernel), ok_get G2 sc_Weave_told rfl (Or.inl rfl) C.cls C.no FC.cls (FC.no "marks" (by simp)), G2.binds (ps := ["self"]) (fun _ _ _ _ _ _ us hl => match us, hl with | [_], _ => rfl)⟩,
    ⟨C.cls, _, _, g3, C.prop "names" (by decide +kernel), ok_get G3 sc_Weave_names rfl (Or.inl rfl) C.cls C.no FC.cls (FC.no "labels" (by simp)), G3.binds (ps := ["self"]) (fun _ _ _ _ _ _ us hl => match us, hl with | [_], _ => rfl)⟩,
    ⟨C.cls, _, _, g4, C.prop "knots" (by decide +kernel), ok_get G4 sc_Weave_knots rfl (Or.inl rfl) C.cls C.no FC.cls (FC.no "size" (by simp)), G4.binds (ps := ["self"]) (fun _ _ _ _ _ _ us hl => match us, hl with | [_], _ => rfl)⟩⟩
theorem tellX (c : SaysZ exX dsX K) (z : mg "str" = none) (C : Addr) (hC : clsX K C) : TellF P w K mg base C := by
  obtain ⟨x, hx, rfl⟩ := hC
  simp only [cnX, List.mem_cons, List.not_mem_nil, or_false] at hx
  rcases hx with rfl | rfl | rfl | rfl | rfl | rfl | rfl
  · exact tell_Drop c z
  · exact tell_Lead c z
  · exact tell_Name c z
  · exact tell_Part c z
  · exact tell_Sign c z
  · exact tell_Turn c z
  · exact tell_Weave c z
theorem klsX (c : SaysZ exX dsX K) (z : mg "str" = none) : Kls P w K mg base (He.ga K "Facts") (clsX K) := by
  refine ⟨fun C hC => (tellX c z C hC).str, fun C hC f fld hf => ?_⟩
  have T := tellX (P := P) (w := w) (base := base) c z C hC
  simp only [List.mem_cons, Prod.mk.injEq, List.not_mem_nil, or_false] at hf
  rcases hf with ⟨rfl, rfl⟩ | ⟨rfl, rfl⟩ | ⟨rfl, rfl⟩ | ⟨rfl, rfl⟩ | ⟨rfl, rfl⟩
  · exact T.kind
  · exact T.inner
  · exact T.told
  · exact T.names
  · exact T.knots
theorem sc_Drop_eq : FnScope ["self", "other"] ["self", "other"] (defScope s_Drop_eq) := ⟨rfl, rfl, rfl, by decide +kernel, rfl, by decide +kernel, by decide +kernel⟩
theorem eq_Drop (X : K.In h) (G : h.Ns mainGlobals mg) (c : SaysZ exX dsX K) : EqAny P w K mg base 1 (He.ga K "Drop") (spEqX K (He.ga K "Expression") (He.ga K "Facts") (clsX K) (He.ga K "Drop")) := by
  have e := c.ex
  have C := clsF e (x := "Drop") (by decide +kernel)
  have FC := (clsF_facts e).2.1
  have h1 := List.all_eq_true.mp (Bool.and_eq_true_iff.mp (exX_eq e)).2 "Drop" (by decide +kernel)
  unfold exEq1 at h1
  obtain ⟨_, h1⟩ := Bool.and_eq_true_iff.mp h1
  obtain ⟨_, h1⟩ := Bool.and_eq_true_iff.mp h1
  obtain ⟨_, h1⟩ := Bool.and_eq_true_iff.mp h1
  obtain ⟨_, h1⟩ := Bool.and_eq_true_iff.mp h1
  obtain ⟨h1, h2⟩ := Bool.and_eq_true_iff.mp h1
  have M := He.meth_ok h1
  obtain ⟨f1, F1⟩ := c.def_ 48 (d := ⟨mA "Drop" "__eq__", "__eq__", "Drop.__eq__", s_Drop_eq⟩) rfl
  exact ⟨⟨_, f1, ["self", "other"], M.at_, M.fn, ok_eqX F1 sc_Drop_eq rfl (Or.inl rfl) (Or.inl rfl) (fun _ _ => rfl) (fun _ _ => rfl) (m_free X G e "isinstance") (m_glo X G e "Expression") (ownX e) (ixX e) ⟨"Drop", by decide +kernel, rfl⟩ FC.cls (FC.no "text" (by simp)),
    F1.binds (ps := ["self", "other"]) (fun _ _ _ _ _ _ us hl => match us, hl with | [_, _], _ => rfl)⟩, He.eqO_ok h2, C.mo⟩
theorem sc_Lead_eq : FnScope ["self", "other"] ["self", "other"] (defScope s_Lead_eq) := ⟨rfl, rfl, rfl, by decide +kernel, rfl, by decide +kernel, by decide +kernel⟩
theorem eq_Lead (X : K.In h) (G : h.Ns mainGlobals mg) (c : SaysZ exX dsX K) : EqAny P w K mg base 1 (He.ga K "Lead") (spEqX K (He.ga K "Expression") (He.ga K "Facts") (clsX K) (He.ga K "Lead")) := by
  have e := c.ex
  have C := clsF e (x := "Lead") (by decide +kernel)
  have FC := (clsF_facts e).2.1
  have h1 := List.all_eq_true.mp (Bool.and_eq_true_iff.mp (exX_eq e)).2 "Lead" (by decide +kernel)
  unfold exEq1 at h1
  obtain ⟨_, h1⟩ := Bool.and_eq_true_iff.mp h1
  obtain ⟨_, h1⟩ := Bool.and_eq_true_iff.mp h1
  obtain ⟨_, h1⟩ := Bool.and_eq_true_iff.mp h1
  obtain ⟨_, h1⟩ := Bool.and_eq_true_iff.mp h1
  obtain ⟨h1, h2⟩ := Bool.and_eq_true_iff.mp h1
  have M := He.meth_ok h1
  obtain ⟨f1, F1⟩ := c.def_ 51 (d := ⟨mA "Lead" "__eq__", "__eq__", "Lead.__eq__", s_Lead_eq⟩) rfl
  exact ⟨⟨_, f1, ["self", "other"], M.at_, M.fn, ok_eqX F1 sc_Lead_eq rfl (Or.inl rfl) (Or.inl rfl) (fun _ _ => rfl) (fun _ _ => rfl) (m_free X G e "isinstance") (m_glo X G e "Expression") (ownX e) (ixX e) ⟨"Lead", by decide +kernel, rfl⟩ FC.cls (FC.no "text" (by simp)),
    F1.binds (ps := ["self", "other"]) (fun _ _ _ _ _ _ us hl => match us, hl with | [_, _], _ => rfl)⟩, He.eqO_ok h2, C.mo⟩
theorem sc_Name_eq : FnScope ["self", "other"] ["self", "other"] (defScope s_Name_eq) := ⟨rfl, rfl, rfl, by decide +kernel, rfl, by decide +kernel, by decide +kernel⟩
theorem eq_Name (X : K.In h) (G : h.Ns mainGlobals mg) (c : SaysZ exX dsX K) : EqAny P w K mg base 1 (He.ga K "Name") (spEqX K (He.ga K "Expression") (He.ga K "Facts") (clsX K) (He.ga K "Name")) := by
  have e := c.ex
  have C := clsF e (x := "Name") (by decide +kernel)
  have FC := (clsF_facts e).2.1
  have h1 := List.all_eq_true.mp (Bool.and_eq_true_iff.mp (exX_eq e)).2 "Name" (by decide +kernel)
  unfold exEq1 at h1
  obtain ⟨_, h1⟩ := Bool.and_eq_true_iff.mp h1
  obtain ⟨_, h1⟩ := Bool.and_eq_true_iff.mp h1
  obtain ⟨_, h1⟩ := Bool.and_eq_true_iff.mp h1
  obtain ⟨_, h1⟩ := Bool.and_eq_true_iff.mp h1
  obtain ⟨h1, h2⟩ := Bool.and_eq_true_iff.mp h1
  have M := He.meth_ok h1
  obtain ⟨f1, F1⟩ := c.def_ 54 (d := ⟨mA "Name" "__eq__", "__eq__", "Name.__eq__", s_Name_eq⟩) rfl
  exact ⟨⟨_, f1, ["self", "other"], M.at_, M.fn, ok_eqX F1 sc_Name_eq rfl (Or.inl rfl) (Or.inl rfl) (fun _ _ => rfl) (fun _ _ => rfl) (m_free X G e "isinstance") (m_glo X G e "Expression") (ownX e) (ixX e) ⟨"Name", by decide +kernel, rfl⟩ FC.cls (FC.no "text" (by simp)),
    F1.binds (ps := ["self", "other"]) (fun _ _ _ _ _ _ us hl => match us, hl with | [_, _], _ => rfl)⟩, He.eqO_ok h2, C.mo⟩
theorem sc_Part_eq : FnScope ["self", "other"] ["self", "other"] (defScope s_Part_eq) := ⟨rfl, rfl, rfl, by decide +kernel, rfl, by decide +kernel, by decide +kernel⟩
theorem eq_Part (X : K.In h) (G : h.Ns mainGlobals mg) (c : SaysZ exX dsX K) : EqAny P w K mg base 1 (He.ga K "Part") (spEqX K (He.ga K "Expression") (He.ga K "Facts") (clsX K) (He.ga K "Part")) := by
  have e := c.ex
  have C := clsF e (x := "Part") (by decide +kernel)
  have FC := (clsF_facts e).2.1
  have h1 := List.all_eq_true.mp (Bool.and_eq_true_iff.mp (exX_eq e)).2 "Part" (by decide +kernel)
  unfold exEq1 at h1
  obtain ⟨_, h1⟩ := Bool.and_eq_true_iff.mp h1
  obtain ⟨_, h1⟩ := Bool.and_eq_true_iff.mp h1
  obtain ⟨_, h1⟩ := Bool.and_eq_true_iff.mp h1
  obtain ⟨_, h1⟩ := Bool.and_eq_true_iff.mp h1
  obtain ⟨h1, h2⟩ := Bool.and_eq_true_iff.mp h1
  have M := He.meth_ok h1
  obtain ⟨f1, F1⟩ := c.def_ 57 (d := ⟨mA "Part" "__eq__", "__eq__", "Part.__eq__", s_Part_eq⟩) rfl
  exact ⟨⟨_, f1, ["self", "other"], M.at_, M.fn, ok_eqX F1 sc_Part_eq rfl (Or.inl rfl) (Or.inl rfl) (fun _ _ => rfl) (fun _ _ => rfl) (m_free X G e "isinstance") (m_glo X G e "Expression") (ownX e) (ixX e) ⟨"Part", by decide +kernel, rfl⟩ FC.cls (FC.no "text" (by simp)),
    F1.binds (ps := ["self", "other"]) (fun _ _ _ _ _ _ us hl => match us, hl with | [_, _], _ => rfl)⟩, He.eqO_ok h2, C.mo⟩
theorem sc_Sign_eq : FnScope ["self", "other"] ["self", "other"] (defScope s_Sign_eq) := ⟨rfl, rfl, rfl, by decide +kernel, rfl, by decide +kernel, by decide +kernel⟩
theorem eq_Sign (X : K.In h) (G : h.Ns mainGlobals mg) (c : SaysZ exX dsX K) : EqAny P w K mg base 1 (He.ga K "Sign") (spEqX K (He.ga K "Expression") (He.ga K "Facts") (clsX K) (He.ga K "Sign")) := by
  have e := c.ex
  have C := clsF e (x := "Sign") (by decide +kernel)
  have FC := (clsF_facts e).2.1
  have h1 := List.all_eq_true.mp (Bool.and_eq_true_iff.mp (exX_eq e)).2 "Sign" (by decide +kernel)
  unfold exEq1 at h1
  obtain ⟨_, h1⟩ := Bool.and_eq_true_iff.mp h1
  obtain ⟨_, h1⟩ := Bool.and_eq_true_iff.mp h1
  obtain ⟨_, h1⟩ := Bool.and_eq_true_iff.mp h1
  obtain ⟨_, h1⟩ := Bool.and_eq_true_iff.mp h1
  obtain ⟨h1, h2⟩ := Bool.and_eq_true_iff.mp h1
  have M := He.meth_ok h1
  obtain ⟨f1, F1⟩ := c.def_ 60 (d := ⟨mA "Sign" "__eq__", "__eq__", "Sign.__eq__", s_Sign_eq⟩) rfl
  exact ⟨⟨_, f1, ["self", "other"], M.at_, M.fn, ok_eqX F1 sc_Sign_eq rfl (Or.inl rfl) (Or.inl rfl) (fun _ _ => rfl) (fun _ _ => rfl) (m_free X G e "isinstance") (m_glo X G e "Expression") (ownX e) (ixX e) ⟨"Sign", by decide +kernel, rfl⟩ FC.cls (FC.no "text" (by simp)),
    F1.binds (ps := ["self", "other"]) (fun _ _ _ _ _ _ us hl => match us, hl with | [_, _], _ => rfl)⟩, He.eqO_ok h2, C.mo⟩
theorem sc_Turn_eq : FnScope ["self", "other"] ["self", "other"] (defScope s_Turn_eq) := ⟨rfl, rfl, rfl, by decide +kernel, rfl, by decide +kernel, by decide +kernel⟩
theorem eq_Turn (X : K.In h) (G : h.Ns mainGlobals mg) (c : SaysZ exX dsX K) : EqAny P w K mg base 1 (He.ga K "Turn") (spEqX K (He.ga K "Expression") (He.ga K "Facts") (clsX K) (He.ga K "Turn")) := by
  have e := c.ex
  have C := clsF e (x := "Turn") (by decide +kernel)
  have FC := (clsF_facts e).2.1
  have h1 := List.all_eq_true.mp (Bool.and_eq_true_iff.mp (exX_eq e)).2 "Turn" (by decide +kernel)
  unfold exEq1 at h1
  obtain ⟨_, h1⟩ := Bool.and_eq_true_iff.mp h1
  obtain ⟨_, h1⟩ := Bool.and_eq_true_iff.mp h1
  obtain ⟨_, h1⟩ := Bool.and_eq_true_iff.mp h1
  obtain ⟨_, h1⟩ := Bool.and_eq_true_iff.mp h1
  obtain ⟨h1, h2⟩ := Bool.and_eq_true_iff.mp h1
  have M := He.meth_ok h1
  obtain ⟨f1, F1⟩ := c.def_ 63 (d := ⟨mA "Turn" "__eq__", "__eq__", "Turn.__eq__", s_Turn_eq⟩) rfl
  exact ⟨⟨_, f1, ["self", "other"], M.at_, M.fn, ok_eqX F1 sc_Turn_eq rfl (Or.inl rfl) (Or.inl rfl) (fun _ _ => rfl) (fun _ _ => rfl) (m_free X G e "isinstance") (m_glo X G e "Expression") (ownX e) (ixX e) ⟨"Turn", by decide +kernel, rfl⟩ FC.cls (FC.no "text" (by simp)),
    F1.binds (ps := ["self", "other"]) (fun _ _ _ _ _ _ us hl => match us, hl with | [_, _], _ => rfl)⟩, He.eqO_ok h2, C.mo⟩
theorem sc_Weave_eq : FnScope ["self", "other"] ["self", "other"] (defScope s_Weave_eq) := ⟨rfl, rfl, rfl, by decide +kernel, rfl, by decide +kernel, by decide +kernel⟩
theorem eq_Weave (X : K.In h) (G : h.Ns mainGlobals mg) (c : SaysZ exX dsX K) : EqAny P w K mg base 1 (He.ga K "Weave") (spEqX K (He.ga K "Expression") (He.ga K "Facts") (clsX K) (He.ga K "Weave")) := by
  have e := c.ex
  have C := clsF e (x := "Weave") (by decide +kernel)
  have FC := (clsF_facts e).2.1
  have h1 := List.all_eq_true.mp (Bool.and_eq_true_iff.mp (exX_eq e)).2 "Weave" (by decide +kernel)
  unfold exEq1 at h1
  obtain ⟨_, h1⟩ := Bool.and_eq_true_iff.mp h1
  obtain ⟨_, h1⟩ := Bool.and_eq_true_iff.mp h1
  obtain ⟨_, h1⟩ := Bool.and_eq_true_iff.mp h1
  obtain ⟨_, h1⟩ := Bool.and_eq_true_iff.mp h1
  obtain ⟨h1, h2⟩ := Bool.and_eq_true_iff.mp h1
  have M := He.meth_ok h1
  obtain ⟨f1, F1⟩ := c.def_ 66 (d := ⟨mA "Weave" "__eq__", "__eq__", "Weave.__eq__", s_Weave_eq⟩) rfl
  exact ⟨⟨_, f1, ["self", "other"], M.at_, M.fn, ok_eqX F1 sc_Weave_eq rfl (Or.inl rfl) (Or.inl rfl) (fun _ _ => rfl) (fun _ _ => rfl) (m_free X G e "isinstance") (m_glo X G e "Expression") (ownX e) (ixX e) ⟨"Weave", by decide +kernel, rfl⟩ FC.cls (FC.no "text" (by simp)),
    F1.binds (ps := ["self", "other"]) (fun _ _ _ _ _ _ us hl => match us, hl with | [_, _], _ => rfl)⟩, He.eqO_ok h2, C.mo⟩
theorem eqX (X : K.In h) (G : h.Ns mainGlobals mg) (c : SaysZ exX dsX K) (C : Addr) (hC : clsX K C) : EqAny P w K mg base 1 C (spEqX K (He.ga K "Expression") (He.ga K "Facts") (clsX K) C) := by
  obtain ⟨x, hx, rfl⟩ := hC
  simp only [cnX, List.mem_cons, List.not_mem_nil, or_false] at hx
  rcases hx with rfl | rfl | rfl | rfl | rfl | rfl | rfl
  · exact eq_Drop X G c
  · exact eq_Lead X G c
  · exact eq_Name X G c
  · exact eq_Part X G c
  · exact eq_Sign X G c
  · exact eq_Turn X G c
  · exact eq_Weave X G c
theorem eqFactsX (X : K.In h) (G : h.Ns mainGlobals mg) (c : SaysZ exX dsX K) : EqFacts P w K mg base (He.ga K "Expression") (He.ga K "Facts") (clsX K) := by
  have e := exX_eq c.ex
  obtain ⟨e1, e2⟩ := Bool.and_eq_true_iff.mp e
  have one : ∀ x ∈ cnX, exEq1 K x = true := fun x hx => List.all_eq_true.mp e2 x hx
  refine ⟨fun T hT => of_decide_eq_true (List.all_eq_true.mp e1 T hT), fun C hC T hT => ?_, fun C C2 hC hC2 => ?_, fun C hC => ?_, eqX X G c⟩
  · obtain ⟨x, hx, rfl⟩ := hC
    exact List.all_eq_true.mp (Bool.and_eq_true_iff.mp (one x hx)).1 T hT
  · obtain ⟨x, hx, rfl⟩ := hC
    obtain ⟨y, hy, rfl⟩ := hC2
    exact List.all_eq_true.mp (Bool.and_eq_true_iff.mp (Bool.and_eq_true_iff.mp (one x hx)).2).1 y hy
  · obtain ⟨x, hx, rfl⟩ := hC
    have h := (Bool.and_eq_true_iff.mp (Bool.and_eq_true_iff.mp (one x hx)).2).2
    exact ⟨He.eqO_ok (Bool.and_eq_true_iff.mp h).1, He.eqO_ok (Bool.and_eq_true_iff.mp (Bool.and_eq_true_iff.mp h).2).1⟩
end
end Wp

namespace Wp
open PySem PySem.Spec PyProof.Rows L2 Hx
section
variable {P : Program} {w : World} {K : PySem.W.Frag} {h : Heap} {mg : Str → Option Value} {base : Heap} {fa : Addr}

theorem sc_InvalidNumber : FnScope ["self", "given"] ["self", "given"] (defScope s_InvalidNumber_init) := ⟨rfl, rfl, rfl, by decide +kernel, rfl, by decide +kernel, by decide +kernel⟩
theorem mk_InvalidNumber (X : K.In h) (G : h.Ns mainGlobals mg) (c : SaysZ exX dsX K) : MkC P w K mg base "InvalidNumber" (He.ga K "InvalidNumber") "given" := by
  obtain ⟨fd, F⟩ := c.def_ 32 (d := ⟨mA "InvalidNumber" "__init__", "__init__", "InvalidNumber.__init__", s_InvalidNumber_init⟩) rfl
  have E := errF c.ex (x := "InvalidNumber") (by decide +kernel)
  have b := F.binds (ps := ["self", "given"]) fun _ _ _ _ _ _ us hl => match us, hl with | [_, _], _ => rfl
  have ok := ok_in1 (P := P) (w := w) (mg := mg) (base := base) F sc_InvalidNumber rfl (Or.inl rfl) (Or.inl rfl) (by decide) (by decide) E.ex E.free
  obtain ⟨oc, od, kV, doc, pm, an, cdv, ct, osl, rfl, lk, hcd⟩ := F.ex
  exact ⟨⟨_, _, _, _, _, _, E.ex, E.hi, E.tI, ok, b, fun s self w1 => .of_eq rfl⟩, He.glo_ok X G E.g, E.no⟩
theorem sc_InvalidName : FnScope ["self", "given"] ["self", "given"] (defScope s_InvalidName_init) := ⟨rfl, rfl, rfl, by decide +kernel, rfl, by decide +kernel, by decide +kernel⟩
theorem mk_InvalidName (X : K.In h) (G : h.Ns mainGlobals mg) (c : SaysZ exX dsX K) : MkC P w K mg base "InvalidName" (He.ga K "InvalidName") "given" := by
  obtain ⟨fd, F⟩ := c.def_ 33 (d := ⟨mA "InvalidName" "__init__", "__init__", "InvalidName.__init__", s_InvalidName_init⟩) rfl
  have E := errF c.ex (x := "InvalidName") (by decide +kernel)
  have b := F.binds (ps := ["self", "given"]) fun _ _ _ _ _ _ us hl => match us, hl with | [_, _], _ => rfl
  have ok := ok_in1 (P := P) (w := w) (mg := mg) (base := base) F sc_InvalidName rfl (Or.inl rfl) (Or.inl rfl) (by decide) (by decide) E.ex E.free
  obtain ⟨oc, od, kV, doc, pm, an, cdv, ct, osl, rfl, lk, hcd⟩ := F.ex
  exact ⟨⟨_, _, _, _, _, _, E.ex, E.hi, E.tI, ok, b, fun s self w1 => .of_eq rfl⟩, He.glo_ok X G E.g, E.no⟩
theorem sc_InvalidSign : FnScope ["self", "given"] ["self", "given"] (defScope s_InvalidSign_init) := ⟨rfl, rfl, rfl, by decide +kernel, rfl, by decide +kernel, by decide +kernel⟩
theorem mk_InvalidSign (X : K.In h) (G : h.Ns mainGlobals mg) (c : SaysZ exX dsX K) : MkC P w K mg base "InvalidSign" (He.ga K "InvalidSign") "given" := by
  obtain ⟨fd, F⟩ := c.def_ 34 (d := ⟨mA "InvalidSign" "__init__", "__init__", "InvalidSign.__init__", s_InvalidSign_init⟩) rfl
  have E := errF c.ex (x := "InvalidSign") (by decide +kernel)
  have b := F.binds (ps := ["self", "given"]) fun _ _ _ _ _ _ us hl => match us, hl with | [_, _], _ => rfl
  have ok := ok_in1 (P := P) (w := w) (mg := mg) (base := base) F sc_InvalidSign rfl (Or.inl rfl) (Or.inl rfl) (by decide) (by decide) E.ex E.free
  obtain ⟨oc, od, kV, doc, pm, an, cdv, ct, osl, rfl, lk, hcd⟩ := F.ex
  exact ⟨⟨_, _, _, _, _, _, E.ex, E.hi, E.tI, ok, b, fun s self w1 => .of_eq rfl⟩, He.glo_ok X G E.g, E.no⟩
theorem sc_InvalidWord : FnScope ["self", "given"] ["self", "given"] (defScope s_InvalidWord_init) := ⟨rfl, rfl, rfl, by decide +kernel, rfl, by decide +kernel, by decide +kernel⟩
theorem mk_InvalidWord (X : K.In h) (G : h.Ns mainGlobals mg) (c : SaysZ exX dsX K) : MkC P w K mg base "InvalidWord" (He.ga K "InvalidWord") "given" := by
  obtain ⟨fd, F⟩ := c.def_ 35 (d := ⟨mA "InvalidWord" "__init__", "__init__", "InvalidWord.__init__", s_InvalidWord_init⟩) rfl
  have E := errF c.ex (x := "InvalidWord") (by decide +kernel)
  have b := F.binds (ps := ["self", "given"]) fun _ _ _ _ _ _ us hl => match us, hl with | [_, _], _ => rfl
  have ok := ok_in1 (P := P) (w := w) (mg := mg) (base := base) F sc_InvalidWord rfl (Or.inl rfl) (Or.inl rfl) (by decide) (by decide) E.ex E.free
  obtain ⟨oc, od, kV, doc, pm, an, cdv, ct, osl, rfl, lk, hcd⟩ := F.ex
  exact ⟨⟨_, _, _, _, _, _, E.ex, E.hi, E.tI, ok, b, fun s self w1 => .of_eq rfl⟩, He.glo_ok X G E.g, E.no⟩
theorem sc_InvalidExpression : FnScope ["self", "given"] ["self", "given"] (defScope s_InvalidExpression_init) := ⟨rfl, rfl, rfl, by decide +kernel, rfl, by decide +kernel, by decide +kernel⟩
theorem mk_InvalidExpression (X : K.In h) (G : h.Ns mainGlobals mg) (c : SaysZ exX dsX K) : MkC P w K mg base "InvalidExpression" (He.ga K "InvalidExpression") "given" := by
  obtain ⟨fd, F⟩ := c.def_ 37 (d := ⟨mA "InvalidExpression" "__init__", "__init__", "InvalidExpression.__init__", s_InvalidExpression_init⟩) rfl
  have E := errF c.ex (x := "InvalidExpression") (by decide +kernel)
  have b := F.binds (ps := ["self", "given"]) fun _ _ _ _ _ _ us hl => match us, hl with | [_, _], _ => rfl
  have ok := ok_in1 (P := P) (w := w) (mg := mg) (base := base) F sc_InvalidExpression rfl (Or.inl rfl) (Or.inl rfl) (by decide) (by decide) E.ex E.free
  obtain ⟨oc, od, kV, doc, pm, an, cdv, ct, osl, rfl, lk, hcd⟩ := F.ex
  exact ⟨⟨_, _, _, _, _, _, E.ex, E.hi, E.tI, ok, b, fun s self w1 => .of_eq rfl⟩, He.glo_ok X G E.g, E.no⟩
theorem sc_InvalidText : FnScope ["self", "given"] ["self", "given"] (defScope s_InvalidText_init) := ⟨rfl, rfl, rfl, by decide +kernel, rfl, by decide +kernel, by decide +kernel⟩
theorem mk_InvalidText (X : K.In h) (G : h.Ns mainGlobals mg) (c : SaysZ exX dsX K) : MkC P w K mg base "InvalidText" (He.ga K "InvalidText") "given" := by
  obtain ⟨fd, F⟩ := c.def_ 36 (d := ⟨mA "InvalidText" "__init__", "__init__", "InvalidText.__init__", s_InvalidText_init⟩) rfl
  have E := errF c.ex (x := "InvalidText") (by decide +kernel)
  have b := F.binds (ps := ["self", "given"]) fun _ _ _ _ _ _ us hl => match us, hl with | [_, _], _ => rfl
  have ok := ok_in1 (P := P) (w := w) (mg := mg) (base := base) F sc_InvalidText rfl (Or.inl rfl) (Or.inl rfl) (by decide) (by decide) E.ex E.free
  obtain ⟨oc, od, kV, doc, pm, an, cdv, ct, osl, rfl, lk, hcd⟩ := F.ex
  exact ⟨⟨_, _, _, _, _, _, E.ex, E.hi, E.tI, ok, b, fun s self w1 => .of_eq rfl⟩, He.glo_ok X G E.g, E.no⟩
theorem mkh_InvalidText (X : K.In h) (G : h.Ns mainGlobals mg) (c : SaysZ exX dsX K) : MkH P w K mg base "InvalidText" (He.ga K "InvalidText") "given" := by
  obtain ⟨fd, F⟩ := c.def_ 36 (d := ⟨mA "InvalidText" "__init__", "__init__", "InvalidText.__init__", s_InvalidText_init⟩) rfl
  have E := errF c.ex (x := "InvalidText") (by decide +kernel)
  have b := F.binds (ps := ["self", "given"]) fun _ _ _ _ _ _ us hl => match us, hl with | [_, _], _ => rfl
  have ok := ok_in1H (P := P) (w := w) (mg := mg) (base := base) F sc_InvalidText rfl (Or.inl rfl) (Or.inl rfl) (by decide) (by decide) E.ex E.free
  exact ⟨⟨_, _, _, _, _, _, E.ex, E.hi, E.tI, ok, b⟩, He.glo_ok X G E.g⟩
theorem ctorsX (X : K.In h) (G : h.Ns mainGlobals mg) (c : SaysZ exX dsX K) : Ctors P w K mg base (He.ga K "Facts") (He.ga K "Expression") (He.ga K "InvalidNumber") (He.ga K "InvalidSign") (He.ga K "InvalidName") (He.ga K "InvalidWord") (He.ga K "InvalidExpression") (kcX K) (clsX K) := by
  have e := c.ex
  have Z : Bltn mg := ⟨m_free X G e "isinstance", m_free X G e "int", m_free X G e "bool", m_free X G e "str", m_free X G e "len", m_free X G e "all"⟩
  have Z2 : Bltn2 mg := ⟨m_free X G e "list", m_free X G e "set", m_free X G e "sorted", m_free X G e "tuple", m_free X G e "sum"⟩
  have CO := constsX X G e
  have KL := klsX (P := P) (w := w) (base := base) c Z.str
  have OW := ownX e
  have ix := ixX e
  obtain ⟨gF, FC, MF⟩ := clsF_facts e
  obtain ⟨d_is_integer, F_is_integer⟩ := c.def_ 0 (d := ⟨gA "is_integer", "is_integer", "is_integer", s_is_integer⟩) rfl
  have b_is_integer := F_is_integer.binds (ps := ["value"]) fun _ _ _ _ _ _ us hl => match us, hl with | [_], _ => rfl
  obtain ⟨d_is_within, F_is_within⟩ := c.def_ 1 (d := ⟨gA "is_within", "is_within", "is_within", s_is_within⟩) rfl
  have b_is_within := F_is_within.binds (ps := ["value", "least", "most"]) fun _ _ _ _ _ _ us hl => match us, hl with | [_, _, _], _ => rfl
  obtain ⟨d_is_lettered, F_is_lettered⟩ := c.def_ 2 (d := ⟨gA "is_lettered", "is_lettered", "is_lettered", s_is_lettered⟩) rfl
  have b_is_lettered := F_is_lettered.binds (ps := ["value", "most"]) fun _ _ _ _ _ _ us hl => match us, hl with | [_, _], _ => rfl
  obtain ⟨d_is_name, F_is_name⟩ := c.def_ 3 (d := ⟨gA "is_name", "is_name", "is_name", s_is_name⟩) rfl
  have b_is_name := F_is_name.binds (ps := ["value"]) fun _ _ _ _ _ _ us hl => match us, hl with | [_], _ => rfl
  obtain ⟨d_check_within, F_check_within⟩ := c.def_ 4 (d := ⟨gA "check_within", "check_within", "check_within", s_check_within⟩) rfl
  have b_check_within := F_check_within.binds (ps := ["given", "least", "most"]) fun _ _ _ _ _ _ us hl => match us, hl with | [_, _, _], _ => rfl
  obtain ⟨d_check_sign, F_check_sign⟩ := c.def_ 5 (d := ⟨gA "check_sign", "check_sign", "check_sign", s_check_sign⟩) rfl
  have b_check_sign := F_check_sign.binds (ps := ["given"]) fun _ _ _ _ _ _ us hl => match us, hl with | [_], _ => rfl
  obtain ⟨d_check_name, F_check_name⟩ := c.def_ 6 (d := ⟨gA "check_name", "check_name", "check_name", s_check_name⟩) rfl
  have b_check_name := F_check_name.binds (ps := ["given"]) fun _ _ _ _ _ _ us hl => match us, hl with | [_], _ => rfl
  obtain ⟨d_check_word, F_check_word⟩ := c.def_ 7 (d := ⟨gA "check_word", "check_word", "check_word", s_check_word⟩) rfl
  have b_check_word := F_check_word.binds (ps := ["given"]) fun _ _ _ _ _ _ us hl => match us, hl with | [_], _ => rfl
  obtain ⟨d_spelled, F_spelled⟩ := c.def_ 8 (d := ⟨gA "spelled", "spelled", "spelled", s_spelled⟩) rfl
  have b_spelled := F_spelled.binds (ps := ["kind", "told", "inner"]) fun _ _ _ _ _ _ us hl => match us, hl with | [_, _, _], _ => rfl
  obtain ⟨d_check_expressions, F_check_expressions⟩ := c.def_ 9 (d := ⟨gA "check_expressions", "check_expressions", "check_expressions", s_check_expressions⟩) rfl
  have b_check_expressions := F_check_expressions.binds (ps := ["values"]) fun _ _ _ _ _ _ us hl => match us, hl with | [_], _ => rfl
  obtain ⟨d_Facts, F_Facts⟩ := c.def_ 38 (d := ⟨mA "Facts" "__init__", "__init__", "Facts.__init__", s_Facts_init⟩) rfl
  have b_Facts := F_Facts.binds (ps := ["self", "kind", "told", "inner"]) fun _ _ _ _ _ _ us hl => match us, hl with | [_, _, _, _], _ => rfl
  obtain ⟨d_Drop, F_Drop⟩ := c.def_ 39 (d := ⟨mA "Drop" "__init__", "__init__", "Drop.__init__", s_Drop_init⟩) rfl
  have b_Drop := F_Drop.binds (ps := ["self", "many", "inner"]) fun _ _ _ _ _ _ us hl => match us, hl with | [_, _, _], _ => rfl
  obtain ⟨d_Lead, F_Lead⟩ := c.def_ 40 (d := ⟨mA "Lead" "__init__", "__init__", "Lead.__init__", s_Lead_init⟩) rfl
  have b_Lead := F_Lead.binds (ps := ["self", "first", "rest"]) fun _ _ _ _ _ _ us hl => match us, hl with | [_, _, _], _ => rfl
  obtain ⟨d_Name, F_Name⟩ := c.def_ 41 (d := ⟨mA "Name" "__init__", "__init__", "Name.__init__", s_Name_init⟩) rfl
  have b_Name := F_Name.binds (ps := ["self", "name"]) fun _ _ _ _ _ _ us hl => match us, hl with | [_, _], _ => rfl
  obtain ⟨d_Part, F_Part⟩ := c.def_ 42 (d := ⟨mA "Part" "__init__", "__init__", "Part.__init__", s_Part_init⟩) rfl
  have b_Part := F_Part.binds (ps := ["self", "at", "base", "inner"]) fun _ _ _ _ _ _ us hl => match us, hl with | [_, _, _, _], _ => rfl
  obtain ⟨d_Sign, F_Sign⟩ := c.def_ 43 (d := ⟨mA "Sign" "__init__", "__init__", "Sign.__init__", s_Sign_init⟩) rfl
  have b_Sign := F_Sign.binds (ps := ["self", "sign"]) fun _ _ _ _ _ _ us hl => match us, hl with | [_, _], _ => rfl
  obtain ⟨d_Turn, F_Turn⟩ := c.def_ 44 (d := ⟨mA "Turn" "__init__", "__init__", "Turn.__init__", s_Turn_init⟩) rfl
  have b_Turn := F_Turn.binds (ps := ["self", "word", "inner"]) fun _ _ _ _ _ _ us hl => match us, hl with | [_, _, _], _ => rfl
  obtain ⟨d_Weave, F_Weave⟩ := c.def_ 45 (d := ⟨mA "Weave" "__init__", "__init__", "Weave.__init__", s_Weave_init⟩) rfl
  have G_is_integer := ok_isint (P := P) (w := w) (mg := mg) (base := base) F_is_integer Z
  have G_is_within := ok_within (P := P) (w := w) (mg := mg) (base := base) F_is_within G_is_integer b_is_integer F_is_integer.kp (m_glo X G e "is_integer")
  have G_is_lettered := ok_lettered (P := P) (w := w) (mg := mg) (base := base) F_is_lettered Z CO
  have G_is_name := ok_name (P := P) (w := w) (mg := mg) (base := base) F_is_name CO G_is_lettered b_is_lettered F_is_lettered.kp (m_glo X G e "is_lettered")
  have G_check_within := ok_ckW (P := P) (w := w) (mg := mg) (base := base) F_check_within (mk_InvalidNumber (base := base) X G c) (errF e (x := "InvalidNumber") (by decide +kernel)).ty G_is_within b_is_within F_is_within.kp (m_glo X G e "is_within")
  have G_check_sign := ok_check_sign (P := P) (w := w) (mg := mg) (base := base) F_check_sign (mk_InvalidSign (base := base) X G c) (errF e (x := "InvalidSign") (by decide +kernel)).ty G_is_lettered b_is_lettered F_is_lettered.kp (m_glo X G e "is_lettered")
  have G_check_name := ok_check_name (P := P) (w := w) (mg := mg) (base := base) F_check_name (mk_InvalidName (base := base) X G c) (errF e (x := "InvalidName") (by decide +kernel)).ty G_is_name b_is_name F_is_name.kp (m_glo X G e "is_name")
  have G_check_word := ok_check_word (P := P) (w := w) (mg := mg) (base := base) F_check_word (mk_InvalidWord (base := base) X G c) (errF e (x := "InvalidWord") (by decide +kernel)).ty CO G_is_lettered b_is_lettered F_is_lettered.kp (m_glo X G e "is_lettered")
  have G_check_expressions := ok_ckE (P := P) (w := w) (mg := mg) (base := base) F_check_expressions Z (mk_InvalidExpression (base := base) X G c) (errF e (x := "InvalidExpression") (by decide +kernel)).ty (m_glo X G e "Expression")
  have G_spelled := ok_spelled (P := P) (w := w) (mg := mg) (base := base) F_spelled Z KL
  have G_Facts := ok_facts (P := P) (w := w) (mg := mg) (base := base) F_Facts Z2 KL FC G_spelled b_spelled F_spelled.kp (m_glo X G e "spelled")
  have FO : FactsOk P w K mg base (He.ga K "Facts") (clsX K) := ⟨He.glo_ok X G gF, _, _, MF, G_Facts, b_Facts⟩
  have zm := m_free X G e "max"

  have n_drop : kcX K "drop" = He.ga K "Drop" := congrArg (He.ga K) (by decide +kernel)
  have n_lead : kcX K "lead" = He.ga K "Lead" := congrArg (He.ga K) (by decide +kernel)
  have n_name : kcX K "name" = He.ga K "Name" := congrArg (He.ga K) (by decide +kernel)
  have n_part : kcX K "part" = He.ga K "Part" := congrArg (He.ga K) (by decide +kernel)
  have n_sign : kcX K "sign" = He.ga K "Sign" := congrArg (He.ga K) (by decide +kernel)
  have n_turn : kcX K "turn" = He.ga K "Turn" := congrArg (He.ga K) (by decide +kernel)
  have n_weave : kcX K "weave" = He.ga K "Weave" := congrArg (He.ga K) (by decide +kernel)
  exact
    { own := fun k hk => cls_of k ((by decide +kernel : ∀ k ∈ (["sign", "name", "weave", "part", "drop", "lead", "turn"] : List Str), k ∈ kinds7) k hk)
      sign := by rw [n_sign]; exact ⟨He.glo_ok X G (clsF e (x := "Sign") (by decide +kernel)).g, _, _, (clsF e (x := "Sign") (by decide +kernel)).mkr, ok_sign F_Sign FO OW G_check_sign b_check_sign F_check_sign.kp (m_glo X G e "check_sign"), b_Sign⟩
      name := by rw [n_name]; exact ⟨He.glo_ok X G (clsF e (x := "Name") (by decide +kernel)).g, _, _, (clsF e (x := "Name") (by decide +kernel)).mkr, ok_nameE F_Name FO OW G_check_name b_check_name F_check_name.kp (m_glo X G e "check_name"), b_Name⟩
      weave := by rw [n_weave]; exact ⟨He.glo_ok X G (clsF e (x := "Weave") (by decide +kernel)).g, _, (clsF e (x := "Weave") (by decide +kernel)).mkr, ok_weave F_Weave FO OW ix CO Z G_check_within b_check_within F_check_within.kp (m_glo X G e "check_within") G_check_expressions b_check_expressions F_check_expressions.kp (m_glo X G e "check_expressions")⟩
      part := by rw [n_part]; exact ⟨He.glo_ok X G (clsF e (x := "Part") (by decide +kernel)).g, _, _, (clsF e (x := "Part") (by decide +kernel)).mkr, ok_part F_Part FO OW ix CO zm G_check_within b_check_within F_check_within.kp (m_glo X G e "check_within") G_check_expressions b_check_expressions F_check_expressions.kp (m_glo X G e "check_expressions"), b_Part⟩
      drop := by rw [n_drop]; exact ⟨He.glo_ok X G (clsF e (x := "Drop") (by decide +kernel)).g, _, _, (clsF e (x := "Drop") (by decide +kernel)).mkr, ok_drop F_Drop FO OW ix CO G_check_within b_check_within F_check_within.kp (m_glo X G e "check_within") G_check_expressions b_check_expressions F_check_expressions.kp (m_glo X G e "check_expressions"), b_Drop⟩
      lead := by rw [n_lead]; exact ⟨He.glo_ok X G (clsF e (x := "Lead") (by decide +kernel)).g, _, _, (clsF e (x := "Lead") (by decide +kernel)).mkr, ok_lead F_Lead FO OW ix G_check_expressions b_check_expressions F_check_expressions.kp (m_glo X G e "check_expressions"), b_Lead⟩
      turn := by rw [n_turn]; exact ⟨He.glo_ok X G (clsF e (x := "Turn") (by decide +kernel)).g, _, _, (clsF e (x := "Turn") (by decide +kernel)).mkr, ok_turn F_Turn FO OW ix G_check_word b_check_word F_check_word.kp (m_glo X G e "check_word") G_check_expressions b_check_expressions F_check_expressions.kp (m_glo X G e "check_expressions"), b_Turn⟩ }
end
end Wp

namespace Wp
open PySem PySem.Spec PyProof.Rows L2 Hx
section
variable {P : Program} {w : World} {K : PySem.W.Frag} {h : Heap} {mg : Str → Option Value} {base : Heap} {fa : Addr}
/-- what the reader rests on -/
structure ReadF (K : PySem.W.Frag) : Prop where
  wrong : ∀ x ∈ readX, PySem.W.exmOne K (.ref (He.ga K x)) (.ref (He.ga K "WrongValue")) = some true
  own : PySem.W.exmOne K (.ref (He.ga K "InvalidText")) (.ref (He.ga K "InvalidText")) = some true
  xf : XfC K (He.ga K "InvalidText")
  str : ∀ x ∈ cnX, PySem.W.kitOne K (.ref (He.ga K x)) (.type "str") = some false
  int : ∀ x ∈ cnX, PySem.W.kitOne K (.ref (He.ga K x)) (.type "int") = some false ∧ PySem.W.kitOne K (.ref (He.ga K x)) (.type "bool") = some false
  fig : (He.Fa.str "FIGURES" "0123456789").ok K = true
  ahead : ∀ p ∈ ([("weave", 0), ("part", 2), ("drop", 1), ("lead", 0), ("turn", 1)] : List (Str × Int)), ∃ t, PySem.W.nsIn K (He.ga K "AHEAD") p.1 = some (some (.int p.2 t))
  behind : ∀ p ∈ ([("part", 1), ("drop", 1), ("lead", 2), ("turn", 1)] : List (Str × Int)), ∃ t, PySem.W.nsIn K (He.ga K "BEHIND") p.1 = some (some (.int p.2 t))
  not : PySem.W.nsIn K (He.ga K "BEHIND") "weave" = some none
theorem readF (e : exX K = true) : ReadF K := by
  have h1 := exX_read e
  unfold exRead at h1
  obtain ⟨a1, h1⟩ := Bool.and_eq_true_iff.mp h1
  obtain ⟨a2, h1⟩ := Bool.and_eq_true_iff.mp h1
  obtain ⟨a3, h1⟩ := Bool.and_eq_true_iff.mp h1
  obtain ⟨a4, h1⟩ := Bool.and_eq_true_iff.mp h1
  obtain ⟨a5, h1⟩ := Bool.and_eq_true_iff.mp h1
  obtain ⟨a6, h1⟩ := Bool.and_eq_true_iff.mp h1
  obtain ⟨a7, a8⟩ := Bool.and_eq_true_iff.mp h1
  exact ⟨fun x hx => of_decide_eq_true (List.all_eq_true.mp a1 x hx), of_decide_eq_true a2, xfB_ok a3, fun x hx => of_decide_eq_true (Bool.and_eq_true_iff.mp (List.all_eq_true.mp a4 x hx)).1, fun x hx => (fun z => ⟨of_decide_eq_true (Bool.and_eq_true_iff.mp z).1, of_decide_eq_true (Bool.and_eq_true_iff.mp z).2⟩) (Bool.and_eq_true_iff.mp (List.all_eq_true.mp a4 x hx)).2, a5,
    fun p hp => intB_ok (List.all_eq_true.mp a6 p hp), fun p hp => intB_ok (List.all_eq_true.mp a7 p hp), He.eqO_ok a8⟩
theorem readsX (X : K.In h) (G : h.Ns mainGlobals mg) (e : exX K = true) : Reads mg := ⟨He.str_ok X G (readF e).fig, m_free X G e "tuple", m_free X G e "any"⟩
theorem is_str_ne {x z : Str} {t : Tok} (h : x ≠ z) : (Value.str x t).isStr z = false := by
  show (x == z) = false
  exact beq_eq_false_iff_ne.mpr h
theorem ns_none {K : PySem.W.Frag} {P : Params} {a : Addr} {ks : List Str} {z : Str} (h : He.dicW K a = some (He.keysIn P ks)) (hz : z ∉ ks) : PySem.W.nsIn K a z = some none := by
  unfold He.dicW at h
  unfold PySem.W.nsIn
  split at h
  · rename_i c es n sl q
    rw [q]
    split at h
    · have h := Option.some.inj h
      have go : ∀ (l : List DictEntry) (ks : List Str), l.map He.keyOf = He.keysIn P ks → z ∉ ks → l.find? (·.key.isStr z) = none ∧ l.any (·.refKey) = false := by
        intro l
        induction l with
        | nil => intro _ _ _; exact ⟨rfl, rfl⟩
        | cons e l ih =>
          intro ks h hz
          cases ks with
          | nil => cases h
          | cons k ks =>
            have h1 : He.keyOf e :: l.map He.keyOf = some (k, PyData.keyHash P k) :: He.keysIn P ks := h
            injection h1 with h2 h3
            obtain ⟨i1, i2⟩ := ih ks h3 (fun m => hz (List.mem_cons_of_mem _ m))
            unfold He.keyOf at h2
            split at h2
            · rename_i x t q
              have h4 := Option.some.inj h2
              obtain ⟨h5, h6⟩ := Prod.mk.inj h4
              have ne : e.key.isStr z = false := by
                rw [q, h5]
                exact is_str_ne (fun y => hz (by rw [y]; exact List.mem_cons_self))
              have nr : e.refKey = false := by
                unfold DictEntry.refKey
                rw [q]
              exact ⟨by rw [List.find?_cons, ne]; exact i1, by rw [List.any_cons, nr, i2]; rfl⟩
            · cases h2
      obtain ⟨g1, g2⟩ := go es.toList ks h hz
      show (match es.toList.find? (·.key.isStr z) with | some e => _ | none => _) = _
      rw [g1]
      show (if es.toList.any (·.refKey) = true then none else some none) = _
      rw [g2]
      rfl
    · cases h
  · cases h
theorem tabsX (X : K.In h) (G : h.Ns mainGlobals mg) (e : exX K = true) (t : SaysTb tsX w K) : Tabs6 K w mg := by
  obtain ⟨es1, n1, D1⟩ := t.tab 0 (t := ("AHEAD", ["weave", "part", "drop", "lead", "turn"])) rfl
  obtain ⟨es2, n2, D2⟩ := t.tab 1 (t := ("BEHIND", ["part", "drop", "lead", "turn"])) rfl
  have r := readF e
  exact ⟨⟨_, es1, n1, m_glo X G e "AHEAD", D1, r.ahead, fun z hz => ns_none (t.dic 0 (t := ("AHEAD", ["weave", "part", "drop", "lead", "turn"])) rfl) hz⟩, ⟨_, es2, n2, m_glo X G e "BEHIND", D2, r.behind, r.not⟩⟩
theorem notStrX (e : exX K = true) (H : Hp) (C a dx : Addr) (fs : List (Str × V)) (hC : clsX K C) (ha : H a = some (.ins C dx fs)) : NotStr K H (.ref a) := by
  refine ⟨.ref C, tyX_own e H C a dx fs hC ha, ?_⟩
  obtain ⟨x, hx, rfl⟩ := hC
  exact (readF e).str x hx
theorem notIntX (e : exX K = true) (H : Hp) (C a dx : Addr) (fs : List (Str × V)) (hC : clsX K C) (ha : H a = some (.ins C dx fs)) : NotInt K H (.ref a) := by
  obtain ⟨x, hx, rfl⟩ := id hC
  exact ⟨.ref _, false, false, tyX_own e H _ a dx fs hC ha, ((readF e).int x hx).1, ((readF e).int x hx).2, rfl⟩
theorem lawX (X : K.In h) (G : h.Ns mainGlobals mg) (c : SaysZ exX dsX K) (t : SaysTb tsX w K) (hfa : mg ("law" : Str) = some (.ref fa)) :
    ∃ fd : FuncData, (∀ (s : Shared) (u : Value), BindsTo s fd ⟨[u], []⟩ [("_law_cells", u)]) ∧ ∀ base : Heap, K.In base → base.Ns mainGlobals mg → Mods base → GOk P w K mg base CX0 86 fa fd ["_law_cells"] (spLaw K) := by
  have e := c.ex
  cases (hfa.symm.trans (m_glo X G e "law"))
  have Z : Bltn mg := ⟨m_free X G e "isinstance", m_free X G e "int", m_free X G e "bool", m_free X G e "str", m_free X G e "len", m_free X G e "all"⟩
  have Z2 : Bltn2 mg := ⟨m_free X G e "list", m_free X G e "set", m_free X G e "sorted", m_free X G e "tuple", m_free X G e "sum"⟩
  have Z3 : Bltn3 mg := ⟨m_free X G e "range"⟩
  have Z6 : Bltn6 mg := ⟨m_free X G e "range", m_free X G e "max", m_free X G e "min", m_free X G e "len", m_free X G e "str"⟩
  have CO := constsX X G e
  have R := readsX X G e
  have TB := tabsX X G e t
  have RF := readF e
  have ET := errF e (x := "InvalidText") (by decide +kernel)
  obtain ⟨d_piece_at, F_piece_at⟩ := c.def_ 10 (d := ⟨gA "piece_at", "piece_at", "piece_at", s_piece_at⟩) rfl
  have b_piece_at := F_piece_at.binds (ps := ["text", "at"]) fun _ _ _ _ _ _ us hl => match us, hl with | [_, _], _ => rfl
  obtain ⟨d_pieces_of, F_pieces_of⟩ := c.def_ 11 (d := ⟨gA "pieces_of", "pieces_of", "pieces_of", s_pieces_of⟩) rfl
  have b_pieces_of := F_pieces_of.binds (ps := ["text"]) fun _ _ _ _ _ _ us hl => match us, hl with | [_], _ => rfl
  obtain ⟨d_ahead_of, F_ahead_of⟩ := c.def_ 12 (d := ⟨gA "ahead_of", "ahead_of", "ahead_of", s_ahead_of⟩) rfl
  have b_ahead_of := F_ahead_of.binds (ps := ["piece"]) fun _ _ _ _ _ _ us hl => match us, hl with | [_], _ => rfl
  obtain ⟨d_knot_of, F_knot_of⟩ := c.def_ 13 (d := ⟨gA "knot_of", "knot_of", "knot_of", s_knot_of⟩) rfl
  have b_knot_of := F_knot_of.binds (ps := ["piece", "make"]) fun _ _ _ _ _ _ us hl => match us, hl with | [_, _], _ => rfl
  obtain ⟨d_closed, F_closed⟩ := c.def_ 14 (d := ⟨gA "closed", "closed", "closed", s_closed⟩) rfl
  have b_closed := F_closed.binds (ps := ["word", "pieces", "text", "make"]) fun _ _ _ _ _ _ us hl => match us, hl with | [_, _, _, _], _ => rfl
  obtain ⟨d_read_text, F_read_text⟩ := c.def_ 15 (d := ⟨gA "read_text", "read_text", "read_text", s_read_text⟩) rfl
  have b_read_text := F_read_text.binds (ps := ["text", "make"]) fun _ _ _ _ _ _ us hl => match us, hl with | [_, _], _ => rfl
  obtain ⟨d_make, F_make⟩ := c.def_ 16 (d := ⟨gA "make", "make", "make", s_make⟩) rfl
  have b_make := F_make.binds (ps := ["kind", "told", "inner"]) fun _ _ _ _ _ _ us hl => match us, hl with | [_, _, _], _ => rfl
  obtain ⟨d_read_expression, F_read_expression⟩ := c.def_ 17 (d := ⟨gA "read_expression", "read_expression", "read_expression", s_read_expression⟩) rfl
  have b_read_expression := F_read_expression.binds (ps := ["text"]) fun _ _ _ _ _ _ us hl => match us, hl with | [_], _ => rfl
  obtain ⟨d__law_deck, F__law_deck⟩ := c.def_ 18 (d := ⟨gA "_law_deck", "_law_deck", "_law_deck", s_law_deck⟩) rfl
  have b__law_deck := F__law_deck.binds (ps := ["_law_cells", "_law_turn"]) fun _ _ _ _ _ _ us hl => match us, hl with | [_, _], _ => rfl
  obtain ⟨d__law_card, F__law_card⟩ := c.def_ 19 (d := ⟨gA "_law_card", "_law_card", "_law_card", s_law_card⟩) rfl
  have b__law_card := F__law_card.binds (ps := ["_law_deck_here", "_law_top"]) fun _ _ _ _ _ _ us hl => match us, hl with | [_, _], _ => rfl
  obtain ⟨d__law_of, F__law_of⟩ := c.def_ 20 (d := ⟨gA "_law_of", "_law_of", "_law_of", s_law_of⟩) rfl
  have b__law_of := F__law_of.binds (ps := ["_law_deck_here", "_law_menu"]) fun _ _ _ _ _ _ us hl => match us, hl with | [_, _], _ => rfl
  obtain ⟨d__law_leaf, F__law_leaf⟩ := c.def_ 21 (d := ⟨gA "_law_leaf", "_law_leaf", "_law_leaf", s_law_leaf⟩) rfl
  have b__law_leaf := F__law_leaf.binds (ps := ["_law_deck_here", "_law_letters_here", "_law_menu"]) fun _ _ _ _ _ _ us hl => match us, hl with | [_, _, _], _ => rfl
  obtain ⟨d__law_tree, F__law_tree⟩ := c.def_ 22 (d := ⟨gA "_law_tree", "_law_tree", "_law_tree", s_law_tree⟩) rfl
  have b__law_tree := F__law_tree.binds (ps := ["_law_deck_here", "_law_frame", "_law_room", "_law_parts"]) fun _ _ _ _ _ _ us hl => match us, hl with | [_, _, _, _], _ => rfl
  obtain ⟨d__law_titles, F__law_titles⟩ := c.def_ 23 (d := ⟨gA "_law_titles", "_law_titles", "_law_titles", s_law_titles⟩) rfl
  have b__law_titles := F__law_titles.binds (ps := ["_law_deck_here", "_law_size", "_law_taken"]) fun _ _ _ _ _ _ us hl => match us, hl with | [_, _, _], _ => rfl
  obtain ⟨d__law_signs, F__law_signs⟩ := c.def_ 24 (d := ⟨gA "_law_signs", "_law_signs", "_law_signs", s_law_signs⟩) rfl
  have b__law_signs := F__law_signs.binds (ps := ["_law_deck_here", "_law_size"]) fun _ _ _ _ _ _ us hl => match us, hl with | [_, _], _ => rfl
  obtain ⟨d__law_text, F__law_text⟩ := c.def_ 25 (d := ⟨gA "_law_text", "_law_text", "_law_text", s_law_text⟩) rfl
  have b__law_text := F__law_text.binds (ps := ["_law_tree_here", "_law_wide"]) fun _ _ _ _ _ _ us hl => match us, hl with | [_, _], _ => rfl
  obtain ⟨d__law_letters, F__law_letters⟩ := c.def_ 26 (d := ⟨gA "_law_letters", "_law_letters", "_law_letters", s_law_letters⟩) rfl
  have b__law_letters := F__law_letters.binds (ps := ["_law_text_here", "_law_at"]) fun _ _ _ _ _ _ us hl => match us, hl with | [_, _], _ => rfl
  obtain ⟨d__law_head, F__law_head⟩ := c.def_ 27 (d := ⟨gA "_law_head", "_law_head", "_law_head", s_law_head⟩) rfl
  have b__law_head := F__law_head.binds (ps := ["_law_word", "_law_text_here", "_law_at"]) fun _ _ _ _ _ _ us hl => match us, hl with | [_, _, _], _ => rfl
  obtain ⟨d__law_end, F__law_end⟩ := c.def_ 28 (d := ⟨gA "_law_end", "_law_end", "_law_end", s_law_end⟩) rfl
  have b__law_end := F__law_end.binds (ps := ["_law_text_here", "_law_at"]) fun _ _ _ _ _ _ us hl => match us, hl with | [_, _], _ => rfl
  obtain ⟨d__law_spoiled, F__law_spoiled⟩ := c.def_ 29 (d := ⟨gA "_law_spoiled", "_law_spoiled", "_law_spoiled", s_law_spoiled⟩) rfl
  have b__law_spoiled := F__law_spoiled.binds (ps := ["_law_deck_here", "_law_text_here"]) fun _ _ _ _ _ _ us hl => match us, hl with | [_, _], _ => rfl
  obtain ⟨d__law_right, F__law_right⟩ := c.def_ 30 (d := ⟨gA "_law_right", "_law_right", "_law_right", s_law_right⟩) rfl
  have b__law_right := F__law_right.binds (ps := ["_law_deck_here"]) fun _ _ _ _ _ _ us hl => match us, hl with | [_], _ => rfl
  obtain ⟨d_law, F_law⟩ := c.def_ 31 (d := ⟨gA "law", "law", "law", s_law⟩) rfl
  refine ⟨d_law, ?_, fun base KB GB hm => ?_⟩
  · obtain ⟨oc, od, kV, doc, pm, an, cdv, ct, osl, rfl, lk, hcd⟩ := F_law.ex
    exact fun s u => .of_eq rfl
  have T := ctorsX (P := P) (w := w) (base := base) X G c
  have KL := klsX (P := P) (w := w) (base := base) c Z.str
  have EF := eqFactsX (P := P) (w := w) (base := base) X G c
  have MT := mk_InvalidText (P := P) (w := w) (base := base) X G c
  have MH := mkh_InvalidText (P := P) (w := w) (base := base) X G c
  have G_piece_at := ok_piece (P := P) (w := w) (mg := mg) (base := base) F_piece_at Z CO
  have G_pieces_of := ok_pieces (P := P) (w := w) (mg := mg) (base := base) F_pieces_of Z G_piece_at b_piece_at F_piece_at.kp (m_glo X G e "piece_at")
  have G_ahead_of := ok_ahead (P := P) (w := w) (mg := mg) (base := base) F_ahead_of Z R
  have nt := notStrX e
  have ni := notIntX e
  have G_leaf := ok_mkLeaf (P := P) (w := w) (mg := mg) (base := base) F_make T
  have G_make := ok_mkC (P := P) (w := w) (mg := mg) (base := base) (S := fun C => C = He.ga K "InvalidSign" ∨ C = He.ga K "InvalidName" ∨ C = He.ga K "InvalidText" ∨ C = He.ga K "InvalidNumber" ∨ C = He.ga K "InvalidWord") F_make T (.inr (.inr (.inr (.inl rfl)))) (.inr (.inr (.inr (.inr rfl)))) nt ni
  have G_knot_of := ok_knot (P := P) (w := w) (mg := mg) (base := base) (S := fun C => C = He.ga K "InvalidSign" ∨ C = He.ga K "InvalidName" ∨ C = He.ga K "InvalidText" ∨ C = He.ga K "InvalidNumber" ∨ C = He.ga K "InvalidWord") F_knot_of Z nt (.inl rfl) (.inr (.inl rfl)) G_leaf b_make F_make.kp
  have G_closed := ok_closedX (P := P) (w := w) (mg := mg) (base := base) (S := fun C => C = He.ga K "InvalidSign" ∨ C = He.ga K "InvalidName" ∨ C = He.ga K "InvalidText" ∨ C = He.ga K "InvalidNumber" ∨ C = He.ga K "InvalidWord") F_closed Z R TB EF (.inr (.inr (.inl rfl))) MT ET.ty G_make b_make F_make.kp G_ahead_of b_ahead_of F_ahead_of.kp (m_glo X G e "ahead_of") nt G_knot_of b_knot_of F_knot_of.kp (m_glo X G e "knot_of")
  have G_read_text := ok_readX (P := P) (w := w) (mg := mg) (base := base) (S := fun C => C = He.ga K "InvalidSign" ∨ C = He.ga K "InvalidName" ∨ C = He.ga K "InvalidText" ∨ C = He.ga K "InvalidNumber" ∨ C = He.ga K "InvalidWord") F_read_text Z (.inr (.inr (.inl rfl))) MT ET.ty G_pieces_of b_pieces_of F_pieces_of.kp (m_glo X G e "pieces_of") G_closed b_closed F_closed.kp (m_glo X G e "closed") G_knot_of b_knot_of F_knot_of.kp (m_glo X G e "knot_of")
  have G_read_expression := ok_readEX (P := P) (w := w) (mg := mg) (base := base) F_read_expression Z (fun C hC => by
    rcases hC with rfl | rfl | rfl | rfl | rfl
    · exact RF.wrong "InvalidSign" (by decide +kernel)
    · exact RF.wrong "InvalidName" (by decide +kernel)
    · exact RF.wrong "InvalidText" (by decide +kernel)
    · exact RF.wrong "InvalidNumber" (by decide +kernel)
    · exact RF.wrong "InvalidWord" (by decide +kernel)) MT MH ET.ty (m_glo X G e "WrongValue") (m_glo X G e "make") G_read_text b_read_text F_read_text.kp (m_glo X G e "read_text")
  have G__law_deck := ok_deck (P := P) (w := w) (mg := mg) (base := base) F__law_deck Z.len Z.int (m_free X G e "abs")
  have G__law_card := ok_card (P := P) (w := w) (mg := mg) (base := base) F__law_card Z.int (m_free X G e "divmod")
  have G__law_of := ok_of (P := P) (w := w) (mg := mg) (base := base) F__law_of G__law_card b__law_card F__law_card.kp (m_glo X G e "_law_card") Z.len
  have GS := ok_ofS (P := P) (w := w) (mg := mg) (base := base) F__law_of G__law_card b__law_card F__law_card.kp (m_glo X G e "_law_card") Z.len
  have G__law_leaf := ok_leaf (P := P) (w := w) (mg := mg) (base := base) F__law_leaf G__law_card b__law_card F__law_card.kp (m_glo X G e "_law_card") G__law_of GS b__law_of F__law_of.kp (m_glo X G e "_law_of")
  have G__law_tree := ok_tree (P := P) (w := w) (mg := mg) (base := base) F__law_tree Z3 b__law_tree (m_glo X G e "_law_tree") G__law_card b__law_card F__law_card.kp (m_glo X G e "_law_card") GS b__law_of F__law_of.kp (m_glo X G e "_law_of") G__law_leaf b__law_leaf F__law_leaf.kp (m_glo X G e "_law_leaf") 12
  have G__law_titles := ok_titles (P := P) (w := w) (mg := mg) (base := base) F__law_titles Z3 G__law_card b__law_card F__law_card.kp (m_glo X G e "_law_card") G__law_of GS b__law_of F__law_of.kp (m_glo X G e "_law_of")
  have G__law_signs := ok_signs (P := P) (w := w) (mg := mg) (base := base) F__law_signs Z Z3 G__law_card b__law_card F__law_card.kp (m_glo X G e "_law_card")
  have G__law_text := ok_text (P := P) (w := w) (mg := mg) (base := base) F__law_text Z b__law_text (m_glo X G e "_law_text") 12
  have G__law_letters := ok_letters6 (P := P) (w := w) (mg := mg) (base := base) F__law_letters Z6
  have G__law_head := ok_head6 (P := P) (w := w) (mg := mg) (base := base) F__law_head Z6 G__law_letters b__law_letters F__law_letters.kp (m_glo X G e "_law_letters")
  have G__law_end := ok_end6 (P := P) (w := w) (mg := mg) (base := base) F__law_end Z6 b__law_end F__law_end.kp (m_glo X G e "_law_end") G__law_letters b__law_letters F__law_letters.kp (m_glo X G e "_law_letters") G__law_head b__law_head F__law_head.kp (m_glo X G e "_law_head") 81
  have G__law_spoiled := ok_spoiled (P := P) (w := w) (mg := mg) (base := base) F__law_spoiled Z6 G__law_card b__law_card F__law_card.kp (m_glo X G e "_law_card") GS b__law_of F__law_of.kp (m_glo X G e "_law_of")
  have G__law_right := ok_right6 (P := P) (w := w) (mg := mg) (base := base) F__law_right Z6 KL (m_free X G e "repr") hm RF.xf ET.no (He.glo_ok X G ET.g) RF.own G__law_card b__law_card F__law_card.kp (m_glo X G e "_law_card") G__law_signs b__law_signs F__law_signs.kp (m_glo X G e "_law_signs") G__law_titles b__law_titles F__law_titles.kp (m_glo X G e "_law_titles") G__law_tree b__law_tree F__law_tree.kp (m_glo X G e "_law_tree") G__law_text b__law_text F__law_text.kp (m_glo X G e "_law_text") G__law_spoiled b__law_spoiled F__law_spoiled.kp (m_glo X G e "_law_spoiled") G__law_end b__law_end F__law_end.kp (m_glo X G e "_law_end") G_read_expression b_read_expression F_read_expression.kp (m_glo X G e "read_expression")
  exact ok_law (P := P) (w := w) (mg := mg) (base := base) F_law Z6 Z.all G__law_deck b__law_deck F__law_deck.kp (m_glo X G e "_law_deck") G__law_right b__law_right F__law_right.kp (m_glo X G e "_law_right")
end
end Wp

namespace Hx
open PySem PySem.Spec PyProof.Rows L2
/-- the goal that head_any leaves, for a law whose defs ask that no guard stands below -/
theorem walk_GE {l : PySem.W.OpenLaw} {n k : Nat} {q : Program} {loose : List Str} {XP : (Str → Option Value) → Heap → Prop} {YP : World → Heap → Prop} {d : DefRec} {x : Str}
    (hn : l.most = some n) (hn2 : n ≤ sizeLine) (hdf : d.params.defaults = []) (room : Room k callerA) (himp : importsNone q = true)
    (F : ∀ (w : World) (mg : Str → Option Value) (fa : Addr) (h : Heap), YP w h → h.Ns mainGlobals mg → mg d.name = some (.ref fa) →
      ∃ (K : PySem.W.Frag) (fd : FuncData) (sp : Sp), K.In h ∧ (∀ (s : Shared) (u : Value), BindsTo s fd ⟨[u], []⟩ [(x, u)]) ∧
        (∀ (H : Hp) (a : Addr) (ns : List Int), ns.length ≤ n → SqL K H a (ns.map V.int) → sp [.ref a] H (fun v _ => v = .bl true) E0) ∧
        ∀ base : Heap, K.In base → base.Ns mainGlobals mg → Mods base → GOk l.prog w K mg base CX0 k fa fd [x] sp) :
    PySem.W.WalkO q loose XP YP l.row.toRowW d [] (fun f vs => PySem.call f vs) := by
  refine Att.attach_call hn hdf ?_
  intro w s0 s1 mg mb fa o pm cd doc a vs ns G Y ho hd hcd hmg hobj hints hlen hgen
  obtain ⟨K, fd, sp, KX, hb, hsp, hF⟩ := F w mg fa _ Y G.T.g hmg
  obtain ⟨mm, hmm, _⟩ := (G.T.seer himp).mods
  exact law_enter KX G.T.g G.T.b G.T.builtins G.T.nolimit ⟨mm, hmm⟩ hgen hobj hints (Nat.le_trans hlen hn2) room hF hb fun H hS => hsp H a ns hlen hS
end Hx
open PySem PySem.W PySem.Calls PyProof.Rows in
set_option maxHeartbeats 0 in
theorem PySem.Challenge.cw_wovenplaces_k06_whole_reader_holds : PySem.Challenge.rw_wovenplaces_k06_whole_reader.Holds := by
  w_on; o_law
  refine HandSHeadRun.head_any (r := OpenLaw.row PySem.Challenge.rw_wovenplaces_k06_whole_reader) (q := view (OpenLaw.row PySem.Challenge.rw_wovenplaces_k06_whole_reader).prog [67]) (H := Wp.hkX) (ob := Wp.obX) (M := 20000) (loose := Wp.namesX)
    (d := HandSHeadRun.topDef (OpenLaw.row PySem.Challenge.rw_wovenplaces_k06_whole_reader).prog 67) (kwd := []) Wp.obX_eq
    (by kernel_rfl) (fun s => by kernel_rfl) Wp.runX (by kernel_rfl) (by kernel_rfl) (by kernel_rfl) (by rfl) (by first | assumption | decide +kernel) (by decide +kernel) ⟨rfl, rfl, rfl, rfl, rfl, by decide +kernel⟩ ?hw ?hc
  case hw => w_witness2
  case hc =>
    refine Hx.walk_GE (l := PySem.Challenge.rw_wovenplaces_k06_whole_reader) (n := 63) (k := 86) (x := "_law_cells") rfl (by decide) (by kernel_rfl) ⟨rfl, by decide, by decide⟩ (by kernel_rfl) ?F
    intro w mg fa h Y G hmg0
    obtain ⟨K, KX, c, tb⟩ := Y
    have hmg : mg ("law" : PySem.Str) = some (.ref fa) := by
      have e : (HandSHeadRun.topDef (OpenLaw.row PySem.Challenge.rw_wovenplaces_k06_whole_reader).prog 67).name = ("law" : PySem.Str) := by kernel_rfl
      rw [← e]
      exact hmg0
    obtain ⟨fd, hb, hF⟩ := Wp.lawX (P := (PySem.Challenge.rw_wovenplaces_k06_whole_reader).prog) (w := w) KX G c tb hmg
    exact ⟨K, fd, Wp.spLaw K, KX, hb, fun H a ns hl hS => ⟨a, ns, rfl, hS, hl, fun _ => rfl⟩, hF⟩

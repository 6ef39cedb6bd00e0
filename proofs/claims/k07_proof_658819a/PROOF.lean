import PyProof.Rows.All
import Wide.All
import OpenK.AllK
import Wide.FinOn
import PyProof.EqAt
import PyProof.EqKinds
import PyProof.TupleCall
import PyProof.ReprRoads
import HandS.Base
import HandS.Call
import HandS.List
import HandS.Comp
import HandS.Ends
import HandS.Dict
import HandS.Iter
import HandS.Words
import HandS.WordsList
import HandS.EndTab
import HandS.Lambda
import HandS.ExcField
import HandS.HeadHook4
import HandS.Property
import KE.KStateDown
import KE.KExcInit
import KE.KExcIs
import HandS.IsInst
import HandS.HeadEnd
import HandS.Head0
import HandS.Head1
import HandS.Head2
import HandS.HeadHook1
import HandS.HeadHook2
import HandS.Exc
import HandS.ExcInit
import HandS.ExcValue
import HandS.ListEq
import HandS.Text
import HandS.WordsExc
import HandS.Walk
import HandS.RaiseMore
import KE.KCallOwn
import HandS.FStr
import HandS.Star
import HandS.Set
import HandS.SetFor
import HandS.Strs
import PyProof.Rows.SortShellAny
import OpenK.KOps
import OpenK.KMeth
import HandS.MakeKwOnly
import HandS.SlotsOwn
import PyProof.StrBlock2
import KE.KRevSl
import PyProof.Rows.StrRev
import HandS.Small
import HandS.DictComp
import HandS.Conv
import HandS.Sort
import PyProof.Draws
import PyProof.EnumMake
import KE.GoesMore
import PyProof.TupleIter
import PyProof.SetRoads
import PyProof.StrWalks
import HandS.TryOnly
import HandS.TryMany
import PyProof.StrLawsRepr
import KE.DataEq
import PySem.Challenge.RW_wovenplaces_k07_names_signs_and_words
set_option Elab.async false
set_option linter.all false
set_option maxRecDepth 100000
set_option maxHeartbeats 0
namespace Hx
open PySem PySem.Spec PyProof.Rows L2

/-! a def's promise where no guard (a repr that runs) stands below -/
structure GOk (P : Program) (w : World) (K : PySem.W.Frag) (mg : Str → Option Value) (base : Heap) (CX : CXT) (k : Nat)
    (f : Addr) (fd : FuncData) (ps : List Str) (sp : Sp) : Prop where
  long : ∀ vs H Q E, sp vs H Q E → vs.length = ps.length
  goes : ∀ (A : Around) (outer : List Env) (s : Shared) (H : Hp) (args : Args) (us : List Value) (vs : List V) (Q : VK) (E : XK),
    Room k A → A.guards = some [] → Env0 P w K mg base A outer s H → BindsTo s fd args (ps.zip us) → Vals vs us → sp vs H Q E →
    codeAny (model P w) A (.call (.ref f) args) (CR CX outer P w H s Q E) s

section
variable {P : Program} {w : World} {K : PySem.W.Frag} {mg : Str → Option Value} {base : Heap} {CX : CXT} {k j : Nat}
  {f : Addr} {fd : FuncData} {ps : List Str} {sp : Sp}
theorem GOk.of (F : FnOk P w K mg base CX k f fd ps sp) : GOk P w K mg base CX k f fd ps sp :=
  ⟨F.len, fun A outer s H args us vs Q E room _ => F.run A outer s H args us vs Q E room⟩
theorem GOk.more (F : GOk P w K mg base CX j f fd ps sp) (h : j ≤ k) : GOk P w K mg base CX k f fd ps sp :=
  ⟨F.long, fun A outer s H args us vs Q E room => F.goes A outer s H args us vs Q E (room.mono h)⟩

/-- a def of the text keeps its promise, by its body, no guard below -/
theorem gok {x qual : Str} {st : Stmt} {N : List Str} (F : Fun K x qual st f fd) (S : FnScope N ps (defScope st))
    (long : ∀ vs H Q E, sp vs H Q E → vs.length = ps.length)
    (body : ∀ (cdv : Value) (A : Around) (outer : List Env) (s : Shared) (H : Hp) (vs : List V) (Q : VK) (E : XK),
      Room k (A.deeper (envOfC qual (defScope st) s.heap.objs.size f cdv)) → A.guards = some [] → sp vs H Q E →
      ∃ t, PSs (cxOf CX P w K mg base N qual (defScope st) f cdv A outer s H E) (defBody st) t ∧
        t { nx := fun _ H' => Q .non H', rt := Q } (start N vs) H) :
    GOk P w K mg base CX (k + 1) f fd ps sp := by
  obtain ⟨oc, od, kV, doc, pm, an, cdv, ct, osl, efd, hlook, hcode⟩ := F.ex
  subst efd
  constructor
  · exact long
  · intro A outer s H args us vs Q E room gd e0 hbind rel hsp
    have inK : K.In s.heap := e0.mod.kin.keeps fun b o h => (e0.bs b o h).1
    have noLim : s.heap.NoLimit := e0.mod.nolimit.keeps fun b o h => (e0.bs b o h).1
    refine codeAny_call_function room.depth (inK _ _ hlook) rfl S.co S.gen rfl (PySem.W.codeRec_of inK hcode) (hbind _ _ _ _ ?_)
    refine wpAny_newFunctionEnv_cells S.kind ?kinds fun env henv s1 inside => ?_
    case kinds =>
      rintro ⟨nm, val⟩ hm
      have hp := (List.of_mem_zip hm).1
      cases S.par nm hp with
      | inl hl => exact .inl hl
      | inr hc => exact .inr ⟨hc, PySem.W.cellsFrom_some _ _ _ (.inl hc)⟩
    subst henv
    refine ⟨noLim.keeps inside.toInCall.keep, codeAny_func ?_⟩
    obtain ⟨t, ht, hq⟩ := body cdv A outer s H vs Q E (room.deeper _) gd hsp
    have I0 := inv_start (CX := CX) (E := E) S room.hd e0 (long _ _ _ _ hsp) rel inside
    refine wpAny_mono (ht.run [] s1 (start N vs) H _ I0 hq) ?_ (fun _ _ z => z)
    intro fl s' hfl
    cases fl with
    | ret u =>
      obtain ⟨v, _, H', J, rv, q⟩ := hfl
      exact ⟨v, H', J.os, J.bare, J.base, J.hok, rv, q⟩
    | next =>
      obtain ⟨_, H', J, q⟩ := hfl
      exact ⟨V.non, H', J.os, J.bare, J.base, J.hok, rfl, q⟩
    | brk => exact hfl.elim fun _ z => z.elim fun _ z => z.2.elim
    | cont => exact hfl.elim fun _ z => z.elim fun _ z => z.2.elim
end

section
variable {X : Cx} {CX : CXT} {k : Nat} {f : Addr} {fd : FuncData} {ps : List Str} {sp : Sp} {dvs : List V} {ds : List Value} {E : XK}
theorem run_g {pins : List (Addr × Obj)} {σ : L2.St} {H : Hp} {s : Shared} {Q : VK} {us : List Value} {vs : List V}
    (F : GOk X.prog X.w X.K X.mg X.base CX k f fd ps sp) (room : Room k X.A) (gd : X.A.guards = some []) (hb : Binds X.K fd ps ds)
    (hd : Vals dvs ds) (pass : Passes CX X E) (I : Inv X pins σ H s) (r : Vals vs us) (h : sp (vs ++ dvs) H Q E) :
    wpAny (model X.prog X.w) X.A (call (.ref f) us) (EP X pins σ Q) X.xe s := by
  have rr := r.append hd
  have hlen : (us ++ ds).length = ps.length := rr.length.symm.trans (F.long _ _ _ _ h)
  have go := F.goes X.A X.stack s H ⟨us, []⟩ (us ++ ds) (vs ++ dvs) Q E room gd I.env0 (hb s us I.kIn hlen) rr h
  refine wpAny_call (codeAny_mono go ?_)
  intro r s' hr
  cases r with
  | error e => exact pass pins σ H s e s' I hr
  | ok fl =>
    cases fl with
    | ret u => exact I.after hr
    | next => exact hr.elim
    | brk => exact hr.elim
    | cont => exact hr.elim

theorem pe_callG {x : Str} {p pos : Pos} {e : Expr} {es : List Expr} {t : TA} (F : GOk X.prog X.w X.K X.mg X.base CX k f fd ps sp)
    (room : Room k X.A) (gd : X.A.guards = some []) (hg : Gl X x) (hm : X.mg x = some (.ref f)) (hk : PySem.W.keepIn X.K (.ref f) = true)
    (hb : Binds X.K fd ps ds) (hd : Vals dvs ds) (pass : Passes CX X E) (ha : PA X (e :: es) t)
    (hdb : (x == ("__debug__" : Str)) = false := by decide)
    (he : starEach (e :: es) X.env = (false, eval e X.env) :: starEach es X.env := by rfl)
    (hpl : (backTo pos (starEach es X.env)).any (·.1) = false := by rfl) :
    PE X (.Call (.Name x p) (e :: es) [] pos) (tCall sp dvs E t) := by
  constructor
  intro pins s σ H Q I h
  refine wpAny_Call_Name_kw (ld_glob I hg hm ?_ hdb)
  refine PySem.W.callWith_K (h₀ := X.base) I.ok.mod.kin hk ?_ he hpl
  refine thn (ha.run pos pins s σ H _ I h) ?_
  rintro us s1 ⟨vs, H1, J, r, q⟩
  exact ⟨J.kIn, run_g F room gd hb hd pass J r q⟩
end
end Hx
namespace Hx
open PySem PySem.Spec PyProof.Rows L2
section
variable {P : Program} {w : World} {K : PySem.W.Frag} {mg : Str → Option Value} {base : Heap} {k : Nat}
  {f : Addr} {fd : FuncData} {ps : List Str} {sp : Sp}
/-- the same where no exception leaves the def -/
theorem gok0 {x qual : Str} {st : Stmt} {N : List Str} (F : Fun K x qual st f fd) (S : FnScope N ps (defScope st))
    (long : ∀ vs H Q E, sp vs H Q E → vs.length = ps.length)
    (body : ∀ (cdv : Value) (A : Around) (outer : List Env) (s : Shared) (H : Hp) (vs : List V) (Q : VK) (E : XK),
      Room k (A.deeper (envOfC qual (defScope st) s.heap.objs.size f cdv)) → A.guards = some [] → sp vs H Q E →
      ∃ t, PSs (cxOf CX0 P w K mg base N qual (defScope st) f cdv A outer s H E).nox (defBody st) t ∧
        t { nx := fun _ H' => Q .non H', rt := Q } (start N vs) H) :
    GOk P w K mg base CX0 (k + 1) f fd ps sp :=
  gok F S long fun cdv A outer s H vs Q E room gd hsp => by
    obtain ⟨t, h, q⟩ := body cdv A outer s H vs Q E room gd hsp
    exact ⟨t, h.nox, q⟩
end
/-! joining ways: what is known of a value, for any wish -/
theorem asg_join {te : TE} {g : TG} {D : Ends} {σ : L2.St} {H : Hp} (R : V → Hp → Prop)
    (h : ∀ Q : VK, (∀ v H', R v H' → Q v H') → te σ H Q) (hq : ∀ v H', R v H' → g v σ H' D.nx) : tAsg te g D σ H := h _ hq
theorem te_join {te : TE} {Q : VK} {σ : L2.St} {H : Hp} (R : V → Hp → Prop)
    (h : ∀ Q : VK, (∀ v H', R v H' → Q v H') → te σ H Q) (hq : ∀ v H', R v H' → Q v H') : te σ H Q := h _ hq
theorem seq_set {te : TE} {i : Nat} {u : TS} {D : Ends} {σ : L2.St} {H : Hp} (h : te σ H fun x H1 => u D (σ.set i (some x)) H1) : tSeq (tAsg te (gName i)) u D σ H := h
theorem seq_if_op {r : R2} {ta tb : TE} {t u w : TS} {D : Ends} {σ : L2.St} {H : Hp}
    (h : ta σ H fun x H1 => tb σ H1 fun y H2 => r x y H2 fun z H3 => ∃ k, z = .bl k ∧ if k = true then t { D with nx := w D } σ H3 else u { D with nx := w D } σ H3) :
    tSeq (tIfS (tTest (tOp r ta tb)) t u) w D σ H := h
theorem ret_op {r : R2} {ta tb : TE} {D : Ends} {σ : L2.St} {H : Hp} (h : ta σ H fun x H1 => tb σ H1 fun y H2 => r x y H2 D.rt) : tRet (tOp r ta tb) D σ H := h
theorem next_go {w : Ends → L2.St → Hp → Prop} {D : Ends} {σ : L2.St} {H : Hp} (h : w D σ H) : tNext { D with nx := w D } σ H := h
theorem ret_go {te : TE} {D : Ends} {σ : L2.St} {H : Hp} (h : te σ H D.rt) : tRet te D σ H := h
theorem ret_join {te : TE} {D : Ends} {σ : L2.St} {H : Hp} (R : V → Hp → Prop)
    (h : ∀ Q : VK, (∀ v H', R v H' → Q v H') → te σ H Q) (hq : ∀ v H', R v H' → D.rt v H') : tRet te D σ H := h _ hq
theorem cons_join {te : TE} {tr : TA} {Q : List V → Hp → Prop} {σ : L2.St} {H : Hp} (R : V → Hp → Prop)
    (h : ∀ Q : VK, (∀ v H', R v H' → Q v H') → te σ H Q) (hq : ∀ v H', R v H' → tr σ H' fun xs H2 => Q (v :: xs) H2) : tCons te tr σ H Q := h _ hq
theorem ret_lst_join {te : TE} {tr : TA} {D : Ends} {σ : L2.St} {H : Hp} (R : V → Hp → Prop)
    (h : ∀ Q : VK, (∀ v H', R v H' → Q v H') → te σ H Q)
    (hq : ∀ v H', R v H' → tr σ H' fun xs H2 => (v :: xs).length ≤ sizeLine ∧ ∀ p, H2 p = none → D.rt (.ref p) (upd H2 p (.lst (v :: xs)))) :
    tRet (tLst (tCons te tr)) D σ H := h _ hq
theorem same_new {H : Hp} {p : Addr} (h : H p = none) (o : HO) : Same H (upd H p o) := fun b u q => by
  rw [upd_ne (ne_of_none q h)]
  exact q
theorem upd_other {H : Hp} {p q : Addr} {o u : HO} (h : H q = some u) (n : H p = none) : upd H p o q = some u := by
  rw [upd_ne (ne_of_none h n)]
  exact h
/-- all stands but what is at d -/
def But (d : Addr) (H H' : Hp) : Prop := ∀ b o, b ≠ d → H b = some o → H' b = some o
theorem But.of {d : Addr} {H H' : Hp} (s : Same H H') : But d H H' := fun b o _ h => s b o h
theorem But.refl {d : Addr} {H : Hp} : But d H H := fun _ _ _ h => h
theorem But.trans {d : Addr} {H H1 H2 : Hp} (a : But d H H1) (b : But d H1 H2) : But d H H2 := fun c o n h => b c o n (a c o n h)
theorem But.upd {d : Addr} {H H' : Hp} (a : But d H H') (o : HO) : But d H (L2.upd H' d o) := fun c u n h => by
  rw [upd_ne n]
  exact a c u n h
theorem But.new {d p : Addr} {H H' : Hp} (a : But d H H') (hp : H' p = none) (o : HO) : But d H (L2.upd H' p o) := fun c u n h => by
  have z := a c u n h
  rw [upd_ne (ne_of_none z hp)]
  exact z
theorem But.seq {K : PySem.W.Frag} {d a : Addr} {H H' : Hp} {xs : List V} (e : But d H H') (n : a ≠ d) (h : SqL K H a xs) : SqL K H' a xs := by
  rcases h with (h | ⟨o, h⟩) | h
  · exact .inl (.inl (e _ _ n h))
  · exact .inl (.inr ⟨o, e _ _ n h⟩)
  · exact .inr h
theorem atI_in {α : Type} {xs : List α} {r : Int} (r0 : 0 ≤ r) (r1 : r < (xs.length : Int)) : ∃ v, v ∈ xs ∧ atI xs r = some v := by
  have hr : r.toNat < xs.length := by omega
  have er : ((r.toNat : Nat) : Int) = r := by omega
  have z := atI_nat (List.getElem?_eq_getElem hr)
  rw [er] at z
  exact ⟨_, List.getElem_mem hr, z⟩
theorem small_line {n : Nat} (h : n ≤ 1000) : n ≤ sizeLine := Nat.le_trans h (by decide)
end Hx

namespace Hx
open PySem PySem.Spec PyProof.Rows L2
/-- the data of a key -/
def keyD : Key → PyData
  | .inl i => .int i
  | .inr x => .str x
mutual
/-- at v stands the data d, in objects that are tracked -/
inductive Dq (H : Hp) : V → PyData → Prop
  | non : Dq H .non .none
  | bl (b : Bool) : Dq H (.bl b) (.bool b)
  | int (i : Int) : Dq H (.int i) (.int i)
  | str (x : Str) : Dq H (.str x) (.str x)
  | lst {a : Addr} {xs : List V} {ds : List PyData} : H a = some (.lst xs) → DqAll H xs ds → Dq H (.ref a) (.list ds)
  | tup {a : Addr} {xs : List V} {ds : List PyData} : H a = some (.tup xs) → DqAll H xs ds → Dq H (.ref a) (.tuple ds)
  | dct {a : Addr} {ks : List (Key × V)} {es : List (PyData × PyData)} : H a = some (.dK ks) → DqKv H ks es → Dq H (.ref a) (.dict es)
inductive DqAll (H : Hp) : List V → List PyData → Prop
  | nil : DqAll H [] []
  | cons {v : V} {vs : List V} {d : PyData} {ds : List PyData} : Dq H v d → DqAll H vs ds → DqAll H (v :: vs) (d :: ds)
inductive DqKv (H : Hp) : List (Key × V) → List (PyData × PyData) → Prop
  | nil : DqKv H [] []
  | cons {k : Key} {v : V} {d : PyData} {r : List (Key × V)} {es : List (PyData × PyData)} : Dq H v d → DqKv H r es → DqKv H ((k, v) :: r) ((keyD k, d) :: es)
end
mutual
theorem Dq.same {H H' : Hp} (s : Same H H') : ∀ (d : PyData) (v : V), Dq H v d → Dq H' v d
  | .none, _, h => by cases h; exact .non
  | .bool b, _, h => by cases h; exact .bl b
  | .int i, _, h => by cases h; exact .int i
  | .str x, _, h => by cases h; exact .str x
  | .list ds, _, h => by cases h with | lst e r => exact .lst (s _ _ e) (DqAll.same s ds _ r)
  | .tuple ds, _, h => by cases h with | tup e r => exact .tup (s _ _ e) (DqAll.same s ds _ r)
  | .dict es, _, h => by cases h with | dct e r => exact .dct (s _ _ e) (DqKv.same s es _ r)
theorem DqAll.same {H H' : Hp} (s : Same H H') : ∀ (ds : List PyData) (vs : List V), DqAll H vs ds → DqAll H' vs ds
  | [], _, h => by cases h; exact .nil
  | d :: ds, _, h => by cases h with | cons e r => exact .cons (Dq.same s d _ e) (DqAll.same s ds _ r)
theorem DqKv.same {H H' : Hp} (s : Same H H') : ∀ (es : List (PyData × PyData)) (ks : List (Key × V)), DqKv H ks es → DqKv H' ks es
  | [], _, h => by cases h; exact .nil
  | (_, d) :: es, _, h => by cases h with | cons e r => exact .cons (Dq.same s d _ e) (DqKv.same s es _ r)
end
section
variable {X : Cx} {pins : List (Addr × Obj)} {σ : L2.St} {H : Hp} {s : Shared}
theorem reads_key {w : World} {P : Program} {h : Heap} {k : Key} {u : Value} (e : (mixKind P w).is k u = true) : Reads h u (keyD k) [] := by
  rw [mixKind_is] at e
  rcases keyIs_shape e with ⟨i, t, rfl, rfl⟩ | ⟨x, t, rfl, rfl⟩
  · exact .int i t
  · exact .str x t
mutual
theorem Dq.reads (I : Inv X pins σ H s) : ∀ (d : PyData) (v : V) (u : Value), Dq H v d → RelV v u → ∃ as, Reads s.heap u d as ∧ ∀ b ∈ as, ∃ o, H b = some o
  | .none, _, _, h, r => by
    cases h; cases r
    exact ⟨_, Reads.none, by simp⟩
  | .bool b, _, _, h, r => by
    cases h; cases r
    exact ⟨_, Reads.bool b, by simp⟩
  | .int i, _, _, h, r => by
    cases h; obtain ⟨t, rfl⟩ := r
    exact ⟨_, Reads.int i t, by simp⟩
  | .str x, _, _, h, r => by
    cases h; obtain ⟨t, rfl⟩ := r
    exact ⟨_, Reads.str x t, by simp⟩
  | .list ds, _, _, h, r => by
    cases h with
    | @lst a xs _ e ra =>
      cases r
      obtain ⟨_, its, n, rv, hg⟩ := (show ObjOk X.prog X.w H s.heap a (.lst xs) from I.hok a _ e)
      obtain ⟨as, hr, ha⟩ := DqAll.reads I ds _ its ra rv
      refine ⟨_, Reads.list hg rfl rfl hr, fun b hb => ?_⟩
      rcases List.mem_cons.mp hb with rfl | hb
      · exact ⟨_, e⟩
      · exact ha b hb
  | .tuple ds, _, _, h, r => by
    cases h with
    | @tup a xs _ e ra =>
      cases r
      obtain ⟨_, its, rv, o, hg, hc, n, hd⟩ := (show ObjOk X.prog X.w H s.heap a (.tup xs) from I.hok a _ e)
      obtain ⟨as, hr, ha⟩ := DqAll.reads I ds _ its ra rv
      exact ⟨_, Reads.tuple hg hc hd hr, ha⟩
  | .dict es, _, _, h, r => by
    cases h with
    | @dct a ks _ e ra =>
      cases r
      obtain ⟨_, _, vs, rk, o, des, ep, hg, hx, hd, _, hp, _⟩ := (show ObjOk X.prog X.w H s.heap a (.dK ks) from I.hok a _ e)
      obtain ⟨as, bs, h1, h2, h3⟩ := DqKv.reads I es ks vs _ ra rk hp
      refine ⟨_, Reads.dict hg hx.1 hd h1 h2, fun b hb => ?_⟩
      rcases List.mem_append.mp hb with hb | hb
      · rcases List.mem_cons.mp hb with rfl | hb
        · exact ⟨_, e⟩
        · exact h3 b (List.mem_append_left _ hb)
      · exact h3 b (List.mem_append_right _ hb)
theorem DqAll.reads (I : Inv X pins σ H s) : ∀ (ds : List PyData) (vs : List V) (us : List Value), DqAll H vs ds → Vals vs us → ∃ as, ReadsAll s.heap us ds as ∧ ∀ b ∈ as, ∃ o, H b = some o
  | [], _, _, h, r => by
    cases h; cases r
    exact ⟨_, ReadsAll.nil, by simp⟩
  | d :: ds, _, _, h, r => by
    cases h with
    | cons h1 h2 =>
      cases r with
      | cons r1 r2 =>
        obtain ⟨as, q1, m1⟩ := Dq.reads I d _ _ h1 r1
        obtain ⟨bs, q2, m2⟩ := DqAll.reads I ds _ _ h2 r2
        exact ⟨_, ReadsAll.cons q1 q2, fun b hb => (List.mem_append.mp hb).elim (m1 b) (m2 b)⟩
theorem DqKv.reads (I : Inv X pins σ H s) : ∀ (es : List (PyData × PyData)) (ks : List (Key × V)) (vs : List (Key × Value)) (des : List DictEntry), DqKv H ks es → KV ks vs → Pairs (mixKind X.prog X.w) des vs →
    ∃ as bs, ReadsAll s.heap (des.map (·.key)) (es.map (·.1)) as ∧ ReadsAll s.heap (des.map (·.val)) (es.map (·.2)) bs ∧ ∀ b ∈ as ++ bs, ∃ o, H b = some o
  | [], _, _, _, h, r, p => by
    cases h; cases r; cases p
    exact ⟨_, _, ReadsAll.nil, ReadsAll.nil, by simp⟩
  | (_, d) :: es, _, _, _, h, r, p => by
    cases h with
    | cons h1 h2 =>
      cases r with
      | cons r1 r2 =>
        cases p with
        | cons p1 p2 p3 =>
          obtain ⟨as, bs, q1, q2, m⟩ := DqKv.reads I es _ _ _ h2 r2 p3
          obtain ⟨cs, q3, m3⟩ := Dq.reads I d _ _ h1 r1.2
          rw [← r1.1] at p1
          refine ⟨_, _, ReadsAll.cons (reads_key p1) q1, ReadsAll.cons (by dsimp only; rw [p2]; exact q3) q2, fun b hb => ?_⟩
          rcases List.mem_append.mp hb with hb | hb
          · exact m b (List.mem_append_left _ hb)
          · rcases List.mem_append.mp hb with hb | hb
            · exact m3 b hb
            · exact m b (List.mem_append_right _ hb)
end
end
/-- the base has sys.modules -/
def Mods (base : Heap) : Prop := ∃ o, base.get? sysModules = some o
/-- a datum that a repr may be asked of -/
def Small (d : PyData) : Prop := d.showable = true ∧ d.depth ≤ 20 ∧ d.shown.length ≤ 100000
def rRepr : List V → Hp → VK → Prop := fun xs H Q => ∃ v d, xs = [v] ∧ Dq H v d ∧ Small d ∧ Q (.str d.shown) H
section
variable {X : Cx}
theorem call_reprD (gd : X.A.guards = some []) (hu : X.A.units + 64 < cLine) (hm : Mods X.base) : CallR X (.builtin "repr") rRepr := by
  intro pins s σ H xs us Q I r h
  obtain ⟨v, d, rfl, hd, ⟨h1, h2, h3⟩, q⟩ := h
  obtain ⟨u, rfl, ru⟩ := vals1 r
  have hz : d.shown.length ≤ sizeLine := Nat.le_trans h3 (by decide)
  obtain ⟨as, hr, ha⟩ := Dq.reads I d v u hd ru
  have hno : sysModules ∉ as := fun z => by
    obtain ⟨o, e⟩ := ha _ z
    obtain ⟨b, eb⟩ := hm
    have n := (I.bs _ _ eb).2
    rw [n] at e
    cases e
  have fin : ∀ (h' : Heap) (tu : Tok) (tk : Nat), (∀ b o, s.heap.get? b = some o → h'.get? b = some o) → EP X pins σ Q (.str d.shown tu) { s with heap := h', toks := tk } :=
    fun h' tu tk k => ⟨.str d.shown, H, I.kept (t' := tk) k, ⟨_, rfl⟩, q⟩
  cases hd with
  | non => cases ru; exact P.repr_of_none (fin _ _ _ fun _ _ z => z)
  | bl b => cases ru; exact P.repr_of_bool (fin _ _ _ fun _ _ z => z)
  | int i =>
    obtain ⟨t, rfl⟩ := ru
    exact P.repr_of_int (of_decide_eq_true h1) (fin _ _ _ fun _ _ z => z)
  | str x =>
    obtain ⟨t, rfl⟩ := ru
    exact P.repr_of_str (fin _ _ _ fun _ _ z => z) hz
  | lst _ _ => cases ru; exact repr_of_reads' hr h1 (fun _ => hno) gd (by omega) (fun _ _ z => z) fin hz
  | tup _ _ => cases ru; exact repr_of_reads' hr h1 (fun _ => hno) gd (by omega) (fun _ _ z => z) fin hz
  | dct _ _ => cases ru; exact repr_of_reads' hr h1 (fun _ => hno) gd (by omega) (fun _ _ z => z) fin hz
end
end Hx

namespace Hx
open PySem PySem.Spec PyProof.Rows L2
/-- a number of the module -/
theorem pe_gint {X : Cx} {x : Str} {i : Int} {t : Tok} {pos : Pos} (hg : Gl X x) (hm : X.mg x = some (.int i t))
    (hd : (x == ("__debug__" : Str)) = false := by decide) : PE X (.Name x pos) (tC (.int i)) := pe_glob hg hm ⟨_, rfl⟩ hd
/-- a class or def of the module; a built-in class, as a value -/
theorem pe_gref {X : Cx} {x : Str} {a : Addr} {pos : Pos} (hg : Gl X x) (hm : X.mg x = some (.ref a))
    (hd : (x == ("__debug__" : Str)) = false := by decide) : PE X (.Name x pos) (tC (.ref a)) := pe_glob hg hm (show RelV (.ref a) (.ref a) from rfl) hd
theorem pe_bty {X : Cx} {x : Str} {T : String} {pos : Pos} (hg : Gl X x) (hm : X.mg x = none) (hv : bootBuiltins x = some (.type T))
    (hn : x ≠ "__name__" := by decide) (hd : (x == ("__debug__" : Str)) = false := by decide) : PE X (.Name x pos) (tC (.ty T)) :=
  pe_bltn hg hm hv (show RelV (.ty T) (.type T) from rfl) hn hd
/-- a comprehension without an if: the turn is taken -/
theorem turn_yes {σ : L2.St} {H : Hp} {R S : Hp → Prop} (h : R H) : tYes σ H fun b H3 => if b = true then R H3 else S H3 := by
  show (if true = true then R H else S H)
  rw [if_pos rfl]
  exact h
/-- the script as an object that is only read -/
def scriptO (vs : List Value) (ns : List Int) : HO := .frz { cls := .type "list", data := .seq vs.toArray } (.lst (ns.map V.int))
section
variable {P : Program} {w : World} {K : PySem.W.Frag} {mg mb : Str → Option Value} {k : Nat} {fa a : Addr} {fd : FuncData} {x : Str} {sp : Sp}
  {s1 : Shared} {vs : List Value} {ns : List Int}
theorem enter_with (H : Hp) (KX : K.In s1.heap) (hglob : s1.heap.Ns mainGlobals mg) (hblt : s1.heap.Ns builtinsNs mb)
    (hboot : ∀ x : Str, x ≠ "__name__" → mb x = bootBuiltins x) (hlim : s1.heap.NoLimit) (hmods : ∃ mm, s1.heap.Ns sysModules mm) (hgen : s1.gens = #[])
    (ha : s1.heap.get? a = some { cls := .type "list", data := .seq vs.toArray }) (room : Room k callerA)
    (F : ∀ base : Heap, K.In base → base.Ns mainGlobals mg → Mods base → GOk P w K mg base CX0 k fa fd [x] sp)
    (hbind : ∀ (s : Shared) (u : Value), BindsTo s fd ⟨[u], []⟩ [(x, u)])
    (hH : ∀ b u, H b = some u → b = a ∧ u = scriptO vs ns) (hK : ∀ u, H a = some u → K.lookup a = none) (hok : HOk P w H s1.heap)
    (hsp : sp [.ref a] H (fun v _ => v = .bl true) E0) :
    codeAny (model P w) callerA (.call (.ref fa) ⟨[.ref a], []⟩) (fun r s' => r = .ok (.ret (.bool true)) ∧ OldK s1.heap s'.heap ∧ s'.os = s1.os ∧ AllBare s'.gens) s1 := by
  have untracked : ∀ {b : Addr} {o : Obj} {es : Array DictEntry} {ep : Nat}, s1.heap.get? b = some o → o.data = .dict es ep → H b = none := by
    intro b o es ep e d
    cases hb : H b with
    | none => rfl
    | some u =>
      obtain ⟨rfl, _⟩ := hH b u hb
      rw [ha] at e
      cases e
      cases (show Data.seq vs.toArray _ = Data.dict es ep from d)
  have nsBase : ∀ {b : Addr} {m : Str → Option Value}, s1.heap.Ns b m → (hidT s1.heap H).Ns b m := fun {b m} ⟨o, es, ep, e, d, r⟩ =>
    ⟨o, es, ep, hidT_get e (untracked e d), d, r⟩
  have inBase : K.In (hidT s1.heap H) := by
    intro b o e
    refine hidT_get (KX b o e) ?_
    cases hb : H b with
    | none => rfl
    | some u =>
      obtain ⟨rfl, _⟩ := hH b u hb
      rw [hK u hb] at e
      cases e
  have modOk : Mod K mg (hidT s1.heap H) := by
    refine ⟨inBase, nsBase hglob, ⟨mb, nsBase hblt, hboot⟩, ?_⟩
    obtain ⟨mc, l1, l2⟩ := hlim
    exact ⟨mc, nsBase l1, l2⟩
  have modsOk : Mods (hidT s1.heap H) := by
    obtain ⟨mm, hm⟩ := hmods
    obtain ⟨o, es, ep, e, _⟩ := nsBase hm
    exact ⟨o, e⟩
  have start0 : Env0 P w K mg (hidT s1.heap H) callerA [] s1 H :=
    { frames := rfl, mod := modOk, bs := fun b o e => of_hidT e, bsz := Nat.le_of_eq (hidT_size _ _), funs := trivial,
      frf := fun b hb => absurd (show b ∈ ([] : List Addr) from hb) (by simp), hok := hok, bare := .of_eq hgen }
  have run := (F _ inBase (nsBase hglob) modsOk).goes callerA [] s1 H ⟨[.ref a], []⟩ [.ref a] [.ref a] _ _ room rfl start0 (hbind s1 (.ref a)) (.cons rfl .nil) hsp
  refine codeAny_mono run ?_
  intro r s' hr
  cases r with
  | error e => exact (show False from hr).elim
  | ok fl =>
    cases fl with
    | next => exact hr.elim
    | brk => exact hr.elim
    | cont => exact hr.elim
    | ret u =>
      obtain ⟨v, H', osEq, bare, un, hok', rel, rfl⟩ := hr
      cases (show u = Value.bool true from rel)
      refine ⟨rfl, OldK.of_keep ?_, osEq, bare⟩
      intro b o e
      cases hb : H b with
      | none => exact un.keep b o e hb (fun z => absurd (show b ∈ ([] : List Addr) from z) (by simp)) (by simp)
      | some u =>
        obtain ⟨rfl, rfl⟩ := hH b u hb
        have stay := un.frzs b _ _ hb
        obtain ⟨e1, _⟩ := hok b _ hb
        obtain ⟨e2, _⟩ := hok' b _ stay
        rw [e] at e1
        rw [e2, ← Option.some.inj e1]

theorem law_enter (KX : K.In s1.heap) (hglob : s1.heap.Ns mainGlobals mg) (hblt : s1.heap.Ns builtinsNs mb)
    (hboot : ∀ x : Str, x ≠ "__name__" → mb x = bootBuiltins x) (hlim : s1.heap.NoLimit) (hmods : ∃ mm, s1.heap.Ns sysModules mm) (hgen : s1.gens = #[])
    (ha : s1.heap.get? a = some { cls := .type "list", data := .seq vs.toArray }) (hi : IntsAre vs ns) (hl : ns.length ≤ sizeLine) (room : Room k callerA)
    (F : ∀ base : Heap, K.In base → base.Ns mainGlobals mg → Mods base → GOk P w K mg base CX0 k fa fd [x] sp)
    (hbind : ∀ (s : Shared) (u : Value), BindsTo s fd ⟨[u], []⟩ [(x, u)])
    (hsp : ∀ H : Hp, SqL K H a (ns.map V.int) → sp [.ref a] H (fun v _ => v = .bl true) E0) :
    codeAny (model P w) callerA (.call (.ref fa) ⟨[.ref a], []⟩) (fun r s' => r = .ok (.ret (.bool true)) ∧ OldK s1.heap s'.heap ∧ s'.os = s1.os ∧ AllBare s'.gens) s1 := by
  have rel := vals_ints hi
  cases hk : K.lookup a with
  | some o =>
    have e := KX a o hk
    rw [ha] at e
    cases e
    refine enter_with (ns := ns) (fun _ => none) KX hglob hblt hboot hlim hmods hgen ha room F hbind (fun _ _ z => by cases z) (fun _ z => by cases z) (fun _ _ z => by cases z) ?_
    refine hsp _ (.inr ⟨_, vs.toArray, _, hk, rfl, rfl, rfl, ?_, by simpa using rel⟩)
    rw [List.size_toArray, hi.length]
    exact hl
  | none =>
    have at_a : (fun b => if b = a then some (scriptO vs ns) else none : Hp) a = some (scriptO vs ns) := if_pos rfl
    refine enter_with (ns := ns) (fun b => if b = a then some (scriptO vs ns) else none) KX hglob hblt hboot hlim hmods hgen ha room F hbind ?_ (fun _ _ => hk) ?_ (hsp _ (.inl (.inr ⟨_, at_a⟩)))
    · intro b u z
      by_cases hb : b = a
      · exact ⟨hb, (Option.some.inj ((if_pos hb).symm.trans z)).symm⟩
      · cases (if_neg hb).symm.trans z
    · intro b u z
      by_cases hb : b = a
      · have e := Option.some.inj ((if_pos hb).symm.trans z)
        subst hb
        subst e
        exact ⟨ha, by rw [List.length_map]; exact hl, vs, _, rel, ha⟩
      · cases (if_neg hb).symm.trans z
end
/-- the goal that k_head leaves, for a law whose defs ask that no guard stands below -/
theorem walk_G {l : PySem.W.OpenLaw} {n k : Nat} {q : Program} {loose : List Str} {XP : (Str → Option Value) → Heap → Prop} {YP : World → Heap → Prop} {d : DefRec}
    {K : Params → PySem.W.Frag} {sp : PySem.W.Frag → Sp} {x : Str} (hn : l.most = some n) (hn2 : n ≤ sizeLine) (hdf : d.params.defaults = []) (room : Room k callerA)
    (himp : importsNone q = true) (hY : ∀ (w : World) (h : Heap), YP w h → (K w.params).In h)
    (F : ∀ (w : World) (mg : Str → Option Value) (fa : Addr) (h : Heap), (K w.params).In h → h.Ns mainGlobals mg → mg d.name = some (.ref fa) →
      ∃ fd : FuncData, (∀ (s : Shared) (u : Value), BindsTo s fd ⟨[u], []⟩ [(x, u)]) ∧
        ∀ base : Heap, (K w.params).In base → base.Ns mainGlobals mg → Mods base → GOk l.prog w (K w.params) mg base CX0 k fa fd [x] (sp (K w.params)))
    (hsp : ∀ (K : PySem.W.Frag) (H : Hp) (a : Addr) (ns : List Int), ns.length ≤ n → SqL K H a (ns.map V.int) → sp K [.ref a] H (fun v _ => v = .bl true) E0) :
    PySem.W.WalkO q loose XP YP l.row.toRowW d [] (fun f vs => PySem.call f vs) := by
  refine Att.attach_call hn hdf ?_
  intro w s0 s1 mg mb fa o pm cd doc a vs ns G Y ho hd hcd hmg hobj hints hlen hgen
  have KX := hY w _ Y
  obtain ⟨fd, hb, hF⟩ := F w mg fa _ KX G.T.g hmg
  obtain ⟨mm, hmm, _⟩ := (G.T.seer himp).mods
  exact law_enter KX G.T.g G.T.b G.T.builtins G.T.nolimit ⟨mm, hmm⟩ hgen hobj hints (Nat.le_trans hlen hn2) room hF hb fun H hS => hsp _ H a ns hlen hS
end Hx

namespace Wp
open PySem PySem.Spec PyProof.Rows L2
def top (i : Nat) : Stmt := PySem.Challenge.pw_wovenplaces_k07_names_signs_and_words.main.body.getD i (.Pass ⟨0, 0, 0, 0⟩)
abbrev s_wall : Stmt := top 0
abbrev c_WrongValue : Stmt := top 2
abbrev c_InvalidNumber : Stmt := top 3
abbrev s_InvalidNumber_init : Stmt := inClass (top 3) 0
abbrev c_InvalidName : Stmt := top 4
abbrev s_InvalidName_init : Stmt := inClass (top 4) 0
abbrev c_InvalidSign : Stmt := top 5
abbrev s_InvalidSign_init : Stmt := inClass (top 5) 0
abbrev c_InvalidWord : Stmt := top 6
abbrev s_InvalidWord_init : Stmt := inClass (top 6) 0
abbrev c_InvalidText : Stmt := top 7
abbrev s_InvalidText_init : Stmt := inClass (top 7) 0
abbrev c_InvalidExpression : Stmt := top 8
abbrev s_InvalidExpression_init : Stmt := inClass (top 8) 0
abbrev c_InvalidHanded : Stmt := top 9
abbrev s_InvalidHanded_init : Stmt := inClass (top 9) 0
abbrev c_InvalidRows : Stmt := top 10
abbrev s_InvalidRows_init : Stmt := inClass (top 10) 0
abbrev c_WrongState : Stmt := top 11
abbrev c_UnknownName : Stmt := top 12
abbrev s_UnknownName_init : Stmt := inClass (top 12) 0
abbrev c_NoAnswer : Stmt := top 13
abbrev c_OpenRing : Stmt := top 14
abbrev s_OpenRing_init : Stmt := inClass (top 14) 0
abbrev c_PartRing : Stmt := top 15
abbrev s_PartRing_init : Stmt := inClass (top 15) 0
abbrev c_TooManyParts : Stmt := top 16
abbrev s_TooManyParts_init : Stmt := inClass (top 16) 0
abbrev s_is_integer : Stmt := top 29
abbrev s_is_within : Stmt := top 30
abbrev s_is_lettered : Stmt := top 31
abbrev s_is_name : Stmt := top 32
abbrev s_check_within : Stmt := top 33
abbrev s_check_sign : Stmt := top 34
abbrev s_check_name : Stmt := top 35
abbrev s_check_word : Stmt := top 36
abbrev s_knots_above : Stmt := top 38
abbrev s_exchange : Stmt := top 39
abbrev s_spelled : Stmt := top 41
abbrev c_Facts : Stmt := top 42
abbrev s_Facts_init : Stmt := inClass (top 42) 0
abbrev s_piece_at : Stmt := top 47
abbrev s_pieces_of : Stmt := top 48
abbrev s_ahead_of : Stmt := top 49
abbrev s_knot_of : Stmt := top 50
abbrev s_closed : Stmt := top 51
abbrev s_read_text : Stmt := top 52
abbrev c_Expression : Stmt := top 54
abbrev s_Expression_kind : Stmt := inClass (top 54) 0
abbrev s_Expression_inner : Stmt := inClass (top 54) 1
abbrev s_Expression_told : Stmt := inClass (top 54) 2
abbrev s_Expression_names : Stmt := inClass (top 54) 3
abbrev s_Expression_knots : Stmt := inClass (top 54) 4
abbrev s_Expression_str : Stmt := inClass (top 54) 5
abbrev s_Expression_repr : Stmt := inClass (top 54) 6
abbrev s_Expression_eq : Stmt := inClass (top 54) 7
abbrev s_Expression_add : Stmt := inClass (top 54) 8
abbrev s_Expression_rshift : Stmt := inClass (top 54) 9
abbrev s_Expression_exchanged : Stmt := inClass (top 54) 10
abbrev c_Sign : Stmt := top 55
abbrev s_Sign_init : Stmt := inClass (top 55) 0
abbrev s_Sign_kind : Stmt := inClass (top 55) 1
abbrev s_Sign_inner : Stmt := inClass (top 55) 2
abbrev s_Sign_told : Stmt := inClass (top 55) 3
abbrev s_Sign_names : Stmt := inClass (top 55) 4
abbrev s_Sign_knots : Stmt := inClass (top 55) 5
abbrev s_Sign_str : Stmt := inClass (top 55) 6
abbrev s_Sign_repr : Stmt := inClass (top 55) 7
abbrev s_Sign_eq : Stmt := inClass (top 55) 8
abbrev s_Sign_add : Stmt := inClass (top 55) 9
abbrev s_Sign_rshift : Stmt := inClass (top 55) 10
abbrev s_Sign_exchanged : Stmt := inClass (top 55) 11
abbrev c_Name : Stmt := top 56
abbrev s_Name_init : Stmt := inClass (top 56) 0
abbrev s_Name_kind : Stmt := inClass (top 56) 1
abbrev s_Name_inner : Stmt := inClass (top 56) 2
abbrev s_Name_told : Stmt := inClass (top 56) 3
abbrev s_Name_names : Stmt := inClass (top 56) 4
abbrev s_Name_knots : Stmt := inClass (top 56) 5
abbrev s_Name_str : Stmt := inClass (top 56) 6
abbrev s_Name_repr : Stmt := inClass (top 56) 7
abbrev s_Name_eq : Stmt := inClass (top 56) 8
abbrev s_Name_add : Stmt := inClass (top 56) 9
abbrev s_Name_rshift : Stmt := inClass (top 56) 10
abbrev s_Name_exchanged : Stmt := inClass (top 56) 11
abbrev c_Weave : Stmt := top 57
abbrev s_Weave_init : Stmt := inClass (top 57) 0
abbrev s_Weave_kind : Stmt := inClass (top 57) 1
abbrev s_Weave_inner : Stmt := inClass (top 57) 2
abbrev s_Weave_told : Stmt := inClass (top 57) 3
abbrev s_Weave_names : Stmt := inClass (top 57) 4
abbrev s_Weave_knots : Stmt := inClass (top 57) 5
abbrev s_Weave_str : Stmt := inClass (top 57) 6
abbrev s_Weave_repr : Stmt := inClass (top 57) 7
abbrev s_Weave_eq : Stmt := inClass (top 57) 8
abbrev s_Weave_add : Stmt := inClass (top 57) 9
abbrev s_Weave_rshift : Stmt := inClass (top 57) 10
abbrev s_Weave_exchanged : Stmt := inClass (top 57) 11
abbrev c_Part : Stmt := top 58
abbrev s_Part_init : Stmt := inClass (top 58) 0
abbrev s_Part_kind : Stmt := inClass (top 58) 1
abbrev s_Part_inner : Stmt := inClass (top 58) 2
abbrev s_Part_told : Stmt := inClass (top 58) 3
abbrev s_Part_names : Stmt := inClass (top 58) 4
abbrev s_Part_knots : Stmt := inClass (top 58) 5
abbrev s_Part_str : Stmt := inClass (top 58) 6
abbrev s_Part_repr : Stmt := inClass (top 58) 7
abbrev s_Part_eq : Stmt := inClass (top 58) 8
abbrev s_Part_add : Stmt := inClass (top 58) 9
abbrev s_Part_rshift : Stmt := inClass (top 58) 10
abbrev s_Part_exchanged : Stmt := inClass (top 58) 11
abbrev c_Drop : Stmt := top 59
abbrev s_Drop_init : Stmt := inClass (top 59) 0
abbrev s_Drop_kind : Stmt := inClass (top 59) 1
abbrev s_Drop_inner : Stmt := inClass (top 59) 2
abbrev s_Drop_told : Stmt := inClass (top 59) 3
abbrev s_Drop_names : Stmt := inClass (top 59) 4
abbrev s_Drop_knots : Stmt := inClass (top 59) 5
abbrev s_Drop_str : Stmt := inClass (top 59) 6
abbrev s_Drop_repr : Stmt := inClass (top 59) 7
abbrev s_Drop_eq : Stmt := inClass (top 59) 8
abbrev s_Drop_add : Stmt := inClass (top 59) 9
abbrev s_Drop_rshift : Stmt := inClass (top 59) 10
abbrev s_Drop_exchanged : Stmt := inClass (top 59) 11
abbrev c_Lead : Stmt := top 60
abbrev s_Lead_init : Stmt := inClass (top 60) 0
abbrev s_Lead_kind : Stmt := inClass (top 60) 1
abbrev s_Lead_inner : Stmt := inClass (top 60) 2
abbrev s_Lead_told : Stmt := inClass (top 60) 3
abbrev s_Lead_names : Stmt := inClass (top 60) 4
abbrev s_Lead_knots : Stmt := inClass (top 60) 5
abbrev s_Lead_str : Stmt := inClass (top 60) 6
abbrev s_Lead_repr : Stmt := inClass (top 60) 7
abbrev s_Lead_eq : Stmt := inClass (top 60) 8
abbrev s_Lead_add : Stmt := inClass (top 60) 9
abbrev s_Lead_rshift : Stmt := inClass (top 60) 10
abbrev s_Lead_exchanged : Stmt := inClass (top 60) 11
abbrev c_Turn : Stmt := top 61
abbrev s_Turn_init : Stmt := inClass (top 61) 0
abbrev s_Turn_kind : Stmt := inClass (top 61) 1
abbrev s_Turn_inner : Stmt := inClass (top 61) 2
abbrev s_Turn_told : Stmt := inClass (top 61) 3
abbrev s_Turn_names : Stmt := inClass (top 61) 4
abbrev s_Turn_knots : Stmt := inClass (top 61) 5
abbrev s_Turn_str : Stmt := inClass (top 61) 6
abbrev s_Turn_repr : Stmt := inClass (top 61) 7
abbrev s_Turn_eq : Stmt := inClass (top 61) 8
abbrev s_Turn_add : Stmt := inClass (top 61) 9
abbrev s_Turn_rshift : Stmt := inClass (top 61) 10
abbrev s_Turn_exchanged : Stmt := inClass (top 61) 11
abbrev s_check_expressions : Stmt := top 62
abbrev s_make : Stmt := top 63
abbrev s_exchanged_in : Stmt := top 64
abbrev s_read_expression : Stmt := top 65
abbrev s_knots_of : Stmt := top 67
abbrev s_first_unknown : Stmt := top 68
abbrev s_fits_word : Stmt := top 69
abbrev s_knot_fits : Stmt := top 70
abbrev s_fits : Stmt := top 71
abbrev c_Use : Stmt := top 73
abbrev s_Use_init : Stmt := inClass (top 73) 0
abbrev s_paths_of : Stmt := top 74
abbrev s_uses_of : Stmt := top 75
abbrev s_uses_by_row : Stmt := top 76
abbrev s_reached_from : Stmt := top 77
abbrev s_first_open_ring : Stmt := top 78
abbrev s_is_in_part_ring : Stmt := top 79
abbrev s_first_part_ring : Stmt := top 80
abbrev s_parts_inside : Stmt := top 81
abbrev s_most_parts : Stmt := top 82
abbrev c_Book : Stmt := top 85
abbrev s_Book_init : Stmt := inClass (top 85) 0
abbrev s_Book_read : Stmt := inClass (top 85) 1
abbrev s_Book_base : Stmt := inClass (top 85) 2
abbrev s_Book_signs : Stmt := inClass (top 85) 3
abbrev s_Book_handed : Stmt := inClass (top 85) 4
abbrev s_Book_rows : Stmt := inClass (top 85) 5
abbrev s_Book_names : Stmt := inClass (top 85) 6
abbrev s_Book_row : Stmt := inClass (top 85) 7
abbrev s_Book_with_row : Stmt := inClass (top 85) 8
abbrev s_Book_str : Stmt := inClass (top 85) 9
abbrev s_Book_repr : Stmt := inClass (top 85) 10
abbrev s_Book_eq : Stmt := inClass (top 85) 11
abbrev s_Book_len : Stmt := inClass (top 85) 12
abbrev s_check_signs : Stmt := top 86
abbrev s_check_handed_names : Stmt := top 87
abbrev s_is_pair : Stmt := top 88
abbrev s_check_pairs : Stmt := top 89
abbrev s_check_rules : Stmt := top 90
abbrev s_spelled_book : Stmt := top 91
abbrev s_row_of_line : Stmt := top 92
abbrev s_pieces_of_book : Stmt := top 93
abbrev s_law_deck : Stmt := top 95
abbrev s_law_card : Stmt := top 96
abbrev s_law_of : Stmt := top 97
abbrev s_law_caught : Stmt := top 98
abbrev s_law_near_name : Stmt := top 99
abbrev s_law_right : Stmt := top 100
abbrev s_law : Stmt := top 101
end Wp

namespace Wp
open PySem PySem.Spec PyProof.Rows L2 Hx
/-! the head of the program by one run: facts by names -/
/-- a def of the text and where it stands -/
structure DA where
  adr : PySem.W.Frag → Addr
  name : Str
  qual : Str
  st : Stmt
abbrev FnV : Type := He.FnV
def faA (K : PySem.W.Frag) (a : Addr) : FnV := match K.lookup a with
  | some ⟨_, _, .func u, _⟩ => some (u.name, u.qualname, u.params, u.body, u.scope, u.globals, u.closure, u.defaults, u.builtins)
  | _ => none
def DA.val (d : DA) : FnV := some (d.name, d.qual, defArgs d.st, .stmts (defBody d.st), defScope d.st, mainGlobals, [], .none, builtinsNs)
def DA.ok (K : PySem.W.Frag) (d : DA) : Bool := PySem.W.keepIn K (.ref (d.adr K)) && (match K.lookup (d.adr K) with
  | some ⟨_, _, .func u, _⟩ => PySem.W.codeIn K u.code d.qual
  | _ => false)
theorem DA.fun {K : PySem.W.Frag} {d : DA} (e : faA K (d.adr K) = d.val) (c : d.ok K = true) : ∃ fd, Fun K d.name d.qual d.st (d.adr K) fd := by
  obtain ⟨kp, c2⟩ := Bool.and_eq_true_iff.mp c
  unfold faA at e
  cases q : K.lookup (d.adr K) with
  | none =>
    rw [q] at c2
    cases c2
  | some o =>
    obtain ⟨oc, od, dt, osl⟩ := o
    rw [q] at c2 e
    cases dt with
    | func fd =>
      obtain ⟨v1, v2, v3, v4, v5, v6, v7, v8, v9, v10, v11, v12, v13, v14, v15⟩ := fd
      have e2 : (some (v1, v2, v3, v4, v5, v6, v7, v8, v15) : FnV) = some (d.name, d.qual, defArgs d.st, .stmts (defBody d.st), defScope d.st, mainGlobals, [], .none, builtinsNs) := e
      simp only [Option.some.injEq, Prod.mk.injEq] at e2
      obtain ⟨w1, w2, w3, w4, w5, w6, w7, w8, w9⟩ := e2
      subst w1 w2 w3 w4 w5 w6 w7 w8 w9
      exact ⟨_, ⟨oc, od, v9, v10, v11, v12, v13, v14, osl, rfl, q, c2⟩, kp⟩
    | _ => cases c2
abbrev AlZ : Type := Bool × List FnV
def obsZ (ex : PySem.W.Frag → Bool) (ds : List DA) (K : PySem.W.Frag) : AlZ := (ex K && ds.all fun d => d.ok K, ds.map fun d => faA K (d.adr K))
def valZ (ds : List DA) : AlZ := (true, ds.map DA.val)
def SaysZ (ex : PySem.W.Frag → Bool) (ds : List DA) (K : PySem.W.Frag) : Prop := obsZ ex ds K = valZ ds
/-! the addresses that are looked at: the module's names, the classes' own names, getters, code -/
def codesG (g : Addr → Option Obj) (a : Addr) : List Addr := match g a with
  | some ⟨_, _, .func fd, _⟩ => He.refV fd.code
  | _ => []
def nssG (g : Addr → Option Obj) (a : Addr) : List Addr := match g a with
  | some ⟨_, _, .cls cd, _⟩ => [cd.ns]
  | _ => []
def valsG (g : Addr → Option Obj) (a : Addr) : List Addr := match g a with
  | some ⟨_, _, .dict es _, _⟩ => es.toList.flatMap fun e => He.refV e.val
  | _ => []
def fldsG (g : Addr → Option Obj) (a : Addr) : List Addr := match g a with
  | some ⟨_, _, .fields vs, _⟩ => vs.toList.flatMap He.refV
  | _ => []
def asZ3 (g : Addr → Option Obj) (A N M G : List Addr) : List Addr := mainGlobals :: (N ++ (A ++ (M ++ (G ++ (A.flatMap (codesG g) ++ (M.flatMap (codesG g) ++ G.flatMap (codesG g)))))))
def asZ2 (g : Addr → Option Obj) (A N M : List Addr) : List Addr := asZ3 g A N M (M.flatMap (fldsG g))
def asZ1 (g : Addr → Option Obj) (A N : List Addr) : List Addr := asZ2 g A N (N.flatMap (valsG g))
def asZ0 (g : Addr → Option Obj) (A : List Addr) : List Addr := asZ1 g A (A.flatMap (nssG g))
def asZ (g : Addr → Option Obj) : List Addr := asZ0 g (valsG g mainGlobals)
/-! the law's main def: its code object and the table of what it makes -/
def codeR (K : PySem.W.Frag) (a : Addr) : Addr := match K.lookup a with
  | some ⟨_, _, .func fd, _⟩ => (match fd.code with
    | .ref c => c
    | _ => 0)
  | _ => 0
theorem codeR_eq {K : PySem.W.Frag} {a : Addr} {oc : Value} {od : Option Addr} {osl : Array (Option Value)} {fd : FuncData} {c : Addr} (lk : K.lookup a = some ⟨oc, od, .func fd, osl⟩) (e : fd.code = .ref c) : codeR K a = c := by
  unfold codeR
  rw [lk]
  show (match fd.code with | .ref c => c | _ => 0) = c
  rw [e]
def cAt (x : Str) (K : PySem.W.Frag) : Addr := codeR K (He.ga K x)
def tAt (x : Str) (K : PySem.W.Frag) : Addr := He.tabOf K (cAt x K)
def tabZ (x : Str) (K : PySem.W.Frag) (g : Addr → Option Obj) : Bool := PySem.W.codeHdIn K (cAt x K) (tAt x K) && ((match g (tAt x K) with
  | some o => He.emptyTab o
  | none => false) && (K.lookup (tAt x K)).isNone)
structure TabF (x : Str) (K : PySem.W.Frag) (h : Heap) : Prop where
  code : PySem.W.codeHdIn K (cAt x K) (tAt x K) = true
  tab : h.get? (tAt x K) = some { cls := .none, data := .fields #[] }
  out : K.lookup (tAt x K) = none
theorem tabZ_ok {x : Str} {K : PySem.W.Frag} {h : Heap} (e : tabZ x K h.get? = true) : TabF x K h := by
  obtain ⟨e1, e2⟩ := Bool.and_eq_true_iff.mp e
  obtain ⟨e2, e3⟩ := Bool.and_eq_true_iff.mp e2
  refine ⟨e1, ?_, Option.isNone_iff_eq_none.mp e3⟩
  cases q : h.get? (tAt x K) with
  | none =>
    rw [q] at e2
    cases e2
  | some o =>
    rw [q] at e2
    rw [He.emptyTab_eq e2]
def obsTG (xs : List Str) (ex : PySem.W.Frag → Bool) (ds : List DA) (g : Addr → Option Obj) : AlZ × Bool := (obsZ ex ds (He.frG g (asZ g)), xs.all fun x => tabZ x (He.frG g (asZ g)) g)
def hookT (xs : List Str) (ex : PySem.W.Frag → Bool) (ds : List DA) : PySem.W.Hook where
  α := AlZ × Bool
  obs := fun s => obsTG xs ex ds s.heap.get?
  val := fun _ => (valZ ds, true)
  says := fun _ h => ∃ K : PySem.W.Frag, K.In h ∧ SaysZ ex ds K ∧ ∀ x ∈ xs, TabF x K h
  of := fun _ _ e => ⟨_, He.frG_in, congrArg Prod.fst e, fun x hx => tabZ_ok (List.all_eq_true.mp (congrArg Prod.snd e) x hx)⟩
  keeps := fun _ _ _ ⟨K, isIn, says, t⟩ more => ⟨K, PySem.W.Frag.In.keeps isIn more, says, fun x hx => ⟨(t x hx).code, more _ _ (t x hx).tab, (t x hx).out⟩⟩
theorem obsTG_eq {xs : List Str} {ex : PySem.W.Frag → Bool} {ds : List DA} {g : Addr → Option Obj} {s : Shared} (h : ∀ a, g a = s.heap.get? a) : obsTG xs ex ds g = (hookT xs ex ds).obs s := by
  have e : g = s.heap.get? := funext h
  rw [e] <;> rfl
theorem SaysZ.ex {ex : PySem.W.Frag → Bool} {ds : List DA} {K : PySem.W.Frag} (c : SaysZ ex ds K) : ex K = true := by
  have c1 : (ex K && ds.all fun d => d.ok K) = true := congrArg (fun z : AlZ => z.1) c
  exact (Bool.and_eq_true_iff.mp c1).1
theorem SaysZ.def_ {ex : PySem.W.Frag → Bool} {ds : List DA} {K : PySem.W.Frag} (c : SaysZ ex ds K) (i : Nat) {d : DA} (h : ds[i]? = some d := by rfl) : ∃ fd, Fun K d.name d.qual d.st (d.adr K) fd := by
  have c1 : (ex K && ds.all fun d => d.ok K) = true := congrArg (fun z : AlZ => z.1) c
  have c2 := (Bool.and_eq_true_iff.mp c1).2
  have e : ds.map (fun d => faA K (d.adr K)) = ds.map DA.val := congrArg (fun z : AlZ => z.2) c
  have e2 : (ds.map fun d => faA K (d.adr K))[i]? = (ds.map DA.val)[i]? := by rw [e]
  rw [List.getElem?_map, List.getElem?_map, h] at e2
  exact DA.fun (Option.some.inj e2) (List.all_eq_true.mp c2 d (List.mem_of_getElem? h))
/-! where things stand -/
def gA (x : Str) (K : PySem.W.Frag) : Addr := He.ga K x
def mA (x m : Str) (K : PySem.W.Frag) : Addr := He.ma K (He.ga K x) m
/-- the getter of a property -/
def pG (x m : Str) (K : PySem.W.Frag) : Addr := match PySem.W.recIn K (He.ma K (He.ga K x) m) "property" with
  | some (.ref g :: _) => g
  | _ => 0
def pB (x m : Str) (K : PySem.W.Frag) : Bool := He.eqO (PySem.W.findIn K (.ref (He.ga K x)) m) (some (some (.ref (He.ma K (He.ga K x) m)))) &&
  (He.eqO (PySem.W.specialIn K (.ref (He.ma K (He.ga K x) m)) "__get__") (some (some (.builtin "property.__get__"))) &&
  (decide (PySem.W.takesIn K (.ref (He.ma K (He.ga K x) m)) = some true) && (match PySem.W.recIn K (He.ma K (He.ga K x) m) "property" with
  | some (.ref _ :: _) => true
  | _ => false)))
theorem pB_ok {K : PySem.W.Frag} {x m : Str} (h : pB x m K = true) : PropOf K (He.ga K x) m (He.ma K (He.ga K x) m) (pG x m K) := by
  obtain ⟨h1, h⟩ := Bool.and_eq_true_iff.mp h
  obtain ⟨h2, h⟩ := Bool.and_eq_true_iff.mp h
  obtain ⟨h3, h4⟩ := Bool.and_eq_true_iff.mp h
  refine ⟨He.eqO_ok h1, He.eqO_ok h2, of_decide_eq_true h3, ?_⟩
  unfold pG
  revert h4
  split
  · rename_i g r e
    intro _
    exact ⟨r, e⟩
  · intro h
    cases h
end Wp

namespace Wp
open PySem PySem.Spec PyProof.Rows L2 Hx
/-! what the head shows, and the run that shows it -/
def errsX : List Str := ["InvalidNumber", "InvalidName", "InvalidSign", "InvalidWord", "InvalidExpression"]
def exErr (K : PySem.W.Frag) (x : Str) : Bool :=
  He.eqO (PySem.W.nsIn K mainGlobals x) (some (some (.ref (He.ga K x)))) && (PySem.W.excInitIn K (He.ga K x) He.veBase "ValueError.__new__" && (PySem.W.excOver K (He.ga K x) He.veBase && (PySem.W.hasDictIn K (He.ga K x) &&
  (He.eqO (PySem.W.findIn K (.ref (He.ga K x)) "__setattr__") (some (some (.builtin "object.__setattr__"))) && (He.eqO (PySem.W.findIn K (.ref (He.ga K x)) "__getattribute__") (some (some (.builtin "BaseException.__getattribute__"))) &&
  (He.eqO (PySem.W.findIn K (.ref (He.ga K x)) "__getattr__") (some none) && (decide (PySem.W.subIn K (.ref (He.ga K x)) (.type "BaseException") = some true) && (PySem.W.keepIn K (.ref (He.ga K x)) &&
  (He.eqO (PySem.W.findIn K (.ref (He.ga K x)) "__class__") (some (some (.builtin "object.__class__"))) && (decide (PySem.W.mroIn K (He.ga K x) (.type "object") = some true) &&
  (He.eqO (PySem.W.findIn K (.ref (He.ga K x)) "__init__") (some (some (.ref (He.ma K (He.ga K x) "__init__")))) && (decide (PySem.W.typeIn K (.ref (He.ma K (He.ga K x) "__init__")) = some (.type "function")) &&
  (decide (PySem.W.takerIn K (He.ga K x) "given" = some none) && (He.eqO (PySem.W.findIn K (.ref (He.ga K x)) "given") (some none) && decide (PySem.W.typeIn K (.ref (He.ga K x)) = some (.type "type"))))))))))))))))
def cnX : List Str := ["Name", "Sign", "Turn"]
def propsX : List Str := ["kind", "inner", "told", "names", "knots"]
def exCls (K : PySem.W.Frag) (x : Str) : Bool :=
  (He.Fa.glo x).ok K && ((He.Fa.cls x).ok K && ((He.Fa.mkr x).ok K && ((He.Fa.noat x "facts").ok K && ((He.Fa.meth x "__str__").ok K && ((He.Fa.meth x "__repr__").ok K && (propsX.all (fun p => pB x p K) &&
  (He.eqO (PySem.W.findIn K (.ref (He.ga K x)) "__class__") (some (some (.builtin "object.__class__"))) && (decide (PySem.W.mroIn K (He.ga K x) (.type "object") = some true) &&
  (cnX.all (fun y => decide (PySem.W.kitOne K (.ref (He.ga K x)) (.ref (He.ga K y)) = some (decide (x = y)))) && decide (PySem.W.kitOne K (.ref (He.ga K x)) (.ref (He.ga K "Expression")) = some true))))))))))
def exFacts (K : PySem.W.Frag) : Bool := (He.Fa.glo "Facts").ok K && ((He.Fa.cls "Facts").ok K && ((He.Fa.mkr "Facts").ok K && (["word", "marks", "parts", "text", "labels", "size"] : List Str).all fun f => (He.Fa.noat "Facts" f).ok K))
def exOld (K : PySem.W.Frag) : Bool := He.eqO (PySem.W.specialIn K (.builtin "object.__class__") "__get__") (some (some (.builtin "getset_descriptor.__get__"))) && decide (PySem.W.takesIn K (.builtin "object.__class__") = some true)
def glosX1 : List Str := ["is_integer", "is_within", "is_lettered", "is_name", "check_within", "check_sign", "check_name", "check_word", "spelled", "check_expressions", "knots_of", "first_unknown", "knot_fits", "fits", "paths_of", "uses_of", "uses_by_row", "reached_from", "first_open_ring", "is_in_part_ring", "first_part_ring", "parts_inside", "most_parts", "check_signs", "check_handed_names", "is_pair", "check_pairs", "check_rules", "spelled_book"]
def glosX2 : List Str := ["_law_deck", "_law_card", "_law_of", "_law_caught", "_law_near_name", "_law_right", "law", "Expression", "NO_NAMES"]
def glosX : List Str := glosX1 ++ glosX2
def freeX : List Str := ["isinstance", "int", "bool", "str", "len", "all", "list", "set", "sorted", "tuple", "sum", "abs", "divmod", "range", "max", "min", "repr", "enumerate"]
def exConsts (K : PySem.W.Frag) : Bool := (He.Fa.str "LETTERS" "abcdefghijklmnopqrstuvwxyz").ok K && ((He.Fa.int "MOST_LETTERS" 8).ok K && ((He.Fa.int "MOST_SIGNS" 4).ok K && ((He.Fa.int "MOST_BASE" 4).ok K && ((He.Fa.int "LEAST_BASE" 2).ok K && ((He.Fa.int "MOST_DROP" 9).ok K &&
  He.tupB K "NO_NAMES" [.str "weave", .str "part", .str "drop", .str "lead", .str "turn"])))))
def errcX : List Str := ["InvalidName", "InvalidSign", "InvalidWord"]
def exCau (K : PySem.W.Frag) : Bool := errcX.all fun x => xfB K (He.ga K x) && errcX.all fun y => decide (PySem.W.exmOne K (.ref (He.ga K x)) (.ref (He.ga K y)) = some (decide (x = y)))
def exBook (K : PySem.W.Frag) : Bool := (He.Fa.glo "Book").ok K && ((He.Fa.cls "Book").ok K && ((He.Fa.mkr "Book").ok K && (((["radix", "letters", "givens", "pairs", "table", "text"] : List Str).all fun f => (He.Fa.noat "Book" f).ok K) && pB "Book" "signs" K)))
def exC7 (K : PySem.W.Frag) : Bool := (He.Fa.int "MOST_HANDED" 3).ok K && ((He.Fa.int "MOST_ROWS" 4).ok K && ((He.Fa.int "MOST_KNOTS" 8).ok K && (He.Fa.int "MOST_PARTS" 3).ok K))
def ex7 (K : PySem.W.Frag) : Bool := exCau K && (exBook K && exC7 K)
def exX (K : PySem.W.Frag) : Bool := errsX.all (exErr K) && (cnX.all (exCls K) && (exFacts K && (exOld K && (glosX.all (fun x => (He.Fa.glo x).ok K) && (freeX.all (fun x => (He.Fa.free x).ok K) && (exConsts K && ex7 K))))))

def dsX0 : List DA := [
  ⟨gA "is_integer", "is_integer", "is_integer", s_is_integer⟩,
  ⟨gA "is_within", "is_within", "is_within", s_is_within⟩,
  ⟨gA "is_lettered", "is_lettered", "is_lettered", s_is_lettered⟩,
  ⟨gA "is_name", "is_name", "is_name", s_is_name⟩,
  ⟨gA "check_within", "check_within", "check_within", s_check_within⟩,
  ⟨gA "check_sign", "check_sign", "check_sign", s_check_sign⟩,
  ⟨gA "check_name", "check_name", "check_name", s_check_name⟩,
  ⟨gA "check_word", "check_word", "check_word", s_check_word⟩,
  ⟨gA "spelled", "spelled", "spelled", s_spelled⟩,
  ⟨gA "check_expressions", "check_expressions", "check_expressions", s_check_expressions⟩,
  ⟨gA "knots_of", "knots_of", "knots_of", s_knots_of⟩,
  ⟨gA "first_unknown", "first_unknown", "first_unknown", s_first_unknown⟩,
  ⟨gA "knot_fits", "knot_fits", "knot_fits", s_knot_fits⟩,
  ⟨gA "fits", "fits", "fits", s_fits⟩,
  ⟨gA "paths_of", "paths_of", "paths_of", s_paths_of⟩,
  ⟨gA "uses_of", "uses_of", "uses_of", s_uses_of⟩,
  ⟨gA "uses_by_row", "uses_by_row", "uses_by_row", s_uses_by_row⟩,
  ⟨gA "reached_from", "reached_from", "reached_from", s_reached_from⟩,
  ⟨gA "first_open_ring", "first_open_ring", "first_open_ring", s_first_open_ring⟩,
  ⟨gA "is_in_part_ring", "is_in_part_ring", "is_in_part_ring", s_is_in_part_ring⟩,
  ⟨gA "first_part_ring", "first_part_ring", "first_part_ring", s_first_part_ring⟩,
  ⟨gA "parts_inside", "parts_inside", "parts_inside", s_parts_inside⟩,
  ⟨gA "most_parts", "most_parts", "most_parts", s_most_parts⟩,
  ⟨gA "check_signs", "check_signs", "check_signs", s_check_signs⟩,
  ⟨gA "check_handed_names", "check_handed_names", "check_handed_names", s_check_handed_names⟩,
  ⟨gA "is_pair", "is_pair", "is_pair", s_is_pair⟩,
  ⟨gA "check_pairs", "check_pairs", "check_pairs", s_check_pairs⟩,
  ⟨gA "check_rules", "check_rules", "check_rules", s_check_rules⟩,
  ⟨gA "spelled_book", "spelled_book", "spelled_book", s_spelled_book⟩,
  ⟨gA "_law_deck", "_law_deck", "_law_deck", s_law_deck⟩]
def dsX1 : List DA := [
  ⟨gA "_law_card", "_law_card", "_law_card", s_law_card⟩,
  ⟨gA "_law_of", "_law_of", "_law_of", s_law_of⟩,
  ⟨gA "_law_caught", "_law_caught", "_law_caught", s_law_caught⟩,
  ⟨gA "_law_near_name", "_law_near_name", "_law_near_name", s_law_near_name⟩,
  ⟨gA "_law_right", "_law_right", "_law_right", s_law_right⟩,
  ⟨gA "law", "law", "law", s_law⟩,
  ⟨mA "InvalidNumber" "__init__", "__init__", "InvalidNumber.__init__", s_InvalidNumber_init⟩,
  ⟨mA "InvalidName" "__init__", "__init__", "InvalidName.__init__", s_InvalidName_init⟩,
  ⟨mA "InvalidSign" "__init__", "__init__", "InvalidSign.__init__", s_InvalidSign_init⟩,
  ⟨mA "InvalidWord" "__init__", "__init__", "InvalidWord.__init__", s_InvalidWord_init⟩,
  ⟨mA "InvalidExpression" "__init__", "__init__", "InvalidExpression.__init__", s_InvalidExpression_init⟩,
  ⟨mA "Facts" "__init__", "__init__", "Facts.__init__", s_Facts_init⟩,
  ⟨mA "Name" "__init__", "__init__", "Name.__init__", s_Name_init⟩,
  ⟨mA "Sign" "__init__", "__init__", "Sign.__init__", s_Sign_init⟩,
  ⟨mA "Turn" "__init__", "__init__", "Turn.__init__", s_Turn_init⟩,
  ⟨mA "Book" "__init__", "__init__", "Book.__init__", s_Book_init⟩,
  ⟨mA "Name" "__str__", "__str__", "Name.__str__", s_Name_str⟩,
  ⟨mA "Sign" "__str__", "__str__", "Sign.__str__", s_Sign_str⟩,
  ⟨mA "Turn" "__str__", "__str__", "Turn.__str__", s_Turn_str⟩,
  ⟨pG "Name" "kind", "kind", "Name.kind", s_Name_kind⟩,
  ⟨pG "Name" "inner", "inner", "Name.inner", s_Name_inner⟩,
  ⟨pG "Name" "told", "told", "Name.told", s_Name_told⟩,
  ⟨pG "Name" "names", "names", "Name.names", s_Name_names⟩,
  ⟨pG "Name" "knots", "knots", "Name.knots", s_Name_knots⟩,
  ⟨pG "Sign" "kind", "kind", "Sign.kind", s_Sign_kind⟩,
  ⟨pG "Sign" "inner", "inner", "Sign.inner", s_Sign_inner⟩,
  ⟨pG "Sign" "told", "told", "Sign.told", s_Sign_told⟩,
  ⟨pG "Sign" "names", "names", "Sign.names", s_Sign_names⟩,
  ⟨pG "Sign" "knots", "knots", "Sign.knots", s_Sign_knots⟩,
  ⟨pG "Turn" "kind", "kind", "Turn.kind", s_Turn_kind⟩]
def dsX2 : List DA := [
  ⟨pG "Turn" "inner", "inner", "Turn.inner", s_Turn_inner⟩,
  ⟨pG "Turn" "told", "told", "Turn.told", s_Turn_told⟩,
  ⟨pG "Turn" "names", "names", "Turn.names", s_Turn_names⟩,
  ⟨pG "Turn" "knots", "knots", "Turn.knots", s_Turn_knots⟩,
  ⟨pG "Book" "signs", "signs", "Book.signs", s_Book_signs⟩]
def dsX : List DA := dsX0 ++ (dsX1 ++ (dsX2))
def mksX : List Str := ["_law_right"]
abbrev RX : PySem.W.OpenRow := PySem.W.OpenLaw.row PySem.Challenge.rw_wovenplaces_k07_names_signs_and_words
abbrev hkX : PySem.W.Hook := hookT mksX exX dsX
def obX (s : PySem.W.SharedT) : AlZ × Bool := obsTG mksX exX dsX (HandSHeadRun.getT s)
theorem obX_eq (s : PySem.W.SharedT) : obX s = hkX.obs s.abs := obsTG_eq (HandSHeadRun.getT_eq s)
def namesX1 : List PySem.Str := ["_wall", "WrongValue", "InvalidNumber", "InvalidName", "InvalidSign", "InvalidWord", "InvalidText", "InvalidExpression", "InvalidHanded", "InvalidRows", "WrongState", "UnknownName", "NoAnswer", "OpenRing", "PartRing", "TooManyParts", "MOST_BASE", "MOST_SIGNS", "MOST_HANDED", "MOST_ROWS", "MOST_KNOTS", "MOST_PARTS", "MOST_DROP", "LETTERS", "LEAST_BASE", "MOST_LETTERS", "NO_NAMES", "is_integer", "is_within", "is_lettered", "is_name"]
def namesX2 : List PySem.Str := ["check_within", "check_sign", "check_name", "check_word", "knots_above", "exchange", "spelled", "Facts", "FIGURES", "AHEAD", "BEHIND", "piece_at", "pieces_of", "ahead_of", "knot_of", "closed", "read_text", "Expression", "Sign", "Name", "Weave", "Part", "Drop", "Lead", "Turn", "check_expressions", "make", "exchanged_in", "read_expression", "knots_of", "first_unknown"]
def namesX3 : List PySem.Str := ["fits_word", "knot_fits", "fits", "Use", "paths_of", "uses_of", "uses_by_row", "reached_from", "first_open_ring", "is_in_part_ring", "first_part_ring", "parts_inside", "most_parts", "BASES", "Book", "check_signs", "check_handed_names", "is_pair", "check_pairs", "check_rules", "spelled_book", "row_of_line", "pieces_of_book", "_law_deck", "_law_card", "_law_of", "_law_caught", "_law_near_name", "_law_right"]
def namesX : List PySem.Str := namesX1 ++ (namesX2 ++ namesX3)
end Wp

namespace Wp
open PySem PySem.Spec PyProof.Rows L2 Hx
/-- the run, in four looks -/
def RunP {α : Type} (f : World → PySem.W.SharedT → α) (v : World → α) (w : World) : Prop := ∀ os : OsState, (HandSHeadRun.endF (HandSHeadRun.stepQ (HandSHeadRun.denQ HandSHeadRun.tabQ) RX.prog w) 20000 RX.prog w os).map (f w) = some (v w)
theorem RunP.join3 {α β γ δ : Type} {l : World → PySem.W.SharedT → α} {q : World → PySem.W.SharedT → β} {d : World → PySem.W.SharedT → γ} {b : World → PySem.W.SharedT → δ} {x a : World → PySem.W.SharedT → Bool} {vl : World → α} {vq : World → β} {vd : World → γ} {vb : World → δ} {vx va : World → Bool} {w : World}
    (h1 : RunP (fun w s => (l w s, q w s)) (fun w => (vl w, vq w)) w) (h2 : RunP (fun w s => (x w s, d w s, b w s)) (fun w => (vx w, vd w, vb w)) w) (h3 : RunP a va w) :
    RunP (fun w s => (l w s, q w s, (((x w s && a w s), d w s), b w s))) (fun w => (vl w, vq w, (((vx w && va w), vd w), vb w))) w := fun os => by
  have h1 := h1 os
  have h2 := h2 os
  have h3 := h3 os
  revert h1 h2 h3
  cases HandSHeadRun.endF (HandSHeadRun.stepQ (HandSHeadRun.denQ HandSHeadRun.tabQ) RX.prog w) 20000 RX.prog w os with
  | none => exact fun h1 => nomatch h1
  | some s =>
    intro h1 h2 h3
    show some (l w s, q w s, (((x w s && a w s), d w s), b w s)) = some (vl w, vq w, (((vx w && va w), vd w), vb w))
    have e1 : (l w s, q w s) = (vl w, vq w) := Option.some.inj h1
    have e2 : (x w s, d w s, b w s) = (vx w, vd w, vb w) := Option.some.inj h2
    have e3 : a w s = va w := Option.some.inj h3
    obtain ⟨a1, a2⟩ := Prod.mk.inj e1
    obtain ⟨a3, a4⟩ := Prod.mk.inj e2
    obtain ⟨a4, a5⟩ := Prod.mk.inj a4
    rw [a1, a2, a3, a4, a5, e3]
abbrev kX (s : PySem.W.SharedT) : PySem.W.Frag := He.frG (HandSHeadRun.getT s) (asZ (HandSHeadRun.getT s))
theorem runP0 (w : World) : RunP (fun w s => (HandSHeadRun.looksF RX.prog (PySem.W.boot_heap w.params) s.abs, HandSHeadRun.seenQ (PySem.W.view RX.prog [101]) namesX (PySem.importedModules RX.prog.main.body) (fun s => PySem.W.xlAt (PySem.W.view RX.prog [101]) [] s && PySem.W.recOk RX.toRowW.records s) s.abs)) (fun _ => (true, PySem.W.openGood (PySem.W.view RX.prog [101]) namesX)) (w.withFollow "special-get-raises" false) := by
  intro os
  kernel_rfl
theorem runP1 (w : World) : RunP (fun w s => (HandSHeadRun.looksF RX.prog (PySem.W.boot_heap w.params) s.abs, HandSHeadRun.seenQ (PySem.W.view RX.prog [101]) namesX (PySem.importedModules RX.prog.main.body) (fun s => PySem.W.xlAt (PySem.W.view RX.prog [101]) [] s && PySem.W.recOk RX.toRowW.records s) s.abs)) (fun _ => (true, PySem.W.openGood (PySem.W.view RX.prog [101]) namesX)) (w.withFollow "special-get-raises" true) := by
  intro os
  kernel_rfl
theorem runE0 (w : World) : RunP (fun _ s => (exX (kX s), (obsZ exX dsX (kX s)).2, mksX.all fun x => tabZ x (kX s) (HandSHeadRun.getT s))) (fun _ => (true, dsX.map DA.val, true)) (w.withFollow "special-get-raises" false) := by
  intro os
  kernel_rfl
theorem runE1 (w : World) : RunP (fun _ s => (exX (kX s), (obsZ exX dsX (kX s)).2, mksX.all fun x => tabZ x (kX s) (HandSHeadRun.getT s))) (fun _ => (true, dsX.map DA.val, true)) (w.withFollow "special-get-raises" true) := by
  intro os
  kernel_rfl
theorem runA0 (w : World) : RunP (fun _ s => dsX.all fun d => d.ok (kX s)) (fun _ => true) (w.withFollow "special-get-raises" false) := by
  intro os
  kernel_rfl
theorem runA1 (w : World) : RunP (fun _ s => dsX.all fun d => d.ok (kX s)) (fun _ => true) (w.withFollow "special-get-raises" true) := by
  intro os
  kernel_rfl
theorem runX0 (w : World) (b : Bool) (h : RunP (fun w s => (HandSHeadRun.looksF RX.prog (PySem.W.boot_heap w.params) s.abs, HandSHeadRun.seenQ (PySem.W.view RX.prog [101]) namesX (PySem.importedModules RX.prog.main.body) (fun s => PySem.W.xlAt (PySem.W.view RX.prog [101]) [] s && PySem.W.recOk RX.toRowW.records s) s.abs, ((((exX (kX s) && dsX.all fun d => d.ok (kX s))), (obsZ exX dsX (kX s)).2), mksX.all fun x => tabZ x (kX s) (HandSHeadRun.getT s)))) (fun w => (true, PySem.W.openGood (PySem.W.view RX.prog [101]) namesX, (((true && true), dsX.map DA.val), true))) (w.withFollow "special-get-raises" b)) :
    HandSHeadRun.RunEq RX (PySem.W.view RX.prog [101]) hkX obX 20000 namesX (w.withFollow "special-get-raises" b) := fun os => h os
theorem runX (w : World) : HandSHeadRun.RunEq RX (PySem.W.view RX.prog [101]) hkX obX 20000 namesX w := by
  have h : ∀ b : Bool, HandSHeadRun.RunEq RX (PySem.W.view RX.prog [101]) hkX obX 20000 namesX (w.withFollow "special-get-raises" b) := fun b => match b with
    | false => runX0 w false (RunP.join3 (runP0 w) (runE0 w) (runA0 w))
    | true => runX0 w true (RunP.join3 (runP1 w) (runE1 w) (runA1 w))
  have h2 := h (w.params.followText "special-get-raises")
  rwa [World.withFollow_self] at h2
end Wp

/-! own exception classes made with keywords -/
namespace PySem
namespace EK
open PySem.W PySem.Calls PyProof.Rows PySem.PX
section
variable {M : Model} {A : Around} {E : Value → Shared → Prop} {h : Heap} {g : Array GenState} {d : Drawn} {t : Nat} {os : OsState}
variable {nm q : Str} {C N : Addr} {bs bm bmB : List Value} {hdct : Bool} {sn : List Str} {sub : List Value} {ab : Bool} {col : Option Bool}
  {dd : Option Addr} {k0 k1 k2 k3 k5 : Option Value} {B newId initId : String} {kw : List (Str × Value)} {us : List Value}
theorem look_new (F : ExcBaseFacts B newId initId bmB) (same : ∀ X : String, bm.contains (.type X) = bmB.contains (.type X)) {Q : Unit → Shared → Prop}
    (hC : h.get? C = some (excClassObj nm q C N bs bm hdct sn sub ab col dd k0 k1 k2 k3 k5 newId)) (hq : Q () ⟨h, g, d, t, os⟩) :
    wpAny M A (checkBuiltinCall newId ⟨.ref C :: us, kw⟩) Q E ⟨h, g, d, t, os⟩ := by
  have inB : (Value.ref C :: bm).contains (.type B) = true := by
    rw [List.contains_cons, same, F.hasB, Bool.or_true]
  have star := F.noStar
  simp only [checkBuiltinCall, F.newKind, F.newSplit, F.newRow]
  repeat (first
    | refine wpAny_loadPart_at hC ?_
    | (refine wpAny_isSubtype_exc hC ?_; rw [inB])
    | refine wpAny_staticBase_exc hC ?_
    | refine wpAny_madeBy_exc hC ?_
    | simp only [bne_self_eq_false, Bool.false_eq_true, if_false]
    | wp_step)
  exact hq
end
section
variable {prog : Program} {w : World} {A : Around} {E : Value → Shared → Prop} {R : Result → Shared → Prop} {h : Heap} {g : Array GenState} {d : Drawn} {t : Nat} {os : OsState}
variable {nm q : Str} {C N : Addr} {bs bm bmB : List Value} {hdct : Bool} {sn : List Str} {sub : List Value} {ab : Bool} {col : Option Bool}
  {dd : Option Addr} {k0 k1 k2 k3 k5 : Option Value} {B newId initId : String} {kw : List (Str × Value)} {us : List Value} {fI : Addr}
/-- the heap behind the making -/
abbrev madeHeap (h : Heap) (C : Addr) (us : List Value) : Heap := (h.push (kdv_tup us)).push (excO C h.objs.size)
theorem made_keep (b : Addr) (o : Obj) (e : h.get? b = some o) : (madeHeap h C us).get? b = some o :=
  Heap.get?_push_of_some _ (Heap.get?_push_of_some _ e)
theorem made_at : (madeHeap h C us).get? (h.objs.size + 1) = some (excO C h.objs.size) := by heap_get
theorem run_new (F : ExcBaseFacts B newId initId bmB) (same : ∀ X : String, bm.contains (.type X) = bmB.contains (.type X))
    (hC : h.get? C = some (excClassObj nm q C N bs bm hdct sn sub ab col dd k0 k1 k2 k3 k5 newId)) (small : us.length ≤ sizeLine)
    (hq : R (.ok (.ret (.ref (h.objs.size + 1)))) ⟨madeHeap h C us, g, d, t, os⟩) :
    codeAny (model prog w) A (.builtin newId ⟨.ref C :: us, kw⟩) R ⟨h, g, d, t, os⟩ := by
  have ends := F.ends
  have inB : (Value.ref C :: bm).contains (.type B) = true := by
    rw [List.contains_cons, same, F.hasB, Bool.or_true]
  have noA : (Value.ref C :: bm).contains (.type "AttributeError") = false := by
    rw [List.contains_cons, same, F.noAttr]
    rfl
  have noN : (Value.ref C :: bm).contains (.type "NameError") = false := by
    rw [List.contains_cons, same, F.noName]
    rfl
  refine codeAny_builtinAt F.entry ?_
  unfold Builtin.«BaseException.__new__»
  refine wpAt_bind ?_
  show wpAt _ _ _ (stack >>= _) _ _ _
  refine wpAt_bind (wpAt_stack fun p under => wpAt_of_wpAny ?_)
  wp_walk
  refine wpAt_of_wpAny ?_
  rw [F.owner]
  repeat (first
    | with_reducible refine wpAny_madeHere_exc F.canon hC ?_
    | with_reducible refine wpAny_loadPart_at hC ?_
    | (with_reducible refine wpAny_isSubtype_exc hC ?_
       first | rw [inB] | rw [noA] | rw [noN])
    | wp_step)
  show R _ _
  rw [Heap.size_push]
  exact hq
theorem run_type (F : ExcBaseFacts B newId initId bmB) (same : ∀ X : String, bm.contains (.type X) = bmB.contains (.type X))
    (hC : h.get? C = some (excClassObj nm q C N bs bm hdct sn sub ab col dd k0 k1 k2 k3 k5 newId)) {Q : Fin → Shared → Prop}
    (li : Looks (model prog w) h (typeLookup (.ref C) "__init__") (some (.ref fI)))
    (lb : ∀ self, Looks (model prog w) h (bindSpecial (.ref fI) self) (.ref fI, [self])) (small : us.length ≤ sizeLine)
    (hq : codeAny (model prog w) A (.call (.ref fI) ⟨.ref (h.objs.size + 1) :: us, kw⟩)
      (fun r s' => match r with
        | .ok (.ret v) => v = .none ∧ Q (.done (.ret (.ref (h.objs.size + 1)))) s'
        | .ok _ => False
        | .error e => E e s') ⟨madeHeap h C us, g, d, t, os⟩) :
    wpAny (model prog w) A (Builtin.«type.__call__» ⟨.ref C :: us, kw⟩) Q E ⟨h, g, d, t, os⟩ := by
  repeat (first
    | with_reducible refine wpAny_loadPart_at hC ?_
    | with_reducible refine wpAny_madeBy_exc hC ?_
    | wp_step)
  refine codeAny_call_builtin_code (Code.quiet_builtin _ F.quiet) (look_new F same hC ?_)
  refine run_new F same hC small ?_
  show wpAny _ _ _ _ _ _
  have hC1 := made_keep (C := C) (us := us) _ _ hC
  have own : (Value.ref C :: bm).contains (.ref C) = true := by simp
  have li1 := li.keeps (made_keep (C := C) (us := us))
  have lb1 := (lb (.ref (h.objs.size + 1))).keeps (made_keep (C := C) (us := us))
  unfold isInstance
  repeat (first
    | with_reducible refine wpAny_loadPart_at made_at ?_
    | (with_reducible refine wpAny_isSubtype_exc hC1 ?_
       rw [own])
    | wp_step)
  show wpAny _ _ (typeLookup (.ref C) _) _ _ _
  refine li1.at ?_
  refine wpAny_holding (wpAny_bind (lb1.at ?_))
  refine wpAny_bind (wpAny_call (codeAny_mono hq ?_))
  intro r s' z
  cases r with
  | error e => exact z
  | ok fl =>
    cases fl with
    | ret v =>
      obtain ⟨rfl, z⟩ := z
      first
        | exact wpAny_pure (wpAny_pure z)
        | (wp_walk; exact z)
    | next => exact z.elim
    | brk => exact z.elim
    | cont => exact z.elim
end
section
variable {prog : Program} {w : World} {A : Around} {E : Value → Shared → Prop} {R : Result → Shared → Prop} {h : Heap} {g : Array GenState} {d : Drawn} {t : Nat} {os : OsState}
variable {nm q : Str} {C N : Addr} {bs bm bmB : List Value} {hdct : Bool} {sn : List Str} {sub : List Value} {ab : Bool} {col : Option Bool}
  {dd : Option Addr} {k0 k1 k2 k3 k5 : Option Value} {B newId initId : String} {kw : List (Str × Value)} {us : List Value} {fI : Addr}
theorem look_type {M : Model} {Q : Unit → Shared → Prop} (hC : h.get? C = some (excClassObj nm q C N bs bm hdct sn sub ab col dd k0 k1 k2 k3 k5 newId))
    (hq : Q () ⟨h, g, d, t, os⟩) : wpAny M A (checkBuiltinCall "type.__call__" ⟨.ref C :: us, kw⟩) Q E ⟨h, g, d, t, os⟩ := by
  have f0 := tc_sub
  have ofType : (⟨h, g, d, t, os⟩ : Shared).TypeIs (.ref C) "type" := ⟨_, hC, rfl⟩
  simp only [checkBuiltinCall, tc_kind, tc_split]
  repeat (any_goals (first
    | assumption
    | with_reducible refine wpAny_loadPart_at hC ?_
    | with_reducible refine wpAny_onRaise ?_
    | with_reducible refine wpAny_map ?_
    | wp_step))
/-- C(us, kw): the object is laid, then __init__ -/
theorem run_call (F : ExcBaseFacts B newId initId bmB) (same : ∀ X : String, bm.contains (.type X) = bmB.contains (.type X))
    (hC : h.get? C = some (excClassObj nm q C N bs bm hdct sn sub ab col dd k0 k1 k2 k3 k5 newId))
    (li : Looks (model prog w) h (typeLookup (.ref C) "__init__") (some (.ref fI)))
    (lb : ∀ self, Looks (model prog w) h (bindSpecial (.ref fI) self) (.ref fI, [self])) (small : us.length ≤ sizeLine)
    (hq : codeAny (model prog w) (A.under (.builtin "type.__call__" ⟨.ref C :: us, kw⟩)) (.call (.ref fI) ⟨.ref (h.objs.size + 1) :: us, kw⟩)
      (InitBack (h.objs.size + 1) R) ⟨madeHeap h C us, g, d, t, os⟩) :
    codeAny (model prog w) A (.call (.ref C) ⟨us, kw⟩) R ⟨h, g, d, t, os⟩ := by
  have f1 := tc_lookup
  have f2 := tc_bind (.ref C)
  have ofType : (⟨h, g, d, t, os⟩ : Shared).TypeIs (.ref C) "type" := ⟨_, hC, rfl⟩
  refine codeAny_of_tree ?_
  show wpAny _ _ (callAny (.ref C) _) _ _ _
  repeat (any_goals (first
    | assumption
    | with_reducible refine wpAny_loadPart_at hC ?_
    | wp_step))
  refine ⟨rfl, ?_⟩
  refine codeAny_call_builtin_at (Code.quiet_builtin _ (by decide +kernel)) entry_typeCall (look_type hC ?_)
  refine run_type F same hC li lb small (codeAny_mono hq ?_)
  intro r s' z
  rcases r with e | (v | _ | _ | _) <;> exact z
end
/-! storing into an exception -/
section
open Builtin Builtin.ObjectAttr
variable {prog : Program} {w : World} {A : Around} {R : Result → Shared → Prop} {hp : Heap} {g : Array GenState} {d : Drawn} {t : Nat} {os : OsState}
  {K : Frag} {C x : Addr} {B : String} {bmB : List Value} {name : Str} {tk : Tok} {v : Value} {fv : Array Value}
theorem first_field (SF : StoreFacts B bmB "object.__setattr__" "object") (X : K.In hp) (hx : hp.get? x = some { cls := .ref C, data := .fields fv })
    (over : excOver K C bmB = true) (free : takerIn K C name = some none) (dct : hasDictIn K C = true)
    (hq : ∀ h' tk' dx, (∀ b o, b ≠ x → hp.get? b = some o → h'.get? b = some o) → hp.objs.size ≤ dx → dx ≠ x →
      h'.get? x = some { cls := .ref C, dict := some dx, data := .fields fv } → h'.Ns1 dx (fun y => if y = name then some v else none) →
      R (.ok (.ret .none)) ⟨h', g, d, tk', os⟩) :
    codeAny (model prog w) A (.call (.builtin "object.__setattr__") ⟨[.ref x, .str name tk, v], []⟩) R ⟨hp, g, d, t, os⟩ := by
  have I : InstAt hp x { cls := .ref C, data := .fields fv } C none := ⟨hx, rfl, rfl, trivial⟩
  refine osa_openX (s := ⟨hp, g, d, t, os⟩) SF X I over free fun b => ?_
  show wpAny _ _ (storeInOwnDict (.ref x) (.ref C) (.str name tk) name v b) _ _ _
  obtain ⟨cd, hcd, hd⟩ := any_some dct
  have lc : Looks (model prog w) hp (classData C) cd := looks_clsIn X hcd
  obtain ⟨nm, bs, mro, ns, qn, hdd, sn, sb, ab, col, del⟩ := cd
  dsimp only at hd
  subst hd
  have apart : x ≠ hp.objs.size := Nat.ne_of_lt (Heap.lt_size hx)
  unfold storeInOwnDict ownDictForStores
  repeat (first
    | with_reducible refine PX.store_in_new ?_ ?_
    | with_reducible refine wpAny_loadPart_at hx ?_
    | with_reducible refine lc.at ?_
    | wp_step)
  · exact ⟨_, #[], _, (Heap.get?_update_ne _ _ _ _ apart.symm).trans (Heap.get?_push_at rfl rfl), rfl, fun e he => absurd he (by simp), fun _ => rfl⟩
  · intro h' tk' hn' but
    have hx1 : (hp.push { cls := .type "dict", data := .dict #[] }).get? x = some { cls := .ref C, data := .fields fv } := Heap.get?_push_of_some _ hx
    refine hq h' tk' hp.objs.size ?_ (Nat.le_refl _) apart.symm ?_ hn'
    · intro b o hb ho
      have z := but.2 b (Nat.ne_of_lt (Heap.lt_size ho))
      rw [z, Heap.get?_update_ne _ _ _ _ hb]
      exact Heap.get?_push_of_some _ ho
    · rw [but.2 x apart]
      exact Heap.get?_update_self _ hx1 rfl
theorem next_field (SF : StoreFacts B bmB "object.__setattr__" "object") (X : K.In hp) {dx : Addr} {m0 : Str → Option Value} {nl : List Str}
    (hx : hp.get? x = some { cls := .ref C, dict := some dx, data := .fields fv }) (hn : hp.Ns1 dx m0) (within : Within m0 nl) (few : nl.length ≤ 1000)
    (over : excOver K C bmB = true) (free : takerIn K C name = some none) (dct : hasDictIn K C = true)
    (hq : ∀ h' tk', (∀ b o, b ≠ dx → hp.get? b = some o → h'.get? b = some o) → h'.Ns1 dx (fun y => if y = name then some v else m0 y) →
      R (.ok (.ret .none)) ⟨h', g, d, tk', os⟩) :
    codeAny (model prog w) A (.call (.builtin "object.__setattr__") ⟨[.ref x, .str name tk, v], []⟩) R ⟨hp, g, d, t, os⟩ := by
  obtain ⟨oD, _, _, hoD, _, _⟩ := hn.count within
  have I : InstAt hp x { cls := .ref C, dict := some dx, data := .fields fv } C (some oD) := ⟨hx, rfl, rfl, hoD⟩
  refine osa_openX (s := ⟨hp, g, d, t, os⟩) SF X I over free fun b => ?_
  show wpAny _ _ (storeInOwnDict (.ref x) (.ref C) (.str name tk) name v b) _ _ _
  obtain ⟨cd, hcd, hd⟩ := any_some dct
  have lc : Looks (model prog w) hp (classData C) cd := looks_clsIn X hcd
  obtain ⟨nm, bs, mro, ns, qn, hdd, sn, sb, ab, col, del⟩ := cd
  dsimp only at hd
  subst hd
  unfold storeInOwnDict ownDictForStores
  repeat (first
    | with_reducible refine PX.store_in_old hn within few ?_
    | with_reducible refine wpAny_loadPart_at hx ?_
    | with_reducible refine lc.at ?_
    | wp_step)
  intro h' tk' hn' but
  exact hq h' tk' (fun b o hb ho => (but.2 b hb).trans ho) hn'
end
end EK
end PySem

namespace Hx
open PySem PySem.Spec PyProof.Rows L2
/-- what the written part says of an own exception class at C, over the built-in B -/
structure ExK (K : PySem.W.Frag) (C : Addr) (B newId initId : String) (bmB : List Value) : Prop where
  facts : ExcBaseFacts B newId initId bmB
  store : StoreFacts B bmB "object.__setattr__" "object"
  made : PySem.W.excInitIn K C bmB newId = true
  over : PySem.W.excOver K C bmB = true
  dct : PySem.W.hasDictIn K C = true
  sa : PySem.W.findIn K (.ref C) "__setattr__" = some (some (.builtin "object.__setattr__"))
  ga : PySem.W.findIn K (.ref C) "__getattribute__" = some (some (.builtin "BaseException.__getattribute__"))
  gt : PySem.W.findIn K (.ref C) "__getattr__" = some none
  sub : PySem.W.subIn K (.ref C) (.type "BaseException") = some true
  keep : PySem.W.keepIn K (.ref C) = true
  cl : PySem.W.findIn K (.ref C) "__class__" = some (some (.builtin "object.__class__"))
  gg : PySem.W.specialIn K (.builtin "object.__class__") "__get__" = some (some (.builtin "getset_descriptor.__get__"))
  tk : PySem.W.takesIn K (.builtin "object.__class__") = some true
  mo : PySem.W.mroIn K C (.type "object") = some true
section
variable {X : Cx} {pins : List (Addr × Obj)} {σ : L2.St} {H : Hp} {s : Shared} {a C dx : Addr} {f : Str} {y : V} {u : Value} {fs : List (Str × V)}
  {B newId initId : String} {bmB : List Value} {A : Around} {E : Value → Shared → Prop}
/-- self.f = y, the first field: the exception gets its dict -/
theorem put_first {Q : Unit → Shared → Prop} (T : ExK X.K C B newId initId bmB) (I : Inv X pins σ H s) (e : H a = some (exo a C none))
    (free : PySem.W.takerIn X.K C f = some none) (ry : RelV y u)
    (h : ∀ dx s', H dx = none → dx ≠ a → Inv X pins σ (upd (upd H dx (exd dx [(f, y)])) a (exo a C (some dx))) s' → Q () s') :
    wpAny (model X.prog X.w) A (setAttr (.ref a) f u) Q E s := by
  obtain ⟨t1, ho⟩ := exo_at I.hok e
  obtain ⟨hp, g, d, t, os⟩ := s
  refine PySem.W.set_plain I.kIn (ox := { cls := .ref C, dict := none, data := .fields #[.ref t1, .none, .none, .none, .bool false, .none] }) (od := none) ⟨ho, rfl, rfl, trivial⟩ T.sa ?_
  refine PySem.EK.first_field T.store I.kIn ho T.over free T.dct ?_
  intro h' tk' dx keeps new apart at_a ns
  have n0 : H dx = none := I.hok.fresh new
  have old : ∀ {b : Addr} {o : Obj}, hp.get? b = some o → b ≠ dx := fun {b o} z => Nat.ne_of_lt (Nat.lt_of_lt_of_le (Heap.lt_size z) new)
  have other : ∀ {b : Addr}, H b = none → b ≠ a := fun {b} n z => by
    rw [z, e] at n
    cases n
  have un : Un X.fs [] H (upd (upd H dx (exd dx [(f, y)])) a (exo a C (some dx))) hp h' :=
    { keep := fun b o z n _ _ => keeps b o (other n) z
      slot := fun b o z n _ _ => ⟨o.slots, keeps b o (other n) z⟩
      free := fun b o z n _ => by
        rw [upd_ne (other n), upd_ne (old z)]
        exact n
      there := fun b o z _ => by
        by_cases hb : b = a
        · exact ⟨_, by rw [hb]; exact at_a⟩
        · exact ⟨o, keeps b o hb z⟩
      tups := fun b xs z => by
        rw [upd_ne (at_ne e z exo_tup), upd_ne (ne_of_none z n0)]
        exact z
      frzs := fun b o v z => by
        rw [upd_ne (at_ne e z exo_frz), upd_ne (ne_of_none z n0)]
        exact z
      tbls := fun b ps z => ⟨#[], by
        rw [upd_ne (at_ne e z exo_tbl), upd_ne (ne_of_none z n0), z]
        simp⟩ }
  refine h dx _ n0 apart (I.un (t' := tk') un ?_)
  intro b o z
  by_cases hb : b = a
  · subst hb
    rw [upd_same] at z
    cases z
    exact exo_ok at_a
  rw [upd_ne hb] at z
  by_cases hd : b = dx
  · subst hd
    rw [upd_same] at z
    cases z
    exact exd_ok ns (relO_put (fs := []) ry fun _ => True.intro)
  rw [upd_ne hd] at z
  refine (I.hok b o z).stay ?_ ?_ ?_
  · intro c v hc r
    refine keeps c v ?_ r
    rcases hc with hc | hc
    · rw [hc]
      exact hb
    · exact at_ne e hc exo_own
  · intro c hc
    rw [upd_ne (at_ne e hc exo_own), upd_ne (ne_of_none hc n0)]
    exact hc
  · intro c xs hc
    rw [upd_ne (at_ne e hc exo_tup), upd_ne (ne_of_none hc n0)]
    exact hc
/-- self.f = y, a further field -/
theorem put_next {Q : Unit → Shared → Prop} (T : ExK X.K C B newId initId bmB) (I : Inv X pins σ H s) (e : H a = some (exo a C (some dx))) (ed : H dx = some (exd dx fs))
    (few : fs.length ≤ 900) (free : PySem.W.takerIn X.K C f = some none) (ry : RelV y u)
    (h : ∀ s', Inv X pins σ (upd H dx (exd dx ((f, y) :: fs))) s' → Q () s') : wpAny (model X.prog X.w) A (setAttr (.ref a) f u) Q E s := by
  obtain ⟨t1, ho⟩ := exo_at I.hok e
  obtain ⟨mA, ns, rel⟩ := exd_at I.hok ed
  have within := within_of rel
  obtain ⟨hp, g, d, t, os⟩ := s
  obtain ⟨oD, _, _, hoD, _, _⟩ := ns.count within
  refine PySem.W.set_plain I.kIn (ox := { cls := .ref C, dict := some dx, data := .fields #[.ref t1, .none, .none, .none, .bool false, .none] }) (od := some oD) ⟨ho, rfl, rfl, hoD⟩ T.sa ?_
  refine PySem.EK.next_field T.store I.kIn ho ns within (by rw [List.length_map]; omega) T.over free T.dct ?_
  intro h' tk' keeps ns'
  obtain ⟨o', _, _, there, _⟩ := id ns'
  exact h _ (I.write (t' := tk') (x := dx) (e := dx) (o := exd dx ((f, y) :: fs)) (by rw [ed]; exact True.intro) (.inl rfl) keeps ⟨o', there⟩ (exd_ok ns' (relO_put ry rel)))
end
/-- self.f = e, self an exception of the class at C -/
def tPut (f : Str) (C : Addr) (to te : TE) : TS := fun D σ H => te σ H fun y H1 => to σ H1 fun x H2 => ∃ a : Addr, x = .ref a ∧
  ((H2 a = some (exo a C none) ∧ ∀ dx, H2 dx = none → dx ≠ a → D.nx σ (upd (upd H2 dx (exd dx [(f, y)])) a (exo a C (some dx)))) ∨
    ∃ (dx : Addr) (fs : List (Str × V)), H2 a = some (exo a C (some dx)) ∧ H2 dx = some (exd dx fs) ∧ fs.length ≤ 900 ∧ D.nx σ (upd H2 dx (exd dx ((f, y) :: fs))))
section
variable {X : Cx} {o e : Expr} {es : List Expr} {to te : TE} {ta : TA} {f : Str} {p p' p1 p2 pos : Pos} {C : Addr} {B newId initId : String} {bmB : List Value}
theorem ps_put (T : ExK X.K C B newId initId bmB) (free : PySem.W.takerIn X.K C f = some none) (ho : PE X o to) (he : PE X e te)
    (hs : swapsWith e (some (.Attribute o f p')) pos.line X.env = pure false := by rfl) : PS X (.Assign [.Attribute o f p'] e pos) (tPut f C to te) := by
  constructor
  intro pins s σ H D I h
  refine plainObj_wpAny_Assign_Attribute (thn (he.run pins s σ H _ I h) ?_) hs
  rintro v s1 ⟨y, H1, I1, r1, q1⟩
  refine thn (ho.run pins s1 σ H1 _ I1 q1) ?_
  rintro u s2 ⟨x, H2, I2, r2, a, ex, q⟩
  subst ex
  cases (show u = Value.ref a from r2)
  rcases q with ⟨ea, q⟩ | ⟨dx, fs, ea, ed, few, q⟩
  · exact put_first T I2 ea free r1 fun dx s' n ne J => ⟨σ, _, J, q dx n ne⟩
  · exact put_next T I2 ea ed few free r1 fun s' J => ⟨σ, _, J, q⟩
end
/-- a fresh exception -/
def spIn1 (C : Addr) (f : Str) : Sp := fun vs H Q _ => ∃ (a : Addr) (v : V), vs = [.ref a, v] ∧ H a = some (exo a C none) ∧
  ∀ d, H d = none → d ≠ a → Q .non (upd (upd H d (exd d [(f, v)])) a (exo a C (some d)))
def spIn2 (C : Addr) (f g : Str) : Sp := fun vs H Q _ => ∃ (a : Addr) (v u : V), vs = [.ref a, v, u] ∧ H a = some (exo a C none) ∧
  ∀ d, H d = none → d ≠ a → Q .non (upd (upd (upd H d (exd d [(f, v)])) a (exo a C (some d))) d (exd d [(g, u), (f, v)]))
section
variable {P : Program} {w : World} {K : PySem.W.Frag} {mg : Str → Option Value} {base : Heap} {fI C : Addr} {fd : FuncData} {st : Stmt} {qual f g : Str}
  {B newId initId : String} {bmB : List Value} {q1 q2 q3 q4 q5 q6 q7 q8 : Pos}
theorem ok_in1 (F : Fun K "__init__" qual st fI fd) (S : FnScope ["self", f] ["self", f] (defScope st))
    (hb : defBody st = [.Assign [.Attribute (.Name "self" q1) f q2] (.Name f q3) q4]) (v1 : Vis (defScope st) "self") (v2 : Vis (defScope st) f)
    (hd : (f == ("__debug__" : Str)) = false) (hc : (f == ("__classdict__" : Str)) = false) (T : ExK K C B newId initId bmB) (free : PySem.W.takerIn K C f = some none) :
    FnOk P w K mg base CX0 1 fI fd ["self", f] (spIn1 C f) := by
  refine F.ok S (fun vs H Q E h => ?_) (fun cdv A outer s H vs Q E hr h => ?_)
  · obtain ⟨a, v, rfl, _⟩ := h
    rfl
  obtain ⟨a, v, rfl, ha, q⟩ := h
  rw [hb]
  refine ⟨_, pss_one (ps_put T free (pe_var (i := 0) rfl v1) (pe_var (i := 1) rfl v2 hd hc)), ?_⟩
  exact ⟨_, rfl, _, rfl, a, rfl, .inl ⟨ha, fun d n ne => q d n ne⟩⟩
theorem ok_in2 (F : Fun K "__init__" qual st fI fd) (S : FnScope ["self", f, g] ["self", f, g] (defScope st))
    (hb : defBody st = [.Assign [.Attribute (.Name "self" q1) f q2] (.Name f q3) q4, .Assign [.Attribute (.Name "self" q5) g q6] (.Name g q7) q8])
    (v1 : Vis (defScope st) "self") (v2 : Vis (defScope st) f) (v3 : Vis (defScope st) g)
    (hd : (f == ("__debug__" : Str)) = false) (hc : (f == ("__classdict__" : Str)) = false) (hd2 : (g == ("__debug__" : Str)) = false) (hc2 : (g == ("__classdict__" : Str)) = false)
    (T : ExK K C B newId initId bmB) (free : PySem.W.takerIn K C f = some none) (free2 : PySem.W.takerIn K C g = some none) :
    FnOk P w K mg base CX0 1 fI fd ["self", f, g] (spIn2 C f g) := by
  refine F.ok S (fun vs H Q E h => ?_) (fun cdv A outer s H vs Q E hr h => ?_)
  · obtain ⟨a, v, u, rfl, _⟩ := h
    rfl
  obtain ⟨a, v, u, rfl, ha, q⟩ := h
  rw [hb]
  refine ⟨_, pss_cons (ps_put T free (pe_var (i := 0) rfl v1) (pe_var (i := 1) rfl v2 hd hc)) (pss_one (ps_put T free2 (pe_var (i := 0) rfl v1) (pe_var (i := 2) rfl v3 hd2 hc2))), ?_⟩
  refine ⟨_, rfl, _, rfl, a, rfl, .inl ⟨ha, fun d n ne => ?_⟩⟩
  refine ⟨_, rfl, _, rfl, a, rfl, .inr ⟨d, [(f, v)], upd_same, ?_, (by show 1 ≤ 900; decide), q d n ne⟩⟩
  rw [upd_ne ne]
  exact upd_same
end

/-! C(..) as a value -/
section
variable {X : Cx} {pins : List (Addr × Obj)} {σ : L2.St} {H : Hp} {s : Shared} {C fI : Addr} {fd : FuncData} {ps : List Str} {sp : Sp} {k : Nat}
  {B newId initId : String} {bmB : List Value}
theorem run_mk {Q : VK} {us bs : List Value} {kw : List (Str × Value)} {vs : List V} (T : ExK X.K C B newId initId bmB)
    (hi : PySem.W.findIn X.K (.ref C) "__init__" = some (some (.ref fI))) (tI : PySem.W.typeIn X.K (.ref fI) = some (.type "function"))
    (F : FnOk X.prog X.w X.K X.mg X.base CX0 k fI fd ps sp) (room : Room (k + 1) X.A) (I : Inv X pins σ H s) (rel : Vals vs bs)
    (binds : ∀ (s : Shared) (self : Value), X.K.In s.heap → BindsTo s fd ⟨self :: us, kw⟩ (ps.zip (self :: bs))) (small : us.length ≤ sizeLine)
    (q : ∀ a, H a = none → sp (.ref a :: vs) (upd H a (exo a C none)) (fun v H2 => v = .non ∧ Q (.ref a) H2) E0) :
    wpAny (model X.prog X.w) X.A (call (.ref C) us kw) (EP X pins σ Q) X.xe s := by
  obtain ⟨nm, N, qn, bs0, bm, hdct, sn, sub, ab, col, dd, k0, k1, k2, k3, k5, hC, same⟩ := PySem.W.excInit_of I.kIn T.made
  obtain ⟨hp, g, dr, tk, os⟩ := s
  have above : hp.objs.size ≤ hp.objs.size + 1 := Nat.le_succ _
  have n0 : H (hp.objs.size + 1) = none := I.hok.fresh above
  have q0 := q _ n0
  have J : Inv X pins σ (upd H (hp.objs.size + 1) (exo (hp.objs.size + 1) C none)) ⟨PySem.EK.madeHeap hp C us, g, dr, tk, os⟩ :=
    I.laid (t' := tk) (h' := PySem.EK.madeHeap hp C us) (fun b o e => PySem.EK.made_keep b o e) above (exo_ok PySem.EK.made_at)
  have rel2 : Vals (V.ref (hp.objs.size + 1) :: vs) (Value.ref (hp.objs.size + 1) :: bs) := .cons rfl rel
  refine wpAny_call (PySem.EK.run_call T.facts same hC (PySem.W.looks_findIn I.kIn hi) (fun self => PySem.W.bind_fn I.kIn self tI) small ?_)
  refine codeAny_mono (F.run _ X.stack _ _ ⟨Value.ref (hp.objs.size + 1) :: us, kw⟩ _ _ _ E0 (room.make C us kw) (J.env0.make C us kw) (binds _ _ J.kIn) rel2 q0) ?_
  intro r s' hr
  cases r with
  | error e => exact (show False from hr).elim
  | ok fl =>
    cases fl with
    | ret u =>
      obtain ⟨v, H2, J2, rv, ev, q2⟩ := J.after hr
      subst ev
      exact ⟨rv, ⟨V.ref (hp.objs.size + 1), H2, J2, rfl, q2⟩⟩
    | next => exact hr.elim
    | brk => exact hr.elim
    | cont => exact hr.elim
end
/-- C(e, ..) -/
def tMk (C : Addr) (sp : Sp) (ta : TA) : TE := fun σ H Q => ta σ H fun vs H1 => vs.length ≤ 100 ∧ ∀ a, H1 a = none →
  sp (.ref a :: vs) (upd H1 a (exo a C none)) (fun v H2 => v = .non ∧ Q (.ref a) H2) E0
def tMkK (C : Addr) (sp : Sp) (gV : List V → List V) (tk : TA) : TE := fun σ H Q => tk σ H fun vs H1 => ∀ a, H1 a = none →
  sp (.ref a :: gV vs) (upd H1 a (exo a C none)) (fun v H2 => v = .non ∧ Q (.ref a) H2) E0
section
variable {X : Cx} {C fI : Addr} {fd : FuncData} {ps ks : List Str} {sp : Sp} {k : Nat} {B newId initId : String} {bmB : List Value}
  {x : Str} {p pos : Pos} {e : Expr} {es : List Expr} {t tk : TA} {kws : List Keyword}
theorem pe_mk (T : ExK X.K C B newId initId bmB)
    (hi : PySem.W.findIn X.K (.ref C) "__init__" = some (some (.ref fI))) (tI : PySem.W.typeIn X.K (.ref fI) = some (.type "function"))
    (F : FnOk X.prog X.w X.K X.mg X.base CX0 k fI fd ps sp) (hb : Binds X.K fd ps []) (room : Room (k + 1) X.A) (hg : Gl X x) (hm : X.mg x = some (.ref C)) (ha : PA X (e :: es) t)
    (hdb : (x == ("__debug__" : Str)) = false := by decide) (he : starEach (e :: es) X.env = (false, eval e X.env) :: starEach es X.env := by rfl)
    (hpl : (backTo pos (starEach es X.env)).any (·.1) = false := by rfl) : PE X (.Call (.Name x p) (e :: es) [] pos) (tMk C sp t) := by
  constructor
  intro pins s σ H Q I h
  refine wpAny_Call_Name_kw (ld_glob I hg hm ?_ hdb)
  refine PySem.W.callWith_K (h₀ := X.base) I.ok.mod.kin T.keep ?_ he hpl
  refine thn (ha.run pos pins s σ H _ I h) ?_
  rintro us s1 ⟨vs, H1, J, r, hl, q⟩
  refine ⟨J.kIn, ?_⟩
  have hlen : (Value.none :: us).length = ps.length := by
    have z := F.len _ _ _ _ (q s1.heap.objs.size (J.hok.fresh (Nat.le_refl _)))
    rw [← z, List.length_cons, List.length_cons, r.length]
  refine run_mk (bs := us) (kw := []) T hi tI F room J r (fun s' self hK => ?_) (by show us.length ≤ sizeLine; rw [← r.length]; exact small_line (by omega)) q
  have z := hb s' (self :: us) hK (by rw [List.append_nil]; exact hlen)
  rw [List.append_nil] at z
  exact z
theorem pe_mkK (T : ExK X.K C B newId initId bmB) {g : List Value → List Value} {gV : List V → List V}
    (hi : PySem.W.findIn X.K (.ref C) "__init__" = some (some (.ref fI))) (tI : PySem.W.typeIn X.K (.ref fI) = some (.type "function"))
    (F : FnOk X.prog X.w X.K X.mg X.base CX0 k fI fd ps sp) (hgV : ∀ vs us, Vals vs us → Vals (gV vs) (g us))
    (hb : ∀ (s : Shared) (self : Value) (ws : List Value), ws.length = ks.length → BindsTo s fd ⟨[self], ks.zip ws⟩ (ps.zip (self :: g ws)))
    (room : Room (k + 1) X.A) (hg : Gl X x) (hm : X.mg x = some (.ref C)) (hkw : PK X kws tk) (hn : ∀ σ H Q, tk σ H Q → tk σ H fun vs H1 => vs.length = ks.length ∧ Q vs H1)
    (hall : (backToKw pos (keywordEach kws X.env)).all (·.1.isSome) = true := by rfl) (hks : (backToKw pos (keywordEach kws X.env)).filterMap (·.1) = ks := by rfl)
    (hdb : (x == ("__debug__" : Str)) = false := by decide)
    (hpl : ((backTo pos (starEach [] X.env)).any (·.1) || (backToKw pos (keywordEach kws X.env)).any (·.1.isNone)) = false := by rfl) :
    PE X (.Call (.Name x p) [] kws pos) (tMkK C sp gV tk) := by
  constructor
  intro pins s σ H Q I h
  refine wpAny_Call_Name_kw (ld_glob I hg hm ?_ hdb)
  refine PySem.W.callWith_KW0 (h₀ := X.base) I.ok.mod.kin T.keep hall ?_ hpl
  refine thn (hkw.run pos pins s σ H _ I (hn _ _ _ h)) ?_
  rintro ws s1 ⟨vs, H1, J, r, hl, q⟩
  refine ⟨J.kIn, ?_⟩
  rw [hks]
  exact run_mk (us := []) (bs := g ws) (kw := ks.zip ws) T hi tI F room J (hgV _ _ r) (fun s' self _ => hb s' self ws (by rw [← r.length]; exact hl)) (small_line (by decide)) q
end
/-- o.f of an exception that has its dict -/
def tGet (C : Addr) (f : Str) (to : TE) : TE := fun σ H Q => to σ H fun x H1 => ∃ (a d : Addr) (fs : List (Str × V)) (v : V), x = .ref a ∧ H1 a = some (exo a C (some d)) ∧ H1 d = some (exd d fs) ∧ fs.lookup f = some v ∧ Q v H1
theorem pe_get {X : Cx} {o : Expr} {to : TE} {f : Str} {pos : Pos} {C : Addr} {B newId initId : String} {bmB : List Value} (T : ExK X.K C B newId initId bmB) (hno : PySem.W.findIn X.K (.ref C) f = some none) (ho : PE X o to)
    (hb : attributeBase o f X.env (eval o X.env) = eval o X.env := by rfl) : PE X (.Attribute o f pos) (tGet C f to) := by
  constructor
  intro pins s σ H Q I h
  refine attr_of hb (thn (ho.run pins s σ H _ I h) ?_)
  rintro u s1 ⟨x, H1, J, r, a, d, fs, v, ex, ea, ed, hv, q⟩
  subst ex
  cases (show u = Value.ref a from r)
  obtain ⟨t1, hobj⟩ := exo_at J.hok ea
  obtain ⟨mA, ns, rel⟩ := exd_at J.hok ed
  have rv := rel f
  rw [hv] at rv
  obtain ⟨u', hu, ru⟩ := RelO.some_of rv
  obtain ⟨od, hod, look⟩ := lookIn_ns ns
  have inst : PySem.W.InstAt s1.heap a { cls := .ref C, dict := some d, data := .fields #[.ref t1, .none, .none, .none, .bool false, .none] } C (some od) := ⟨hobj, rfl, rfl, hod⟩
  exact PySem.PX.exc_get J.kIn inst T.ga T.gt T.sub (PySem.W.findObj_own T.dct hno rfl (by rw [look, hu])) (handed_of ru) ⟨v, H1, J.tok _, ru, q⟩
/-- isinstance(e, c), e an exception -/
def rIsX (K : PySem.W.Frag) : List V → Hp → VK → Prop := fun xs H Q => ∃ (a C : Addr) (d : Option Addr) (c : V) (cv : Value) (b : Bool), xs = [.ref a, c] ∧ H a = some (exo a C d) ∧ (∀ x, d = some x → ∃ fs, H x = some (exd x fs)) ∧
  ClsV c cv ∧ PySem.W.kitOne K (.ref C) cv = some b ∧ Q (.bl b) H
/-- the classes that a law's exceptions are of -/
def ExAll (K : PySem.W.Frag) (P : Addr → Prop) : Prop := ∀ C, P C → ∃ B newId initId bmB, ExK K C B newId initId bmB
theorem call_isX {X : Cx} {P : Addr → Prop} (T : ExAll X.K P) : CallR X (.builtin "isinstance") (fun xs H Q => rIsX X.K xs H Q ∧ ∀ a c, xs = [.ref a, c] → ∀ C d, H a = some (exo a C d) → P C) := by
  intro pins s σ H xs us Q I r h
  obtain ⟨⟨a, C, d, c, cv, b, rfl, ha, hd, hc, e, q⟩, hP⟩ := h
  obtain ⟨u1, u2, rfl, r1, r2⟩ := vals2 r
  cases (show u1 = Value.ref a from r1)
  have e2 := hc.eq r2
  subst e2
  obtain ⟨B, newId, initId, bmB, K0⟩ := T C (hP a c rfl C d ha)
  obtain ⟨t1, hobj⟩ := exo_at I.hok ha
  obtain ⟨cd, hcd, _⟩ := PySem.W.any_some K0.dct
  have hcl : (PySem.W.clsIn X.K C).isSome = true := by
    rw [hcd]
    rfl
  cases d with
  | none =>
    have inst : PySem.W.InstAt s.heap a { cls := .ref C, dict := none, data := .fields #[.ref t1, .none, .none, .none, .bool false, .none] } C none := ⟨hobj, rfl, rfl, trivial⟩
    exact PySem.W.kia_one (PySem.W.kitx_exc hcl K0.ga K0.gt K0.sub K0.cl K0.gg K0.tk K0.mo) I.kIn inst e (fun z => nomatch z) fun tk => ⟨.bl b, H, I.tok tk, rfl, q⟩
  | some x =>
    obtain ⟨fs, ex⟩ := hd x rfl
    obtain ⟨mA, ns, rel⟩ := exd_at I.hok ex
    obtain ⟨od, hod, look⟩ := lookIn_ns ns
    have inst : PySem.W.InstAt s.heap a { cls := .ref C, dict := some x, data := .fields #[.ref t1, .none, .none, .none, .bool false, .none] } C (some od) := ⟨hobj, rfl, rfl, hod⟩
    exact PySem.W.kia_one (PySem.W.kitx_exc hcl K0.ga K0.gt K0.sub K0.cl K0.gg K0.tk K0.mo) I.kIn inst e (fun z => nomatch z) fun tk => ⟨.bl b, H, I.tok tk, rfl, q⟩
end Hx

namespace Hx
open PySem PySem.Spec PyProof.Rows L2
section
variable {X : Cx} {C fI : Addr} {fd : FuncData} {ps : List Str} {sp : Sp} {k : Nat} {B newId initId : String} {bmB : List Value}
  {x : Str} {p pos : Pos} {e : Expr} {es : List Expr} {ta : TA}
/-- raise C(e, ..), C an own class over any built-in one whose __init__ is a def -/
theorem pmk_own2 (T : ExK X.K C B newId initId bmB) (ty : PySem.W.typeIn X.K (.ref C) = some (.type "type")) (hi : PySem.W.findIn X.K (.ref C) "__init__" = some (some (.ref fI))) (tI : PySem.W.typeIn X.K (.ref fI) = some (.type "function"))
    (F1 : FnOk X.prog X.w X.K X.mg X.base CX0 k fI fd ps sp) (room : Room (k + 1) X.A) (hb : Binds X.K fd ps []) (hg : Gl X x) (hm : X.mg x = some (.ref C)) (ha : PA X (e :: es) ta)
    (hdb : (x == ("__debug__" : Str)) = false := by decide) (he : starEach (e :: es) X.env = (false, eval e X.env) :: starEach es X.env := by rfl) (hpl : (backTo pos (starEach es X.env)).any (·.1) = false := by rfl) :
    PMk X (.Call (.Name x p) (e :: es) [] pos) (tMkO C sp [] ta) := by
  intro pins s σ H Q I h
  refine wpAny_Call_Name_kw (ld_glob I hg hm ?_ hdb)
  refine PySem.W.callWith_K (h₀ := X.base) I.ok.mod.kin T.keep (thn (ha.run pos pins s σ H _ I h) fun us s1 ⟨vs, H1, I1, r1, few, q1⟩ => ⟨I1.kIn, ?_⟩) he hpl
  obtain ⟨nm, N, qn, bs0, bm, hdct, sn, sub, ab, col, dd, k0, k1, k2, k3, k5, hC, same⟩ := PySem.W.excInit_of I1.kIn T.made
  obtain ⟨hp, g, dr, tk, os⟩ := s1
  have above : hp.objs.size ≤ hp.objs.size + 1 := Nat.le_succ _
  have n0 : H1 (hp.objs.size + 1) = none := I1.hok.fresh above
  have q0 := q1 _ n0
  rw [List.append_nil] at q0
  have J : Inv X pins σ (upd H1 (hp.objs.size + 1) (exo (hp.objs.size + 1) C none)) ⟨PySem.EK.madeHeap hp C us, g, dr, tk, os⟩ :=
    I1.laid (t' := tk) (h' := PySem.EK.madeHeap hp C us) (fun b o e => PySem.EK.made_keep b o e) above (exo_ok PySem.EK.made_at)
  have rel2 : Vals (V.ref (hp.objs.size + 1) :: vs) (Value.ref (hp.objs.size + 1) :: us) := .cons rfl r1
  have hl : ((Value.ref (hp.objs.size + 1) :: us) ++ []).length = ps.length := by
    rw [List.append_nil, ← rel2.length]
    exact F1.len _ _ _ _ q0
  have small : us.length ≤ sizeLine := by
    rw [← r1.length]
    exact small_line few
  have bind := hb _ (Value.ref (hp.objs.size + 1) :: us) J.kIn hl
  rw [List.append_nil] at bind
  refine wpAny_call (PySem.EK.run_call T.facts same hC (PySem.W.looks_findIn I1.kIn hi) (fun self => PySem.W.bind_fn I1.kIn self tI) small ?_)
  refine codeAny_mono (F1.run _ X.stack _ _ ⟨Value.ref (hp.objs.size + 1) :: us, []⟩ _ _ _ (fun _ _ _ => False) (room.make C us []) (J.env0.make C us []) bind rel2 q0) ?_
  intro r s' hr
  cases r with
  | error e => exact (show False from hr).elim
  | ok fl =>
    cases fl with
    | next => exact hr.elim
    | brk => exact hr.elim
    | cont => exact hr.elim
    | ret u =>
      obtain ⟨v, H2, os2, bare2, un2, hok2, rv, ev, d, fs, ea, ed, hd1, q2⟩ := hr
      subst ev
      obtain ⟨h2, g2, d2, t2, os'⟩ := s'
      exact ⟨rv, mk_end (raises_own T.sub ty) I1 above (fun b o e => PySem.EK.made_keep b o e) un2 hok2 os2 bare2 ea ed hd1 q2⟩
end
end Hx

namespace Hx
open PySem PySem.Spec PyProof.Rows L2
/-! comparing data -/
section
variable {X : Cx}
def rNeQ : R2 := fun x y H Q => ∃ d e, Dq H x d ∧ Dq H y e ∧ SeqAt.shaped d = true ∧ SeqAt.shaped e = true ∧ Q (.bl (!PyData.eqv d e)) H
def rEqQ : R2 := fun x y H Q => ∃ d e, Dq H x d ∧ Dq H y e ∧ SeqAt.shaped d = true ∧ SeqAt.shaped e = true ∧ Q (.bl (PyData.eqv d e)) H
theorem op_neQ (hu : X.A.units + 64 < cLine) : OpR X (compareOp .NotEq) rNeQ := by
  intro pins s σ H x y v u Q I rx ry h
  obtain ⟨d, e, hd, he, sd, se, q⟩ := h
  obtain ⟨as, r1, _⟩ := Dq.reads I d x v hd rx
  obtain ⟨bs, r2, _⟩ := Dq.reads I e y u he ry
  exact SeqAt.compareNe_shaped r1 r2 sd se hu ⟨.bl _, H, I, rfl, q⟩
theorem op_eqQ (hu : X.A.units + 64 < cLine) : OpR X (compareOp .Eq) rEqQ := by
  intro pins s σ H x y v u Q I rx ry h
  obtain ⟨d, e, hd, he, sd, se, q⟩ := h
  obtain ⟨as, r1, _⟩ := Dq.reads I d x v hd rx
  obtain ⟨bs, r2, _⟩ := Dq.reads I e y u he ry
  exact SeqAt.compareEq_shaped r1 r2 sd se hu ⟨.bl _, H, I, rfl, q⟩
end
/-! comprehensions that make data -/
def without (D : Addr) (H : Hp) : Hp := fun b => if b = D then none else H b
def newPart (H H' : Hp) : Hp := fun b => if H b = none then H' b else none
theorem without_some {D b : Addr} {H : Hp} {o : HO} (h : without D H b = some o) : b ≠ D ∧ H b = some o := by
  unfold without at h
  split at h
  · cases h
  · exact ⟨by assumption, h⟩
theorem without_at {D b : Addr} {H : Hp} {o : HO} (n : b ≠ D) (h : H b = some o) : without D H b = some o := by
  unfold without
  rw [if_neg n]
  exact h
theorem newPart_some {b : Addr} {H H' : Hp} {o : HO} (h : newPart H H' b = some o) : H b = none ∧ H' b = some o := by
  unfold newPart at h
  split at h
  · exact ⟨by assumption, h⟩
  · cases h
theorem newPart_at {b : Addr} {H H' : Hp} {o : HO} (n : H b = none) (h : H' b = some o) : newPart H H' b = some o := by
  unfold newPart
  rw [if_pos n]
  exact h
theorem without_same {D : Addr} {H : Hp} : Same (without D H) H := fun b o h => (without_some h).2
theorem newPart_same {H H' : Hp} : Same (newPart H H') H' := fun b o h => (newPart_some h).2
theorem without_upd {D : Addr} {H : Hp} {o : HO} : without D (upd H D o) = without D H := by
  funext b
  unfold without
  split
  · rfl
  · rw [upd_ne (by assumption)]
theorem DqAll.snoc {H : Hp} {v : V} {d : PyData} : ∀ {vs : List V} {ds : List PyData}, DqAll H vs ds → Dq H v d → DqAll H (vs ++ [v]) (ds ++ [d])
  | _, _, .nil, h => .cons h .nil
  | _, _, .cons a r, h => .cons a (DqAll.snoc r h)
theorem DqAll.len {H : Hp} : ∀ {vs : List V} {ds : List PyData}, DqAll H vs ds → vs.length = ds.length
  | _, _, .nil => rfl
  | _, _, .cons _ r => congrArg Nat.succ (DqAll.len r)
/-- what a turn's element must do: a new datum, all else as it was -/
def Gives (te : TE) (σ : L2.St) (H : Hp) (d : PyData) : Prop := ∀ Q : VK, (∀ y H', Same H H' → Dq (newPart H H') y d → Q y H') → te σ H Q
def LcAt (H1 : Hp) (D : Addr) (f : Nat → PyData) (i : Nat) (H' : Hp) : Prop :=
  Same H1 H' ∧ ∃ xs, H' D = some (.lst xs) ∧ DqAll (without D H') xs ((List.range i).map f)
theorem LcAt.start {H1 : Hp} {D : Addr} {f : Nat → PyData} (hD : H1 D = none) : LcAt H1 D f 0 (upd H1 D (.lst [])) := ⟨same_new hD _, [], upd_same, .nil⟩
theorem LcAt.turn {H1 H' H2 : Hp} {D : Addr} {f : Nat → PyData} {i : Nat} {y : V} (hD : H1 D = none) (h : LcAt H1 D f i H') (s : Same H' H2) (hy : Dq (newPart H' H2) y (f i)) (hi : i < 100000) :
    ∃ acc, H2 D = some (.lst acc) ∧ acc.length < sizeLine ∧ LcAt H1 D f (i + 1) (upd H2 D (.lst (acc ++ [y]))) := by
  obtain ⟨s1, xs, hx, ha⟩ := h
  have hlen := ha.len
  rw [List.length_map, List.length_range] at hlen
  refine ⟨xs, s _ _ hx, by rw [hlen]; exact Nat.lt_of_lt_of_le hi (by decide), ?_, xs ++ [y], upd_same, ?_⟩
  · intro b o hb
    rw [upd_ne (ne_of_none hb hD)]
    exact s _ _ (s1 _ _ hb)
  · rw [without_upd, List.range_succ, List.map_append]
    refine DqAll.snoc (DqAll.same (fun b o hb => ?_) _ _ ha) (Dq.same (fun b o hb => ?_) _ _ hy)
    · obtain ⟨n, e⟩ := without_some hb
      exact without_at n (s _ _ e)
    · obtain ⟨n, e⟩ := newPart_some hb
      exact without_at (fun z => by rw [z, hx] at n; cases n) e
theorem lc_data_range {n : Nat} {i0 : Nat} {te : TE} {vs : List Nat} {σ : L2.St} {H1 : Hp} {D : Addr} {Qd : Hp → Prop} (f : Nat → PyData) (hD : H1 D = none) (hn : n ≤ 100000)
    (hw : ∀ x : V, wipe ((wipe σ vs).set i0 (some x)) vs = wipe σ vs)
    (hs : ∀ i H', i < n → Same H1 H' → Gives te ((wipe σ vs).set i0 (some (.int (i : Nat)))) H' (f i))
    (hd : ∀ H' xs, Same H1 H' → H' D = some (.lst xs) → DqAll H' xs ((List.range n).map f) → Qd H') :
    ∃ W : Nat → Nat → Hp → Prop, (∃ m, W 0 m (upd H1 D (.lst []))) ∧ ∀ i m H, W i m H →
      ((Itr 0 n).stop i H ∧ Qd H) ∨ ((Itr 0 n).go i H ∧ ∃ Nx : Hp → Prop, (∀ H', Nx H' → ∃ m', m' < m ∧ W (i + 1) m' H') ∧
        ∀ x H', (Itr 0 n).yld i H x H' → gName i0 x (wipe σ vs) H' fun σ2 H2 => wipe σ2 vs = wipe σ vs ∧ tYes σ2 H2 fun b H3 =>
          if b = true then te σ2 H3 fun y H4 => ∃ acc, H4 D = some (.lst acc) ∧ acc.length < sizeLine ∧ Nx (upd H4 D (.lst (acc ++ [y]))) else Nx H3) := by
  refine lc_range (lo := 0) (n := n) (LcAt H1 D f) (LcAt.start hD) ?_ ?_
  · intro i H' hi h
    refine ⟨hw _, turn_yes ?_⟩
    have e : (V.int (0 + (i : Int))) = V.int ((i : Nat) : Int) := by rw [Int.zero_add]
    rw [e]
    exact hs i H' hi h.1 _ fun y H2 s hy => h.turn hD s hy (by omega)
  · rintro H' ⟨s1, xs, hx, ha⟩
    exact hd H' xs s1 hx (DqAll.same without_same _ _ ha)
theorem lc_data_list {K : PySem.W.Frag} {a : Addr} {ws : List V} {i0 : Nat} {te : TE} {vs : List Nat} {σ : L2.St} {H1 : Hp} {D : Addr} {Qd : Hp → Prop} (f : Nat → PyData) (hD : H1 D = none) (hn : ws.length ≤ 100000)
    (hl : SqL K H1 a ws) (hw : ∀ x : V, wipe ((wipe σ vs).set i0 (some x)) vs = wipe σ vs)
    (hs : ∀ i x H', ws[i]? = some x → Same H1 H' → Gives te ((wipe σ vs).set i0 (some x)) H' (f i))
    (hd : ∀ H' xs, Same H1 H' → H' D = some (.lst xs) → DqAll H' xs ((List.range ws.length).map f) → Qd H') :
    ∃ W : Nat → Nat → Hp → Prop, (∃ m, W 0 m (upd H1 D (.lst []))) ∧ ∀ i m H, W i m H →
      ((Itl K a).stop i H ∧ Qd H) ∨ ((Itl K a).go i H ∧ ∃ Nx : Hp → Prop, (∀ H', Nx H' → ∃ m', m' < m ∧ W (i + 1) m' H') ∧
        ∀ x H', (Itl K a).yld i H x H' → gName i0 x (wipe σ vs) H' fun σ2 H2 => wipe σ2 vs = wipe σ vs ∧ tYes σ2 H2 fun b H3 =>
          if b = true then te σ2 H3 fun y H4 => ∃ acc, H4 D = some (.lst acc) ∧ acc.length < sizeLine ∧ Nx (upd H4 D (.lst (acc ++ [y]))) else Nx H3) := by
  refine lc_list (K := K) (a := a) (xs := ws) (LcAt H1 D f) (LcAt.start hD) (fun i H' _ h => h.1.seq hl) ?_ ?_
  · intro i x H' hi h
    have lt : i < ws.length := (List.getElem?_eq_some_iff.mp hi).1
    refine ⟨hw _, turn_yes ?_⟩
    exact hs i x H' hi h.1 _ fun y H2 s hy => h.turn hD s hy (by omega)
  · rintro H' ⟨s1, xs, hx, ha⟩
    exact hd H' xs s1 hx (DqAll.same without_same _ _ ha)
/-! isinstance of an exception -/
/-- at a stands an exception of the class at C -/
def XAt (H : Hp) (a C : Addr) : Prop := ∃ d, H a = some (exo a C d) ∧ ∀ x, d = some x → ∃ fs, H x = some (exd x fs)
theorem XAt.same {H H' : Hp} {a C : Addr} (h : XAt H a C) (s : Same H H') : XAt H' a C := by
  obtain ⟨d, e, k⟩ := h
  refine ⟨d, s _ _ e, fun x hx => ?_⟩
  obtain ⟨fs, z⟩ := k x hx
  exact ⟨fs, s _ _ z⟩
def tIs (i : Nat) (a C : Addr) (b : Bool) : TE := fun σ H Q => σ[i]? = some (some (.ref a)) ∧ XAt H a C ∧ Q (.bl b) H
section
variable {X : Cx} {a C : Addr} {i : Nat} {x : Str} {p p1 pos : Pos} {ce : Expr} {c : V} {cv : Value} {b : Bool} {B newId initId : String} {bmB : List Value}
theorem call_isK (T : ExK X.K C B newId initId bmB) : CallR X (.builtin "isinstance") (fun xs H Q => ∃ (a : Addr) (c : V) (cv : Value) (b : Bool), xs = [.ref a, c] ∧ XAt H a C ∧ ClsV c cv ∧ PySem.W.kitOne X.K (.ref C) cv = some b ∧ Q (.bl b) H) := by
  intro pins s σ H xs us Q I r h
  obtain ⟨a, c, cv, b, rfl, ⟨d, ha, hd⟩, hc, e, q⟩ := h
  obtain ⟨u1, u2, rfl, r1, r2⟩ := vals2 r
  cases (show u1 = Value.ref a from r1)
  have e2 := hc.eq r2
  subst e2
  obtain ⟨t1, hobj⟩ := exo_at I.hok ha
  obtain ⟨cd, hcd, _⟩ := PySem.W.any_some T.dct
  have hcl : (PySem.W.clsIn X.K C).isSome = true := by
    rw [hcd]
    rfl
  cases d with
  | none =>
    have inst : PySem.W.InstAt s.heap a { cls := .ref C, dict := none, data := .fields #[.ref t1, .none, .none, .none, .bool false, .none] } C none := ⟨hobj, rfl, rfl, trivial⟩
    exact PySem.W.kia_one (PySem.W.kitx_exc hcl T.ga T.gt T.sub T.cl T.gg T.tk T.mo) I.kIn inst e (fun z => nomatch z) fun tk => ⟨.bl b, H, I.tok tk, rfl, q⟩
  | some x =>
    obtain ⟨fs, ex⟩ := hd x rfl
    obtain ⟨mA, ns, rel⟩ := exd_at I.hok ex
    obtain ⟨od, hod, look⟩ := lookIn_ns ns
    have inst : PySem.W.InstAt s.heap a { cls := .ref C, dict := some x, data := .fields #[.ref t1, .none, .none, .none, .bool false, .none] } C (some od) := ⟨hobj, rfl, rfl, hod⟩
    exact PySem.W.kia_one (PySem.W.kitx_exc hcl T.ga T.gt T.sub T.cl T.gg T.tk T.mo) I.kIn inst e (fun z => nomatch z) fun tk => ⟨.bl b, H, I.tok tk, rfl, q⟩
theorem pe_is (T : ExK X.K C B newId initId bmB) (hg : Gl X "isinstance") (hm : X.mg "isinstance" = none) (hx : PE X (.Name x p1) (tVar i)) (hc : PE X ce (tC c)) (cl : ClsV c cv)
    (hk : PySem.W.kitOne X.K (.ref C) cv = some b) (he1 : starEach [.Name x p1, ce] X.env = (false, eval (.Name x p1) X.env) :: starEach [ce] X.env := by rfl)
    (he2 : starEach [ce] X.env = (false, eval ce X.env) :: starEach [] X.env := by rfl)
    (hpl : (backTo pos (starEach [ce] X.env)).any (·.1) = false := by rfl) : PE X (.Call (.Name "isinstance" p) [.Name x p1, ce] [] pos) (tIs i a C b) := by
  constructor
  intro pins s σ H Q I h
  obtain ⟨h1, h2, h3⟩ := h
  exact (pe_callB (call_isK T) hg hm PyProof.Rows.boot_isinstance (pa_cons hx (pa_cons hc pa_nil he2) he1) (by decide) (by decide) he1 hpl).run pins s σ H Q I ⟨_, h1, a, c, cv, b, rfl, h2, cl, hk, h3⟩
end
/-- C(), C an own exception class without __init__ -/
theorem pe_mk0 {X : Cx} {C : Addr} {B newId initId : String} {bmB : List Value} {x : Str} {p pos : Pos} (F : ExcBaseFacts B newId initId bmB) (q : PySem.W.excIn X.K C bmB newId = true)
    (gC : X.mg x = some (.ref C)) (kC : PySem.W.keepIn X.K (.ref C) = true) (hg : Gl X x) (hdb : (x == ("__debug__" : Str)) = false := by decide) :
    PE X (.Call (.Name x p) [] [] pos) (fun σ H Q => ∀ a, H a = none → Q (.ref a) (upd H a (exo a C none))) := by
  constructor
  intro pins s σ H Q I h
  refine wpAny_Call_Name_kw (ld_glob I hg gC ?_ hdb)
  refine PySem.W.callWith_K0 I.kIn kC ?_
  show wpAny _ _ (call (.ref C) []) _ _ _
  obtain ⟨bm, N, nm, qn, bs, hdct, sn, sub, ab, col, dd, k0, k1, k2, k3, k5, mN, hC, hN, hni, T⟩ := exc_obj I.kIn q
  refine wpAny_call_exc_subT F T hC hN hni (fun h' a hm => ?_) (by show 0 ≤ sizeLine; exact Nat.zero_le _)
  have hn : H a = none := I.hok.gone hm.new
  obtain ⟨t, ht, _, _⟩ := hm.there
  exact ⟨.ref a, upd H a (exo a C none), I.laidN hm.keeps hm.new hn (exo_ok ht), rfl, h a hn⟩
end Hx

namespace Wp
open PySem PySem.Spec PyProof.Rows L2 Hx
/-! ### what values are -/
/-- no integer: of another class, or True, False -/
def NotInt (K : PySem.W.Frag) (H : Hp) (v : V) : Prop := ∃ t bi bb, TyX K H v t ∧ PySem.W.kitOne K t (.type "int") = some bi ∧ PySem.W.kitOne K t (.type "bool") = some bb ∧ (bi && !bb) = false
def NotStr (K : PySem.W.Frag) (H : Hp) (v : V) : Prop := ∃ t, TyX K H v t ∧ PySem.W.kitOne K t (.type "str") = some false
def letterB (c : Nat) : Bool := decide (97 ≤ c ∧ c ≤ 122)
/-- a text of one letter to m -/
def lettered (m : Int) (x : Str) : Bool := decide (1 ≤ (x.length : Int)) && (decide ((x.length : Int) ≤ m) && x.cps.toList.all letterB)
def abc : Str := "abcdefghijklmnopqrstuvwxyz"
theorem abc_list : abc.cps.toList = [97, 98, 99, 100, 101, 102, 103, 104, 105, 106, 107, 108, 109, 110, 111, 112, 113, 114, 115, 116, 117, 118, 119, 120, 121, 122] := by decide +kernel
theorem is_letter {c : Nat} : decide (c ∈ abc.cps.toList) = letterB c := by
  rw [abc_list]
  unfold letterB
  rw [Bool.eq_iff_iff, decide_eq_true_eq, decide_eq_true_eq]
  simp only [List.mem_cons, List.not_mem_nil, or_false]
  omega
def noNames : List Str := ["weave", "part", "drop", "lead", "turn"]
structure Consts (mg : Str → Option Value) (K : PySem.W.Frag) : Prop where
  letters : ∃ t, mg "LETTERS" = some (.str abc t)
  most : ∃ t, mg "MOST_LETTERS" = some (.int 8 t)
  signs : ∃ t, mg "MOST_SIGNS" = some (.int 4 t)
  base : ∃ t, mg "MOST_BASE" = some (.int 4 t)
  least : ∃ t, mg "LEAST_BASE" = some (.int 2 t)
  drop : ∃ t, mg "MOST_DROP" = some (.int 9 t)
  no : ∃ p, mg "NO_NAMES" = some (.ref p) ∧ ∀ H, SqT K H p (noNames.map V.str)
structure Bltn (mg : Str → Option Value) : Prop where
  isinstance : mg "isinstance" = none
  int : mg "int" = none
  bool : mg "bool" = none
  str : mg "str" = none
  len : mg "len" = none
  all : mg "all" = none
def spIsInt (K : PySem.W.Frag) : Sp := fun vs H Q _ => ∃ v, vs = [v] ∧ ((∃ i, v = .int i ∧ Q (.bl true) H) ∨ (NotInt K H v ∧ Q (.bl false) H))
def spWithin (K : PySem.W.Frag) : Sp := fun vs H Q _ => ∃ (v : V) (l m : Int), vs = [v, .int l, .int m] ∧ ((∃ i, v = .int i ∧ Q (.bl (decide (l ≤ i) && decide (i ≤ m))) H) ∨ (NotInt K H v ∧ Q (.bl false) H))
def spLettered (K : PySem.W.Frag) : Sp := fun vs H Q _ => ∃ (v : V) (m : Int), vs = [v, .int m] ∧ m ≤ 1000 ∧ ((∃ x : Str, v = .str x ∧ x.length ≤ 100000 ∧ ∀ H', Same H H' → Q (.bl (lettered m x)) H') ∨ (NotStr K H v ∧ Q (.bl false) H))
section
variable {P : Program} {w : World} {K : PySem.W.Frag} {mg : Str → Option Value} {base : Heap} {f fI fW fL fN : Addr} {fd fdI fdW fdL fdN : FuncData}
theorem scIsInt : FnScope ["value"] ["value"] (defScope s_is_integer) := ⟨rfl, rfl, rfl, by decide +kernel, rfl, by decide +kernel, by decide +kernel⟩
theorem ok_isint (F : Fun K "is_integer" "is_integer" s_is_integer f fd) (Z : Bltn mg) : FnOk P w K mg base CX0 1 f fd ["value"] (spIsInt K) := by
  refine F.ok scIsInt (fun vs H Q E h => ?_) (fun cdv A outer s H vs Q E hr h => ?_)
  · obtain ⟨v, rfl, _⟩ := h
    rfl
  obtain ⟨v, rfl, h⟩ := h
  refine ⟨_, pss_one (ps_ret (pe_and (pe_callB call_isi (by rfl) Z.isinstance PyProof.Rows.boot_isinstance (pa_cons (pv 0) (pa_cons (pe_bty (T := "int") rfl Z.int (by decide +kernel)) pa_nil)))
    (pe_one (pe_not (pe_callB call_isi (by rfl) Z.isinstance PyProof.Rows.boot_isinstance (pa_cons (pv 0) (pa_cons (pe_bty (T := "bool") rfl Z.bool (by decide +kernel)) pa_nil))))))), ?_⟩
  rcases h with ⟨i, rfl, q⟩ | ⟨⟨t, bi, bb, ty, k1, k2, e⟩, q⟩
  · refine ⟨_, rfl, _, _, .type "int", _, true, rfl, .ty "int", .base (.int i), kit_ty (by decide +kernel), _, rfl, iteT ?_⟩
    exact ⟨_, rfl, _, _, .type "int", _, false, rfl, .ty "bool", .base (.int i), kit_ty (by decide +kernel), _, rfl, q⟩
  · refine ⟨_, rfl, _, _, t, _, bi, rfl, .ty "int", ty, k1, _, rfl, ?_⟩
    cases bi with
    | false => exact iteF q
    | true =>
      refine iteT ⟨_, rfl, _, _, t, _, bb, rfl, .ty "bool", ty, k2, _, rfl, ?_⟩
      cases bb with
      | true => exact q
      | false => cases e
theorem scWithin : FnScope ["value", "least", "most"] ["value", "least", "most"] (defScope s_is_within) := ⟨rfl, rfl, rfl, by decide +kernel, rfl, by decide +kernel, by decide +kernel⟩
theorem ok_within (F : Fun K "is_within" "is_within" s_is_within f fd) (GI : FnOk P w K mg base CX0 1 fI fdI ["value"] (spIsInt K)) (bI : Binds K fdI ["value"] []) (kI : PySem.W.keepIn K (.ref fI) = true) (mI : mg "is_integer" = some (.ref fI)) :
    FnOk P w K mg base CX0 2 f fd ["value", "least", "most"] (spWithin K) := by
  refine F.ok scWithin (fun vs H Q E h => ?_) (fun cdv A outer s H vs Q E hr h => ?_)
  · obtain ⟨v, l, m, rfl, _⟩ := h
    rfl
  obtain ⟨v, l, m, rfl, h⟩ := h
  refine ⟨_, pss_one (ps_ret (pe_and (pe_call GI hr rfl mI kI bI .nil pass0 (pa_cons (pv 0) pa_nil)) (pe_one (pe_chain op_le op_le (pv 1) (pv 0) (pv 2))))), ?_⟩
  rcases h with ⟨i, rfl, q⟩ | ⟨n, q⟩
  · refine ⟨_, rfl, _, rfl, .inl ⟨i, rfl, _, rfl, iteT ?_⟩⟩
    refine ⟨_, rfl, _, rfl, _, _, rfl, rfl, _, rfl, ?_⟩
    by_cases c : l ≤ i
    · rw [decide_eq_true c] at q ⊢
      exact iteT ⟨_, rfl, _, _, rfl, rfl, q⟩
    · rw [decide_eq_false c] at q ⊢
      exact iteF q
  · exact ⟨_, rfl, _, rfl, .inr ⟨n, _, rfl, iteF q⟩⟩
theorem scLettered : FnScope ["value", "most", "letter"] ["value", "most"] (defScope s_is_lettered) := ⟨rfl, rfl, rfl, by decide +kernel, rfl, by decide +kernel, by decide +kernel⟩
theorem ok_lettered (F : Fun K "is_lettered" "is_lettered" s_is_lettered f fd) (Z : Bltn mg) (C : Consts mg K) : FnOk P w K mg base CX0 1 f fd ["value", "most"] (spLettered K) := by
  refine F.ok scLettered (fun vs H Q E h => ?_) (fun cdv A outer s H vs Q E hr h => ?_)
  · obtain ⟨v, m, rfl, _⟩ := h
    rfl
  obtain ⟨v, m, rfl, m1, h⟩ := h
  obtain ⟨tl, ml⟩ := C.letters
  refine ⟨_, pss_cons (ps_if (PW.pt (pw_or (pt_not (pt_val (pe_callB call_isi (by rfl) Z.isinstance PyProof.Rows.boot_isinstance (pa_cons (pv 0) (pa_cons (pe_bty (T := "str") rfl Z.str (by decide +kernel)) pa_nil)))))
      (pw_or1 (pt_not (pt_chain op_le op_le pe_int (pe_callB call_len_str (by rfl) Z.len PySem.boot_len (pa_cons (pv 0) pa_nil)) (pv 1)))))) (pss_one (ps_ret pe_bl)) pss_nil)
    (pss_one (ps_ret (pe_callB (cr_all rfl) (by rfl) Z.all PyProof.Rows.boot_all (pa_cons (pe_lc (own := [("letter", 2)]) (g := gName 2) (tt := tYes) rfl scLettered.nd (pi_str (pv 0))
      (blkOk_by (N := ["value", "most", "letter"]) (sc := defScope s_is_lettered) (by decide +kernel)) (fun _ _ _ _ _ => pg_name (i := 2) scLettered.nd rfl (Or.inl rfl)) (fun _ _ _ _ _ => pts_nil)
      (fun _ _ _ _ _ => pe_cmpR op_in_sign (pv 2) (pe_glob (v := .str abc) rfl ml ⟨_, rfl⟩) (by rfl))) pa_nil)))), ?_⟩
  rcases h with ⟨x, rfl, few, q⟩ | ⟨⟨t, ty, k1⟩, q⟩
  · have small : x.length ≤ sizeLine := Nat.le_trans few (by decide)
    refine ⟨_, rfl, _, _, .type "str", _, true, rfl, .ty "str", .base (.str x), kit_ty (by decide +kernel), _, rfl, iteF ?_⟩
    refine ⟨_, rfl, x, rfl, small, _, _, rfl, rfl, _, rfl, ?_⟩
    by_cases c1 : (1 : Int) ≤ (x.length : Int)
    · rw [decide_eq_true c1]
      refine iteT ⟨_, rfl, _, _, rfl, rfl, _, rfl, ?_⟩
      by_cases c2 : (x.length : Int) ≤ m
      · have el : lettered m x = x.cps.toList.all letterB := by
          unfold lettered
          rw [decide_eq_true c1, decide_eq_true c2, Bool.true_and, Bool.true_and]
        rw [el] at q
        rw [decide_eq_true c2]
        refine iteF ?_
        refine ⟨_, rfl, x, rfl, fun D hD => ?_⟩
        refine L2.lc_it L2.walk_str (fun i H' => Same H H' ∧ H' D = some (.lst (((x.cps.toList.take i).map letterB).map V.bl))) ⟨same_new hD _, upd_same⟩ (fun _ _ _ _ => trivial) ?_ ?_
        · rintro i _ H1 _ hi ⟨s1, h1⟩ ⟨rfl, c, hc, rfl⟩
          refine ⟨rfl, turn_yes ⟨_, rfl, c, abc, rfl, rfl, ?_⟩⟩
          have hc2 : x.cps.toList[i]? = some c := by rw [Array.getElem?_toList]; exact hc
          refine ⟨_, h1, ?_, fun b o hb => ?_, ?_⟩
          · rw [List.length_map, List.length_map, List.length_take]
            exact Nat.lt_of_le_of_lt (Nat.le_trans (Nat.min_le_right _ _) few) (by decide)
          · rw [upd_ne (ne_of_none hb hD)]
            exact s1 b o hb
          · rw [upd_same, is_letter, List.take_add_one, hc2, List.map_append, List.map_append]
            rfl
        · rintro H1 ⟨s1, h1⟩
          rw [List.take_of_length_le (by rw [Array.length_toList]; exact Nat.le_refl _)] at h1
          refine ⟨D, _, rfl, SqL.of h1, ?_⟩
          rw [List.all_map]
          exact q H1 s1
      · have el : lettered m x = false := by
          unfold lettered
          rw [decide_eq_false c2, Bool.false_and, Bool.and_false]
        rw [el] at q
        rw [decide_eq_false c2]
        exact iteT (q H (Same.refl H))
    · have el : lettered m x = false := by
        unfold lettered
        rw [decide_eq_false c1, Bool.false_and]
      rw [el] at q
      rw [decide_eq_false c1]
      exact iteF ⟨_, rfl, iteT (q H (Same.refl H))⟩
  · exact ⟨_, rfl, _, _, t, _, false, rfl, .ty "str", ty, k1, _, rfl, iteT (iteT q)⟩
end
end Wp

namespace Hx
open PySem PySem.Spec PyProof.Rows L2
/-- at a stands an exception of the class at C with these fields -/
def EAt (H : Hp) (a C : Addr) (fs : List (Str × V)) : Prop := ∃ d, H a = some (exo a C (some d)) ∧ H d = some (exd d fs)
theorem EAt.same {H H' : Hp} {a C : Addr} {fs : List (Str × V)} (h : EAt H a C fs) (s : Same H H') : EAt H' a C fs := by
  obtain ⟨d, h1, h2⟩ := h
  exact ⟨d, s _ _ h1, s _ _ h2⟩
theorem EAt.x {H : Hp} {a C : Addr} {fs : List (Str × V)} (h : EAt H a C fs) : XAt H a C := by
  obtain ⟨d, h1, h2⟩ := h
  refine ⟨some d, h1, fun x hx => ?_⟩
  cases hx
  exact ⟨fs, h2⟩
/-- an own exception class x at C whose __init__ keeps its one parameter f -/
structure MkC (P : Program) (w : World) (K : PySem.W.Frag) (mg : Str → Option Value) (base : Heap) (x : Str) (C : Addr) (f : Str) : Prop where
  go : ∃ (fI : Addr) (fd : FuncData) (B newId initId : String) (bmB : List Value), ExK K C B newId initId bmB ∧ PySem.W.findIn K (.ref C) "__init__" = some (some (.ref fI)) ∧
    PySem.W.typeIn K (.ref fI) = some (.type "function") ∧ FnOk P w K mg base CX0 1 fI fd ["self", f] (spIn1 C f) ∧ Binds K fd ["self", f] [] ∧
    ∀ (s : Shared) (self w1 : Value), BindsTo s fd ⟨[self], [(f, w1)]⟩ [("self", self), (f, w1)]
  m : mg x = some (.ref C)
  no : PySem.W.findIn K (.ref C) f = some none
structure MkC2 (P : Program) (w : World) (K : PySem.W.Frag) (mg : Str → Option Value) (base : Heap) (x : Str) (C : Addr) (f g : Str) : Prop where
  go : ∃ (fI : Addr) (fd : FuncData) (B newId initId : String) (bmB : List Value), ExK K C B newId initId bmB ∧ PySem.W.findIn K (.ref C) "__init__" = some (some (.ref fI)) ∧
    PySem.W.typeIn K (.ref fI) = some (.type "function") ∧ FnOk P w K mg base CX0 1 fI fd ["self", f, g] (spIn2 C f g) ∧ Binds K fd ["self", f, g] [] ∧
    ∀ (s : Shared) (self w1 w2 : Value), BindsTo s fd ⟨[self], [(g, w2), (f, w1)]⟩ [("self", self), (f, w1), (g, w2)]
  m : mg x = some (.ref C)
  no : PySem.W.findIn K (.ref C) f = some none
  no2 : PySem.W.findIn K (.ref C) g = some none
/-- X(y), y in slot i -/
def tNew (i : Nat) (C : Addr) (f : Str) : TE := fun σ H Q => ∃ v, σ[i]? = some (some v) ∧ ∀ a H', H a = none → Same H H' → EAt H' a C [(f, v)] → Q (.ref a) H'
def tNew2 (i j : Nat) (C : Addr) (f g : Str) : TE := fun σ H Q => ∃ v u, σ[i]? = some (some v) ∧ σ[j]? = some (some u) ∧ ∀ a H', H a = none → Same H H' → EAt H' a C [(g, u), (f, v)] → Q (.ref a) H'
theorem made_same {H : Hp} {a d C : Addr} {o o1 o2 : HO} (na : H a = none) (nd : upd H a o d = none) : Same H (upd (upd (upd H a o) d o1) a o2) := fun b u hb => by
  rw [upd_ne (ne_of_none hb na)]
  exact ((same_new na o).trans (same_new nd o1)) b u hb
section
variable {X : Cx} {x y z f g : Str} {C : Addr} {i j : Nat} {p py pz pos kp kq : Pos}
theorem pe_new (M : MkC X.prog X.w X.K X.mg X.base x C f) (room : Room 2 X.A) (hg : Gl X x) (hy : PE X (.Name y py) (tVar i))
    (hdb : (x == ("__debug__" : Str)) = false := by decide) (he : starEach [.Name y py] X.env = (false, eval (.Name y py) X.env) :: starEach [] X.env := by rfl)
    (hpl : (backTo pos (starEach [] X.env)).any (·.1) = false := by rfl) : PE X (.Call (.Name x p) [.Name y py] [] pos) (tNew i C f) := by
  obtain ⟨fI, fd, B, newId, initId, bmB, T, hi, tI, F, hb, _⟩ := M.go
  constructor
  intro pins s σ H Q I h
  obtain ⟨v, hv, q⟩ := h
  refine (pe_mk T hi tI F hb room hg M.m (pa_cons hy pa_nil he) hdb he hpl).run pins s σ H Q I ⟨v, hv, (by show 1 ≤ 100; decide), fun a na => ?_⟩
  refine ⟨a, v, rfl, upd_same, fun d nd ne => ⟨rfl, q a _ na (made_same (C := C) na nd) ⟨d, upd_same, ?_⟩⟩⟩
  rw [upd_ne ne]
  exact upd_same
theorem pe_newK (M : MkC X.prog X.w X.K X.mg X.base x C f) (room : Room 2 X.A) (hg : Gl X x) (hy : PE X (.Name y py) (tVar i))
    (hdb : (x == ("__debug__" : Str)) = false := by decide)
    (hall : (backToKw pos (keywordEach [⟨some f, .Name y py, kp⟩] X.env)).all (·.1.isSome) = true := by rfl)
    (hks : (backToKw pos (keywordEach [⟨some f, .Name y py, kp⟩] X.env)).filterMap (·.1) = [f] := by rfl)
    (hpl : ((backTo pos (starEach [] X.env)).any (·.1) || (backToKw pos (keywordEach [⟨some f, .Name y py, kp⟩] X.env)).any (·.1.isNone)) = false := by rfl) :
    PE X (.Call (.Name x p) [] [⟨some f, .Name y py, kp⟩] pos) (tNew i C f) := by
  obtain ⟨fI, fd, B, newId, initId, bmB, T, hi, tI, F, _, hb⟩ := M.go
  constructor
  intro pins s σ H Q I h
  obtain ⟨v, hv, q⟩ := h
  refine (pe_mkK (g := id) (gV := id) T hi tI F (fun _ _ r => r) (fun s self ws hl => ?_) room hg M.m (pk_cons hy pk_nil) (fun σ H Q ⟨v, e, q⟩ => ⟨v, e, rfl, q⟩) hall hks hdb hpl).run pins s σ H Q I ⟨v, hv, fun a na => ?_⟩
  · match ws, hl with
    | [w1], _ => exact hb s self w1
  refine ⟨a, v, rfl, upd_same, fun d nd ne => ⟨rfl, q a _ na (made_same (C := C) na nd) ⟨d, upd_same, ?_⟩⟩⟩
  rw [upd_ne ne]
  exact upd_same
theorem made_same2 {H : Hp} {a d : Addr} {o o1 o2 o3 : HO} (na : H a = none) (nd : upd H a o d = none) : Same H (upd (upd (upd (upd H a o) d o1) a o2) d o3) := fun b u hb => by
  have n : b ≠ d := ne_of_none (same_new na o b u hb) nd
  rw [upd_ne n]
  exact made_same (C := a) na nd b u hb
theorem pe_new2 (M : MkC2 X.prog X.w X.K X.mg X.base x C f g) (room : Room 2 X.A) (hg : Gl X x) (hy : PE X (.Name y py) (tVar i)) (hz : PE X (.Name z pz) (tVar j))
    (hdb : (x == ("__debug__" : Str)) = false := by decide) (he : starEach [.Name y py, .Name z pz] X.env = (false, eval (.Name y py) X.env) :: starEach [.Name z pz] X.env := by rfl)
    (he2 : starEach [.Name z pz] X.env = (false, eval (.Name z pz) X.env) :: starEach [] X.env := by rfl)
    (hpl : (backTo pos (starEach [.Name z pz] X.env)).any (·.1) = false := by rfl) : PE X (.Call (.Name x p) [.Name y py, .Name z pz] [] pos) (tNew2 i j C f g) := by
  obtain ⟨fI, fd, B, newId, initId, bmB, T, hi, tI, F, hb, _⟩ := M.go
  constructor
  intro pins s σ H Q I h
  obtain ⟨v, u, hv, hu, q⟩ := h
  refine (pe_mk T hi tI F hb room hg M.m (pa_cons hy (pa_cons hz pa_nil he2) he) hdb he hpl).run pins s σ H Q I ⟨v, hv, u, hu, (by show 2 ≤ 100; decide), fun a na => ?_⟩
  refine ⟨a, v, u, rfl, upd_same, fun d nd ne => ⟨rfl, q a _ na (made_same2 na nd) ⟨d, ?_, upd_same⟩⟩⟩
  rw [upd_ne (Ne.symm ne)]
  exact upd_same
/-- X(g = z, f = y) -/
theorem pe_new2K (M : MkC2 X.prog X.w X.K X.mg X.base x C f g) (room : Room 2 X.A) (hg : Gl X x) (hy : PE X (.Name y py) (tVar i)) (hz : PE X (.Name z pz) (tVar j))
    (hdb : (x == ("__debug__" : Str)) = false := by decide)
    (hall : (backToKw pos (keywordEach [⟨some g, .Name z pz, kp⟩, ⟨some f, .Name y py, kq⟩] X.env)).all (·.1.isSome) = true := by rfl)
    (hks : (backToKw pos (keywordEach [⟨some g, .Name z pz, kp⟩, ⟨some f, .Name y py, kq⟩] X.env)).filterMap (·.1) = [g, f] := by rfl)
    (hpl : ((backTo pos (starEach [] X.env)).any (·.1) || (backToKw pos (keywordEach [⟨some g, .Name z pz, kp⟩, ⟨some f, .Name y py, kq⟩] X.env)).any (·.1.isNone)) = false := by rfl) :
    PE X (.Call (.Name x p) [] [⟨some g, .Name z pz, kp⟩, ⟨some f, .Name y py, kq⟩] pos) (tNew2 i j C f g) := by
  obtain ⟨fI, fd, B, newId, initId, bmB, T, hi, tI, F, _, hb⟩ := M.go
  constructor
  intro pins s σ H Q I h
  obtain ⟨v, u, hv, hu, q⟩ := h
  refine (pe_mkK (g := List.reverse) (gV := List.reverse) T hi tI F (fun _ _ r => r.reverse) (fun s self ws hl => ?_) room hg M.m (pk_cons hz (pk_cons hy pk_nil))
    (fun σ H Q ⟨v, e, u, e2, q⟩ => ⟨v, e, u, e2, rfl, q⟩) hall hks hdb hpl).run pins s σ H Q I ⟨u, hu, v, hv, fun a na => ?_⟩
  · match ws, hl with
    | [w2, w1], _ => exact hb s self w1 w2
  refine ⟨a, v, u, rfl, upd_same, fun d nd ne => ⟨rfl, q a _ na (made_same2 na nd) ⟨d, ?_, upd_same⟩⟩⟩
  rw [upd_ne (Ne.symm ne)]
  exact upd_same
/-- o.f, o an exception of some class that is told where it is read -/
def tGetA (K : PySem.W.Frag) (f : Str) (to : TE) : TE := fun σ H Q => to σ H fun x H1 => ∃ (a C : Addr) (fs : List (Str × V)) (v : V), x = .ref a ∧ EAt H1 a C fs ∧
  (∃ B newId initId bmB, ExK K C B newId initId bmB) ∧ PySem.W.findIn K (.ref C) f = some none ∧ fs.lookup f = some v ∧ Q v H1
theorem pe_getA {o : Expr} {to : TE} (ho : PE X o to) (hb : attributeBase o f X.env (eval o X.env) = eval o X.env := by rfl) : PE X (.Attribute o f pos) (tGetA X.K f to) := by
  constructor
  intro pins s σ H Q I h
  refine attr_of hb (thn (ho.run pins s σ H _ I h) ?_)
  rintro u s1 ⟨x, H1, J, r, a, C, fs, v, ex, ⟨d, ea, ed⟩, ⟨B, newId, initId, bmB, T⟩, hno, hv, q⟩
  subst ex
  cases (show u = Value.ref a from r)
  obtain ⟨t1, hobj⟩ := exo_at J.hok ea
  obtain ⟨mA, ns, rel⟩ := exd_at J.hok ed
  have rv := rel f
  rw [hv] at rv
  obtain ⟨u', hu, ru⟩ := RelO.some_of rv
  obtain ⟨od, hod, look⟩ := lookIn_ns ns
  have inst : PySem.W.InstAt s1.heap a { cls := .ref C, dict := some d, data := .fields #[.ref t1, .none, .none, .none, .bool false, .none] } C (some od) := ⟨hobj, rfl, rfl, hod⟩
  exact PySem.PX.exc_get J.kIn inst T.ga T.gt T.sub (PySem.W.findObj_own T.dct hno rfl (by rw [look, hu])) (handed_of ru) ⟨v, H1, J.tok _, ru, q⟩
end
end Hx

namespace Hx
open PySem PySem.Spec PyProof.Rows L2
theorem made_gone {H : Hp} {a d : Addr} {o1 o2 o3 o4 : HO} (na : H a = none) : upd (del (upd (upd (upd H a o1) d o2) a o3) a) d o4 = upd H d o4 := by
  funext b
  by_cases h : b = d
  · rw [h, upd_same, upd_same]
  · rw [upd_ne h, upd_ne h]
    by_cases k : b = a
    · rw [k, del_same, na]
    · rw [del_ne k, upd_ne k, upd_ne h, upd_ne k]
/-- raise C(y), C an own class that keeps its one parameter as f -/
def tRaise1 (i : Nat) (C : Addr) (f : Str) (W : WX) : TS := fun _ σ H => ∃ v, σ[i]? = some (some v) ∧ ∀ d, H d = none → W (.ref C) (some d) σ (upd H d (.xd [(f, v)]))
theorem ps_raise1 {X : Cx} {W : WX} {x y f : Str} {C : Addr} {i : Nat} {p py pos pos2 : Pos} (M : MkC X.prog X.w X.K X.mg X.base x C f) (ty : PySem.W.typeIn X.K (.ref C) = some (.type "type")) (hc : X.calm = true) (tk : Takes X W) (room : Room 2 X.A)
    (hg : Gl X x) (hy : PE X (.Name y py) (tVar i)) (hdb : (x == ("__debug__" : Str)) = false := by decide) (he : starEach [.Name y py] X.env = (false, eval (.Name y py) X.env) :: starEach [] X.env := by rfl)
    (hpl : (backTo pos (starEach [] X.env)).any (·.1) = false := by rfl) : PS X (.Raise (some (.Call (.Name x p) [.Name y py] [] pos)) none pos2) (tRaise1 i C f W) := by
  obtain ⟨fI, fd, B, newId, initId, bmB, T, hi, tI, F, hb, _⟩ := M.go
  constructor
  intro pins s σ H D I h
  obtain ⟨v, hv, q⟩ := h
  refine (ps_raise hc tk (pmk_own2 T ty hi tI F room hb hg M.m (pa_cons hy pa_nil he) hdb he hpl)).run pins s σ H D I ⟨v, hv, (by show 1 ≤ 1000; decide), fun a na => ⟨a, v, rfl, upd_same, fun d nd ne => ⟨rfl, d, [(f, v)], upd_same, ?_, ?_, ?_⟩⟩⟩
  · rw [upd_ne ne]
    exact upd_same
  · rw [upd_ne ne] at nd
    exact nd
  · rw [made_gone na]
    rw [upd_ne ne] at nd
    exact q d nd
end Hx

namespace Wp
open PySem PySem.Spec PyProof.Rows L2 Hx
def nameB (x : Str) : Bool := lettered 8 x && !inV (.str x) (noNames.map V.str)
def spName (K : PySem.W.Frag) : Sp := fun vs H Q _ => ∃ v, vs = [v] ∧ ((∃ x : Str, v = .str x ∧ x.length ≤ 100000 ∧ ∀ H', Same H H' → Q (.bl (nameB x)) H') ∨ (NotStr K H v ∧ Q (.bl false) H))
/-- an error that tells v -/
def Tells (E : XK) (C : Addr) (v : V) (H : Hp) : Prop := ∀ H' d, Same H H' → H' d = none → E (.ref C) (some d) (upd H' d (.xd [("given", v)]))
/-- a check: the value is as g says, or the error of the class at C -/
def spCheck (K : PySem.W.Frag) (g : Str → Bool) (C : Addr) : Sp := fun vs H Q E => ∃ v, vs = [v] ∧ ((∃ x : Str, v = .str x ∧ x.length ≤ 100000 ∧ g x = true ∧ ∀ H', Same H H' → Q .non H') ∨
  (((∃ x : Str, v = .str x ∧ x.length ≤ 100000 ∧ g x = false) ∨ NotStr K H v) ∧ Tells E C v H))
def spCheckWithin (K : PySem.W.Frag) (C : Addr) : Sp := fun vs H Q E => ∃ (v : V) (l m : Int), vs = [v, .int l, .int m] ∧ ((∃ i, v = .int i ∧ l ≤ i ∧ i ≤ m ∧ Q .non H) ∨
  (((∃ i, v = .int i ∧ ¬ (l ≤ i ∧ i ≤ m)) ∨ NotInt K H v) ∧ Tells E C v H))
section
variable {P : Program} {w : World} {K : PySem.W.Frag} {mg : Str → Option Value} {base : Heap} {f fI fW fL fN C : Addr} {fd fdI fdW fdL fdN : FuncData}
theorem scName : FnScope ["value"] ["value"] (defScope s_is_name) := ⟨rfl, rfl, rfl, by decide +kernel, rfl, by decide +kernel, by decide +kernel⟩
theorem ok_name (F : Fun K "is_name" "is_name" s_is_name f fd) (CO : Consts mg K) (GL : FnOk P w K mg base CX0 1 fL fdL ["value", "most"] (spLettered K)) (bL : Binds K fdL ["value", "most"] []) (kL : PySem.W.keepIn K (.ref fL) = true) (mL : mg "is_lettered" = some (.ref fL)) :
    FnOk P w K mg base CX0 2 f fd ["value"] (spName K) := by
  refine F.ok scName (fun vs H Q E h => ?_) (fun cdv A outer s H vs Q E hr h => ?_)
  · obtain ⟨v, rfl, _⟩ := h
    rfl
  obtain ⟨v, rfl, h⟩ := h
  obtain ⟨tm, mm⟩ := CO.most
  obtain ⟨p, mp, hp⟩ := CO.no
  refine ⟨_, pss_one (ps_ret (pe_and (pe_call GL hr rfl mL kL bL .nil pass0 (pa_cons (pv 0) (pa_cons (pe_gint rfl mm) pa_nil)))
    (pe_one (pe_cmpR op_notIn_seq (pv 0) (pe_gref rfl mp) (by rfl))))), ?_⟩
  rcases h with ⟨x, rfl, few, q⟩ | ⟨n, q⟩
  · refine ⟨_, rfl, _, 8, rfl, by decide, .inl ⟨x, rfl, few, fun H' s' => ⟨_, rfl, ?_⟩⟩⟩
    have q2 := q H' s'
    unfold nameB at q2
    cases e : lettered 8 x with
    | false =>
      rw [e] at q2
      exact iteF q2
    | true =>
      rw [e] at q2
      exact iteT ⟨_, rfl, p, _, rfl, .inr (hp H'), rfl, by decide +kernel, q2⟩
  · exact ⟨_, rfl, _, 8, rfl, by decide, .inr ⟨n, _, rfl, iteF q⟩⟩
theorem scCkW : FnScope ["given", "least", "most"] ["given", "least", "most"] (defScope s_check_within) := ⟨rfl, rfl, rfl, by decide +kernel, rfl, by decide +kernel, by decide +kernel⟩
theorem ok_ckW (F : Fun K "check_within" "check_within" s_check_within f fd) (M : MkC P w K mg base "InvalidNumber" C "given") (ty : PySem.W.typeIn K (.ref C) = some (.type "type"))
    (GW : FnOk P w K mg base CX0 2 fW fdW ["value", "least", "most"] (spWithin K)) (bW : Binds K fdW ["value", "least", "most"] []) (kW : PySem.W.keepIn K (.ref fW) = true) (mW : mg "is_within" = some (.ref fW)) :
    FnOk P w K mg base (L2.CX P w) 3 f fd ["given", "least", "most"] (spCheckWithin K C) := by
  refine F.okX scCkW (fun vs H Q E h => ?_) (fun cdv A outer s H vs Q E hr h => ?_)
  · obtain ⟨v, l, m, rfl, _⟩ := h
    rfl
  obtain ⟨v, l, m, rfl, h⟩ := h
  refine ⟨_, pss_one (ps_if (pt_not (pt_val (pe_call GW hr rfl mW kW bW .nil pass0 (pa_cons (pv 0) (pa_cons (pv 1) (pa_cons (pv 2) pa_nil)))))) (pss_one (ps_raise1 M ty rfl (takes_of rfl rfl rfl rfl) hr rfl (pv 0))) pss_nil), ?_⟩
  rcases h with ⟨i, rfl, h1, h2, q⟩ | ⟨⟨i, rfl, n⟩ | n, t⟩
  · refine ⟨_, rfl, _, rfl, _, rfl, _, l, m, rfl, .inl ⟨i, rfl, _, rfl, ?_⟩⟩
    rw [decide_eq_true h1, decide_eq_true h2]
    exact iteF q
  · refine ⟨_, rfl, _, rfl, _, rfl, _, l, m, rfl, .inl ⟨i, rfl, _, rfl, ?_⟩⟩
    have e : (decide (l ≤ i) && decide (i ≤ m)) = false := by
      rw [Bool.eq_false_iff]
      intro z
      obtain ⟨z1, z2⟩ := Bool.and_eq_true_iff.mp z
      exact n ⟨of_decide_eq_true z1, of_decide_eq_true z2⟩
    rw [e]
    exact iteT ⟨_, rfl, fun d hd => t H d (Same.refl H) hd⟩
  · exact ⟨_, rfl, _, rfl, _, rfl, _, l, m, rfl, .inr ⟨n, _, rfl, iteT ⟨_, rfl, fun d hd => t H d (Same.refl H) hd⟩⟩⟩
theorem scCkS : FnScope ["given"] ["given"] (defScope s_check_sign) := ⟨rfl, rfl, rfl, by decide +kernel, rfl, by decide +kernel, by decide +kernel⟩
theorem ok_check_sign (F : Fun K "check_sign" "check_sign" s_check_sign f fd) (M : MkC P w K mg base "InvalidSign" C "given") (ty : PySem.W.typeIn K (.ref C) = some (.type "type"))
    (GL : FnOk P w K mg base CX0 1 fL fdL ["value", "most"] (spLettered K)) (bL : Binds K fdL ["value", "most"] []) (kL : PySem.W.keepIn K (.ref fL) = true) (mL : mg "is_lettered" = some (.ref fL)) :
    FnOk P w K mg base (L2.CX P w) 3 f fd ["given"] (spCheck K (lettered 1) C) := by
  refine F.okX scCkS (fun vs H Q E h => ?_) (fun cdv A outer s H vs Q E hr h => ?_)
  · obtain ⟨v, rfl, _⟩ := h
    rfl
  obtain ⟨v, rfl, h⟩ := h
  refine ⟨_, pss_one (ps_if (pt_not (pt_val (pe_call GL (hr.mono (by decide)) rfl mL kL bL .nil pass0 (pa_cons (pv 0) (pa_cons pe_int pa_nil))))) (pss_one (ps_raise1 M ty rfl (takes_of rfl rfl rfl rfl) hr rfl (pv 0))) pss_nil), ?_⟩
  rcases h with ⟨x, rfl, few, e, q⟩ | ⟨⟨x, rfl, few, e⟩ | n, t⟩
  · refine ⟨_, rfl, _, 1, rfl, by decide, .inl ⟨x, rfl, few, fun H' s' => ⟨_, rfl, ?_⟩⟩⟩
    rw [e]
    exact iteF (q H' s')
  · refine ⟨_, rfl, _, 1, rfl, by decide, .inl ⟨x, rfl, few, fun H' s' => ⟨_, rfl, ?_⟩⟩⟩
    rw [e]
    exact iteT ⟨_, rfl, fun d hd => t H' d s' hd⟩
  · exact ⟨_, rfl, _, 1, rfl, by decide, .inr ⟨n, _, rfl, iteT ⟨_, rfl, fun d hd => t H d (Same.refl H) hd⟩⟩⟩
theorem scCkN : FnScope ["given"] ["given"] (defScope s_check_name) := ⟨rfl, rfl, rfl, by decide +kernel, rfl, by decide +kernel, by decide +kernel⟩
theorem ok_check_name (F : Fun K "check_name" "check_name" s_check_name f fd) (M : MkC P w K mg base "InvalidName" C "given") (ty : PySem.W.typeIn K (.ref C) = some (.type "type"))
    (GL : FnOk P w K mg base CX0 2 fL fdL ["value"] (spName K)) (bL : Binds K fdL ["value"] []) (kL : PySem.W.keepIn K (.ref fL) = true) (mL : mg "is_name" = some (.ref fL)) :
    FnOk P w K mg base (L2.CX P w) 3 f fd ["given"] (spCheck K nameB C) := by
  refine F.okX scCkN (fun vs H Q E h => ?_) (fun cdv A outer s H vs Q E hr h => ?_)
  · obtain ⟨v, rfl, _⟩ := h
    rfl
  obtain ⟨v, rfl, h⟩ := h
  refine ⟨_, pss_one (ps_if (pt_not (pt_val (pe_call GL hr rfl mL kL bL .nil pass0 (pa_cons (pv 0) pa_nil)))) (pss_one (ps_raise1 M ty rfl (takes_of rfl rfl rfl rfl) hr rfl (pv 0))) pss_nil), ?_⟩
  rcases h with ⟨x, rfl, few, e, q⟩ | ⟨⟨x, rfl, few, e⟩ | n, t⟩
  · refine ⟨_, rfl, _, rfl, .inl ⟨x, rfl, few, fun H' s' => ⟨_, rfl, ?_⟩⟩⟩
    rw [e]
    exact iteF (q H' s')
  · refine ⟨_, rfl, _, rfl, .inl ⟨x, rfl, few, fun H' s' => ⟨_, rfl, ?_⟩⟩⟩
    rw [e]
    exact iteT ⟨_, rfl, fun d hd => t H' d s' hd⟩
  · exact ⟨_, rfl, _, rfl, .inr ⟨n, _, rfl, iteT ⟨_, rfl, fun d hd => t H d (Same.refl H) hd⟩⟩⟩
theorem scCkWd : FnScope ["given"] ["given"] (defScope s_check_word) := ⟨rfl, rfl, rfl, by decide +kernel, rfl, by decide +kernel, by decide +kernel⟩
theorem ok_check_word (F : Fun K "check_word" "check_word" s_check_word f fd) (M : MkC P w K mg base "InvalidWord" C "given") (ty : PySem.W.typeIn K (.ref C) = some (.type "type")) (CO : Consts mg K)
    (GL : FnOk P w K mg base CX0 1 fL fdL ["value", "most"] (spLettered K)) (bL : Binds K fdL ["value", "most"] []) (kL : PySem.W.keepIn K (.ref fL) = true) (mL : mg "is_lettered" = some (.ref fL)) :
    FnOk P w K mg base (L2.CX P w) 3 f fd ["given"] (spCheck K (lettered 4) C) := by
  refine F.okX scCkWd (fun vs H Q E h => ?_) (fun cdv A outer s H vs Q E hr h => ?_)
  · obtain ⟨v, rfl, _⟩ := h
    rfl
  obtain ⟨v, rfl, h⟩ := h
  obtain ⟨tm, ms⟩ := CO.signs
  refine ⟨_, pss_one (ps_if (pt_not (pt_val (pe_call GL (hr.mono (by decide)) rfl mL kL bL .nil pass0 (pa_cons (pv 0) (pa_cons (pe_gint rfl ms) pa_nil))))) (pss_one (ps_raise1 M ty rfl (takes_of rfl rfl rfl rfl) hr rfl (pv 0))) pss_nil), ?_⟩
  rcases h with ⟨x, rfl, few, e, q⟩ | ⟨⟨x, rfl, few, e⟩ | n, t⟩
  · refine ⟨_, rfl, _, 4, rfl, by decide, .inl ⟨x, rfl, few, fun H' s' => ⟨_, rfl, ?_⟩⟩⟩
    rw [e]
    exact iteF (q H' s')
  · refine ⟨_, rfl, _, 4, rfl, by decide, .inl ⟨x, rfl, few, fun H' s' => ⟨_, rfl, ?_⟩⟩⟩
    rw [e]
    exact iteT ⟨_, rfl, fun d hd => t H' d s' hd⟩
  · exact ⟨_, rfl, _, 4, rfl, by decide, .inr ⟨n, _, rfl, iteT ⟨_, rfl, fun d hd => t H d (Same.refl H) hd⟩⟩⟩
end
end Wp

namespace Hx
open PySem PySem.Spec PyProof.Rows L2
/-- the class at C tells its text by a def of its own, whose promise is sp -/
structure TellsBy (P : Program) (w : World) (K : PySem.W.Frag) (mg : Str → Option Value) (base : Heap) (k : Nat) (C : Addr) (sp : Sp) : Prop where
  cls : Cls K C
  go : ∃ (g : Addr) (fd : FuncData), PySem.W.findIn K (.ref C) "__str__" = some (some (.ref g)) ∧ PySem.W.isFn K (.ref g) = true ∧
    FnOk P w K mg base CX0 k g fd ["self"] sp ∧ Binds K fd ["self"] []
/-- str(x): a number, a text, or an object that tells its text -/
def rTell (P : Program) (w : World) (K : PySem.W.Frag) (mg : Str → Option Value) (base : Heap) (k : Nat) : List V → Hp → VK → Prop := fun xs H Q => ∃ x, xs = [x] ∧
  ((∃ i : Int, x = .int i ∧ i.natAbs.log2 < 1920 ∧ Q (.str (toString i)) H) ∨ (∃ y : Str, x = .str y ∧ Q (.str y) H) ∨
    ∃ (a C dx : Addr) (fs : List (Str × V)) (sp : Sp), x = .ref a ∧ H a = some (.ins C dx fs) ∧ TellsBy P w K mg base k C sp ∧
      sp [.ref a] H (fun v H' => ∃ y : Str, v = .str y ∧ Q (.str y) H') E0)
theorem Room.less {k j : Nat} {A : Around} (r : Room k A) (h : j ≤ k) : Room j A := r.mono h
theorem call_tell {X : Cx} {k : Nat} (room : Room (k + 2) X.A) : CallR X (.type "str") (rTell X.prog X.w X.K X.mg X.base k) := by
  intro pins s σ H xs us Q I r h
  obtain ⟨x, rfl, ⟨i, rfl, small, q⟩ | ⟨y, rfl, q⟩ | ⟨a, C, dx, fs, sp, rfl, ha, T, q⟩⟩ := h
  · exact call_str_int pins s σ H _ us Q I r ⟨i, rfl, small, q⟩
  · exact SkE.call_str_str pins s σ H _ us Q I r ⟨y, rfl, q⟩
  · rw [Vals.ref1 r]
    obtain ⟨mA, O, _, _, _, _⟩ := ins_get I.hok ha
    obtain ⟨od, J, _⟩ := O.look
    obtain ⟨g, fd, hs, hf, F, b⟩ := T.go
    refine PySem.W.kso_call (by have := room.units; show _ < _; exact Nat.lt_of_le_of_lt (Nat.le_add_right _ 64) room.in1.in1.units) I.kIn J hs hf ?_
    have go := F.run X.A.in1.in1 X.stack s H ⟨[.ref a], []⟩ [.ref a] [.ref a] _ E0 room.in1.in1 I.env0.in1.in1 (b s [.ref a] I.kIn rfl) (.cons rfl .nil) q
    refine wpAny_call (codeAny_mono go ?_)
    intro r' s' hr
    cases r' with
    | error e => exact (show False from hr).elim
    | ok fl =>
      cases fl with
      | ret u =>
        obtain ⟨v, H', J', rv, y, ev, qy⟩ := I.after hr
        subst ev
        obtain ⟨t, rfl⟩ := rv
        exact ⟨.str y, H', J', ⟨t, rfl⟩, qy⟩
      | next => exact hr.elim
      | brk => exact hr.elim
      | cont => exact hr.elim
end Hx

namespace Wp
open PySem PySem.Spec PyProof.Rows L2 Hx
/-- the class at C has f as a property of its own, whose getter keeps sp -/
structure PropBy (P : Program) (w : World) (K : PySem.W.Frag) (mg : Str → Option Value) (base : Heap) (k : Nat) (C : Addr) (f : Str) (sp : Sp) : Prop where
  cls : Cls K C
  go : ∃ (p g : Addr) (fd : FuncData), PropOf K C f p g ∧ FnOk P w K mg base CX0 k g fd ["self"] sp ∧ Binds K fd ["self"] []
/-- e.f, a property of the class that is met there -/
def tPropA (P : Program) (w : World) (K : PySem.W.Frag) (mg : Str → Option Value) (base : Heap) (k : Nat) (f : Str) (ta : TE) : TE := fun σ H Q => ta σ H fun x H1 => ∃ (a C dx : Addr) (fs : List (Str × V)) (sp : Sp), x = .ref a ∧ H1 a = some (.ins C dx fs) ∧ PropBy P w K mg base k C f sp ∧ sp [.ref a] H1 Q E0
theorem pe_propA {X : Cx} {k : Nat} {f : Str} {e : Expr} {pos : Pos} {ta : TE} (he : PE X e ta) (room : Room (k + 1) X.A) (hab : attributeBase e f X.env (eval e X.env) = eval e X.env := by rfl) : PE X (.Attribute e f pos) (tPropA X.prog X.w X.K X.mg X.base k f ta) := by
  constructor
  intro pins s σ H Q I h
  refine attr_of hab (thn (he.run pins s σ H _ I h) ?_)
  rintro u s1 ⟨x, H1, I1, rx, a, C, dx, fs, sp, rfl, ea, T, q⟩
  cases (show u = Value.ref a from rx)
  obtain ⟨p, g, fd, hp, F, b⟩ := T.go
  exact getprop_ok I1 ea T.cls hp F room b .nil pass0 q
/-- the promise of a getter: a field of what stands at the object's facts -/
def spGet (C CF : Addr) (fld : Str) : Sp := fun vs H Q _ => ∃ (a dx fa dfa : Addr) (fs gs : List (Str × V)) (v : V), vs = [.ref a] ∧ H a = some (.ins C dx fs) ∧ fs.lookup ("facts" : Str) = some (.ref fa) ∧ H fa = some (.ins CF dfa gs) ∧ gs.lookup fld = some v ∧ Q v H
def spStr (C CF : Addr) : Sp := fun vs H Q _ => ∃ (a dx fa dfa : Addr) (fs gs : List (Str × V)) (y : Str), vs = [.ref a] ∧ H a = some (.ins C dx fs) ∧ fs.lookup ("facts" : Str) = some (.ref fa) ∧ H fa = some (.ins CF dfa gs) ∧ gs.lookup ("text" : Str) = some (.str y) ∧ Q (.str y) H
section
variable {P : Program} {w : World} {K : PySem.W.Frag} {mg : Str → Option Value} {base : Heap} {f C CF : Addr} {fd : FuncData} {st : Stmt} {x qual fld : Str} {p1 p2 p3 p4 p5 p6 : Pos}
theorem ok_get (F : Fun K x qual st f fd) (S : FnScope ["self"] ["self"] (defScope st)) (hb : defBody st = [.Return (some (.Attribute (.Attribute (.Name "self" p1) "facts" p2) fld p3)) p4]) (v1 : Vis (defScope st) "self")
    (cC : Cls K C) (nC : NoAttr K C "facts") (cF : Cls K CF) (nF : NoAttr K CF fld) : FnOk P w K mg base CX0 1 f fd ["self"] (spGet C CF fld) := by
  refine F.ok S (fun vs H Q E h => ?_) (fun cdv A outer s H vs Q E hr h => ?_)
  · obtain ⟨a, dx, fa, dfa, fs, gs, v, rfl, _⟩ := h
    rfl
  obtain ⟨a, dx, fa, dfa, fs, gs, v, rfl, h1, h2, h3, h4, q⟩ := h
  rw [hb]
  refine ⟨_, pss_one (ps_ret (pe_fld (pe_fld (pe_var (i := 0) rfl v1) rfl) rfl)), ?_⟩
  exact ⟨_, rfl, a, C, dx, fs, _, rfl, h1, cC, nC, h2, fa, CF, dfa, gs, v, rfl, h3, cF, nF, h4, q⟩
theorem ok_str (F : Fun K x qual st f fd) (S : FnScope ["self"] ["self"] (defScope st)) (hb : defBody st = [.Return (some (.Call (.Name "str" p5) [.Attribute (.Attribute (.Name "self" p1) "facts" p2) "text" p3] [] p6)) p4]) (v1 : Vis (defScope st) "self")
    (gl : ∀ n cdv, (envOfC qual (defScope st) n f cdv).kindOf "str" = some .globalImplicit) (ms : mg "str" = none)
    (cC : Cls K C) (nC : NoAttr K C "facts") (cF : Cls K CF) (nF : NoAttr K CF "text") : FnOk P w K mg base CX0 1 f fd ["self"] (spStr C CF) := by
  refine F.ok S (fun vs H Q E h => ?_) (fun cdv A outer s H vs Q E hr h => ?_)
  · obtain ⟨a, dx, fa, dfa, fs, gs, y, rfl, _⟩ := h
    rfl
  obtain ⟨a, dx, fa, dfa, fs, gs, y, rfl, h1, h2, h3, h4, q⟩ := h
  rw [hb]
  refine ⟨_, pss_one (ps_ret (pe_callTy SkE.call_str_str (gl _ _) ms (by decide +kernel) (pa_cons (pe_fld (pe_fld (pe_var (i := 0) rfl v1) rfl) rfl) pa_nil))), ?_⟩
  exact ⟨_, rfl, a, C, dx, fs, _, rfl, h1, cC, nC, h2, fa, CF, dfa, gs, .str y, rfl, h3, cF, nF, h4, y, rfl, q⟩
end
end Wp

namespace Wp
open PySem PySem.Spec PyProof.Rows L2 Hx
def factL (kind : Str) (pm pi : Addr) (text : Str) (pl : Addr) (size : Int) : List (Str × V) := [("word", .str kind), ("marks", .ref pm), ("parts", .ref pi), ("text", .str text), ("labels", .ref pl), ("size", .int size)]
/-- at a stands an expression of one of the classes, and this is told of it -/
def XpAt (CF : Addr) (cls : Addr → Prop) (H : Hp) (a C : Addr) (kind text : Str) (told inner : List V) (labels : List Str) (size : Int) : Prop :=
  ∃ (dx fa dfa pm pi pl : Addr), cls C ∧ H a = some (.ins C dx [("facts", .ref fa)]) ∧ H fa = some (.ins CF dfa (factL kind pm pi text pl size)) ∧ H pm = some (.tup told) ∧ H pi = some (.tup inner) ∧ H pl = some (.tup (labels.map V.str))
theorem XpAt.same {CF : Addr} {cls : Addr → Prop} {H H' : Hp} {a C : Addr} {kind text : Str} {told inner : List V} {labels : List Str} {size : Int} (h : XpAt CF cls H a C kind text told inner labels size) (s : Same H H') : XpAt CF cls H' a C kind text told inner labels size := by
  obtain ⟨dx, fa, dfa, pm, pi, pl, h0, h1, h2, h3, h4, h5⟩ := h
  exact ⟨dx, fa, dfa, pm, pi, pl, h0, s _ _ h1, s _ _ h2, s _ _ h3, s _ _ h4, s _ _ h5⟩
/-- what stands within the brackets of a text -/
inductive TxAt (CF : Addr) (cls : Addr → Prop) (H : Hp) : V → Str → Prop
  | int (i : Int) (h : 0 ≤ i ∧ i ≤ 1000) : TxAt CF cls H (.int i) (toString i)
  | str (y : Str) : TxAt CF cls H (.str y) y
  | exp {a C : Addr} {kind y : Str} {told inner : List V} {labels : List Str} {size : Int} (h : XpAt CF cls H a C kind y told inner labels size) : TxAt CF cls H (.ref a) y
theorem TxAt.same {CF : Addr} {cls : Addr → Prop} {H H' : Hp} {v : V} {y : Str} (h : TxAt CF cls H v y) (s : Same H H') : TxAt CF cls H' v y := by
  cases h with
  | int i h => exact .int i h
  | str => exact .str y
  | exp h => exact .exp (h.same s)
/-- what the program's part says of the classes of expressions -/
structure Kls (P : Program) (w : World) (K : PySem.W.Frag) (mg : Str → Option Value) (base : Heap) (CF : Addr) (cls : Addr → Prop) : Prop where
  str : ∀ C, cls C → TellsBy P w K mg base 1 C (spStr C CF)
  get : ∀ C, cls C → ∀ f fld, (f, fld) ∈ ([("kind", "word"), ("inner", "parts"), ("told", "marks"), ("names", "labels"), ("knots", "size")] : List (Str × Str)) → PropBy P w K mg base 1 C f (spGet C CF fld)
theorem join_len (y : Str) : ∀ ps : List Str, (Str.join y ps).length ≤ (ps.map (·.length)).sum + ps.length * y.length
  | [] => by
    show Str.empty.length ≤ _
    exact Nat.le_trans (by decide +kernel : Str.empty.length ≤ 0) (Nat.zero_le _)
  | [x] => by
    show x.length ≤ _
    simp
  | x :: z :: r => by
    have h := join_len y (z :: r)
    show (x ++ y ++ Str.join y (z :: r)).length ≤ _
    rw [PySem.Str.length_append, PySem.Str.length_append]
    simp only [List.map_cons, List.sum_cons, List.length_cons, Nat.succ_mul] at h ⊢
    omega
theorem paired_get {α β : Type} {R : α → β → Prop} : ∀ {xs : List α} {ys : List β} {i : Nat} {x : α}, Paired R xs ys → xs[i]? = some x → ∃ y, ys[i]? = some y ∧ R x y
  | _, _, 0, _, .cons r t, h => ⟨_, rfl, by cases h; exact r⟩
  | _, _, i + 1, _, .cons r t, h => paired_get (i := i) t h
theorem str_ne {a b : Str} (h : a ≠ b) : decide (V.str a = V.str b) = false := decide_eq_false fun z => h (V.str.inj z)
theorem small_log {j : Int} (h : 0 ≤ j ∧ j ≤ 1000) : j.natAbs.log2 < 1920 := by
  have z : j.natAbs ≤ 1000 := by omega
  exact Nat.lt_of_le_of_lt (Nat.le_trans (Nat.log2_le_self _) z) (by decide)
/-- the text that spelled makes -/
def Spells (CF : Addr) (cls : Addr → Prop) (H : Hp) (kind : Str) (told : List V) (inner : List V) (text : Str) : Prop :=
  (kind = "sign" ∧ ∃ s : Str, told = [.str s] ∧ s.length ≤ 1000 ∧ text = ((Str.empty ++ "'") ++ s) ++ "'") ∨ (kind = "name" ∧ ∃ s : Str, told = [.str s] ∧ text = s) ∨
    (kind ≠ "sign" ∧ kind ≠ "name" ∧ kind.length ≤ 10 ∧ ∃ ys : List Str, Paired (TxAt CF cls H) (told ++ inner) ys ∧ ys.length ≤ 100 ∧ (ys.map (·.length)).sum ≤ 100000 ∧ text = (((Str.empty ++ kind) ++ "(") ++ Str.join ", " ys) ++ ")")
def spSpelled (CF : Addr) (cls : Addr → Prop) : Sp := fun vs H Q _ => ∃ (kind : Str) (pt pi : Addr) (told inner : List V) (text : Str), vs = [.str kind, .ref pt, .ref pi] ∧ H pt = some (.tup told) ∧ H pi = some (.tup inner) ∧
  Spells CF cls H kind told inner text ∧ ∀ H', Same H H' → Q (.str text) H'
section
variable {P : Program} {w : World} {K : PySem.W.Frag} {mg : Str → Option Value} {base : Heap} {f CF : Addr} {fd : FuncData} {cls : Addr → Prop}
theorem scSpelled : FnScope ["kind", "told", "inner", "listed", "part"] ["kind", "told", "inner"] (defScope s_spelled) := ⟨rfl, rfl, rfl, by decide +kernel, rfl, by decide +kernel, by decide +kernel⟩
theorem ok_spelled (F : Fun K "spelled" "spelled" s_spelled f fd) (Z : Bltn mg) (T : Kls P w K mg base CF cls) : FnOk P w K mg base CX0 4 f fd ["kind", "told", "inner"] (spSpelled CF cls) := by
  refine F.ok scSpelled (fun vs H Q E h => ?_) (fun cdv A outer s H vs Q E hr h => ?_)
  · obtain ⟨kind, pt, pi, told, inner, text, rfl, _⟩ := h
    rfl
  obtain ⟨kind, pt, pi, told, inner, text, rfl, ht, hi, h, q⟩ := h
  refine ⟨_, pss_cons (ps_if (pt_cmpR op_eq (pv 0) pe_str (nomark _)) (pss_one (ps_ret (pe_joined (.cons pe_str (.cons (pe_fmt (pe_ix ix_tup (pv 1) pe_int (fun _ _ => rfl))) (.cons pe_str .nil)))))) pss_nil)
    (pss_cons (ps_if (pt_cmpR op_eq (pv 0) pe_str (nomark _)) (pss_one (ps_ret (pe_ix ix_tup (pv 1) pe_int (fun _ _ => rfl)))) pss_nil)
    (pss_cons (ps_set (i := 3) scSpelled.nd rfl (Or.inl rfl) (pe_join pe_str (pe_lc (te := tCB (rTell P w K mg base 1) (tCons (tVar 4) tNil)) (own := [("part", 4)]) (g := gName 4) (tt := tYes) rfl scSpelled.nd (pi_tup (pe_tup (StX.pa_star (pv 1) (StX.pa_star (pv 2) pa_nil))))
        (blkOk_by (N := ["kind", "told", "inner", "listed", "part"]) (sc := defScope s_spelled) (by decide +kernel)) (fun _ _ _ _ _ => pg_name (i := 4) scSpelled.nd rfl (Or.inl rfl)) (fun _ _ _ _ _ => pts_nil)
        (fun _ _ _ _ _ => pe_callTy (call_tell (k := 1) hr) (by rfl) Z.str (by decide +kernel) (pa_cons (pv 4) pa_nil)))))
    (pss_one (ps_ret (pe_joined (.cons (pe_fmt (pv 0)) (.cons pe_str (.cons (pe_fmt (pv 3)) (.cons pe_str .nil))))))))), ?_⟩
  have go : ∀ ys : List Str, ys.length ≤ 100 → (ys.map (·.length)).sum ≤ 100000 → (Str.join ", " ys).length ≤ 100200 := fun ys h1 h2 => by
    have z := join_len ", " ys
    have l2 : (", " : Str).length = 2 := by decide +kernel
    rw [l2] at z
    omega
  have one : ("'" : Str).length = 1 := by decide +kernel
  have e0 : Str.empty.length = 0 := by decide +kernel
  have big : 100300 ≤ sizeLine := by decide
  rcases h with ⟨rfl, s', rfl, few, ex⟩ | ⟨rfl, s', rfl, ex⟩ | ⟨n1, n2, kf, ys, ty, y1, y2, ex⟩ <;> rw [ex] at q
  · refine ⟨_, rfl, rfl, _, rfl, ?_⟩
    rw [decide_eq_true rfl]
    refine iteT ⟨"'", rfl, by decide +kernel, _, rfl, pt, _, _, .str s', rfl, rfl, SqT.of ht, rfl, .inl ⟨s', rfl, Nat.le_trans few (by decide), s', rfl, ?_, "'", rfl, ?_, q H (Same.refl H)⟩⟩
    · simp only [PySem.Str.length_append, one, e0]
      omega
    · simp only [PySem.Str.length_append, one, e0]
      omega
  · refine ⟨_, rfl, rfl, _, rfl, ?_⟩
    rw [str_ne (by decide +kernel)]
    refine iteF ⟨_, rfl, rfl, _, rfl, ?_⟩
    rw [decide_eq_true rfl]
    exact iteT ⟨_, rfl, pt, _, _, .str s', rfl, rfl, SqT.of ht, rfl, q H (Same.refl H)⟩
  · refine ⟨_, rfl, rfl, _, rfl, ?_⟩
    rw [str_ne n1]
    refine iteF ⟨_, rfl, rfl, _, rfl, ?_⟩
    rw [str_ne n2]
    refine iteF ?_
    have len : (told ++ (inner ++ [])).length = ys.length := by
      rw [List.append_nil]
      exact ty.length
    refine ⟨⟨_, rfl⟩, _, rfl, pt, told, rfl, .inl (SqT.of ht), _, rfl, pi, inner, rfl, .inl (SqT.of hi), ?_, fun tp htp => ⟨tp, rfl, ⟨_, SqT.of upd_same⟩, fun D hD => ?_⟩⟩
    · rw [len]
      exact small_line (by omega)
    have s0 := same_new htp (.tup (told ++ (inner ++ [])))
    refine lc_tup (K := K) (a := tp) (xs := told ++ (inner ++ [])) (fun i H' => Same (upd H tp (.tup (told ++ (inner ++ [])))) H' ∧ H' D = some (.lst ((ys.take i).map V.str))) ⟨same_new hD _, upd_same⟩ (fun i H' _ h => SqT.of (h.1 _ _ upd_same)) ?_ ?_
    · rintro i x H' hx ⟨s1, h1⟩
      rw [List.append_nil] at hx
      obtain ⟨y, hy, t⟩ := paired_get ty hx
      have iy : i < ys.length := (List.getElem?_eq_some_iff.mp hy).1
      have fin : ∃ acc, H' D = some (.lst acc) ∧ acc.length < sizeLine ∧ Same (upd H tp (.tup (told ++ (inner ++ [])))) (upd H' D (.lst (acc ++ [V.str y]))) ∧
          upd H' D (.lst (acc ++ [V.str y])) D = some (.lst ((ys.take (i + 1)).map V.str)) := by
        refine ⟨_, h1, ?_, fun b o hb => ?_, ?_⟩
        · rw [List.length_map, List.length_take]
          exact Nat.lt_of_lt_of_le (by omega : _ < 1000) (small_line (Nat.le_refl _))
        · rw [upd_ne (ne_of_none hb hD)]
          exact s1 b o hb
        · rw [upd_same, List.take_add_one, hy, List.map_append]
          rfl
      refine ⟨rfl, turn_yes ⟨_, rfl, x, rfl, ?_⟩⟩
      cases t.same (s0.trans s1) with
      | int j hj => exact .inl ⟨j, rfl, small_log hj, fin⟩
      | str => exact .inr (.inl ⟨y, rfl, fin⟩)
      | exp h =>
        obtain ⟨dx, fa, dfa, pm, pi', pl, hc, e1, e2, _⟩ := h
        exact .inr (.inr ⟨_, _, dx, _, spStr _ CF, rfl, e1, T.str _ hc, _, dx, fa, dfa, _, _, y, rfl, e1, rfl, e2, rfl, y, rfl, fin⟩)
    · rintro H' ⟨s1, h1⟩
      rw [len, List.take_of_length_le (Nat.le_refl _)] at h1
      refine ⟨", ", D, ys, rfl, rfl, .inl (SqL.of h1), ?_, ?_⟩
      · have l2 : (", " : Str).length = 2 := by decide +kernel
        rw [l2]
        omega
      rw [TL.join_eq]
      have g := go ys y1 y2
      refine ⟨_, rfl, .inl ⟨kind, rfl, Nat.le_trans kf (by decide), kind, rfl, ?_, "(", rfl, ?_, _, rfl, .inl ⟨_, rfl, ?_, _, rfl, ?_, ")", rfl, ?_, q H' (s0.trans s1)⟩⟩⟩
      all_goals try simp only [PySem.Str.length_append, e0, (by decide +kernel : ("(" : Str).length = 1), (by decide +kernel : (")" : Str).length = 1)]
      all_goals omega
end
end Wp

namespace Hs
open PySem PySem.Spec PyProof.Rows L2
/-! sets of texts: made of a list, sorted -/
def textOf (e : Int × Value) : Str := match e.2 with | .str x _ => x | _ => Str.empty
def TextE (P : Program) (w : World) (e : Int × Value) : Prop := ∃ x tk, e.2 = Value.str x tk ∧ e.1 = (strKind P w).hash x
/-- at a stands a set of just these texts -/
structure Table (P : Program) (w : World) (ms : List Str) (es : Array (Int × Value)) (t : SetTable) : Prop where
  texts : ∀ e ∈ es.toList, TextE P w e
  perm : (es.toList.map textOf).Perm ms
  once : ms.Nodup
  few : es.size < scanBound
  fits : t.fits es.size = true
  ris : Ris t.place.toList
  led : w.params.followText "set-order" = true ∨ t.led = true
def SetT (P : Program) (w : World) (h : Heap) (a : Addr) (ms : List Str) : Prop :=
  ∃ o es ep t, h.get? a = some o ∧ o.ExactSet ∧ o.data = .set es ep t ∧ Table P w ms es t
section
variable {P : Program} {w : World} {h h' : Heap} {a : Addr} {ms : List Str} {es : Array (Int × Value)} {t : SetTable}
theorem SetT.keep (R : SetT P w h a ms) (k : ∀ o, h.get? a = some o → h'.get? a = some o) : SetT P w h' a ms := by
  obtain ⟨o, es, ep, t, ho, r⟩ := R
  exact ⟨o, es, ep, t, k o ho, r⟩
theorem Table.elems (T : Table P w ms es t) : ElemsOf (strKind P w) es.toList := fun e he => by
  obtain ⟨x, tk, h1, h2⟩ := T.texts e he
  rw [h1]
  exact ⟨⟨x, strKind_is P w x tk, h2⟩, rfl⟩
theorem text_is {e : Int × Value} (g : TextE P w e) (x : Str) : (strKind P w).is x e.2 = true ↔ textOf e = x := by
  obtain ⟨y, tk, h1, _⟩ := g
  unfold textOf
  rw [h1]
  show ((y == x) = true) ↔ y = x
  exact beq_iff_eq
theorem Table.mem (T : Table P w ms es t) (x : Str) : x ∈ ms ↔ ∃ e ∈ es.toList, (strKind P w).is x e.2 = true := by
  rw [← T.perm.mem_iff, List.mem_map]
  exact ⟨fun ⟨e, he, q⟩ => ⟨e, he, (text_is (T.texts e he) x).2 q⟩, fun ⟨e, he, q⟩ => ⟨e, he, (text_is (T.texts e he) x).1 q⟩⟩
theorem Table.size (T : Table P w ms es t) : es.size = ms.length := by
  rw [← T.perm.length_eq, List.length_map, Array.length_toList]
theorem fresh {h : Heap} {a : Addr} (ho : h.get? a = some { cls := .type "set", dict := none, data := .set #[] 0 (.fresh 0 0 (!w.params.followText "set-order")) }) : SetT P w h a [] := by
  refine ⟨_, #[], 0, _, ho, ⟨rfl, rfl, rfl⟩, rfl, ⟨fun e he => ?_, .nil, .nil, by decide, rfl, .nil, ?_⟩⟩
  · cases he
  · show _ ∨ (!w.params.followText "set-order") = true
    cases w.params.followText "set-order" <;> simp
end
/-- the members when x comes to ms -/
def put (ms : List Str) (x : Str) : List Str := if x ∈ ms then ms else x :: ms
section
variable {P : Program} {w : World} {A : Around} {E : Value → Shared → Prop} {s : Shared} {a : Addr} {ms : List Str}
theorem settle {g : Bool → Sem Unit} (hg : ∀ (b : Bool) (s1 : Shared) (Q' : Unit → Shared → Prop), Q' () s1 → wpAny (model P w) A (g b) Q' E s1)
    {o : Obj} {es es1 : Array (Int × Value)} {ep : Nat} {t t2 : SetTable} {ns : List Str} (ho : s.heap.get? a = some o) (hex : o.ExactSet) (hd : o.data = .set es ep t) (T : Table P w ns es1 t2)
    {wasDummy : Bool} {R : Option Bool → Shared → Prop} (hR : ∀ h', Heap.SameBut a s.heap h' → SetT P w h' a ns → R (some true) { s with heap := h' }) :
    wpAny (model P w) A (do
      storeSet a es1 t2
      if (!wasDummy && t2.tooFull) = true then do
          g (relayAll t2 es1 (SetTable.grown es1.size)).2.2
          storeSet a (relayAll t2 es1 (SetTable.grown es1.size)).1 (relayAll t2 es1 (SetTable.grown es1.size)).2.1
          pure (some true)
        else pure (some true)) R E s := by
  have h1 := store_at (es' := es1) (t' := t2) ho hd
  have b1 := Heap.SameBut.update s.heap a (Obj.putSet es1 t2)
  refine wpAny_bind (wpAny_storeSet_of ho hd ?_ (fits_of_scanBound T.few))
  split
  case isFalse => exact wpAny_pure (hR _ b1 ⟨_, es1, _, t2, h1, hex, rfl, T⟩)
  case isTrue =>
    have q1 := relayAll_perm t2 es1 (SetTable.grown es1.size)
    have q2 := relayAll_fits t2 es1 (SetTable.grown es1.size)
    have q3 := relayAll_ris t2 es1 (SetTable.grown es1.size)
    have q4 := relayAll_led t2 es1 (SetTable.grown es1.size)
    generalize relayAll t2 es1 (SetTable.grown es1.size) = Z at q1 q2 q3 q4 ⊢
    obtain ⟨es2, t3, gave⟩ := Z
    dsimp only at q1 q2 q3 q4 ⊢
    have z : es2.size = es1.size := by
      rw [← Array.length_toList, q1.length_eq, Array.length_toList]
    have T2 : Table P w ns es2 t3 := ⟨fun e he => T.texts e (q1.mem_iff.mp he), (q1.map textOf).trans T.perm, T.once, by rw [z]; exact T.few, q2, q3, T.led.imp id fun y => by rw [q4]; exact y⟩
    refine wpAny_bind (hg _ _ _ (wpAny_bind (wpAny_storeSet_of h1 rfl ?_ (fits_of_scanBound T2.few))))
    exact wpAny_pure (hR _ (b1.trans (Heap.SameBut.update _ a _)) ⟨_, es2, _, t3, store_at (es' := es2) (t' := t3) h1 rfl, hex, rfl, T2⟩)
theorem add_text {x : Str} {tk : Tok} {Q : Bool → Shared → Prop} (R : SetT P w s.heap a ms) (room : ms.length + 1 < scanBound)
    (hQ : ∀ h' b, Heap.SameBut a s.heap h' → SetT P w h' a (put ms x) → Q b { s with heap := h' }) :
    wpAny (model P w) A (setAddHashed a (.str x tk) ((strKind P w).hash x)) Q E s := by
  obtain ⟨o, es, ep, t, ho, hex, hd, T⟩ := R
  have sc : (Value.str x tk).scannable = true := rfl
  unfold setAddHashed setAddHashedIn
  refine wpAny_holding (wpAny_bind (wpAny_setState_of ho hd T.fits ?_))
  dsimp only
  rw [byScan_of sc T.few T.elems, if_pos rfl]
  unfold setAddByScan
  refine wpAny_bind (wpAny_bind (wpAny_rule (wpAny_bind (wpAny_setScan_of (strKind_is P w x tk) ho hd T.fits T.elems ?_))))
  cases found : List.findIdx? (fun e => (strKind P w).is x e.2) es.toList with
  | some j =>
    obtain ⟨hj, pj, _⟩ := List.findIdx?_eq_some_iff_getElem.mp found
    have hx : x ∈ ms := (T.mem x).2 ⟨_, List.getElem_mem hj, pj⟩
    have e : put ms x = ms := if_pos hx
    dsimp only
    refine wpAny_pure (wpAny_pure (hQ s.heap _ (Heap.SameBut.refl a s.heap) ?_))
    rw [e]
    exact ⟨o, es, ep, t, ho, hex, hd, T⟩
  | none =>
    have hx : x ∉ ms := fun z => by
      obtain ⟨e, he, q⟩ := (T.mem x).1 z
      have c := List.findIdx?_eq_none_iff.mp found e he
      rw [q] at c
      cases c
    have ep' : put ms x = x :: ms := if_neg hx
    dsimp only
    have q1 := layNew_perm t es ((strKind P w).hash x) (.str x tk)
    have q2 := layNew_fits t es ((strKind P w).hash x) (.str x tk)
    have q3 := layNew_ris t es ((strKind P w).hash x) (.str x tk) T.ris
    have q4 := layNew_led t es ((strKind P w).hash x) (.str x tk)
    generalize layNew t es ((strKind P w).hash x) (.str x tk) = Z at q1 q2 q3 q4 ⊢
    obtain ⟨es1, t1, wasDummy, gave⟩ := Z
    dsimp only at q1 q2 q3 q4 ⊢
    rw [Array.toList_push] at q1
    have pc : es1.toList.Perm (((strKind P w).hash x, Value.str x tk) :: es.toList) := q1.trans (List.perm_append_singleton _ _)
    have pm : (es1.toList.map textOf).Perm (x :: ms) := (pc.map textOf).trans (T.perm.cons x)
    have tx : ∀ e ∈ es1.toList, TextE P w e := fun e he => by
      rcases List.mem_cons.mp (pc.mem_iff.mp he) with rfl | z
      · exact ⟨x, tk, rfl, rfl⟩
      · exact T.texts e z
    have few : es1.size < scanBound := by
      have z := pc.length_eq
      rw [Array.length_toList, List.length_cons, Array.length_toList, T.size] at z
      omega
    have mk : ∀ t2 : SetTable, t2.fits es1.size = true → Ris t2.place.toList → t2.led = t1.led → Table P w (x :: ms) es1 t2 := fun t2 f r l =>
      ⟨tx, pm, List.nodup_cons.mpr ⟨hx, T.once⟩, few, f, r, T.led.imp id fun y => by rw [l, q4]; exact y⟩
    have fin : ∀ h', Heap.SameBut a s.heap h' → SetT P w h' a (x :: ms) → Q true { s with heap := h' } := fun h' b r => hQ h' _ b (by rw [ep']; exact r)
    have say : ∀ (b : Bool) {s1 : Shared} {Q' : Unit → Shared → Prop}, Q' () s1 → wpAny (model P w) A (match b with | true => rule "set.scan.the-table-gave-way" | false => pure ()) Q' E s1 := fun b s1 Q' q => by
      cases b
      · exact wpAny_pure q
      · exact wpAny_rule q
    refine wpAny_bind (say _ ?_)
    split
    · rw [hashByValue_scannable 8 sc]
      refine wpAny_bind (wpAny_pure (settle (ns := x :: ms) (fun b s1 Q' q => by cases b <;> first | exact wpAny_pure q | exact wpAny_rule q) ho hex hd (mk _ ?_ ?_ ?_) fun h' b r => wpAny_pure (fin h' b r)))
      · first | (split <;> first | exact q2 | exact SetTable.fits_plain_off q2) | exact q2
      · first | (split <;> exact q3) | exact q3
      · first | (split <;> rfl) | rfl
    · refine wpAny_bind (wpAny_pure ?_)
      rw [if_pos rfl]
      exact settle (ns := x :: ms) (fun b s1 Q' q => by cases b <;> first | exact wpAny_pure q | exact wpAny_rule q) ho hex hd (mk _ q2 q3 rfl) fun h' b r => wpAny_pure (fin h' b r)
end
end Hs

namespace Hs
open PySem PySem.Spec PyProof.Rows L2
theorem put_len (ms : List Str) (x : Str) : (put ms x).length ≤ ms.length + 1 := by
  unfold put
  split
  · omega
  · rw [List.length_cons]
    omega
theorem puts_len : ∀ (xs ms : List Str), (xs.foldl put ms).length ≤ ms.length + xs.length
  | [], ms => Nat.le_refl _
  | x :: xs, ms => by
    have h := puts_len xs (put ms x)
    have h2 := put_len ms x
    rw [List.foldl_cons, List.length_cons]
    omega
theorem put_mem (ms : List Str) (x y : Str) : y ∈ put ms x ↔ y ∈ ms ∨ y = x := by
  unfold put
  split
  · rename_i h
    exact ⟨.inl, fun z => z.elim id fun e => e ▸ h⟩
  · rw [List.mem_cons]
    exact Or.comm
theorem puts_mem : ∀ (xs ms : List Str) (y : Str), y ∈ xs.foldl put ms ↔ y ∈ ms ∨ y ∈ xs
  | [], ms, y => by simp
  | x :: xs, ms, y => by
    rw [List.foldl_cons, puts_mem xs, put_mem, List.mem_cons, or_assoc]
section
variable {P : Program} {w : World} {A : Around} {E : Value → Shared → Prop} {s : Shared}
theorem gather {I : Addr} {fp wr : List Addr} {G : Array GenState → Array GenState → Prop} {n : Nat} {Pv : Nat → Value → Prop} {St : Nat → Shared → Prop} {R : Result → Shared → Prop}
    (W : WalksS P w A.in1 I fp wr G n Pv St) (S : Addr) (out : S ∉ fp) (xs : List Str) (hn : n = xs.length) (room : xs.length + 1 < scanBound) (val : ∀ i v, Pv i v → ∃ x t, xs[i]? = some x ∧ v = .str x t) :
    ∀ (k i : Nat) (s : Shared), n - i = k → i ≤ n → St i s → SetT P w s.heap S ((xs.take i).foldl put []) →
      (∀ s', Moved (S :: wr) G s s' → SetT P w s'.heap S (xs.foldl put []) → R (.ok (.ret .none)) s') → codeAny (model P w) A (.builtin "set.update.loop" ⟨[.ref S, .ref I], []⟩) R s := by
  have apart : S ∉ wr := fun h => out (W.sub _ h)
  have more : ∀ b ∈ wr, b ∈ S :: wr := fun b hb => List.mem_cons_of_mem _ hb
  intro k
  induction k with
  | zero =>
    intro i s hk hi st hS hR
    obtain rfl : i = n := by omega
    rw [List.take_of_length_le (by omega)] at hS
    refine codeAny_builtin F.entry_set_update_loop ?_
    rw [Around.under_plainId F.plain_set_update_loop _]
    exact wpAny_bind (W.done s _ _ st fun s' hm => wpAny_pure (hR s' (hm.mono more) (hS.keep fun o e => hm.heap S o apart e)))
  | succ k ih =>
    intro i s hk hi st hS hR
    have lt : i < n := by omega
    refine codeAny_builtin F.entry_set_update_loop ?_
    rw [Around.under_plainId F.plain_set_update_loop _]
    refine wpAny_bind (W.item i s _ _ lt st fun v s1 hP st1 hm => ?_)
    obtain ⟨x, t, hx, rfl⟩ := val i v hP
    show wpAny _ A.in1 (holding [Value.str x t] (setAdd S (.str x t)) >>= _) _ _ s1
    refine wpAny_bind (wpAny_holding ?_)
    unfold setAdd
    refine wpAny_holding (wpAny_bind ((strKind P w).pyHash (k := x) (strKind_is _ _ _ _) ?_))
    have hl : ((xs.take i).foldl put []).length + 1 < scanBound := by
      have z := puts_len (xs.take i) []
      rw [List.length_take, List.length_nil] at z
      omega
    refine add_text (s := { s1 with toks := s1.toks + 1 }) (hS.keep fun o e => hm.heap S o apart e) hl fun h' b sb hS2 => ?_
    have same : (xs.take (i + 1)).foldl put [] = put ((xs.take i).foldl put []) x := by
      rw [List.take_add_one, hx, List.foldl_append]
      rfl
    rw [← same] at hS2
    have far : ∀ b, b ≠ S → ∀ o, s1.heap.get? b = some o → h'.get? b = some o := fun b hb o e => by
      rw [sb.2 b hb]
      exact e
    refine wpAny_pure ⟨plainId_quiet F.plain_set_update_loop _, ih (i + 1) _ (by omega) lt (W.frame _ s1 _ _ st1 (Nat.le_succ _) fun b hb o e => far b (fun z => out (z ▸ hb)) o e) hS2 fun s2 hm2 hS3 => ?_⟩
    exact hR s2 (Moved.trans W.gtrans ((hm.mono more).then_heap (Nat.le_succ _) fun b o hb e => far b (fun z => hb (z ▸ List.mem_cons_self)) o e) hm2) hS3
/-- the empty set that set(..) begins with -/
abbrev bare (w : World) : Obj := { cls := .type "set", dict := none, data := .set #[] 0 (.fresh 0 0 (!w.params.followText "set-order")) }
/-- set(l), l a list of texts -/
theorem set_of {l : Addr} {items : Array Value} {xs : List Str} {Q : Value → Shared → Prop} (hh : A.handled = none) (hl : s.heap.IsList l items) (hi : StrsAre items.toList xs) (room : xs.length + 1 < scanBound)
    (h : ∀ (h' : Heap) (tk : Nat), SetT P w h' s.heap.objs.size (xs.foldl put []) → (∀ b o, s.heap.get? b = some o → h'.get? b = some o) → Q (.ref s.heap.objs.size) { s with heap := h', toks := tk }) :
    wpAny (model P w) A (call (.type "set") [.ref l]) Q E s := by
  have hz : items.size = xs.length := by
    rw [← StrsAre.len_eq hi, Array.length_toList]
  obtain ⟨c, tl, hmro⟩ := F.called_set.mro
  have hmade := F.called_set.made
  have hsub := F.called_set.sub
  refine wpAny_call (codeAny_of_tree ?_)
  show wpAny _ _ (callAny (.type "set") _) _ _ _
  refine wpAny_pure ⟨Code.quiet_builtin _ (by decide +kernel), codeAny_builtin F.entry_type_call ?_⟩
  rw [Around.under_plain (weight_type_call_type "set" [.ref l] []) rfl]
  have h1 := F.called_set.notType
  have h2 := F.called_set.canCreate
  have hct := F.typeCall_set_1 (.ref l)
  repeat (any_goals (first | assumption | wp_step))
  refine codeAny_mono (code_set_led1 (P := P) (w := w) (A := A.in1) (.ref l) (E := E) (Q₁ := fun obj s1 => obj = .ref s.heap.objs.size ∧ s1 = { s with heap := s.heap.push (bare w) }) ⟨rfl, rfl⟩) fun r s1 hr => ?_
  cases r with
  | error e => exact hr
  | ok fl =>
    cases fl with
    | next => exact hr.elim
    | brk => exact hr.elim
    | cont => exact hr.elim
    | ret obj =>
      obtain ⟨rfl, rfl⟩ := hr
      have at0 : (s.heap.push (bare w)).get? s.heap.objs.size = some (bare w) := Heap.get?_push_size _ rfl
      have hT : Shared.TypeIs { s with heap := s.heap.push (bare w) } (.ref s.heap.objs.size) "set" := ⟨_, at0, rfl⟩
      have hli := F.called_set.init.lookup
      have hbi := F.called_set.init.bind (.ref s.heap.objs.size)
      repeat (any_goals (first | assumption | wp_step))
      refine codeAny_mono (codeAny_call_builtin (R := wants (fun r s2 => r = .none ∧ ∃ h' tk, s2 = { s with heap := h', toks := tk } ∧
        SetT P w h' s.heap.objs.size (xs.foldl put []) ∧ ∀ b o, s.heap.get? b = some o → h'.get? b = some o) E) F.called_set.init.plain F.entry_set_init (check_set_init_1 hT ?_)) fun r2 s2 hr2 => ?_
      · obtain ⟨ol, hol, hcl, nl, hdl⟩ := hl
        obtain ⟨ocls, odict, odata, oslots⟩ := ol
        simp only at hcl hdl
        subst hcl; subst hdl
        have at1 : (s.heap.push (bare w)).get? l = some { cls := .type "list", dict := odict, data := .seq items nl, slots := oslots } := Heap.get?_push_of_some _ hol
        have n1 := F.sub_list_set
        have n2 := F.sub_list_frozenset
        have n3 : (Value.type "list" == Value.type "dict") = false := by decide
        have l1 : (s.heap.push (bare w)).IsList l items := ⟨_, at1, rfl, nl, rfl⟩
        unfold Builtin.«set.__init__» noKeywords Builtin.Frozenset.updateFrom
        generalize hPI : pyIter = PI
        wp_walk
        subst hPI
        refine wpAny_pyIter_list l1 (wpAny_bind (wpAny_runValue ?_))
        have small : l < s.heap.objs.size := Heap.lt_size hol
        have sz : (s.heap.push (bare w)).objs.size = s.heap.objs.size + 1 := Heap.size_push ..
        have hh3 : A.in1.in1.in1.handled = none := by simp [hh]
        have ne1 : l ≠ (s.heap.push (bare w)).objs.size := by
          rw [sz]
          exact Nat.ne_of_lt (Nat.lt_succ_of_lt small)
        have ne2 : s.heap.objs.size ∉ [(s.heap.push (bare w)).objs.size, l] := fun z => by
          rcases List.mem_cons.mp z with z | z
          · rw [sz] at z
            exact absurd z (Nat.ne_of_lt (Nat.lt_succ_self _))
          · exact absurd (List.mem_singleton.mp z) (Nat.ne_of_gt small)
        refine gather ((Walks.list hh3 _ l ne1 items).toS) s.heap.objs.size ne2 xs hz room (fun i v hv => ?val) (items.size - 0) 0 _ (by omega) (Nat.zero_le _)
          ⟨⟨_, Heap.get?_push_size _ rfl, rfl, rfl⟩, l1.push _⟩ ?start ?fin
        case val =>
          obtain ⟨t, e⟩ := SS.strs_at hi i v (by rw [Array.getElem?_toList]; exact hv)
          have lt : i < xs.length := by
            rw [← hz]
            exact (Array.getElem?_eq_some_iff.mp hv).1
          refine ⟨xs[i], t, List.getElem?_eq_getElem lt, ?_⟩
          rw [e, List.getD_eq_getElem?_getD, List.getElem?_eq_getElem lt]
          rfl
        case start => exact fresh (Heap.get?_push_of_some _ at0)
        case fin =>
          intro s' hm hS'
          obtain ⟨h', g2, d', tk', os'⟩ := s'
          obtain rfl : g2 = s.gens := hm.gens
          obtain rfl : d' = s.drawn := hm.drawn
          obtain rfl : os' = s.os := hm.os
          refine wpAny_pure (wpAny_pure ⟨rfl, h', tk', rfl, hS', fun b o e => ?_⟩)
          have lt : b < s.heap.objs.size := Heap.lt_size e
          refine hm.heap b o (fun z => ?_) (Heap.get?_push_of_some _ (Heap.get?_push_of_some _ e))
          rcases List.mem_cons.mp z with z | z
          · exact absurd z (Nat.ne_of_lt lt)
          · have z2 := List.mem_singleton.mp z
            rw [sz] at z2
            exact absurd z2 (Nat.ne_of_lt (Nat.lt_succ_of_lt lt))
      · cases r2 with
        | error e => exact hr2
        | ok fl2 =>
          cases fl2 with
          | next => exact hr2.elim
          | brk => exact hr2.elim
          | cont => exact hr2.elim
          | ret r =>
            obtain ⟨rfl, h', tk, rfl, hS', hk'⟩ := hr2
            repeat (any_goals (first | assumption | wp_step))
            exact h _ _ hS' hk'
end
end Hs

namespace Hs
open PySem PySem.Spec PyProof.Rows L2
theorem strs_are : ∀ {us : List Value}, (∀ v ∈ us, ∃ x t, v = Value.str x t) → StrsAre us (us.map fun v => textOf (0, v))
  | [], _ => .nil
  | v :: us, h => by
    obtain ⟨x, t, rfl⟩ := h _ List.mem_cons_self
    exact .cons x t (strs_are fun u hu => h u (List.mem_cons_of_mem _ hu))
section
variable {P : Program} {w : World} {A : Around} {E : Value → Shared → Prop} {s : Shared} {a : Addr} {ms : List Str}
/-- sorted(s), s a set of texts -/
theorem sorted_of {Q : Value → Shared → Prop} (R : SetT P w s.heap a ms) (hh : A.handled = none)
    (hQ : ∀ s' p (out : Array Value) (c : Nat) (ys : List Str), (∀ b o, s.heap.get? b = some o → s'.heap.get? b = some o) → s'.gens = s.gens → s'.os = s.os → s.heap.objs.size ≤ p →
      s'.heap.get? p = some (seqObj "list" out c) → StrsAre out.toList ys → ys.Perm ms → sortedS ys = true → Q (.ref p) s') : wpAny (model P w) A (call (.builtin "sorted") [.ref a]) Q E s := by
  obtain ⟨o, es, ep, t, ho, hex, hd, T⟩ := R
  refine Calls.call_function_entry kind_sorted plain_sorted entry_sorted (args_sorted1 _) ?_
  unfold Builtin.«sorted»
  refine wpAny_bind (m := checkCount "sorted" 1 1 _) (wpAny_pure ?_)
  refine wpAny_bind (collect_set (A := A.in1) hh ⟨o, ho, hex.1, hd⟩ T.fits T.few T.ris T.led fun s1 vs k1 hz g1 o1 pm => ?_)
  have len : vs.length = es.size := by rw [pm.length_eq, List.length_map, Array.length_toList]
  have few : vs.length ≤ sizeLine := by
    rw [len]
    exact fits_of_scanBound T.few
  have hS : StrsAre vs (vs.map fun v => textOf (0, v)) := strs_are fun v hv => by
    obtain ⟨e, he, q⟩ := List.mem_map.mp (pm.mem_iff.mp hv)
    obtain ⟨x, tk, h1, _⟩ := T.texts e he
    exact ⟨x, tk, q.symm.trans h1⟩
  have pk : (vs.map fun v => textOf (0, v)).Perm ms := by
    have z := pm.map fun v => textOf (0, v)
    rw [List.map_map] at z
    exact z.trans T.perm
  refine wpAny_bind (wpAny_newList ?_ few)
  have at1 : (s1.heap.push (seqObj "list" vs.toArray 0)).get? s1.heap.objs.size = some (seqObj "list" vs.toArray 0) := Heap.get?_push_size _ rfl
  refine wpAny_bind (wpAny_holding (wpAny_call_entry slot_list_sort ⟨_, at1, rfl⟩ entry_list_sort
    (list_sort_treeKAny strKind_oneLt at1 hS.keysOf (fun v1 v2 rest e => keyKind_strs (by rw [← e]; exact hS)) few fun st' hp hs => ⟨_, rfl, ?_⟩) (args_list_sort _)))
  obtain ⟨ys, y1, y2, y3⟩ := sorted_out_str hS hp hs
  obtain ⟨c, hc⟩ := sortedHeap_at (vs := vs) (out := (arrOf st').map (·.2)) at1
  refine wpAny_pure ⟨_, rfl, hQ _ s1.heap.objs.size ((arrOf st').map (·.2)) c ys (fun b u e => ?_) g1 o1 hz hc y1 (y2.trans pk) y3⟩
  have q := k1 b u e
  have lt := Heap.lt_size q
  show (sortedHeap (s1.heap.push (seqObj "list" vs.toArray 0)) s1.heap.objs.size vs ((arrOf st').map (·.2))).get? b = some u
  rw [sortedHeap_old (Nat.ne_of_lt lt) (by rw [size_push']; exact Nat.lt_succ_of_lt lt)]
  exact Heap.get?_push_of_some _ q
end
/-! over the layer -/
def SetS (P : Program) (w : World) (a : Addr) (ms : List Str) : HO := .ext fun h => SetT P w h a ms
section
variable {X : Cx}
theorem setS_ok {P : Program} {w : World} {H : Hp} {h : Heap} {a : Addr} {ms : List Str} (R : SetT P w h a ms) : ObjOk P w H h a (SetS P w a ms) := by
  have ⟨o, _, _, _, ho, _⟩ := R
  exact ⟨R, ⟨o, ho⟩, fun h1 h2 p k => SetT.keep p k⟩
/-- set(xs), a list of texts -/
def rSetOf (X : Cx) : List V → Hp → VK → Prop := fun vs H Q => ∃ (l : Addr) (xs : List Str), vs = [.ref l] ∧ SqL X.K H l (xs.map V.str) ∧ xs.length ≤ 1000 ∧ ∀ p, H p = none → Q (.ref p) (upd H p (SetS X.prog X.w p (xs.foldl put [])))
theorem call_setOf (hc : X.calm = true) : CallR X (.type "set") (rSetOf X) := by
  intro pins s σ H vs us Q I r h
  obtain ⟨l, xs, rfl, hs, few, q⟩ := h
  obtain ⟨its, rv, hl, _⟩ := I.list hs
  rw [Vals.ref1 r]
  refine set_of (I.ok.hd hc) hl.isList (by simpa using rv.strs) (by unfold scanBound; omega) fun h' tk R k => ?_
  exact ⟨.ref _, upd H s.heap.objs.size (SetS X.prog X.w s.heap.objs.size (xs.foldl put [])), I.laid (t' := tk) k (Nat.le_refl _) (setS_ok R), rfl, q _ (I.hok.fresh (Nat.le_refl _))⟩
/-- sorted(s), s such a set -/
def rSortedOf (X : Cx) : List V → Hp → VK → Prop := fun vs H Q => ∃ (a : Addr) (ms : List Str), vs = [.ref a] ∧ H a = some (SetS X.prog X.w a ms) ∧ ms.length ≤ 1000 ∧ ∀ ys p, ys.Perm ms → sortedS ys = true → H p = none → Q (.ref p) (upd H p (.lst (ys.map V.str)))
theorem call_sortedOf (hc : X.calm = true) : CallR X (.builtin "sorted") (rSortedOf X) := by
  intro pins s σ H vs us Q I r h
  obtain ⟨a, ms, rfl, ha, few, q⟩ := h
  rw [Vals.ref1 r]
  refine sorted_of (show SetT X.prog X.w s.heap a ms from (I.hok a _ ha).1) (I.ok.hd hc) fun s' p out c ys k g o hp hg hi hm hs => ?_
  have hlen : (ys.map V.str).length ≤ sizeLine := by
    rw [List.length_map, hm.length_eq]
    exact Nat.le_trans few (by decide)
  have hn : H p = none := I.hok.fresh hp
  have J : Inv X pins σ (upd H p (.lst (ys.map V.str))) { s with heap := s'.heap, gens := s'.gens, drawn := s'.drawn, toks := s'.toks } :=
    I.call (ch := []) (Un.laid k hp hn) (I.hok.laid k hp ⟨hlen, out.toList, c, vals_of_strs hi, hg⟩) (by rw [g]; exact I.bare) (fun _ z => nomatch z)
  have e : s' = { s with heap := s'.heap, gens := s'.gens, drawn := s'.drawn, toks := s'.toks } := by
    cases s'
    cases s
    cases o
    rfl
  rw [e]
  exact ⟨.ref p, _, J, rfl, q ys p hm hs hn⟩
end
end Hs

namespace Wp
open PySem PySem.Spec PyProof.Rows L2 Hx
/-! two loops in a comprehension -/
section
variable {J J1 : It} {n n1 : Nat} {G G1 : Hp → Prop} {Y Y1 : Nat → Hp → V → Hp → Prop} {g g1 : TG} {tt tt1 : TT} {te : TE} {vs vs1 : List Nat} {σ : L2.St} {H1 : Hp} {D : Addr}
theorem outer_it (w : Walk J n G Y) {wi1 : TI} {Qd : Hp → Prop} (Pv : Nat → Hp → Prop) (h0 : Pv 0 (upd H1 D (.lst []))) (hG : ∀ i H, i ≤ n → Pv i H → G H)
    (hs : ∀ i x H H', i < n → Pv i H → Y i H x H' → g x (wipe σ vs) H' fun σ2 H2 => wipe σ2 vs = wipe σ vs ∧ tt σ2 H2 fun b H3 =>
      if b = true then wi1 σ2 H3 fun J1 H4 => ∃ W1 : Nat → Nat → Hp → Prop, (∃ m, W1 0 m H4) ∧ ∀ j k H, W1 j k H →
        (J1.stop j H ∧ Pv (i + 1) H) ∨ (J1.go j H ∧ ∃ Nx1 : Hp → Prop, (∀ H', Nx1 H' → ∃ k', k' < k ∧ W1 (j + 1) k' H') ∧ ∀ x H', J1.yld j H x H' → g1 x (wipe σ2 vs1) H' fun σ3 H5 => wipe σ3 vs1 = wipe σ2 vs1 ∧ tt1 σ3 H5 fun b H6 =>
          if b = true then te σ3 H6 fun y H7 => ∃ acc, H7 D = some (.lst acc) ∧ acc.length < sizeLine ∧ Nx1 (upd H7 D (.lst (acc ++ [y]))) else Nx1 H6)
      else Pv (i + 1) H3) (hd : ∀ H, Pv n H → Qd H) :
    ∃ W : Nat → Nat → Hp → Prop, (∃ m, W 0 m (upd H1 D (.lst []))) ∧ ∀ i m H, W i m H →
      (J.stop i H ∧ Qd H) ∨ (J.go i H ∧ ∃ Nx : Hp → Prop, (∀ H', Nx H' → ∃ m', m' < m ∧ W (i + 1) m' H') ∧ ∀ x H', J.yld i H x H' → g x (wipe σ vs) H' fun σ2 H2 => wipe σ2 vs = wipe σ vs ∧ tt σ2 H2 fun b H3 =>
        if b = true then wi1 σ2 H3 fun J1 H4 => ∃ W1 : Nat → Nat → Hp → Prop, (∃ m, W1 0 m H4) ∧ ∀ j k H, W1 j k H →
          (J1.stop j H ∧ Nx H) ∨ (J1.go j H ∧ ∃ Nx1 : Hp → Prop, (∀ H', Nx1 H' → ∃ k', k' < k ∧ W1 (j + 1) k' H') ∧ ∀ x H', J1.yld j H x H' → g1 x (wipe σ2 vs1) H' fun σ3 H5 => wipe σ3 vs1 = wipe σ2 vs1 ∧ tt1 σ3 H5 fun b H6 =>
            if b = true then te σ3 H6 fun y H7 => ∃ acc, H7 D = some (.lst acc) ∧ acc.length < sizeLine ∧ Nx1 (upd H7 D (.lst (acc ++ [y]))) else Nx1 H6)
        else Nx H3) := by
  refine ⟨fun i m H => m = n - i ∧ i ≤ n ∧ Pv i H, ⟨n, rfl, Nat.zero_le _, h0⟩, ?_⟩
  rintro i m H ⟨rfl, hi, p⟩
  by_cases lt : i < n
  · exact .inr ⟨w.goes i H lt (hG i H hi p), Pv (i + 1), fun H' p' => ⟨n - (i + 1), by omega, rfl, lt, p'⟩, fun x H' y => hs i x H H' lt p (w.yields i H x H' lt (hG i H hi p) y)⟩
  · obtain rfl : i = n := by omega
    exact .inl ⟨w.stops H (hG i H hi p), hd H p⟩
theorem inner_it (w : Walk J1 n1 G1 Y1) {H4 : Hp} {Nx : Hp → Prop} (Pv : Nat → Hp → Prop) (h0 : Pv 0 H4) (hG : ∀ i H, i ≤ n1 → Pv i H → G1 H)
    (hs : ∀ j x H H', j < n1 → Pv j H → Y1 j H x H' → g1 x (wipe σ vs1) H' fun σ3 H5 => wipe σ3 vs1 = wipe σ vs1 ∧ tt1 σ3 H5 fun b H6 =>
      if b = true then te σ3 H6 fun y H7 => ∃ acc, H7 D = some (.lst acc) ∧ acc.length < sizeLine ∧ Pv (j + 1) (upd H7 D (.lst (acc ++ [y]))) else Pv (j + 1) H6) (hd : ∀ H, Pv n1 H → Nx H) :
    ∃ W1 : Nat → Nat → Hp → Prop, (∃ m, W1 0 m H4) ∧ ∀ j k H, W1 j k H →
      (J1.stop j H ∧ Nx H) ∨ (J1.go j H ∧ ∃ Nx1 : Hp → Prop, (∀ H', Nx1 H' → ∃ k', k' < k ∧ W1 (j + 1) k' H') ∧ ∀ x H', J1.yld j H x H' → g1 x (wipe σ vs1) H' fun σ3 H5 => wipe σ3 vs1 = wipe σ vs1 ∧ tt1 σ3 H5 fun b H6 =>
        if b = true then te σ3 H6 fun y H7 => ∃ acc, H7 D = some (.lst acc) ∧ acc.length < sizeLine ∧ Nx1 (upd H7 D (.lst (acc ++ [y]))) else Nx1 H6) := by
  refine ⟨fun i m H => m = n1 - i ∧ i ≤ n1 ∧ Pv i H, ⟨n1, rfl, Nat.zero_le _, h0⟩, ?_⟩
  rintro i m H ⟨rfl, hi, p⟩
  by_cases lt : i < n1
  · exact .inr ⟨w.goes i H lt (hG i H hi p), Pv (i + 1), fun H' p' => ⟨n1 - (i + 1), by omega, rfl, lt, p'⟩, fun x H' y => hs i x H H' lt p (w.yields i H x H' lt (hG i H hi p) y)⟩
  · obtain rfl : i = n1 := by omega
    exact .inl ⟨w.stops H (hG i H hi p), hd H p⟩
end
/-- what is told of an expression -/
structure Told where
  at_ : Addr
  own : Addr
  kind : Str
  text : Str
  told : List V
  inner : List V
  labels : List Str
  size : Int
def Told.stands (CF : Addr) (cls : Addr → Prop) (H : Hp) (e : Told) : Prop := XpAt CF cls H e.at_ e.own e.kind e.text e.told e.inner e.labels e.size
def namesOf (kind : Str) (told : List V) (es : List Told) : List Str := if kind = "name" then told.filterMap fun | .str s => some s | _ => none else es.flatMap (·.labels)
def spFacts (CF : Addr) (cls : Addr → Prop) : Sp := fun vs H Q _ => ∃ (a dx : Addr) (kind : Str) (pt pi : Addr) (told : List V) (es : List Told) (text : Str), vs = [.ref a, .str kind, .ref pt, .ref pi] ∧ H a = some (.ins CF dx []) ∧
  H pt = some (.tup told) ∧ H pi = some (.tup (es.map fun e => .ref e.at_)) ∧ (∀ e ∈ es, e.stands CF cls H ∧ e.labels.length ≤ 40) ∧ es.length ≤ 10 ∧ Spells CF cls H kind told (es.map fun e => .ref e.at_) text ∧
  ∀ H' pl ls, But a H H' → H' a = some (.ins CF dx (factL kind pt pi text pl (1 + (es.map (·.size)).sum))) → H' pl = some (.tup (ls.map V.str)) → ls.Perm ((namesOf kind told es).foldl Hs.put []) → sortedS ls = true → Q .non H'
section
variable {P : Program} {w : World} {K : PySem.W.Frag} {mg : Str → Option Value} {base : Heap} {f fS CF : Addr} {fd fdS : FuncData} {cls : Addr → Prop}
theorem scFacts : FnScope ["self", "kind", "told", "inner", "names", "name", "knot"] ["self", "kind", "told", "inner"] (defScope s_Facts_init) := ⟨rfl, rfl, rfl, by decide +kernel, rfl, by decide +kernel, by decide +kernel⟩
theorem seq_join {te : TE} {i : Nat} {u : TS} {D : Ends} {σ : L2.St} {H : Hp} (R : V → Hp → Prop) (h : ∀ Q : VK, (∀ v H', R v H' → Q v H') → te σ H Q) (hq : ∀ v H', R v H' → u D (σ.set i (some v)) H') : tSeq (tAsg te (gName i)) u D σ H := h _ hq
theorem but_ne {a dx CF : Addr} {H : Hp} {c : Addr} {o : HO} (ha : H a = some (.ins CF dx [])) (e : H c = some o) (n : o ≠ .ins CF dx []) : c ≠ a := fun z => by
  rw [z, ha] at e
  exact n (Option.some.inj e).symm
theorem xp_but {a dx CF : Addr} {H H' : Hp} {x C : Addr} {kind text : Str} {told inner : List V} {labels : List Str} {size : Int} (ha : H a = some (.ins CF dx [])) (b : But a H H') (h : XpAt CF cls H x C kind text told inner labels size) : XpAt CF cls H' x C kind text told inner labels size := by
  obtain ⟨dx', fa, dfa, pm, pi, pl, h0, h1, h2, h3, h4, h5⟩ := h
  refine ⟨dx', fa, dfa, pm, pi, pl, h0, b _ _ (but_ne ha h1 ?_) h1, b _ _ (but_ne ha h2 ?_) h2, b _ _ (but_ne ha h3 ?_) h3, b _ _ (but_ne ha h4 ?_) h4, b _ _ (but_ne ha h5 ?_) h5⟩
  · intro z
    cases z
  · intro z
    have y := (HO.ins.inj z).2.2
    unfold factL at y
    cases y
  · intro z
    cases z
  · intro z
    cases z
  · intro z
    cases z
theorem tx_but {a dx CF : Addr} {H H' : Hp} {v : V} {y : Str} (ha : H a = some (.ins CF dx [])) (b : But a H H') (h : TxAt CF cls H v y) : TxAt CF cls H' v y := by
  cases h with
  | int i h => exact .int i h
  | str => exact .str y
  | exp h => exact .exp (xp_but ha b h)
theorem paired_imp {α β : Type} {R S : α → β → Prop} (f : ∀ x y, R x y → S x y) : ∀ {xs : List α} {ys : List β}, Paired R xs ys → Paired S xs ys
  | _, _, .nil => .nil
  | _, _, .cons r t => .cons (f _ _ r) (paired_imp f t)
theorem flat_len : ∀ es : List Told, (∀ e ∈ es, e.labels.length ≤ 40) → (es.flatMap (·.labels)).length ≤ es.length * 40
  | [], _ => Nat.zero_le _
  | e :: es, h => by
    have h1 := h e List.mem_cons_self
    have h2 := flat_len es fun x hx => h x (List.mem_cons_of_mem _ hx)
    rw [List.flatMap_cons, List.length_append, List.length_cons, Nat.succ_mul]
    omega
theorem spells_but {a dx CF : Addr} {H H' : Hp} {kind text : Str} {told inner : List V} (ha : H a = some (.ins CF dx [])) (b : But a H H') (sp : Spells CF cls H kind told inner text) : Spells CF cls H' kind told inner text := by
  rcases sp with h | h | ⟨n1, n2, kf, ys, h1, h2, h3, e⟩
  · exact .inl h
  · exact .inr (.inl h)
  · exact .inr (.inr ⟨n1, n2, kf, ys, paired_imp (fun _ _ => tx_but ha b) h1, h2, h3, e⟩)
theorem put0 {v1 : V} : putF "word" v1 [] = ([("word", v1)] : List (Str × V)) := rfl
theorem put1 {v1 v2 : V} : putF "marks" v2 ([("word", v1)] : List (Str × V)) = ([("word", v1), ("marks", v2)] : List (Str × V)) := by kernel_rfl
theorem put2 {v1 v2 v3 : V} : putF "parts" v3 ([("word", v1), ("marks", v2)] : List (Str × V)) = ([("word", v1), ("marks", v2), ("parts", v3)] : List (Str × V)) := by kernel_rfl
theorem put3 {v1 v2 v3 v4 : V} : putF "text" v4 ([("word", v1), ("marks", v2), ("parts", v3)] : List (Str × V)) = ([("word", v1), ("marks", v2), ("parts", v3), ("text", v4)] : List (Str × V)) := by kernel_rfl
theorem put4 {v1 v2 v3 v4 v5 : V} : putF "labels" v5 ([("word", v1), ("marks", v2), ("parts", v3), ("text", v4)] : List (Str × V)) = ([("word", v1), ("marks", v2), ("parts", v3), ("text", v4), ("labels", v5)] : List (Str × V)) := by kernel_rfl
theorem put5 {v1 v2 v3 v4 v5 v6 : V} : putF "size" v6 ([("word", v1), ("marks", v2), ("parts", v3), ("text", v4), ("labels", v5)] : List (Str × V)) = ([("word", v1), ("marks", v2), ("parts", v3), ("text", v4), ("labels", v5), ("size", v6)] : List (Str × V)) := by kernel_rfl
structure FactsC (K : PySem.W.Frag) (CF : Addr) : Prop where
  cls : Cls K CF
  no : ∀ f ∈ (["word", "marks", "parts", "text", "labels", "size"] : List Str), NoAttr K CF f
structure Bltn2 (mg : Str → Option Value) : Prop where
  list : mg "list" = none
  set : mg "set" = none
  sorted : mg "sorted" = none
  tuple : mg "tuple" = none
  sum : mg "sum" = none
theorem ok_facts (F : Fun K "__init__" "Facts.__init__" s_Facts_init f fd) (Z : Bltn2 mg) (T : Kls P w K mg base CF cls) (FC : FactsC K CF)
    (GS : FnOk P w K mg base CX0 4 fS fdS ["kind", "told", "inner"] (spSpelled CF cls)) (bS : Binds K fdS ["kind", "told", "inner"] []) (kS : PySem.W.keepIn K (.ref fS) = true) (mS : mg "spelled" = some (.ref fS)) :
    FnOk P w K mg base CX0 5 f fd ["self", "kind", "told", "inner"] (spFacts CF cls) := by
  refine F.ok scFacts (fun vs H Q E h => ?_) (fun cdv A outer s H vs Q E hr h => ?_)
  · obtain ⟨a, dx, kind, pt, pi, told, es, text, rfl, _⟩ := h
    rfl
  obtain ⟨a, dx, kind, pt, pi, told, es, text, rfl, ha, ht, hi, hes, few, sp, q⟩ := h
  refine ⟨_, pss_cons (ps_fld (pv 0) (pv 1) rfl) (pss_cons (ps_fld (pv 0) (pv 2) rfl) (pss_cons (ps_fld (pv 0) (pv 3) rfl)
    (pss_cons (ps_fld (pv 0) (pe_call GS hr rfl mS kS bS .nil pass0 (pa_cons (pv 1) (pa_cons (pv 2) (pa_cons (pv 3) pa_nil)))) rfl)
    (pss_cons (ps_set (i := 4) scFacts.nd rfl (Or.inl rfl) (pe_ifExp (pt_cmpR op_eq (pv 1) pe_str (nomark _)) (pe_callTy call_list_of (by rfl) Z.list (by decide +kernel) (pa_cons (pv 2) pa_nil))
        (pe_lc2 (te := tVar 5) (own := [("knot", 6), ("name", 5)]) (vs1 := [5]) (g := gName 6) (tt := tYes) (g1 := gName 5) (tt1 := tYes) (wi1 := iTup K (tPropA P w K mg base 1 "names" (tVar 6))) rfl scFacts.nd (pi_tup (pv 3)) (blkOk_by (N := ["self", "kind", "told", "inner", "names", "name", "knot"]) (sc := defScope s_Facts_init) (by decide +kernel)) (by decide)
          (fun _ _ _ _ _ => pg_name (i := 6) scFacts.nd rfl (Or.inl rfl)) (fun _ _ _ _ _ => pts_nil) (fun _ _ _ _ _ => pi_tup (pe_propA (k := 1) (pv 6) (hr.mono (by decide)) rfl)) (fun _ _ _ _ _ => pg_name (i := 5) scFacts.nd rfl (Or.inl rfl)) (fun _ _ _ _ _ => pts_nil) (fun _ _ _ _ _ => pv 5))))
    (pss_cons (ps_fld (pv 0) (pe_callTy call_tuple_of (by rfl) Z.tuple (by decide +kernel) (pa_cons (pe_callB (Hs.call_sortedOf rfl) (by rfl) Z.sorted (by decide +kernel) (pa_cons (pe_callTy (Hs.call_setOf rfl) (by rfl) Z.set (by decide +kernel) (pa_cons (pv 4) pa_nil)) pa_nil)) pa_nil)) rfl)
    (pss_one (ps_fld (pv 0) (pe_op op_add pe_int (pe_callB (cr_sum rfl) (by rfl) Z.sum (by decide +kernel) (pa_cons (pe_lc (te := tPropA P w K mg base 1 "knots" (tVar 6)) (own := [("knot", 6)]) (g := gName 6) (tt := tYes) rfl scFacts.nd (pi_tup (pv 3)) (blkOk_by (N := ["self", "kind", "told", "inner", "names", "name", "knot"]) (sc := defScope s_Facts_init) (by decide +kernel))
          (fun _ _ _ _ _ => pg_name (i := 6) scFacts.nd rfl (Or.inl rfl)) (fun _ _ _ _ _ => pts_nil) (fun _ _ _ _ _ => pe_propA (k := 1) (pv 6) (hr.mono (by decide)) rfl)) pa_nil))) rfl))))))), ?_⟩
  have npt : pt ≠ a := but_ne ha ht (by intro z; cases z)
  have npi : pi ≠ a := but_ne ha hi (by intro z; cases z)
  have no := FC.no
  refine ⟨_, rfl, _, rfl, a, CF, dx, [], rfl, ha, FC.cls, no "word" (by simp), (by show 0 < 1000; decide), ?_⟩
  rw [put0]
  have b1 : But a H (upd H a (.ins CF dx ([("word", V.str kind)] : List (Str × V)))) := But.refl.upd _
  refine ⟨_, rfl, _, rfl, a, CF, dx, [("word", V.str kind)], rfl, upd_same, FC.cls, no "marks" (by simp), (by show 1 < 1000; decide), ?_⟩
  rw [put1]
  have b2 := b1.upd (.ins CF dx ([("word", V.str kind), ("marks", .ref pt)] : List (Str × V)))
  refine ⟨_, rfl, _, rfl, a, CF, dx, _, rfl, upd_same, FC.cls, no "parts" (by simp), (by show 2 < 1000; decide), ?_⟩
  rw [put2]
  have b3 := b2.upd (.ins CF dx ([("word", V.str kind), ("marks", .ref pt), ("parts", .ref pi)] : List (Str × V)))
  obtain ⟨H3, e3, b3, h3a⟩ : ∃ H3, upd (upd (upd H a (.ins CF dx ([("word", V.str kind)] : List (Str × V)))) a (.ins CF dx ([("word", V.str kind), ("marks", .ref pt)] : List (Str × V)))) a (.ins CF dx ([("word", V.str kind), ("marks", .ref pt), ("parts", .ref pi)] : List (Str × V))) = H3 ∧ But a H H3 ∧
      H3 a = some (.ins CF dx ([("word", V.str kind), ("marks", .ref pt), ("parts", .ref pi)] : List (Str × V))) := ⟨_, rfl, b3, upd_same⟩
  rw [e3]
  refine ⟨_, rfl, _, rfl, _, rfl, kind, pt, pi, told, _, text, rfl, b3 pt _ npt ht, b3 pi _ npi hi, spells_but ha b3 sp, fun H4 s4 => ?_⟩
  refine ⟨_, rfl, a, CF, dx, _, rfl, s4 _ _ h3a, FC.cls, no "text" (by simp), (by show 3 < 1000; decide), ?_⟩
  rw [put3]
  obtain ⟨H5, e5, b5, h5a⟩ : ∃ H5, upd H4 a (.ins CF dx ([("word", V.str kind), ("marks", .ref pt), ("parts", .ref pi), ("text", .str text)] : List (Str × V))) = H5 ∧ But a H H5 ∧
      H5 a = some (.ins CF dx ([("word", V.str kind), ("marks", .ref pt), ("parts", .ref pi), ("text", .str text)] : List (Str × V))) := ⟨_, rfl, (b3.trans (But.of s4)).upd _, upd_same⟩
  rw [e5]
  have hpi5 := b5 pi _ npi hi
  dsimp only
  refine seq_join (fun v H' => ∃ D, v = .ref D ∧ Same H5 H' ∧ H' D = some (.lst ((namesOf kind told es).map V.str)) ∧ (namesOf kind told es).length ≤ 400) (fun Q' hQ => ?_) ?_
  · refine ⟨_, rfl, rfl, _, rfl, ?_⟩
    by_cases hk : kind = "name"
    · subst hk
      rw [decide_eq_true rfl]
      obtain ⟨s', rfl⟩ : ∃ s', told = [V.str s'] := by
        rcases sp with ⟨z, _⟩ | ⟨_, s', e, _⟩ | ⟨_, z, _⟩
        · exact absurd z (by decide +kernel)
        · exact ⟨s', e⟩
        · exact absurd rfl z
      exact iteT ⟨_, rfl, pt, _, rfl, .inr (SqT.of (b5 pt _ npt ht)), fun l hl => hQ _ _ ⟨l, rfl, same_new hl _, upd_same, by show 1 ≤ 400; decide⟩⟩
    · have en : namesOf kind told es = es.flatMap (·.labels) := by
        unfold namesOf
        rw [if_neg hk]
      have fl := flat_len es fun e he => (hes e he).2
      rw [str_ne hk]
      refine iteF ⟨_, rfl, pi, rfl, ⟨_, SqT.of hpi5⟩, fun D hD => ?_⟩
      refine outer_it walk_tup (fun i H' => Same H5 H' ∧ H' D = some (.lst (((es.take i).flatMap (·.labels)).map V.str))) ⟨same_new hD _, upd_same⟩ (fun i H' _ h => SqT.of (h.1 _ _ hpi5)) ?_ ?_
      · rintro i x H6 _ hi' ⟨s6, h6⟩ ⟨rfl, hx⟩
        rw [List.getElem?_map] at hx
        cases he : es[i]? with
        | none =>
          rw [he] at hx
          cases hx
        | some e =>
          rw [he] at hx
          cases hx
          have he2 := hes e (List.mem_of_getElem? he)
          obtain ⟨dx', fa, dfa, pm, pi', pl, hc, g1, g2, g3, g4, g5⟩ := xp_but ha b5 he2.1
          have ft := flat_len (es.take i) fun e he => (hes e (List.mem_of_mem_take he)).2
          have lt : (es.take i).length ≤ 10 := Nat.le_trans (by rw [List.length_take]; exact Nat.min_le_right _ _) few
          refine ⟨rfl, turn_yes ?_⟩
          refine ⟨_, rfl, e.at_, e.own, dx', _, spGet e.own CF "labels", rfl, s6 _ _ g1, T.get e.own hc "names" "labels" (by simp), e.at_, dx', fa, dfa, _, _, .ref pl, rfl, s6 _ _ g1, rfl, s6 _ _ g2, rfl, pl, rfl, ⟨_, SqT.of (s6 _ _ g5)⟩, ?_⟩
          refine inner_it walk_tup (fun j H' => Same H5 H' ∧ H' D = some (.lst ((((es.take i).flatMap (·.labels)) ++ e.labels.take j).map V.str))) ⟨s6, by rw [List.take_zero, List.append_nil]; exact h6⟩ (fun j H' _ h => SqT.of (h.1 _ _ g5)) ?_ ?_
          · rintro j y H7 _ hj ⟨s7, h7⟩ ⟨rfl, hy⟩
            rw [List.getElem?_map] at hy
            cases hl : e.labels[j]? with
            | none =>
              rw [hl] at hy
              cases hy
            | some l =>
              rw [hl] at hy
              cases hy
              refine ⟨rfl, turn_yes ⟨_, rfl, _, h7, ?_, fun b o hb => ?_, ?_⟩⟩
              · rw [List.length_map, List.length_append, List.length_take]
                exact Nat.lt_of_lt_of_le (by have := he2.2; omega : _ < 1000) (small_line (Nat.le_refl _))
              · rw [upd_ne (ne_of_none hb hD)]
                exact s7 b o hb
              · rw [upd_same, List.take_add_one, hl]
                simp
          · rintro H7 ⟨s7, h7⟩
            rw [List.length_map, List.take_of_length_le (Nat.le_refl _)] at h7
            refine ⟨s7, ?_⟩
            rw [List.take_add_one, he, List.flatMap_append, h7]
            simp
      · rintro H6 ⟨s6, h6⟩
        rw [List.length_map, List.take_of_length_le (Nat.le_refl _)] at h6
        exact hQ _ _ ⟨D, rfl, s6, by rw [en]; exact h6, by rw [en]; omega⟩
  rintro _ H6 ⟨D, rfl, s6, h6, nf⟩
  have ml := Hs.puts_len (namesOf kind told es) []
  refine ⟨_, rfl, D, namesOf kind told es, rfl, SqL.of h6, by omega, fun ps hps => ?_⟩
  refine ⟨ps, _, rfl, upd_same, by rw [List.length_nil] at ml; omega, fun ls p1 perm srt np1 => ?_⟩
  refine ⟨p1, _, rfl, .inl ⟨SqL.of upd_same, fun pl hpl => ?_⟩⟩
  have s7 := ((s6.trans (same_new hps (Hs.SetS P w ps ((namesOf kind told es).foldl Hs.put [])))).trans (same_new np1 (.lst (ls.map V.str)))).trans (same_new hpl (.tup (ls.map V.str)))
  refine ⟨_, rfl, a, CF, dx, _, rfl, s7 _ _ h5a, FC.cls, no "labels" (by simp), (by show 4 < 1000; decide), ?_⟩
  rw [put4]
  have b7 := (b5.trans (But.of s7)).upd (.ins CF dx ([("word", V.str kind), ("marks", .ref pt), ("parts", .ref pi), ("text", .str text), ("labels", .ref pl)] : List (Str × V)))
  have s67 := (s6.trans (same_new hps (Hs.SetS P w ps ((namesOf kind told es).foldl Hs.put [])))).trans (same_new np1 (.lst (ls.map V.str)))
  have apl : a ≠ pl := ne_of_none (s67 _ _ h5a) hpl
  refine ⟨_, rfl, pi, rfl, ⟨_, SqT.of (b7 pi _ npi hi)⟩, fun D2 hD2 => ?_⟩
  have d1 : a ≠ D2 := ne_of_none upd_same hD2
  have d2 : pl ≠ D2 := ne_of_none (o := .tup (ls.map V.str)) (by rw [upd_ne (Ne.symm apl)]; exact upd_same) hD2
  have d3 : ∀ b o, b ≠ a → H b = some o → b ≠ D2 := fun b o n hb => ne_of_none (b7 b o n hb) hD2
  refine lc_tup (K := K) (a := pi) (xs := es.map fun e => V.ref e.at_) (fun i H' => But a H H' ∧ H' a = some (.ins CF dx ([("word", V.str kind), ("marks", .ref pt), ("parts", .ref pi), ("text", .str text), ("labels", .ref pl)] : List (Str × V))) ∧ H' pl = some (.tup (ls.map V.str)) ∧ H' D2 = some (.lst (((es.take i).map (·.size)).map V.int)))
    ⟨fun b o n hb => by rw [upd_ne (d3 b o n hb)]; exact b7 b o n hb, by rw [upd_ne d1]; exact upd_same, by rw [upd_ne d2, upd_ne (Ne.symm apl)]; exact upd_same, upd_same⟩ (fun i H' _ h => SqT.of (h.1 pi _ npi hi)) ?_ ?_
  · rintro i x H8 hx ⟨c1, c2, c3, c4⟩
    rw [List.getElem?_map] at hx
    cases he : es[i]? with
    | none =>
      rw [he] at hx
      cases hx
    | some e =>
      rw [he] at hx
      cases hx
      have he2 := hes e (List.mem_of_getElem? he)
      obtain ⟨dx', fa, dfa, pm, pi', pl', hc, g1, g2, g3, g4, g5⟩ := xp_but ha c1 he2.1
      refine ⟨rfl, turn_yes ?_⟩
      refine ⟨_, rfl, e.at_, e.own, dx', _, spGet e.own CF "size", rfl, g1, T.get e.own hc "knots" "size" (by simp), e.at_, dx', fa, dfa, _, _, .int e.size, rfl, g1, rfl, g2, rfl, _, c4, ?_, ?_⟩
      · rw [List.length_map, List.length_map, List.length_take]
        exact Nat.lt_of_lt_of_le (by omega : _ < 1000) (small_line (Nat.le_refl _))
      · refine ⟨fun b o n hb => by rw [upd_ne (d3 b o n hb)]; exact c1 b o n hb, by rw [upd_ne d1]; exact c2, by rw [upd_ne d2]; exact c3, ?_⟩
        rw [upd_same, List.take_add_one, he]
        simp
  · rintro H8 ⟨c1, c2, c3, c4⟩
    rw [List.length_map, List.take_of_length_le (Nat.le_refl _)] at c4
    refine ⟨D2, es.map (·.size), rfl, SqL.of c4, _, _, rfl, rfl, _, rfl, a, CF, dx, _, rfl, c2, FC.cls, no "size" (by simp), (by show 5 < 1000; decide), ?_⟩
    rw [put5]
    exact q _ pl ls (c1.upd _) upd_same (by rw [upd_ne (Ne.symm apl)]; exact c3) perm srt
end
end Wp

namespace Wp
open PySem PySem.Spec PyProof.Rows L2 Hx
/-! an object that has just been made -/
theorem born {H : Hp} {x dx C : Addr} (hx : H x = none) (hdx : H dx = none) (ne : dx ≠ x) : Same H (upd (upd H dx (.own x)) x (.ins C dx [])) := fun b o hb => by
  rw [upd_ne (ne_of_none hb hx), upd_ne (ne_of_none hb hdx)]
  exact hb
theorem grown {H H' : Hp} {x dx C : Addr} (hx : H x = none) (hdx : H dx = none) (ne : dx ≠ x) (b : But x (upd (upd H dx (.own x)) x (.ins C dx [])) H') : Same H H' := fun c o hc =>
  b c o (ne_of_none hc hx) (born hx hdx ne c o hc)
theorem Told.same {CF : Addr} {cls : Addr → Prop} {H H' : Hp} {e : Told} (h : e.stands CF cls H) (s : Same H H') : e.stands CF cls H' := XpAt.same h s
/-- the promise of the __init__ of an expression without inner ones -/
def spLeaf (K : PySem.W.Frag) (CF : Addr) (cls : Addr → Prop) (g : Str → Bool) (Ce : Addr) (kind : Str) (mk : Str → Str) (lab : Str → List Str) : Sp := fun vs H Q E => ∃ (a dx C : Addr) (v : V), vs = [.ref a, v] ∧ cls C ∧ H a = some (.ins C dx []) ∧
  ((∃ x : Str, v = .str x ∧ x.length ≤ 1000 ∧ g x = true ∧ ∀ H', But a H H' → XpAt CF cls H' a C kind (mk x) [v] [] (lab x) 1 → Q .non H') ∨
    (((∃ x : Str, v = .str x ∧ x.length ≤ 1000 ∧ g x = false) ∨ NotStr K H v) ∧ Tells E Ce v H))
/-- what is known of the class Facts -/
structure FactsOk (P : Program) (w : World) (K : PySem.W.Frag) (mg : Str → Option Value) (base : Heap) (CF : Addr) (cls : Addr → Prop) : Prop where
  m : mg "Facts" = some (.ref CF)
  go : ∃ (fI : Addr) (fd : FuncData), Mk K CF fI ∧ FnOk P w K mg base CX0 5 fI fd ["self", "kind", "told", "inner"] (spFacts CF cls) ∧ Binds K fd ["self", "kind", "told", "inner"] []
/-- of a class of expressions, for its own stores -/
structure Own (K : PySem.W.Frag) (C : Addr) : Prop where
  cls : Cls K C
  no : NoAttr K C "facts"
section
variable {P : Program} {w : World} {K : PySem.W.Frag} {mg : Str → Option Value} {base : Heap} {f fC CF Ce : Addr} {fd fdC : FuncData} {cls : Addr → Prop}
theorem finish {H3 : Hp} {a dx C y dy pt pi pl : Addr} {kind text : Str} {told inner : List V} {ls : List Str} {size : Int} (hC : cls C) (ha : H3 a = some (.ins C dx [])) (h1 : H3 y = some (.ins CF dy (factL kind pt pi text pl size)))
    (hpt : H3 pt = some (.tup told)) (hpi : H3 pi = some (.tup inner)) (h2 : H3 pl = some (.tup (ls.map V.str))) :
    XpAt CF cls (upd H3 a (.ins C dx (putF "facts" (.ref y) []))) a C kind text told inner ls size ∧ ∀ H, Same H H3 → But a H (upd H3 a (.ins C dx (putF "facts" (.ref y) []))) := by
  refine ⟨⟨dx, y, dy, pt, pi, pl, hC, upd_same, ?_, ?_, ?_, ?_⟩, fun H s => (But.of s).upd _⟩
  · rw [upd_ne (but_ne ha h1 ?_)]
    · exact h1
    · intro z
      have y := (HO.ins.inj z).2.2
      unfold factL at y
      cases y
  · rw [upd_ne (but_ne ha hpt (by intro z; cases z))]
    exact hpt
  · rw [upd_ne (but_ne ha hpi (by intro z; cases z))]
    exact hpi
  · rw [upd_ne (but_ne ha h2 (by intro z; cases z))]
    exact h2
theorem scSign : FnScope ["self", "sign"] ["self", "sign"] (defScope s_Sign_init) := ⟨rfl, rfl, rfl, by decide +kernel, rfl, by decide +kernel, by decide +kernel⟩
theorem ok_sign (F : Fun K "__init__" "Sign.__init__" s_Sign_init f fd) (FO : FactsOk P w K mg base CF cls) (OW : ∀ C, cls C → Own K C)
    (GC : FnOk P w K mg base (L2.CX P w) 3 fC fdC ["given"] (spCheck K (lettered 1) Ce)) (bC : Binds K fdC ["given"] []) (kC : PySem.W.keepIn K (.ref fC) = true) (mC : mg "check_sign" = some (.ref fC)) :
    FnOk P w K mg base (L2.CX P w) 7 f fd ["self", "sign"] (spLeaf K CF cls (lettered 1) Ce "sign" (fun x => ((Str.empty ++ "'") ++ x) ++ "'") fun _ => []) := by
  refine F.okX scSign (fun vs H Q E h => ?_) (fun cdv A outer s H vs Q E hr h => ?_)
  · obtain ⟨a, dx, C, v, rfl, _⟩ := h
    rfl
  obtain ⟨a, dx, C, v, rfl, hC, ha, h⟩ := h
  obtain ⟨fI, fdI, M, GI, bI⟩ := FO.go
  have tk := takes_of (X := cxOf (L2.CX P w) P w K mg base ["self", "sign"] "Sign.__init__" (defScope s_Sign_init) f cdv A outer s H E) rfl rfl rfl rfl
  refine ⟨_, pss_cons (ps_expr (pe_callS GC (hr.mono (by decide)) rfl mC kC bC (fun σ => passAt tk σ) (pa_cons (pv 1) pa_nil)))
    (pss_one (ps_fld (pv 0) (pe_make M GI hr rfl FO.m bI .nil pass0 (pa_cons pe_str (pa_cons (pe_tup (pa_cons (pv 1) pa_nil)) (pa_cons (pe_tup pa_nil) pa_nil)))) rfl)), ?_⟩
  rcases h with ⟨x, rfl, few, e, q⟩ | ⟨bad, t⟩
  · refine ⟨_, rfl, _, rfl, .inl ⟨x, rfl, Nat.le_trans few (by decide), e, fun H1 s1 => ?_⟩⟩
    refine ⟨_, rfl, (by show 1 ≤ sizeLine; decide), fun pt hpt => ⟨(by show 0 ≤ sizeLine; decide), fun pi hpi => fun y dy hy hdy ne => ?_⟩⟩
    have s2 := (s1.trans (same_new hpt (.tup [V.str x]))).trans (same_new hpi (.tup []))
    have g := born (C := CF) hy hdy ne
    refine ⟨y, dy, "sign", pt, pi, [V.str x], [], _, rfl, upd_same, g _ _ (upd_other upd_same hpi), g _ _ upd_same, (fun e he => nomatch he), by decide, .inl ⟨rfl, x, rfl, few, rfl⟩, fun H3 pl ls b h1 h2 h3 h4 => ⟨rfl, ?_⟩⟩
    have s3 := grown hy hdy ne b
    have s4 := s2.trans s3
    refine ⟨_, rfl, a, C, dx, [], rfl, s4 _ _ ha, (OW C hC).cls, (OW C hC).no, (by show 0 < 1000; decide), ?_⟩
    obtain ⟨r1, r2⟩ := finish (a := a) hC (s4 _ _ ha) h1 (s3 _ _ (upd_other upd_same hpi)) (s3 _ _ upd_same) h2
    have en : ls = [] := by
      rw [show namesOf "sign" [V.str x] [] = [] from by unfold namesOf; rw [if_neg (by decide +kernel)]; rfl] at h3
      exact List.perm_nil.mp h3
    subst en
    exact q _ (r2 H s4) r1
  · refine ⟨_, rfl, _, rfl, .inr ⟨?_, t⟩⟩
    rcases bad with ⟨x, rfl, few, e⟩ | n
    · exact .inl ⟨x, rfl, Nat.le_trans few (by decide), e⟩
    · exact .inr n
end
end Wp

namespace Wp
open PySem PySem.Spec PyProof.Rows L2 Hx
def IsExp (K : PySem.W.Frag) (CE : Addr) (H : Hp) (v : V) : Prop := ∃ t, TyX K H v t ∧ PySem.W.kitOne K t (.ref CE) = some true
def NotExp (K : PySem.W.Frag) (CE : Addr) (H : Hp) (v : V) : Prop := ∃ t, TyX K H v t ∧ PySem.W.kitOne K t (.ref CE) = some false
def spCheckAll (K : PySem.W.Frag) (CE Ce : Addr) : Sp := fun vs H Q E => ∃ (p : Addr) (xs : List V), vs = [.ref p] ∧ H p = some (.tup xs) ∧ (((∀ x ∈ xs, IsExp K CE H x) ∧ Q .non H) ∨
  ∃ (j : Nat) (x : V), xs[j]? = some x ∧ (∀ (i : Nat) (y : V), i < j → xs[i]? = some y → IsExp K CE H y) ∧ NotExp K CE H x ∧ Tells E Ce x H)
section
variable {P : Program} {w : World} {K : PySem.W.Frag} {mg : Str → Option Value} {base : Heap} {f fC CF CE Ce : Addr} {fd fdC : FuncData} {cls : Addr → Prop}
theorem scName2 : FnScope ["self", "name"] ["self", "name"] (defScope s_Name_init) := ⟨rfl, rfl, rfl, by decide +kernel, rfl, by decide +kernel, by decide +kernel⟩
theorem ok_nameE (F : Fun K "__init__" "Name.__init__" s_Name_init f fd) (FO : FactsOk P w K mg base CF cls) (OW : ∀ C, cls C → Own K C)
    (GC : FnOk P w K mg base (L2.CX P w) 3 fC fdC ["given"] (spCheck K nameB Ce)) (bC : Binds K fdC ["given"] []) (kC : PySem.W.keepIn K (.ref fC) = true) (mC : mg "check_name" = some (.ref fC)) :
    FnOk P w K mg base (L2.CX P w) 7 f fd ["self", "name"] (spLeaf K CF cls nameB Ce "name" (fun x => x) fun x => [x]) := by
  refine F.okX scName2 (fun vs H Q E h => ?_) (fun cdv A outer s H vs Q E hr h => ?_)
  · obtain ⟨a, dx, C, v, rfl, _⟩ := h
    rfl
  obtain ⟨a, dx, C, v, rfl, hC, ha, h⟩ := h
  obtain ⟨fI, fdI, M, GI, bI⟩ := FO.go
  have tk := takes_of (X := cxOf (L2.CX P w) P w K mg base ["self", "name"] "Name.__init__" (defScope s_Name_init) f cdv A outer s H E) rfl rfl rfl rfl
  refine ⟨_, pss_cons (ps_expr (pe_callS GC (hr.mono (by decide)) rfl mC kC bC (fun σ => passAt tk σ) (pa_cons (pv 1) pa_nil)))
    (pss_one (ps_fld (pv 0) (pe_make M GI hr rfl FO.m bI .nil pass0 (pa_cons pe_str (pa_cons (pe_tup (pa_cons (pv 1) pa_nil)) (pa_cons (pe_tup pa_nil) pa_nil)))) rfl)), ?_⟩
  rcases h with ⟨x, rfl, few, e, q⟩ | ⟨bad, t⟩
  · refine ⟨_, rfl, _, rfl, .inl ⟨x, rfl, Nat.le_trans few (by decide), e, fun H1 s1 => ?_⟩⟩
    refine ⟨_, rfl, (by show 1 ≤ sizeLine; decide), fun pt hpt => ⟨(by show 0 ≤ sizeLine; decide), fun pi hpi => fun y dy hy hdy ne => ?_⟩⟩
    have s2 := (s1.trans (same_new hpt (.tup [V.str x]))).trans (same_new hpi (.tup []))
    have g := born (C := CF) hy hdy ne
    refine ⟨y, dy, "name", pt, pi, [V.str x], [], _, rfl, upd_same, g _ _ (upd_other upd_same hpi), g _ _ upd_same, (fun e he => nomatch he), by decide, .inr (.inl ⟨rfl, x, rfl, rfl⟩), fun H3 pl ls b h1 h2 h3 h4 => ⟨rfl, ?_⟩⟩
    have s3 := grown hy hdy ne b
    have s4 := s2.trans s3
    refine ⟨_, rfl, a, C, dx, [], rfl, s4 _ _ ha, (OW C hC).cls, (OW C hC).no, (by show 0 < 1000; decide), ?_⟩
    obtain ⟨r1, r2⟩ := finish (a := a) hC (s4 _ _ ha) h1 (s3 _ _ (upd_other upd_same hpi)) (s3 _ _ upd_same) h2
    have en : ls = [x] := by
      rw [show namesOf "name" [V.str x] [] = [x] from by unfold namesOf; rw [if_pos rfl]; rfl] at h3
      exact List.perm_singleton.mp h3
    subst en
    exact q _ (r2 H s4) r1
  · refine ⟨_, rfl, _, rfl, .inr ⟨?_, t⟩⟩
    rcases bad with ⟨x, rfl, few, e⟩ | n
    · exact .inl ⟨x, rfl, Nat.le_trans few (by decide), e⟩
    · exact .inr n
theorem scCkE : FnScope ["values", "value"] ["values"] (defScope s_check_expressions) := ⟨rfl, rfl, rfl, by decide +kernel, rfl, by decide +kernel, by decide +kernel⟩
theorem ok_ckE (F : Fun K "check_expressions" "check_expressions" s_check_expressions f fd) (Z : Bltn mg) (M : MkC P w K mg base "InvalidExpression" Ce "given") (ty : PySem.W.typeIn K (.ref Ce) = some (.type "type")) (mE : mg "Expression" = some (.ref CE)) :
    FnOk P w K mg base (L2.CX P w) 3 f fd ["values"] (spCheckAll K CE Ce) := by
  refine F.okX scCkE (fun vs H Q E h => ?_) (fun cdv A outer s H vs Q E hr h => ?_)
  · obtain ⟨p, xs, rfl, _⟩ := h
    rfl
  obtain ⟨p, xs, rfl, hp, h⟩ := h
  refine ⟨_, pss_one (ps_for (passes_of rfl) rfl (pi_tup (pv 0)) (pg_name (i := 1) scCkE.nd rfl (Or.inl rfl))
    (pss_one (ps_if (pt_not (pt_val (pe_callB call_isi (by rfl) Z.isinstance PyProof.Rows.boot_isinstance (pa_cons (pv 1) (pa_cons (pe_gref rfl mE) pa_nil))))) (pss_one (ps_raise1 M ty rfl (takes_of rfl rfl rfl rfl) hr rfl (pv 1))) pss_nil))), ?_⟩
  have hS : SqT K H p xs := SqT.of hp
  rcases h with ⟨all, q⟩ | ⟨j, x, hj, bef, bad, t⟩
  · refine ⟨_, rfl, p, rfl, ⟨_, hS⟩, for_tup (xs := xs) (fun i σ H' => H = H' ∧ ∃ v, σ = [some (V.ref p), v]) ⟨rfl, none, rfl⟩ (fun i σ H' _ h => h.1 ▸ hS) ?_ ?_⟩
    · rintro i x σ H' hx ⟨rfl, v, rfl⟩
      obtain ⟨ty', t1, t2⟩ := all x (List.mem_of_getElem? hx)
      exact ⟨_, rfl, _, _, ty', _, true, rfl, .own CE, t1, t2, _, rfl, iteF ⟨rfl, _, rfl⟩⟩
    · rintro σ H' ⟨rfl, v, rfl⟩
      exact q
  · obtain ⟨tb, b1, b2⟩ := bad
    refine ⟨_, rfl, p, rfl, ⟨_, hS⟩, for_tup (xs := xs) (fun i σ H' => H = H' ∧ i ≤ j ∧ ∃ v, σ = [some (V.ref p), v]) ⟨rfl, Nat.zero_le _, none, rfl⟩ (fun i σ H' _ h => h.1 ▸ hS) ?_ ?_⟩
    · rintro i y σ H' hy ⟨rfl, hi, v, rfl⟩
      by_cases c : i = j
      · subst c
        rw [hj] at hy
        cases hy
        exact ⟨_, rfl, _, _, tb, _, false, rfl, .own CE, b1, b2, _, rfl, iteT ⟨_, rfl, fun d hd => t H d (Same.refl H) hd⟩⟩
      · obtain ⟨ty', t1, t2⟩ := bef i y (by omega) hy
        exact ⟨_, rfl, _, _, ty', _, true, rfl, .own CE, t1, t2, _, rfl, iteF ⟨rfl, by omega, _, rfl⟩⟩
    · rintro σ H' ⟨_, hi, _⟩
      have lt := (List.getElem?_eq_some_iff.mp hj).1
      exact absurd lt (by omega)
end
end Wp

namespace Wp
open PySem PySem.Spec PyProof.Rows L2 Hx
/-- the text of an expression of a word -/
def spell (kind : Str) (ys : List Str) : Str := (((Str.empty ++ kind) ++ "(") ++ Str.join ", " ys) ++ ")"
/-- an inner expression that may be passed -/
structure Arg (CF : Addr) (cls : Addr → Prop) (H : Hp) (e : Told) : Prop where
  stands : e.stands CF cls H
  few : e.labels.length ≤ 40
  short : e.text.length ≤ 20000
theorem Arg.same {CF : Addr} {cls : Addr → Prop} {H H' : Hp} {e : Told} (h : Arg CF cls H e) (s : Same H H') : Arg CF cls H' e := ⟨XpAt.same h.stands s, h.few, h.short⟩
/-- a new expression of inner ones stands at a -/
def Made (CF : Addr) (cls : Addr → Prop) (H : Hp) (a C : Addr) (kind text : Str) (told : List V) (es : List Told) (Q : VK) : Prop :=
  ∀ H' ls, But a H H' → XpAt CF cls H' a C kind text told (es.map fun e => .ref e.at_) ls (1 + (es.map (·.size)).sum) → ls.Perm ((namesOf kind told es).foldl Hs.put []) → sortedS ls = true → Q .non H'
def IsX (K : PySem.W.Frag) (CE : Addr) (cls : Addr → Prop) : Prop := ∀ (H : Hp) (C a dx : Addr) (fs : List (Str × V)), cls C → H a = some (.ins C dx fs) → IsExp K CE H (.ref a)
theorem Arg.isx {K : PySem.W.Frag} {CE CF : Addr} {cls : Addr → Prop} {H : Hp} {e : Told} (h : Arg CF cls H e) (ix : IsX K CE cls) : IsExp K CE H (.ref e.at_) := by
  obtain ⟨dx, fa, dfa, pm, pi, pl, hc, e1, _⟩ := h.stands
  exact ix H _ _ dx _ hc e1
theorem IsExp.same {K : PySem.W.Frag} {CE CF : Addr} {cls : Addr → Prop} {H H' : Hp} {e : Told} (h : Arg CF cls H e) (ix : IsX K CE cls) (s : Same H H') : IsExp K CE H' (.ref e.at_) := (h.same s).isx ix
theorem TyX.same {K : PySem.W.Frag} {H H' : Hp} {v : V} {t : Value} (h : TyX K H v t) (s : Same H H') : TyX K H' v t := by
  cases h with
  | base h =>
    refine .base ?_
    cases h with
    | non => exact .non
    | bl x => exact .bl x
    | int i => exact .int i
    | str x => exact .str x
    | flt x => exact .flt x
    | lst e => exact .lst (s _ _ e)
    | frz e => exact .frz (s _ _ e)
    | tup e => exact .tup (s _ _ e)
    | dK e => exact .dK (s _ _ e)
    | dT e => exact .dT (s _ _ e)
    | ins e c1 c2 c3 c4 c5 => exact .ins (s _ _ e) c1 c2 c3 c4 c5
  | byt b => exact .byt b
  | set e => exact .set (s _ _ e)
  | kList e c => exact .kList e c
  | kTuple e c => exact .kTuple e c
  | kDict e c => exact .kDict e c
  | fTuple e => exact .fTuple (s _ _ e)
  | fDict e => exact .fDict (s _ _ e)
theorem NotExp.same {K : PySem.W.Frag} {CE : Addr} {H H' : Hp} {v : V} (h : NotExp K CE H v) (s : Same H H') : NotExp K CE H' v := by
  obtain ⟨t, h1, h2⟩ := h
  exact ⟨t, TyX.same h1 s, h2⟩
theorem Tells.same {E : XK} {C : Addr} {v : V} {H H' : Hp} (t : Tells E C v H) (s : Same H H') : Tells E C v H' := fun H2 d s2 hd => t H2 d (s.trans s2) hd
theorem fig_len {i : Int} (h0 : 0 ≤ i) (h1 : i ≤ 9) : (toString i : Str).length ≤ 10 := by
  have : i = 0 ∨ i = 1 ∨ i = 2 ∨ i = 3 ∨ i = 4 ∨ i = 5 ∨ i = 6 ∨ i = 7 ∨ i = 8 ∨ i = 9 := by omega
  rcases this with rfl | rfl | rfl | rfl | rfl | rfl | rfl | rfl | rfl | rfl <;> decide +kernel
/-- Turn(word, inner) -/
def spTurn (K : PySem.W.Frag) (CF CE Cw Ce : Addr) (cls : Addr → Prop) : Sp := fun vs H Q E => ∃ (a dx C : Addr) (v u : V), vs = [.ref a, v, u] ∧ cls C ∧ H a = some (.ins C dx []) ∧
  ((∃ (x : Str) (e : Told), v = .str x ∧ x.length ≤ 1000 ∧ lettered 4 x = true ∧ u = .ref e.at_ ∧ Arg CF cls H e ∧ Made CF cls H a C "turn" (spell "turn" [x, e.text]) [v] [e] Q) ∨
    (((∃ x : Str, v = .str x ∧ x.length ≤ 1000 ∧ lettered 4 x = false) ∨ NotStr K H v) ∧ Tells E Cw v H) ∨
    ((∃ x : Str, v = .str x ∧ x.length ≤ 1000 ∧ lettered 4 x = true) ∧ NotExp K CE H u ∧ Tells E Ce u H))
section
variable {P : Program} {w : World} {K : PySem.W.Frag} {mg : Str → Option Value} {base : Heap} {f fC fX CF CE Ce Cw : Addr} {fd fdC fdX : FuncData} {cls : Addr → Prop}
theorem scTurn : FnScope ["self", "word", "inner"] ["self", "word", "inner"] (defScope s_Turn_init) := ⟨rfl, rfl, rfl, by decide +kernel, rfl, by decide +kernel, by decide +kernel⟩
theorem ok_turn (F : Fun K "__init__" "Turn.__init__" s_Turn_init f fd) (FO : FactsOk P w K mg base CF cls) (OW : ∀ C, cls C → Own K C) (ix : IsX K CE cls)
    (GC : FnOk P w K mg base (L2.CX P w) 3 fC fdC ["given"] (spCheck K (lettered 4) Cw)) (bC : Binds K fdC ["given"] []) (kC : PySem.W.keepIn K (.ref fC) = true) (mC : mg "check_word" = some (.ref fC))
    (GX : FnOk P w K mg base (L2.CX P w) 3 fX fdX ["values"] (spCheckAll K CE Ce)) (bX : Binds K fdX ["values"] []) (kX : PySem.W.keepIn K (.ref fX) = true) (mX : mg "check_expressions" = some (.ref fX)) :
    FnOk P w K mg base (L2.CX P w) 7 f fd ["self", "word", "inner"] (spTurn K CF CE Cw Ce cls) := by
  refine F.okX scTurn (fun vs H Q E h => ?_) (fun cdv A outer s H vs Q E hr h => ?_)
  · obtain ⟨a, dx, C, v, u, rfl, _⟩ := h
    rfl
  obtain ⟨a, dx, C, v, u, rfl, hC, ha, h⟩ := h
  obtain ⟨fI, fdI, M, GI, bI⟩ := FO.go
  have tk := takes_of (X := cxOf (L2.CX P w) P w K mg base ["self", "word", "inner"] "Turn.__init__" (defScope s_Turn_init) f cdv A outer s H E) rfl rfl rfl rfl
  refine ⟨_, pss_cons (ps_expr (pe_callS GC (hr.mono (by decide)) rfl mC kC bC (fun σ => passAt tk σ) (pa_cons (pv 1) pa_nil)))
    (pss_cons (ps_expr (pe_callS GX (hr.mono (by decide)) rfl mX kX bX (fun σ => passAt tk σ) (pa_cons (pe_tup (pa_cons (pv 2) pa_nil)) pa_nil)))
    (pss_one (ps_fld (pv 0) (pe_make M GI hr rfl FO.m bI .nil pass0 (pa_cons pe_str (pa_cons (pe_tup (pa_cons (pv 1) pa_nil)) (pa_cons (pe_tup (pa_cons (pv 2) pa_nil)) pa_nil)))) rfl))), ?_⟩
  rcases h with ⟨x, e, rfl, few, ex, rfl, ar, q⟩ | ⟨bad, t⟩ | ⟨⟨x, rfl, few, ex⟩, ne, t⟩
  · refine ⟨_, rfl, _, rfl, .inl ⟨x, rfl, Nat.le_trans few (by decide), ex, fun H1 s1 => ?_⟩⟩
    refine ⟨_, rfl, (by show 1 ≤ sizeLine; decide), fun pq hpq => ⟨pq, [.ref e.at_], rfl, upd_same, .inl ⟨fun y hy => ?_, ?_⟩⟩⟩
    · cases List.mem_singleton.mp hy
      exact IsExp.same ar ix (s1.trans (same_new hpq _))
    have s1' := s1.trans (same_new hpq (.tup [V.ref e.at_]))
    refine ⟨_, rfl, (by show 1 ≤ sizeLine; decide), fun pt hpt => ⟨_, rfl, (by show 1 ≤ sizeLine; decide), fun pi hpi => fun y dy hy hdy ne => ?_⟩⟩
    have s2 := (s1'.trans (same_new hpt (.tup [V.str x]))).trans (same_new hpi (.tup [V.ref e.at_]))
    have g := born (C := CF) hy hdy ne
    have ar2 := ar.same (s2.trans g)
    refine ⟨y, dy, "turn", pt, pi, [V.str x], [e], spell "turn" [x, e.text], rfl, upd_same, g _ _ (upd_other upd_same hpi), g _ _ upd_same, (fun e' he => ?_), (by show 1 ≤ 10; decide), .inr (.inr ⟨by decide +kernel, by decide +kernel, by decide +kernel, [x, e.text], ?_, (by show 2 ≤ 100; decide), ?_, rfl⟩), fun H3 pl ls b h1 h2 h3 h4 => ⟨rfl, ?_⟩⟩
    · cases List.mem_singleton.mp he
      exact ⟨ar2.stands, ar2.few⟩
    · exact .cons (.str x) (.cons (.exp ar2.stands) .nil)
    · have := ar.short
      simp only [List.map_cons, List.map_nil, List.sum_cons, List.sum_nil]
      omega
    have s3 := grown hy hdy ne b
    have s4 := s2.trans s3
    refine ⟨_, rfl, a, C, dx, [], rfl, s4 _ _ ha, (OW C hC).cls, (OW C hC).no, (by show 0 < 1000; decide), ?_⟩
    obtain ⟨r1, r2⟩ := finish (a := a) hC (s4 _ _ ha) h1 (s3 _ _ (upd_other upd_same hpi)) (s3 _ _ upd_same) h2
    exact q _ ls (r2 H s4) r1 h3 h4
  · refine ⟨_, rfl, _, rfl, .inr ⟨?_, t⟩⟩
    rcases bad with ⟨x, rfl, few, e⟩ | n
    · exact .inl ⟨x, rfl, Nat.le_trans few (by decide), e⟩
    · exact .inr n
  · refine ⟨_, rfl, _, rfl, .inl ⟨x, rfl, Nat.le_trans few (by decide), ex, fun H1 s1 => ?_⟩⟩
    refine ⟨_, rfl, (by show 1 ≤ sizeLine; decide), fun pq hpq => ⟨pq, [u], rfl, upd_same, .inr ⟨0, u, rfl, fun i y hi => by omega, ?_, ?_⟩⟩⟩
    · exact NotExp.same ne (s1.trans (same_new hpq _))
    · exact Tells.same t (s1.trans (same_new hpq _))
/-- Drop(many, inner) -/
theorem scDrop : FnScope ["self", "many", "inner"] ["self", "many", "inner"] (defScope s_Drop_init) := ⟨rfl, rfl, rfl, by decide +kernel, rfl, by decide +kernel, by decide +kernel⟩
def spDrop (K : PySem.W.Frag) (CF CE Cn Ce : Addr) (cls : Addr → Prop) : Sp := fun vs H Q E => ∃ (a dx C : Addr) (v u : V), vs = [.ref a, v, u] ∧ cls C ∧ H a = some (.ins C dx []) ∧
  ((∃ (i : Int) (e : Told), v = .int i ∧ 1 ≤ i ∧ i ≤ 9 ∧ u = .ref e.at_ ∧ Arg CF cls H e ∧ Made CF cls H a C "drop" (spell "drop" [toString i, e.text]) [v] [e] Q) ∨
    (((∃ i : Int, v = .int i ∧ ¬ (1 ≤ i ∧ i ≤ 9)) ∨ NotInt K H v) ∧ Tells E Cn v H) ∨
    ((∃ i : Int, v = .int i ∧ 1 ≤ i ∧ i ≤ 9) ∧ NotExp K CE H u ∧ Tells E Ce u H))
theorem ok_drop (F : Fun K "__init__" "Drop.__init__" s_Drop_init f fd) (FO : FactsOk P w K mg base CF cls) (OW : ∀ C, cls C → Own K C) (ix : IsX K CE cls) (CO : Consts mg K)
    (GC : FnOk P w K mg base (L2.CX P w) 3 fC fdC ["given", "least", "most"] (spCheckWithin K Cw)) (bC : Binds K fdC ["given", "least", "most"] []) (kC : PySem.W.keepIn K (.ref fC) = true) (mC : mg "check_within" = some (.ref fC))
    (GX : FnOk P w K mg base (L2.CX P w) 3 fX fdX ["values"] (spCheckAll K CE Ce)) (bX : Binds K fdX ["values"] []) (kX : PySem.W.keepIn K (.ref fX) = true) (mX : mg "check_expressions" = some (.ref fX)) :
    FnOk P w K mg base (L2.CX P w) 7 f fd ["self", "many", "inner"] (spDrop K CF CE Cw Ce cls) := by
  refine F.okX scDrop (fun vs H Q E h => ?_) (fun cdv A outer s H vs Q E hr h => ?_)
  · obtain ⟨a, dx, C, v, u, rfl, _⟩ := h
    rfl
  obtain ⟨a, dx, C, v, u, rfl, hC, ha, h⟩ := h
  obtain ⟨fI, fdI, M, GI, bI⟩ := FO.go
  obtain ⟨td, md⟩ := CO.drop
  have tk := takes_of (X := cxOf (L2.CX P w) P w K mg base ["self", "many", "inner"] "Drop.__init__" (defScope s_Drop_init) f cdv A outer s H E) rfl rfl rfl rfl
  refine ⟨_, pss_cons (ps_expr (pe_callS GC (hr.mono (by decide)) rfl mC kC bC (fun σ => passAt tk σ) (pa_cons (pv 1) (pa_cons pe_int (pa_cons (pe_gint rfl md) pa_nil)))))
    (pss_cons (ps_expr (pe_callS GX (hr.mono (by decide)) rfl mX kX bX (fun σ => passAt tk σ) (pa_cons (pe_tup (pa_cons (pv 2) pa_nil)) pa_nil)))
    (pss_one (ps_fld (pv 0) (pe_make M GI hr rfl FO.m bI .nil pass0 (pa_cons pe_str (pa_cons (pe_tup (pa_cons (pv 1) pa_nil)) (pa_cons (pe_tup (pa_cons (pv 2) pa_nil)) pa_nil)))) rfl))), ?_⟩
  rcases h with ⟨i, e, rfl, i1, i9, rfl, ar, q⟩ | ⟨bad, t⟩ | ⟨⟨i, rfl, i1, i9⟩, ne, t⟩
  · refine ⟨_, rfl, _, 1, 9, rfl, .inl ⟨i, rfl, i1, i9, ?_⟩⟩
    refine ⟨_, rfl, (by show 1 ≤ sizeLine; decide), fun pq hpq => ⟨pq, [.ref e.at_], rfl, upd_same, .inl ⟨fun y hy => ?_, ?_⟩⟩⟩
    · cases List.mem_singleton.mp hy
      exact IsExp.same ar ix (same_new hpq _)
    have s1' := same_new hpq (.tup [V.ref e.at_])
    refine ⟨_, rfl, (by show 1 ≤ sizeLine; decide), fun pt hpt => ⟨_, rfl, (by show 1 ≤ sizeLine; decide), fun pi hpi => fun y dy hy hdy ne => ?_⟩⟩
    have s2 := (s1'.trans (same_new hpt (.tup [V.int i]))).trans (same_new hpi (.tup [V.ref e.at_]))
    have g := born (C := CF) hy hdy ne
    have ar2 := ar.same (s2.trans g)
    have il : (toString i : Str).length ≤ 10 := fig_len (by omega) (by omega)
    refine ⟨y, dy, "drop", pt, pi, [V.int i], [e], spell "drop" [toString i, e.text], rfl, upd_same, g _ _ (upd_other upd_same hpi), g _ _ upd_same, (fun e' he => ?_), (by show 1 ≤ 10; decide), .inr (.inr ⟨by decide +kernel, by decide +kernel, by decide +kernel, [toString i, e.text], ?_, (by show 2 ≤ 100; decide), ?_, rfl⟩), fun H3 pl ls b h1 h2 h3 h4 => ⟨rfl, ?_⟩⟩
    · cases List.mem_singleton.mp he
      exact ⟨ar2.stands, ar2.few⟩
    · exact .cons (.int i ⟨by omega, by omega⟩) (.cons (.exp ar2.stands) .nil)
    · have := ar.short
      simp only [List.map_cons, List.map_nil, List.sum_cons, List.sum_nil]
      omega
    have s3 := grown hy hdy ne b
    have s4 := s2.trans s3
    refine ⟨_, rfl, a, C, dx, [], rfl, s4 _ _ ha, (OW C hC).cls, (OW C hC).no, (by show 0 < 1000; decide), ?_⟩
    obtain ⟨r1, r2⟩ := finish (a := a) hC (s4 _ _ ha) h1 (s3 _ _ (upd_other upd_same hpi)) (s3 _ _ upd_same) h2
    exact q _ ls (r2 H s4) r1 h3 h4
  · exact ⟨_, rfl, _, 1, 9, rfl, .inr ⟨bad, t⟩⟩
  · refine ⟨_, rfl, _, 1, 9, rfl, .inl ⟨i, rfl, i1, i9, ?_⟩⟩
    refine ⟨_, rfl, (by show 1 ≤ sizeLine; decide), fun pq hpq => ⟨pq, [u], rfl, upd_same, .inr ⟨0, u, rfl, fun i y hi => by omega, ?_, ?_⟩⟩⟩
    · exact NotExp.same ne (same_new hpq _)
    · exact Tells.same t (same_new hpq _)
/-- Lead(first, rest) -/
theorem scLead : FnScope ["self", "first", "rest"] ["self", "first", "rest"] (defScope s_Lead_init) := ⟨rfl, rfl, rfl, by decide +kernel, rfl, by decide +kernel, by decide +kernel⟩
def spLead (K : PySem.W.Frag) (CF CE Ce : Addr) (cls : Addr → Prop) : Sp := fun vs H Q E => ∃ (a dx C : Addr) (v u : V), vs = [.ref a, v, u] ∧ cls C ∧ H a = some (.ins C dx []) ∧
  ((∃ (e e2 : Told), v = .ref e.at_ ∧ u = .ref e2.at_ ∧ Arg CF cls H e ∧ Arg CF cls H e2 ∧ Made CF cls H a C "lead" (spell "lead" [e.text, e2.text]) [] [e, e2] Q) ∨
    (NotExp K CE H v ∧ Tells E Ce v H) ∨ (IsExp K CE H v ∧ NotExp K CE H u ∧ Tells E Ce u H))
theorem IsExp.keep {H H' : Hp} {v : V} (h : IsExp K CE H v) (s : Same H H') : IsExp K CE H' v := by
  obtain ⟨t, h1, h2⟩ := h
  exact ⟨t, TyX.same h1 s, h2⟩
theorem ok_lead (F : Fun K "__init__" "Lead.__init__" s_Lead_init f fd) (FO : FactsOk P w K mg base CF cls) (OW : ∀ C, cls C → Own K C) (ix : IsX K CE cls)
    (GX : FnOk P w K mg base (L2.CX P w) 3 fX fdX ["values"] (spCheckAll K CE Ce)) (bX : Binds K fdX ["values"] []) (kX : PySem.W.keepIn K (.ref fX) = true) (mX : mg "check_expressions" = some (.ref fX)) :
    FnOk P w K mg base (L2.CX P w) 7 f fd ["self", "first", "rest"] (spLead K CF CE Ce cls) := by
  refine F.okX scLead (fun vs H Q E h => ?_) (fun cdv A outer s H vs Q E hr h => ?_)
  · obtain ⟨a, dx, C, v, u, rfl, _⟩ := h
    rfl
  obtain ⟨a, dx, C, v, u, rfl, hC, ha, h⟩ := h
  obtain ⟨fI, fdI, M, GI, bI⟩ := FO.go
  have tk := takes_of (X := cxOf (L2.CX P w) P w K mg base ["self", "first", "rest"] "Lead.__init__" (defScope s_Lead_init) f cdv A outer s H E) rfl rfl rfl rfl
  refine ⟨_, pss_cons (ps_expr (pe_callS GX (hr.mono (by decide)) rfl mX kX bX (fun σ => passAt tk σ) (pa_cons (pe_tup (pa_cons (pv 1) (pa_cons (pv 2) pa_nil))) pa_nil)))
    (pss_one (ps_fld (pv 0) (pe_make M GI hr rfl FO.m bI .nil pass0 (pa_cons pe_str (pa_cons (pe_tup pa_nil) (pa_cons (pe_tup (pa_cons (pv 1) (pa_cons (pv 2) pa_nil))) pa_nil)))) rfl)), ?_⟩
  rcases h with ⟨e, e2, rfl, rfl, ar, br, q⟩ | ⟨ne, t⟩ | ⟨ie, ne, t⟩
  · refine ⟨_, rfl, _, rfl, (by show 2 ≤ sizeLine; decide), fun pq hpq => ⟨pq, [.ref e.at_, .ref e2.at_], rfl, upd_same, .inl ⟨fun y hy => ?_, ?_⟩⟩⟩
    · rcases List.mem_cons.mp hy with rfl | hy
      · exact IsExp.same ar ix (same_new hpq _)
      · cases List.mem_singleton.mp hy
        exact IsExp.same br ix (same_new hpq _)
    have s1' := same_new hpq (.tup [V.ref e.at_, .ref e2.at_])
    refine ⟨(by show 0 ≤ sizeLine; decide), fun pt hpt => ⟨_, rfl, _, rfl, (by show 2 ≤ sizeLine; decide), fun pi hpi => fun y dy hy hdy ne => ?_⟩⟩
    have s2 := (s1'.trans (same_new hpt (.tup []))).trans (same_new hpi (.tup [V.ref e.at_, .ref e2.at_]))
    have g := born (C := CF) hy hdy ne
    have ar2 := ar.same (s2.trans g)
    have br2 := br.same (s2.trans g)
    refine ⟨y, dy, "lead", pt, pi, [], [e, e2], spell "lead" [e.text, e2.text], rfl, upd_same, g _ _ (upd_other upd_same hpi), g _ _ upd_same, (fun e' he => ?_), (by show 2 ≤ 10; decide), .inr (.inr ⟨by decide +kernel, by decide +kernel, by decide +kernel, [e.text, e2.text], ?_, (by show 2 ≤ 100; decide), ?_, rfl⟩), fun H3 pl ls b h1 h2 h3 h4 => ⟨rfl, ?_⟩⟩
    · rcases List.mem_cons.mp he with rfl | he
      · exact ⟨ar2.stands, ar2.few⟩
      · cases List.mem_singleton.mp he
        exact ⟨br2.stands, br2.few⟩
    · exact .cons (.exp ar2.stands) (.cons (.exp br2.stands) .nil)
    · have := ar.short
      have := br.short
      simp only [List.map_cons, List.map_nil, List.sum_cons, List.sum_nil]
      omega
    have s3 := grown hy hdy ne b
    have s4 := s2.trans s3
    refine ⟨_, rfl, a, C, dx, [], rfl, s4 _ _ ha, (OW C hC).cls, (OW C hC).no, (by show 0 < 1000; decide), ?_⟩
    obtain ⟨r1, r2⟩ := finish (a := a) hC (s4 _ _ ha) h1 (s3 _ _ (upd_other upd_same hpi)) (s3 _ _ upd_same) h2
    exact q _ ls (r2 H s4) r1 h3 h4
  · refine ⟨_, rfl, _, rfl, (by show 2 ≤ sizeLine; decide), fun pq hpq => ⟨pq, [v, u], rfl, upd_same, .inr ⟨0, v, rfl, fun i y hi => by omega, ?_, ?_⟩⟩⟩
    · exact NotExp.same ne (same_new hpq _)
    · exact Tells.same t (same_new hpq _)
  · refine ⟨_, rfl, _, rfl, (by show 2 ≤ sizeLine; decide), fun pq hpq => ⟨pq, [v, u], rfl, upd_same, .inr ⟨1, u, rfl, fun i y hi hy => ?_, ?_, ?_⟩⟩⟩
    · obtain rfl : i = 0 := by omega
      cases hy
      exact IsExp.keep ie (same_new hpq _)
    · exact NotExp.same ne (same_new hpq _)
    · exact Tells.same t (same_new hpq _)
end
end Wp

namespace Wp
open PySem PySem.Spec PyProof.Rows L2 Hx
/-- the least base beside a lane -/
def lo (i : Int) : Int := if i + 1 > 2 then i + 1 else 2
def spPart (K : PySem.W.Frag) (CF CE Cn Ce : Addr) (cls : Addr → Prop) : Sp := fun vs H Q E => ∃ (a dx C : Addr) (v b u : V), vs = [.ref a, v, b, u] ∧ cls C ∧ H a = some (.ins C dx []) ∧
  ((∃ (i k : Int) (e : Told), v = .int i ∧ 0 ≤ i ∧ i ≤ 3 ∧ b = .int k ∧ lo i ≤ k ∧ k ≤ 4 ∧ u = .ref e.at_ ∧ Arg CF cls H e ∧ Made CF cls H a C "part" (spell "part" [toString i, toString k, e.text]) [v, b] [e] Q) ∨
    (((∃ i : Int, v = .int i ∧ ¬ (0 ≤ i ∧ i ≤ 3)) ∨ NotInt K H v) ∧ Tells E Cn v H) ∨
    (∃ i : Int, v = .int i ∧ 0 ≤ i ∧ i ≤ 3 ∧ ((∃ k : Int, b = .int k ∧ ¬ (lo i ≤ k ∧ k ≤ 4)) ∨ NotInt K H b) ∧ Tells E Cn b H) ∨
    (∃ i k : Int, v = .int i ∧ 0 ≤ i ∧ i ≤ 3 ∧ b = .int k ∧ lo i ≤ k ∧ k ≤ 4 ∧ NotExp K CE H u ∧ Tells E Ce u H))
section
variable {P : Program} {w : World} {K : PySem.W.Frag} {mg : Str → Option Value} {base : Heap} {f fC fX CF CE Ce Cw : Addr} {fd fdC fdX : FuncData} {cls : Addr → Prop}
theorem scPart : FnScope ["self", "at", "base", "inner"] ["self", "at", "base", "inner"] (defScope s_Part_init) := ⟨rfl, rfl, rfl, by decide +kernel, rfl, by decide +kernel, by decide +kernel⟩
theorem ok_part (F : Fun K "__init__" "Part.__init__" s_Part_init f fd) (FO : FactsOk P w K mg base CF cls) (OW : ∀ C, cls C → Own K C) (ix : IsX K CE cls) (CO : Consts mg K) (zm : mg "max" = none)
    (GC : FnOk P w K mg base (L2.CX P w) 3 fC fdC ["given", "least", "most"] (spCheckWithin K Cw)) (bC : Binds K fdC ["given", "least", "most"] []) (kC : PySem.W.keepIn K (.ref fC) = true) (mC : mg "check_within" = some (.ref fC))
    (GX : FnOk P w K mg base (L2.CX P w) 3 fX fdX ["values"] (spCheckAll K CE Ce)) (bX : Binds K fdX ["values"] []) (kX : PySem.W.keepIn K (.ref fX) = true) (mX : mg "check_expressions" = some (.ref fX)) :
    FnOk P w K mg base (L2.CX P w) 7 f fd ["self", "at", "base", "inner"] (spPart K CF CE Cw Ce cls) := by
  refine F.okX scPart (fun vs H Q E h => ?_) (fun cdv A outer s H vs Q E hr h => ?_)
  · obtain ⟨a, dx, C, v, b, u, rfl, _⟩ := h
    rfl
  obtain ⟨a, dx, C, v, b, u, rfl, hC, ha, h⟩ := h
  obtain ⟨fI, fdI, M, GI, bI⟩ := FO.go
  obtain ⟨tb, mb⟩ := CO.base
  obtain ⟨tl, ml⟩ := CO.least
  have tk := takes_of (X := cxOf (L2.CX P w) P w K mg base ["self", "at", "base", "inner"] "Part.__init__" (defScope s_Part_init) f cdv A outer s H E) rfl rfl rfl rfl
  refine ⟨_, pss_cons (ps_expr (pe_callS GC (hr.mono (by decide)) rfl mC kC bC (fun σ => passAt tk σ) (pa_cons (pv 1) (pa_cons pe_int (pa_cons (pe_op op_sub (pe_gint rfl mb) pe_int) pa_nil)))))
    (pss_cons (ps_expr (pe_callS GC (hr.mono (by decide)) rfl mC kC bC (fun σ => passAt tk σ) (pa_cons (pv 2) (pa_cons (pe_callB (call_max2 rfl) (by rfl) zm PyProof.Rows.boot_max (pa_cons (pe_gint rfl ml) (pa_cons (pe_op op_add (pv 1) pe_int) pa_nil))) (pa_cons (pe_gint rfl mb) pa_nil)))))
    (pss_cons (ps_expr (pe_callS GX (hr.mono (by decide)) rfl mX kX bX (fun σ => passAt tk σ) (pa_cons (pe_tup (pa_cons (pv 3) pa_nil)) pa_nil)))
    (pss_one (ps_fld (pv 0) (pe_make M GI hr rfl FO.m bI .nil pass0 (pa_cons pe_str (pa_cons (pe_tup (pa_cons (pv 1) (pa_cons (pv 2) pa_nil))) (pa_cons (pe_tup (pa_cons (pv 3) pa_nil)) pa_nil)))) rfl)))), ?_⟩
  rcases h with ⟨i, k, e, rfl, i0, i3, rfl, k0, k4, rfl, ar, q⟩ | ⟨bad, t⟩ | ⟨i, rfl, i0, i3, bad, t⟩ | ⟨i, k, rfl, i0, i3, rfl, k0, k4, ne, t⟩
  · refine ⟨_, rfl, _, _, rfl, rfl, _, 0, 3, rfl, .inl ⟨i, rfl, i0, i3, ?_⟩⟩
    refine ⟨_, rfl, _, rfl, _, _, rfl, rfl, _, _, rfl, _, lo i, 4, rfl, .inl ⟨k, rfl, k0, k4, ?_⟩⟩
    refine ⟨_, rfl, (by show 1 ≤ sizeLine; decide), fun pq hpq => ⟨pq, [.ref e.at_], rfl, upd_same, .inl ⟨fun y hy => ?_, ?_⟩⟩⟩
    · cases List.mem_singleton.mp hy
      exact IsExp.same ar ix (same_new hpq _)
    have s1' := same_new hpq (.tup [V.ref e.at_])
    refine ⟨_, rfl, _, rfl, (by show 2 ≤ sizeLine; decide), fun pt hpt => ⟨_, rfl, (by show 1 ≤ sizeLine; decide), fun pi hpi => fun y dy hy hdy ne => ?_⟩⟩
    have s2 := (s1'.trans (same_new hpt (.tup [V.int i, .int k]))).trans (same_new hpi (.tup [V.ref e.at_]))
    have g := born (C := CF) hy hdy ne
    have ar2 := ar.same (s2.trans g)
    have k00 : 0 ≤ k := by
      unfold lo at k0
      split at k0 <;> omega
    have il : (toString i : Str).length ≤ 10 := fig_len (by omega) (by omega)
    have kl : (toString k : Str).length ≤ 10 := fig_len (by omega) (by omega)
    refine ⟨y, dy, "part", pt, pi, [V.int i, .int k], [e], spell "part" [toString i, toString k, e.text], rfl, upd_same, g _ _ (upd_other upd_same hpi), g _ _ upd_same, (fun e' he => ?_), (by show 1 ≤ 10; decide), .inr (.inr ⟨by decide +kernel, by decide +kernel, by decide +kernel, [toString i, toString k, e.text], ?_, (by show 3 ≤ 100; decide), ?_, rfl⟩), fun H3 pl ls b h1 h2 h3 h4 => ⟨rfl, ?_⟩⟩
    · cases List.mem_singleton.mp he
      exact ⟨ar2.stands, ar2.few⟩
    · exact .cons (.int i ⟨by omega, by omega⟩) (.cons (.int k ⟨by omega, by omega⟩) (.cons (.exp ar2.stands) .nil))
    · have := ar.short
      simp only [List.map_cons, List.map_nil, List.sum_cons, List.sum_nil]
      omega
    have s3 := grown hy hdy ne b
    have s4 := s2.trans s3
    refine ⟨_, rfl, a, C, dx, [], rfl, s4 _ _ ha, (OW C hC).cls, (OW C hC).no, (by show 0 < 1000; decide), ?_⟩
    obtain ⟨r1, r2⟩ := finish (a := a) hC (s4 _ _ ha) h1 (s3 _ _ (upd_other upd_same hpi)) (s3 _ _ upd_same) h2
    exact q _ ls (r2 H s4) r1 h3 h4
  · exact ⟨_, rfl, _, _, rfl, rfl, _, 0, 3, rfl, .inr ⟨bad, t⟩⟩
  · refine ⟨_, rfl, _, _, rfl, rfl, _, 0, 3, rfl, .inl ⟨i, rfl, i0, i3, ?_⟩⟩
    exact ⟨_, rfl, _, rfl, _, _, rfl, rfl, _, _, rfl, _, lo i, 4, rfl, .inr ⟨bad, t⟩⟩
  · refine ⟨_, rfl, _, _, rfl, rfl, _, 0, 3, rfl, .inl ⟨i, rfl, i0, i3, ?_⟩⟩
    refine ⟨_, rfl, _, rfl, _, _, rfl, rfl, _, _, rfl, _, lo i, 4, rfl, .inl ⟨k, rfl, k0, k4, ?_⟩⟩
    refine ⟨_, rfl, (by show 1 ≤ sizeLine; decide), fun pq hpq => ⟨pq, [u], rfl, upd_same, .inr ⟨0, u, rfl, fun i y hi => by omega, ?_, ?_⟩⟩⟩
    · exact NotExp.same ne (same_new hpq _)
    · exact Tells.same t (same_new hpq _)
end
end Wp

namespace Wp
open PySem PySem.Spec PyProof.Rows L2 Hx
/-- Weave(..), the inner ones in a tuple -/
def spWeaveB (K : PySem.W.Frag) (CF CE Cn Ce : Addr) (cls : Addr → Prop) : Sp := fun vs H Q E => ∃ (a dx C pi : Addr) (us : List V), vs = [.ref a, .ref pi] ∧ cls C ∧ H a = some (.ins C dx []) ∧ H pi = some (.tup us) ∧
  ((∃ es : List Told, us = es.map (fun e => V.ref e.at_) ∧ 2 ≤ es.length ∧ es.length ≤ 4 ∧ (∀ e ∈ es, Arg CF cls H e) ∧ Made CF cls H a C "weave" (spell "weave" (es.map (·.text))) [] es Q) ∨
    (¬ (2 ≤ us.length ∧ us.length ≤ 4) ∧ Tells E Cn (.int (us.length : Nat)) H) ∨
    (2 ≤ us.length ∧ us.length ≤ 4 ∧ ∃ (j : Nat) (x : V), us[j]? = some x ∧ (∀ (i : Nat) (y : V), i < j → us[i]? = some y → IsExp K CE H y) ∧ NotExp K CE H x ∧ Tells E Ce x H))
def spWeave (K : PySem.W.Frag) (CF CE Cn Ce : Addr) (cls : Addr → Prop) : Sp := fun vs H Q E => ∃ ws rest : List V, vs = ws ++ rest ∧ ws.length = 1 ∧ rest.length ≤ sizeLine ∧ ∀ p, H p = none → spWeaveB K CF CE Cn Ce cls (ws ++ [V.ref p]) (upd H p (.tup rest)) Q E
theorem sum_short {es : List Told} : ∀ {n : Nat}, (∀ e ∈ es, e.text.length ≤ n) → ((es.map (·.text)).map (·.length)).sum ≤ es.length * n := by
  intro n h
  induction es with
  | nil => exact Nat.zero_le _
  | cons e es ih =>
    have h1 := h e List.mem_cons_self
    have h2 := ih fun x hx => h x (List.mem_cons_of_mem _ hx)
    simp only [List.map_cons, List.sum_cons, List.length_cons, Nat.succ_mul]
    omega
section
variable {P : Program} {w : World} {K : PySem.W.Frag} {mg : Str → Option Value} {base : Heap} {f fC fX CF CE Ce Cw : Addr} {fd fdC fdX : FuncData} {cls : Addr → Prop}
theorem exps_pair {H : Hp} : ∀ {es : List Told}, (∀ e ∈ es, Arg CF cls H e) → Paired (TxAt CF cls H) (es.map fun e => V.ref e.at_) (es.map (·.text))
  | [], _ => .nil
  | e :: es, h => .cons (.exp (h e List.mem_cons_self).stands) (exps_pair fun x hx => h x (List.mem_cons_of_mem _ hx))
theorem scWeave : FnScope ["self", "inner"] ((["self"] : List Str) ++ [("inner" : Str)]) (defScope s_Weave_init) := ⟨rfl, rfl, rfl, by decide +kernel, rfl, by decide +kernel, by decide +kernel⟩
theorem ok_weave (F : Fun K "__init__" "Weave.__init__" s_Weave_init f fd) (FO : FactsOk P w K mg base CF cls) (OW : ∀ C, cls C → Own K C) (ix : IsX K CE cls) (CO : Consts mg K) (Z : Bltn mg)
    (GC : FnOk P w K mg base (L2.CX P w) 3 fC fdC ["given", "least", "most"] (spCheckWithin K Cw)) (bC : Binds K fdC ["given", "least", "most"] []) (kC : PySem.W.keepIn K (.ref fC) = true) (mC : mg "check_within" = some (.ref fC))
    (GX : FnOk P w K mg base (L2.CX P w) 3 fX fdX ["values"] (spCheckAll K CE Ce)) (bX : Binds K fdX ["values"] []) (kX : PySem.W.keepIn K (.ref fX) = true) (mX : mg "check_expressions" = some (.ref fX)) :
    FnR P w K mg base (L2.CX P w) 7 f (spWeave K CF CE Cw Ce cls) := by
  obtain ⟨oc, od, kV, doc, pm, an, cdv, ct, osl, rfl, lk, hcd⟩ := F.ex
  refine StX.fn_star (ps := ["self"]) (pv := "inner") (sp := spWeaveB K CF CE Cw Ce cls) lk hcd scWeave StX.cxUp (StX.bind_star1 (B := fun us => bindArgs (PySem.W.fnOf "__init__" "Weave.__init__" (defArgs s_Weave_init) (defBody s_Weave_init) (defScope s_Weave_init) .none kV doc pm an cdv ct) ⟨us, []⟩) (fun a => rfl) fun a r rs => rfl) fun A outer s H vs Q E hr h => ?_
  obtain ⟨a, dx, C, pi, us, rfl, hC, ha, hpi, h⟩ := h
  obtain ⟨fI, fdI, M, GI, bI⟩ := FO.go
  obtain ⟨tb, mb⟩ := CO.base
  obtain ⟨tl, ml⟩ := CO.least
  have tk := takes_of (X := cxOf (L2.CX P w) P w K mg base ["self", "inner"] "Weave.__init__" (defScope s_Weave_init) f cdv A outer s H E) rfl rfl rfl rfl
  refine ⟨_, pss_cons (ps_expr (pe_callS GC (hr.mono (by decide)) rfl mC kC bC (fun σ => passAt tk σ) (pa_cons (pe_callB call_len_seq (by rfl) Z.len PySem.boot_len (pa_cons (pv 1) pa_nil)) (pa_cons (pe_gint rfl ml) (pa_cons (pe_gint rfl mb) pa_nil)))))
    (pss_cons (ps_expr (pe_callS GX (hr.mono (by decide)) rfl mX kX bX (fun σ => passAt tk σ) (pa_cons (pv 1) pa_nil)))
    (pss_one (ps_fld (pv 0) (pe_make M GI hr rfl FO.m bI .nil pass0 (pa_cons pe_str (pa_cons (pe_tup pa_nil) (pa_cons (pv 1) pa_nil)))) rfl))), ?_⟩
  have hS : SqT K H pi us := SqT.of hpi
  rcases h with ⟨es, rfl, e2, e4, ar, q⟩ | ⟨bad, t⟩ | ⟨l2, l4, j, x, hj, bef, ne, t⟩
  · have ll : (es.map fun e => V.ref e.at_).length = es.length := List.length_map _
    refine ⟨_, rfl, pi, _, rfl, .inr hS, _, 2, 4, rfl, .inl ⟨_, rfl, by rw [ll]; omega, by rw [ll]; omega, ?_⟩⟩
    refine ⟨_, rfl, pi, _, rfl, hpi, .inl ⟨fun y hy => ?_, ?_⟩⟩
    · obtain ⟨e, he, rfl⟩ := List.mem_map.mp hy
      exact (ar e he).isx ix
    refine ⟨(by show 0 ≤ sizeLine; decide), fun pt hpt => ⟨_, rfl, fun y dy hy hdy ne => ?_⟩⟩
    have s2 := same_new hpt (.tup [])
    have g := born (C := CF) hy hdy ne
    have ar2 : ∀ e ∈ es, Arg CF cls _ e := fun e he => (ar e he).same (s2.trans g)
    refine ⟨y, dy, "weave", pt, pi, [], es, spell "weave" (es.map (·.text)), rfl, upd_same, g _ _ upd_same, g _ _ (s2 _ _ hpi), (fun e he => ⟨(ar2 e he).stands, (ar2 e he).few⟩), by omega, .inr (.inr ⟨by decide +kernel, by decide +kernel, by decide +kernel, es.map (fun (x : Told) => x.text), exps_pair ar2, ?_, ?_, rfl⟩), fun H3 pl ls b h1 h2 h3 h4 => ⟨rfl, ?_⟩⟩
    · rw [List.length_map]
      omega
    · have := sum_short (es := es) (n := 20000) fun e he => (ar e he).short
      have : es.length * 20000 ≤ 4 * 20000 := Nat.mul_le_mul_right _ e4
      omega
    have s3 := grown hy hdy ne b
    have s4 := s2.trans s3
    refine ⟨_, rfl, a, C, dx, [], rfl, s4 _ _ ha, (OW C hC).cls, (OW C hC).no, (by show 0 < 1000; decide), ?_⟩
    obtain ⟨r1, r2⟩ := finish (a := a) hC (s4 _ _ ha) h1 (s3 _ _ upd_same) (s3 _ _ (s2 _ _ hpi)) h2
    exact q _ ls (r2 H s4) r1 h3 h4
  · exact ⟨_, rfl, pi, _, rfl, .inr hS, _, 2, 4, rfl, .inr ⟨.inl ⟨_, rfl, fun z => bad ⟨by omega, by omega⟩⟩, t⟩⟩
  · refine ⟨_, rfl, pi, _, rfl, .inr hS, _, 2, 4, rfl, .inl ⟨_, rfl, by omega, by omega, ?_⟩⟩
    exact ⟨_, rfl, pi, _, rfl, hpi, .inr ⟨j, x, hj, bef, ne, t⟩⟩
end
end Wp

namespace Wp
open PySem PySem.Spec PyProof.Rows L2 Hx

/-- a deck: a list of three ints at d, the first two not negative -/
def DeckAt (H : Hp) (d : Addr) : Prop := ∃ a m c : Int, 0 ≤ a ∧ 0 ≤ m ∧ H d = some (.lst [.int a, .int m, .int c])
def spDeck (K : PySem.W.Frag) : Sp := fun vs H Q _ => ∃ (a : Addr) (ns : List Int) (t : Nat), vs = [.ref a, .int t] ∧
  SqL K H a (ns.map V.int) ∧ ns.length ≤ 63 ∧ ∀ p H', Same H H' → H p = none → DeckAt H' p → Q (.ref p) H'
section
variable {P : Program} {w : World} {K : PySem.W.Frag} {mg : Str → Option Value} {base : Heap}
theorem scDeck : FnScope ["_law_cells", "_law_turn", "_law_cell", "_law_mixed", "_law_each"] ["_law_cells", "_law_turn"] (defScope s_law_deck) :=
  ⟨rfl, rfl, rfl, by decide +kernel, rfl, by decide +kernel, by decide +kernel⟩
theorem ok_deck {f : Addr} {fd : FuncData} (F : Fun K "_law_deck" "_law_deck" s_law_deck f fd) (ml : mg "len" = none) (mi : mg "int" = none)
    (ma : mg "abs" = none) : FnOk P w K mg base CX0 1 f fd ["_law_cells", "_law_turn"] (spDeck K) := by
  refine F.ok scDeck (fun vs H Q E h => ?_) (fun cdv A outer s H vs Q E hr h => ?_)
  · obtain ⟨a, ns, t, rfl, _⟩ := h
    rfl
  obtain ⟨a, ns, t, rfl, hS, h63, q⟩ := h
  refine ⟨_, pss_cons (ps_set (i := 2) scDeck.nd rfl (Or.inl rfl)
      (pe_ifExp (pt_cmpR op_lt (pv 1) (pe_callB call_len_seq (by rfl) ml PySem.boot_len (pa_cons (pv 0) pa_nil)) (nomark _))
        (pe_ix ix_list (pv 0) (pv 1) (fun _ _ => rfl)) (pe_op op_add (pe_op op_mul pe_int (pv 1)) pe_int)))
    (pss_cons (ps_set (i := 3) scDeck.nd rfl (Or.inl rfl) (pe_op op_add pe_int (pe_op op_mul pe_int (pv 1))))
    (pss_cons (ps_for PassesOwn.never rfl (pi_list (pe_op op_cat (pe_slice sl_list (pv 0) po_none (po_some pe_int)) (pe_lst (pa_cons (pv 2) pa_nil))))
        (pg_name (i := 4) scDeck.nd rfl (Or.inl rfl))
        (pss_one (ps_set (i := 3) scDeck.nd rfl (Or.inl rfl)
          (pe_op op_mod (pe_callTy call_int1 (by rfl) mi PyProof.Rows.boot_int (pa_cons (pe_op op_add (pe_op op_mul (pv 3) pe_int) (pv 4)) pa_nil)) pe_int))))
    (pss_one (ps_ret (pe_lst (pa_cons
        (pe_ifExp (PW.pt (pw_or (pt_cmpR op_lt (pv 2) pe_int (nomark _)) (pw_or1 (pt_cmpR op_ge (pv 2) (pe_op op_pow pe_int pe_int) (nomark _)))))
          (pe_callB call_abs (by rfl) ma PyProof.Rows.boot_abs (pa_cons (pv 2) pa_nil)) pe_int)
        (pa_cons (pv 3) (pa_cons pe_int pa_nil)))))))), ?_⟩
  have hl : (ns.map V.int).length = ns.length := List.length_map _
  refine asg_join (fun v H' => H = H' ∧ ∃ c : Int, v = .int c) (fun Q' hQ => ?_) ?_
  · refine ⟨_, rfl, _, rfl, a, _, rfl, .inl hS, _, _, rfl, rfl, _, rfl, ?_⟩
    refine ite2 (fun c => ?_) (fun c => ?_)
    · have c' : (t : Int) < (((ns.map V.int).length : Nat) : Int) := of_decide_eq_true c
      have hlt : t < ns.length := by rw [hl] at c'; omega
      refine ⟨_, rfl, _, rfl, a, _, _, _, rfl, rfl, hS, atI_nat (j := t) (v := V.int ns[t]) ?_, hQ _ _ ⟨rfl, _, rfl⟩⟩
      rw [List.getElem?_map, List.getElem?_eq_getElem hlt]
      rfl
    · exact ⟨_, rfl, _, _, rfl, rfl, .inl ⟨by decide, by decide⟩, _, _, rfl, rfl, hQ _ _ ⟨rfl, _, rfl⟩⟩
  rintro _ _ ⟨rfl, c, rfl⟩
  refine ⟨_, rfl, _, _, rfl, rfl, .inl ⟨by decide, by decide⟩, _, _, rfl, rfl, ?_⟩
  refine ⟨_, rfl, _, rfl, a, _, rfl, hS, fun l hl0 => ?_⟩
  refine ⟨_, rfl, (by show 1 ≤ sizeLine; decide), fun l2 hl2 => ?_⟩
  have hcut := cutV_length (ns.map V.int) none (some 4)
  have allInt : ∀ x ∈ cutV (ns.map V.int) none (some 4) ++ [V.int c], ∃ i, x = V.int i := by
    intro x hx
    rcases List.mem_append.mp hx with hx | hx
    · have hx2 : x ∈ ns.map V.int := List.mem_of_mem_drop (List.mem_of_mem_take hx)
      obtain ⟨i, _, rfl⟩ := List.mem_map.mp hx2
      exact ⟨i, rfl⟩
    · exact ⟨c, by simpa using hx⟩
  refine ⟨l, l2, _, _, rfl, rfl, upd_other upd_same hl2, upd_same, small_line ?_, fun l3 hl3 => ?_⟩
  · rw [List.length_singleton]
    omega
  have s3 : Same H (upd (upd (upd H l (.lst (cutV (ns.map V.int) none (some 4)))) l2 (.lst [V.int c])) l3 (.lst (cutV (ns.map V.int) none (some 4) ++ [V.int c]))) :=
    ((same_new hl0 _).trans (same_new hl2 _)).trans (same_new hl3 _)
  refine ⟨l3, rfl, ⟨_, SqL.of upd_same⟩, for_list (K := K) (a := l3) (xs := cutV (ns.map V.int) none (some 4) ++ [V.int c])
    (fun _ σ H' => Same H H' ∧ H' l3 = some (.lst (cutV (ns.map V.int) none (some 4) ++ [V.int c])) ∧
      ∃ (m : Int) (v : Option V), 0 ≤ m ∧ σ = [some (.ref a), some (.int t), some (.int c), some (.int m), v])
    ⟨s3, upd_same, _, none, ?_, rfl⟩ (fun _ _ _ _ h => SqL.of h.2.1) ?_ ?_⟩
  · omega
  · rintro i x σ H' hx ⟨s4, h4, m, v, hm, rfl⟩
    obtain ⟨n, rfl⟩ := allInt x (List.mem_of_getElem? hx)
    refine ⟨_, rfl, _, _, rfl, rfl, .inr ⟨by decide, by decide⟩, _, rfl, _, _, rfl, rfl, .inl ⟨_, rfl, ?_⟩⟩
    exact ⟨_, _, rfl, rfl, (by decide : (0 : Int) < 2147483629), s4, h4, _, some (.int n), Int.emod_nonneg _ (by decide), rfl⟩
  · rintro σ H' ⟨s4, h4, m, v, hm, rfl⟩
    dsimp only
    refine ret_lst_join (fun v H2 => H' = H2 ∧ ∃ b : Int, 0 ≤ b ∧ v = .int b) (fun Q' hQ => ?_) ?_
    · refine ⟨_, rfl, _, _, rfl, rfl, _, rfl, ?_⟩
      refine ite2 (fun c0 => ?_) (fun c0 => ?_)
      · refine iteT ⟨_, rfl, _, rfl, hQ _ _ ⟨rfl, _, ?_, rfl⟩⟩
        split <;> omega
      · refine ⟨_, rfl, _, _, rfl, rfl, ⟨by decide, by decide, by decide⟩, _, _, rfl, rfl, _, rfl, ?_⟩
        refine ite2 (fun c1 => ?_) (fun c1 => ?_)
        · refine ⟨_, rfl, _, rfl, hQ _ _ ⟨rfl, _, ?_, rfl⟩⟩
          split <;> omega
        · exact hQ _ _ ⟨rfl, 0, Int.le_refl 0, rfl⟩
    rintro _ _ ⟨rfl, b, hb, rfl⟩
    refine ⟨_, rfl, (by show 3 ≤ sizeLine; decide), fun p hp => ?_⟩
    exact q p _ (s4.trans (same_new hp _)) (s4.free hp) ⟨b, m, 0, hb, hm, upd_same⟩
def spCard : Sp := fun vs H Q _ => ∃ (d : Addr) (t : Int), vs = [.ref d, .int t] ∧ 0 < t ∧ t < 1073741824 ∧ DeckAt H d ∧
  ∀ r H', 0 ≤ r → r < t → But d H H' → DeckAt H' d → Q (.int r) H'
theorem scCard : FnScope ["_law_deck_here", "_law_top", "_law_figure"] ["_law_deck_here", "_law_top"] (defScope s_law_card) :=
  ⟨rfl, rfl, rfl, by decide +kernel, rfl, by decide +kernel, by decide +kernel⟩
theorem ok_card {f : Addr} {fd : FuncData} (F : Fun K "_law_card" "_law_card" s_law_card f fd) (mi : mg "int" = none) (md : mg "divmod" = none) :
    FnOk P w K mg base CX0 1 f fd ["_law_deck_here", "_law_top"] spCard := by
  refine F.ok scCard (fun vs H Q E h => ?_) (fun cdv A outer s H vs Q E hr h => ?_)
  · obtain ⟨d, t, rfl, _⟩ := h
    rfl
  obtain ⟨d, t, rfl, t0, t1, ⟨a, m, c, a0, m0, hd⟩, q⟩ := h
  refine ⟨_, pss_cons (ps_asg (pe_op op_add (pe_ix ix_list (pv 0) pe_int (fun _ _ => rfl)) pe_int) (pg_sub (pv 0) pe_int set_list))
    (pss_cons (ps_if (pt_cmpR op_gt (pe_ix ix_list (pv 0) pe_int (fun _ _ => rfl)) pe_int (nomark _))
      (pss_cons (ps_asg (pe_callB call_divmod (by rfl) md PyProof.Rows.boot_divmod (pa_cons (pe_ix ix_list (pv 0) pe_int (fun _ _ => rfl)) (pa_cons (pv 1) pa_nil)))
          (pg_tup (by rfl) (pgs_cons (pg_sub (pv 0) pe_int set_list) (pgs_cons (pg_name (i := 2) scCard.nd rfl (Or.inl rfl)) pgs_nil))))
        (pss_one (ps_ret (pv 2)))) pss_nil)
    (pss_cons (ps_asg (pe_op op_mod (pe_callTy call_int1 (by rfl) mi PyProof.Rows.boot_int (pa_cons
        (pe_op op_add (pe_op op_mul (pe_ix ix_list (pv 0) pe_int (fun _ _ => rfl)) pe_int) (pe_op op_mul pe_int (pe_ix ix_list (pv 0) pe_int (fun _ _ => rfl)))) pa_nil)) pe_int)
        (pg_sub (pv 0) pe_int set_list))
    (pss_one (ps_ret (pe_op op_mod (pe_callTy call_int1 (by rfl) mi PyProof.Rows.boot_int (pa_cons
        (pe_op op_fdiv (pe_ix ix_list (pv 0) pe_int (fun _ _ => rfl)) pe_int) pa_nil)) (pv 1)))))), ?_⟩
  refine ⟨_, rfl, d, _, _, _, rfl, rfl, SqL.of hd, rfl, _, _, rfl, rfl, _, rfl, d, _, _, _, rfl, rfl, hd, rfl, ?_⟩
  refine ⟨_, rfl, d, _, _, _, rfl, rfl, SqL.of upd_same, rfl, _, _, rfl, rfl, _, rfl, ?_⟩
  refine ite2 (fun c0 => ?_) (fun c0 => ?_)
  · refine ⟨_, rfl, d, _, _, _, rfl, rfl, SqL.of upd_same, rfl, _, rfl, _, _, rfl, ⟨t0, t1⟩, fun p hp => ?_⟩
    have npd : d ≠ p := ne_of_none upd_same hp
    refine ⟨p, _, rfl, SqT.of upd_same, rfl, _, _, rfl, ?_⟩
    refine ⟨_, rfl, d, _, _, _, rfl, rfl, by rw [upd_ne npd]; exact upd_same, rfl, ?_⟩
    refine ⟨_, _, rfl, rfl, _, rfl, ?_⟩
    refine q _ _ (Int.emod_nonneg _ (by omega)) (Int.emod_lt_of_pos _ t0) (((But.refl.upd _).new hp _).upd _) ⟨_, _, _, ?_, m0, upd_same⟩
    exact Int.ediv_nonneg a0 (by omega)
  · refine ⟨_, rfl, d, _, _, _, rfl, rfl, SqL.of upd_same, rfl, _, _, rfl, rfl, .inr ⟨by decide, by decide⟩, ?_⟩
    refine ⟨_, rfl, d, _, _, _, rfl, rfl, SqL.of upd_same, rfl, _, _, rfl, rfl, .inl ⟨by decide, by decide⟩, _, _, rfl, rfl, .inl ⟨_, rfl, ?_⟩⟩
    refine ⟨_, _, rfl, rfl, (by decide : (0 : Int) < 2147483629), ?_⟩
    refine ⟨_, rfl, d, _, _, _, rfl, rfl, upd_same, rfl, ?_⟩
    refine ⟨_, rfl, d, _, _, _, rfl, rfl, SqL.of upd_same, rfl, _, _, rfl, rfl, ⟨by decide, by decide⟩, .inl ⟨_, rfl, ?_⟩⟩
    refine ⟨_, rfl, _, _, rfl, rfl, t0, ?_⟩
    refine q _ _ (Int.emod_nonneg _ (by omega)) (Int.emod_lt_of_pos _ t0) ((But.refl.upd _).upd _) ⟨_, _, _, a0, Int.emod_nonneg _ (by decide), upd_same⟩
/-- _law_of, over a list -/
def spOf (K : PySem.W.Frag) : Sp := fun vs H Q _ => ∃ (d l : Addr) (xs : List V), vs = [.ref d, .ref l] ∧ d ≠ l ∧ SqL K H l xs ∧ 0 < xs.length ∧ xs.length ≤ 1000 ∧ DeckAt H d ∧
  ∀ v H', v ∈ xs → But d H H' → DeckAt H' d → Q v H'
theorem scOf : FnScope ["_law_deck_here", "_law_menu"] ["_law_deck_here", "_law_menu"] (defScope s_law_of) :=
  ⟨rfl, rfl, rfl, by decide +kernel, rfl, by decide +kernel, by decide +kernel⟩
theorem ok_of {f fC : Addr} {fd fdC : FuncData} (F : Fun K "_law_of" "_law_of" s_law_of f fd)
    (GC : FnOk P w K mg base CX0 1 fC fdC ["_law_deck_here", "_law_top"] spCard) (bC : Binds K fdC ["_law_deck_here", "_law_top"] [])
    (kC : PySem.W.keepIn K (.ref fC) = true) (mC : mg "_law_card" = some (.ref fC)) (ml : mg "len" = none) :
    FnOk P w K mg base CX0 2 f fd ["_law_deck_here", "_law_menu"] (spOf K) := by
  refine F.ok scOf (fun vs H Q E h => ?_) (fun cdv A outer s H vs Q E hr h => ?_)
  · obtain ⟨d, l, xs, rfl, _⟩ := h
    rfl
  obtain ⟨d, l, xs, rfl, ndl, hl, l0, l1, hd, q⟩ := h
  refine ⟨_, pss_one (ps_ret (pe_ix ix_list (pv 1) (pe_call GC hr rfl mC kC bC .nil pass0 (pa_cons (pv 0) (pa_cons
    (pe_callB call_len_seq (by rfl) ml PySem.boot_len (pa_cons (pv 1) pa_nil)) pa_nil))) (fun _ _ => rfl))), ?_⟩
  refine ⟨_, rfl, _, rfl, _, rfl, l, _, rfl, .inl hl, d, _, rfl, by omega, by omega, hd, fun r H' r0 r1 b hd' => ?_⟩
  obtain ⟨v, hv, ev⟩ := atI_in r0 r1
  exact ⟨l, _, _, _, rfl, rfl, b.seq (Ne.symm ndl) hl, ev, q v H' hv b hd'⟩
end
end Wp

namespace Wp
open PySem PySem.Spec PyProof.Rows L2 Hx
/-! trees of the law, and the expressions that are made of them -/
inductive Tr where
  | sign (s : Str) | name (n : Str) | weave (l : List Tr) | part (j : Int) (t : Tr) | drop (c : Int) (t : Tr) | lead (t u : Tr) | turn (w : Str) (t : Tr)
def Tr.kids : Tr → List Tr
  | .sign _ => [] | .name _ => [] | .weave l => l | .part _ t => [t] | .drop _ t => [t] | .lead t u => [t, u] | .turn _ t => [t]
def Tr.kind : Tr → Str
  | .sign _ => "sign" | .name _ => "name" | .weave _ => "weave" | .part .. => "part" | .drop .. => "drop" | .lead .. => "lead" | .turn .. => "turn"
def Tr.told (b : Int) : Tr → List V
  | .sign s => [.str s] | .name n => [.str n] | .weave _ => [] | .part j _ => [.int j, .int b] | .drop c _ => [.int c] | .lead .. => [] | .turn w _ => [.str w]
mutual
def Tr.knots : Tr → Nat
  | .sign _ => 1 | .name _ => 1 | .weave l => 1 + Tr.knotsL l | .part _ t => 1 + t.knots | .drop _ t => 1 + t.knots | .lead t u => 1 + (t.knots + u.knots) | .turn _ t => 1 + t.knots
def Tr.knotsL : List Tr → Nat
  | [] => 0 | t :: r => t.knots + Tr.knotsL r
end
mutual
def Tr.names : Tr → List Str
  | .sign _ => [] | .name n => [n] | .weave l => Tr.namesL l | .part _ t => t.names | .drop _ t => t.names | .lead t u => t.names ++ u.names | .turn _ t => t.names
def Tr.namesL : List Tr → List Str
  | [] => [] | t :: r => t.names ++ Tr.namesL r
end
mutual
def Tr.text (b : Int) : Tr → Str
  | .sign s => ((Str.empty ++ "'") ++ s) ++ "'" | .name n => n | .weave l => spell "weave" (Tr.textL b l) | .part j t => spell "part" [toString j, toString b, t.text b]
  | .drop c t => spell "drop" [toString c, t.text b] | .lead t u => spell "lead" [t.text b, u.text b] | .turn w t => spell "turn" [w, t.text b]
def Tr.textL (b : Int) : List Tr → List Str
  | [] => [] | t :: r => t.text b :: Tr.textL b r
end
mutual
/-- a tree that its classes take, over the base b -/
inductive Tr.Ok (b : Int) : Tr → Prop
  | sign {s : Str} : lettered 1 s = true → Tr.Ok b (.sign s)
  | name {n : Str} : nameB n = true → Tr.Ok b (.name n)
  | weave {l : List Tr} : (l.length : Int) = b → Tr.OkL b l → Tr.Ok b (.weave l)
  | part {j : Int} {t : Tr} : 0 ≤ j → j < b → Tr.Ok b t → Tr.Ok b (.part j t)
  | drop {c : Int} {t : Tr} : 1 ≤ c → c ≤ 9 → Tr.Ok b t → Tr.Ok b (.drop c t)
  | lead {t u : Tr} : Tr.Ok b t → Tr.Ok b u → Tr.Ok b (.lead t u)
  | turn {w : Str} {t : Tr} : lettered 4 w = true → Tr.Ok b t → Tr.Ok b (.turn w t)
inductive Tr.OkL (b : Int) : List Tr → Prop
  | nil : Tr.OkL b []
  | cons {t : Tr} {r : List Tr} : Tr.Ok b t → Tr.OkL b r → Tr.OkL b (t :: r)
end
mutual
/-- a tree as it stands: tuples, a list for the parts of a weave -/
inductive TrAt (H : Hp) : V → Tr → Prop
  | sign {p : Addr} {s : Str} : H p = some (.tup [.str "sign", .str s]) → TrAt H (.ref p) (.sign s)
  | name {p : Addr} {n : Str} : H p = some (.tup [.str "name", .str n]) → TrAt H (.ref p) (.name n)
  | weave {p q : Addr} {vs : List V} {l : List Tr} : H p = some (.tup [.str "weave", .ref q]) → H q = some (.lst vs) → TrAll H vs l → TrAt H (.ref p) (.weave l)
  | part {p : Addr} {j : Int} {v : V} {t : Tr} : H p = some (.tup [.str "part", .int j, v]) → TrAt H v t → TrAt H (.ref p) (.part j t)
  | drop {p : Addr} {c : Int} {v : V} {t : Tr} : H p = some (.tup [.str "drop", .int c, v]) → TrAt H v t → TrAt H (.ref p) (.drop c t)
  | lead {p : Addr} {v u : V} {t s : Tr} : H p = some (.tup [.str "lead", v, u]) → TrAt H v t → TrAt H u s → TrAt H (.ref p) (.lead t s)
  | turn {p : Addr} {w : Str} {v : V} {t : Tr} : H p = some (.tup [.str "turn", .str w, v]) → TrAt H v t → TrAt H (.ref p) (.turn w t)
inductive TrAll (H : Hp) : List V → List Tr → Prop
  | nil : TrAll H [] []
  | cons {v : V} {vs : List V} {t : Tr} {r : List Tr} : TrAt H v t → TrAll H vs r → TrAll H (v :: vs) (t :: r)
end
mutual
theorem TrAt.same {H H' : Hp} (s : Same H H') : ∀ (t : Tr) (v : V), TrAt H v t → TrAt H' v t
  | .sign _, _, h => by cases h with | sign e => exact .sign (s _ _ e)
  | .name _, _, h => by cases h with | name e => exact .name (s _ _ e)
  | .weave l, _, h => by cases h with | weave e e2 r => exact .weave (s _ _ e) (s _ _ e2) (TrAll.same s l _ r)
  | .part _ t, _, h => by cases h with | part e r => exact .part (s _ _ e) (TrAt.same s t _ r)
  | .drop _ t, _, h => by cases h with | drop e r => exact .drop (s _ _ e) (TrAt.same s t _ r)
  | .lead t u, _, h => by cases h with | lead e r r2 => exact .lead (s _ _ e) (TrAt.same s t _ r) (TrAt.same s u _ r2)
  | .turn _ t, _, h => by cases h with | turn e r => exact .turn (s _ _ e) (TrAt.same s t _ r)
theorem TrAll.same {H H' : Hp} (s : Same H H') : ∀ (l : List Tr) (vs : List V), TrAll H vs l → TrAll H' vs l
  | [], _, h => by cases h; exact .nil
  | t :: r, _, h => by cases h with | cons a b => exact .cons (TrAt.same s t _ a) (TrAll.same s r _ b)
end
/-- the names of a tree, each one once, in order -/
structure Lab (ns ls : List Str) : Prop where
  once : ls.Nodup
  inOrder : sortedS ls = true
  mem : ∀ x, x ∈ ls ↔ x ∈ ns
/-- the addresses of the seven classes, by kind -/
abbrev KCls := Str → Addr
mutual
/-- at v stands the expression of the tree -/
inductive ExAt (CF : Addr) (kc : KCls) (cls : Addr → Prop) (b : Int) (H : Hp) : V → Tr → Prop
  | mk {a : Addr} {inner : List V} {ls : List Str} (t : Tr) : XpAt CF cls H a (kc t.kind) t.kind (t.text b) (t.told b) inner ls (t.knots : Nat) → Lab t.names ls → ExAll CF kc cls b H inner t.kids → ExAt CF kc cls b H (.ref a) t
inductive ExAll (CF : Addr) (kc : KCls) (cls : Addr → Prop) (b : Int) (H : Hp) : List V → List Tr → Prop
  | nil : ExAll CF kc cls b H [] []
  | cons {v : V} {vs : List V} {t : Tr} {r : List Tr} : ExAt CF kc cls b H v t → ExAll CF kc cls b H vs r → ExAll CF kc cls b H (v :: vs) (t :: r)
end
end Wp

namespace Wp
open PySem PySem.Spec PyProof.Rows L2 Hx
section
variable {CF : Addr} {kc : KCls} {cls : Addr → Prop} {b : Int}
mutual
theorem ExAt.same {H H' : Hp} (s : Same H H') : ∀ (t : Tr) (v : V), ExAt CF kc cls b H v t → ExAt CF kc cls b H' v t
  | .sign x, _, h => by cases h with | mk _ e l r => exact .mk _ (e.same s) l (by cases r; exact .nil)
  | .name x, _, h => by cases h with | mk _ e l r => exact .mk _ (e.same s) l (by cases r; exact .nil)
  | .weave l, _, h => by cases h with | mk _ e lb r => exact .mk _ (e.same s) lb (ExAll.same s l _ r)
  | .part j t, _, h => by cases h with | mk _ e l r => cases r with | cons a n => exact .mk _ (e.same s) l (.cons (ExAt.same s t _ a) (by cases n; exact .nil))
  | .drop j t, _, h => by cases h with | mk _ e l r => cases r with | cons a n => exact .mk _ (e.same s) l (.cons (ExAt.same s t _ a) (by cases n; exact .nil))
  | .lead t u, _, h => by cases h with | mk _ e l r => cases r with | cons a n => cases n with | cons a2 n2 => exact .mk _ (e.same s) l (.cons (ExAt.same s t _ a) (.cons (ExAt.same s u _ a2) (by cases n2; exact .nil)))
  | .turn j t, _, h => by cases h with | mk _ e l r => cases r with | cons a n => exact .mk _ (e.same s) l (.cons (ExAt.same s t _ a) (by cases n; exact .nil))
theorem ExAll.same {H H' : Hp} (s : Same H H') : ∀ (l : List Tr) (vs : List V), ExAll CF kc cls b H vs l → ExAll CF kc cls b H' vs l
  | [], _, h => by cases h; exact .nil
  | t :: r, _, h => by cases h with | cons a q => exact .cons (ExAt.same s t _ a) (ExAll.same s r _ q)
end
end
theorem sub_len : ∀ {xs ys : List Str}, xs.Nodup → (∀ x ∈ xs, x ∈ ys) → xs.length ≤ ys.length
  | [], _, _, _ => Nat.zero_le _
  | x :: xs, ys, n, h => by
    have hx := h x List.mem_cons_self
    have h2 := sub_len (xs := xs) (ys := ys.erase x) (List.nodup_cons.mp n).2 fun y hy => (List.mem_erase_of_ne (fun z => (List.nodup_cons.mp n).1 (by rw [← z]; exact hy))).2 (h y (List.mem_cons_of_mem _ hy))
    rw [List.length_erase_of_mem hx] at h2
    have : 0 < ys.length := List.length_pos_of_mem hx
    rw [List.length_cons]
    omega
mutual
theorem names_len : ∀ t : Tr, t.names.length ≤ t.knots
  | .sign _ => by simp [Tr.names, Tr.knots]
  | .name _ => by simp [Tr.names, Tr.knots]
  | .weave l => by have := namesL_len l; simp only [Tr.names, Tr.knots]; omega
  | .part _ t => by have := names_len t; simp only [Tr.names, Tr.knots]; omega
  | .drop _ t => by have := names_len t; simp only [Tr.names, Tr.knots]; omega
  | .lead t u => by have := names_len t; have := names_len u; simp only [Tr.names, Tr.knots, List.length_append]; omega
  | .turn _ t => by have := names_len t; simp only [Tr.names, Tr.knots]; omega
theorem namesL_len : ∀ l : List Tr, (Tr.namesL l).length ≤ Tr.knotsL l
  | [] => by simp [Tr.namesL, Tr.knotsL]
  | t :: r => by have := names_len t; have := namesL_len r; simp only [Tr.namesL, Tr.knotsL, List.length_append]; omega
end
theorem spell_len (k : Str) (ys : List Str) : (spell k ys).length ≤ k.length + 2 + ((ys.map (·.length)).sum + ys.length * 2) := by
  have z := join_len ", " ys
  have l2 : (", " : Str).length = 2 := by decide +kernel
  rw [l2] at z
  unfold spell
  simp only [PySem.Str.length_append, (by decide +kernel : ("(" : Str).length = 1), (by decide +kernel : (")" : Str).length = 1), (by decide +kernel : Str.empty.length = 0)]
  omega
theorem lettered_len {m : Int} {x : Str} (h : lettered m x = true) : (x.length : Int) ≤ m := by
  unfold lettered at h
  obtain ⟨_, h2⟩ := Bool.and_eq_true_iff.mp h
  exact of_decide_eq_true (Bool.and_eq_true_iff.mp h2).1
theorem nameB_len {x : Str} (h : nameB x = true) : x.length ≤ 8 := by
  have := lettered_len (Bool.and_eq_true_iff.mp h).1
  omega
theorem fig_one {i : Int} (h0 : 0 ≤ i) (h1 : i ≤ 9) : (toString i : Str).length ≤ 1 := by
  have : i = 0 ∨ i = 1 ∨ i = 2 ∨ i = 3 ∨ i = 4 ∨ i = 5 ∨ i = 6 ∨ i = 7 ∨ i = 8 ∨ i = 9 := by omega
  rcases this with rfl | rfl | rfl | rfl | rfl | rfl | rfl | rfl | rfl | rfl <;> decide +kernel
section
variable {b : Int}
mutual
theorem text_len (b0 : 0 ≤ b) (b9 : b ≤ 9) : ∀ t : Tr, t.Ok b → (t.text b).length + 2 ≤ 30 * t.knots
  | .sign s, h => by
    cases h with
    | sign e =>
      have := lettered_len e
      simp only [Tr.text, Tr.knots, PySem.Str.length_append, (by decide +kernel : ("'" : Str).length = 1), (by decide +kernel : Str.empty.length = 0)]
      omega
  | .name n, h => by
    cases h with
    | name e =>
      have := nameB_len e
      simp only [Tr.text, Tr.knots]
      omega
  | .weave l, h => by
    cases h with
    | weave _ e =>
      have z := textL_len b0 b9 l e
      have y := spell_len "weave" (Tr.textL b l)
      rw [(by decide +kernel : ("weave" : Str).length = 5)] at y
      simp only [Tr.text, Tr.knots]
      omega
  | .part j t, h => by
    cases h with
    | part j0 jb e =>
      have z := text_len b0 b9 t e
      have y := spell_len "part" [toString j, toString b, t.text b]
      have y1 : (toString j : Str).length ≤ 1 := fig_one j0 (by omega)
      have y2 : (toString b : Str).length ≤ 1 := fig_one b0 b9
      rw [(by decide +kernel : ("part" : Str).length = 4)] at y
      simp only [List.map_cons, List.map_nil, List.sum_cons, List.sum_nil, List.length_cons, List.length_nil] at y
      simp only [Tr.text, Tr.knots]
      omega
  | .drop c t, h => by
    cases h with
    | drop c1 c9 e =>
      have z := text_len b0 b9 t e
      have y := spell_len "drop" [toString c, t.text b]
      have y1 : (toString c : Str).length ≤ 1 := fig_one (by omega) c9
      rw [(by decide +kernel : ("drop" : Str).length = 4)] at y
      simp only [List.map_cons, List.map_nil, List.sum_cons, List.sum_nil, List.length_cons, List.length_nil] at y
      simp only [Tr.text, Tr.knots]
      omega
  | .lead t u, h => by
    cases h with
    | lead e e2 =>
      have z := text_len b0 b9 t e
      have z2 := text_len b0 b9 u e2
      have y := spell_len "lead" [t.text b, u.text b]
      rw [(by decide +kernel : ("lead" : Str).length = 4)] at y
      simp only [List.map_cons, List.map_nil, List.sum_cons, List.sum_nil, List.length_cons, List.length_nil] at y
      simp only [Tr.text, Tr.knots]
      omega
  | .turn w t, h => by
    cases h with
    | turn ew e =>
      have z := text_len b0 b9 t e
      have y := spell_len "turn" [w, t.text b]
      have := lettered_len ew
      rw [(by decide +kernel : ("turn" : Str).length = 4)] at y
      simp only [List.map_cons, List.map_nil, List.sum_cons, List.sum_nil, List.length_cons, List.length_nil] at y
      simp only [Tr.text, Tr.knots]
      omega
theorem textL_len (b0 : 0 ≤ b) (b9 : b ≤ 9) : ∀ l : List Tr, Tr.OkL b l → ((Tr.textL b l).map (·.length)).sum + (Tr.textL b l).length * 2 ≤ 30 * Tr.knotsL l
  | [], _ => by simp [Tr.textL, Tr.knotsL]
  | t :: r, h => by
    cases h with
    | cons a e =>
      have z := text_len b0 b9 t a
      have z2 := textL_len b0 b9 r e
      simp only [Tr.textL, Tr.knotsL, List.map_cons, List.sum_cons, List.length_cons]
      omega
end
end
/-! names, each one once -/
theorem puts_nodup : ∀ (xs ms : List Str), ms.Nodup → (xs.foldl Hs.put ms).Nodup
  | [], _, h => h
  | x :: xs, ms, h => by
    rw [List.foldl_cons]
    refine puts_nodup xs _ ?_
    unfold Hs.put
    split
    · exact h
    · rename_i n
      exact List.nodup_cons.mpr ⟨n, h⟩
theorem lab_of {ns xs ls : List Str} (p : ls.Perm (xs.foldl Hs.put [])) (s : sortedS ls = true) (h : ∀ x, x ∈ xs ↔ x ∈ ns) : Lab ns ls :=
  ⟨p.nodup_iff.mpr (puts_nodup xs [] .nil), s, fun x => by rw [p.mem_iff, Hs.puts_mem, h]; simp⟩
end Wp

namespace Wp
open PySem PySem.Spec PyProof.Rows L2 Hx
/-- the seven classes, as they are called -/
structure Ctors (P : Program) (w : World) (K : PySem.W.Frag) (mg : Str → Option Value) (base : Heap) (CF CE Cn Cs Cm Cw Ce : Addr) (kc : KCls) (cls : Addr → Prop) : Prop where
  own : ∀ k ∈ (["sign", "name", "weave", "part", "drop", "lead", "turn"] : List Str), cls (kc k)
  sign : mg "Sign" = some (.ref (kc "sign")) ∧ ∃ fI fd, Mk K (kc "sign") fI ∧ FnOk P w K mg base (L2.CX P w) 7 fI fd ["self", "sign"] (spLeaf K CF cls (lettered 1) Cs "sign" (fun x => ((Str.empty ++ "'") ++ x) ++ "'") fun _ => []) ∧ Binds K fd ["self", "sign"] []
  name : mg "Name" = some (.ref (kc "name")) ∧ ∃ fI fd, Mk K (kc "name") fI ∧ FnOk P w K mg base (L2.CX P w) 7 fI fd ["self", "name"] (spLeaf K CF cls nameB Cm "name" (fun x => x) fun x => [x]) ∧ Binds K fd ["self", "name"] []
  weave : mg "Weave" = some (.ref (kc "weave")) ∧ ∃ fI, Mk K (kc "weave") fI ∧ FnR P w K mg base (L2.CX P w) 7 fI (spWeave K CF CE Cn Ce cls)
  part : mg "Part" = some (.ref (kc "part")) ∧ ∃ fI fd, Mk K (kc "part") fI ∧ FnOk P w K mg base (L2.CX P w) 7 fI fd ["self", "at", "base", "inner"] (spPart K CF CE Cn Ce cls) ∧ Binds K fd ["self", "at", "base", "inner"] []
  drop : mg "Drop" = some (.ref (kc "drop")) ∧ ∃ fI fd, Mk K (kc "drop") fI ∧ FnOk P w K mg base (L2.CX P w) 7 fI fd ["self", "many", "inner"] (spDrop K CF CE Cn Ce cls) ∧ Binds K fd ["self", "many", "inner"] []
  lead : mg "Lead" = some (.ref (kc "lead")) ∧ ∃ fI fd, Mk K (kc "lead") fI ∧ FnOk P w K mg base (L2.CX P w) 7 fI fd ["self", "first", "rest"] (spLead K CF CE Ce cls) ∧ Binds K fd ["self", "first", "rest"] []
  turn : mg "Turn" = some (.ref (kc "turn")) ∧ ∃ fI fd, Mk K (kc "turn") fI ∧ FnOk P w K mg base (L2.CX P w) 7 fI fd ["self", "word", "inner"] (spTurn K CF CE Cw Ce cls) ∧ Binds K fd ["self", "word", "inner"] []
def spMade (CF : Addr) (kc : KCls) (cls : Addr → Prop) (n : Nat) : Sp := fun vs H Q _ => ∃ (tv : V) (b : Int) (t : Tr), vs = [tv, .int b] ∧ TrAt H tv t ∧ t.Ok b ∧ 2 ≤ b ∧ b ≤ 4 ∧ t.knots ≤ n ∧ t.knots ≤ 40 ∧ ∀ v H', Same H H' → ExAt CF kc cls b H' v t → Q v H'
theorem knots_pos : ∀ t : Tr, 1 ≤ t.knots
  | .sign _ => by simp [Tr.knots] | .name _ => by simp [Tr.knots] | .weave l => by simp only [Tr.knots]; omega | .part _ t => by simp only [Tr.knots]; omega | .drop _ t => by simp only [Tr.knots]; omega
  | .lead t u => by simp only [Tr.knots]; omega | .turn _ t => by simp only [Tr.knots]; omega
section
variable {P : Program} {w : World} {K : PySem.W.Frag} {mg : Str → Option Value} {base : Heap} {f CF CE Cn Cs Cm Cw Ce : Addr} {fd : FuncData} {kc : KCls} {cls : Addr → Prop}
/-- what is told of an expression that stands for a tree -/
structure For (CF : Addr) (kc : KCls) (cls : Addr → Prop) (b : Int) (H : Hp) (t : Tr) (e : Told) : Prop where
  arg : Arg CF cls H e
  text : e.text = t.text b
  size : e.size = (t.knots : Nat)
  lab : Lab t.names e.labels
theorem for_of {b : Int} {H : Hp} {v : V} {t : Tr} (h : ExAt CF kc cls b H v t) (ok : t.Ok b) (b0 : 0 ≤ b) (b9 : b ≤ 9) (k : t.knots ≤ 40) : ∃ e : Told, v = .ref e.at_ ∧ For CF kc cls b H t e := by
  cases h with
  | @mk a inner ls _ xp lab all =>
    have l1 := sub_len lab.once fun x hx => (lab.mem x).1 hx
    have l2 := names_len t
    have l3 := text_len b0 b9 t ok
    exact ⟨⟨a, kc t.kind, t.kind, t.text b, t.told b, inner, ls, (t.knots : Nat)⟩, rfl, ⟨⟨xp, by show ls.length ≤ 40; omega, by show (t.text b).length ≤ 20000; omega⟩, rfl, rfl, lab⟩⟩
theorem fors_of {b : Int} {H : Hp} (b0 : 0 ≤ b) (b9 : b ≤ 9) : ∀ {vs : List V} {l : List Tr}, ExAll CF kc cls b H vs l → Tr.OkL b l → Tr.knotsL l ≤ 40 →
    ∃ es : List Told, vs = es.map (fun e => V.ref e.at_) ∧ (∀ e ∈ es, Arg CF cls H e) ∧ es.map (fun e => e.text) = Tr.textL b l ∧ (es.map (fun e => e.size)).sum = (Tr.knotsL l : Nat) ∧ ∀ x, x ∈ es.flatMap (fun e => e.labels) ↔ x ∈ Tr.namesL l
  | _, [], .nil, _, _ => ⟨[], rfl, (fun e he => nomatch he), rfl, rfl, fun x => by simp [Tr.namesL]⟩
  | _, t :: r, .cons a q, ok, k => by
    cases ok with
    | cons o1 o2 =>
      have k1 : t.knots + Tr.knotsL r ≤ 40 := by
        simp only [Tr.knotsL] at k
        exact k
      obtain ⟨e, rfl, f⟩ := for_of a o1 b0 b9 (by omega)
      obtain ⟨es, rfl, h1, h2, h3, h4⟩ := fors_of b0 b9 q o2 (by omega)
      refine ⟨e :: es, rfl, fun x hx => ?_, ?_, ?_, fun x => ?_⟩
      · rcases List.mem_cons.mp hx with rfl | hx
        · exact f.arg
        · exact h1 x hx
      · rw [List.map_cons, h2, f.text]
        simp only [Tr.textL]
      · rw [List.map_cons, List.sum_cons, h3, f.size]
        simp only [Tr.knotsL]
        omega
      · rw [List.flatMap_cons, List.mem_append, h4, f.lab.mem]
        simp only [Tr.namesL, List.mem_append]
theorem lab1 {kind : Str} {told : List V} {e : Told} {ns ls : List Str} (hk : kind ≠ "name") (p : ls.Perm ((namesOf kind told [e]).foldl Hs.put [])) (s : sortedS ls = true) (l : Lab ns e.labels) : Lab ns ls :=
  lab_of p s fun x => by
    unfold namesOf
    rw [if_neg hk]
    simp only [List.flatMap_cons, List.flatMap_nil, List.append_nil]
    exact l.mem x
/-- all but lists stand -/
def Sm (H H' : Hp) : Prop := ∀ c o, H c = some o → (∀ xs, o ≠ .lst xs) → H' c = some o
theorem XpAt.sm {H H' : Hp} {a C : Addr} {kind text : Str} {told inner : List V} {labels : List Str} {size : Int} (h : XpAt CF cls H a C kind text told inner labels size) (s : Sm H H') : XpAt CF cls H' a C kind text told inner labels size := by
  obtain ⟨dx, fa, dfa, pm, pi, pl, h0, h1, h2, h3, h4, h5⟩ := h
  exact ⟨dx, fa, dfa, pm, pi, pl, h0, s _ _ h1 (by intro xs z; cases z), s _ _ h2 (by intro xs z; cases z), s _ _ h3 (by intro xs z; cases z), s _ _ h4 (by intro xs z; cases z), s _ _ h5 (by intro xs z; cases z)⟩
mutual
theorem ExAt.sm {b : Int} {H H' : Hp} (s : Sm H H') : ∀ (t : Tr) (v : V), ExAt CF kc cls b H v t → ExAt CF kc cls b H' v t
  | .sign x, _, h => by cases h with | mk _ e l r => exact .mk _ (XpAt.sm e s) l (by cases r; exact .nil)
  | .name x, _, h => by cases h with | mk _ e l r => exact .mk _ (XpAt.sm e s) l (by cases r; exact .nil)
  | .weave l, _, h => by cases h with | mk _ e lb r => exact .mk _ (XpAt.sm e s) lb (ExAll.sm s l _ r)
  | .part j t, _, h => by cases h with | mk _ e l r => cases r with | cons a n => exact .mk _ (XpAt.sm e s) l (.cons (ExAt.sm s t _ a) (by cases n; exact .nil))
  | .drop j t, _, h => by cases h with | mk _ e l r => cases r with | cons a n => exact .mk _ (XpAt.sm e s) l (.cons (ExAt.sm s t _ a) (by cases n; exact .nil))
  | .lead t u, _, h => by cases h with | mk _ e l r => cases r with | cons a n => cases n with | cons a2 n2 => exact .mk _ (XpAt.sm e s) l (.cons (ExAt.sm s t _ a) (.cons (ExAt.sm s u _ a2) (by cases n2; exact .nil)))
  | .turn j t, _, h => by cases h with | mk _ e l r => cases r with | cons a n => exact .mk _ (XpAt.sm e s) l (.cons (ExAt.sm s t _ a) (by cases n; exact .nil))
theorem ExAll.sm {b : Int} {H H' : Hp} (s : Sm H H') : ∀ (l : List Tr) (vs : List V), ExAll CF kc cls b H vs l → ExAll CF kc cls b H' vs l
  | [], _, h => by cases h; exact .nil
  | t :: r, _, h => by cases h with | cons a q => exact .cons (ExAt.sm s t _ a) (ExAll.sm s r _ q)
end
theorem ExAll.snoc {b : Int} {H : Hp} {v : V} {t : Tr} : ∀ {vs : List V} {l : List Tr}, ExAll CF kc cls b H vs l → ExAt CF kc cls b H v t → ExAll CF kc cls b H (vs ++ [v]) (l ++ [t])
  | _, [], .nil, h => .cons h .nil
  | _, _ :: _, .cons a r, h => .cons a (ExAll.snoc r h)
theorem ExAll.len {b : Int} {H : Hp} : ∀ {vs : List V} {l : List Tr}, ExAll CF kc cls b H vs l → vs.length = l.length
  | _, [], .nil => rfl
  | _, _ :: _, .cons _ r => congrArg Nat.succ (ExAll.len r)
theorem TrAll.get {H : Hp} : ∀ {vs : List V} {l : List Tr} {i : Nat} {x : V}, TrAll H vs l → vs[i]? = some x → ∃ t, l[i]? = some t ∧ TrAt H x t
  | _, [], _, _, .nil, h => by simp at h
  | _, t :: _, 0, x, .cons a _, h => ⟨t, rfl, by cases h; exact a⟩
  | _, _ :: _, i + 1, x, .cons _ r, h => TrAll.get (i := i) r h
theorem TrAll.len {H : Hp} : ∀ {vs : List V} {l : List Tr}, TrAll H vs l → vs.length = l.length
  | _, [], .nil => rfl
  | _, _ :: _, .cons _ r => congrArg Nat.succ (TrAll.len r)
theorem OkL.get {b : Int} : ∀ {l : List Tr} {i : Nat} {t : Tr}, Tr.OkL b l → l[i]? = some t → t.Ok b ∧ t.knots ≤ Tr.knotsL l
  | [], _, _, _, h => by simp at h
  | u :: _, 0, t, .cons a _, h => by
    cases h
    refine ⟨a, ?_⟩
    simp only [Tr.knotsL]
    omega
  | _ :: _, i + 1, t, .cons _ r, h => by
    obtain ⟨h1, h2⟩ := OkL.get (i := i) r h
    refine ⟨h1, ?_⟩
    simp only [Tr.knotsL]
    omega
theorem weave_go {K : PySem.W.Frag} {CE Cn Ce : Addr} {b : Int} {H : Hp} {x dx : Addr} {ws : List V} {l : List Tr} {Q : VK} (hx : H x = none) (hdx : H dx = none) (ne : dx ≠ x) (ea : ExAll CF kc cls b H ws l) (ok : Tr.OkL b l) (hl : (l.length : Int) = b) (b2 : 2 ≤ b) (b4 : b ≤ 4) (k : Tr.knotsL l ≤ 39)
    (own : cls (kc "weave")) (q : ∀ v H2, Same H H2 → ExAt CF kc cls b H2 v (.weave l) → Q v H2) :
    spWeave K CF CE Cn Ce cls (.ref x :: ws) (upd (upd H dx (.own x)) x (.ins (kc "weave") dx [])) (fun v H2 => v = .non ∧ Q (.ref x) H2) E0 := by
  have wl := ea.len
  obtain ⟨es, rfl, h1, h2, h3, h4⟩ := fors_of (by omega) (by omega) ea ok (by omega)
  have el : es.length = l.length := by
    rw [List.length_map] at wl
    exact wl
  refine ⟨[.ref x], es.map (fun e => V.ref e.at_), rfl, rfl, by rw [List.length_map]; exact small_line (by omega), fun p hp => ?_⟩
  have g := born (C := kc "weave") hx hdx ne
  refine ⟨x, dx, kc "weave", p, _, rfl, own, upd_other upd_same hp, upd_same, .inl ⟨es, rfl, by omega, by omega, fun e he => (h1 e he).same (g.trans (same_new hp _)), fun H2 ls bt xp pm srt => ⟨rfl, ?_⟩⟩⟩
  have s2 : Same H H2 := fun c o hc => bt c o (ne_of_none hc hx) ((g.trans (same_new hp _)) c o hc)
  have ek : (1 + (es.map (·.size)).sum : Int) = ((Tr.knots (.weave l) : Nat) : Int) := by
    simp only [Tr.knots]
    rw [h3]
    omega
  have et : spell "weave" (es.map (·.text)) = Tr.text b (.weave l) := by
    simp only [Tr.text]
    rw [h2]
  rw [ek, et] at xp
  refine q _ _ s2 (.mk (.weave l) xp (lab_of pm srt fun y => ?_) (ExAll.same s2 l _ ea))
  unfold namesOf
  rw [if_neg (by decide +kernel), h4]
  simp only [Tr.names]
end
end Wp

/-! operators of an own class without slots; a text times a number; a method called by keywords; dead rows -/
namespace Hx
open PySem PySem.Spec PyProof.Rows L2
/-- a row that is never reached -/
theorem ps_dead {X : Cx} {st : Stmt} : PS X st (fun _ _ _ => False) := ⟨fun _ _ _ _ _ _ h => h.elim⟩
section
variable {X : Cx}
theorem op_mul_str : OpR X (binaryOp .Mult) (fun x y H Q => ∃ z k, x = .str z ∧ y = .int k ∧ MulOk z k ∧ Q (.str (Txt.mul z k)) H) := by
  intro pins s σ H x y v u Q I rx ry h
  obtain ⟨z, k, rfl, rfl, hz, q⟩ := h
  obtain ⟨t, rfl⟩ := rx
  obtain ⟨t', rfl⟩ := ry
  exact SB.mul hz (fun t' tk => ⟨.str (Txt.mul z k), H, I.tok _, ⟨_, rfl⟩, q⟩)
end
/-- o.m(k = v, ..) -/
def tMethK (C : Addr) (m : Str) (sp : Sp) (gV : List V → List V → List V) (E : XK) (ta : TE) (tk : TA) : TE := fun σ H Q => ta σ H fun x H1 => ∃ a dx fs, x = .ref a ∧ H1 a = some (.ins C dx fs) ∧ fs.lookup m = none ∧
  tk σ H1 fun zs H2 => sp (gV [x] zs) H2 Q E
section
variable {X : Cx} {CX : CXT} {k : Nat} {f C : Addr} {fd : FuncData} {ps ks : List Str} {sp : Sp} {E : XK} {m : Str} {pos apos : Pos} {o : Expr} {kws : List Keyword} {ta : TE} {tk : TA}
  {g : List Value → List Value → List Value} {gV : List V → List V → List V}
theorem pe_methK {pl : Sem Bool} (he : PE X o ta) (c : Cls X.K C) (hm : Meth X.K C m f) (F : FnOk X.prog X.w X.K X.mg X.base CX k f fd ps sp) (hr : Room k X.A) (hb : KBinds X.K fd ps ks g gV) (hx : Passes CX X E) (hkw : PK X kws tk)
    (hall : (backToKw pos (keywordEach kws X.env)).all (·.1.isSome) = true := by rfl) (hks : (backToKw pos (keywordEach kws X.env)).filterMap (·.1) = ks := by rfl)
    (hpl : ((backTo pos (starEach [] X.env)).any (·.1) || (backToKw pos (keywordEach kws X.env)).any (·.1.isNone)) = false := by rfl)
    (ht : eval (.Call (.Attribute o m apos) [] kws pos) X.env = (do
      let ov ← eval o X.env
      standAt apos.atName
      let (f, first) ← holding [ov] (getMethod ov m pl)
      callWith pos f first (backTo pos (starEach [] X.env)) (backToKw pos (keywordEach kws X.env))) := by rfl) :
    PE X (.Call (.Attribute o m apos) [] kws pos) (tMethK C m sp gV E ta tk) := by
  refine ⟨fun pins s σ H Q I h => ?_⟩
  refine PySem.W.methodCall_KW (pl := pl) (thn (he.run pins s σ H _ I h) fun u s1 ⟨x, H1, I1, rx, a, dx, fs, ex, ea, l, q⟩ => ?_) ht
  subst ex
  obtain rfl : u = Value.ref a := rx
  refine getmeth_ok I1 ea c hm l ?_
  refine PySem.W.callWith_KW0 (first := [.ref a]) (h₀ := X.base) I.ok.mod.kin hm.kp hall ?_ hpl
  refine thn (hkw.run pos pins s1 σ H1 _ I1 q) fun ws s2 ⟨zs, H2, I2, rz, q2⟩ => ⟨I2.kIn, ?_⟩
  rw [hks]
  exact run_fnk (us := [.ref a]) (vs := [.ref a]) F hr hb hx I2 (.cons rfl .nil) rz q2
end
/-- o[i] where the class at C tells its items by a def of its own -/
structure ItemBy (P : Program) (w : World) (K : PySem.W.Frag) (mg : Str → Option Value) (base : Heap) (k : Nat) (C : Addr) (ps : List Str) (sp : Sp) : Prop where
  go : ∃ (g : Addr) (fd : FuncData), PySem.W.findIn K (.ref C) "__getitem__" = some (some (.ref g)) ∧ PySem.W.fnIn K g = true ∧ PySem.W.isFn K (.ref g) = true ∧
    FnOk P w K mg base CX0 k g fd ps sp ∧ Binds K fd ps []
def rItem (C : Addr) (sp : Sp) : R2 := fun x y H Q => ∃ (a dx : Addr) (fs : List (Str × V)), x = .ref a ∧ H a = some (.ins C dx fs) ∧ sp [x, y] H Q E0
section
variable {X : Cx} {k : Nat} {C : Addr} {ps : List Str} {sp : Sp}
theorem run_below {pins : List (Addr × Obj)} {σ : L2.St} {H : Hp} {s : Shared} {Q : VK} {us : List Value} {vs : List V} {A1 : Around} {f : Addr} {fd : FuncData}
    (F : FnOk X.prog X.w X.K X.mg X.base CX0 k f fd ps sp) (hr : Room k A1) (e0 : Env0 X.prog X.w X.K X.mg X.base A1 X.stack s H) (hb : Binds X.K fd ps []) (I : Inv X pins σ H s) (r : Vals vs us) (h : sp vs H Q E0) :
    wpAny (model X.prog X.w) A1 (call (.ref f) us) (EP X pins σ Q) X.xe s := by
  have l := F.len vs H Q E0 h
  have hl : us.length = ps.length := by rw [← r.length]; exact l
  have b := hb s us I.kIn (by rw [List.append_nil]; exact hl)
  rw [List.append_nil] at b
  refine wpAny_call (codeAny_mono (F.run A1 X.stack s H ⟨us, []⟩ us vs Q E0 hr e0 b r h) fun r s' hq => ?_)
  cases r with
  | error e => exact (show False from hq).elim
  | ok fl =>
    cases fl with
    | ret u => exact I.after hq
    | next => exact hq.elim
    | brk => exact hq.elim
    | cont => exact hq.elim
theorem pe_ixO {e i : Expr} {pos : Pos} {te ti : TE} (T : ItemBy X.prog X.w X.K X.mg X.base k C ps sp) (hr : Room (k + 1) X.A) (he : PE X e te) (hi : PE X i ti)
    (hsl : ∀ (a : Addr) (u : Value), subscripted i true (.ref a) u = runValue (.builtin "lifetime.subscript" ⟨[.ref a, u], []⟩)) : PE X (.Subscript e i pos) (tOp (rItem C sp) te ti) := by
  refine ⟨fun pins s σ H Q I h => ?_⟩
  refine Subscript_ (binT he hi I h fun v u s2 x y H2 I2 rx ry q => ?_)
  obtain ⟨a, dx, fs, rfl, ha, q⟩ := q
  cases (show v = Value.ref a from rx)
  obtain ⟨g, fd, h1, h2, h3, F, b⟩ := T.go
  obtain ⟨mA, O, _⟩ := ins_get I2.hok ha
  obtain ⟨od, J, _⟩ := O.look
  obtain ⟨m, hF⟩ := I2.fr
  exact PySem.W.sub_K hF I2.ok.mod.kin J h1 h2 h3 (run_below F hr.in1 I2.env0.in1 b I2 (.cons rx (.cons ry .nil)) q) (hsl _ _)
end
/-- x == y by the class's own def -/
structure EqBy (P : Program) (w : World) (K : PySem.W.Frag) (mg : Str → Option Value) (base : Heap) (k : Nat) (C : Addr) (ps : List Str) (sp : Sp) : Prop where
  go : ∃ (g : Addr) (fd : FuncData), PySem.W.findIn K (.ref C) "__eq__" = some (some (.ref g)) ∧ PySem.W.isFn K (.ref g) = true ∧
    FnOk P w K mg base CX0 k g fd ps sp ∧ Binds K fd ps []
  ne : PySem.W.findIn K (.ref C) "__ne__" = some (some (.builtin "object.__ne__"))
  obj : PySem.W.mroIn K C (.type "object") = some true
  str : PySem.W.notFirst K C (.type "str") = true
  tup : PySem.W.notFirst K C (.type "tuple") = true
/-- the right operand: a text, a tuple, an object of this class -/
def Right (C : Addr) (H : Hp) (y : V) : Prop := (∃ z : Str, y = .str z) ∨ (∃ (b : Addr) (xs : List V), y = .ref b ∧ H b = some (.tup xs)) ∨ ∃ (b dx : Addr) (fs : List (Str × V)), y = .ref b ∧ H b = some (.ins C dx fs)
def rEqO (C : Addr) (sp : Sp) : R2 := fun x y H Q => ∃ (a dx : Addr) (fs : List (Str × V)), x = .ref a ∧ H a = some (.ins C dx fs) ∧ Right C H y ∧ sp [x, y] H (fun v H' => ∃ k, v = .bl k ∧ Q (.bl k) H') E0
def rNeO (C : Addr) (sp : Sp) : R2 := fun x y H Q => ∃ (a dx : Addr) (fs : List (Str × V)), x = .ref a ∧ H a = some (.ins C dx fs) ∧ Right C H y ∧ sp [x, y] H (fun v H' => ∃ k, v = .bl k ∧ Q (.bl (!k)) H') E0
section
variable {X : Cx} {k : Nat} {C : Addr} {ps : List Str} {sp : Sp} {P : Program} {w : World} {K : PySem.W.Frag} {mg : Str → Option Value} {base : Heap}
theorem right_of {pins : List (Addr × Obj)} {σ : L2.St} {H : Hp} {s : Shared} {y : V} {u : Value} (T : EqBy P w K mg base k C ps sp) (I : Inv X pins σ H s) (ry : RelV y u) (r : Right C H y) :
    ∃ tb, PySem.W.Looks (model X.prog X.w) s.heap (typeOf u) tb ∧ PySem.W.notFirst K C tb = true := by
  rcases r with ⟨z, rfl⟩ | ⟨b, xs, rfl, hb⟩ | ⟨b, dx, fs, rfl, hb⟩
  · obtain ⟨t, rfl⟩ := ry
    exact ⟨.type "str", .of_pure rfl, T.str⟩
  · cases (show u = Value.ref b from ry)
    obtain ⟨its, _, ⟨o, ho, hc, _⟩, _⟩ := I.tuple (SqT.of hb)
    exact ⟨.type "tuple", hc ▸ (PySem.W.Looks.ld ho).andThen .now, T.tup⟩
  · cases (show u = Value.ref b from ry)
    obtain ⟨mA, O, _⟩ := ins_get I.hok hb
    obtain ⟨od, J, _⟩ := O.look
    exact ⟨.ref C, J.type, by unfold PySem.W.notFirst; simp⟩
theorem op_eqO (T : EqBy X.prog X.w X.K X.mg X.base k C ps sp) (hr : Room k X.A) : OpR X (compareOp .Eq) (rEqO C sp) := by
  intro pins s σ H x y v u Q I rx ry h
  obtain ⟨a, dx, fs, rfl, ha, r, q⟩ := h
  obtain ⟨tb, hb, hn⟩ := right_of T I ry r
  cases (show v = Value.ref a from rx)
  obtain ⟨g, fd, h1, h2, F, b⟩ := T.go
  obtain ⟨mA, O, _⟩ := ins_get I.hok ha
  obtain ⟨od, J, _⟩ := O.look
  obtain ⟨m, hF⟩ := I.fr
  refine PySem.W.cmp_ofEq (PySem.W.cmp_K (op := .Eq) hr.units0 hF I.ok.mod.kin J hb hn h1 h2 ?_)
  refine wpAny_mono (run_below F hr I.env0 b I (.cons rx (.cons ry .nil)) q) (fun w' s' z => ?_) fun _ _ e => e
  obtain ⟨z', H', I', rz, kk, rfl, qz⟩ := z
  cases (show w' = Value.bool kk from rz)
  exact ⟨.bl kk, H', I', rfl, qz⟩
end
end Hx
namespace Hx
open PySem PySem.Spec PyProof.Rows L2
section
variable {prog : Program} {w : World} {A : Around} {E : Value → Shared → Prop} {s : Shared} {K : PySem.W.Frag} {x C L f : Addr} {h₀ : Heap} {m : Str → Option Value} {ox : Obj} {od : Option Obj} {name : Str} {b tb : Value}
theorem ifBound_B {M : Model} {args : List Value} {id : String} {Q : Option Value → Shared → Prop} (X : K.In s.heap) (I : PySem.W.InstAt s.heap x ox C od) (hs : PySem.W.findIn K (.ref C) name = some (some (.builtin id)))
    (hb : ∀ self, bindSpecial (.builtin id) self = pure (.builtin id, [self])) (h : wpAny M A (call (.builtin id) (.ref x :: args)) (fun v => Q (some v)) E s) : wpAny M A (callSpecialIfBound? (.ref x) name args) Q E s := by
  simp only [callSpecialIfBound?, bindSpecialIfBound?]
  refine wpAny_holding (wpAny_bind (wpAny_bind (wpAny_bind (I.type.here ((PySem.W.looks_findIn X hs).here ?_)))))
  refine wpAny_bind (wpAny_askSetting (wpAny_ite ?_))
  have fin : wpAny M A (call (.builtin id) ([.ref x] ++ args) >>= fun v => pure (some v)) Q E s := wpAny_bind (wpAny_mono h (fun v s' h' => wpAny_pure h') fun _ _ h' => h')
  split
  · exact wpAny_bind ((PySem.W.Looks.of_pure (hb _)).here (wpAny_pure (by exact fin)))
  · exact wpAny_tryCatch (wpAny_bind ((PySem.W.Looks.of_pure (hb _)).here (wpAny_pure (by exact fin))))
theorem objNe_K (hu : A.units < cLine) (X : K.In s.heap) (I : PySem.W.InstAt s.heap x ox C od) (he : PySem.W.findIn K (.ref C) "__eq__" = some (some (.ref f))) (hf : PySem.W.isFn K (.ref f) = true) {Q : Fin → Shared → Prop}
    (hcall : wpAny (model prog w) A (call (.ref f) [.ref x, b]) (fun v s' => ∃ k, v = .bool k ∧ Q (.done (.ret (.bool (!k)))) s') E s) :
    wpAny (model prog w) A (Builtin.«object.__ne__» ⟨[.ref x, b], []⟩) Q E s := by
  unfold Builtin.«object.__ne__»
  repeat (first
    | with_reducible refine wpAny_cRoomFor hu ?_
    | (refine wpAny_bind (m := callSpecialIfBound? (.ref x) (Str.ofString "__eq__") [b])
        (PySem.W.ifBound_K X I he hf (wpAny_mono hcall (fun r s' hr => by
          obtain ⟨k, rfl, hq⟩ := hr
          repeat (first | exact hq | exact wpAny_pure hq | exact wpAny_truthy_bool hq | (refine wpAny_bind (m := truthy (.bool _)) (wpAny_truthy_bool ?_)) | wp_step)) fun _ _ e => e)))
    | wp_step)
theorem ne_K {Q : Value → Shared → Prop} (hu : A.units + 1 < cLine) (F : Fr h₀ L s.heap m) (X₀ : K.In h₀) (I : PySem.W.InstAt s.heap x ox C od) (hb : PySem.W.Looks (model prog w) s.heap (typeOf b) tb) (hn : PySem.W.notFirst K C tb = true)
    (hs : PySem.W.findIn K (.ref C) "__ne__" = some (some (.builtin "object.__ne__"))) (hm : PySem.W.mroIn K C (.type "object") = some true) (he : PySem.W.findIn K (.ref C) "__eq__" = some (some (.ref f))) (hf : PySem.W.isFn K (.ref f) = true)
    (h : wpAny (model prog w) A.in1 (call (.ref f) [.ref x, b]) (fun v s' => ∃ k, v = .bool k ∧ Q (.bool (!k)) s') E s) : wpAny (model prog w) A (richCompare .NotEq (.ref x) b) Q E s := by
  have X := X₀.keeps F.keep
  have FB := PySem.F.cmp_object
  have sub : PySem.W.Looks (model prog w) s.heap (isInstance (.ref x) (.type "object")) true := I.type.andThen (PySem.W.looks_mroIn X hm)
  have one : wpAny (model prog w) A (tryCompare (.ref x) "__ne__" b) (fun r s' => ∃ v, r = some v ∧ Q v s') E s := by
    unfold tryCompare
    refine wpAny_bind (ifBound_B X I hs FB.ne.bind (wpAny_call (codeAny_call_builtin FB.ne.plain PySem.F.cmpEntry_ne ?_)))
    refine @PySem.W.check_slot (model prog w) _ _ s "object.__ne__" "object" "__ne__" (.ref x) [b] [] _ PySem.F.cmpKind_ne PySem.F.cmpSplit_ne sub (PySem.F.cmpArgs_ne (.ref x) b) ?_
    refine objNe_K (A := A.in1) hu X I he hf (wpAny_mono h (fun v s' hv => ?_) fun _ _ e => e)
    obtain ⟨k, rfl, hq⟩ := hv
    exact ⟨k, rfl, wpAny_pure ⟨_, rfl, hq⟩⟩
  unfold richCompare
  simp only [oneThing_ref]
  refine wpAny_holding (wpAny_bind (wpAny_cRoomFor (Nat.lt_of_succ_lt hu) ?_))
  refine wpAny_bind (I.type.here (wpAny_bind (hb.here ?_)))
  split
  · rename_i q
    have e : PySem.W.subIn K tb (.ref C) = some false := by
      rcases Bool.or_eq_true_iff.mp hn with e | e
      · rw [beq_iff_eq.mp e] at q; simp at q
      · exact beq_iff_eq.mp e
    refine wpAny_bind ((PySem.W.looks_subIn X e).here ?_)
    simp only [Bool.false_eq_true, if_false]
    refine wpAny_bind (wpAny_mono one (fun r s' z => ?_) fun _ _ e => e)
    obtain ⟨v, rfl, hq⟩ := z
    exact wpAny_pure hq
  · refine wpAny_bind (wpAny_pure ?_)
    simp only [Bool.false_eq_true, if_false]
    refine wpAny_bind (wpAny_mono one (fun r s' z => ?_) fun _ _ e => e)
    obtain ⟨v, rfl, hq⟩ := z
    exact wpAny_pure hq
end
section
variable {X : Cx} {k : Nat} {C : Addr} {ps : List Str} {sp : Sp}
theorem op_neO (T : EqBy X.prog X.w X.K X.mg X.base k C ps sp) (hr : Room (k + 1) X.A) : OpR X (compareOp .NotEq) (rNeO C sp) := by
  intro pins s σ H x y v u Q I rx ry h
  obtain ⟨a, dx, fs, rfl, ha, r, q⟩ := h
  obtain ⟨tb, hb, hn⟩ := right_of T I ry r
  cases (show v = Value.ref a from rx)
  obtain ⟨g, fd, h1, h2, F, b⟩ := T.go
  obtain ⟨mA, O, _⟩ := ins_get I.hok ha
  obtain ⟨od, J, _⟩ := O.look
  obtain ⟨m, hF⟩ := I.fr
  refine PySem.W.cmp_ofNotEq (ne_K (by have := hr.un; omega) hF I.ok.mod.kin J hb hn T.ne T.obj h1 h2 ?_)
  refine wpAny_mono (run_below F hr.in1 I.env0.in1 b I (.cons rx (.cons ry .nil)) q) (fun w' s' z => ?_) fun _ _ e => e
  obtain ⟨z', H', I', rz, kk, rfl, qz⟩ := z
  cases (show w' = Value.bool kk from rz)
  exact ⟨kk, rfl, .bl (!kk), H', I', rfl, qz⟩
/-- repr(x) of an own object -/
structure ShowsBy (P : Program) (w : World) (K : PySem.W.Frag) (mg : Str → Option Value) (base : Heap) (k : Nat) (C : Addr) (sp : Sp) : Prop where
  go : ∃ (g : Addr) (fd : FuncData), PySem.W.findIn K (.ref C) "__repr__" = some (some (.ref g)) ∧ PySem.W.isFn K (.ref g) = true ∧
    FnOk P w K mg base CX0 k g fd ["self"] sp ∧ Binds K fd ["self"] []
def rShow (C : Addr) (sp : Sp) : List V → Hp → VK → Prop := fun xs H Q => ∃ (a dx : Addr) (fs : List (Str × V)), xs = [.ref a] ∧ H a = some (.ins C dx fs) ∧ sp [.ref a] H (fun v H' => ∃ y : Str, v = .str y ∧ Q (.str y) H') E0
theorem call_show (T : ShowsBy X.prog X.w X.K X.mg X.base k C sp) (hr : Room (k + 1) X.A) : CallR X (.builtin "repr") (rShow C sp) := by
  intro pins s σ H xs us Q I r h
  obtain ⟨a, dx, fs, rfl, ha, q⟩ := h
  rw [Vals.ref1 r]
  obtain ⟨g, fd, h1, h2, F, b⟩ := T.go
  obtain ⟨mA, O, _⟩ := ins_get I.hok ha
  obtain ⟨od, J, _⟩ := O.look
  obtain ⟨m, hF⟩ := I.fr
  refine PySem.W.repr_K hr.in1.units0 hF I.ok.mod.kin J h1 h2 ?_
  refine wpAny_mono (run_below F hr.in1 I.env0.in1 b I (us := [.ref a]) (vs := [.ref a]) (.cons rfl .nil) q) (fun w' s' z => ?_) fun _ _ e => e
  obtain ⟨z', H', I', rz, y, rfl, qz⟩ := z
  obtain ⟨t, rfl⟩ := rz
  exact ⟨.str y, H', I', ⟨t, rfl⟩, qz⟩
end
end Hx

/-! x[::-1]; bool of an own object; == and != of an own object beside any value -/
namespace Hx
open PySem PySem.Spec PyProof.Rows L2
def SlB (X : Cx) (r : V → Hp → VK → Prop) : Prop :=
  ∀ (pins : List (Addr × Obj)) (s : Shared) (σ : L2.St) (H : Hp) (x : V) (v : Value) (tk : Tok) (sl : Addr) (Q : VK), Inv X pins σ H s → RelV x v → s.heap.IsSliceOf sl .none .none (.int (-1) tk) → r x H Q →
    ∃ T id, typeLookup (.type T) "__getitem__" = pure (some (.builtin id)) ∧ s.TypeIs v T ∧ wpAny (model X.prog X.w) X.A (getItem v (.ref sl)) (EP X pins σ Q) X.xe s
def tBack (r : V → Hp → VK → Prop) (te tk : TE) : TE := fun σ H Q => te σ H fun x H1 => tk σ H1 fun y H2 => y = .int (-1) ∧ r x H2 Q
def revS (z : Str) : Str := ⟨z.cps.toList.reverse.toArray⟩
section
variable {X : Cx} {e k : Expr} {te tk : TE} {pos p2 : Pos}
theorem pe_back {r : V → Hp → VK → Prop} (hr : SlB X r) (he : PE X e te) (hk : PE X k tk) : PE X (.Subscript e (.Slice none none (some k) p2) pos) (tBack r te tk) := by
  refine ⟨fun pins s σ H Q I h => ?_⟩
  refine Subscript_ (thn (he.run pins s σ H _ I h) fun v s1 ⟨x, H1, I1, r1, q1⟩ => ?_)
  refine wpAny_Slice ?_
  rw [evalPart_none, evalPart_some]
  refine wpAny_pure (wpAny_pure ?_)
  refine thn (hk.run pins s1 σ H1 _ I1 q1) fun u s3 ⟨y, H3, I3, r3, q3⟩ => ?_
  obtain ⟨rfl, q⟩ := q3
  obtain ⟨t, rfl⟩ := r3
  have I4 : Inv X pins σ H3 { s3 with heap := s3.heap.push { cls := .type "slice", data := .fields #[.none, .none, .int (-1) t] } } := I3.kept (t' := s3.toks) fun b ob q => Heap.get?_push_of_some _ q
  obtain ⟨T, id, hT, ht, hg⟩ := hr pins { s3 with heap := s3.heap.push { cls := .type "slice", data := .fields #[.none, .none, .int (-1) t] } } σ H3 x v t s3.heap.objs.size Q I4 r1 (Heap.IsSliceOf.new ..) q
  show wpAny (model X.prog X.w) X.A (subscriptTail e (.Slice none none (some k) p2) v (.ref s3.heap.objs.size)) (EP X pins σ Q) X.xe { s3 with heap := s3.heap.push { cls := .type "slice", data := .fields #[.none, .none, .int (-1) t] } }
  exact tail_any (ops := [v, .ref s3.heap.objs.size]) ht hT hg (by with_unfolding_all rfl)
def rBackL (K : PySem.W.Frag) : V → Hp → VK → Prop := fun x H Q => ∃ a xs, x = .ref a ∧ SqL K H a xs ∧ ∀ p, H p = none → Q (.ref p) (upd H p (.lst xs.reverse))
theorem sl_backL : SlB X (rBackL X.K) := by
  intro pins s σ H x v tk sl Q I rx hs h
  obtain ⟨a, xs, rfl, hx, q⟩ := h
  cases rx
  obtain ⟨its, r, ht, hz⟩ := I.list hx
  have hlen := r.length
  refine ⟨"list", _, slot_list_getitem.lookup, ht.isList.typeIs, ?_⟩
  refine wpAny_getItem_list_slice ht.isList hs .none .none (.int (-1) tk) (by decide) ?_ (by rw [List.size_toArray] <;> omega)
  rw [PySem.W.krv_pick]
  refine ⟨.ref s.heap.objs.size, _, I.laid (t' := s.toks) (o := .lst xs.reverse) (fun b ob q => Heap.get?_push_of_some _ q) (Nat.le_refl _) ?_, rfl, q _ (I.hok.fresh (Nat.le_refl _))⟩
  exact ⟨by rw [List.length_reverse]; exact hz, _, 0, r.reverse, Heap.get?_push_size _ rfl⟩
def rBackS : V → Hp → VK → Prop := fun x H Q => ∃ z : Str, x = .str z ∧ z.length ≤ sizeLine ∧ Q (.str (revS z)) H
theorem back_is (x : Str) (u : Tok) : Txt.sliceBy x none none (-1, u) = revS x := by
  have h := step_rev_list x u
  have e : (Txt.sliceBy x none none (-1, u)).cps.toList = x.cps.toList.reverse := by
    rw [h]
    refine List.ext_getElem (by simp [Str.length]) fun i h1 h2 => ?_
    simp only [List.length_map, List.length_range] at h1
    rw [List.getElem_map, List.getElem_range, List.getElem_reverse]
    have hl : x.cps.toList.length = x.length := Array.length_toList
    have : x.length - 1 - i < x.cps.size := by show _ < x.length; omega
    simp [Array.getD, this, hl]
  unfold revS
  rw [← e]
theorem sl_backS : SlB X rBackS := by
  intro pins s σ H x v tk sl Q I rx hs h
  obtain ⟨z, rfl, hz, q⟩ := h
  obtain ⟨t, rfl⟩ := rx
  obtain ⟨os, hos, hcs, hds⟩ := hs
  refine ⟨"str", _, F.slot_str_getitem.lookup, typeIs_str _ _ _, ?_⟩
  refine wpAny_getItem_str_slice (l := none) (u := none) (st := some (-1, tk)) ⟨os, hos, hcs, hds⟩ rfl ?_
  refine post_val_or_str ⟨Nat.le_trans (Txt.sliceBy_le z none none (-1, tk) (show (-1 : Int) ≠ 0 by decide)) hz, fun t' c => ?_⟩
  refine ⟨.str (revS z), H, I.tok _, ⟨t', ?_⟩, q⟩
  show Value.str (Txt.sliceBy z none none (-1, tk)) t' = .str (revS z) t'
  rw [back_is]
end
/-! bool of an own object -/
section
variable {M : Model} {A : Around} {E : Value → Shared → Prop} {s : Shared} {K : PySem.W.Frag} {x C : Addr} {ox : Obj} {od : Option Obj}
theorem truthy_own0 {Q : Bool → Shared → Prop} (X : K.In s.heap) (I : PySem.W.InstAt s.heap x ox C od) (hs : PySem.W.findIn K (.ref C) "__bool__" = some none) (hl : PySem.W.findIn K (.ref C) "__len__" = some none)
    (h : Q true s) : wpAny M A (truthy (.ref x)) Q E s := by
  unfold truthy
  refine wpAny_bind (m := callSpecial? (.ref x) (Str.ofString "__bool__")) (wpAny_bind (wpAny_bind (I.type.here ((PySem.W.looks_findIn X hs).here (wpAny_pure ?_)))))
  refine wpAny_bind (wpAny_bind (I.type.here ((PySem.W.looks_findIn X hl).here ?_)))
  exact wpAny_pure h
theorem meets_bool_own (hs : PySem.W.findIn K (.ref C) "__bool__" = some none) (hl : PySem.W.findIn K (.ref C) "__len__" = some none) :
    Meets (Builtin.«bool.__new__» ⟨[.type "bool", .ref x], []⟩) (fun _ R s => (K.In s.heap ∧ PySem.W.InstAt s.heap x ox C od) ∧ R (.ok (.ret (.bool true))) s) :=
  Meets.of_wp fun prog w A R s hs' => by
    obtain ⟨⟨X, I⟩, hs'⟩ := hs'
    have f1 := F.conv_sub_bool
    repeat (any_goals (first | assumption | (with_reducible refine truthy_own0 X I hs hl ?_) | wp_step))
    all_goals first | exact ⟨_, rfl, hs'⟩ | exact hs' | skip
end
section
variable {X : Cx}
theorem call_boolO : CallR X (.type "bool") (fun xs H Q => ∃ (a C dx : Addr) (fs : List (Str × V)), xs = [.ref a] ∧ H a = some (.ins C dx fs) ∧ PySem.W.findIn X.K (.ref C) "__bool__" = some none ∧ PySem.W.findIn X.K (.ref C) "__len__" = some none ∧ Q (.bl true) H) := by
  intro pins s σ H xs us Q I r h
  obtain ⟨a, C, dx, fs, rfl, ha, h1, h2, q⟩ := h
  rw [Vals.ref1 r]
  obtain ⟨mA, O, _⟩ := ins_get I.hok ha
  obtain ⟨od, J, _⟩ := O.look
  exact call_bool_1 (meets_bool_own h1 h2) ⟨⟨I.kIn, J⟩, rfl, ⟨.bl true, H, I, rfl, q⟩⟩
/-! == and != beside any value -/
/-- the class of a right operand -/
inductive RightT (H : Hp) : V → Value → Prop
  | non : RightT H .non (.type "NoneType")
  | bl (b : Bool) : RightT H (.bl b) (.type "bool")
  | int (i : Int) : RightT H (.int i) (.type "int")
  | str (z : Str) : RightT H (.str z) (.type "str")
  | lst {a : Addr} {xs : List V} (e : H a = some (.lst xs)) : RightT H (.ref a) (.type "list")
  | tup {a : Addr} {xs : List V} (e : H a = some (.tup xs)) : RightT H (.ref a) (.type "tuple")
  | ins {a C dx : Addr} {fs : List (Str × V)} (e : H a = some (.ins C dx fs)) : RightT H (.ref a) (.ref C)
/-- a class with an __eq__ of its own, nothing asked of the right operand -/
structure EqAny (P : Program) (w : World) (K : PySem.W.Frag) (mg : Str → Option Value) (base : Heap) (k : Nat) (C : Addr) (sp : Sp) : Prop where
  go : ∃ (g : Addr) (fd : FuncData) (ps : List Str), PySem.W.findIn K (.ref C) "__eq__" = some (some (.ref g)) ∧ PySem.W.isFn K (.ref g) = true ∧ FnOk P w K mg base CX0 k g fd ps sp ∧ Binds K fd ps []
  ne : PySem.W.findIn K (.ref C) "__ne__" = some (some (.builtin "object.__ne__"))
  obj : PySem.W.mroIn K C (.type "object") = some true
def rEqA (P : Program) (w : World) (K : PySem.W.Frag) (mg : Str → Option Value) (base : Heap) (k : Nat) : R2 := fun x y H Q => ∃ (a C dx : Addr) (fs : List (Str × V)) (sp : Sp) (t : Value), x = .ref a ∧ H a = some (.ins C dx fs) ∧ EqAny P w K mg base k C sp ∧
  RightT H y t ∧ PySem.W.notFirst K C t = true ∧ sp [x, y] H (fun v H' => ∃ b, v = .bl b ∧ Q (.bl b) H') E0
def rNeA (P : Program) (w : World) (K : PySem.W.Frag) (mg : Str → Option Value) (base : Heap) (k : Nat) : R2 := fun x y H Q => ∃ (a C dx : Addr) (fs : List (Str × V)) (sp : Sp) (t : Value), x = .ref a ∧ H a = some (.ins C dx fs) ∧ EqAny P w K mg base k C sp ∧
  RightT H y t ∧ PySem.W.notFirst K C t = true ∧ sp [x, y] H (fun v H' => ∃ b, v = .bl b ∧ Q (.bl (!b)) H') E0
theorem right_any {pins : List (Addr × Obj)} {σ : L2.St} {H : Hp} {s : Shared} {y : V} {u t : Value} (I : Inv X pins σ H s) (ry : RelV y u) (r : RightT H y t) : PySem.W.Looks (model X.prog X.w) s.heap (typeOf u) t := by
  cases r with
  | non => cases ry; exact .of_pure rfl
  | bl b => cases ry; exact .of_pure rfl
  | int i => obtain ⟨t, rfl⟩ := ry; exact .of_pure rfl
  | str z => obtain ⟨t, rfl⟩ := ry; exact .of_pure rfl
  | @lst a xs e =>
    cases (show u = Value.ref a from ry)
    obtain ⟨_, its, n, rv, hg⟩ := (show ObjOk X.prog X.w H s.heap a (.lst xs) from I.hok a _ e)
    exact (PySem.W.Looks.ld hg).andThen .now
  | @tup a xs e =>
    cases (show u = Value.ref a from ry)
    obtain ⟨its, _, ⟨o, ho, hc, _⟩, _⟩ := I.tuple (SqT.of e)
    exact hc ▸ (PySem.W.Looks.ld ho).andThen .now
  | @ins a C dx fs e =>
    cases (show u = Value.ref a from ry)
    obtain ⟨mA, O, _⟩ := ins_get I.hok e
    obtain ⟨od, J, _⟩ := O.look
    exact J.type
variable {k : Nat}
theorem op_eqA (hr : Room k X.A) : OpR X (compareOp .Eq) (rEqA X.prog X.w X.K X.mg X.base k) := by
  intro pins s σ H x y v u Q I rx ry h
  obtain ⟨a, C, dx, fs, sp, t, rfl, ha, T, r, hn, q⟩ := h
  have hb := right_any I ry r
  cases (show v = Value.ref a from rx)
  obtain ⟨g, fd, ps, h1, h2, F, b⟩ := T.go
  obtain ⟨mA, O, _⟩ := ins_get I.hok ha
  obtain ⟨od, J, _⟩ := O.look
  obtain ⟨m, hF⟩ := I.fr
  refine PySem.W.cmp_ofEq (PySem.W.cmp_K (op := .Eq) hr.units0 hF I.ok.mod.kin J hb hn h1 h2 ?_)
  refine wpAny_mono (run_below F hr I.env0 b I (.cons rx (.cons ry .nil)) q) (fun w' s' z => ?_) fun _ _ e => e
  obtain ⟨z', H', I', rz, kk, rfl, qz⟩ := z
  cases (show w' = Value.bool kk from rz)
  exact ⟨.bl kk, H', I', rfl, qz⟩
theorem op_neA (hr : Room (k + 1) X.A) : OpR X (compareOp .NotEq) (rNeA X.prog X.w X.K X.mg X.base k) := by
  intro pins s σ H x y v u Q I rx ry h
  obtain ⟨a, C, dx, fs, sp, t, rfl, ha, T, r, hn, q⟩ := h
  have hb := right_any I ry r
  cases (show v = Value.ref a from rx)
  obtain ⟨g, fd, ps, h1, h2, F, b⟩ := T.go
  obtain ⟨mA, O, _⟩ := ins_get I.hok ha
  obtain ⟨od, J, _⟩ := O.look
  obtain ⟨m, hF⟩ := I.fr
  refine PySem.W.cmp_ofNotEq (ne_K (by have := hr.un; omega) hF I.ok.mod.kin J hb hn T.ne T.obj h1 h2 ?_)
  refine wpAny_mono (run_below F hr.in1 I.env0.in1 b I (.cons rx (.cons ry .nil)) q) (fun w' s' z => ?_) fun _ _ e => e
  obtain ⟨z', H', I', rz, kk, rfl, qz⟩ := z
  cases (show w' = Value.bool kk from rz)
  exact ⟨kk, rfl, .bl (!kk), H', I', rfl, qz⟩
end
end Hx

/-! t[::-1] of a tuple -/
namespace Hx
open PySem PySem.Spec PyProof.Rows L2 HT
section
variable {prog : Program} {w : World} {A : Around} {E : Value → Shared → Prop} {s : Shared}
theorem rev_pick (xs : Array Value) : ((List.range xs.size).filterMap fun (m : Nat) => xs[((xs.size : Int) - 1 + (m : Int) * -1).toNat]?).toArray = xs.toList.reverse.toArray := by
  have e1 : (List.range xs.size).filterMap (fun (m : Nat) => xs[((xs.size : Int) - 1 + (m : Int) * -1).toNat]?) = ((List.range xs.size).map fun m => xs.size - 1 - m).filterMap (fun i => xs[i]?) := by
    rw [List.filterMap_map]
    have : (fun (m : Nat) => xs[((xs.size : Int) - 1 + (m : Int) * -1).toNat]?) = (fun i => xs[i]?) ∘ fun m => xs.size - 1 - m := funext fun m => by
      show _ = xs[xs.size - 1 - m]?
      have : ((xs.size : Int) - 1 + (m : Int) * -1).toNat = xs.size - 1 - m := by omega
      rw [this]
    rw [this]
  have e2 : (List.range xs.size).map (fun m => xs.size - 1 - m) = (List.range xs.size).reverse := by
    refine List.ext_getElem (by simp) fun i h1 h2 => ?_
    simp only [List.length_map, List.length_range] at h1
    rw [List.getElem_map, List.getElem_range, List.getElem_reverse, List.getElem_range, List.length_range]
  rw [e1, e2, List.filterMap_reverse, PySem.W.krv_all]
theorem places_rev (n : Nat) : Builtin.Slice.slicePlaces ((n : Int) - 1) (-1) (-1) = n := by
  unfold Builtin.Slice.slicePlaces
  have h1 : ¬ ((-1 : Int) > 0) := by omega
  simp only [h1, if_false]
  rw [show (- -1 : Int) = 1 by decide, Int.ediv_one]
  split <;> omega
theorem sliceApplied_rev {sl : Addr} {n : Nat} {t : Tok} {Q : Int × Int × Nat → Shared → Prop} (hs : s.heap.IsSliceOf sl .none .none (.int (-1) t))
    (h : Q ((n : Int) - 1, -1, n) s) : wpAny (model prog w) A (Builtin.Slice.sliceApplied (.ref sl) (pure (n : Int))) Q E s := by
  obtain ⟨os, hos, hcs, hds⟩ := id hs
  unfold Builtin.Slice.sliceApplied Builtin.Slice.sliceFields
  refine wpAny_bind (wpAny_bind (wpAny_field hos hds (x := .none) rfl (wpAny_bind (wpAny_field hos hds (x := .none) rfl (wpAny_bind (wpAny_field hos hds (x := .int (-1) t) rfl (wpAny_pure ?_)))))))
  refine wpAny_bind (slicePart_int ?_)
  show wpAny _ _ (if ((-1 : Int) == 0) = true then _ else _) _ _ s
  rw [if_neg (by decide)]
  refine wpAny_bind (slicePart_none (wpAny_bind (slicePart_none (wpAny_bind (wpAny_pure ?_)))))
  show wpAny _ _ (pure ((n : Int) - 1, (-1 : Int), Builtin.Slice.slicePlaces ((n : Int) - 1) (-1) (-1))) _ _ s
  rw [places_rev]
  exact wpAny_pure h
theorem getItem_tuple_rev {t sl : Addr} {items : Array Value} {tk : Tok} {Q : Value → Shared → Prop} (ht : IsTup s.heap t items) (hs : s.heap.IsSliceOf sl .none .none (.int (-1) tk))
    (h : Q (.ref s.heap.objs.size) { s with heap := s.heap.push { cls := .type "tuple", data := .seq items.toList.reverse.toArray } })
    (hsz : items.size ≤ sizeLine) : wpAny (model prog w) A (getItem (.ref t) (.ref sl)) Q E s := by
  have htake : sizeOk (.seq items.toList.reverse.toArray) := by
    show items.toList.reverse.toArray.size ≤ sizeLine
    rw [List.size_toArray, List.length_reverse, Array.length_toList]
    exact hsz
  obtain ⟨os, hos, hcs, hds⟩ := id hs
  have hTs : s.TypeIs (.ref sl) "slice" := ⟨os, hos, hcs⟩
  unfold getItem
  try with_reducible refine wpAny_holding ?_
  first | refine wpAny_bind (wpAny_pure ?_) | skip
  refine wpAny_bind (wpAny_sequenceKey ht.typeIs (by decide) ?_)
  refine wpAny_bind (wpAny_callSpecial?_slot (name := Str.ofString "__getitem__") ht.typeIs PyProof.Rows.slot_tuple_getitem
    (wpAny_call_entry PyProof.Rows.slot_tuple_getitem ht.typeIs entry_tuple_getitem ?_ (args_tuple_getitem _ _)))
  show wpAny _ _ (Builtin.Tuple.tupleItemsOf (.ref t) >>= _) _ _ s
  refine wpAny_bind (tupleItemsOf_ ht ?_)
  refine wpAny_bind (wpAny_typeOf hTs ?_)
  rw [if_pos (by decide)]
  refine wpAny_bind (sliceApplied_rev hs ?_)
  have hno : ¬ ((((items.size : Int) - 1) == 0 && (-1 : Int) == 1 && items.size == items.size) = true) := by
    intro q
    rw [Bool.and_eq_true, Bool.and_eq_true] at q
    exact absurd (eq_of_beq q.1.2) (by decide)
  show wpAny _ _ (if (((items.size : Int) - 1) == 0 && (-1 : Int) == 1 && items.size == items.size) = true then _ else _) _ _ s
  rw [if_neg hno, rev_pick]
  first
    | exact wpAny_bind (m := Builtin.Tuple.tupleExact _) (wpAny_newObj_type (wpAny_pure ⟨_, rfl, wpAny_pure h⟩) htake)
    | exact wpAny_bind (m := Builtin.Tuple.tupleExact _) (wpAny_newObj_type (wpAny_bind (wpAny_pure (wpAny_pure ⟨_, rfl, wpAny_pure h⟩))) htake)
    | exact wpAny_bind (wpAny_bind (m := Builtin.Tuple.tupleExact _) (wpAny_newObj_type (wpAny_pure (wpAny_pure ⟨_, rfl, wpAny_pure h⟩)) htake))
    | exact wpAny_bind (wpAny_bind (m := Builtin.Tuple.tupleExact _) (wpAny_newObj_type (wpAny_pure ⟨_, rfl, wpAny_pure h⟩) htake))
end
section
variable {X : Cx}
def rBackT (K : PySem.W.Frag) : V → Hp → VK → Prop := fun x H Q => ∃ a xs, x = .ref a ∧ SqT K H a xs ∧ ∀ p, H p = none → Q (.ref p) (upd H p (.tup xs.reverse))
theorem sl_backT : SlB X (rBackT X.K) := by
  intro pins s σ H x v tk sl Q I rx hs h
  obtain ⟨a, xs, rfl, hx, q⟩ := h
  cases rx
  obtain ⟨its, r, ht, hz⟩ := I.tuple hx
  have hlen : its.toArray.size = xs.length := by rw [List.size_toArray]; exact r.length.symm
  refine ⟨"tuple", _, PyProof.Rows.slot_tuple_getitem.lookup, ht.typeIs, ?_⟩
  refine getItem_tuple_rev ht hs ?_ (by rw [hlen]; exact hz)
  refine ⟨.ref s.heap.objs.size, _, I.laid (t' := s.toks) (o := .tup xs.reverse) (fun b ob q => Heap.get?_push_of_some _ q) (Nat.le_refl _) ?_, rfl, q _ (I.hok.fresh (Nat.le_refl _))⟩
  exact ⟨by rw [List.length_reverse]; exact hz, _, r.reverse, IsTup.new _ _⟩
end
end Hx

/-! del xs[a:]; xs.extend(tuple); C(*ys) -/
namespace Hx
open PySem PySem.Spec PyProof.Rows L2
section
variable {prog : Program} {w : World} {A : Around} {E : Value → Shared → Prop} {s : Shared}
theorem filt_take {F : Nat → Bool} {a : Nat} : ∀ (l : List Value) (k : Nat), (∀ i, k ≤ i → i < k + l.length → F i = decide (a ≤ i)) → (l.zipIdx k).filterMap (fun (p : Value × Nat) => if F p.2 then none else some p.1) = l.take (a - k)
  | [], k, _ => by simp
  | x :: r, k, h => by
    rw [List.zipIdx_cons, List.filterMap_cons]
    have e := h k (Nat.le_refl _) (by rw [List.length_cons]; omega)
    have ih := filt_take (F := F) (a := a) r (k + 1) fun i h1 h2 => h i (by omega) (by rw [List.length_cons]; omega)
    dsimp only
    rw [e, ih]
    by_cases c : a ≤ k
    · rw [decide_eq_true c, show a - k = 0 by omega, show a - (k + 1) = 0 by omega]
      simp
    · rw [decide_eq_false c, show a - k = (a - (k + 1)) + 1 by omega]
      simp
theorem bounds_tail {a n : Nat} (hac : a ≤ n) : sliceBounds (some (a : Int)) none none n = ((a : Int), (n : Int), 1) := by
  simp only [sliceBounds, Option.getD_none]
  have h1 : ¬ ((a : Int) < 0) := by omega
  simp only [h1, if_false, show (1 : Int) > 0 by decide, if_true]
  first
    | (congr 1; omega)
    | (congr 1
       · omega)
set_option maxRecDepth 100000 in
theorem delItem_tail {l sl : Addr} {items : Array Value} {n : Nat} {vl : Value} {a : Nat} {Q : Unit → Shared → Prop}
    (e : s.heap.get? l = some { cls := .type "list", data := .seq items n }) (hs : s.heap.IsSliceOf sl vl .none .none) (pl : IsPart vl (some (a : Int))) (ha : a ≤ items.size)
    (hsz : items.size ≤ sizeLine) (h : ∀ F : Array Value → Array Value, F items = (items.toList.take a).toArray → Q () { s with heap := s.heap.update l (Obj.mapSeq F) }) :
    wpAny (model prog w) A (delItem (.ref l) (.ref sl)) Q E s := by
  have hl : s.heap.IsList l items := PySem.IsL.isList e
  obtain ⟨os, hos, hcs, hds⟩ := id hs
  have hTs : s.TypeIs (.ref sl) "slice" := ⟨os, hos, hcs⟩
  have hstep : ¬ ((rawPart none == rawInt 0) = true) := Bool.false_ne_true
  refine PySem.wpAny_delItem_slot hl.typeIs (by decide) F.slot_list_delitem (wpAny_call_entry F.slot_list_delitem hl.typeIs F.entry_list_delitem ?_ (F.args_list_delitem_2 _ _))
  show wpAny _ _ (Builtin.List.listSubscript? (.ref sl) >>= _) _ _ s
  refine wpAny_bind ?_
  unfold Builtin.List.listSubscript?
  refine wpAny_bind (wpAny_specialOf hTs slice_no_index ?_)
  simp only [Option.isNone_none, if_true]
  refine wpAny_pure ?_
  show wpAny _ _ (typeOf (.ref sl) >>= _) _ _ s
  refine wpAny_bind (wpAny_typeOf hTs ?_)
  first
    | rw [if_neg (by decide)]
    | refine PySem.W.KFB.if_not (by decide) ?_
  rw [listSliceParts_eq]
  refine wpAny_bind (wpAny_bind (wpAny_field hos hds (x := .none) rfl (wpAny_bind (wpAny_listPart .none ?_))))
  rw [if_neg hstep]
  refine wpAny_bind (wpAny_field hos hds (x := vl) rfl (wpAny_bind (wpAny_listPart pl ?_)))
  refine wpAny_bind (wpAny_field hos hds (x := .none) rfl (wpAny_bind (wpAny_listPart .none (wpAny_pure ?_))))
  dsimp only
  unfold Builtin.List.listItems
  refine wpAny_bind (wpAny_bind (wpAny_seqItems e rfl (wpAny_pure ?_)))
  refine wpAny_bind (wpAny_of_eq ((sliceIndices_raw (some (a : Int)) none none items.size (by simp)).trans (congrArg (pure : Int × Int × Int → Sem (Int × Int × Int)) (bounds_tail ha))) ?_)
  refine wpAny_bind (wpAny_rule ?_)
  dsimp only
  have key : ∀ F : Nat → Bool, (∀ i, i < items.size → F i = decide (a ≤ i)) → (List.filterMap (fun x : Value × Nat => if F x.snd = true then none else some x.fst) items.toList.zipIdx).toArray = (items.toList.take a).toArray := fun F hF => by
    rw [filt_take (F := F) (a := a) items.toList 0 fun i _ h2 => hF i (by rw [Array.length_toList] at h2; omega)]
    rfl
  refine wpAny_bind (wpAny_updateSeq (hz := hsz) (_hz' := ?_) e rfl ?_)
  · refine wpAny_bind (wpAny_letGo ?_)
    refine wpAny_pure ⟨.none, rfl, h _ ?_⟩
    refine key _ fun i hi => ?_
    show (if (1 : Int) > 0 then (decide ((a : Int) ≤ (i : Int)) && decide ((i : Int) < (items.size : Int)) && (((i : Int) - (a : Int)) % 1 == 0)) else _) = _
    rw [if_pos (by decide), Int.emod_one, decide_eq_true (show (i : Int) < (items.size : Int) by omega), Bool.and_true]
    simp
  · refine Nat.le_trans (Nat.le_of_eq (congrArg Array.size (key _ fun i hi => ?_))) ?_
    · show (if (1 : Int) > 0 then (decide ((a : Int) ≤ (i : Int)) && decide ((i : Int) < (items.size : Int)) && (((i : Int) - (a : Int)) % 1 == 0)) else _) = _
      rw [if_pos (by decide), Int.emod_one, decide_eq_true (show (i : Int) < (items.size : Int) by omega), Bool.and_true]
      simp
    · rw [List.size_toArray, List.length_take, Array.length_toList]
      omega
end
section
variable {X : Cx}
/-- del xs[a:] at the value level -/
theorem del_tail {pins : List (Addr × Obj)} {s : Shared} {σ : L2.St} {H : Hp} {l sl : Addr} {xs : List V} {a : Int} {vl : Value} {Q : Unit → Shared → Prop} (I : Inv X pins σ H s)
    (hH : H l = some (.lst xs)) (hs : s.heap.IsSliceOf sl vl .none .none) (ra : IsPart vl (some a)) (h0 : 0 ≤ a) (hac : a ≤ xs.length)
    (h : ∀ s', Inv X pins σ (upd H l (.lst (xs.take a.toNat))) s' → Q () s') : wpAny (model X.prog X.w) X.A (delItem (.ref l) (.ref sl)) Q X.xe s := by
  obtain ⟨z, its, n, r, hl, e⟩ := I.lstM hH
  obtain ⟨a', rfl⟩ := Int.eq_ofNat_of_zero_le h0
  simp only [Int.toNat_natCast] at h
  refine delItem_tail (a := a') e hs ra (by rw [List.size_toArray]; omega) (by rw [List.size_toArray]; omega) fun F hF => h _ ?_
  refine I.lset (its' := its.take a') (t' := s.toks) hH e hF (r.take _) ?_
  rw [List.length_take]
  omega
def tDelTail (to ti : TE) : TS := fun D σ H => to σ H fun x H1 => tPart ti σ H1 fun k H2 => ∃ (a : Int) (l : Addr) (xs : List V), k = some a ∧ x = .ref l ∧ H2 l = some (.lst xs) ∧ 0 ≤ a ∧ a ≤ (xs.length : Int) ∧ D.nx σ (upd H2 l (.lst (xs.take a.toNat)))
/-- del xs[a:] -/
theorem ps_delTail {o i : Expr} {to ti : TE} {pos tpos p2 : Pos} (ho : PE X o to) (hi : PE X i ti) : PS X (.Delete [.Subscript o (.Slice (some i) none none p2) tpos] pos) (tDelTail to ti) := by
  refine ⟨fun pins s σ H D I h => ?_⟩
  refine wpAny_Delete (wpAny_deleteEach_cons (wpAny_delete_Subscript (thn (ho.run pins s σ H _ I h) fun u s1 ⟨x, H1, I1, rx, q1⟩ => ?_)))
  refine wpAny_Slice (thn ((po_some hi).run pins s1 σ H1 _ I1 q1) fun vl s2 ⟨k, H2, I2, pl, q2⟩ => ?_)
  obtain ⟨a, l, xs, rfl, rfl, hH, h0, h1, q⟩ := q2
  cases (show u = Value.ref l from rx)
  rw [evalPart_none]
  refine wpAny_pure ?_
  refine wpAny_pure ?_
  have I4 : Inv X pins σ H2 { s2 with heap := s2.heap.push { cls := .type "slice", data := .fields #[vl, .none, .none] } } := I2.kept (t' := s2.toks) fun b ob q => Heap.get?_push_of_some _ q
  exact del_tail I4 hH (Heap.IsSliceOf.new ..) pl h0 h1 fun s' I' => wpAny_deleteEach_nil ⟨σ, _, I', q⟩
/-- xs.extend(tuple) -/
def rExtendT : V → List V → Hp → VK → Prop := fun x vs H Q => ∃ l b xs zs, x = .ref l ∧ vs = [.ref b] ∧ H l = some (.lst xs) ∧ H b = some (.tup zs) ∧ xs.length + zs.length ≤ sizeLine ∧ Q .non (upd H l (.lst (xs ++ zs)))
theorem mt_extendT : MtM X "list.extend" rExtendT := by
  intro pins s σ H x vs v us Q I rx rv h
  obtain ⟨l, b, xs, zs, rfl, rfl, hH, hB, hz, q⟩ := h
  cases rx
  obtain ⟨u, rfl, ru⟩ := rv.one
  cases ru
  obtain ⟨z, its, n, r, hl, e⟩ := I.lstM hH
  obtain ⟨its2, r2, ⟨o, ho, hc, n2, hd⟩, hl2⟩ := I.tuple (SqT.of hB)
  have e2l := r2.length
  have e1l := r.length
  have hll : s.heap.IsList l its.toArray := PySem.IsL.isList e
  have hsz : its.toArray.size + its2.toArray.size ≤ sizeLine := by rw [List.size_toArray, List.size_toArray]; omega
  have hTb : s.TypeIs (.ref b) "tuple" := ⟨o, ho, hc⟩
  refine wpAny_call_entry F.slot_list_extend hll.typeIs F.entry_list_extend ?_ (F.args_list_extend_2 _ _)
  show wpAny _ _ (Builtin.List.listExtendWith (.ref l) (.ref b) .none) _ _ s
  unfold Builtin.List.listExtendWith
  refine wpAny_bind (wpAny_typeOf hTb ?_)
  rw [if_pos (by simp)]
  unfold Builtin.List.listItems
  refine wpAny_bind (wpAny_bind (wpAny_seqItems ho hd (wpAny_pure ?_)))
  refine wpAny_bind (wpAny_bind (wpAny_seqItems e rfl (wpAny_pure ?_)))
  have hlong : ¬ ((!its.toArray.isEmpty && Builtin.List.listTooLong (its.toArray.size + its2.toArray.size)) = true) := by
    rw [notLongL hsz, Bool.and_false]
    exact Bool.false_ne_true
  rw [if_neg hlong]
  refine wpAny_bind (wpAny_updateSeq (hz := by rw [List.size_toArray]; omega) (_hz' := by rw [Array.size_append]; omega) e rfl ?_)
  refine wpAny_bind (wpAny_pure (wpAny_pure ?_))
  refine ⟨.none, rfl, .non, _, I.lset (its' := its ++ its2) hH e (by simp) (r.append r2) ?_, rfl, q⟩
  rw [List.length_append]
  omega
end
section
variable {X : Cx} {CX : CXT} {k : Nat} {f C : Addr} {sp : Sp} {E : XK} {x : Str} {e : Expr} {te : TE} {p sp_ pos : Pos}
/-- C(*ys) -/
theorem pe_makeS (M : Mk X.K C f) (F : FnR X.prog X.w X.K X.mg X.base CX k f sp) (hr : Room (k + 1) X.A) (hg : Gl X x) (hm : X.mg x = some (.ref C)) (hx : Passes CX X E) (he : PE X e te) (hd : (x == ("__debug__" : Str)) = false := by decide)
    (hst : starEach [.Starred e sp_] X.env = [(true, eval e X.env)] := by rfl) :
    PE X (.Call (.Name x p) [.Starred e sp_] [] pos) (fun σ H Q => te σ H fun y H1 => ∃ a xs, y = V.ref a ∧ (SqT X.K H1 a xs ∨ SqL X.K H1 a xs) ∧ ∀ x dx, H1 x = Option.none → H1 dx = Option.none → dx ≠ x →
      sp (V.ref x :: xs) (upd (upd H1 dx (.own x)) x (.ins C dx [])) (fun v H2 => v = .non ∧ Q (.ref x) H2) E) := by
  refine ⟨fun pins s σ H Q I h => ?_⟩
  refine wpAny_Call_Name_kw (ld_glob I hg hm ?_ hd)
  refine PySem.W.callWith_S (h₀ := X.base) I.ok.mod.kin M.kp (thn (he.run pins s σ H _ I h) fun v s1 ⟨y, H1, I1, ry, a, xs, ey, hxs, q⟩ => ?_) hst
  subst ey
  obtain rfl : v = Value.ref a := ry
  exact StX.star_any I1 hxs fun us s2 I2 rv => ⟨I2.kIn, StX.run_makeR M F hr hx I2 rv q⟩
end
end Hx

namespace L2
open PySem PySem.Spec PyProof.Rows
/-! what is never reached needs no rule -/
def nE : TE := fun _ _ _ => False
def nT : TT := fun _ _ _ => False
def nA : TA := fun _ _ _ => False
def nS : TS := fun _ _ _ => False
section
variable {X : Cx} {e : Expr} {es : List Expr} {st : Stmt} {b : List Stmt}
theorem pe_no : PE X e nE := ⟨fun _ _ _ _ _ _ h => h.elim⟩
theorem pt_no : PT X e nT := ⟨fun _ _ _ _ _ _ h => h.elim⟩
theorem pw_no : PW X e nT := ⟨fun _ _ _ _ _ _ _ h => h.elim⟩
theorem ps_no : PS X st nS := ⟨fun _ _ _ _ _ _ h => h.elim⟩
theorem pss_no : PSs X b nS := ⟨fun _ _ _ _ _ _ h => h.elim⟩
end
/-! loops of no turn and of one -/
section
variable {J : It} {g : TG} {tb : TS} {D : Ends} {σ : St} {H : Hp}
theorem for_it0 (hst : J.stop 0 H) (hd : D.nx σ H) : ∃ W : Nat → Nat → St → Hp → Prop, (∃ m, W 0 m σ H) ∧ ∀ i m σ H, W i m σ H →
    (J.stop i H ∧ D.nx σ H) ∨ (J.go i H ∧ ∃ N : St → Hp → Prop, (∀ σ' H', N σ' H' → ∃ m', m' < m ∧ W (i + 1) m' σ' H') ∧ ∀ x H', J.yld i H x H' → g x σ H' fun σ2 H2 => tb { D with nx := N, ct := N, bk := D.nx } σ2 H2) := by
  refine ⟨fun i m σ' H' => i = 0 ∧ σ' = σ ∧ H' = H, ⟨0, rfl, rfl, rfl⟩, ?_⟩
  rintro i m σ' H' ⟨rfl, rfl, rfl⟩
  exact .inl ⟨hst, hd⟩
theorem for_it1 (Jv : St → Hp → Prop) (hgo : J.go 0 H) (hy : ∀ x H', J.yld 0 H x H' → g x σ H' fun σ2 H2 => tb { D with nx := Jv, ct := Jv, bk := D.nx } σ2 H2) (hst : ∀ σ' H', Jv σ' H' → J.stop 1 H' ∧ D.nx σ' H') :
    ∃ W : Nat → Nat → St → Hp → Prop, (∃ m, W 0 m σ H) ∧ ∀ i m σ H, W i m σ H →
    (J.stop i H ∧ D.nx σ H) ∨ (J.go i H ∧ ∃ N : St → Hp → Prop, (∀ σ' H', N σ' H' → ∃ m', m' < m ∧ W (i + 1) m' σ' H') ∧ ∀ x H', J.yld i H x H' → g x σ H' fun σ2 H2 => tb { D with nx := N, ct := N, bk := D.nx } σ2 H2) := by
  refine ⟨fun i m σ' H' => (i = 0 ∧ m = 1 ∧ σ' = σ ∧ H' = H) ∨ (i = 1 ∧ m = 0 ∧ Jv σ' H'), ⟨1, .inl ⟨rfl, rfl, rfl, rfl⟩⟩, ?_⟩
  rintro i m σ' H' (⟨rfl, rfl, rfl, rfl⟩ | ⟨rfl, rfl, j⟩)
  · exact .inr ⟨hgo, Jv, fun σ2 H2 j => ⟨0, by decide, .inr ⟨rfl, rfl, j⟩⟩, hy⟩
  · exact .inl (hst σ' H' j)
end
section
variable {J : It} {g : TG} {tt : TT} {te tk tv : TE} {vs : List Nat} {σ : St} {H1 : Hp} {D : Addr} {Qd : Hp → Prop}
theorem lc_it0 (hst : J.stop 0 (upd H1 D (.lst []))) (hd : Qd (upd H1 D (.lst []))) : ∃ W : Nat → Nat → Hp → Prop, (∃ m, W 0 m (upd H1 D (.lst []))) ∧ ∀ i m H, W i m H →
      (J.stop i H ∧ Qd H) ∨ (J.go i H ∧ ∃ Nx : Hp → Prop, (∀ H', Nx H' → ∃ m', m' < m ∧ W (i + 1) m' H') ∧ ∀ x H', J.yld i H x H' → g x (wipe σ vs) H' fun σ2 H2 => wipe σ2 vs = wipe σ vs ∧ tt σ2 H2 fun b H3 =>
        if b = true then te σ2 H3 fun y H4 => ∃ acc, H4 D = some (.lst acc) ∧ acc.length < sizeLine ∧ Nx (upd H4 D (.lst (acc ++ [y]))) else Nx H3) := by
  refine ⟨fun i m H' => i = 0 ∧ H' = upd H1 D (.lst []), ⟨0, rfl, rfl⟩, ?_⟩
  rintro i m H' ⟨rfl, rfl⟩
  exact .inl ⟨hst, hd⟩
theorem lc_it1 (Jv : Hp → Prop) (hgo : J.go 0 (upd H1 D (.lst []))) (hy : ∀ x H', J.yld 0 (upd H1 D (.lst [])) x H' → g x (wipe σ vs) H' fun σ2 H2 => wipe σ2 vs = wipe σ vs ∧ tt σ2 H2 fun b H3 =>
        if b = true then te σ2 H3 fun y H4 => ∃ acc, H4 D = some (.lst acc) ∧ acc.length < sizeLine ∧ Jv (upd H4 D (.lst (acc ++ [y]))) else Jv H3) (hst : ∀ H', Jv H' → J.stop 1 H' ∧ Qd H') :
    ∃ W : Nat → Nat → Hp → Prop, (∃ m, W 0 m (upd H1 D (.lst []))) ∧ ∀ i m H, W i m H →
      (J.stop i H ∧ Qd H) ∨ (J.go i H ∧ ∃ Nx : Hp → Prop, (∀ H', Nx H' → ∃ m', m' < m ∧ W (i + 1) m' H') ∧ ∀ x H', J.yld i H x H' → g x (wipe σ vs) H' fun σ2 H2 => wipe σ2 vs = wipe σ vs ∧ tt σ2 H2 fun b H3 =>
        if b = true then te σ2 H3 fun y H4 => ∃ acc, H4 D = some (.lst acc) ∧ acc.length < sizeLine ∧ Nx (upd H4 D (.lst (acc ++ [y]))) else Nx H3) := by
  refine ⟨fun i m H' => (i = 0 ∧ m = 1 ∧ H' = upd H1 D (.lst [])) ∨ (i = 1 ∧ m = 0 ∧ Jv H'), ⟨1, .inl ⟨rfl, rfl, rfl⟩⟩, ?_⟩
  rintro i m H' (⟨rfl, rfl, rfl⟩ | ⟨rfl, rfl, j⟩)
  · exact .inr ⟨hgo, Jv, fun H2 j => ⟨0, by decide, .inr ⟨rfl, rfl, j⟩⟩, hy⟩
  · exact .inl (hst H' j)
theorem dc_it1 (Jv : Hp → Prop) (hgo : J.go 0 (upd H1 D (.dK []))) (hy : ∀ x H', J.yld 0 (upd H1 D (.dK [])) x H' → g x (wipe σ vs) H' fun σ2 H2 => wipe σ2 vs = wipe σ vs ∧ tt σ2 H2 fun b H3 =>
        if b = true then tk σ2 H3 fun y H4 => tv σ2 H4 fun z H5 => ∃ kvs k, y = kV k ∧ H5 D = some (.dK kvs) ∧ kvs.length < sizeLine ∧ Jv (upd H5 D (.dK (putK kvs k z))) else Jv H3) (hst : ∀ H', Jv H' → J.stop 1 H' ∧ Qd H') :
    ∃ W : Nat → Nat → Hp → Prop, (∃ m, W 0 m (upd H1 D (.dK []))) ∧ ∀ i m H, W i m H →
      (J.stop i H ∧ Qd H) ∨ (J.go i H ∧ ∃ Nx : Hp → Prop, (∀ H', Nx H' → ∃ m', m' < m ∧ W (i + 1) m' H') ∧ ∀ x H', J.yld i H x H' → g x (wipe σ vs) H' fun σ2 H2 => wipe σ2 vs = wipe σ vs ∧ tt σ2 H2 fun b H3 =>
        if b = true then tk σ2 H3 fun y H4 => tv σ2 H4 fun z H5 => ∃ kvs k, y = kV k ∧ H5 D = some (.dK kvs) ∧ kvs.length < sizeLine ∧ Nx (upd H5 D (.dK (putK kvs k z))) else Nx H3) := by
  refine ⟨fun i m H' => (i = 0 ∧ m = 1 ∧ H' = upd H1 D (.dK [])) ∨ (i = 1 ∧ m = 0 ∧ Jv H'), ⟨1, .inl ⟨rfl, rfl, rfl⟩⟩, ?_⟩
  rintro i m H' (⟨rfl, rfl, rfl⟩ | ⟨rfl, rfl, j⟩)
  · exact .inr ⟨hgo, Jv, fun H2 j => ⟨0, by decide, .inr ⟨rfl, rfl, j⟩⟩, hy⟩
  · exact .inl (hst H' j)
end
section
variable {K : PySem.W.Frag} {H H' : Hp} {a d : Addr} {x y v : V} {xs : List V} {i : Nat} {o : Obj} {k : Key}
theorem itl_go (h : SqL K H a [x]) : (Itl K a).go 0 H := ⟨_, x, h, rfl⟩
theorem itl_y (h : SqL K H a [x]) (z : (Itl K a).yld 0 H y H') : y = x ∧ H' = H := ⟨(Option.some.inj (z.2 _ h)).symm, z.1⟩
theorem itl_stop (h : SqL K H a xs) (l : xs.length ≤ i) : (Itl K a).stop i H := ⟨_, h, l⟩
theorem itt_go (h : SqT K H a [x]) : (Itt K a).go 0 H := ⟨_, x, h, rfl⟩
theorem itt_y (h : SqT K H a [x]) (z : (Itt K a).yld 0 H y H') : y = x ∧ H' = H := ⟨(Option.some.inj (z.2 _ h)).symm, z.1⟩
theorem itt_stop (h : SqT K H a xs) (l : xs.length ≤ i) : (Itt K a).stop i H := ⟨_, h, l⟩
theorem itk_go (h : H d = some (.frz o (.dK [(k, v)]))) : (Itk d o [(k, v)]).go 0 H := ⟨h, by show 0 < 1; decide⟩
theorem itk_y (z : (Itk d o [(k, v)]).yld 0 H y H') : y = kV k ∧ H' = H := by
  obtain ⟨e, k2, v2, e2, e3⟩ := z
  cases e2
  exact ⟨e3, e⟩
theorem itk_stop (h : H d = some (.frz o (.dK [(k, v)]))) : (Itk d o [(k, v)]).stop 1 H := ⟨h, by show 1 ≤ 1; decide⟩
end
end L2
namespace Wp
open PySem PySem.Spec PyProof.Rows L2 Hx
/-! the law's one book: a row that is one handed name -/
/-- the expression x -/
def NmAt (CF : Addr) (cls : Addr → Prop) (H : Hp) (a : Addr) : Prop := ∃ C, XpAt CF cls H a C "name" "x" [.str "x"] [] ["x"] 1
theorem NmAt.same {CF : Addr} {cls : Addr → Prop} {H H' : Hp} {a : Addr} (h : NmAt CF cls H a) (s : Same H H') : NmAt CF cls H' a := by
  obtain ⟨C, h⟩ := h
  exact ⟨C, h.same s⟩
section
variable {P : Program} {w : World} {K : PySem.W.Frag} {mg : Str → Option Value} {base : Heap} {CF : Addr} {cls : Addr → Prop} {H : Hp} {a : Addr} {Q : VK}
/-- what it tells of itself -/
def PropT (P : Program) (w : World) (K : PySem.W.Frag) (mg : Str → Option Value) (base : Heap) (f : Str) (x : V) (H : Hp) (Q : VK) : Prop := ∃ (a C dx : Addr) (fs : List (Str × V)) (sp : Sp), x = .ref a ∧ H a = some (.ins C dx fs) ∧ PropBy P w K mg base 1 C f sp ∧ sp [.ref a] H Q E0
theorem nm_kind (L : Kls P w K mg base CF cls) (h : NmAt CF cls H a) (q : Q (.str "name") H) : PropT P w K mg base "kind" (.ref a) H Q := by
  obtain ⟨C, dx, fa, dfa, pm, pi, pl, hC, g1, g2, g3, g4, g5⟩ := h
  exact ⟨a, C, dx, _, spGet C CF "word", rfl, g1, L.get _ hC "kind" "word" (by simp), a, dx, fa, dfa, _, _, .str "name", rfl, g1, rfl, g2, rfl, q⟩
theorem nm_inner (L : Kls P w K mg base CF cls) (h : NmAt CF cls H a) (q : ∀ pi, H pi = some (.tup []) → Q (.ref pi) H) : PropT P w K mg base "inner" (.ref a) H Q := by
  obtain ⟨C, dx, fa, dfa, pm, pi, pl, hC, g1, g2, g3, g4, g5⟩ := h
  exact ⟨a, C, dx, _, spGet C CF "parts", rfl, g1, L.get _ hC "inner" "parts" (by simp), a, dx, fa, dfa, _, _, .ref pi, rfl, g1, rfl, g2, rfl, q pi g4⟩
theorem nm_told (L : Kls P w K mg base CF cls) (h : NmAt CF cls H a) (q : ∀ pm, H pm = some (.tup [.str "x"]) → Q (.ref pm) H) : PropT P w K mg base "told" (.ref a) H Q := by
  obtain ⟨C, dx, fa, dfa, pm, pi, pl, hC, g1, g2, g3, g4, g5⟩ := h
  exact ⟨a, C, dx, _, spGet C CF "marks", rfl, g1, L.get _ hC "told" "marks" (by simp), a, dx, fa, dfa, _, _, .ref pm, rfl, g1, rfl, g2, rfl, q pm g3⟩
theorem nm_knots (L : Kls P w K mg base CF cls) (h : NmAt CF cls H a) (q : Q (.int 1) H) : PropT P w K mg base "knots" (.ref a) H Q := by
  obtain ⟨C, dx, fa, dfa, pm, pi, pl, hC, g1, g2, g3, g4, g5⟩ := h
  exact ⟨a, C, dx, _, spGet C CF "size", rfl, g1, L.get _ hC "knots" "size" (by simp), a, dx, fa, dfa, _, _, .int 1, rfl, g1, rfl, g2, rfl, q⟩
end
/-! knots_of, first_unknown, knot_fits, fits -/
def spKnots (CF : Addr) (cls : Addr → Prop) : Sp := fun vs H Q _ => ∃ a, vs = [.ref a] ∧ NmAt CF cls H a ∧ ∀ p H', Same H H' → H' p = some (.lst [.ref a]) → Q (.ref p) H'
theorem scKnots : FnScope ["expression", "found", "waiting", "knot"] ["expression"] (defScope s_knots_of) := ⟨rfl, rfl, rfl, by decide +kernel, rfl, by decide +kernel, by decide +kernel⟩
section
variable {P : Program} {w : World} {K : PySem.W.Frag} {mg : Str → Option Value} {base : Heap} {f fK fN CF : Addr} {fd fdK fdN : FuncData} {cls : Addr → Prop}
theorem ok_knots (F : Fun K "knots_of" "knots_of" s_knots_of f fd) (L : Kls P w K mg base CF cls) : FnOk P w K mg base CX0 3 f fd ["expression"] (spKnots CF cls) := by
  refine F.ok scKnots (fun vs H Q E h => ?_) (fun cdv A outer s H vs Q E hr h => ?_)
  · obtain ⟨a, rfl, _⟩ := h
    rfl
  obtain ⟨a, rfl, nm, q⟩ := h
  refine ⟨_, pss_cons (ps_set (i := 1) scKnots.nd rfl (Or.inl rfl) (pe_lst pa_nil))
    (pss_cons (ps_set (i := 2) scKnots.nd rfl (Or.inl rfl) (pe_lst (pa_cons (pv 0) pa_nil)))
    (pss_cons (ps_while PassesOwn.never (pt_truth (pv 2) (fun _ => rfl))
      (pss_cons (ps_set (i := 3) scKnots.nd rfl (Or.inl rfl) (pe_bm0 PySem.F.plainAttrs_list PySem.F.slot_list_pop PySem.F.type_list_pop mt_pop (pv 2)))
      (pss_cons (ps_expr (pe_bm PySem.F.plainAttrs_list PySem.F.slot_list_append PySem.F.type_list_append mt_append (pv 1) (pa_cons (pv 3) pa_nil)))
      (pss_one (ps_expr (pe_bm PySem.F.plainAttrs_list PySem.F.slot_list_extend PySem.F.type_list_extend mt_extendT (pv 2) (pa_cons (pe_back sl_backT (pe_propA (k := 1) (pv 3) hr rfl) (pe_un un_neg pe_int)) pa_nil)))))))
    (pss_one (ps_ret (pv 1))))), ?_⟩
  refine ⟨(by show 0 ≤ sizeLine; decide), fun fa nfa => ?_⟩
  refine ⟨_, rfl, (by show 1 ≤ sizeLine; decide), fun wa nwa => ?_⟩
  have nfw : fa ≠ wa := ne_of_none upd_same nwa
  have s0 : Same H (upd (upd H fa (.lst [])) wa (.lst [.ref a])) := (same_new nfa _).trans (same_new nwa _)
  have nw0 : H wa = none := by
    rw [upd_ne (Ne.symm nfw)] at nwa
    exact nwa
  refine ⟨fun m σ H' => Same H H' ∧ ((m = 1 ∧ σ = [some (.ref a), some (.ref fa), some (.ref wa), none] ∧ H' fa = some (.lst []) ∧ H' wa = some (.lst [.ref a])) ∨ (m = 0 ∧ ∃ o, σ = [some (.ref a), some (.ref fa), some (.ref wa), o] ∧ H' fa = some (.lst [.ref a]) ∧ H' wa = some (.lst []))),
    ⟨1, s0, .inl ⟨rfl, rfl, upd_other upd_same nwa, upd_same⟩⟩, ?_⟩
  rintro m σ H' ⟨s1, ⟨rfl, rfl, hf, hw⟩ | ⟨rfl, o, rfl, hf, hw⟩⟩
  · refine ⟨_, rfl, true, .inl ⟨_, SqL.of hw, rfl⟩, ?_⟩
    refine iteT ⟨fun σ' H'' => ∃ m', m' < 1 ∧ Same H H'' ∧ ((m' = 1 ∧ σ' = [some (.ref a), some (.ref fa), some (.ref wa), none] ∧ H'' fa = some (.lst []) ∧ H'' wa = some (.lst [.ref a])) ∨ (m' = 0 ∧ ∃ o, σ' = [some (.ref a), some (.ref fa), some (.ref wa), o] ∧ H'' fa = some (.lst [.ref a]) ∧ H'' wa = some (.lst []))), fun σ' H'' z => z, ?_⟩
    refine ⟨_, rfl, .inl ⟨rfl, _, SqL.of hw⟩, wa, _, .ref a, rfl, rfl, hw, rfl, ?_⟩
    have hf1 : upd H' wa (.lst []) fa = some (.lst []) := by rw [upd_ne nfw]; exact hf
    refine ⟨_, rfl, .inl ⟨rfl, _, SqL.of hf1⟩, _, rfl, fa, [], .ref a, rfl, rfl, hf1, by decide, ?_⟩
    have kp : Same H (upd (upd H' wa (.lst [])) fa (.lst ([] ++ [V.ref a]))) := fun c o hc => by
      rw [upd_ne (ne_of_none hc nfa), upd_ne (ne_of_none hc nw0)]
      exact s1 c o hc
    have hw1 : upd (upd H' wa (.lst [])) fa (.lst ([] ++ [V.ref a])) wa = some (.lst []) := by rw [upd_ne (Ne.symm nfw)]; exact upd_same
    refine ⟨_, rfl, .inl ⟨rfl, _, SqL.of hw1⟩, _, rfl, nm_inner L (nm.same kp) fun pi g4 => ⟨1, rfl, rfl, pi, [], rfl, SqT.of g4, fun p hp => ?_⟩⟩
    have s2 := same_new hp (.tup ([] : List V).reverse)
    refine ⟨wa, p, _, _, rfl, rfl, s2 _ _ hw1, upd_same, by decide, ?_⟩
    refine ⟨0, by decide, fun c o hc => ?_, .inr ⟨rfl, _, rfl, ?_, upd_same⟩⟩
    · rw [upd_ne (ne_of_none hc nw0)]
      exact s2 _ _ (kp c o hc)
    · rw [upd_ne nfw]
      exact s2 _ _ upd_same
  · refine ⟨_, rfl, false, .inl ⟨_, SqL.of hw, rfl⟩, ?_⟩
    exact iteF ⟨_, rfl, q fa H' s1 hf⟩
def spUnk (K : PySem.W.Frag) (CF : Addr) (cls : Addr → Prop) : Sp := fun vs H Q _ => ∃ (a l : Addr) (ns : List Str), vs = [.ref a, .ref l] ∧ NmAt CF cls H a ∧ SqL K H l (ns.map V.str) ∧ ("x" : Str) ∈ ns ∧ ∀ H', Same H H' → Q .non H'
theorem scUnk : FnScope ["expression", "names", "knot"] ["expression", "names"] (defScope s_first_unknown) := ⟨rfl, rfl, rfl, by decide +kernel, rfl, by decide +kernel, by decide +kernel⟩
theorem flat_texts : ∀ ns : List Str, (ns.map V.str).all flatV = true
  | [] => rfl
  | _ :: r => flat_texts r
theorem inV_strs (n : Str) : ∀ ls : List Str, inV (.str n) (ls.map V.str) = decide (n ∈ ls)
  | [] => rfl
  | x :: r => by
    have ih := inV_strs n r
    unfold inV at ih ⊢
    rw [List.map_cons, List.any_cons, ih]
    have e : eqV (.str x) (.str n) = (x == n) := rfl
    rw [e]
    by_cases c : x = n
    · rw [c, beq_self_eq_true, Bool.true_or, decide_eq_true List.mem_cons_self]
    · rw [beq_false_of_ne c, Bool.false_or]
      by_cases d : n ∈ r
      · rw [decide_eq_true d, decide_eq_true (List.mem_cons_of_mem _ d)]
      · rw [decide_eq_false d, decide_eq_false fun z => (List.mem_cons.mp z).elim (fun z => c z.symm) d]
theorem ok_unk (F : Fun K "first_unknown" "first_unknown" s_first_unknown f fd) (L : Kls P w K mg base CF cls)
    (GK : FnOk P w K mg base CX0 3 fK fdK ["expression"] (spKnots CF cls)) (bK : Binds K fdK ["expression"] []) (kK : PySem.W.keepIn K (.ref fK) = true) (mK : mg "knots_of" = some (.ref fK)) :
    FnOk P w K mg base CX0 4 f fd ["expression", "names"] (spUnk K CF cls) := by
  refine F.ok scUnk (fun vs H Q E h => ?_) (fun cdv A outer s H vs Q E hr h => ?_)
  · obtain ⟨a, l, ns, rfl, _⟩ := h
    rfl
  obtain ⟨a, l, ns, rfl, nm, hl, hx, q⟩ := h
  refine ⟨_, pss_cons (ps_for PassesOwn.never rfl (pi_list (pe_call GK hr rfl mK kK bK .nil pass0 (pa_cons (pv 0) pa_nil))) (pg_name (i := 2) scUnk.nd rfl (Or.inl rfl))
      (pss_one (ps_if (PW.pt (pw_and (pt_cmpR op_eq (pe_propA (k := 1) (pv 2) (hr.mono (by decide)) rfl) pe_str (nomark _)) (pw_and1 (pt_cmpR op_notIn_seq (pe_ix ix_tup (pe_propA (k := 1) (pv 2) (hr.mono (by decide)) rfl) pe_int (fun _ _ => rfl)) (pv 1) (by rfl))))) pss_no pss_nil)))
    (pss_one (ps_ret pe_non)), ?_⟩
  refine ⟨_, rfl, a, rfl, nm, fun p H1 s1 hp => ⟨p, rfl, ⟨_, SqL.of hp⟩, ?_⟩⟩
  refine for_it1 (fun _ H' => Same H H' ∧ SqL K H' p [.ref a]) (itl_go (SqL.of hp)) (fun x' H' y => ?_) fun σ' H' j => ⟨itl_stop j.2 (by show 1 ≤ 1; decide), q H' j.1⟩
  obtain ⟨rfl, rfl⟩ := itl_y (SqL.of hp) y
  have nm1 := nm.same s1
  refine ⟨_, rfl, nm_kind L nm1 ⟨rfl, _, rfl, ?_⟩⟩
  rw [decide_eq_true rfl]
  refine iteT ⟨_, rfl, nm_told L nm1 fun pm hpm => ⟨pm, _, _, _, rfl, rfl, SqT.of hpm, rfl, ?_⟩⟩
  refine ⟨_, rfl, l, _, rfl, .inl (s1.seq hl), rfl, flat_texts _, _, rfl, ?_⟩
  rw [inV_strs, decide_eq_true hx]
  exact iteF ⟨s1, SqL.of hp⟩
/-! knot_fits, fits -/
def spKF (CF : Addr) (cls : Addr → Prop) : Sp := fun vs H Q _ => ∃ (a : Addr) (v u : V), vs = [.ref a, v, u] ∧ NmAt CF cls H a ∧ Q (.bl true) H
theorem scKF : FnScope ["knot", "base", "signs"] ["knot", "base", "signs"] (defScope s_knot_fits) := ⟨rfl, rfl, rfl, by decide +kernel, rfl, by decide +kernel, by decide +kernel⟩
theorem ok_kf (F : Fun K "knot_fits" "knot_fits" s_knot_fits f fd) (L : Kls P w K mg base CF cls) : FnOk P w K mg base CX0 3 f fd ["knot", "base", "signs"] (spKF CF cls) := by
  refine F.ok scKF (fun vs H Q E h => ?_) (fun cdv A outer s H vs Q E hr h => ?_)
  · obtain ⟨a, v, u, rfl, _⟩ := h
    rfl
  obtain ⟨a, v, u, rfl, nm, q⟩ := h
  refine ⟨_, pss_cons (ps_if (pt_cmpR op_eq (pe_propA (k := 1) (pv 0) hr rfl) pe_str (nomark _)) pss_no pss_nil)
    (pss_cons (ps_if (pt_cmpR op_eq (pe_propA (k := 1) (pv 0) hr rfl) pe_str (nomark _)) pss_no pss_nil)
    (pss_cons (ps_if (pt_cmpR op_eq (pe_propA (k := 1) (pv 0) hr rfl) pe_str (nomark _)) pss_no pss_nil)
    (pss_cons (ps_if (pt_cmpR op_eq (pe_propA (k := 1) (pv 0) hr rfl) pe_str (nomark _)) pss_no pss_nil)
    (pss_one (ps_ret pe_bl))))), ?_⟩
  refine ⟨_, rfl, nm_kind L nm ⟨rfl, _, rfl, ?_⟩⟩
  rw [str_ne (by decide +kernel)]
  refine iteF ⟨_, rfl, nm_kind L nm ⟨rfl, _, rfl, ?_⟩⟩
  rw [str_ne (by decide +kernel)]
  refine iteF ⟨_, rfl, nm_kind L nm ⟨rfl, _, rfl, ?_⟩⟩
  rw [str_ne (by decide +kernel)]
  refine iteF ⟨_, rfl, nm_kind L nm ⟨rfl, _, rfl, ?_⟩⟩
  rw [str_ne (by decide +kernel)]
  exact iteF q
def spFits (CF : Addr) (cls : Addr → Prop) : Sp := fun vs H Q _ => ∃ (a : Addr) (v u : V), vs = [.ref a, v, u] ∧ NmAt CF cls H a ∧ ∀ H', Same H H' → Q (.bl true) H'
theorem scFits : FnScope ["expression", "base", "signs", "knot"] ["expression", "base", "signs"] (defScope s_fits) := ⟨rfl, rfl, rfl, by decide +kernel, rfl, by decide +kernel, by decide +kernel⟩
theorem ok_fits (F : Fun K "fits" "fits" s_fits f fd) (za : mg "all" = none)
    (GK : FnOk P w K mg base CX0 3 fK fdK ["expression"] (spKnots CF cls)) (bK : Binds K fdK ["expression"] []) (kK : PySem.W.keepIn K (.ref fK) = true) (mK : mg "knots_of" = some (.ref fK))
    (GN : FnOk P w K mg base CX0 3 fN fdN ["knot", "base", "signs"] (spKF CF cls)) (bN : Binds K fdN ["knot", "base", "signs"] []) (kN : PySem.W.keepIn K (.ref fN) = true) (mN : mg "knot_fits" = some (.ref fN)) :
    FnOk P w K mg base CX0 4 f fd ["expression", "base", "signs"] (spFits CF cls) := by
  refine F.ok scFits (fun vs H Q E h => ?_) (fun cdv A outer s H vs Q E hr h => ?_)
  · obtain ⟨a, v, u, rfl, _⟩ := h
    rfl
  obtain ⟨a, v, u, rfl, nm, q⟩ := h
  refine ⟨_, pss_one (ps_ret (pe_callB (cr_all rfl) (by rfl) za PyProof.Rows.boot_all (pa_cons
      (pe_lc (te := tCall (spKF CF cls) [] E0 (tCons (tVar 3) (tCons (tVar 1) (tCons (tVar 2) tNil)))) (own := [("knot", 3)]) (g := gName 3) (tt := tYes) rfl scFits.nd (pi_list (pe_call GK hr rfl mK kK bK .nil pass0 (pa_cons (pv 0) pa_nil)))
        (blkOk_by (N := ["expression", "base", "signs", "knot"]) (sc := defScope s_fits) (by decide +kernel)) (fun _ _ _ _ _ => pg_name (i := 3) scFits.nd rfl (Or.inl rfl)) (fun _ _ _ _ _ => pts_nil)
        (fun _ _ _ _ _ => pe_call GN hr rfl mN kN bN .nil pass0 (pa_cons (pv 3) (pa_cons (pv 1) (pa_cons (pv 2) pa_nil))))) pa_nil))), ?_⟩
  refine ⟨_, rfl, a, rfl, nm, fun p H1 s1 hp => ⟨p, rfl, ⟨_, SqL.of hp⟩, fun D hD => ?_⟩⟩
  have hp2 := same_new hD (.lst []) _ _ hp
  refine lc_it1 (fun H' => Same H1 H' ∧ H' D = some (.lst [.bl true])) (itl_go (SqL.of hp2)) (fun x' H' y => ?_) fun H' j => ⟨itl_stop (SqL.of (j.1 _ _ hp)) (by show 1 ≤ 1; decide), ?_⟩
  · obtain ⟨rfl, rfl⟩ := itl_y (SqL.of hp2) y
    refine ⟨rfl, turn_yes ?_⟩
    refine ⟨_, rfl, _, rfl, _, rfl, a, _, _, rfl, nm.same (s1.trans (same_new hD _)), ?_⟩
    refine ⟨[], upd_same, by decide, fun b o e => ?_, upd_same⟩
    rw [upd_ne (ne_of_none e hD)]
    exact same_new hD _ _ _ e
  · exact ⟨D, [true], rfl, SqL.of j.2, q H' (s1.trans j.1)⟩
end
end Wp

/-! name = {k: v for ..} on one line, the name a local -/
namespace L2
open PySem PySem.Spec PyProof.Rows
section
variable {X : Cx}
theorem ps_setDc {i : Nat} {y : Str} {py : Pos} {kx vx tg iter : Expr} {ifs : List Expr} {scope : Scope} {own : List (Str × Nat)} {pos spos : Pos} {wi : TI} {g : TG} {tt : TT} {tk tv : TE} (hc : X.calm = true) (hN : X.N.Nodup) (hy : X.N[i]? = some y) (hyl : X.env.scope.names.lookup y = some .local)
    (hsw : swapsWith (.DictComp kx vx [⟨tg, iter, ifs, 0⟩] scope pos) (some (.Name y py)) spos.line X.env = pure true) (hi : PI X tg iter wi) (ok : BlkOk X.N X.env.scope scope own)
    (hg : ∀ (s : Shared) (H : Hp) (C : Addr) (cl : List (Str × Addr)) (fp : List Addr), PG (X.blk s H scope (compEnvC scope cl C X.env) fp) tg g) (ht : ∀ (s : Shared) (H : Hp) (C : Addr) (cl : List (Str × Addr)) (fp : List Addr), PTs (X.blk s H scope (compEnvC scope cl C X.env) fp) ifs tt)
    (hk : ∀ (s : Shared) (H : Hp) (C : Addr) (cl : List (Str × Addr)) (fp : List Addr), PE (X.blk s H scope (compEnvC scope cl C X.env) fp) kx tk)
    (he : ∀ (s : Shared) (H : Hp) (C : Addr) (cl : List (Str × Addr)) (fp : List Addr), PE (X.blk s H scope (compEnvC scope cl C X.env) fp) vx tv) (hs : ∀ x, foldedSetIterable iter X.env x = pure x := by intro _; rfl) :
    PS X (.Assign [.Name y py] (.DictComp kx vx [⟨tg, iter, ifs, 0⟩] scope pos) spos) (tAsg (tDc wi g tt tk tv (own.map (·.2))) (gName i)) := by
  refine ⟨fun pins s σ H D I h => ?_⟩
  rw [exec_Assign_Name_used _ _ _ _ hsw]
  refine wpAny_bind (wpAny_standAt (wpAny_bind ?_))
  show wpAny _ X.A (do let _ ← comprehension (.DictComp kx vx [⟨tg, iter, ifs, 0⟩] scope pos) scope X.env (firstIterPos [⟨tg, iter, ifs, 0⟩] pos) newDict false (eval iter X.env) (some (assign (.Name y py) X.env))) _ _ s
  have h : tDc wi g tt tk tv (own.map (·.2)) σ H (fun x H1 => gName i x σ H1 D.nx) := h
  refine wpAny_bind (thn (dc_core (Qf := fun _ s' => SP X pins D .next s') hc hN I hi ok hg ht hk he hs h fun L C s' m H' I' q hn f => ?_) fun _ s' hq => wpAny_pure (wpAny_pure hq))
  show wpAny _ _ (assign (.Name y py) X.env (.ref L)) _ _ _
  refine wpAny_assign_Name (store_ok2 (v := V.ref L) I' hN hy (.inl hyl) rfl (fun s2 I2 ⟨a, sb, ha⟩ => ?_) (.inr hyl))
  obtain ⟨f0, f1, f2, f3, f4, f5⟩ := f
  have haC : C ≠ a := by
    rcases ha with z | z
    · rw [z]; exact f1
    · exact fun e => f4 y a z e.symm
  refine ⟨m, hn.sameBut sb haC, fun h3 sb3 => ?_⟩
  exact ⟨_, H', I2.turned (t' := s2.toks) (fun b o hb e => (sb3.2 b hb).trans e) f0 f1 f3 f4 f5, q⟩
theorem sw_trueD {kx vx : Expr} {gs : List Comprehension} {scope : Scope} {pos py : Pos} {y : Str} {l : Nat} {env : Env} (hk : env.scope.kind = .function) (hy : env.scope.names.lookup y = some .local) (hl : (py.line == pos.line) = true)
    (hn : (scope.names.any fun (n, k) => n == y && (k == .local || k == .cell)) = false) : swapsWith (.DictComp kx vx gs scope pos) (some (.Name y py)) l env = pure true := by
  have ky : env.kindOf y = some .local := hy
  have hb : env.blockKind = .function := by unfold Env.blockKind; rw [hk]; rfl
  unfold swapsWith
  simp only [hb, ky, hn, Expr.pos, hl]
  rfl
end
end L2

namespace Wp
open PySem PySem.Spec PyProof.Rows L2 Hx
/-! the rings of one row that uses no row -/
section
variable {P : Program} {w : World} {K : PySem.W.Frag} {mg : Str → Option Value} {base : Heap} {f fP fU fR fI CF : Addr} {fd fdP fdU fdR fdI : FuncData} {cls : Addr → Prop}
def spPaths (CF : Addr) (cls : Addr → Prop) : Sp := fun vs H Q _ => ∃ a, vs = [.ref a] ∧ NmAt CF cls H a ∧ ∀ p t H', Same H H' → H' p = some (.lst [.ref t]) → H' t = some (.tup [.ref a, .bl true, .int 0]) → Q (.ref p) H'
def NPt : List Str := ["expression", "found", "waiting", "knot", "is_open", "parts", "inner"]
theorem scPaths : FnScope NPt ["expression"] (defScope s_paths_of) := ⟨rfl, rfl, rfl, by decide +kernel, rfl, by decide +kernel, by decide +kernel⟩
theorem ok_paths (F : Fun K "paths_of" "paths_of" s_paths_of f fd) (L : Kls P w K mg base CF cls) : FnOk P w K mg base CX0 3 f fd ["expression"] (spPaths CF cls) := by
  refine F.ok scPaths (fun vs H Q E h => ?_) (fun cdv A outer s H vs Q E hr h => ?_)
  · obtain ⟨a, rfl, _⟩ := h
    rfl
  obtain ⟨a, rfl, nm, q⟩ := h
  refine ⟨_, pss_cons (ps_set (i := 1) scPaths.nd rfl (Or.inl rfl) (pe_lst pa_nil))
    (pss_cons (ps_set (i := 2) scPaths.nd rfl (Or.inl rfl) (pe_lst (pa_cons (pe_tup (pa_cons (pv 0) (pa_cons pe_bl (pa_cons pe_int pa_nil)))) pa_nil)))
    (pss_cons (ps_while PassesOwn.never (pt_truth (pv 2) (fun _ => rfl))
      (pss_cons (ps_asg (pe_bm0 PySem.F.plainAttrs_list PySem.F.slot_list_pop PySem.F.type_list_pop mt_pop (pv 2)) (pg_tup (by rfl) (pgs_cons (pg_name (i := 3) scPaths.nd rfl (Or.inl rfl)) (pgs_cons (pg_name (i := 4) scPaths.nd rfl (Or.inl rfl)) (pgs_cons (pg_name (i := 5) scPaths.nd rfl (Or.inl rfl)) pgs_nil)))))
      (pss_cons (ps_expr (pe_bm PySem.F.plainAttrs_list PySem.F.slot_list_append PySem.F.type_list_append mt_append (pv 1) (pa_cons (pe_tup (pa_cons (pv 3) (pa_cons (pv 4) (pa_cons (pv 5) pa_nil)))) pa_nil)))
      (pss_cons (ps_if (pt_cmpR op_eq (pe_propA (k := 1) (pv 3) hr rfl) pe_str (nomark _)) pss_no pss_nil)
      (pss_cons (ps_if (pt_cmpR op_eq (pe_propA (k := 1) (pv 3) hr rfl) pe_str (nomark _)) pss_no pss_nil)
      (pss_one (ps_for PassesOwn.never rfl (pi_tup (pe_propA (k := 1) (pv 3) hr rfl)) (pg_name (i := 6) scPaths.nd rfl (Or.inl rfl)) pss_no)))))))
    (pss_one (ps_ret (pv 1))))), ?_⟩
  refine ⟨(by show 0 ≤ sizeLine; decide), fun fa nfa => ?_⟩
  refine ⟨_, rfl, (by show 3 ≤ sizeLine; decide), fun t0 nt0 => ⟨(by show 1 ≤ sizeLine; decide), fun wa nwa => ?_⟩⟩
  have sA := ((same_new nfa (.lst [])).trans (same_new nt0 (.tup [V.ref a, .bl true, .int 0]))).trans (same_new nwa (.lst [V.ref t0]))
  have hfa := same_new nwa (.lst [V.ref t0]) _ _ (same_new nt0 (.tup [V.ref a, .bl true, .int 0]) _ _ (upd_same (H := H) (a := fa) (o := HO.lst [])))
  have ht0 := same_new nwa (.lst [V.ref t0]) _ _ (upd_same (H := upd H fa (.lst [])) (a := t0) (o := HO.tup [V.ref a, .bl true, .int 0]))
  have hwa := upd_same (H := upd (upd H fa (.lst [])) t0 (.tup [V.ref a, .bl true, .int 0])) (a := wa) (o := HO.lst [V.ref t0])
  have nfw : fa ≠ wa := ne_of_none (same_new nt0 (.tup [V.ref a, .bl true, .int 0]) _ _ (upd_same (H := H) (a := fa) (o := HO.lst []))) nwa
  have nw0 : H wa = none := by
    cases e : H wa with
    | none => rfl
    | some o =>
      have := (same_new nt0 (.tup [V.ref a, .bl true, .int 0])) _ _ (same_new nfa (.lst []) _ _ e)
      rw [nwa] at this
      cases this
  have nf0 := nfa
  generalize upd (upd (upd H fa (.lst [])) t0 (.tup [V.ref a, .bl true, .int 0])) wa (.lst [V.ref t0]) = H1 at *
  refine ⟨fun m σ H' => Same H H' ∧ H' t0 = some (.tup [V.ref a, .bl true, .int 0]) ∧ ((m = 1 ∧ σ = [some (.ref a), some (.ref fa), some (.ref wa), none, none, none, none] ∧ H' fa = some (.lst []) ∧ H' wa = some (.lst [.ref t0])) ∨
      (m = 0 ∧ ∃ o3 o4 o5 o6 t, σ = [some (.ref a), some (.ref fa), some (.ref wa), o3, o4, o5, o6] ∧ H' fa = some (.lst [.ref t]) ∧ H' t = some (.tup [V.ref a, .bl true, .int 0]) ∧ H' wa = some (.lst []))),
    ⟨1, sA, ht0, .inl ⟨rfl, rfl, hfa, hwa⟩⟩, ?_⟩
  rintro m σ H' ⟨s1, ht, ⟨rfl, rfl, hf, hw⟩ | ⟨rfl, o3, o4, o5, o6, t, rfl, hf, htt, hw⟩⟩
  · refine ⟨_, rfl, true, .inl ⟨_, SqL.of hw, rfl⟩, ?_⟩
    refine iteT ⟨fun σ' H'' => ∃ m', m' < 1 ∧ Same H H'' ∧ H'' t0 = some (.tup [V.ref a, .bl true, .int 0]) ∧ ((m' = 1 ∧ σ' = [some (.ref a), some (.ref fa), some (.ref wa), none, none, none, none] ∧ H'' fa = some (.lst []) ∧ H'' wa = some (.lst [.ref t0])) ∨
      (m' = 0 ∧ ∃ o3 o4 o5 o6 t, σ' = [some (.ref a), some (.ref fa), some (.ref wa), o3, o4, o5, o6] ∧ H'' fa = some (.lst [.ref t]) ∧ H'' t = some (.tup [V.ref a, .bl true, .int 0]) ∧ H'' wa = some (.lst []))), fun σ' H'' z => z, ?_⟩
    refine ⟨_, rfl, .inl ⟨rfl, _, SqL.of hw⟩, wa, _, .ref t0, rfl, rfl, hw, rfl, ?_⟩
    have kp : Same H (upd H' wa (.lst [])) := fun c o hc => by
      rw [upd_ne (ne_of_none hc nw0)]
      exact s1 c o hc
    have htw : t0 ≠ wa := fun z => by
      rw [z, hw] at ht
      cases ht
    have ht2 : upd H' wa (.lst []) t0 = some (.tup [V.ref a, .bl true, .int 0]) := by rw [upd_ne htw]; exact ht
    have hf2 : upd H' wa (.lst []) fa = some (.lst []) := by rw [upd_ne nfw]; exact hf
    have hw2 : upd H' wa (.lst []) wa = some (.lst []) := upd_same
    refine ⟨t0, _, rfl, SqT.of ht2, rfl, _, _, rfl, _, _, rfl, _, _, rfl, rfl, ?_⟩
    refine ⟨_, rfl, .inl ⟨rfl, _, SqL.of hf2⟩, _, rfl, _, rfl, _, rfl, (by show 3 ≤ sizeLine; decide), fun t nt => ⟨fa, [], .ref t, rfl, rfl, same_new nt _ _ _ hf2, by decide, ?_⟩⟩
    have nt : upd H' wa (.lst []) t = none := nt
    have s5 := same_new nt (.tup [V.ref a, .bl true, .int 0])
    have k3 : Same H (upd (upd (upd H' wa (.lst [])) t (.tup [V.ref a, .bl true, .int 0])) fa (.lst ([] ++ [V.ref t]))) := fun c o hc => by
      rw [upd_ne (ne_of_none hc nf0)]
      exact s5 _ _ (kp c o hc)
    have n0f : t0 ≠ fa := fun z => by
      rw [z, hf] at ht
      cases ht
    have ntf : t ≠ fa := fun z => by
      rw [z, hf2] at nt
      cases nt
    have ht3 : upd (upd (upd H' wa (.lst [])) t (.tup [V.ref a, .bl true, .int 0])) fa (.lst ([] ++ [V.ref t])) t0 = some (.tup [V.ref a, .bl true, .int 0]) := by rw [upd_ne n0f]; exact s5 _ _ ht2
    have htt : upd (upd (upd H' wa (.lst [])) t (.tup [V.ref a, .bl true, .int 0])) fa (.lst ([] ++ [V.ref t])) t = some (.tup [V.ref a, .bl true, .int 0]) := by rw [upd_ne ntf]; exact upd_same
    have hw3 : upd (upd (upd H' wa (.lst [])) t (.tup [V.ref a, .bl true, .int 0])) fa (.lst ([] ++ [V.ref t])) wa = some (.lst []) := by rw [upd_ne (Ne.symm nfw)]; exact s5 _ _ hw2
    have hf3 : upd (upd (upd H' wa (.lst [])) t (.tup [V.ref a, .bl true, .int 0])) fa (.lst ([] ++ [V.ref t])) fa = some (.lst [.ref t]) := upd_same
    have nm3 := nm.same k3
    refine ⟨_, rfl, nm_kind L nm3 ⟨rfl, _, rfl, ?_⟩⟩
    rw [str_ne (by decide +kernel)]
    refine iteF ⟨_, rfl, nm_kind L nm3 ⟨rfl, _, rfl, ?_⟩⟩
    rw [str_ne (by decide +kernel)]
    refine iteF ⟨_, rfl, nm_inner L nm3 fun pi g4 => ⟨pi, rfl, ⟨_, SqT.of g4⟩, for_it0 (itt_stop (SqT.of g4) (Nat.le_refl _)) ?_⟩⟩
    exact ⟨0, by decide, k3, ht3, .inr ⟨rfl, _, _, _, _, t, rfl, hf3, htt, hw3⟩⟩
  · refine ⟨_, rfl, false, .inl ⟨_, SqL.of hw, rfl⟩, ?_⟩
    exact iteF ⟨_, rfl, q fa t H' s1 hf htt⟩
/-- no use of a row in it -/
def spUses (K : PySem.W.Frag) (CF : Addr) (cls : Addr → Prop) : Sp := fun vs H Q _ => ∃ (a l : Addr) (ns : List Str), vs = [.ref a, .ref l] ∧ NmAt CF cls H a ∧ SqL K H l (ns.map V.str) ∧ ("x" : Str) ∉ ns ∧ ∀ p H', Same H H' → H' p = some (.lst []) → Q (.ref p) H'
def NUs : List Str := ["expression", "names", "uses", "knot", "is_open", "parts"]
theorem scUses : FnScope NUs ["expression", "names"] (defScope s_uses_of) := ⟨rfl, rfl, rfl, by decide +kernel, rfl, by decide +kernel, by decide +kernel⟩
theorem ok_uses (F : Fun K "uses_of" "uses_of" s_uses_of f fd) (L : Kls P w K mg base CF cls)
    (GP : FnOk P w K mg base CX0 3 fP fdP ["expression"] (spPaths CF cls)) (bP : Binds K fdP ["expression"] []) (kP : PySem.W.keepIn K (.ref fP) = true) (mP : mg "paths_of" = some (.ref fP)) :
    FnOk P w K mg base CX0 4 f fd ["expression", "names"] (spUses K CF cls) := by
  refine F.ok scUses (fun vs H Q E h => ?_) (fun cdv A outer s H vs Q E hr h => ?_)
  · obtain ⟨a, l, ns, rfl, _⟩ := h
    rfl
  obtain ⟨a, l, ns, rfl, nm, hl, hx, q⟩ := h
  refine ⟨_, pss_cons (ps_set (i := 2) scUses.nd rfl (Or.inl rfl) (pe_lst pa_nil))
    (pss_cons (ps_for PassesOwn.never rfl (pi_list (pe_call GP hr rfl mP kP bP .nil pass0 (pa_cons (pv 0) pa_nil))) (pg_tup (by rfl) (pgs_cons (pg_name (i := 3) scUses.nd rfl (Or.inl rfl)) (pgs_cons (pg_name (i := 4) scUses.nd rfl (Or.inl rfl)) (pgs_cons (pg_name (i := 5) scUses.nd rfl (Or.inl rfl)) pgs_nil))))
      (pss_one (ps_if (PW.pt (pw_and (pt_cmpR op_eq (pe_propA (k := 1) (pv 3) (hr.mono (by decide)) rfl) pe_str (nomark _)) (pw_and1 (pt_cmpR op_in_seq (pe_ix ix_tup (pe_propA (k := 1) (pv 3) (hr.mono (by decide)) rfl) pe_int (fun _ _ => rfl)) (pv 1) (by rfl))))) pss_no pss_nil)))
    (pss_one (ps_ret (pv 2)))), ?_⟩
  refine ⟨(by show 0 ≤ sizeLine; decide), fun ua nua => ?_⟩
  have s0 := same_new nua (.lst [])
  refine ⟨_, rfl, a, rfl, nm.same s0, fun p t H1 s1 hp ht => ⟨p, rfl, ⟨_, SqL.of hp⟩, ?_⟩⟩
  have hua := s1 _ _ (upd_same (H := H) (a := ua) (o := HO.lst []))
  refine for_it1 (fun σ' H' => Same H H' ∧ H' ua = some (.lst []) ∧ H' p = some (.lst [.ref t]) ∧ ∃ o3 o4 o5, σ' = [some (.ref a), some (.ref l), some (.ref ua), o3, o4, o5]) (itl_go (SqL.of hp)) (fun x' H' y => ?_) fun σ' H' j => ⟨itl_stop (SqL.of j.2.2.1) (by show 1 ≤ 1; decide), ?_⟩
  · obtain ⟨rfl, rfl⟩ := itl_y (SqL.of hp) y
    refine ⟨t, _, rfl, SqT.of ht, rfl, _, _, rfl, _, _, rfl, _, _, rfl, rfl, ?_⟩
    have nm1 := nm.same (s0.trans s1)
    refine ⟨_, rfl, nm_kind L nm1 ⟨rfl, _, rfl, ?_⟩⟩
    rw [decide_eq_true rfl]
    refine iteT ⟨_, rfl, nm_told L nm1 fun pm hpm => ⟨pm, _, _, _, rfl, rfl, SqT.of hpm, rfl, ?_⟩⟩
    refine ⟨_, rfl, l, _, rfl, .inl ((s0.trans s1).seq hl), rfl, flat_texts _, _, rfl, ?_⟩
    rw [inV_strs, decide_eq_false hx]
    exact iteF ⟨s0.trans s1, hua, hp, _, _, _, rfl⟩
  · obtain ⟨s2, h2, h3, o3, o4, o5, rfl⟩ := j
    exact ⟨_, rfl, q ua H' s2 h2⟩
/-- one row y, no use of it -/
def UsesAt (H : Hp) (d : Addr) : Prop := ∃ lu, Rd H d (.dK [(Sum.inr "y", .ref lu)]) ∧ H lu = some (.lst [])
/-- the book's rows -/
def RowsAt (CF : Addr) (cls : Addr → Prop) (H : Hp) (pr : Addr) : Prop := ∃ pp a, H pr = some (.tup [.ref pp]) ∧ H pp = some (.tup [.str "y", .ref a]) ∧ NmAt CF cls H a
theorem RowsAt.same {H H' : Hp} {pr : Addr} (h : RowsAt CF cls H pr) (s : Same H H') : RowsAt CF cls H' pr := by
  obtain ⟨pp, a, h1, h2, h3⟩ := h
  exact ⟨pp, a, s _ _ h1, s _ _ h2, h3.same s⟩
def spByRow (CF : Addr) (cls : Addr → Prop) : Sp := fun vs H Q _ => ∃ pr, vs = [.ref pr] ∧ RowsAt CF cls H pr ∧ ∀ d lu H', Same H H' → H' d = some (.dK [(Sum.inr "y", .ref lu)]) → H' lu = some (.lst []) → Q (.ref d) H'
def NBr : List Str := ["rows", "names", "pair", "name", "expression"]
theorem scByRow : FnScope NBr ["rows"] (defScope s_uses_by_row) := ⟨rfl, rfl, rfl, by decide +kernel, rfl, by decide +kernel, by decide +kernel⟩
theorem ok_byrow (F : Fun K "uses_by_row" "uses_by_row" s_uses_by_row f fd)
    (GU : FnOk P w K mg base CX0 4 fU fdU ["expression", "names"] (spUses K CF cls)) (bU : Binds K fdU ["expression", "names"] []) (kU : PySem.W.keepIn K (.ref fU) = true) (mU : mg "uses_of" = some (.ref fU)) :
    FnOk P w K mg base CX0 5 f fd ["rows"] (spByRow CF cls) := by
  refine F.ok scByRow (fun vs H Q E h => ?_) (fun cdv A outer s H vs Q E hr h => ?_)
  · obtain ⟨pr, rfl, _⟩ := h
    rfl
  obtain ⟨pr, rfl, hrw, q⟩ := h
  refine ⟨_, pss_cons (ps_set (i := 1) scByRow.nd rfl (Or.inr rfl) (pe_lc (te := tOp (rIxT K) (tVar 2) (tC (.int 0))) (own := [("pair", 2)]) (g := gName 2) (tt := tYes) rfl scByRow.nd (pi_tup (pv 0))
        (blkOk_by (N := NBr) (sc := defScope s_uses_by_row) (by decide +kernel)) (fun _ _ _ _ _ => pg_name (i := 2) scByRow.nd rfl (Or.inl rfl)) (fun _ _ _ _ _ => pts_nil) (fun _ _ _ _ _ => pe_ix ix_tup (pv 2) pe_int (fun _ _ => rfl))))
    (pss_one (ps_ret (pe_dc (tk := tVar 3) (tv := tCall (spUses K CF cls) [] E0 (tCons (tVar 4) (tCons (tVar 1) tNil))) (own := [("name", 3), ("expression", 4)]) (g := gTup K 2 (gCons (gName 3) (gCons (gName 4) gNil))) (tt := tYes) rfl scByRow.nd (pi_tup (pv 0))
        (blkOk_by (N := NBr) (sc := defScope s_uses_by_row) (by decide +kernel)) (fun _ _ _ _ _ => pg_tup (by rfl) (pgs_cons (pg_name (i := 3) scByRow.nd rfl (Or.inl rfl)) (pgs_cons (pg_name (i := 4) scByRow.nd rfl (Or.inl rfl)) pgs_nil))) (fun _ _ _ _ _ => pts_nil)
        (fun _ _ _ _ _ => pv 3) (fun _ _ _ _ _ => pe_call GU hr rfl mU kU bU .nil pass0 (pa_cons (pv 4) (pa_cons (pv 1) pa_nil)))))), ?_⟩
  obtain ⟨pp, a, h1, h2, nm⟩ := hrw
  refine ⟨_, rfl, pr, rfl, ⟨_, SqT.of h1⟩, fun D hD => ?_⟩
  have h1' := same_new hD (.lst []) _ _ h1
  refine lc_it1 (fun H' => Same H H' ∧ H' D = some (.lst [.str "y"])) (itt_go (SqT.of h1')) (fun x' H' y => ?_) fun H' j => ⟨itt_stop (SqT.of (j.1 _ _ h1)) (by show 1 ≤ 1; decide), ?_⟩
  · obtain ⟨rfl, rfl⟩ := itt_y (SqT.of h1') y
    refine ⟨rfl, turn_yes ⟨_, rfl, pp, _, _, _, rfl, rfl, SqT.of (same_new hD (.lst []) _ _ h2), rfl, [], upd_same, by decide, fun b o e => ?_, upd_same⟩⟩
    rw [upd_ne (ne_of_none e hD)]
    exact same_new hD _ _ _ e
  obtain ⟨s1, hDs⟩ := j
  refine ⟨_, rfl, pr, rfl, ⟨_, SqT.of (s1 _ _ h1)⟩, fun D2 hD2 => ?_⟩
  have s2 := same_new hD2 (.dK [])
  refine dc_it1 (fun H3 => Same H' H3 ∧ ∃ lu, H3 D2 = some (.dK [(Sum.inr "y", .ref lu)]) ∧ H3 lu = some (.lst [])) (itt_go (SqT.of (s2 _ _ (s1 _ _ h1)))) (fun x' H3 y => ?_) fun H3 j => ⟨itt_stop (SqT.of (j.1 _ _ (s1 _ _ h1))) (by show 1 ≤ 1; decide), ?_⟩
  · obtain ⟨rfl, rfl⟩ := itt_y (SqT.of (s2 _ _ (s1 _ _ h1))) y
    refine ⟨pp, _, rfl, SqT.of (s2 _ _ (s1 _ _ h2)), rfl, _, _, rfl, _, _, rfl, rfl, rfl, turn_yes ?_⟩
    refine ⟨_, rfl, _, rfl, _, rfl, a, D, ["y"], rfl, nm.same (s1.trans s2), SqL.of (s2 _ _ hDs), by decide +kernel, fun p H5 s5 hp => ?_⟩
    have h5 := s5 _ _ (upd_same (H := H') (a := D2) (o := HO.dK []))
    have npD : p ≠ D2 := fun z => by
      rw [z, h5] at hp
      cases hp
    refine ⟨[], Sum.inr "y", rfl, h5, by decide, fun b o e => ?_, p, upd_same, ?_⟩
    · rw [upd_ne (ne_of_none e hD2)]
      exact s5 _ _ (s2 _ _ e)
    · rw [upd_ne npD]
      exact hp
  · obtain ⟨s3, lu, g1, g2⟩ := j
    exact q D2 lu H3 (s1.trans s3) g1 g2
/-- from y no row is reached -/
def spReach : Sp := fun vs H Q _ => ∃ d, vs = [.str "y", .ref d] ∧ UsesAt H d ∧ ∀ p H', Same H H' → H' p = some (.lst []) → Q (.ref p) H'
def NRe : List Str := ["name", "followers", "reached", "waiting", "follower"]
theorem scReach : FnScope NRe ["name", "followers"] (defScope s_reached_from) := ⟨rfl, rfl, rfl, by decide +kernel, rfl, by decide +kernel, by decide +kernel⟩
theorem UsesAt.same {H H' : Hp} {d : Addr} (h : UsesAt H d) (s : Same H H') : UsesAt H' d := by
  obtain ⟨lu, h1 | ⟨o, h1⟩, h2⟩ := h
  · exact ⟨lu, .inl (s _ _ h1), s _ _ h2⟩
  · exact ⟨lu, .inr ⟨o, s _ _ h1⟩, s _ _ h2⟩
theorem val_y {v : V} : valV [((Sum.inr "y" : Key), v)] (Sum.inr "y") = some v := by
  unfold valV
  simp
theorem ok_reach (F : Fun K "reached_from" "reached_from" s_reached_from f fd) : FnOk P w K mg base CX0 3 f fd ["name", "followers"] spReach := by
  refine F.ok scReach (fun vs H Q E h => ?_) (fun cdv A outer s H vs Q E hr h => ?_)
  · obtain ⟨d, rfl, _⟩ := h
    rfl
  obtain ⟨d, rfl, hd, q⟩ := h
  have hu : (A.deeper (envOfC "reached_from" (defScope s_reached_from) s.heap.objs.size f cdv)).units + 64 < cLine := hr.units
  have hu1 : (A.deeper (envOfC "reached_from" (defScope s_reached_from) s.heap.objs.size f cdv)).units + 1 < cLine := by omega
  refine ⟨_, pss_cons (ps_set (i := 2) scReach.nd rfl (Or.inl rfl) (pe_lst pa_nil))
    (pss_cons (ps_set (i := 3) scReach.nd rfl (Or.inl rfl) (pe_lst (pa_cons (pv 0) pa_nil)))
    (pss_cons (ps_while PassesOwn.never (pt_truth (pv 3) (fun _ => rfl))
      (pss_one (ps_for PassesOwn.never rfl (pi_list (pe_dget hu1 (pv 1) (pe_bm0 PySem.F.plainAttrs_list PySem.F.slot_list_pop PySem.F.type_list_pop mt_pop (pv 3)) (fun _ _ => rfl))) (pg_name (i := 4) scReach.nd rfl (Or.inl rfl)) pss_no)))
    (pss_one (ps_ret (pv 2))))), ?_⟩
  refine ⟨(by show 0 ≤ sizeLine; decide), fun ra nra => ?_⟩
  refine ⟨_, rfl, (by show 1 ≤ sizeLine; decide), fun wa nwa => ?_⟩
  have s0 := (same_new nra (.lst [])).trans (same_new nwa (.lst [V.str "y"]))
  have hra := same_new nwa (.lst [V.str "y"]) _ _ (upd_same (H := H) (a := ra) (o := HO.lst []))
  have hwa := upd_same (H := upd H ra (.lst [])) (a := wa) (o := HO.lst [V.str "y"])
  have nrw : ra ≠ wa := ne_of_none (upd_same (H := H) (a := ra) (o := HO.lst [])) nwa
  have nw0 : H wa = none := by
    cases e : H wa with
    | none => rfl
    | some o =>
      have := same_new nra (.lst []) _ _ e
      rw [nwa] at this
      cases this
  generalize upd (upd H ra (.lst [])) wa (.lst [V.str "y"]) = H1 at *
  refine ⟨fun m σ H' => Same H H' ∧ H' ra = some (.lst []) ∧ ((m = 1 ∧ σ = [some (.str "y"), some (.ref d), some (.ref ra), some (.ref wa), none] ∧ H' wa = some (.lst [.str "y"])) ∨ (m = 0 ∧ σ = [some (.str "y"), some (.ref d), some (.ref ra), some (.ref wa), none] ∧ H' wa = some (.lst []))), ⟨1, s0, hra, .inl ⟨rfl, rfl, hwa⟩⟩, ?_⟩
  rintro m σ H' ⟨s1, h1, ⟨rfl, rfl, hw⟩ | ⟨rfl, rfl, hw⟩⟩
  · refine ⟨_, rfl, true, .inl ⟨_, SqL.of hw, rfl⟩, ?_⟩
    refine iteT ⟨fun σ' H'' => ∃ m', m' < 1 ∧ Same H H'' ∧ H'' ra = some (.lst []) ∧ ((m' = 1 ∧ σ' = [some (.str "y"), some (.ref d), some (.ref ra), some (.ref wa), none] ∧ H'' wa = some (.lst [.str "y"])) ∨ (m' = 0 ∧ σ' = [some (.str "y"), some (.ref d), some (.ref ra), some (.ref wa), none] ∧ H'' wa = some (.lst []))), fun σ' H'' z => z, ?_⟩
    have k2 : Same H (upd H' wa (.lst [V.str "y"].dropLast)) := fun c o hc => by
      rw [upd_ne (ne_of_none hc nw0)]
      exact s1 c o hc
    obtain ⟨lu, h3, hlu⟩ := hd.same k2
    refine ⟨_, rfl, _, rfl, .inl ⟨rfl, _, SqL.of hw⟩, wa, _, .str "y", rfl, rfl, hw, rfl, d, .ref lu, rfl, .inl ⟨_, Sum.inr "y", h3, rfl, val_y.symm⟩, ?_⟩
    refine ⟨lu, rfl, ⟨_, SqL.of hlu⟩, for_it0 (itl_stop (SqL.of hlu) (Nat.le_refl _)) ?_⟩
    exact ⟨0, by decide, k2, by rw [upd_ne nrw]; exact h1, .inr ⟨rfl, rfl, upd_same⟩⟩
  · refine ⟨_, rfl, false, .inl ⟨_, SqL.of hw, rfl⟩, ?_⟩
    exact iteF ⟨_, rfl, q ra H' s1 h1⟩
end
end Wp

namespace Wp
open PySem PySem.Spec PyProof.Rows L2 Hx
theorem lock_same {H H' : Hp} {d : Addr} {u : HO} {f : HO} (h : H d = some u) (s : Same (upd H d f) H') : Same H (upd H' d u) := fun b o e => by
  by_cases hb : b = d
  · subst hb
    rw [h] at e
    cases e
    exact upd_same
  · rw [upd_ne hb]
    exact s b o (by rw [upd_ne hb]; exact e)
/-- one row y, no use of it, and the dict is free -/
def UsesD (H : Hp) (d : Addr) (lu : Addr) : Prop := H d = some (.dK [(Sum.inr "y", .ref lu)]) ∧ H lu = some (.lst [])
theorem UsesD.same {H H' : Hp} {d lu : Addr} (h : UsesD H d lu) (s : Same H H') : UsesD H' d lu := ⟨s _ _ h.1, s _ _ h.2⟩
theorem UsesD.at_ {H : Hp} {d lu : Addr} (h : UsesD H d lu) : UsesAt H d := ⟨lu, .inl h.1, h.2⟩
/-- .. and it is locked -/
theorem UsesD.lock {H : Hp} {d lu : Addr} (h : UsesD H d lu) (o : Obj) : upd H d (.frz o (.dK [(Sum.inr "y", .ref lu)])) d = some (.frz o (.dK [(Sum.inr "y", .ref lu)])) ∧ upd H d (.frz o (.dK [(Sum.inr "y", .ref lu)])) lu = some (.lst []) := by
  refine ⟨upd_same, ?_⟩
  rw [upd_ne (fun z => by
    have h2 := h.2
    rw [z, h.1] at h2
    cases h2)]
  exact h.2
section
variable {P : Program} {w : World} {K : PySem.W.Frag} {mg : Str → Option Value} {base : Heap} {f fP fU fR fI CF : Addr} {fd fdP fdU fdR fdI : FuncData} {cls : Addr → Prop}
def spOpen : Sp := fun vs H Q _ => ∃ d lu, vs = [.ref d] ∧ UsesD H d lu ∧ ∀ H', Same H H' → Q .non H'
def NOp : List Str := ["uses", "followers", "row", "use", "name"]
theorem scOpen : FnScope NOp ["uses"] (defScope s_first_open_ring) := ⟨rfl, rfl, rfl, by decide +kernel, rfl, by decide +kernel, by decide +kernel⟩
theorem ok_open (F : Fun K "first_open_ring" "first_open_ring" s_first_open_ring f fd)
    (GR : FnOk P w K mg base CX0 3 fR fdR ["name", "followers"] spReach) (bR : Binds K fdR ["name", "followers"] []) (kR : PySem.W.keepIn K (.ref fR) = true) (mR : mg "reached_from" = some (.ref fR)) :
    FnOk P w K mg base CX0 4 f fd ["uses"] spOpen := by
  refine F.ok scOpen (fun vs H Q E h => ?_) (fun cdv A outer s H vs Q E hr h => ?_)
  · obtain ⟨d, lu, rfl, _⟩ := h
    rfl
  obtain ⟨d, lu, rfl, hd, q⟩ := h
  have hu : (A.deeper (envOfC "first_open_ring" (defScope s_first_open_ring) s.heap.objs.size f cdv)).units + 64 < cLine := hr.units
  have hu1 : (A.deeper (envOfC "first_open_ring" (defScope s_first_open_ring) s.heap.objs.size f cdv)).units + 1 < cLine := by omega
  refine ⟨_, pss_cons (ps_lock (ps_setDc (i := 1) (tk := tVar 2) (tv := tLc (iList K (tDGet (tVar 0) (tVar 2))) (gName 3) nT nE [3]) (own := [("row", 2)]) (g := gName 2) (tt := tYes) rfl scOpen.nd rfl rfl (sw_trueD rfl rfl rfl rfl) (pi_keys (pv 0))
        (blkOk_by (N := NOp) (sc := defScope s_first_open_ring) (by decide +kernel)) (fun _ _ _ _ _ => pg_name (i := 2) scOpen.nd rfl (Or.inl rfl)) (fun _ _ _ _ _ => pts_nil) (fun _ _ _ _ _ => pv 2)
        (fun _ _ _ _ _ => pe_lc (own := [("use", 3)]) (g := gName 3) (tt := nT) (te := nE) rfl scOpen.nd (pi_list (pe_dget hu1 (pv 0) (pv 2) (fun _ _ => rfl)))
          (blkOk_by (by kernel_rfl)) (fun _ _ _ _ _ => pg_name (i := 3) scOpen.nd rfl (Or.inl rfl)) (fun _ _ _ _ _ => pts_one pt_no) (fun _ _ _ _ _ => pe_no))))
    (pss_cons (ps_lock (ps_for PassesOwn.never rfl (pi_keys (pv 0)) (pg_name (i := 4) scOpen.nd rfl (Or.inl rfl))
      (pss_one (ps_if (pt_cmpR op_in_seq (pv 4) (pe_call GR hr rfl mR kR bR .nil pass0 (pa_cons (pv 4) (pa_cons (pv 1) pa_nil))) (by rfl)) pss_no pss_nil))))
    (pss_one (ps_ret pe_non))), ?_⟩
  refine ⟨d, .dK [(Sum.inr "y", .ref lu)], hd.1, trivial, fun od => ?_⟩
  obtain ⟨f1, f2⟩ := hd.lock od
  refine ⟨_, rfl, d, od, rfl, .inl ⟨_, f1, fun D hD => ?_⟩⟩
  have s1 := same_new hD (.dK [])
  refine dc_it1 (fun H' => Same (upd H d (.frz od (.dK [(Sum.inr "y", .ref lu)]))) H' ∧ ∃ l2, UsesD H' D l2) (itk_go (s1 _ _ f1)) (fun x' H' y => ?_) fun H' j => ⟨itk_stop (j.1 _ _ f1), ?_⟩
  · obtain ⟨rfl, rfl⟩ := itk_y y
    refine ⟨rfl, turn_yes ⟨_, rfl, _, rfl, _, rfl, d, .ref lu, rfl, .inl ⟨_, Sum.inr "y", .inr ⟨od, s1 _ _ f1⟩, rfl, val_y.symm⟩, lu, rfl, ⟨_, SqL.of (s1 _ _ f2)⟩, fun D2 hD2 => lc_it0 (itl_stop (SqL.of (same_new hD2 _ _ _ (s1 _ _ f2))) (Nat.le_refl _)) ?_⟩⟩
    have s2 := same_new hD2 (.lst [])
    have nD : D2 ≠ D := fun z => by
      rw [z, upd_same] at hD2
      cases hD2
    refine ⟨[], Sum.inr "y", rfl, s2 _ _ upd_same, by decide, fun b o e => ?_, D2, upd_same, ?_⟩
    · rw [upd_ne (ne_of_none e hD)]
      exact s2 _ _ (s1 _ _ e)
    · rw [upd_ne nD]
      exact upd_same
  obtain ⟨s2, l2, u2⟩ := j
  refine ⟨s2 _ _ f1, ?_⟩
  have s3 : Same H (upd H' d (.dK [(Sum.inr "y", .ref lu)])) := lock_same hd.1 s2
  have hd2 := hd.same s3
  have nDd : D ≠ d := fun z => by
    have := s2 _ _ f1
    rw [← z, u2.1] at this
    cases this
  have nld : l2 ≠ d := fun z => by
    have := s2 _ _ f1
    rw [← z, u2.2] at this
    cases this
  have u3 : UsesD (upd H' d (.dK [(Sum.inr "y", .ref lu)])) D l2 := ⟨by rw [upd_ne nDd]; exact u2.1, by rw [upd_ne nld]; exact u2.2⟩
  clear f1 f2 s2 u2
  generalize upd H' d (.dK [(Sum.inr "y", .ref lu)]) = H2 at *
  refine ⟨d, .dK [(Sum.inr "y", .ref lu)], hd2.1, trivial, fun od2 => ?_⟩
  obtain ⟨f1, f2⟩ := hd2.lock od2
  refine ⟨_, rfl, d, od2, rfl, .inl ⟨_, f1, ?_⟩⟩
  refine for_it1 (fun _ H' => Same (upd H2 d (.frz od2 (.dK [(Sum.inr "y", .ref lu)]))) H') (itk_go f1) (fun x' H' y => ?_) fun σ' H' j => ⟨itk_stop (j _ _ f1), j _ _ f1, q _ (s3.trans (lock_same hd2.1 j))⟩
  obtain ⟨rfl, rfl⟩ := itk_y y
  refine ⟨_, rfl, _, rfl, _, rfl, D, rfl, ⟨l2, .inl ?_, ?_⟩, fun p H3 s4 hp => ⟨p, [], rfl, .inl (SqL.of hp), rfl, rfl, _, rfl, ?_⟩⟩
  · rw [upd_ne nDd]
    exact u3.1
  · rw [upd_ne nld]
    exact u3.2
  · exact iteF s4
end
end Wp

/-! list(d.values()) -/
namespace L2
open PySem PySem.Spec PyProof.Rows
section
variable {X : Cx} {o : Expr} {p pos apos mpos : Pos} {td : TE}
def tLstVals (td : TE) : TE := fun σ H Q => td σ H fun x H1 => ∃ a kvs, x = V.ref a ∧ H1 a = some (.dK kvs) ∧ ∀ q, H1 q = none → Q (.ref q) (upd H1 q (.lst (kvs.map (·.2))))
theorem pe_listVals (hc : X.calm = true) (hg : Gl X "list") (hm : X.mg "list" = none) (hd : PE X o td) (hbase : attributeBase o "values" X.env (eval o X.env) = eval o X.env := by rfl) (hline : (apos.endLine == mpos.line) = true := by rfl)
    (na : starEach [Expr.Call (.Attribute o "values" apos) [] [] mpos] X.env = (false, eval (Expr.Call (.Attribute o "values" apos) [] [] mpos) X.env) :: starEach [] X.env := by rfl) :
    PE X (.Call (.Name "list" p) [.Call (.Attribute o "values" apos) [] [] mpos] [] pos) (tLstVals td) := by
  refine ⟨fun pins s σ H Q I h => ?_⟩
  refine Call_ (ld_blt I hg hm boot_list (PyProof.Rows.callWith_type1 (args_cons (wpAny_Call_method (T := "dict") (id := "dict.values") hbase rfl hline F.plainAttrs_dict F.slot_dict_values F.type_dict_values (thn (hd.run pins s σ H _ I h) fun u s1 ⟨x, H1, I1, rx, d, kvs, ex, hk, q⟩ => ?_)) na) na))
  subst ex
  obtain rfl : u = Value.ref d := rx
  obtain ⟨z, hsys, vs, rel, dof⟩ := dk_of I1.hok hk
  obtain ⟨ep, dat⟩ := dof.dictAt
  have hl : kvs.length = vs.length := Paired.length rel
  refine ⟨dof.typeIs, dof.mapOf.noDict, ?_⟩
  have k1 : ∀ b u, s1.heap.get? b = some u → (s1.heap.push { cls := .type "dict_values", data := .fields #[.ref d] }).get? b = some u := fun b u e => Heap.get?_push_of_some _ e
  have I2 : Inv X pins σ H1 { s1 with heap := s1.heap.push { cls := .type "dict_values", data := .fields #[.ref d] } } := I1.kept (t' := s1.toks) k1
  refine method_meetsIn F.slot_dict_values F.entry_dict_values rfl (PySem.evalArgs_none ⟨rfl, dof.typeIs, F.args_dict_values_1 _, _, meets_dict_values (mixKind X.prog X.w) d hsys, ⟨vs, dof⟩, ?_⟩)
  refine args_nil ?_
  refine PySem.W.kdl_call (PySem.W.kdl_values (knd := mixKind X.prog X.w) (r := s1.heap.objs.size) (d := d) (kvs := vs) (ep := ep)) (I2.ok.hd hc) ⟨⟨_, Heap.get?_push_size _ rfl, rfl, rfl⟩, dat.keep k1⟩ (by rw [← hl]; exact z) fun h' tk acc' c' hkeep hS hacc => ?_
  refine ⟨.ref _, upd H1 _ (.lst (kvs.map (·.2))), I2.laid hkeep (Nat.le_refl _) (show ObjOk X.prog X.w _ _ _ (.lst (kvs.map (·.2))) from ⟨?_, acc'.toList, c', ?_, ?_⟩), rfl, q _ (I2.hok.fresh (Nat.le_refl _))⟩
  · rw [List.length_map]; exact z
  · have el : acc'.toList.length = acc'.size := by simp
    refine vals_of_at (by rw [List.length_map, el, hacc.1, hl]) fun j x w h1 h2 => ?_
    obtain ⟨k, hky⟩ := hacc.2 j w (by rw [← Array.getElem?_toList]; exact h2)
    obtain ⟨y, h3, h4⟩ := KV.at' rel hky
    rw [List.getElem?_map, h3] at h1
    have h1 : y = x := Option.some.inj h1
    subst h1
    exact h4
  · rw [Array.toArray_toList]; exact hS
end
end L2

namespace Wp
open PySem PySem.Spec PyProof.Rows L2 Hx
section
variable {P : Program} {w : World} {K : PySem.W.Frag} {mg : Str → Option Value} {base : Heap} {f fP fU fR fI CF : Addr} {fd fdP fdU fdR fdI : FuncData} {cls : Addr → Prop}
def spInPart : Sp := fun vs H Q _ => ∃ d e, vs = [.str "y", .ref d, .ref e] ∧ UsesAt H d ∧ UsesAt H e ∧ ∀ H', Same H H' → Q (.bl false) H'
def NIp : List Str := ["name", "uses", "reached", "owner", "use"]
theorem scInPart : FnScope NIp ["name", "uses", "reached"] (defScope s_is_in_part_ring) := ⟨rfl, rfl, rfl, by decide +kernel, rfl, by decide +kernel, by decide +kernel⟩
theorem ok_inpart (F : Fun K "is_in_part_ring" "is_in_part_ring" s_is_in_part_ring f fd) : FnOk P w K mg base CX0 3 f fd ["name", "uses", "reached"] spInPart := by
  refine F.ok scInPart (fun vs H Q E h => ?_) (fun cdv A outer s H vs Q E hr h => ?_)
  · obtain ⟨d, e, rfl, _⟩ := h
    rfl
  obtain ⟨d, e, rfl, hd, he, q⟩ := h
  have hu : (A.deeper (envOfC "is_in_part_ring" (defScope s_is_in_part_ring) s.heap.objs.size f cdv)).units + 64 < cLine := hr.units
  have hu1 : (A.deeper (envOfC "is_in_part_ring" (defScope s_is_in_part_ring) s.heap.objs.size f cdv)).units + 1 < cLine := by omega
  refine ⟨_, pss_cons (ps_for PassesOwn.never rfl (pi_list (pe_lst (pa_cons (pv 0) (StX.pa_star (pe_dget hu1 (pv 2) (pv 0) (fun _ _ => rfl)) pa_nil)))) (pg_name (i := 3) scInPart.nd rfl (Or.inl rfl))
      (pss_one (ps_for PassesOwn.never rfl (pi_list (pe_dget hu1 (pv 1) (pv 3) (fun _ _ => rfl))) (pg_name (i := 4) scInPart.nd rfl (Or.inl rfl)) pss_no)))
    (pss_one (ps_ret pe_bl)), ?_⟩
  obtain ⟨le, h1, h2⟩ := he
  refine ⟨_, rfl, _, rfl, _, rfl, e, .ref le, rfl, .inl ⟨_, Sum.inr "y", h1, rfl, val_y.symm⟩, le, [], rfl, .inr (SqL.of h2), (by show 1 ≤ sizeLine; decide), fun p hp => ⟨p, rfl, ⟨_, SqL.of upd_same⟩, ?_⟩⟩
  have s1 := same_new hp (.lst [V.str "y"])
  have hp2 : upd H p (.lst [V.str "y"]) p = some (.lst [V.str "y"]) := upd_same
  refine for_it1 (fun _ H' => Same H H' ∧ H' p = some (.lst [V.str "y"])) (itl_go (x := V.str "y") (SqL.of hp2)) (fun x' H' y => ?_) fun σ' H' j => ⟨itl_stop (SqL.of j.2) (by show 1 ≤ 1; decide), q H' j.1⟩
  obtain ⟨rfl, rfl⟩ := itl_y (x := V.str "y") (SqL.of hp2) y
  obtain ⟨lu, h3, h4⟩ := hd.same s1
  exact ⟨_, rfl, _, rfl, d, .ref lu, rfl, .inl ⟨_, Sum.inr "y", h3, rfl, val_y.symm⟩, lu, rfl, ⟨_, SqL.of h4⟩, for_it0 (itl_stop (SqL.of h4) (Nat.le_refl _)) ⟨s1, hp2⟩⟩
def NFp : List Str := ["uses", "followers", "row", "use", "reached", "name"]
theorem scPartR : FnScope NFp ["uses"] (defScope s_first_part_ring) := ⟨rfl, rfl, rfl, by decide +kernel, rfl, by decide +kernel, by decide +kernel⟩
theorem ok_partring (F : Fun K "first_part_ring" "first_part_ring" s_first_part_ring f fd)
    (GR : FnOk P w K mg base CX0 3 fR fdR ["name", "followers"] spReach) (bR : Binds K fdR ["name", "followers"] []) (kR : PySem.W.keepIn K (.ref fR) = true) (mR : mg "reached_from" = some (.ref fR))
    (GI : FnOk P w K mg base CX0 3 fI fdI ["name", "uses", "reached"] spInPart) (bI : Binds K fdI ["name", "uses", "reached"] []) (kI : PySem.W.keepIn K (.ref fI) = true) (mI : mg "is_in_part_ring" = some (.ref fI)) :
    FnOk P w K mg base CX0 4 f fd ["uses"] spOpen := by
  refine F.ok scPartR (fun vs H Q E h => ?_) (fun cdv A outer s H vs Q E hr h => ?_)
  · obtain ⟨d, lu, rfl, _⟩ := h
    rfl
  obtain ⟨d, lu, rfl, hd, q⟩ := h
  have hu : (A.deeper (envOfC "first_part_ring" (defScope s_first_part_ring) s.heap.objs.size f cdv)).units + 64 < cLine := hr.units
  have hu1 : (A.deeper (envOfC "first_part_ring" (defScope s_first_part_ring) s.heap.objs.size f cdv)).units + 1 < cLine := by omega
  refine ⟨_, pss_cons (ps_set (i := 1) scPartR.nd rfl (Or.inr rfl) (pe_lock (pe_dc (tk := tVar 2) (tv := tLc (iList K (tDGet (tVar 0) (tVar 2))) (gName 3) tYes nE [3]) (own := [("row", 2)]) (g := gName 2) (tt := tYes) rfl scPartR.nd (pi_keys (pv 0))
        (blkOk_by (N := NFp) (sc := defScope s_first_part_ring) (by decide +kernel)) (fun _ _ _ _ _ => pg_name (i := 2) scPartR.nd rfl (Or.inl rfl)) (fun _ _ _ _ _ => pts_nil) (fun _ _ _ _ _ => pv 2)
        (fun _ _ _ _ _ => pe_lc (own := [("use", 3)]) (g := gName 3) (tt := tYes) (te := nE) rfl scPartR.nd (pi_list (pe_dget hu1 (pv 0) (pv 2) (fun _ _ => rfl)))
          (blkOk_by (by kernel_rfl)) (fun _ _ _ _ _ => pg_name (i := 3) scPartR.nd rfl (Or.inl rfl)) (fun _ _ _ _ _ => pts_nil) (fun _ _ _ _ _ => pe_no)))))
    (pss_cons (ps_lock (ps_setDc (i := 4) (tk := tVar 2) (tv := tCall spReach [] E0 (tCons (tVar 2) (tCons (tVar 1) tNil))) (own := [("row", 2)]) (g := gName 2) (tt := tYes) rfl scPartR.nd rfl rfl (sw_trueD rfl rfl rfl rfl) (pi_keys (pv 0))
        (blkOk_by (N := NFp) (sc := defScope s_first_part_ring) (by decide +kernel)) (fun _ _ _ _ _ => pg_name (i := 2) scPartR.nd rfl (Or.inl rfl)) (fun _ _ _ _ _ => pts_nil) (fun _ _ _ _ _ => pv 2)
        (fun _ _ _ _ _ => pe_call GR hr rfl mR kR bR .nil pass0 (pa_cons (pv 2) (pa_cons (pv 1) pa_nil)))))
    (pss_cons (ps_lock (ps_for PassesOwn.never rfl (pi_keys (pv 0)) (pg_name (i := 5) scPartR.nd rfl (Or.inl rfl))
      (pss_one (ps_if (pt_val (pe_call GI hr rfl mI kI bI .nil pass0 (pa_cons (pv 5) (pa_cons (pv 0) (pa_cons (pv 4) pa_nil))))) pss_no pss_nil))))
    (pss_one (ps_ret pe_non)))), ?_⟩
  refine ⟨d, .dK [(Sum.inr "y", .ref lu)], hd.1, trivial, fun od => ?_⟩
  obtain ⟨f1, f2⟩ := hd.lock od
  refine ⟨_, rfl, d, od, rfl, .inl ⟨_, f1, fun D hD => ?_⟩⟩
  have s1 := same_new hD (.dK [])
  refine dc_it1 (fun H' => Same (upd H d (.frz od (.dK [(Sum.inr "y", .ref lu)]))) H' ∧ ∃ l2, UsesD H' D l2) (itk_go (s1 _ _ f1)) (fun x' H' y => ?_) fun H' j => ⟨itk_stop (j.1 _ _ f1), ?_⟩
  · obtain ⟨rfl, rfl⟩ := itk_y y
    refine ⟨rfl, turn_yes ⟨_, rfl, _, rfl, _, rfl, d, .ref lu, rfl, .inl ⟨_, Sum.inr "y", .inr ⟨od, s1 _ _ f1⟩, rfl, val_y.symm⟩, lu, rfl, ⟨_, SqL.of (s1 _ _ f2)⟩, fun D2 hD2 => lc_it0 (itl_stop (SqL.of (same_new hD2 _ _ _ (s1 _ _ f2))) (Nat.le_refl _)) ?_⟩⟩
    have s2 := same_new hD2 (.lst [])
    have nD : D2 ≠ D := fun z => by
      rw [z, upd_same] at hD2
      cases hD2
    refine ⟨[], Sum.inr "y", rfl, s2 _ _ upd_same, by decide, fun b o e => ?_, D2, upd_same, ?_⟩
    · rw [upd_ne (ne_of_none e hD)]
      exact s2 _ _ (s1 _ _ e)
    · rw [upd_ne nD]
      exact upd_same
  obtain ⟨s2, l2, u2⟩ := j
  refine ⟨s2 _ _ f1, ?_⟩
  have s3 : Same H (upd H' d (.dK [(Sum.inr "y", .ref lu)])) := lock_same hd.1 s2
  have hd2 := hd.same s3
  have nDd : D ≠ d := fun z => by
    have := s2 _ _ f1
    rw [← z, u2.1] at this
    cases this
  have nld : l2 ≠ d := fun z => by
    have := s2 _ _ f1
    rw [← z, u2.2] at this
    cases this
  have u3 : UsesD (upd H' d (.dK [(Sum.inr "y", .ref lu)])) D l2 := ⟨by rw [upd_ne nDd]; exact u2.1, by rw [upd_ne nld]; exact u2.2⟩
  clear f1 f2 s2 u2 s1 hD
  generalize upd H' d (.dK [(Sum.inr "y", .ref lu)]) = H2 at *
  refine ⟨d, .dK [(Sum.inr "y", .ref lu)], hd2.1, trivial, fun od2 => ?_⟩
  obtain ⟨f1, f2⟩ := hd2.lock od2
  have u4 : UsesD (upd H2 d (.frz od2 (.dK [(Sum.inr "y", .ref lu)]))) D l2 := ⟨by rw [upd_ne nDd]; exact u3.1, by rw [upd_ne nld]; exact u3.2⟩
  refine ⟨_, rfl, d, od2, rfl, .inl ⟨_, f1, fun R hR => ?_⟩⟩
  have s5 := same_new hR (.dK [])
  refine dc_it1 (fun H' => Same (upd H2 d (.frz od2 (.dK [(Sum.inr "y", .ref lu)]))) H' ∧ ∃ l3, UsesD H' R l3) (itk_go (s5 _ _ f1)) (fun x' H3 y => ?_) fun H3 j => ⟨itk_stop (j.1 _ _ f1), ?_⟩
  · obtain ⟨rfl, rfl⟩ := itk_y y
    refine ⟨rfl, turn_yes ⟨_, rfl, _, rfl, _, rfl, D, rfl, (u4.same s5).at_, fun p H4 s6 hp => ?_⟩⟩
    have hR4 := s6 _ _ (upd_same (H := upd H2 d (.frz od2 (.dK [(Sum.inr "y", .ref lu)]))) (a := R) (o := HO.dK []))
    have nR : p ≠ R := fun z => by
      rw [z, hR4] at hp
      cases hp
    refine ⟨[], Sum.inr "y", rfl, hR4, by decide, fun b o e => ?_, p, upd_same, ?_⟩
    · rw [upd_ne (ne_of_none e hR)]
      exact s6 _ _ (s5 _ _ e)
    · rw [upd_ne nR]
      exact hp
  obtain ⟨s6, l3, u5⟩ := j
  refine ⟨s6 _ _ f1, ?_⟩
  have s7 : Same H2 (upd H3 d (.dK [(Sum.inr "y", .ref lu)])) := lock_same hd2.1 s6
  have hd3 := hd2.same s7
  have nRd : R ≠ d := fun z => by
    have := s6 _ _ f1
    rw [← z, u5.1] at this
    cases this
  have n3d : l3 ≠ d := fun z => by
    have := s6 _ _ f1
    rw [← z, u5.2] at this
    cases this
  have u6 : UsesD (upd H3 d (.dK [(Sum.inr "y", .ref lu)])) R l3 := ⟨by rw [upd_ne nRd]; exact u5.1, by rw [upd_ne n3d]; exact u5.2⟩
  clear f1 f2 s6 u5 s5 hR
  generalize upd H3 d (.dK [(Sum.inr "y", .ref lu)]) = H5 at *
  refine ⟨d, .dK [(Sum.inr "y", .ref lu)], hd3.1, trivial, fun od3 => ?_⟩
  obtain ⟨f1, f2⟩ := hd3.lock od3
  have u7 : UsesD (upd H5 d (.frz od3 (.dK [(Sum.inr "y", .ref lu)]))) R l3 := ⟨by rw [upd_ne nRd]; exact u6.1, by rw [upd_ne n3d]; exact u6.2⟩
  refine ⟨_, rfl, d, od3, rfl, .inl ⟨_, f1, ?_⟩⟩
  refine for_it1 (fun _ H' => Same (upd H5 d (.frz od3 (.dK [(Sum.inr "y", .ref lu)]))) H') (itk_go f1) (fun x' H' y => ?_) fun σ' H' j => ⟨itk_stop (j _ _ f1), j _ _ f1, q _ ((s3.trans s7).trans (lock_same hd3.1 j))⟩
  obtain ⟨rfl, rfl⟩ := itk_y y
  exact ⟨_, rfl, _, rfl, _, rfl, d, R, rfl, ⟨lu, .inr ⟨od3, f1⟩, f2⟩, u7.at_, fun H6 s8 => ⟨_, rfl, iteF s8⟩⟩
end
end Wp

namespace Wp
open PySem PySem.Spec PyProof.Rows L2 Hx
section
variable {P : Program} {w : World} {K : PySem.W.Frag} {mg : Str → Option Value} {base : Heap} {f fP fU fR fI CF : Addr} {fd fdP fdU fdR fdI : FuncData} {cls : Addr → Prop}
def spInside (CF : Addr) (cls : Addr → Prop) : Sp := fun vs H Q _ => ∃ a, vs = [.ref a] ∧ NmAt CF cls H a ∧ ∀ H', Same H H' → Q (.int 0) H'
def NIn : List Str := ["expression", "knot", "is_open", "parts"]
theorem scInside : FnScope NIn ["expression"] (defScope s_parts_inside) := ⟨rfl, rfl, rfl, by decide +kernel, rfl, by decide +kernel, by decide +kernel⟩
theorem ok_inside (F : Fun K "parts_inside" "parts_inside" s_parts_inside f fd) (L : Kls P w K mg base CF cls) (zm : mg "max" = none)
    (GP : FnOk P w K mg base CX0 3 fP fdP ["expression"] (spPaths CF cls)) (bP : Binds K fdP ["expression"] []) (kP : PySem.W.keepIn K (.ref fP) = true) (mP : mg "paths_of" = some (.ref fP)) :
    FnOk P w K mg base CX0 4 f fd ["expression"] (spInside CF cls) := by
  refine F.ok scInside (fun vs H Q E h => ?_) (fun cdv A outer s H vs Q E hr h => ?_)
  · obtain ⟨a, rfl, _⟩ := h
    rfl
  obtain ⟨a, rfl, nm, q⟩ := h
  have r2 := hr.mono (by decide : 2 ≤ 3)
  refine ⟨_, pss_one (ps_ret (pe_callB (cr_max rfl) (by rfl) zm PyProof.Rows.boot_max (pa_cons
      (pe_lc (te := tVar 3) (own := [("knot", 1), ("is_open", 2), ("parts", 3)]) (g := gTup K 3 (gCons (gName 1) (gCons (gName 2) (gCons (gName 3) gNil)))) (tt := tNot (fun σ H Q => tPropA P w K mg base 1 "inner" (tVar 1) σ H fun x H' => ∃ k, TruV K x H' k ∧ Q k H')) rfl scInside.nd
        (pi_list (pe_call GP hr rfl mP kP bP .nil pass0 (pa_cons (pv 0) pa_nil))) (blkOk_by (N := NIn) (sc := defScope s_parts_inside) (by decide +kernel))
        (fun _ _ _ _ _ => pg_tup (by rfl) (pgs_cons (pg_name (i := 1) scInside.nd rfl (Or.inl rfl)) (pgs_cons (pg_name (i := 2) scInside.nd rfl (Or.inl rfl)) (pgs_cons (pg_name (i := 3) scInside.nd rfl (Or.inl rfl)) pgs_nil))))
        (fun _ _ _ _ _ => pts_one (pt_not (pt_truth (pe_propA (k := 1) (pv 1) r2 rfl) (fun _ => rfl)))) (fun _ _ _ _ _ => pv 3)) pa_nil))), ?_⟩
  refine ⟨_, rfl, a, rfl, nm, fun p t H1 s1 hp ht => ⟨p, rfl, ⟨_, SqL.of hp⟩, fun D hD => ?_⟩⟩
  have s2 := same_new hD (.lst [])
  refine lc_it1 (fun H' => Same H1 H' ∧ H' D = some (.lst [.int 0])) (itl_go (SqL.of (s2 _ _ hp))) (fun x' H' y => ?_) fun H' j => ⟨itl_stop (SqL.of (j.1 _ _ hp)) (by show 1 ≤ 1; decide), ?_⟩
  · obtain ⟨rfl, rfl⟩ := itl_y (SqL.of (s2 _ _ hp)) y
    refine ⟨t, _, rfl, SqT.of (s2 _ _ ht), rfl, _, _, rfl, _, _, rfl, _, _, rfl, rfl, rfl, ?_⟩
    refine ⟨_, rfl, nm_inner L (nm.same (s1.trans s2)) fun pi g4 => ⟨false, .inr (.inl ⟨[], SqT.of g4, rfl⟩), iteT ⟨_, rfl, [], upd_same, by decide, fun b o e => ?_, upd_same⟩⟩⟩
    rw [upd_ne (ne_of_none e hD)]
    exact s2 _ _ e
  · refine ⟨D, [0], rfl, SqL.of j.2, by decide, fun m hm _ => ?_⟩
    rw [List.mem_singleton.mp hm]
    exact q H' (s1.trans j.1)
def spMost (CF : Addr) (cls : Addr → Prop) : Sp := fun vs H Q _ => ∃ pr d, vs = [.ref pr, .ref d] ∧ RowsAt CF cls H pr ∧ UsesAt H d ∧ ∀ H', Same H H' → Q (.int 0) H'
def NMo : List Str := ["rows", "uses", "most", "name", "expression", "times", "use"]
theorem scMost : FnScope NMo ["rows", "uses"] (defScope s_most_parts) := ⟨rfl, rfl, rfl, by decide +kernel, rfl, by decide +kernel, by decide +kernel⟩
theorem ok_most (F : Fun K "most_parts" "most_parts" s_most_parts f fd) (zm : mg "max" = none) (zr : mg "range" = none) (zl : mg "len" = none) (zli : mg "list" = none)
    (GI : FnOk P w K mg base CX0 4 fI fdI ["expression"] (spInside CF cls)) (bI : Binds K fdI ["expression"] []) (kI : PySem.W.keepIn K (.ref fI) = true) (mI : mg "parts_inside" = some (.ref fI)) :
    FnOk P w K mg base CX0 5 f fd ["rows", "uses"] (spMost CF cls) := by
  refine F.ok scMost (fun vs H Q E h => ?_) (fun cdv A outer s H vs Q E hr h => ?_)
  · obtain ⟨pr, d, rfl, _⟩ := h
    rfl
  obtain ⟨pr, d, rfl, ⟨pp, a, h1, h2, nm⟩, hd, q⟩ := h
  have hu : (A.deeper (envOfC "most_parts" (defScope s_most_parts) s.heap.objs.size f cdv)).units + 64 < cLine := hr.units
  have hu1 : (A.deeper (envOfC "most_parts" (defScope s_most_parts) s.heap.objs.size f cdv)).units + 1 < cLine := by omega
  refine ⟨_, pss_cons (ps_set (i := 2) scMost.nd rfl (Or.inr rfl) (pe_dc (tk := tVar 3) (tv := tCall (spInside CF cls) [] E0 (tCons (tVar 4) tNil)) (own := [("name", 3), ("expression", 4)]) (g := gTup K 2 (gCons (gName 3) (gCons (gName 4) gNil))) (tt := tYes) rfl scMost.nd (pi_tup (pv 0))
        (blkOk_by (N := NMo) (sc := defScope s_most_parts) (by decide +kernel)) (fun _ _ _ _ _ => pg_tup (by rfl) (pgs_cons (pg_name (i := 3) scMost.nd rfl (Or.inl rfl)) (pgs_cons (pg_name (i := 4) scMost.nd rfl (Or.inl rfl)) pgs_nil))) (fun _ _ _ _ _ => pts_nil)
        (fun _ _ _ _ _ => pv 3) (fun _ _ _ _ _ => pe_call GI hr rfl mI kI bI .nil pass0 (pa_cons (pv 4) pa_nil))))
    (pss_cons (ps_for PassesOwn.never rfl (pi_range1 rfl zr (pa_cons (pe_callB call_len_seq (by rfl) zl PySem.boot_len (pa_cons (pv 0) pa_nil)) pa_nil)) (pg_name (i := 5) scMost.nd rfl (Or.inl rfl))
      (pss_one (ps_set (i := 2) scMost.nd rfl (Or.inr rfl) (pe_lock (pe_dc (tk := tVar 3) (tv := tCB (rMax K) (tCons (tLst (tCons (tDGet (tVar 2) (tVar 3)) (StX.tStar K (tLc (iList K (tDGet (tVar 1) (tVar 3))) (gName 6) tYes nE [6]) tNil))) tNil)) (own := [("name", 3)]) (g := gName 3) (tt := tYes) rfl scMost.nd (pi_keys (pv 2))
        (blkOk_by (N := NMo) (sc := defScope s_most_parts) (by decide +kernel)) (fun _ _ _ _ _ => pg_name (i := 3) scMost.nd rfl (Or.inl rfl)) (fun _ _ _ _ _ => pts_nil) (fun _ _ _ _ _ => pv 3)
        (fun _ _ _ _ _ => pe_callB (cr_max rfl) (by rfl) zm PyProof.Rows.boot_max (pa_cons (pe_lst (pa_cons (pe_dget hu1 (pv 2) (pv 3) (fun _ _ => rfl)) (StX.pa_star
          (pe_lc (own := [("use", 6)]) (g := gName 6) (tt := tYes) (te := nE) rfl scMost.nd (pi_list (pe_dget hu1 (pv 1) (pv 3) (fun _ _ => rfl)))
            (blkOk_by (by kernel_rfl)) (fun _ _ _ _ _ => pg_name (i := 6) scMost.nd rfl (Or.inl rfl)) (fun _ _ _ _ _ => pts_nil) (fun _ _ _ _ _ => pe_no)) pa_nil))) pa_nil)))))))
    (pss_one (ps_ret (pe_callB (cr_max rfl) (by rfl) zm PyProof.Rows.boot_max (pa_cons (pe_listVals rfl rfl zli (pv 2)) pa_nil))))), ?_⟩
  refine ⟨_, rfl, pr, rfl, ⟨_, SqT.of h1⟩, fun D hD => ?_⟩
  have s1 := same_new hD (.dK [])
  refine dc_it1 (fun H' => Same H H' ∧ H' D = some (.dK [(Sum.inr "y", .int 0)])) (itt_go (SqT.of (s1 _ _ h1))) (fun x' H' y => ?_) fun H' j => ⟨itt_stop (SqT.of (j.1 _ _ h1)) (by show 1 ≤ 1; decide), ?_⟩
  · obtain ⟨rfl, rfl⟩ := itt_y (SqT.of (s1 _ _ h1)) y
    refine ⟨pp, _, rfl, SqT.of (s1 _ _ h2), rfl, _, _, rfl, _, _, rfl, rfl, rfl, turn_yes ?_⟩
    refine ⟨_, rfl, _, rfl, a, rfl, nm.same s1, fun H5 s5 => ?_⟩
    have h5 := s5 _ _ (upd_same (H := H) (a := D) (o := HO.dK []))
    refine ⟨[], Sum.inr "y", rfl, h5, by decide, fun b o e => ?_, upd_same⟩
    rw [upd_ne (ne_of_none e hD)]
    exact s5 _ _ (s1 _ _ e)
  obtain ⟨s2, hD2⟩ := j
  refine ⟨_, rfl, pr, _, rfl, .inr (SqT.of (s2 _ _ h1)), 1, rfl, by decide, by decide, ?_⟩
  refine for_it1 (fun σ' H3 => Same H H3 ∧ ∃ D', H3 D' = some (.dK [(Sum.inr "y", .int 0)]) ∧ σ'[2]? = some (some (.ref D')) ∧ σ'[0]? = some (some (.ref pr)) ∧ σ'[1]? = some (some (.ref d))) (by show 0 < 1; decide) (fun x' H3 y => ?_) fun σ' H3 j => ⟨by show 1 ≤ 1; decide, ?_⟩
  · obtain ⟨rfl, rfl⟩ := y
    refine ⟨D, .dK [(Sum.inr "y", .int 0)], hD2, trivial, fun od => ?_⟩
    have f1 : upd H3 D (.frz od (.dK [(Sum.inr "y", .int 0)])) D = some (.frz od (.dK [(Sum.inr "y", .int 0)])) := upd_same
    have nDd : d ≠ D := fun z => by
      obtain ⟨lu, g1, _⟩ := hd
      rw [z] at g1
      rcases g1 with g1 | ⟨o, g1⟩
      · exact absurd g1 (by rw [hD]; exact fun z => nomatch z)
      · exact absurd g1 (by rw [hD]; exact fun z => nomatch z)
    have hdl : UsesAt (upd H3 D (.frz od (.dK [(Sum.inr "y", .int 0)]))) d := by
      obtain ⟨lu, g1, g2⟩ := hd.same s2
      have nl : lu ≠ D := fun z => by
        rw [z, hD2] at g2
        cases g2
      refine ⟨lu, ?_, by rw [upd_ne nl]; exact g2⟩
      rcases g1 with g1 | ⟨o, g1⟩
      · exact .inl (by rw [upd_ne nDd]; exact g1)
      · exact .inr ⟨o, by rw [upd_ne nDd]; exact g1⟩
    refine ⟨_, rfl, D, od, rfl, .inl ⟨_, f1, fun D2 hD2' => ?_⟩⟩
    have s3 := same_new hD2' (.dK [])
    refine dc_it1 (fun H4 => Same (upd H3 D (.frz od (.dK [(Sum.inr "y", .int 0)]))) H4 ∧ H4 D2 = some (.dK [(Sum.inr "y", .int 0)])) (itk_go (s3 _ _ f1)) (fun x' H4 y => ?_) fun H4 j => ⟨itk_stop (j.1 _ _ f1), ?_⟩
    · obtain ⟨rfl, rfl⟩ := itk_y y
      obtain ⟨lu, g1, g2⟩ := hdl.same s3
      refine ⟨rfl, turn_yes ⟨_, rfl, ?_⟩⟩
      refine ⟨_, rfl, _, rfl, D, .int 0, rfl, .inl ⟨_, Sum.inr "y", .inr ⟨od, s3 _ _ f1⟩, rfl, val_y.symm⟩, ?_⟩
      refine ⟨_, rfl, _, rfl, d, .ref lu, rfl, .inl ⟨_, Sum.inr "y", g1, rfl, val_y.symm⟩, lu, rfl, ⟨_, SqL.of g2⟩, fun D3 hD3 => lc_it0 (itl_stop (SqL.of (same_new hD3 _ _ _ g2)) (Nat.le_refl _)) ?_⟩
      have s4 := same_new hD3 (.lst [])
      refine ⟨D3, [], rfl, .inr (SqL.of upd_same), (by show 1 ≤ sizeLine; decide), fun p4 hp4 => ⟨p4, [0], rfl, SqL.of upd_same, by decide, fun m hm _ => ?_⟩⟩
      have s5 := same_new hp4 (.lst [V.int 0])
      rw [List.mem_singleton.mp hm]
      have h5 := s5 _ _ (s4 _ _ (upd_same (H := upd H3 D (.frz od (.dK [(Sum.inr "y", .int 0)]))) (a := D2) (o := HO.dK [])))
      refine ⟨[], Sum.inr "y", rfl, h5, by decide, fun b o e => ?_, upd_same⟩
      rw [upd_ne (ne_of_none e hD2')]
      exact s5 _ _ (s4 _ _ (s3 _ _ e))
    · obtain ⟨s5, h5⟩ := j
      have n2 : D2 ≠ D := fun z => by
        rw [z, upd_same] at hD2'
        cases hD2'
      refine ⟨s5 _ _ f1, s2.trans (lock_same hD2 s5), D2, ?_, rfl, rfl, rfl⟩
      rw [upd_ne n2]
      exact h5
  · obtain ⟨s5, D', h5, e2, e0, e1⟩ := j
    refine ⟨_, e2, D', _, rfl, h5, fun r hr' => ⟨r, [0], rfl, SqL.of upd_same, by decide, fun m hm _ => ?_⟩⟩
    rw [List.mem_singleton.mp hm]
    exact q _ (s5.trans (same_new hr' _))
end
end Wp

/-! enumerate(text) -/
namespace Hx
open PySem PySem.Spec PyProof.Rows L2
/-- the signs of a text, each in a new pair with its index -/
def Ites (x : Str) : It :=
  ⟨fun i _ => i < x.cps.size, fun i H v H' => ∃ T c, v = .ref T ∧ H T = none ∧ H' = upd H T (.tup [.int (i : Nat), .str ⟨#[c]⟩]) ∧ x.cps[i]? = some c, fun i _ => i = x.cps.size⟩
theorem draws_str {prog : Program} {w : World} {A : Around} (hh : A.handled = none) (it : Addr) (x : Str) (t : Tok) (ty : String) (hty : ty = "str_ascii_iterator" ∨ ty = "str_iterator") :
    Draws prog w A it [it] x.cps.size (fun i v => ∃ c u, x.cps[i]? = some c ∧ v = .str ⟨#[c]⟩ u) (fun i h => h.IsStrIter it ty x t i) := by
  rcases hty with e | e
  · rw [e]; exact Draws.strAscii hh it x t
  · rw [e]; exact Draws.strWide hh it x t
theorem turn_enumS {P : Program} {w : World} {K : PySem.W.Frag} {elts : List Expr} {kk : Nat} {tpos : Pos} (x : Str) (t : Tok) (ty : String) (hty : ty = "str_ascii_iterator" ∨ ty = "str_iterator") (e it : Addr) :
    Turn P w K (.Tuple elts kk tpos) (Ites x) [e, it] e (fun i h => (∃ old, IsEnum h e it ((i : Nat) : Int) old) ∧ h.IsStrIter it ty x t i ∧ e ≠ it) where
  mem := by simp
  obj := fun i h st b hb => by
    obtain ⟨⟨old, he⟩, ⟨o, ho, hc, hd⟩, _⟩ := st
    have e' : b = e ∨ b = it := by simpa using hb
    rcases e' with z | z
    · rw [z]; exact ⟨_, he, fun v q => nomatch q⟩
    · rw [z]; exact ⟨o, ho, fun v q => by rw [hd] at q; cases q⟩
  keep := fun i h h' st k => let ⟨⟨old, he⟩, ⟨o, ho, r⟩, hne⟩ := st; ⟨⟨old, k e (by simp) _ he⟩, ⟨o, k it (by simp) o ho, r⟩, hne⟩
  item := by
    intro X hP hw hK hc i pins s σ H E I hf st hg
    subst hP hw hK
    obtain ⟨⟨old, he⟩, hit, hne⟩ := st
    have hel : e < s.heap.objs.size := Heap.lt_size he
    have hil : it < s.heap.objs.size := by obtain ⟨_, q, _⟩ := hit; exact Heap.lt_size q
    have D := draws_str (prog := X.prog) (w := X.w) (A := X.A.in1) (I.ok.hd hc) it x t ty hty
    refine wpAny_pyNext_enum_itemD D he hit hg hne (by simpa using hne) fun v h' tk hv ho hit' hT hsz hk => ?_
    obtain ⟨c, u, hcx, rfl⟩ := hv
    refine ⟨_, rfl, wpAny_letOwnedTupleGo_enum (s := { s with heap := h', toks := tk + 1 }) ho fun h'' he' sb => ?_⟩
    have hT2 : h''.get? s.heap.objs.size = some { cls := .type "tuple", data := .seq #[.int i tk, .str ⟨#[c]⟩ u] } := (sb.2 _ (Nat.ne_of_gt hel)).trans hT
    have new : ObjOk X.prog X.w (upd H s.heap.objs.size (.tup [.int (i : Nat), .str ⟨#[c]⟩])) h'' s.heap.objs.size (.tup [.int (i : Nat), .str ⟨#[c]⟩]) :=
      ⟨by show 2 ≤ sizeLine; decide, [.int i tk, .str ⟨#[c]⟩ u], .cons ⟨_, rfl⟩ (.cons ⟨_, rfl⟩ .nil), ⟨_, hT2, rfl, _, rfl⟩⟩
    have I1 : Inv X pins σ (upd H s.heap.objs.size (.tup [.int (i : Nat), .str ⟨#[c]⟩])) { s with heap := h'', toks := tk + 1 } :=
      I.turnedNew (ch := [e, it]) (fun b ob hb q => (sb.2 b (fun z => hb (by simp [z]))).trans (hk b ob (fun z => hb (by simp [z])) (fun z => hb (by simp [z])) q)) hf (Nat.le_refl _) new
    refine ⟨.ref s.heap.objs.size, _, I1, rfl, ⟨_, c, rfl, I.hok.fresh (Nat.le_refl _), rfl, hcx⟩, ⟨⟨.str ⟨#[c]⟩ u, ?_⟩, ?_, hne⟩, fun b hb => ?_⟩
    · have e1 : ((i + 1 : Nat) : Int) = (i : Int) + 1 := by omega
      rw [e1]; exact he'
    · obtain ⟨o, ho2, r⟩ := hit'
      exact ⟨o, (sb.2 it (Ne.symm hne)).trans ho2, r⟩
    · have hb' : b < s.heap.objs.size := by
        have e' : b = e ∨ b = it := by simpa using hb
        rcases e' with z | z
        · rw [z]; exact hel
        · rw [z]; exact hil
      rw [upd_ne (Nat.ne_of_lt hb')]
      exact (hf b hb).1
  done := by
    intro X hP hw hK hc i pins s σ H E I hf st hg
    subst hP hw hK
    obtain ⟨⟨old, he⟩, hit, hne⟩ := st
    have hg' : i = x.cps.size := hg
    subst hg'
    obtain ⟨f0, f1, f2, f3, f4, f5⟩ := hf it (by simp)
    have D := draws_str (prog := X.prog) (w := X.w) (A := X.A.in1) (I.ok.hd hc) it x t ty hty
    exact wpAny_pyNext_enum_endD D he hit fun h' eb => ⟨rfl, I.turned (t' := s.toks) (fun b o hb q => eb b o hb q) f0 f1 f3 f4 f5⟩
  self := fun A i s Q E st h => let ⟨⟨_, he⟩, _⟩ := st; wpAny_pyIter_enum he h
def iEnumS (ta : TA) : TI := fun σ H R => ta σ H fun vs H1 => ∃ x : Str, vs = [.str x] ∧ R (Ites x) H1
theorem pi_enumS {X : Cx} {e : Expr} {ta : TA} {p pos tpos : Pos} {elts : List Expr} {kk : Nat} (hg : Gl X "enumerate") (hm : X.mg "enumerate" = none) (ha : PA X [e] ta) (hs : starEach [e] X.env = [(false, eval e X.env)] := by rfl) :
    PI X (.Tuple elts kk tpos) (.Call (.Name "enumerate" p) [e] [] pos) (iEnumS ta) := by
  refine ⟨fun pins s σ H R I h => ?_⟩
  refine Call_ (ld_blt I hg hm boot_enumerate (PyProof.Rows.callWith_type1 (thn (ha.run pos pins s σ H _ I h) fun us s1 ⟨vs, H1, I1, r1, q1⟩ => ?_) hs rfl))
  obtain ⟨x, ex, q⟩ := q1
  subst ex
  cases r1 with
  | cons r rr =>
    cases rr
    obtain ⟨t, rfl⟩ := r
    have hty : strIterType x = "str_ascii_iterator" ∨ strIterType x = "str_iterator" := by
      unfold strIterType
      split
      · exact .inl rfl
      · exact .inr rfl
    refine call_enumerate_str fun h' he hit hsz hk => wpAny_pyIter_enum he ?_
    have I2 : Inv X pins σ H1 { s1 with heap := h' } := I1.kept (t' := s1.toks) hk
    refine ⟨s1.heap.objs.size + 1, [s1.heap.objs.size + 1, s1.heap.objs.size], _, _, H1, rfl, I2, turn_enumS x t _ hty (s1.heap.objs.size + 1) s1.heap.objs.size, ⟨⟨.none, he⟩, hit, Nat.succ_ne_self _⟩, fun b hb => ?_, q⟩
    have e' : b = s1.heap.objs.size + 1 ∨ b = s1.heap.objs.size := by simpa using hb
    have hle : s1.heap.objs.size ≤ b := by
      rcases e' with z | z
      · rw [z]; exact Nat.le_add_right _ _
      · rw [z]; exact Nat.le_refl _
    exact I1.fpOk hle (I1.hok.fresh hle)
end Hx

/-! enumerate(a tuple) -/
namespace PySem
open Sem (wp)
open AutoSeq1 (wpAny_loadPart')
theorem meets_enumerate_newT (l : Addr) (o : Obj) (items : Array Value) (hc : o.cls = .type "tuple") (n : Nat) (hd : o.data = .seq items n) :
    Meets (Builtin.«enumerate.__new__» ⟨[.type "enumerate", .ref l], []⟩) (fun _ R s => s.heap.get? l = some o ∧
      R (.ok (.ret (.ref (s.heap.push { cls := .type "tuple_iterator", data := .fields #[.ref l, .int 0 0] }).objs.size)))
        { s with heap := (s.heap.push { cls := .type "tuple_iterator", data := .fields #[.ref l, .int 0 0] }).push { cls := .type "enumerate", data := .fields #[.none, .bool false, .ref s.heap.objs.size, rawInt 0, .none, .none] } }) :=
  .of_wp fun prog w A R s h => by
    obtain ⟨hp, g, d, tk, os⟩ := s; obtain ⟨hl, h⟩ := h
    have hsub := sub_enumerate
    have hL : Heap.IsTuple (Shared.heap ⟨hp, g, d, tk, os⟩) l items := ⟨_, hl, hc, n, hd⟩
    wp_walk using wpAny_loadPart' hl
    refine wpAny_stack_any fun st => wpAny_pure ?_
    split
    · rename_i c _ _ _ _ _
      cases (c == Value.type "enumerate")
      · wp_walk using wpAny_loadPart' hl, wpAny_pyIter_tuple hL
        exact ⟨_, rfl, h⟩
      · wp_walk using wpAny_loadPart' hl, wpAny_pyIter_tuple hL
        exact ⟨_, rfl, h⟩
    · wp_walk using wpAny_loadPart' hl, wpAny_pyIter_tuple hL
      exact ⟨_, rfl, h⟩
section
variable {prog : Program} {w : World} {A : Around} {E : Value → Shared → Prop} {s : Shared}
theorem call_enumerate_tuple {l : Addr} {items : Array Value} {Q : Value → Shared → Prop} (hL : s.heap.IsTuple l items)
    (h : ∀ h', IsEnum h' (s.heap.objs.size + 1) s.heap.objs.size 0 .none → h'.IsTupleIter s.heap.objs.size l 0 → h'.objs.size = s.heap.objs.size + 2 →
      (∀ b o, s.heap.get? b = some o → h'.get? b = some o) → Q (.ref (s.heap.objs.size + 1)) { s with heap := h' }) :
    wpAny (model prog w) A (call (.type "enumerate") [.ref l]) Q E s := by
  obtain ⟨o, hl, hc, n, hd⟩ := hL
  refine callType_new F.called_enumerate (by decide) (F.typeCall_enumerate_1 _) (F.newCall_enumerate_1 _) (fun obj => F.args_object_init_2 obj _) F.entry_enumerate_new
    (meets_enumerate_newT l o items hc n hd) ⟨hl, ?_⟩
  have hz : (s.heap.push { cls := .type "tuple_iterator", data := .fields #[.ref l, .int 0 0] }).objs.size = s.heap.objs.size + 1 := Heap.size_push ..
  show _ ∧ _
  rw [hz]
  have he : IsEnum ((s.heap.push { cls := .type "tuple_iterator", data := .fields #[.ref l, .int 0 0] }).push
      { cls := .type "enumerate", data := .fields #[.none, .bool false, .ref s.heap.objs.size, rawInt 0, .none, .none] }) (s.heap.objs.size + 1) s.heap.objs.size 0 .none := by
    have := Heap.get?_push_size (s.heap.push { cls := .type "tuple_iterator", data := .fields #[.ref l, .int 0 0] })
      (o := { cls := .type "enumerate", data := .fields #[.none, .bool false, .ref s.heap.objs.size, rawInt 0, .none, .none] }) rfl
    rw [hz] at this; exact this
  refine ⟨⟨_, he, rfl⟩, h _ he ⟨_, Heap.get?_push_of_some _ (Heap.get?_push_size _ rfl), rfl, rfl⟩ (by rw [Heap.size_push, hz]) fun b o x => Heap.get?_push_of_some _ (Heap.get?_push_of_some _ x)⟩
end
end PySem
namespace L2
open PySem PySem.Spec PyProof.Rows
/-- the tuple at a as it stands at each turn, each item in a new pair -/
def Itet (K : PySem.W.Frag) (a : Addr) : It :=
  ⟨fun i H => ∃ (xs : List V) (x : V), SqT K H a xs ∧ xs[i]? = some x, fun i H v H' => ∃ T x, v = .ref T ∧ H T = none ∧ H' = upd H T (.tup [.int (i : Nat), x]) ∧ ∀ xs, SqT K H a xs → xs[i]? = some x, fun i H => ∃ xs : List V, SqT K H a xs ∧ xs.length = i⟩
theorem turn_enumT {P : Program} {w : World} {K : PySem.W.Frag} {elts : List Expr} {kk : Nat} {tpos : Pos} (a e it : Addr) :
    Turn P w K (.Tuple elts kk tpos) (Itet K a) [e, it] e (fun i h => (∃ old, IsEnum h e it ((i : Nat) : Int) old) ∧ h.IsTupleIter it a i ∧ e ≠ it) where
  mem := by simp
  obj := fun i h st b hb => by
    obtain ⟨⟨old, he⟩, ⟨o, ho, hc, hd⟩, _⟩ := st
    have e' : b = e ∨ b = it := by simpa using hb
    rcases e' with z | z
    · rw [z]; exact ⟨_, he, fun v q => nomatch q⟩
    · rw [z]; exact ⟨o, ho, fun v q => by rw [hd] at q; cases q⟩
  keep := fun i h h' st k => let ⟨⟨old, he⟩, hi, hne⟩ := st; ⟨⟨old, k e (by simp) _ he⟩, hi.at fun o q => k it (by simp) o q, hne⟩
  item := by
    intro X hP hw hK hc i pins s σ H E I hf st hg
    subst hP hw hK
    obtain ⟨⟨old, he⟩, hit, hne⟩ := st
    obtain ⟨xs, x, hq, hx⟩ := hg
    obtain ⟨its, rv, p, hz⟩ := I.tuple hq
    have hT0 : s.heap.IsTuple a its.toArray := p
    obtain ⟨u, hu, ru⟩ := rv.get hx
    have hel : e < s.heap.objs.size := Heap.lt_size he
    have hil : it < s.heap.objs.size := by obtain ⟨_, q, _⟩ := hit; exact Heap.lt_size q
    have hea : e ≠ a := fun z => by obtain ⟨o, q, hc', _⟩ := hT0; rw [z] at he; have he' : s.heap.get? a = some _ := he; rw [q] at he'; cases Option.some.inj he'; exact absurd (Value.type.inj hc') (by decide)
    have hta : a ≠ it := fun z => by obtain ⟨o, q, hc', _⟩ := hT0; obtain ⟨o2, q2, hc2, _⟩ := hit; rw [← z, q] at q2; cases Option.some.inj q2; rw [hc'] at hc2; exact absurd (Value.type.inj hc2) (by decide)
    have D := Draws.tuple (prog := X.prog) (w := X.w) (A := X.A.in1) (I.ok.hd hc) it a hta its.toArray
    have hlt : i < its.toArray.size := by
      have : i < its.length := (List.getElem?_eq_some_iff.mp hu).1
      simpa using this
    refine wpAny_pyNext_enum_itemD D he ⟨hit, hT0⟩ hlt hne (by simpa using ⟨hne, hea⟩) fun v h' tk hv ho hit' hT hsz hk => ?_
    have ev : v = u := by
      have hv' : its.toArray[i]? = some v := hv
      rw [List.getElem?_toArray, hu] at hv'
      exact (Option.some.inj hv').symm
    subst ev
    refine ⟨_, rfl, wpAny_letOwnedTupleGo_enum (s := { s with heap := h', toks := tk + 1 }) ho fun h'' he' sb => ?_⟩
    have hT2 : h''.get? s.heap.objs.size = some { cls := .type "tuple", data := .seq #[.int i tk, v] } := (sb.2 _ (Nat.ne_of_gt hel)).trans hT
    have new : ObjOk X.prog X.w (upd H s.heap.objs.size (.tup [.int (i : Nat), x])) h'' s.heap.objs.size (.tup [.int (i : Nat), x]) :=
      ⟨by show 2 ≤ sizeLine; decide, [.int i tk, v], .cons ⟨_, rfl⟩ (.cons ru .nil), ⟨_, hT2, rfl, _, rfl⟩⟩
    have I1 : Inv X pins σ (upd H s.heap.objs.size (.tup [.int (i : Nat), x])) { s with heap := h'', toks := tk + 1 } :=
      I.turnedNew (ch := [e, it]) (fun b ob hb q => (sb.2 b (fun z => hb (by simp [z]))).trans (hk b ob (fun z => hb (by simp [z])) (fun z => hb (by simp [z])) q)) hf (Nat.le_refl _) new
    refine ⟨.ref s.heap.objs.size, _, I1, rfl, ⟨_, x, rfl, I.hok.fresh (Nat.le_refl _), rfl, fun ys hy => by rw [I.tuple_inj hy hq]; exact hx⟩, ⟨⟨v, ?_⟩, hit'.1.at fun o q => (sb.2 it (Ne.symm hne)).trans q, hne⟩, fun b hb => ?_⟩
    · have e1 : ((i + 1 : Nat) : Int) = (i : Int) + 1 := by omega
      rw [e1]; exact he'
    · have hb' : b < s.heap.objs.size := by
        have e' : b = e ∨ b = it := by simpa using hb
        rcases e' with z | z
        · rw [z]; exact hel
        · rw [z]; exact hil
      rw [upd_ne (Nat.ne_of_lt hb')]
      exact (hf b hb).1
  done := by
    intro X hP hw hK hc i pins s σ H E I hf st hg
    subst hP hw hK
    obtain ⟨⟨old, he⟩, hit, hne⟩ := st
    obtain ⟨xs, hq, hx⟩ := hg
    obtain ⟨its, rv, p, hz⟩ := I.tuple hq
    have hT0 : s.heap.IsTuple a its.toArray := p
    obtain ⟨f0, f1, f2, f3, f4, f5⟩ := hf it (by simp)
    have hl := rv.length
    have hta : a ≠ it := fun z => by obtain ⟨o, q, hc', _⟩ := hT0; obtain ⟨o2, q2, hc2, _⟩ := hit; rw [← z, q] at q2; cases Option.some.inj q2; rw [hc'] at hc2; exact absurd (Value.type.inj hc2) (by decide)
    have D := Draws.tuple (prog := X.prog) (w := X.w) (A := X.A.in1) (I.ok.hd hc) it a hta its.toArray
    have ei : i = its.toArray.size := by simp; omega
    rw [ei] at hit
    exact wpAny_pyNext_enum_endD D he ⟨hit, hT0⟩ fun h' eb => ⟨rfl, I.turned (t' := s.toks) (fun b o hb q => eb b o hb q) f0 f1 f3 f4 f5⟩
  self := fun A i s Q E st h => let ⟨⟨_, he⟩, _⟩ := st; wpAny_pyIter_enum he h
def iEnumT (K : PySem.W.Frag) (ta : TA) : TI := fun σ H R => ta σ H fun vs H1 => ∃ a xs, vs = [.ref a] ∧ SqT K H1 a xs ∧ R (Itet K a) H1
theorem pi_enumT {X : Cx} {e : Expr} {ta : TA} {p pos tpos : Pos} {elts : List Expr} {kk : Nat} (hg : Gl X "enumerate") (hm : X.mg "enumerate" = none) (ha : PA X [e] ta) (hs : starEach [e] X.env = [(false, eval e X.env)] := by rfl) :
    PI X (.Tuple elts kk tpos) (.Call (.Name "enumerate" p) [e] [] pos) (iEnumT X.K ta) := by
  refine ⟨fun pins s σ H R I h => ?_⟩
  refine Call_ (ld_blt I hg hm boot_enumerate (PyProof.Rows.callWith_type1 (thn (ha.run pos pins s σ H _ I h) fun us s1 ⟨vs, H1, I1, r1, q1⟩ => ?_) hs rfl))
  obtain ⟨a, xs, ex, hq, q⟩ := q1
  subst ex
  cases r1 with
  | cons r rr =>
    cases rr
    cases r
    obtain ⟨its, rv, p', hz⟩ := I1.tuple hq
    refine call_enumerate_tuple (show s1.heap.IsTuple a its.toArray from p') fun h' he hit hsz hk => wpAny_pyIter_enum he ?_
    have I2 : Inv X pins σ H1 { s1 with heap := h' } := I1.kept (t' := s1.toks) hk
    refine ⟨s1.heap.objs.size + 1, [s1.heap.objs.size + 1, s1.heap.objs.size], _, _, H1, rfl, I2, turn_enumT a (s1.heap.objs.size + 1) s1.heap.objs.size, ⟨⟨.none, he⟩, hit, Nat.succ_ne_self _⟩, fun b hb => ?_, q⟩
    have e' : b = s1.heap.objs.size + 1 ∨ b = s1.heap.objs.size := by simpa using hb
    have hle : s1.heap.objs.size ≤ b := by
      rcases e' with z | z
      · rw [z]; exact Nat.le_add_right _ _
      · rw [z]; exact Nat.le_refl _
    exact I1.fpOk hle (I1.hok.fresh hle)
end L2

/-! set(a text); len of a set of texts -/
namespace Hs
open PySem PySem.Spec PyProof.Rows L2
/-- the signs of a text, each a text -/
def signs (x : Str) : List Str := x.cps.toList.map fun c => (⟨#[c]⟩ : Str)
theorem signs_len (x : Str) : (signs x).length = x.length := by
  unfold signs
  rw [List.length_map, Array.length_toList]
  rfl
theorem walks_text {prog : Program} {w : World} {A : Around} (hh : A.handled = none) (I : Addr) (x : Str) (t : Tok) :
    Walks prog w A I [I] [I] x.cps.size (SignAt x) (fun i h => h.IsStrIter I (strIterType x) x t i) := by
  unfold strIterType
  split
  · exact Walks.strAscii hh I x t
  · exact Walks.strWide hh I x t
theorem sub_str_set : isSubtype (.type "str") (.type "set") = pure false := by rw [isSubtype_type]; kernel_rfl
theorem sub_str_frozenset : isSubtype (.type "str") (.type "frozenset") = pure false := by rw [isSubtype_type]; kernel_rfl
section
variable {P : Program} {w : World} {A : Around} {E : Value → Shared → Prop} {s : Shared}
theorem set_ofS {x : Str} {t : Tok} {Q : Value → Shared → Prop} (hh : A.handled = none) (room : x.length + 1 < scanBound)
    (h : ∀ (h' : Heap) (tk : Nat), SetT P w h' s.heap.objs.size ((signs x).foldl put []) → (∀ b o, s.heap.get? b = some o → h'.get? b = some o) → Q (.ref s.heap.objs.size) { s with heap := h', toks := tk }) :
    wpAny (model P w) A (call (.type "set") [.str x t]) Q E s := by
  have hz : x.cps.size = (signs x).length := by
    rw [signs_len]
    rfl
  obtain ⟨c, tl, hmro⟩ := F.called_set.mro
  have hmade := F.called_set.made
  have hsub := F.called_set.sub
  refine wpAny_call (codeAny_of_tree ?_)
  show wpAny _ _ (callAny (.type "set") _) _ _ _
  refine wpAny_pure ⟨Code.quiet_builtin _ (by decide +kernel), codeAny_builtin F.entry_type_call ?_⟩
  rw [Around.under_plain (weight_type_call_type "set" [.str x t] []) rfl]
  have h1 := F.called_set.notType
  have h2 := F.called_set.canCreate
  have hct := F.typeCall_set_1 (.str x t)
  repeat (any_goals (first | assumption | wp_step))
  refine codeAny_mono (code_set_led1 (P := P) (w := w) (A := A.in1) (.str x t) (E := E) (Q₁ := fun obj s1 => obj = .ref s.heap.objs.size ∧ s1 = { s with heap := s.heap.push (bare w) }) ⟨rfl, rfl⟩) fun r s1 hr => ?_
  cases r with
  | error e => exact hr
  | ok fl =>
    cases fl with
    | next => exact hr.elim
    | brk => exact hr.elim
    | cont => exact hr.elim
    | ret obj =>
      obtain ⟨rfl, rfl⟩ := hr
      have at0 : (s.heap.push (bare w)).get? s.heap.objs.size = some (bare w) := Heap.get?_push_size _ rfl
      have hT : Shared.TypeIs { s with heap := s.heap.push (bare w) } (.ref s.heap.objs.size) "set" := ⟨_, at0, rfl⟩
      have hli := F.called_set.init.lookup
      have hbi := F.called_set.init.bind (.ref s.heap.objs.size)
      repeat (any_goals (first | assumption | wp_step))
      refine codeAny_mono (codeAny_call_builtin (R := wants (fun r s2 => r = .none ∧ ∃ h' tk, s2 = { s with heap := h', toks := tk } ∧
        SetT P w h' s.heap.objs.size ((signs x).foldl put []) ∧ ∀ b o, s.heap.get? b = some o → h'.get? b = some o) E) F.called_set.init.plain F.entry_set_init (check_set_init_1 hT ?_)) fun r2 s2 hr2 => ?_
      · have n1 := sub_str_set
        have n2 := sub_str_frozenset
        have n3 : (Value.type "str" == Value.type "dict") = false := by decide
        unfold Builtin.«set.__init__» noKeywords Builtin.Frozenset.updateFrom
        generalize hPI : pyIter = PI
        wp_walk
        subst hPI
        refine wpAny_pyIter_strU (wpAny_bind (wpAny_runValue ?_))
        have sz : (s.heap.push (bare w)).objs.size = s.heap.objs.size + 1 := Heap.size_push ..
        have hh3 : A.in1.in1.in1.handled = none := by simp [hh]
        have ne2 : s.heap.objs.size ∉ [(s.heap.push (bare w)).objs.size] := fun z => by
          have z := List.mem_singleton.mp z
          rw [sz] at z
          exact absurd z (Nat.ne_of_lt (Nat.lt_succ_self _))
        refine gather ((walks_text hh3 _ x t).toS) s.heap.objs.size ne2 (signs x) hz (by rw [signs_len]; exact room) (fun i v hv => ?val) (x.cps.size - 0) 0 _ (by omega) (Nat.zero_le _)
          ⟨_, Heap.get?_push_size _ rfl, rfl, rfl⟩ ?start ?fin
        case val =>
          obtain ⟨c, u, hc, rfl⟩ := hv
          refine ⟨_, u, ?_, rfl⟩
          unfold signs
          rw [List.getElem?_map, Array.getElem?_toList, hc]
          rfl
        case start => exact fresh (Heap.get?_push_of_some _ at0)
        case fin =>
          intro s' hm hS'
          obtain ⟨h', g2, d', tk', os'⟩ := s'
          obtain rfl : g2 = s.gens := hm.gens
          obtain rfl : d' = s.drawn := hm.drawn
          obtain rfl : os' = s.os := hm.os
          refine wpAny_pure (wpAny_pure ⟨rfl, h', tk', rfl, hS', fun b o e => ?_⟩)
          have lt : b < s.heap.objs.size := Heap.lt_size e
          refine hm.heap b o (fun z => ?_) (Heap.get?_push_of_some _ (Heap.get?_push_of_some _ e))
          rcases List.mem_cons.mp z with z | z
          · exact absurd z (Nat.ne_of_lt lt)
          · have z2 := List.mem_singleton.mp z
            rw [sz] at z2
            exact absurd z2 (Nat.ne_of_lt (Nat.lt_succ_of_lt lt))
      · cases r2 with
        | error e => exact hr2
        | ok fl2 =>
          cases fl2 with
          | next => exact hr2.elim
          | brk => exact hr2.elim
          | cont => exact hr2.elim
          | ret r =>
            obtain ⟨rfl, h', tk, rfl, hS', hk'⟩ := hr2
            repeat (any_goals (first | assumption | wp_step))
            exact h _ _ hS' hk'
end
section
variable {X : Cx}
def rSetOfS (X : Cx) : List V → Hp → VK → Prop := fun vs H Q => ∃ x : Str, vs = [.str x] ∧ x.length ≤ 1000 ∧ ∀ p, H p = none → Q (.ref p) (upd H p (SetS X.prog X.w p ((signs x).foldl put [])))
theorem call_setOfS (hc : X.calm = true) : CallR X (.type "set") (rSetOfS X) := by
  intro pins s σ H vs us Q I r h
  obtain ⟨x, rfl, few, q⟩ := h
  obtain ⟨u, rfl, t, rfl⟩ := vals1 r
  refine set_ofS (I.ok.hd hc) (by unfold scanBound; omega) fun h' tk R k => ?_
  exact ⟨.ref _, upd H s.heap.objs.size (SetS X.prog X.w s.heap.objs.size ((signs x).foldl put [])), I.laid (t' := tk) k (Nat.le_refl _) (setS_ok R), rfl, q _ (I.hok.fresh (Nat.le_refl _))⟩
def rLenSetS (X : Cx) : List V → Hp → VK → Prop := fun vs H Q => ∃ (a : Addr) (ms : List Str), vs = [.ref a] ∧ H a = some (SetS X.prog X.w a ms) ∧ ms.length ≤ 1000 ∧ Q (.int ms.length) H
theorem call_lenSetS : CallR X (.builtin "len") (rLenSetS X) := by
  intro pins s σ H vs us Q I r h
  obtain ⟨a, ms, rfl, ha, few, q⟩ := h
  rw [Vals.ref1 r]
  obtain ⟨o, es, ep, t, ho, hex, hd, T⟩ := show SetT X.prog X.w s.heap a ms from (I.hok a _ ha).1
  refine call_len_set ho hex hd T.fits (by rw [T.size]; omega) ⟨.int ms.length, H, I.tok _, ⟨_, by rw [T.size]⟩, q⟩
/-- no sign twice -/
theorem put_once {ms : List Str} : ∀ {xs : List Str}, (xs.foldl put ms).length = ms.length + xs.length ↔ (xs.Nodup ∧ ∀ x ∈ xs, x ∉ ms) := by
  intro xs
  induction xs generalizing ms with
  | nil => simp
  | cons x xs ih =>
    rw [List.foldl_cons, List.length_cons, List.nodup_cons]
    by_cases c : x ∈ ms
    · have e : put ms x = ms := if_pos c
      rw [e]
      have := puts_len xs ms
      constructor
      · intro h
        omega
      · intro h
        exact absurd c (h.2 x List.mem_cons_self)
    · have e : put ms x = x :: ms := if_neg c
      rw [e]
      have i := ih (ms := x :: ms)
      rw [List.length_cons] at i
      rw [show ms.length + (xs.length + 1) = ms.length + 1 + xs.length from by omega, i]
      constructor
      · rintro ⟨h1, h2⟩
        refine ⟨⟨fun z => h2 x z List.mem_cons_self, h1⟩, fun y hy => ?_⟩
        rcases List.mem_cons.mp hy with rfl | hy
        · exact c
        · exact fun z => h2 y hy (List.mem_cons_of_mem _ z)
      · rintro ⟨⟨h0, h1⟩, h2⟩
        refine ⟨h1, fun y hy z => ?_⟩
        rcases List.mem_cons.mp z with rfl | z
        · exact h0 hy
        · exact h2 y (List.mem_cons_of_mem _ hy) z
end
end Hs

namespace Wp
open PySem PySem.Spec PyProof.Rows L2 Hx
structure Consts7 (mg : Str → Option Value) : Prop where
  handed : ∃ t, mg "MOST_HANDED" = some (.int 3 t)
  rows : ∃ t, mg "MOST_ROWS" = some (.int 4 t)
  knots : ∃ t, mg "MOST_KNOTS" = some (.int 8 t)
  parts : ∃ t, mg "MOST_PARTS" = some (.int 3 t)
/-- how many different signs it has -/
def kinds (x : Str) : Nat := ((Hs.signs x).foldl Hs.put []).length
def wordB (x : Str) : Bool := lettered 4 x && decide (kinds x = x.length)
theorem kinds_le (x : Str) : kinds x ≤ x.length := by
  have := Hs.puts_len (Hs.signs x) []
  rw [Hs.signs_len, List.length_nil] at this
  unfold kinds
  omega
section
variable {P : Program} {w : World} {K : PySem.W.Frag} {mg : Str → Option Value} {base : Heap} {f fL fN fI C CE CF : Addr} {fd fdL fdN fdI : FuncData} {cls : Addr → Prop}
theorem scSg : FnScope ["given"] ["given"] (defScope s_check_signs) := ⟨rfl, rfl, rfl, by decide +kernel, rfl, by decide +kernel, by decide +kernel⟩
theorem ok_check_signs (F : Fun K "check_signs" "check_signs" s_check_signs f fd) (M : MkC P w K mg base "InvalidWord" C "given") (ty : PySem.W.typeIn K (.ref C) = some (.type "type")) (CO : Consts mg K) (Z : Bltn mg) (zs : mg "set" = none)
    (GL : FnOk P w K mg base CX0 1 fL fdL ["value", "most"] (spLettered K)) (bL : Binds K fdL ["value", "most"] []) (kL : PySem.W.keepIn K (.ref fL) = true) (mL : mg "is_lettered" = some (.ref fL)) :
    FnOk P w K mg base (L2.CX P w) 3 f fd ["given"] (spCheck K wordB C) := by
  refine F.okX scSg (fun vs H Q E h => ?_) (fun cdv A outer s H vs Q E hr h => ?_)
  · obtain ⟨v, rfl, _⟩ := h
    rfl
  obtain ⟨v, rfl, h⟩ := h
  obtain ⟨tm, ms⟩ := CO.signs
  refine ⟨_, pss_one (ps_if (PW.pt (pw_or (pt_not (pt_val (pe_call GL (hr.mono (by decide)) rfl mL kL bL .nil pass0 (pa_cons (pv 0) (pa_cons (pe_gint rfl ms) pa_nil)))))
      (pw_or1 (pt_cmpR op_ne (pe_callB Hs.call_lenSetS (by rfl) Z.len PySem.boot_len (pa_cons (pe_callTy (Hs.call_setOfS rfl) (by rfl) zs (by decide +kernel) (pa_cons (pv 0) pa_nil)) pa_nil))
        (pe_callB call_len_str (by rfl) Z.len PySem.boot_len (pa_cons (pv 0) pa_nil)) (nomark _))))) (pss_one (ps_raise1 M ty rfl (takes_of rfl rfl rfl rfl) hr rfl (pv 0))) pss_nil), ?_⟩
  have good : ∀ (x : Str), lettered 4 x = true → x.length ≤ 4 := fun x e => by
    have := lettered_len e
    omega
  rcases h with ⟨x, rfl, few, e, q⟩ | ⟨⟨x, rfl, few, e⟩ | n, t⟩
  · obtain ⟨e1, e2⟩ := Bool.and_eq_true_iff.mp e
    have l4 := good x e1
    have e3 := of_decide_eq_true e2
    refine ⟨_, rfl, _, 4, rfl, by decide, .inl ⟨x, rfl, few, fun H' s' => ⟨_, rfl, ?_⟩⟩⟩
    rw [e1]
    refine iteF ⟨_, rfl, x, rfl, by omega, fun p hp => ⟨p, _, rfl, upd_same, (by show kinds x ≤ 1000; omega), ?_⟩⟩
    refine ⟨_, rfl, x, rfl, Nat.le_trans few (by decide), rfl, _, rfl, ?_⟩
    rw [show decide (V.int (((Hs.signs x).foldl Hs.put []).length : Nat) = V.int (x.length : Nat)) = true from decide_eq_true (by rw [← e3]; rfl)]
    exact iteF (q _ (s'.trans (same_new hp _)))
  · by_cases e1 : lettered 4 x = true
    · have l4 := good x e1
      have k4 := kinds_le x
      have e3 : kinds x ≠ x.length := fun z => by
        unfold wordB at e
        rw [e1, decide_eq_true z] at e
        cases e
      refine ⟨_, rfl, _, 4, rfl, by decide, .inl ⟨x, rfl, few, fun H' s' => ⟨_, rfl, ?_⟩⟩⟩
      rw [e1]
      refine iteF ⟨_, rfl, x, rfl, by omega, fun p hp => ⟨p, _, rfl, upd_same, (by show kinds x ≤ 1000; omega), ?_⟩⟩
      refine ⟨_, rfl, x, rfl, Nat.le_trans few (by decide), rfl, _, rfl, ?_⟩
      rw [show decide (V.int (((Hs.signs x).foldl Hs.put []).length : Nat) = V.int (x.length : Nat)) = false from decide_eq_false fun z => e3 (Int.ofNat.inj (V.int.inj z))]
      exact iteT ⟨_, rfl, fun d hd => t _ d (s'.trans (same_new hp _)) hd⟩
    · refine ⟨_, rfl, _, 4, rfl, by decide, .inl ⟨x, rfl, few, fun H' s' => ⟨_, rfl, ?_⟩⟩⟩
      rw [Bool.eq_false_iff.mpr e1]
      exact iteT ⟨_, rfl, fun d hd => t H' d s' hd⟩
  · exact ⟨_, rfl, _, 4, rfl, by decide, .inr ⟨n, _, rfl, iteT ⟨_, rfl, fun d hd => t H d (Same.refl H) hd⟩⟩⟩
/-! the handed names ('x',) -/
def spHnd : Sp := fun vs H Q _ => ∃ p, vs = [.ref p] ∧ H p = some (.tup [.str "x"]) ∧ ∀ H', Same H H' → Q .non H'
def NHn : List Str := ["given", "at", "name"]
theorem scHn : FnScope NHn ["given"] (defScope s_check_handed_names) := ⟨rfl, rfl, rfl, by decide +kernel, rfl, by decide +kernel, by decide +kernel⟩
theorem nmx_ok : nameB "x" = true := by decide +kernel
theorem nmy_ok : nameB "y" = true := by decide +kernel
theorem ok_hnd (F : Fun K "check_handed_names" "check_handed_names" s_check_handed_names f fd) (C7 : Consts7 mg) (Z : Bltn mg) (zt : mg "tuple" = none) (ze : mg "enumerate" = none)
    (GN : FnOk P w K mg base CX0 2 fN fdN ["value"] (spName K)) (bN : Binds K fdN ["value"] []) (kN : PySem.W.keepIn K (.ref fN) = true) (mN : mg "is_name" = some (.ref fN)) :
    FnOk P w K mg base CX0 3 f fd ["given"] spHnd := by
  refine F.ok scHn (fun vs H Q E h => ?_) (fun cdv A outer s H vs Q E hr h => ?_)
  · obtain ⟨p, rfl, _⟩ := h
    rfl
  obtain ⟨p, rfl, hp, q⟩ := h
  obtain ⟨t3, m3⟩ := C7.handed
  refine ⟨_, pss_cons (ps_if (PW.pt (pw_or (pt_not (pt_val (pe_callB call_isi (by rfl) Z.isinstance PyProof.Rows.boot_isinstance (pa_cons (pv 0) (pa_cons (pe_bty (T := "tuple") rfl zt (by decide +kernel)) pa_nil)))))
      (pw_or1 (pt_cmpR op_gt (pe_callB call_len_seq (by rfl) Z.len PySem.boot_len (pa_cons (pv 0) pa_nil)) (pe_gint rfl m3) (nomark _))))) pss_no pss_nil)
    (pss_one (ps_for PassesOwn.never rfl (pi_enumT rfl ze (pa_cons (pv 0) pa_nil)) (pg_tup (by rfl) (pgs_cons (pg_name (i := 1) scHn.nd rfl (Or.inl rfl)) (pgs_cons (pg_name (i := 2) scHn.nd rfl (Or.inl rfl)) pgs_nil)))
      (pss_one (ps_if (PW.pt (pw_or (pt_not (pt_val (pe_call GN hr rfl mN kN bN .nil pass0 (pa_cons (pv 2) pa_nil)))) (pw_or1 (pt_cmpR op_in_seq (pv 2) (pe_slice sl_tup (pv 0) po_none (po_some (pv 1))) (by rfl))))) pss_no pss_nil)))), ?_⟩
  refine ⟨_, rfl, _, _, .type "tuple", _, true, rfl, .ty "tuple", .base (.tup hp), kit_ty (by decide +kernel), _, rfl, iteF ?_⟩
  refine ⟨_, rfl, p, _, rfl, .inr (SqT.of hp), _, _, rfl, rfl, _, rfl, iteF ?_⟩
  refine ⟨_, rfl, p, _, rfl, SqT.of hp, ?_⟩
  refine for_it1 (fun _ H' => Same H H') ⟨_, _, SqT.of hp, rfl⟩ (fun x' H' y => ?_) fun σ' H' j => ⟨⟨_, SqT.of (j _ _ hp), rfl⟩, q H' j⟩
  obtain ⟨T, x, rfl, hT, rfl, hx⟩ := y
  have ex : V.str "x" = x := Option.some.inj (hx _ (SqT.of hp))
  subst ex
  have s1 := same_new hT (.tup [.int (0 : Nat), .str "x"])
  refine ⟨T, _, rfl, SqT.of upd_same, rfl, _, _, rfl, _, _, rfl, rfl, ?_⟩
  refine ⟨_, rfl, _, rfl, .inl ⟨"x", rfl, by decide +kernel, fun H2 s2 => ⟨_, rfl, ?_⟩⟩⟩
  rw [nmx_ok]
  refine iteF ⟨_, rfl, _, rfl, _, rfl, _, rfl, p, _, rfl, SqT.of (s2 _ _ (s1 _ _ hp)), by decide, fun c hc => ⟨c, _, rfl, .inr (SqT.of upd_same), rfl, by decide, _, rfl, iteF ?_⟩⟩
  exact (s1.trans s2).trans (same_new hc _)
end
end Wp

namespace Wp
open PySem PySem.Spec PyProof.Rows L2 Hx
section
variable {P : Program} {w : World} {K : PySem.W.Frag} {mg : Str → Option Value} {base : Heap} {f fN fI CE CF : Addr} {fd fdN fdI : FuncData} {cls : Addr → Prop}
/-- a row as it stands in the book that is made -/
def PairAt (CF : Addr) (cls : Addr → Prop) (H : Hp) (pp : Addr) : Prop := ∃ a, H pp = some (.tup [.str "y", .ref a]) ∧ NmAt CF cls H a
def spIsPair (CF : Addr) (cls : Addr → Prop) : Sp := fun vs H Q _ => ∃ pp, vs = [.ref pp] ∧ PairAt CF cls H pp ∧ ∀ H', Same H H' → Q (.bl true) H'
theorem scIsPair : FnScope ["value"] ["value"] (defScope s_is_pair) := ⟨rfl, rfl, rfl, by decide +kernel, rfl, by decide +kernel, by decide +kernel⟩
theorem ok_ispair (F : Fun K "is_pair" "is_pair" s_is_pair f fd) (ix : IsX K CE cls) (mE : mg "Expression" = some (.ref CE)) (Z : Bltn mg) (zt : mg "tuple" = none)
    (GN : FnOk P w K mg base CX0 2 fN fdN ["value"] (spName K)) (bN : Binds K fdN ["value"] []) (kN : PySem.W.keepIn K (.ref fN) = true) (mN : mg "is_name" = some (.ref fN)) :
    FnOk P w K mg base CX0 3 f fd ["value"] (spIsPair CF cls) := by
  refine F.ok scIsPair (fun vs H Q E h => ?_) (fun cdv A outer s H vs Q E hr h => ?_)
  · obtain ⟨pp, rfl, _⟩ := h
    rfl
  obtain ⟨pp, rfl, ⟨a, hp, nm⟩, q⟩ := h
  refine ⟨_, pss_one (ps_ret (pe_and (pe_callB call_isi (by rfl) Z.isinstance PyProof.Rows.boot_isinstance (pa_cons (pv 0) (pa_cons (pe_bty (T := "tuple") rfl zt (by decide +kernel)) pa_nil)))
      (pe_and (pe_cmpR op_eq (pe_callB call_len_seq (by rfl) Z.len PySem.boot_len (pa_cons (pv 0) pa_nil)) pe_int (nomark _))
      (pe_and (pe_call GN hr rfl mN kN bN .nil pass0 (pa_cons (pe_ix ix_tup (pv 0) pe_int (fun _ _ => rfl)) pa_nil))
      (pe_one (pe_callB call_isi (by rfl) Z.isinstance PyProof.Rows.boot_isinstance (pa_cons (pe_ix ix_tup (pv 0) pe_int (fun _ _ => rfl)) (pa_cons (pe_gref rfl mE) pa_nil)))))))), ?_⟩
  refine ⟨_, rfl, _, _, .type "tuple", _, true, rfl, .ty "tuple", .base (.tup hp), kit_ty (by decide +kernel), _, rfl, iteT ?_⟩
  refine ⟨_, rfl, pp, _, rfl, .inr (SqT.of hp), rfl, true, rfl, iteT ?_⟩
  refine ⟨_, rfl, pp, _, _, _, rfl, rfl, SqT.of hp, rfl, _, rfl, .inl ⟨"y", rfl, by decide +kernel, fun H2 s2 => ⟨_, rfl, ?_⟩⟩⟩
  rw [nmy_ok]
  refine iteT ⟨_, rfl, pp, _, _, _, rfl, rfl, SqT.of (s2 _ _ hp), rfl, ?_⟩
  obtain ⟨C, hx⟩ := nm.same s2
  obtain ⟨dx, fa, dfa, pm, pi, pl, hc, e1, _⟩ := hx
  obtain ⟨ty', t1, t2⟩ := ix H2 _ _ dx _ hc e1
  exact ⟨_, _, ty', _, true, rfl, .own CE, t1, t2, q H2 s2⟩
def spPairs (CF : Addr) (cls : Addr → Prop) : Sp := fun vs H Q _ => ∃ pr ph, vs = [.ref pr, .ref ph] ∧ RowsAt CF cls H pr ∧ H ph = some (.tup [.str "x"]) ∧ ∀ H', Same H H' → Q .non H'
def NPr : List Str := ["given", "handed", "taken", "at", "pair"]
theorem scPairs : FnScope NPr ["given", "handed"] (defScope s_check_pairs) := ⟨rfl, rfl, rfl, by decide +kernel, rfl, by decide +kernel, by decide +kernel⟩
theorem ok_pairs (F : Fun K "check_pairs" "check_pairs" s_check_pairs f fd) (C7 : Consts7 mg) (Z : Bltn mg) (zt : mg "tuple" = none) (zl : mg "list" = none) (ze : mg "enumerate" = none)
    (GI : FnOk P w K mg base CX0 3 fI fdI ["value"] (spIsPair CF cls)) (bI : Binds K fdI ["value"] []) (kI : PySem.W.keepIn K (.ref fI) = true) (mI : mg "is_pair" = some (.ref fI)) :
    FnOk P w K mg base CX0 4 f fd ["given", "handed"] (spPairs CF cls) := by
  refine F.ok scPairs (fun vs H Q E h => ?_) (fun cdv A outer s H vs Q E hr h => ?_)
  · obtain ⟨pr, ph, rfl, _⟩ := h
    rfl
  obtain ⟨pr, ph, rfl, ⟨pp, a, h1, h2, nm⟩, hh, q⟩ := h
  obtain ⟨t4, m4⟩ := C7.rows
  refine ⟨_, pss_cons (ps_if (PW.pt (pw_or (pt_not (pt_val (pe_callB call_isi (by rfl) Z.isinstance PyProof.Rows.boot_isinstance (pa_cons (pv 0) (pa_cons (pe_bty (T := "tuple") rfl zt (by decide +kernel)) pa_nil)))))
      (pw_or1 (pt_not (pt_chain op_le op_le pe_int (pe_callB call_len_seq (by rfl) Z.len PySem.boot_len (pa_cons (pv 0) pa_nil)) (pe_gint rfl m4)))))) pss_no pss_nil)
    (pss_cons (ps_set (i := 2) scPairs.nd rfl (Or.inl rfl) (pe_callTy call_list_of (by rfl) zl (by decide +kernel) (pa_cons (pv 1) pa_nil)))
    (pss_one (ps_for PassesOwn.never rfl (pi_enumT rfl ze (pa_cons (pv 0) pa_nil)) (pg_tup (by rfl) (pgs_cons (pg_name (i := 3) scPairs.nd rfl (Or.inl rfl)) (pgs_cons (pg_name (i := 4) scPairs.nd rfl (Or.inl rfl)) pgs_nil)))
      (pss_cons (ps_if (PW.pt (pw_or (pt_not (pt_val (pe_call GI hr rfl mI kI bI .nil pass0 (pa_cons (pv 4) pa_nil)))) (pw_or1 (pt_cmpR op_in_seq (pe_ix ix_tup (pv 4) pe_int (fun _ _ => rfl)) (pv 2) (by rfl))))) pss_no pss_nil)
      (pss_one (ps_expr (pe_bm PySem.F.plainAttrs_list PySem.F.slot_list_append PySem.F.type_list_append mt_append (pv 2) (pa_cons (pe_ix ix_tup (pv 4) pe_int (fun _ _ => rfl)) pa_nil)))))))), ?_⟩
  refine ⟨_, rfl, _, _, .type "tuple", _, true, rfl, .ty "tuple", .base (.tup h1), kit_ty (by decide +kernel), _, rfl, iteF ?_⟩
  refine ⟨_, rfl, pr, _, rfl, .inr (SqT.of h1), _, _, rfl, rfl, _, rfl, iteT ⟨_, _, rfl, rfl, _, rfl, iteF ?_⟩⟩
  refine ⟨_, rfl, ph, _, rfl, .inr (SqT.of hh), fun l hl => ?_⟩
  have s0 := same_new hl (.lst [V.str "x"])
  refine ⟨_, rfl, pr, _, rfl, SqT.of (s0 _ _ h1), ?_⟩
  refine for_it1 (fun _ H' => Same H H') ⟨_, _, SqT.of (s0 _ _ h1), rfl⟩ (fun x' H' y => ?_) fun σ' H' j => ⟨⟨_, SqT.of (j _ _ h1), rfl⟩, q H' j⟩
  obtain ⟨T, x, rfl, hT, rfl, hx⟩ := y
  have ex : V.ref pp = x := Option.some.inj (hx _ (SqT.of (s0 _ _ h1)))
  subst ex
  have s1 := same_new hT (.tup [.int (0 : Nat), .ref pp])
  refine ⟨T, _, rfl, SqT.of upd_same, rfl, _, _, rfl, _, _, rfl, rfl, ?_⟩
  refine ⟨_, rfl, pp, rfl, ⟨a, s1 _ _ (s0 _ _ h2), nm.same (s0.trans s1)⟩, fun H2 s2 => ⟨_, rfl, iteF ?_⟩⟩
  have g2 := s2 _ _ (s1 _ _ (s0 _ _ h2))
  have gl := s2 _ _ (s1 _ _ (upd_same (H := H) (a := l) (o := HO.lst [V.str "x"])))
  refine ⟨_, rfl, pp, _, _, _, rfl, rfl, SqT.of g2, rfl, _, rfl, l, _, rfl, .inl (SqL.of gl), rfl, by decide, _, rfl, ?_⟩
  have ni : inV (V.str "y") [V.str "x"] = false := by decide +kernel
  rw [ni]
  refine iteF ⟨_, rfl, .inl ⟨rfl, _, SqL.of gl⟩, _, rfl, pp, _, _, _, rfl, rfl, SqT.of g2, rfl, l, _, _, rfl, rfl, gl, by decide, ?_⟩
  exact fun c o hc => by
    rw [upd_ne (ne_of_none hc hl)]
    exact s2 _ _ (s1 _ _ (s0 _ _ hc))
end
end Wp

namespace Wp
open PySem PySem.Spec PyProof.Rows L2 Hx
section
variable {P : Program} {w : World} {K : PySem.W.Frag} {mg : Str → Option Value} {base : Heap} {f CF : Addr} {fd : FuncData} {cls : Addr → Prop}
/-- what is known of the defs that check_rules calls -/
structure RulesOk (P : Program) (w : World) (K : PySem.W.Frag) (mg : Str → Option Value) (base : Heap) (CF : Addr) (cls : Addr → Prop) : Prop where
  unk : ∃ (g : Addr) (fd : FuncData), FnOk P w K mg base CX0 4 g fd ["expression", "names"] (spUnk K CF cls) ∧ Binds K fd ["expression", "names"] [] ∧ PySem.W.keepIn K (.ref g) = true ∧ mg "first_unknown" = some (.ref g)
  fits : ∃ (g : Addr) (fd : FuncData), FnOk P w K mg base CX0 4 g fd ["expression", "base", "signs"] (spFits CF cls) ∧ Binds K fd ["expression", "base", "signs"] [] ∧ PySem.W.keepIn K (.ref g) = true ∧ mg "fits" = some (.ref g)
  byrow : ∃ (g : Addr) (fd : FuncData), FnOk P w K mg base CX0 5 g fd ["rows"] (spByRow CF cls) ∧ Binds K fd ["rows"] [] ∧ PySem.W.keepIn K (.ref g) = true ∧ mg "uses_by_row" = some (.ref g)
  opn : ∃ (g : Addr) (fd : FuncData), FnOk P w K mg base CX0 4 g fd ["uses"] spOpen ∧ Binds K fd ["uses"] [] ∧ PySem.W.keepIn K (.ref g) = true ∧ mg "first_open_ring" = some (.ref g)
  prt : ∃ (g : Addr) (fd : FuncData), FnOk P w K mg base CX0 4 g fd ["uses"] spOpen ∧ Binds K fd ["uses"] [] ∧ PySem.W.keepIn K (.ref g) = true ∧ mg "first_part_ring" = some (.ref g)
  most : ∃ (g : Addr) (fd : FuncData), FnOk P w K mg base CX0 5 g fd ["rows", "uses"] (spMost CF cls) ∧ Binds K fd ["rows", "uses"] [] ∧ PySem.W.keepIn K (.ref g) = true ∧ mg "most_parts" = some (.ref g)
def spRules (CF : Addr) (cls : Addr → Prop) : Sp := fun vs H Q _ => ∃ (t : Str) (ph pr : Addr), vs = [.int 2, .str t, .ref ph, .ref pr] ∧ H ph = some (.tup [.str "x"]) ∧ RowsAt CF cls H pr ∧ ∀ H', Same H H' → Q .non H'
def NRu : List Str := ["base", "signs", "handed", "rows", "names", "pair", "name", "expression", "unknown", "uses", "many"]
theorem scRules : FnScope NRu ["base", "signs", "handed", "rows"] (defScope s_check_rules) := ⟨rfl, rfl, rfl, by decide +kernel, rfl, by decide +kernel, by decide +kernel⟩
theorem ok_rules (F : Fun K "check_rules" "check_rules" s_check_rules f fd) (L : Kls P w K mg base CF cls) (C7 : Consts7 mg) (R : RulesOk P w K mg base CF cls) :
    FnOk P w K mg base CX0 6 f fd ["base", "signs", "handed", "rows"] (spRules CF cls) := by
  refine F.ok scRules (fun vs H Q E h => ?_) (fun cdv A outer s H vs Q E hr h => ?_)
  · obtain ⟨t, ph, pr, rfl, _⟩ := h
    rfl
  obtain ⟨t, ph, pr, rfl, hh, ⟨pp, a, h1, h2, nm⟩, q⟩ := h
  obtain ⟨t8, m8⟩ := C7.knots
  obtain ⟨t3, m3⟩ := C7.parts
  obtain ⟨fu, fdu, Gu, bu, ku, mu⟩ := R.unk
  obtain ⟨ff, fdf, Gf, bf, kf, mf⟩ := R.fits
  obtain ⟨fb, fdb, Gb, bb, kb, mb⟩ := R.byrow
  obtain ⟨fo, fdo, Go, bo, ko, mo⟩ := R.opn
  obtain ⟨fp, fdp, Gp, bp, kp, mp⟩ := R.prt
  obtain ⟨fm, fdm, Gm, bm, km, mm⟩ := R.most
  have r4 := hr.mono (by decide : 4 ≤ 5)
  have r2 := hr.mono (by decide : 2 ≤ 5)
  refine ⟨_, pss_cons (ps_set (i := 4) scRules.nd rfl (Or.inl rfl) (pe_lst (StX.pa_star (pv 2) (StX.pa_star
        (pe_lc (te := tOp (rIxT K) (tVar 5) (tC (.int 0))) (own := [("pair", 5)]) (g := gName 5) (tt := tYes) rfl scRules.nd (pi_tup (pv 3))
        (blkOk_by (N := NRu) (sc := defScope s_check_rules) (by decide +kernel)) (fun _ _ _ _ _ => pg_name (i := 5) scRules.nd rfl (Or.inl rfl)) (fun _ _ _ _ _ => pts_nil) (fun _ _ _ _ _ => pe_ix ix_tup (pv 5) pe_int (fun _ _ => rfl))) pa_nil))))
    (pss_cons (ps_for PassesOwn.never rfl (pi_tup (pv 3)) (pg_tup (by rfl) (pgs_cons (pg_name (i := 6) scRules.nd rfl (Or.inl rfl)) (pgs_cons (pg_name (i := 7) scRules.nd rfl (Or.inl rfl)) pgs_nil)))
      (pss_cons (ps_set (i := 8) scRules.nd rfl (Or.inl rfl) (pe_call Gu r4 rfl mu ku bu .nil pass0 (pa_cons (pv 7) (pa_cons (pv 4) pa_nil))))
      (pss_one (ps_if (pt_cmpR op_notN (pv 8) pe_non (nomark _)) pss_no pss_nil))))
    (pss_cons (ps_for PassesOwn.never rfl (pi_tup (pv 3)) (pg_tup (by rfl) (pgs_cons (pg_name (i := 6) scRules.nd rfl (Or.inl rfl)) (pgs_cons (pg_name (i := 7) scRules.nd rfl (Or.inl rfl)) pgs_nil)))
      (pss_one (ps_if (PW.pt (pw_or (pt_cmpR op_gt (pe_propA (k := 1) (pv 7) r2 rfl) (pe_gint rfl m8) (nomark _))
        (pw_or1 (pt_not (pt_val (pe_call Gf r4 rfl mf kf bf .nil pass0 (pa_cons (pv 7) (pa_cons (pv 0) (pa_cons (pv 1) pa_nil))))))))) pss_no pss_nil)))
    (pss_cons (ps_set (i := 9) scRules.nd rfl (Or.inl rfl) (pe_call Gb hr rfl mb kb bb .nil pass0 (pa_cons (pv 3) pa_nil)))
    (pss_cons (ps_set (i := 6) scRules.nd rfl (Or.inl rfl) (pe_call Go r4 rfl mo ko bo .nil pass0 (pa_cons (pv 9) pa_nil)))
    (pss_cons (ps_if (pt_cmpR op_notN (pv 6) pe_non (nomark _)) pss_no pss_nil)
    (pss_cons (ps_set (i := 6) scRules.nd rfl (Or.inl rfl) (pe_call Gp r4 rfl mp kp bp .nil pass0 (pa_cons (pv 9) pa_nil)))
    (pss_cons (ps_if (pt_cmpR op_notN (pv 6) pe_non (nomark _)) pss_no pss_nil)
    (pss_cons (ps_set (i := 10) scRules.nd rfl (Or.inl rfl) (pe_call Gm hr rfl mm km bm .nil pass0 (pa_cons (pv 3) (pa_cons (pv 9) pa_nil))))
    (pss_one (ps_if (pt_cmpR op_gt (pv 10) (pe_gint rfl m3) (nomark _)) pss_no pss_nil)))))))))), ?_⟩
  refine ⟨_, rfl, ph, _, rfl, .inl (SqT.of hh), ?_⟩
  refine ⟨_, rfl, pr, rfl, ⟨_, SqT.of h1⟩, fun D hD => ?_⟩
  have h1' := same_new hD (.lst []) _ _ h1
  refine lc_it1 (fun H' => Same H H' ∧ H' D = some (.lst [.str "y"])) (itt_go (SqT.of h1')) (fun x' H' y => ?_) fun H' j => ⟨itt_stop (SqT.of (j.1 _ _ h1)) (by show 1 ≤ 1; decide), ?_⟩
  · obtain ⟨rfl, rfl⟩ := itt_y (SqT.of h1') y
    refine ⟨rfl, turn_yes ⟨_, rfl, pp, _, _, _, rfl, rfl, SqT.of (same_new hD (.lst []) _ _ h2), rfl, [], upd_same, by decide, fun b o e => ?_, upd_same⟩⟩
    rw [upd_ne (ne_of_none e hD)]
    exact same_new hD _ _ _ e
  obtain ⟨s1, hDs⟩ := j
  refine ⟨D, _, rfl, .inr (SqL.of hDs), (by show 2 ≤ sizeLine; decide), fun nl hnl => ?_⟩
  have s2 := s1.trans (same_new hnl (.lst ([V.str (Str.ofString "x")] ++ ([V.str (Str.ofString "y")] ++ []))))
  have hN : upd H' nl (.lst ([V.str (Str.ofString "x")] ++ ([V.str (Str.ofString "y")] ++ []))) nl = some (.lst [V.str "x", V.str "y"]) := upd_same
  generalize upd H' nl (.lst ([V.str (Str.ofString "x")] ++ ([V.str (Str.ofString "y")] ++ []))) = H2 at s2 hN ⊢
  refine ⟨_, rfl, pr, rfl, ⟨_, SqT.of (s2 _ _ h1)⟩, ?_⟩
  refine for_it1 (fun σ' H3 => Same H2 H3 ∧ σ' = [some (V.int 2), some (V.str t), some (V.ref ph), some (V.ref pr), some (V.ref nl), none, some (V.str "y"), some (V.ref a), some V.non, none, none]) (itt_go (SqT.of (s2 _ _ h1))) (fun x' H3 y => ?_) fun σ3 H3 j => ⟨itt_stop (SqT.of (j.1 _ _ (s2 _ _ h1))) (by show 1 ≤ 1; decide), ?_⟩
  · obtain ⟨rfl, rfl⟩ := itt_y (SqT.of (s2 _ _ h1)) y
    refine ⟨pp, _, rfl, SqT.of (s2 _ _ h2), rfl, _, _, rfl, _, _, rfl, rfl, ?_⟩
    refine ⟨_, rfl, _, rfl, a, nl, ["x", "y"], rfl, nm.same s2, SqL.of hN, by decide +kernel, fun H4 s4 => ?_⟩
    exact ⟨_, rfl, rfl, _, rfl, iteF ⟨s4, rfl⟩⟩
  obtain ⟨s3, rfl⟩ := j
  have s4 := s2.trans s3
  refine ⟨_, rfl, pr, rfl, ⟨_, SqT.of (s4 _ _ h1)⟩, ?_⟩
  refine for_it1 (fun σ' H4 => Same H3 H4 ∧ σ' = [some (V.int 2), some (V.str t), some (V.ref ph), some (V.ref pr), some (V.ref nl), none, some (V.str "y"), some (V.ref a), some V.non, none, none]) (itt_go (SqT.of (s4 _ _ h1))) (fun x' H4 y => ?_) fun σ4 H4 j => ⟨itt_stop (SqT.of (j.1 _ _ (s4 _ _ h1))) (by show 1 ≤ 1; decide), ?_⟩
  · obtain ⟨rfl, rfl⟩ := itt_y (SqT.of (s4 _ _ h1)) y
    refine ⟨pp, _, rfl, SqT.of (s4 _ _ h2), rfl, _, _, rfl, _, _, rfl, rfl, ?_⟩
    refine ⟨_, rfl, nm_knots L (nm.same s4) ⟨_, _, rfl, rfl, _, rfl, iteF ?_⟩⟩
    exact ⟨_, rfl, _, rfl, _, rfl, a, _, _, rfl, nm.same s4, fun H5 s5 => ⟨_, rfl, iteF ⟨s5, rfl⟩⟩⟩
  obtain ⟨s5, rfl⟩ := j
  have s6 := s4.trans s5
  refine ⟨_, rfl, pr, rfl, ⟨pp, a, s6 _ _ h1, s6 _ _ h2, nm.same s6⟩, fun d lu H5 s7 hd hlu => ?_⟩
  refine ⟨_, rfl, d, lu, rfl, ⟨hd, hlu⟩, fun H6 s8 => ?_⟩
  refine ⟨_, rfl, rfl, _, rfl, iteF ?_⟩
  refine ⟨_, rfl, d, lu, rfl, ⟨s8 _ _ hd, s8 _ _ hlu⟩, fun H7 s9 => ?_⟩
  refine ⟨_, rfl, rfl, _, rfl, iteF ?_⟩
  have s10 := ((s6.trans s7).trans s8).trans s9
  refine ⟨_, rfl, _, rfl, pr, d, rfl, ⟨pp, a, s10 _ _ h1, s10 _ _ h2, nm.same s10⟩, ⟨lu, .inl (s9 _ _ (s8 _ _ hd)), s9 _ _ (s8 _ _ hlu)⟩, fun H8 s11 => ?_⟩
  exact ⟨_, rfl, _, _, rfl, rfl, _, rfl, iteF (q H8 (s10.trans s11))⟩
end
end Wp

namespace Wp
open PySem PySem.Spec PyProof.Rows L2 Hx
section
variable {P : Program} {w : World} {K : PySem.W.Frag} {mg : Str → Option Value} {base : Heap} {f CF : Addr} {fd : FuncData} {cls : Addr → Prop}
def spSpelledB (CF : Addr) (cls : Addr → Prop) : Sp := fun vs H Q _ => ∃ (t : Str) (ph pr : Addr), vs = [.int 2, .str t, .ref ph, .ref pr] ∧ t.length ≤ 1000 ∧ H ph = some (.tup [.str "x"]) ∧ RowsAt CF cls H pr ∧ ∀ (y : Str) H', Same H H' → Q (.str y) H'
def NSb : List Str := ["base", "signs", "handed", "rows", "lines", "name", "expression"]
theorem scSb : FnScope NSb ["base", "signs", "handed", "rows"] (defScope s_spelled_book) := ⟨rfl, rfl, rfl, by decide +kernel, rfl, by decide +kernel, by decide +kernel⟩
def l1B : Str := (Str.empty ++ "base ") ++ toString (2 : Int)
def l2B (t : Str) : Str := (Str.empty ++ "signs ") ++ t
def l3B : Str := Txt.join " " ["handed", "x"]
def l4B : Str := (((Str.empty ++ "row ") ++ "y") ++ " = ") ++ "x"
theorem ok_spelledB (F : Fun K "spelled_book" "spelled_book" s_spelled_book f fd) (L : Kls P w K mg base CF cls) (zs : mg "str" = none) :
    FnOk P w K mg base CX0 4 f fd ["base", "signs", "handed", "rows"] (spSpelledB CF cls) := by
  refine F.ok scSb (fun vs H Q E h => ?_) (fun cdv A outer s H vs Q E hr h => ?_)
  · obtain ⟨t, ph, pr, rfl, _⟩ := h
    rfl
  obtain ⟨t, ph, pr, rfl, tl, hh, ⟨pp, a, h1, h2, nm⟩, q⟩ := h
  refine ⟨_, pss_cons (ps_set (i := 4) scSb.nd rfl (Or.inl rfl) (pe_lst (pa_cons (pe_joined (.cons pe_str (.cons (pe_fmt (pv 0)) .nil))) (pa_cons (pe_joined (.cons pe_str (.cons (pe_fmt (pv 1)) .nil)))
        (pa_cons (pe_join pe_str (pe_lst (pa_cons pe_str (StX.pa_star (pv 2) pa_nil)))) pa_nil)))))
    (pss_cons (ps_for PassesOwn.never rfl (pi_tup (pv 3)) (pg_tup (by rfl) (pgs_cons (pg_name (i := 5) scSb.nd rfl (Or.inl rfl)) (pgs_cons (pg_name (i := 6) scSb.nd rfl (Or.inl rfl)) pgs_nil)))
      (pss_one (ps_expr (pe_bm PySem.F.plainAttrs_list PySem.F.slot_list_append PySem.F.type_list_append mt_append (pv 4) (pa_cons
        (pe_joined (.cons pe_str (.cons (pe_fmt (pv 5)) (.cons pe_str (.cons (pe_fmt (pe_callTy (call_tell (k := 1) hr) (by rfl) zs (by decide +kernel) (pa_cons (pv 6) pa_nil))) .nil))))) pa_nil)))))
    (pss_one (ps_ret (pe_join pe_str (pv 4))))), ?_⟩
  have e0 : Str.empty.length = 0 := by decide +kernel
  have big : 100300 ≤ sizeLine := by decide
  have k1 : l1B.length ≤ 100 := by decide +kernel
  have k3 : l3B.length ≤ 100 := by decide +kernel
  have k4 : l4B.length ≤ 100 := by decide +kernel
  have k2 : (l2B t).length ≤ 1100 := by
    unfold l2B
    simp only [PySem.Str.length_append, e0, (by decide +kernel : ("signs " : Str).length = 6)]
    omega
  refine ⟨"base ", rfl, by decide +kernel, _, rfl, .inr ⟨2, rfl, by decide +kernel, _, rfl, by decide +kernel, ?_⟩⟩
  refine ⟨"signs ", rfl, by decide +kernel, _, rfl, .inl ⟨t, rfl, Nat.le_trans tl (by decide), t, rfl, Nat.le_trans (show (l2B t).length ≤ 1100 from k2) (by decide), ?_⟩⟩
  refine ⟨⟨_, rfl⟩, _, rfl, ph, _, rfl, .inl (SqT.of hh), (by show 2 ≤ sizeLine; decide), fun lp hlp => ⟨" ", lp, ["handed", "x"], rfl, rfl, .inl (SqL.of upd_same), by decide +kernel, ?_⟩⟩
  refine ⟨(by show 3 ≤ sizeLine; decide), fun ll hll => ?_⟩
  have s0 := (same_new hlp (.lst ([V.str (Str.ofString "handed")] ++ ([V.str (Str.ofString "x")] ++ [])))).trans (same_new hll (.lst [V.str l1B, V.str (l2B t), V.str l3B]))
  refine ⟨_, rfl, pr, rfl, ⟨_, SqT.of (s0 _ _ h1)⟩, ?_⟩
  refine for_it1 (fun σ' H' => Same H H' ∧ σ'[4]? = some (some (.ref ll)) ∧ H' ll = some (.lst [V.str l1B, V.str (l2B t), V.str l3B, V.str l4B])) (itt_go (SqT.of (s0 _ _ h1))) (fun x' H' y => ?_) fun σ' H' j => ⟨itt_stop (SqT.of (j.1 _ _ h1)) (by show 1 ≤ 1; decide), ?_⟩
  · obtain ⟨rfl, rfl⟩ := itt_y (SqT.of (s0 _ _ h1)) y
    refine ⟨pp, _, rfl, SqT.of (s0 _ _ h2), rfl, _, _, rfl, _, _, rfl, rfl, ?_⟩
    obtain ⟨C, hx⟩ := nm.same s0
    obtain ⟨dx, fa, dfa, pm, pi', pl, hc, e1, e2, _⟩ := hx
    refine ⟨_, rfl, .inl ⟨rfl, _, SqL.of upd_same⟩, "row ", rfl, by decide +kernel, _, rfl, .inl ⟨"y", rfl, by decide +kernel, "y", rfl, by decide +kernel, " = ", rfl, by decide +kernel, ?_⟩⟩
    refine ⟨_, rfl, _, rfl, .inr (.inr ⟨_, _, dx, _, spStr _ CF, rfl, e1, L.str _ hc, _, dx, fa, dfa, _, _, "x", rfl, e1, rfl, e2, rfl, "x", rfl, ?_⟩)⟩
    refine .inl ⟨"x", rfl, by decide +kernel, "x", rfl, by decide +kernel, ?_⟩
    refine ⟨ll, _, _, rfl, rfl, upd_same, (by show 3 < sizeLine; decide), ?_⟩
    refine ⟨fun c o e => ?_, rfl, upd_same⟩
    have hlp' := ne_of_none e hlp
    have nl : c ≠ ll := fun z => by
      rw [z] at e
      have z2 := same_new hlp (.lst ([V.str (Str.ofString "handed")] ++ ([V.str (Str.ofString "x")] ++ []))) _ _ e
      exact nomatch z2.symm.trans hll
    rw [upd_ne nl]
    exact s0 _ _ e
  · obtain ⟨s1, e4, hl⟩ := j
    refine ⟨⟨_, rfl⟩, _, e4, "\n", ll, [l1B, l2B t, l3B, l4B], rfl, rfl, .inl (SqL.of hl), ?_, q _ H' s1⟩
    have kn : ("\n" : Str).length = 1 := by decide +kernel
    rw [kn]
    show l1B.length + ((l2B t).length + (l3B.length + (l4B.length + 0))) + 4 * 1 ≤ 16777216
    omega
end
end Wp

namespace Wp
open PySem PySem.Spec PyProof.Rows L2 Hx
structure BookC (K : PySem.W.Frag) (CB : Addr) : Prop where
  cls : Cls K CB
  no : ∀ f ∈ (["radix", "letters", "givens", "pairs", "table", "text"] : List Str), NoAttr K CB f
theorem pb0 {v1 : V} : putF "radix" v1 [] = ([("radix", v1)] : List (Str × V)) := rfl
theorem pb1 {v1 v2 : V} : putF "letters" v2 ([("radix", v1)] : List (Str × V)) = ([("radix", v1), ("letters", v2)] : List (Str × V)) := by kernel_rfl
theorem pb2 {v1 v2 v3 : V} : putF "givens" v3 ([("radix", v1), ("letters", v2)] : List (Str × V)) = ([("radix", v1), ("letters", v2), ("givens", v3)] : List (Str × V)) := by kernel_rfl
theorem pb3 {v1 v2 v3 v4 : V} : putF "pairs" v4 ([("radix", v1), ("letters", v2), ("givens", v3)] : List (Str × V)) = ([("radix", v1), ("letters", v2), ("givens", v3), ("pairs", v4)] : List (Str × V)) := by kernel_rfl
theorem pb4 {v1 v2 v3 v4 v5 : V} : putF "table" v5 ([("radix", v1), ("letters", v2), ("givens", v3), ("pairs", v4)] : List (Str × V)) = ([("radix", v1), ("letters", v2), ("givens", v3), ("pairs", v4), ("table", v5)] : List (Str × V)) := by kernel_rfl
theorem pb5 {v1 v2 v3 v4 v5 v6 : V} : putF "text" v6 ([("radix", v1), ("letters", v2), ("givens", v3), ("pairs", v4), ("table", v5)] : List (Str × V)) = ([("radix", v1), ("letters", v2), ("givens", v3), ("pairs", v4), ("table", v5), ("text", v6)] : List (Str × V)) := by kernel_rfl
theorem look_letters {v1 v2 v3 v4 v5 v6 : V} : ([("radix", v1), ("letters", v2), ("givens", v3), ("pairs", v4), ("table", v5), ("text", v6)] : List (Str × V)).lookup ("letters" : Str) = some v2 := by kernel_rfl
theorem xp_but2 {CF : Addr} {cls : Addr → Prop} {a dx CB : Addr} {H H' : Hp} {x C : Addr} {kind text : Str} {told inner : List V} {labels : List Str} {size : Int} (ha : H a = some (.ins CB dx [])) (b : But a H H') (h : XpAt CF cls H x C kind text told inner labels size) : XpAt CF cls H' x C kind text told inner labels size := by
  obtain ⟨dx', fa, dfa, pm, pi, pl, h0, h1, h2, h3, h4, h5⟩ := h
  refine ⟨dx', fa, dfa, pm, pi, pl, h0, b _ _ (but_ne ha h1 ?_) h1, b _ _ (but_ne ha h2 ?_) h2, b _ _ (but_ne ha h3 ?_) h3, b _ _ (but_ne ha h4 ?_) h4, b _ _ (but_ne ha h5 ?_) h5⟩
  · intro z
    cases z
  · intro z
    have y := (HO.ins.inj z).2.2
    unfold factL at y
    cases y
  · intro z
    cases z
  · intro z
    cases z
  · intro z
    cases z
section
variable {P : Program} {w : World} {K : PySem.W.Frag} {mg : Str → Option Value} {base : Heap} {f fW fS fH fP fR fT CF CB Cn Cw : Addr} {fd fdW fdS fdH fdP fdR fdT : FuncData} {cls : Addr → Prop}
def spBook (CF CB Cw : Addr) (cls : Addr → Prop) : Sp := fun vs H Q E => ∃ (a dx : Addr) (t : Str) (ph pr : Addr), vs = [.ref a, .int 2, .str t, .ref ph, .ref pr] ∧ H a = some (.ins CB dx []) ∧ t.length ≤ 1000 ∧ H ph = some (.tup [.str "x"]) ∧ RowsAt CF cls H pr ∧
  ((wordB t = true ∧ ∀ H' fs, H' a = some (.ins CB dx fs) → fs.lookup ("letters" : Str) = some (V.str t) → But a H H' → Q .non H') ∨ (wordB t = false ∧ Tells E Cw (.str t) H))
def NBo : List Str := ["self", "base", "signs", "handed", "rows", "name", "expression"]
theorem scBook : FnScope NBo ["self", "base", "signs", "handed", "rows"] (defScope s_Book_init) := ⟨rfl, rfl, rfl, by decide +kernel, rfl, by decide +kernel, by decide +kernel⟩
theorem ok_book (F : Fun K "__init__" "Book.__init__" s_Book_init f fd) (BC : BookC K CB) (CO : Consts mg K)
    (GW : FnOk P w K mg base (L2.CX P w) 3 fW fdW ["given", "least", "most"] (spCheckWithin K Cn)) (bW : Binds K fdW ["given", "least", "most"] []) (kW : PySem.W.keepIn K (.ref fW) = true) (mW : mg "check_within" = some (.ref fW))
    (GS : FnOk P w K mg base (L2.CX P w) 3 fS fdS ["given"] (spCheck K wordB Cw)) (bS : Binds K fdS ["given"] []) (kS : PySem.W.keepIn K (.ref fS) = true) (mS : mg "check_signs" = some (.ref fS))
    (GH : FnOk P w K mg base CX0 3 fH fdH ["given"] spHnd) (bH : Binds K fdH ["given"] []) (kH : PySem.W.keepIn K (.ref fH) = true) (mH : mg "check_handed_names" = some (.ref fH))
    (GP : FnOk P w K mg base CX0 4 fP fdP ["given", "handed"] (spPairs CF cls)) (bP : Binds K fdP ["given", "handed"] []) (kP : PySem.W.keepIn K (.ref fP) = true) (mP : mg "check_pairs" = some (.ref fP))
    (GR : FnOk P w K mg base CX0 6 fR fdR ["base", "signs", "handed", "rows"] (spRules CF cls)) (bR : Binds K fdR ["base", "signs", "handed", "rows"] []) (kR : PySem.W.keepIn K (.ref fR) = true) (mR : mg "check_rules" = some (.ref fR))
    (GT : FnOk P w K mg base CX0 4 fT fdT ["base", "signs", "handed", "rows"] (spSpelledB CF cls)) (bT : Binds K fdT ["base", "signs", "handed", "rows"] []) (kT : PySem.W.keepIn K (.ref fT) = true) (mT : mg "spelled_book" = some (.ref fT)) :
    FnOk P w K mg base (L2.CX P w) 7 f fd ["self", "base", "signs", "handed", "rows"] (spBook CF CB Cw cls) := by
  refine F.okX scBook (fun vs H Q E h => ?_) (fun cdv A outer s H vs Q E hr h => ?_)
  · obtain ⟨a, dx, t, ph, pr, rfl, _⟩ := h
    rfl
  obtain ⟨a, dx, t, ph, pr, rfl, ha, tl, hh, ⟨pp, e, h1, h2, nm⟩, h⟩ := h
  obtain ⟨tm, ml⟩ := CO.least
  obtain ⟨tb, mb⟩ := CO.base
  have tk := takes_of (X := cxOf (L2.CX P w) P w K mg base NBo "Book.__init__" (defScope s_Book_init) f cdv A outer s H E) rfl rfl rfl rfl
  have r3 := hr.mono (by decide : 3 ≤ 6)
  have r4 := hr.mono (by decide : 4 ≤ 6)
  refine ⟨_, pss_cons (ps_expr (pe_callS GW r3 rfl mW kW bW (fun σ => passAt tk σ) (pa_cons (pv 1) (pa_cons (pe_gint rfl ml) (pa_cons (pe_gint rfl mb) pa_nil)))))
    (pss_cons (ps_expr (pe_callS GS r3 rfl mS kS bS (fun σ => passAt tk σ) (pa_cons (pv 2) pa_nil)))
    (pss_cons (ps_expr (pe_call GH r3 rfl mH kH bH .nil pass0 (pa_cons (pv 3) pa_nil)))
    (pss_cons (ps_expr (pe_call GP r4 rfl mP kP bP .nil pass0 (pa_cons (pv 4) (pa_cons (pv 3) pa_nil))))
    (pss_cons (ps_expr (pe_call GR hr rfl mR kR bR .nil pass0 (pa_cons (pv 1) (pa_cons (pv 2) (pa_cons (pv 3) (pa_cons (pv 4) pa_nil))))))
    (pss_cons (ps_fld (pv 0) (pv 1) rfl) (pss_cons (ps_fld (pv 0) (pv 2) rfl) (pss_cons (ps_fld (pv 0) (pv 3) rfl) (pss_cons (ps_fld (pv 0) (pv 4) rfl)
    (pss_cons (ps_fld (pv 0) (pe_dc (tk := tVar 5) (tv := tVar 6) (own := [("name", 5), ("expression", 6)]) (g := gTup K 2 (gCons (gName 5) (gCons (gName 6) gNil))) (tt := tYes) rfl scBook.nd (pi_tup (pv 4))
        (blkOk_by (N := NBo) (sc := defScope s_Book_init) (by decide +kernel)) (fun _ _ _ _ _ => pg_tup (by rfl) (pgs_cons (pg_name (i := 5) scBook.nd rfl (Or.inl rfl)) (pgs_cons (pg_name (i := 6) scBook.nd rfl (Or.inl rfl)) pgs_nil))) (fun _ _ _ _ _ => pts_nil)
        (fun _ _ _ _ _ => pv 5) (fun _ _ _ _ _ => pv 6)) rfl)
    (pss_one (ps_fld (pv 0) (pe_call GT r4 rfl mT kT bT .nil pass0 (pa_cons (pv 1) (pa_cons (pv 2) (pa_cons (pv 3) (pa_cons (pv 4) pa_nil))))) rfl))))))))))), ?_⟩
  have npr : pr ≠ a := but_ne ha h1 (by intro z; cases z)
  have npp : pp ≠ a := but_ne ha h2 (by intro z; cases z)
  have nph : ph ≠ a := but_ne ha hh (by intro z; cases z)
  have no := BC.no
  refine ⟨_, rfl, _, _, _, rfl, .inl ⟨2, rfl, by decide, by decide, ?_⟩⟩
  rcases h with ⟨ok, q⟩ | ⟨bad, tell⟩
  case inr => exact ⟨_, rfl, _, rfl, .inr ⟨.inl ⟨t, rfl, Nat.le_trans tl (by decide), bad⟩, tell⟩⟩
  refine ⟨_, rfl, _, rfl, .inl ⟨t, rfl, Nat.le_trans tl (by decide), ok, fun H1 s1 => ?_⟩⟩
  refine ⟨_, rfl, ph, rfl, s1 _ _ hh, fun H2 s2 => ?_⟩
  have s12 := s1.trans s2
  refine ⟨_, rfl, _, rfl, pr, ph, rfl, ⟨pp, e, s12 _ _ h1, s12 _ _ h2, nm.same s12⟩, s12 _ _ hh, fun H3 s3 => ?_⟩
  have s13 := s12.trans s3
  refine ⟨_, rfl, _, rfl, _, rfl, _, rfl, t, ph, pr, rfl, s13 _ _ hh, ⟨pp, e, s13 _ _ h1, s13 _ _ h2, nm.same s13⟩, fun H4 s4 => ?_⟩
  have s14 := s13.trans s4
  have ha4 := s14 _ _ ha
  refine ⟨_, rfl, _, rfl, a, CB, dx, [], rfl, ha4, BC.cls, no "radix" (by simp), (by show 0 < 1000; decide), ?_⟩
  rw [pb0]
  refine ⟨_, rfl, _, rfl, a, CB, dx, _, rfl, upd_same, BC.cls, no "letters" (by simp), (by show 1 < 1000; decide), ?_⟩
  rw [pb1]
  refine ⟨_, rfl, _, rfl, a, CB, dx, _, rfl, upd_same, BC.cls, no "givens" (by simp), (by show 2 < 1000; decide), ?_⟩
  rw [pb2]
  refine ⟨_, rfl, _, rfl, a, CB, dx, _, rfl, upd_same, BC.cls, no "pairs" (by simp), (by show 3 < 1000; decide), ?_⟩
  rw [pb3]
  have b5 := ((((But.of s14 (d := a)).upd (.ins CB dx ([("radix", V.int 2)] : List (Str × V)))).upd (.ins CB dx ([("radix", V.int 2), ("letters", V.str t)] : List (Str × V)))).upd (.ins CB dx ([("radix", V.int 2), ("letters", V.str t), ("givens", V.ref ph)] : List (Str × V)))).upd
    (.ins CB dx ([("radix", V.int 2), ("letters", V.str t), ("givens", V.ref ph), ("pairs", V.ref pr)] : List (Str × V)))
  obtain ⟨H5, e5, b5, h5a⟩ : ∃ H5, upd (upd (upd (upd H4 a (.ins CB dx ([("radix", V.int 2)] : List (Str × V)))) a (.ins CB dx ([("radix", V.int 2), ("letters", V.str t)] : List (Str × V)))) a (.ins CB dx ([("radix", V.int 2), ("letters", V.str t), ("givens", V.ref ph)] : List (Str × V)))) a
      (.ins CB dx ([("radix", V.int 2), ("letters", V.str t), ("givens", V.ref ph), ("pairs", V.ref pr)] : List (Str × V))) = H5 ∧ But a H H5 ∧ H5 a = some (.ins CB dx ([("radix", V.int 2), ("letters", V.str t), ("givens", V.ref ph), ("pairs", V.ref pr)] : List (Str × V))) := ⟨_, rfl, b5, upd_same⟩
  rw [e5]
  have h1' := b5 _ _ npr h1
  have h2' := b5 _ _ npp h2
  refine ⟨_, rfl, pr, rfl, ⟨_, SqT.of h1'⟩, fun D hD => ?_⟩
  have s6 := same_new hD (.dK [])
  refine dc_it1 (fun H' => Same H5 H' ∧ H' D = some (.dK [(Sum.inr "y", .ref e)])) (itt_go (SqT.of (s6 _ _ h1'))) (fun x' H' y => ?_) fun H6 j => ⟨itt_stop (SqT.of (j.1 _ _ h1')) (by show 1 ≤ 1; decide), ?_⟩
  · obtain ⟨rfl, rfl⟩ := itt_y (SqT.of (s6 _ _ h1')) y
    refine ⟨pp, _, rfl, SqT.of (s6 _ _ h2'), rfl, _, _, rfl, _, _, rfl, rfl, rfl, turn_yes ?_⟩
    refine ⟨_, rfl, _, rfl, [], Sum.inr "y", rfl, upd_same, by decide, fun b o eb => ?_, upd_same⟩
    rw [upd_ne (ne_of_none eb hD)]
    exact s6 _ _ eb
  obtain ⟨s7, hD7⟩ := j
  refine ⟨_, rfl, a, CB, dx, _, rfl, s7 _ _ h5a, BC.cls, no "table" (by simp), (by show 4 < 1000; decide), ?_⟩
  rw [pb4]
  have b8 := (b5.trans (But.of s7)).upd (.ins CB dx ([("radix", V.int 2), ("letters", V.str t), ("givens", V.ref ph), ("pairs", V.ref pr), ("table", V.ref D)] : List (Str × V)))
  refine ⟨_, rfl, _, rfl, _, rfl, _, rfl, t, ph, pr, rfl, tl, b8 _ _ nph hh, ⟨pp, e, b8 _ _ npr h1, b8 _ _ npp h2, ?_⟩, fun y H9 s9 => ?_⟩
  · obtain ⟨C, hx⟩ := nm
    exact ⟨C, xp_but2 ha b8 hx⟩
  refine ⟨_, rfl, a, CB, dx, _, rfl, s9 _ _ upd_same, BC.cls, no "text" (by simp), (by show 5 < 1000; decide), ?_⟩
  rw [pb5]
  exact q _ _ upd_same look_letters ((b8.trans (But.of s9)).upd _)
/-! its signs -/
def spSignsB (CB : Addr) : Sp := fun vs H Q _ => ∃ (a dx : Addr) (fs : List (Str × V)) (v : V), vs = [.ref a] ∧ H a = some (.ins CB dx fs) ∧ fs.lookup ("letters" : Str) = some v ∧ Q v H
theorem scSignsB : FnScope ["self"] ["self"] (defScope s_Book_signs) := ⟨rfl, rfl, rfl, by decide +kernel, rfl, by decide +kernel, by decide +kernel⟩
theorem ok_signsB (F : Fun K "signs" "Book.signs" s_Book_signs f fd) (BC : BookC K CB) : FnOk P w K mg base CX0 1 f fd ["self"] (spSignsB CB) := by
  refine F.ok scSignsB (fun vs H Q E h => ?_) (fun cdv A outer s H vs Q E hr h => ?_)
  · obtain ⟨a, dx, fs, v, rfl, _⟩ := h
    rfl
  obtain ⟨a, dx, fs, v, rfl, h1, h2, q⟩ := h
  refine ⟨_, pss_one (ps_ret (pe_fld (pv 0) rfl)), ?_⟩
  exact ⟨_, rfl, a, CB, dx, fs, _, rfl, h1, BC.cls, BC.no "letters" (by simp), h2, q⟩
end
end Wp

namespace Wp
open PySem PySem.Spec PyProof.Rows L2 Hx
/-- a text of at most so many signs, each of the first 128 -/
def Near (n : Nat) (x : Str) : Prop := x.length ≤ n ∧ ∀ c ∈ x.cps.toList, c < 128
theorem near_one {c : Nat} (h : c < 128) : Near 1 (⟨#[c]⟩ : Str) := ⟨Nat.le_refl 1, fun b hb => by
  have : b = c := by simpa using hb
  omega⟩
theorem near_add {n m : Nat} {x y : Str} (h : Near n x) (g : Near m y) : Near (n + m) (x ++ y) := by
  refine ⟨by rw [PySem.Str.length_append]; exact Nat.add_le_add h.1 g.1, fun c hc => ?_⟩
  have e : (x ++ y).cps.toList = x.cps.toList ++ y.cps.toList := Array.toList_append ..
  rw [e] at hc
  rcases List.mem_append.mp hc with z | z
  · exact h.2 c z
  · exact g.2 c z
theorem near_le {n m : Nat} {x : Str} (h : Near n x) (l : n ≤ m) : Near m x := ⟨Nat.le_trans h.1 l, h.2⟩
theorem near_cut {n : Nat} {x : Str} (h : Near n x) (lo hi : Option Int) : Near n (cutS x lo hi) := by
  refine ⟨Nat.le_trans (cutS_length x lo hi) h.1, fun c hc => h.2 c ?_⟩
  have e : (cutS x lo hi).cps.toList = (x.cps.toList.drop (HT.sIx x.length 0 lo)).take (HT.sIx x.length x.length hi - HT.sIx x.length 0 lo) := List.toList_toArray
  rw [e] at hc
  exact List.mem_of_mem_drop (List.mem_of_mem_take hc)
theorem near_join {sep : Str} (hs : Near 0 sep) : ∀ {xs : List Str}, (∀ x ∈ xs, Near 1 x) → Near xs.length (Str.join sep xs)
  | [], _ => ⟨Nat.le_refl 0, fun c hc => by cases hc⟩
  | [x], h => h x List.mem_cons_self
  | x :: y :: r, h => by
    have i := near_join hs (xs := y :: r) fun z hz => h z (List.mem_cons_of_mem _ hz)
    have a := near_add (near_add (h x List.mem_cons_self) hs) i
    exact near_le a (by rw [List.length_cons (a := x)]; omega)
theorem if_join {c : TT} {t u w : TS} {D : Ends} {σ : L2.St} {H : Hp} (P : L2.St → Hp → Prop)
    (h : ∀ N : L2.St → Hp → Prop, (∀ σ' H', P σ' H' → N σ' H') → tIfS c t u { D with nx := N } σ H) (hq : ∀ σ' H', P σ' H' → w D σ' H') : tSeq (tIfS c t u) w D σ H := h _ hq
theorem nx_go {u : Ends → L2.St → Hp → Prop} {D D' : Ends} {σ : L2.St} {H : Hp} (h : u D σ H) : Ends.nx { D' with nx := u D } σ H := h
section
variable {H H' : Hp} {d p : Addr}
theorem deck_off (h : DeckAt H d) (n : H p = none) : d ≠ p := fun z => by
  obtain ⟨_, _, _, _, _, e⟩ := h
  rw [z, n] at e
  cases e
theorem deck_byt (h : DeckAt H d) (s : Same H H') : DeckAt H' d := by
  obtain ⟨a, m, c, h1, h2, e⟩ := h
  exact ⟨a, m, c, h1, h2, s _ _ e⟩
theorem deck_new (h : DeckAt H d) (n : H p = none) (o : HO) : DeckAt (upd H p o) d := deck_byt h (same_new n o)
end
section
variable {P : Program} {w : World} {K : PySem.W.Frag} {mg : Str → Option Value} {base : Heap} {f fC fO : Addr} {fd fdC fdO : FuncData}
/-- _law_of over a text -/
def spOfS : Sp := fun vs H Q _ => ∃ (d : Addr) (x : Str), vs = [.ref d, .str x] ∧ 0 < x.length ∧ x.length ≤ 1000 ∧ DeckAt H d ∧ ∀ c H', c ∈ x.cps.toList → But d H H' → DeckAt H' d → Q (.str ⟨#[c]⟩) H'
theorem ok_ofS (F : Fun K "_law_of" "_law_of" s_law_of f fd)
    (GC : FnOk P w K mg base CX0 1 fC fdC ["_law_deck_here", "_law_top"] spCard) (bC : Binds K fdC ["_law_deck_here", "_law_top"] [])
    (kC : PySem.W.keepIn K (.ref fC) = true) (mC : mg "_law_card" = some (.ref fC)) (ml : mg "len" = none) :
    FnOk P w K mg base CX0 2 f fd ["_law_deck_here", "_law_menu"] spOfS := by
  refine F.ok scOf (fun vs H Q E h => ?_) (fun cdv A outer s H vs Q E hr h => ?_)
  · obtain ⟨d, x, rfl, _⟩ := h
    rfl
  obtain ⟨d, x, rfl, l0, l1, hd, q⟩ := h
  refine ⟨_, pss_one (ps_ret (pe_ix ix_str (pv 1) (pe_call GC hr rfl mC kC bC .nil pass0 (pa_cons (pv 0) (pa_cons
    (pe_callB call_len_str (by rfl) ml PySem.boot_len (pa_cons (pv 1) pa_nil)) pa_nil))) (fun _ _ => rfl))), ?_⟩
  have hl : x.cps.toList.length = x.length := by simp [Str.length]
  refine ⟨_, rfl, _, rfl, _, rfl, x, rfl, Nat.le_trans l1 (by decide), d, _, rfl, by omega, by omega, hd, fun r H' r0 r1 b hd' => ?_⟩
  obtain ⟨v, hv, ev⟩ := atI_in (xs := x.cps.toList) r0 (by rw [hl]; exact r1)
  exact ⟨x, _, v, rfl, rfl, Nat.le_trans l1 (by decide), ev, q v H' hv b hd'⟩
def spNear : Sp := fun vs H Q _ => ∃ d, vs = [.ref d] ∧ DeckAt H d ∧ ∀ x H', Near 23 x → But d H H' → DeckAt H' d → Q (.str x) H'
def NNn : List Str := ["_law_deck_here", "_law_letters", "_law_title", "_law_k", "_law_spot"]
theorem scNear : FnScope NNn ["_law_deck_here"] (defScope s_law_near_name) := ⟨rfl, rfl, rfl, by decide +kernel, rfl, by decide +kernel, by decide +kernel⟩
def oddS : Str := "AZ09_ '-(,~"
theorem near_abc : ∀ c ∈ abc.cps.toList, c < 128 := by decide +kernel
theorem near_odd : ∀ c ∈ oddS.cps.toList, c < 128 := by decide +kernel
theorem ok_near (F : Fun K "_law_near_name" "_law_near_name" s_law_near_name f fd) (zr : mg "range" = none) (zl : mg "len" = none)
    (GC : FnOk P w K mg base CX0 1 fC fdC ["_law_deck_here", "_law_top"] spCard) (bC : Binds K fdC ["_law_deck_here", "_law_top"] []) (kC : PySem.W.keepIn K (.ref fC) = true) (mC : mg "_law_card" = some (.ref fC))
    (GO : FnOk P w K mg base CX0 2 fO fdO ["_law_deck_here", "_law_menu"] (spOf K)) (GS : FnOk P w K mg base CX0 2 fO fdO ["_law_deck_here", "_law_menu"] spOfS)
    (bO : Binds K fdO ["_law_deck_here", "_law_menu"] []) (kO : PySem.W.keepIn K (.ref fO) = true) (mO : mg "_law_of" = some (.ref fO)) :
    FnOk P w K mg base CX0 3 f fd ["_law_deck_here"] spNear := by
  refine F.ok scNear (fun vs H Q E h => ?_) (fun cdv A outer s H vs Q E hr h => ?_)
  · obtain ⟨d, rfl, _⟩ := h
    rfl
  obtain ⟨d, rfl, hd, q⟩ := h
  have r1 := hr.mono (by decide : 1 ≤ 2)
  refine ⟨_, pss_cons (ps_set (i := 1) scNear.nd rfl (Or.inr rfl) pe_str)
    (pss_cons (ps_set (i := 2) scNear.nd rfl (Or.inl rfl) (pe_join pe_str (pe_lc (te := tCall spOfS [] E0 (tCons (tVar 0) (tCons (tVar 1) tNil))) (own := [("_law_k", 3)]) (g := gName 3) (tt := tYes) rfl scNear.nd
        (pi_range1 rfl zr (pa_cons (pe_call GC r1 rfl mC kC bC .nil pass0 (pa_cons (pv 0) (pa_cons pe_int pa_nil))) pa_nil))
        (blkOk_by (N := NNn) (sc := defScope s_law_near_name) (by decide +kernel)) (fun _ _ _ _ _ => pg_name (i := 3) scNear.nd rfl (Or.inl rfl)) (fun _ _ _ _ _ => pts_nil)
        (fun _ _ _ _ _ => pe_call GS hr rfl mO kO bO .nil pass0 (pa_cons (pv 0) (pa_cons (pv 1) pa_nil))))))
    (pss_cons (ps_if (pt_cmpR op_eq (pe_call GC r1 rfl mC kC bC .nil pass0 (pa_cons (pv 0) (pa_cons pe_int pa_nil))) pe_int (nomark _))
      (pss_cons (ps_set (i := 2) scNear.nd rfl (Or.inl rfl) (pe_call GO hr rfl mO kO bO .nil pass0 (pa_cons (pv 0) (pa_cons (pe_lst (pa_cons pe_str (pa_cons pe_str (pa_cons pe_str (pa_cons pe_str (pa_cons pe_str pa_nil)))))) pa_nil))))
      (pss_one (ps_set (i := 2) scNear.nd rfl (Or.inl rfl) (pe_ix ix_list (pe_lst (pa_cons (pv 2) (pa_cons (pe_slice sl_str (pv 2) po_none (po_some (pe_un un_neg pe_int)))
          (pa_cons (pe_op op_add_str (pv 2) (pe_call GS hr rfl mO kO bO .nil pass0 (pa_cons (pv 0) (pa_cons (pv 1) pa_nil)))) (pa_cons (pe_slice sl_str (pv 2) (po_some pe_int) po_none) pa_nil)))))
          (pe_call GC r1 rfl mC kC bC .nil pass0 (pa_cons (pv 0) (pa_cons pe_int pa_nil))) (fun _ _ => rfl))))) pss_nil)
    (pss_cons (ps_if (pt_cmpR op_eq (pe_call GC r1 rfl mC kC bC .nil pass0 (pa_cons (pv 0) (pa_cons pe_int pa_nil))) pe_int (nomark _))
      (pss_cons (ps_set (i := 4) scNear.nd rfl (Or.inl rfl) (pe_call GC r1 rfl mC kC bC .nil pass0 (pa_cons (pv 0) (pa_cons (pe_op op_add (pe_callB call_len_str (by rfl) zl PySem.boot_len (pa_cons (pv 2) pa_nil)) pe_int) pa_nil))))
      (pss_one (ps_set (i := 2) scNear.nd rfl (Or.inl rfl) (pe_op op_add_str (pe_op op_add_str (pe_slice sl_str (pv 2) po_none (po_some (pv 4))) (pe_call GS hr rfl mO kO bO .nil pass0 (pa_cons (pv 0) (pa_cons pe_str pa_nil)))) (pe_slice sl_str (pv 2) (po_some (pv 4)) po_none))))) pss_nil)
    (pss_one (ps_ret (pe_ifExp (pt_cmpR op_eq (pe_call GC r1 rfl mC kC bC .nil pass0 (pa_cons (pv 0) (pa_cons pe_int pa_nil))) pe_int (nomark _))
      (pe_slice sl_str (pv 2) po_none (po_some (pe_op op_add pe_int (pe_call GC r1 rfl mC kC bC .nil pass0 (pa_cons (pv 0) (pa_cons pe_int pa_nil)))))) (pv 2))))))), ?_⟩
  refine ⟨⟨_, rfl⟩, _, rfl, d, 11, rfl, by decide, by decide, hd, fun r H1 r0 r1 b1 hd1 => ?_⟩
  refine ⟨r, rfl, by omega, by omega, fun D hD => ?_⟩
  have ndD := deck_off hd1 hD
  refine lc_range (lo := 0) (n := r.toNat) (fun i H' => But d H1 H' ∧ DeckAt H' d ∧ ∃ ms : List Str, ms.length = i ∧ (∀ m ∈ ms, Near 1 m) ∧ H' D = some (.lst (ms.map V.str)))
    ⟨But.refl.new hD _, deck_new hd1 hD _, [], rfl, (by intro m hm; cases hm), upd_same⟩ ?_ ?_
  · rintro i H' hi ⟨b, hd', ms, rfl, hm, h1⟩
    refine ⟨rfl, turn_yes ⟨_, rfl, _, rfl, d, abc, rfl, by decide +kernel, by decide +kernel, hd', fun c H3 hc b3 hd3 => ?_⟩⟩
    have h2 := b3 D _ (Ne.symm ndD) h1
    refine ⟨_, h2, ?_, ?_, ?_, ms ++ [⟨#[c]⟩], by rw [List.length_append]; rfl, fun m hm' => ?_, ?_⟩
    · rw [List.length_map, sizeLine_eq]
      omega
    · intro x o nx hx
      rw [upd_ne (ne_of_none hx hD)]
      exact b3 x o nx (b x o nx hx)
    · obtain ⟨x1, x2, x3, y1, y2, e⟩ := hd3
      exact ⟨x1, x2, x3, y1, y2, by rw [upd_ne ndD]; exact e⟩
    · rcases List.mem_append.mp hm' with z | z
      · exact hm m z
      · rw [List.mem_singleton.mp z]
        exact near_one (near_abc c hc)
    · rw [upd_same, List.map_append]
      rfl
  rintro H3 ⟨b3, hd3, ms, hl, hm, h3⟩
  have bH3 := b1.trans b3
  have e0 : (Str.ofString "").length = 0 := by decide +kernel
  have nj : Near 10 (Str.join (Str.ofString "") ms) := near_le (near_join ⟨by rw [e0]; exact Nat.le_refl 0, fun c hc => by cases hc⟩ hm) (by omega)
  refine ⟨"", D, ms, rfl, rfl, .inl (SqL.of h3), ?_, ?_⟩
  · rw [e0]
    have : (ms.map (·.length)).sum ≤ ms.length * 1 := by
      clear nj h3 hl
      induction ms with
      | nil => exact Nat.le_refl 0
      | cons m ms ih =>
        have h1 := (hm m List.mem_cons_self).1
        have h2 := ih fun x hx => hm x (List.mem_cons_of_mem _ hx)
        rw [List.map_cons, List.sum_cons, List.length_cons]
        omega
    omega
  rw [TL.join_eq]
  generalize Str.join (Str.ofString "") ms = x at nj ⊢
  clear h3 hm hl ms ndD hD
  refine nx_go (if_join (fun σ' H' => ∃ y : Str, σ' = [some (V.ref d), some (V.str abc), some (V.str y), none, none] ∧ Near 11 y ∧ But d H H' ∧ DeckAt H' d) (fun N hN => ?_) ?_)
  · refine ⟨_, rfl, d, 4, rfl, by decide, by decide, hd3, fun r4 H4 x0 x1 b4 hd4 => ⟨rfl, _, rfl, ?_⟩⟩
    have bH4 := bH3.trans b4
    refine ite2 (fun c0 => ?_) (fun c0 => ?_)
    · refine ⟨_, rfl, (by show 5 ≤ sizeLine; decide), fun p1 n1 => ?_⟩
      have nd1 := deck_off hd4 n1
      refine ⟨d, p1, _, rfl, nd1, SqL.of upd_same, by decide, by decide, deck_new hd4 n1 _, fun v H5 hv b5 hd5 => ?_⟩
      have bH5 := (bH4.new n1 _).trans b5
      obtain ⟨y, rfl, ny⟩ : ∃ y : Str, v = .str y ∧ Near 5 y := by
        simp only [List.mem_cons, List.not_mem_nil, or_false] at hv
        rcases hv with rfl | rfl | rfl | rfl | rfl
        all_goals exact ⟨_, rfl, by decide +kernel, by decide +kernel⟩
      have ly : y.length ≤ sizeLine := Nat.le_trans ny.1 (by decide)
      have ly5 : y.length ≤ 5 := ny.1
      refine ⟨_, rfl, _, rfl, _, rfl, _, rfl, y, rfl, ly, _, rfl, _, rfl, _, rfl, d, abc, rfl, by decide +kernel, by decide +kernel, hd5, fun c H6 hc b6 hd6 => ?_⟩
      have bH6 := bH5.trans b6
      have l1 : (⟨#[c]⟩ : Str).length = 1 := rfl
      refine ⟨_, _, rfl, rfl, by rw [l1, sizeLine_eq]; omega, _, rfl, _, rfl, y, rfl, ly, (by show 4 ≤ sizeLine; decide), fun p2 n2 => ?_⟩
      have nd2 := deck_off hd6 n2
      refine ⟨_, rfl, d, 4, rfl, by decide, by decide, deck_new hd6 n2 _, fun r8 H8 z0 z1 b8 hd8 => ?_⟩
      have bH8 := (bH6.new n2 _).trans b8
      have h8 := b8 p2 _ (Ne.symm nd2) upd_same
      obtain ⟨v, hv2, ev⟩ := atI_in z0 (show r8 < (([V.str y, V.str (cutS y none (some (-1))), V.str (y ++ ⟨#[c]⟩), V.str (cutS y (some 1) none)] : List V).length : Int) from z1)
      refine ⟨p2, _, _, v, rfl, rfl, SqL.of h8, ev, ?_⟩
      obtain ⟨y2, rfl, ny2⟩ : ∃ y2 : Str, v = .str y2 ∧ Near 6 y2 := by
        simp only [List.mem_cons, List.not_mem_nil, or_false] at hv2
        rcases hv2 with rfl | rfl | rfl | rfl
        · exact ⟨_, rfl, near_le ny (by decide)⟩
        · exact ⟨_, rfl, near_le (near_cut ny _ _) (by decide)⟩
        · exact ⟨_, rfl, near_add ny (near_one (near_abc c hc))⟩
        · exact ⟨_, rfl, near_le (near_cut ny _ _) (by decide)⟩
      exact hN _ _ ⟨y2, rfl, near_le ny2 (by decide), bH8, hd8⟩
    · exact hN _ _ ⟨x, rfl, near_le nj (by decide), bH4, hd4⟩
  rintro σ' H4 ⟨y, rfl, ny, bH4, hd4⟩
  refine if_join (fun σ' H' => ∃ (y : Str) (o : Option V), σ' = [some (V.ref d), some (V.str abc), some (V.str y), none, o] ∧ Near 23 y ∧ But d H H' ∧ DeckAt H' d) (fun N hN => ?_) ?_
  · refine ⟨_, rfl, d, 3, rfl, by decide, by decide, hd4, fun r4 H5 x0 x1 b5 hd5 => ⟨rfl, _, rfl, ?_⟩⟩
    have bH5 := bH4.trans b5
    have ly : y.length ≤ 11 := ny.1
    refine ite2 (fun c0 => ?_) (fun c0 => ?_)
    · refine ⟨_, rfl, _, rfl, y, rfl, Nat.le_trans ly (by decide), _, _, rfl, rfl, d, _, rfl, by omega, by omega, hd5, fun r6 H6 y0 y1 b6 hd6 => ?_⟩
      have bH6 := bH5.trans b6
      have small : ∀ {z : Str}, z.length ≤ 30 → z.length ≤ sizeLine := fun h => Nat.le_trans h (by decide)
      refine ⟨_, rfl, _, rfl, _, rfl, y, rfl, small (by omega), _, rfl, d, oddS, rfl, by decide +kernel, by decide +kernel, hd6, fun c H7 hc b7 hd7 => ?_⟩
      have n1 := near_cut ny none (some r6)
      have n2 := near_cut ny (some r6) none
      have l1 : (⟨#[c]⟩ : Str).length = 1 := rfl
      have n3 := near_add n1 (near_one (near_odd c hc))
      refine ⟨_, _, rfl, rfl, by have := n1.1; rw [l1, sizeLine_eq]; omega, _, rfl, _, rfl, _, rfl, y, rfl, small (by omega), _, _, rfl, rfl, by have := n3.1; have := n2.1; rw [sizeLine_eq]; omega, ?_⟩
      exact hN _ _ ⟨_, _, rfl, near_add n3 n2, bH6.trans b7, hd7⟩
    · exact hN _ _ ⟨y, none, rfl, near_le ny (by decide), bH5, hd5⟩
  rintro σ' H5 ⟨y, o, rfl, ny, bH5, hd5⟩
  refine ⟨_, rfl, d, 2, rfl, by decide, by decide, hd5, fun r6 H6 x0 x1 b6 hd6 => ⟨rfl, _, rfl, ?_⟩⟩
  have bH6 := bH5.trans b6
  refine ite2 (fun c0 => ?_) (fun c0 => ?_)
  · refine ⟨_, rfl, ?_⟩
    refine ⟨_, rfl, d, 4, rfl, by decide, by decide, hd6, fun r7 H7 y0 y1 b7 hd7 => ⟨_, _, rfl, rfl, _, rfl, y, rfl, Nat.le_trans ny.1 (by decide), q _ H7 (near_cut ny _ _) (bH6.trans b7) hd7⟩⟩
  · exact ⟨_, rfl, q y H6 ny bH6 hd6⟩
end
end Wp

namespace Hx
open PySem PySem.Spec PyProof.Rows L2
/-- repr of data, up to a line in length -/
def rReprL : List V → Hp → VK → Prop := fun xs H Q => ∃ v d, xs = [v] ∧ Dq H v d ∧ d.showable = true ∧ d.depth ≤ 20 ∧ d.shown.length ≤ sizeLine ∧ Q (.str d.shown) H
/-- repr(x) of an own object, its class in the reading -/
def rShowA (P : Program) (w : World) (K : PySem.W.Frag) (mg : Str → Option Value) (base : Heap) (k : Nat) : List V → Hp → VK → Prop := fun xs H Q => ∃ (a C dx : Addr) (fs : List (Str × V)) (sp : Sp), xs = [.ref a] ∧ H a = some (.ins C dx fs) ∧ Hx.ShowsBy P w K mg base k C sp ∧
  sp [.ref a] H (fun v H' => ∃ y : Str, v = .str y ∧ Q (.str y) H') E0
section
variable {X : Cx} {k : Nat}
theorem call_reprL (gd : X.A.guards = some []) (hu : X.A.units + 64 < cLine) (hm : Mods X.base) : CallR X (.builtin "repr") rReprL := by
  intro pins s σ H xs us Q I r h
  obtain ⟨v, d, rfl, hd, h1, h2, hz, q⟩ := h
  obtain ⟨u, rfl, ru⟩ := vals1 r
  obtain ⟨as, hr, ha⟩ := Dq.reads I d v u hd ru
  have hno : sysModules ∉ as := fun z => by
    obtain ⟨o, e⟩ := ha _ z
    obtain ⟨b, eb⟩ := hm
    have n := (I.bs _ _ eb).2
    rw [n] at e
    cases e
  have fin : ∀ (h' : Heap) (tu : Tok) (tk : Nat), (∀ b o, s.heap.get? b = some o → h'.get? b = some o) → EP X pins σ Q (.str d.shown tu) { s with heap := h', toks := tk } :=
    fun h' tu tk k => ⟨.str d.shown, H, I.kept (t' := tk) k, ⟨_, rfl⟩, q⟩
  cases hd with
  | non => cases ru; exact P.repr_of_none (fin _ _ _ fun _ _ z => z)
  | bl b => cases ru; exact P.repr_of_bool (fin _ _ _ fun _ _ z => z)
  | int i =>
    obtain ⟨t, rfl⟩ := ru
    exact P.repr_of_int (of_decide_eq_true h1) (fin _ _ _ fun _ _ z => z)
  | str x =>
    obtain ⟨t, rfl⟩ := ru
    exact P.repr_of_str (fin _ _ _ fun _ _ z => z) hz
  | lst _ _ => cases ru; exact repr_of_reads' hr h1 (fun _ => hno) gd (by omega) (fun _ _ z => z) fin hz
  | tup _ _ => cases ru; exact repr_of_reads' hr h1 (fun _ => hno) gd (by omega) (fun _ _ z => z) fin hz
  | dct _ _ => cases ru; exact repr_of_reads' hr h1 (fun _ => hno) gd (by omega) (fun _ _ z => z) fin hz
theorem call_showA (hr : Room (k + 1) X.A) : CallR X (.builtin "repr") (rShowA X.prog X.w X.K X.mg X.base k) := by
  intro pins s σ H xs us Q I r h
  obtain ⟨a, C, dx, fs, sp, rfl, ha, T, q⟩ := h
  exact call_show T hr pins s σ H _ us Q I r ⟨a, dx, fs, rfl, ha, q⟩
end
end Hx

/-! try with several clauses 'except x as n' -/
namespace Hx
open PySem PySem.Spec PyProof.Rows L2
/-- what is wished behind a clause's suite: the name is gone -/
def Gone (i : Nat) (D : Ends) : Ends := { nx := fun σ' H' => D.nx (σ'.set i none) H', rt := D.rt, bk := fun σ' H' => D.bk (σ'.set i none) H', ct := fun σ' H' => D.ct (σ'.set i none) H' }
def wClauses (K : PySem.W.Frag) (i : Nat) (Wout : WX) (D : Ends) : List (Value × (Addr → Value → Option Addr → TS)) → WX
  | [] => Wout
  | (c, ts) :: r => fun cls d σ H => ∃ b, PySem.W.exmOne K cls c = some b ∧ (b = true → ∀ a, H a = none → i < σ.length → ts a cls d (Gone i D) (σ.set i (some (.ref a))) H) ∧ (b = false → wClauses K i Wout D r cls d σ H)
inductive Clauses (X : Cx) (n : Str) : List ExceptHandler → List (Value × (Addr → Value → Option Addr → TS)) → Prop
  | nil : Clauses X n [] []
  | cons {x : Str} {c : Value} {ts : Addr → Value → Option Addr → TS} {b₀ : Stmt} {suite : List Stmt} {np pos' : Pos} {hds : List ExceptHandler} {l : List (Value × (Addr → Value → Option Addr → TS))} (hc : Names X x c)
      (hsu : ∀ (a : Addr) (oe : Obj) (cls : Value) (d : Option Addr) (pn : List (Addr × Obj)), Zc cls d oe → (∃ vs, oe.data = .fields vs) → PSs (X.suite a ((a, oe) :: pn)) (b₀ :: suite) (ts a cls d)) (r : Clauses X n hds l) :
      Clauses X n (.ExceptHandler (some (.Name x np)) (some n) (b₀ :: suite) pos' :: hds) ((c, ts) :: l)
section
variable {X : Cx} {n : Str} {i : Nat} {body : List Stmt} {h₀ : ExceptHandler} {hds : List ExceptHandler} {l : List (Value × (Addr → Value → Option Addr → TS))} {pos : Pos} {tb : WX → TS} {Wout : WX}
theorem ps_try_clauses (hs : X.stack = X.env :: X.outer) (hf : X.env.frame = some X.env.locals) (hN : X.N.Nodup) (hi : X.N[i]? = some n) (hln : X.env.kindOf n = some .local) (tk : Takes X Wout)
    (hb : ∀ (W : WX) (pn : List (Addr × Obj)) (xe : Value → Shared → Prop), Takes (X.tr pn xe) W → PassesOwn (model X.prog X.w) X.A X.env xe → PSs (X.tr pn xe) body (tb W))
    (hh : Clauses X n (h₀ :: hds) l) : PS X (.Try body (h₀ :: hds) [] [] pos) (fun D σ H => tb (wClauses X.K i Wout D l) D σ H) := by
  constructor
  intro pins s σ H D I h
  have ok := I.ok
  have frames : X.A.frames = some (X.env :: X.outer) := by rw [ok.frames, hs]
  have loc : Loc X.env.scope n := .inl hln
  refine wpAny_Try_except ?_
  refine wpAny_mono ((hb (wClauses X.K i Wout D l) (X.pn ++ pins) (fun e s₁ => wpAny (model X.prog X.w) X.A (noteFrame e X.env) (fun _ s₂ => wpAny (model X.prog X.w) X.A (setFlight e none) (fun _ s₃ =>
    wpAny (model X.prog X.w) X.A (handleBy e X.env (h₀ :: hds)) (SP X pins D) X.xe s₃) X.xe s₂) X.xe s₁) (fun u s' xx => ?_) PassesOwn.looking).run [] s σ H D (I.toTry _) h) (fun f s1 hsp => ?_) (fun e s1 he => he)
  case refine_2 =>
    cases f with
    | next => obtain ⟨σ', H', J', q⟩ := hsp; exact wpAny_execs_nil ⟨σ', H', J'.ofTry ok, q⟩
    | brk => obtain ⟨σ', H', J', q⟩ := hsp; exact ⟨σ', H', J'.ofTry ok, q⟩
    | cont => obtain ⟨σ', H', J', q⟩ := hsp; exact ⟨σ', H', J'.ofTry ok, q⟩
    | ret u => obtain ⟨v, σ', H', J', r, q⟩ := hsp; exact ⟨v, σ', H', J'.ofTry ok, r, q⟩
  obtain ⟨a, B, sI, pins', σ', H', cls, d, rfl, J', nb, up, sky, na, os, ag, w⟩ := xx
  have J : Inv X pins σ' H' sI := J'.ofTry ok
  have sky' : Sky B (X.env :: X.outer) a (Zc cls d) X.env.locals s'.heap := by rw [← hs]; exact sky
  show wpAny (model X.prog X.w) X.A (noteFrame (.ref a) X.env) _ _ _
  refine Sky.land Zc.steady frames hf sky' fun h3 fl3 up3 => ?_
  have J3 : Inv X pins σ' H' { s' with heap := h3 } := J.landed nb fl3.1 (up.trans up3) os ag
  obtain ⟨oe3, vs3, he3, hz3, hd3⟩ := fl3.there
  have off : a ∉ frs (X.env :: X.outer) := fun hm => by
    obtain ⟨_, o', e', hnf⟩ := fl3.2.2.1.mem hm
    rw [he3] at e'
    cases e'
    exact hnf _ hd3
  have offL : a ≠ X.env.locals := fun z => off (List.mem_filterMap.mpr ⟨X.env, List.mem_cons_self, by rw [hf, z]⟩)
  have offF : a ∉ X.fs := fun hm => by
    obtain ⟨e, he, q⟩ := List.mem_filterMap.mp hm
    exact off (List.mem_filterMap.mpr ⟨e, List.mem_cons_of_mem _ he, q⟩)
  have S3 := J3.suite he3 hd3 na offL offF
  have go : ∀ {hds' : List ExceptHandler} {l' : List (Value × (Addr → Value → Option Addr → TS))}, Clauses X n hds' l' → wClauses X.K i Wout D l' cls d σ' H' →
      wpAny (model X.prog X.w) X.A (handleBy (.ref a) X.env hds') (SP X pins D) X.xe { s' with heap := h3 } := by
    intro hds' l' hk
    induction hk with
    | nil =>
      intro w
      refine wpAny_handleBy_nil ?_
      obtain ⟨k1, k2, k3, oe, vs, T, oT, ts', he, hz, hd, h1, hr⟩ := id fl3
      unfold PySem.passOn
      refine wpAny_bind (wpAny_field he hd h1 ?_)
      rw [if_neg (show ¬ ((Value.ref T == Value.none) = true) from by simp)]
      have away : wpAny (model X.prog X.w) X.A (setFlight (.ref a) X.env.frame) (fun _ s4 => wpAny (model X.prog X.w) X.A (throw (.ref a) : Sem Flow) (SP X pins D) X.xe s4) X.xe { s' with heap := h3 } := by
        rw [hf]
        refine HandSPX.setFlight_upZ fl3 fun h4 hh4 up4 => wpAny_throw (tk _ _ ?_)
        exact ⟨a, B, sI, pins, σ', H', cls, d, rfl, J, nb, (up.trans up3).trans up4, .inr (.inr (by rw [hs]; exact hh4)), na, os, ag, w⟩
      first
        | exact wpAny_bind (wpAny_pure (wpAny_bind away))
        | exact wpAny_bind away
    | @cons x c ts b₀ suite np pos' hds2 l2 hc hsu r ih =>
      intro w
      obtain ⟨b, hb1, yes, no⟩ := w
      refine wpAny_handleBy_cons (codeAny_handlers_test ?_) (by intro q; cases q)
      have LT : PySem.W.Looks (model X.prog X.w) h3 (typeOf (.ref a)) cls := fun A Q E s k q => wpAny_typeOf_ref (k _ _ he3) (by rw [hz3.1]; exact q)
      have LM := PySem.W.exm_one (M := model X.prog X.w) (J3.kIn) LT hb1
      have test : ∀ {Q : Value → Shared → Prop} {E : Value → Shared → Prop}, Q c { s' with heap := h3 } → wpAny (model X.prog X.w) (X.A.mark (some (.ref a))) (eval (.Name x np) X.env) Q E { s' with heap := h3 } := fun {Q E} q => by
        obtain ⟨hg, hdbg, hm | ⟨hm, hv, hnn⟩⟩ := hc
        · exact ld_glob (X := X.suite a ((a, oe3) :: (X.pn ++ pins))) S3 hg hm q hdbg
        · exact ld_blt (X := X.suite a ((a, oe3) :: (X.pn ++ pins))) S3 hg hm hv q hnn hdbg
      refine test (LM.here ?_)
      cases b with
      | false =>
        show wpAny _ X.A (handleBy (.ref a) X.env hds2) _ _ _
        exact ih (no rfl)
      | true =>
        refine codeAny_handlers_suite_as ?_
        refine HandSPX.lands_againZ fl3 fun h4 fl4 up4 => ?_
        have J4 : Inv X pins σ' H' { s' with heap := h4 } := J.landed nb fl4.1 ((up.trans up3).trans up4) os ag
        obtain ⟨oe4, vs4, he4, hz4, hd4⟩ := fl4.there
        have S4 := J4.suite he4 hd4 na offL offF
        refine store_ok (X := X.suite a ((a, oe4) :: (X.pn ++ pins))) (v := .ref a) S4 hN hi loc rfl (fun s5 S5 => ?_) (.inr hln)
        refine wpAny_mono ((hsu a oe4 cls d (X.pn ++ pins) hz4 ⟨_, hd4⟩).run [] s5 _ H' _ S5 (yes rfl a na (by rw [J.len]; exact (List.getElem?_eq_some_iff.mp hi).1))) (fun f s6 hsp => ?_) (fun _ _ z => False.elim z)
        have last : ∀ {σ6 : L2.St} {H6 : Hp} {Q : Shared → Prop}, Inv (X.suite a ((a, oe4) :: (X.pn ++ pins))) [] σ6 H6 s6 → (∀ s7, Inv X pins (σ6.set i none) H6 s7 → Q s7) →
            wpAny (model X.prog X.w) X.A (do bindName X.env n .none; unbindBehindTheSuite X.env n pos') (fun _ s7 => Q s7) X.xe s6 := fun {σ6 H6 Q} S6 hq => gone_ok (S6.unsuite ok) hN hi hln hq
        cases f with
        | next => obtain ⟨σ6, H6, S6, q6⟩ := hsp; exact last S6 fun s7 J7 => ⟨_, _, J7, q6⟩
        | brk => obtain ⟨σ6, H6, S6, q6⟩ := hsp; exact last S6 fun s7 J7 => ⟨_, _, J7, q6⟩
        | cont => obtain ⟨σ6, H6, S6, q6⟩ := hsp; exact last S6 fun s7 J7 => ⟨_, _, J7, q6⟩
        | ret u => obtain ⟨v6, σ6, H6, S6, r6, q6⟩ := hsp; exact last S6 fun s7 J7 => ⟨_, _, _, J7, r6, q6⟩
  exact go hh w
end
end Hx

/-! a def that calls what it gets, and tells an error by its name and the repr of what it was given -/
namespace Hx
open PySem PySem.Spec PyProof.Rows L2 LamX
/-- the classes of errors of its clauses -/
structure ExcX (K : PySem.W.Frag) (mg : Str → Option Value) (L : List (Str × Addr)) : Prop where
  xf : ∀ p ∈ L, XfC K p.2
  no : ∀ p ∈ L, PySem.W.findIn K (.ref p.2) "given" = some none
  m : ∀ p ∈ L, mg p.1 = some (.ref p.2)
  exm : ∀ p ∈ L, ∀ r ∈ L, PySem.W.exmOne K (.ref p.2) (.ref r.2) = some (decide (p.1 = r.1))
  db : ∀ p ∈ L, (p.1 == ("__debug__" : Str)) = false
inductive HdsL : List Str → List ExceptHandler → Prop
  | nil : HdsL [] []
  | cons {nm : Str} {ns : List Str} {hds : List ExceptHandler} {p1 p2 p3 p4 p5 p6 p7 p8 p9 : Pos} {j k : Nat} : HdsL ns hds →
    HdsL (nm :: ns) (.ExceptHandler (some (.Name nm p1)) (some "e") [.Return (some (.Tuple [.Constant (.str nm) j p2, .Call (.Name "repr" p3) [.Attribute (.Name "e" p4) "given" p5] [] p6] k p7)) p8] p9 :: hds)
def tsOf (i : Nat) (p : Str × Addr) (a : Addr) (cls : Value) (d : Option Addr) : TS := tRet (tTup (tCons (tC (.str p.1)) (tCons (tCB rReprL (tCons (tXf a cls d p.2 "given" (tVar i)) tNil)) tNil)))
theorem clauses_of {X : Cx} {i : Nat} {L : List (Str × Addr)} (EX : ExcX X.K X.mg L) (gl : ∀ p ∈ L, Gl X p.1) (gr : Gl X "repr") (mr : X.mg "repr" = none) (hi : X.N[i]? = some ("e" : Str)) (hv : Vis X.env.scope "e")
    (gd : X.A.guards = some []) (hu : X.A.units + 64 < cLine) (hm : Mods X.base) :
    ∀ {M : List (Str × Addr)} {hds : List ExceptHandler}, (∀ p ∈ M, p ∈ L) → HdsL (M.map (·.1)) hds → Clauses X "e" hds (M.map fun p => (Value.ref p.2, tsOf i p)) := by
  intro M
  induction M with
  | nil =>
    intro hds _ h
    cases h
    exact .nil
  | cons p M ih =>
    intro hds sub h
    have hp := sub p List.mem_cons_self
    cases h with
    | cons r =>
      refine .cons ⟨gl p hp, EX.db p hp, .inl (EX.m p hp)⟩ (fun a oe cls d pn hz hd => ?_) (ih (fun q hq => sub q (List.mem_cons_of_mem _ hq)) r)
      exact pss_one (ps_ret (pe_tup (pa_cons pe_str (pa_cons (pe_callB (call_reprL gd hu hm) gr mr PyProof.Rows.boot_repr (pa_cons (pe_xf (EX.xf p hp) (EX.no p hp) hz hd (pe_var (i := i) hi hv)) pa_nil)) pa_nil))))
/-- an error that is told: what it was given is small data -/
def CaughtE (L : List (Str × Addr)) (Q : VK) : XK := fun cls d H' => ∃ (p : Str × Addr) (dd : Addr) (v : V) (dt : PyData), p ∈ L ∧ cls = .ref p.2 ∧ d = some dd ∧ H' dd = some (.xd [("given", v)]) ∧ Dq H' v dt ∧ dt.showable = true ∧ dt.depth ≤ 20 ∧ dt.shown.length ≤ sizeLine ∧
  ∀ q, H' q = none → Q (.ref q) (upd H' q (.tup [.str p.1, .str dt.shown]))
def TCaught (L : List (Str × Addr)) : (XK → Hp → VK → Prop) → Hp → VK → Prop := fun tl H Q => tl (CaughtE L Q) H fun v H' => ∃ x, some (some v) = some (some x) ∧ ([V.str "told", x].length ≤ sizeLine ∧ ∀ q, H' q = none → Q (.ref q) (upd H' q (.tup [.str "told", x])))
theorem caught_w {K : PySem.W.Frag} {mg : Str → Option Value} {L : List (Str × Addr)} (EX : ExcX K mg L) {i : Nat} {D : Ends} {Wout : WX} {cls : Value} {d : Option Addr} {σ : L2.St} {H : Hp} (h : CaughtE L D.rt cls d H) :
    ∀ {M : List (Str × Addr)}, (∀ p ∈ M, p ∈ L) → (∃ p ∈ M, cls = .ref p.2) → wClauses K i Wout D (M.map fun p => (Value.ref p.2, tsOf i p)) cls d σ H := by
  obtain ⟨p, dd, v, dt, hp, rfl, rfl, hd, hv, s1, s2, s3, q⟩ := h
  intro M
  induction M with
  | nil =>
    rintro _ ⟨r, hr, _⟩
    cases hr
  | cons r M ih =>
    rintro sub ⟨x, hx, ex⟩
    have hr := sub r List.mem_cons_self
    refine ⟨_, EX.exm p hp r hr, fun c a na hi => ?_, fun c => ?_⟩
    · have e1 : p.1 = r.1 := of_decide_eq_true c
      have e2 : p.2 = r.2 := by
        exact Value.ref.inj (Option.some.inj ((EX.m p hp).symm.trans (by rw [e1]; exact EX.m r hr)))
      refine ⟨.ref a, ?_, rfl, by rw [e2], dd, _, v, rfl, hd, rfl, v, dt, rfl, hv, s1, s2, s3, (by show 2 ≤ sizeLine; decide), fun q' hq' => ?_⟩
      · rw [List.getElem?_set_self hi]
      · rw [← e1]
        exact q q' hq'
    · refine ih (fun y hy => sub y (List.mem_cons_of_mem _ hy)) ?_
      rcases List.mem_cons.mp hx with rfl | hx
      · have e1 : p.1 = x.1 := by
          have hx' := sub x List.mem_cons_self
          have e3 := EX.exm p hp x hx'
          have e4 : p.2 = x.2 := Value.ref.inj ex
          have e5 := EX.exm x hx' x hx'
          rw [← e4] at e5 e3
          rw [e3] at e5
          have e6 := Option.some.inj e5
          rw [c] at e6
          simp at e6
        rw [decide_eq_true e1] at c
        cases c
      · exact ⟨x, hx, ex⟩
/-- try: told = act() / except C as e: return (name, repr(e.given)) .. / return ('told', told) -/
theorem caught_gives {X : Cx} {L : List (Str × Addr)} {Ng : List Str} {x a q : Str} {sg : Scope} {g : Addr} {cdg : Value} {h₀ : ExceptHandler} {hds : List ExceptHandler} {p1 p2 p3 p4 p5 p6 p7 p8 p9 : Pos} {j k : Nat}
    (EX : ExcX X.K X.mg L) (hNd : Ng.Nodup) (hN : Ng = [a, "_law_told", "e"]) (hL : HdsL (L.map (·.1)) (h₀ :: hds)) (gl : ∀ p ∈ L, sg.names.lookup p.1 = some .globalImplicit) (gr : sg.names.lookup ("repr" : Str) = some .globalImplicit) (mr : X.mg "repr" = none)
    (lt : sg.names.lookup ("_law_told" : Str) = some .local) (le : sg.names.lookup ("e" : Str) = some .local) (gd : X.A.guards = some []) (hm : Mods X.base)
    (hu : ∀ (s : Shared), (X.A.deeper (envOfC x sg s.heap.objs.size g cdg)).units + 64 < cLine) :
    GivesTo X Ng x sg g cdg [.Try [.Assign [.Name "_law_told" p1] (.Call (.Name a p2) [] [] p3) p4] (h₀ :: hds) [] [] p5, .Return (some (.Tuple [.Constant (.str "told") j p6, .Name "_law_told" p7] k p8)) p9] a q (TCaught L) := by
  subst hN
  intro f c' s H Q tl act hc h
  let X' := (cxOf C8.CX0 X.prog X.w X.K X.mg X.base [a, "_law_told", "e"] x sg g cdg X.A X.stack s H C8.E0).nox
  have cl : Clauses X' "e" (h₀ :: hds) (L.map fun p => (Value.ref p.2, tsOf 2 p)) :=
    clauses_of (X := X') EX gl gr mr rfl (.inl le) gd (hu s) hm (fun _ h => h) hL
  refine ⟨_, pss_cons (ps_try_clauses (X := X') (i := 2) (n := "e")
      (tb := fun W D σ H => ∃ Ech : XK, (∀ cls d σ' H', Ech cls d H' → W cls d σ' H') ∧ σ[0]? = some (some (.ref f)) ∧ H c' = some (CodeO c' q) ∧ tl Ech H fun v H1 => D.nx (σ.set 1 (some v)) H1)
      rfl rfl hNd rfl le LamX.takes0 (fun W pn xe tk _ => ?_) cl) (pss_one (ps_ret (pe_tup (pa_cons pe_str (pa_cons (pe_var (i := 1) rfl (.inl lt)) pa_nil))))), ?_⟩
  · refine ⟨fun pins s' σ H' D I h' => ?_⟩
    obtain ⟨Ech, hW, h1, h2, h3⟩ := h'
    have hp := act W pn xe Ech p2 p3 tk hW
    have hq := pss_one (ps_set (i := 1) (pos := p4) (pos' := p1) hNd rfl (Or.inl lt) hp)
    exact hq.run pins s' σ H' D I ⟨h1, h2, h3⟩
  · exact ⟨CaughtE L Q, fun cls d σ' H' hE => caught_w EX hE (fun _ h => h) (by obtain ⟨p, dd, v, dt, hp, e, _⟩ := hE; exact ⟨p, hp, e⟩), rfl, hc, h⟩
end Hx

/-! what stays; lambdas of the law -/
namespace Wp
open PySem PySem.Spec PyProof.Rows L2 Hx LamX
def isTbl : HO → Bool
  | .tbl _ => true
  | _ => false
/-- all but the deck and the tables -/
def bare (d : Addr) (H : Hp) : Hp := fun b => if b = d then none else (H b).bind fun o => if isTbl o = true then none else some o
theorem bare_some {d b : Addr} {H : Hp} {o : HO} (h : bare d H b = some o) : b ≠ d ∧ isTbl o = false ∧ H b = some o := by
  unfold bare at h
  by_cases c : b = d
  · rw [if_pos c] at h
    cases h
  · rw [if_neg c] at h
    cases e : H b with
    | none => rw [e] at h; cases h
    | some u =>
      rw [e] at h
      simp only [Option.bind_some] at h
      by_cases g : isTbl u = true
      · rw [if_pos g] at h
        cases h
      · rw [if_neg g] at h
        cases h
        exact ⟨c, by simpa using g, rfl⟩
theorem bare_at {d b : Addr} {H : Hp} {o : HO} (n : b ≠ d) (t : isTbl o = false) (h : H b = some o) : bare d H b = some o := by
  unfold bare
  rw [if_neg n, h]
  simp only [Option.bind_some]
  rw [t]
  rfl
theorem bare_same {d : Addr} {H : Hp} : Same (bare d H) H := fun b o h => (bare_some h).2.2
/-- what stays of H -/
def Kp (d : Addr) (H H' : Hp) : Prop := ∀ b o, b ≠ d → isTbl o = false → H b = some o → H' b = some o
theorem Kp.refl {d : Addr} {H : Hp} : Kp d H H := fun _ _ _ _ h => h
theorem Kp.trans {d : Addr} {H H1 H2 : Hp} (a : Kp d H H1) (b : Kp d H1 H2) : Kp d H H2 := fun c o n t h => b c o n t (a c o n t h)
theorem Kp.but {d : Addr} {H H' : Hp} (b : But d H H') : Kp d H H' := fun c o n _ h => b c o n h
theorem Kp.same {d : Addr} {H H' : Hp} (s : Same H H') : Kp d H H' := fun c o _ _ h => s c o h
theorem Kp.ext {d : Addr} {H H' : Hp} (e : ExtN H H') : Kp d H H' := fun c o _ t h => e c o h fun ps z => by
  rw [z] at t
  cases t
theorem Kp.bare {d : Addr} {H H' : Hp} (k : Kp d H H') : Same (bare d H) (bare d H') := fun b o h => by
  obtain ⟨n, t, e⟩ := bare_some h
  exact bare_at n t (k b o n t e)
/-- a datum whose repr may be compared -/
structure Fits (d : PyData) : Prop where
  s : d.showable = true
  dep : d.depth ≤ 20
  len : d.shown.length ≤ 100000
  ok : PyData.strOk d.shown = true
theorem Fits.line {d : PyData} (h : Fits d) : d.shown.length ≤ sizeLine := Nat.le_trans h.len (by decide)
theorem tabs_but {T : List (Addr × Str)} {H H' : Hp} {d : Addr} {xs : List V} (t : Tabs T H) (hd : H d = some (.lst xs)) (b : But d H H') : Tabs T H' := fun p hp => by
  obtain ⟨ps, h1, h2, h3⟩ := t p hp
  refine ⟨ps, b _ _ (fun z => ?_) h1, h2, fun pos cv hc => ?_⟩
  · rw [z, hd] at h1
    cases h1
  · obtain ⟨c, e1, e2⟩ := h3 pos cv hc
    refine ⟨c, e1, b _ _ (fun z => ?_) e2⟩
    rw [z, hd] at e2
    cases e2
theorem Kp.late {d l : Addr} {H Ha Hb : Hp} {o1 o2 : HO} (k : Kp d H Ha) (na : Ha l = none) (k2 : Kp d (upd Ha l o1) Hb) : Kp d H (upd Hb l o2) := fun b o n t h => by
  have e := k b o n t h
  have nl := ne_of_none e na
  rw [upd_ne nl]
  exact k2 b o n t (by rw [upd_ne nl]; exact e)
theorem name_seq {i : Nat} {x : V} {t u : TS} {D : Ends} {r : VK} {b e : L2.St → Hp → Prop} {σ : L2.St} {H : Hp} (h : tSeq t u D (σ.set i (some x)) H) : gName i x σ H (Ends.nx { nx := tSeq t u D, rt := r, bk := b, ct := e }) := h
theorem shaped2 {x y : Str} (hx : PyData.strOk x = true) (hy : PyData.strOk y = true) : SeqAt.shaped (.tuple [.str x, .str y]) = true := by
  show ((PyData.strOk x && (PyData.strOk y && true)) && decide (max 0 (max 0 0) + 1 ≤ 64)) = true
  rw [hx, hy]
  rfl
/-- a new object, and all that was there -/
theorem born_same {H H' : Hp} {a dx : Addr} {o1 o2 : HO} (na : H a = none) (nd : H dx = none) (b : But a (upd (upd H dx o1) a o2) H') : Same H H' := fun c o h => by
  have n1 := ne_of_none h na
  have n2 := ne_of_none h nd
  refine b c o n1 ?_
  rw [upd_ne n1, upd_ne n2]
  exact h
theorem born_same0 {H : Hp} {a dx : Addr} {o1 o2 : HO} (na : H a = none) (nd : H dx = none) : Same H (upd (upd H dx o1) a o2) := fun c o h => by
  rw [upd_ne (ne_of_none h na), upd_ne (ne_of_none h nd)]
  exact h
theorem seq_of {t : TS} {u : TS} {D : Ends} {σ : L2.St} {H : Hp} (J : L2.St → Hp → Prop) (hu : ∀ σ' H', J σ' H' → u D σ' H') (ht : ∀ N, (∀ σ' H', J σ' H' → N σ' H') → t { D with nx := N } σ H) : tSeq t u D σ H := ht _ hu
/-- a def whose code object is the one at c -/
structure FunC (K : PySem.W.Frag) (x qual : Str) (st : Stmt) (f : Addr) (fd : FuncData) (c : Addr) : Prop where
  ex : ∃ (oc : Value) (od : Option Addr) (kV doc pm : Value) (an : Option Addr) (ct : Value) (osl : Array (Option Value)),
    fd = PySem.W.fnOf x qual (defArgs st) (defBody st) (defScope st) .none kV doc pm an (.ref c) ct ∧ K.lookup f = some ⟨oc, od, .func fd, osl⟩ ∧ PySem.W.codeIn K (.ref c) qual = true
  kp : PySem.W.keepIn K (.ref f) = true
section
variable {P : Program} {w : World} {K : PySem.W.Frag} {mg : Str → Option Value} {base : Heap} {k : Nat} {f c : Addr} {fd : FuncData} {ps : List Str} {sp : Sp}
theorem FunC.fn {x qual : Str} {st : Stmt} (F : FunC K x qual st f fd c) : Fun K x qual st f fd := by
  obtain ⟨oc, od, kV, doc, pm, an, ct, osl, h⟩ := F.ex
  exact ⟨⟨oc, od, kV, doc, pm, an, _, ct, osl, h⟩, F.kp⟩
/-- no exception leaves the def; it makes lambdas -/
theorem gokC {x qual : Str} {st : Stmt} {N : List Str} (F : FunC K x qual st f fd c) (S : FnScope N ps (defScope st))
    (long : ∀ vs H Q E, sp vs H Q E → vs.length = ps.length)
    (body : ∀ (A : Around) (outer : List Env) (s : Shared) (H : Hp) (vs : List V) (Q : VK) (E : XK),
      Room k (A.deeper (envOfC qual (defScope st) s.heap.objs.size f (.ref c))) → A.guards = some [] → sp vs H Q E →
      ∃ t, PSs (cxOf CX0 P w K mg base N qual (defScope st) f (.ref c) A outer s H E).nox (defBody st) t ∧
        t { nx := fun _ H' => Q .non H', rt := Q } (L2.start N vs) H) :
    GOk P w K mg base CX0 (k + 1) f fd ps sp := by
  obtain ⟨oc, od, kV, doc, pm, an, ct, osl, efd, hlook, hcode⟩ := F.ex
  subst efd
  constructor
  · exact long
  · intro A outer s H args us vs Q E room gd e0 hbind rel hsp
    have inK : K.In s.heap := e0.mod.kin.keeps fun b o h => (e0.bs b o h).1
    have noLim : s.heap.NoLimit := e0.mod.nolimit.keeps fun b o h => (e0.bs b o h).1
    refine codeAny_call_function room.depth (inK _ _ hlook) rfl S.co S.gen rfl (PySem.W.codeRec_of inK hcode) (hbind _ _ _ _ ?_)
    refine wpAny_newFunctionEnv_cells S.kind ?kinds fun env henv s1 inside => ?_
    case kinds =>
      rintro ⟨nm, val⟩ hm
      have hp := (List.of_mem_zip hm).1
      cases S.par nm hp with
      | inl hl => exact .inl hl
      | inr hc => exact .inr ⟨hc, PySem.W.cellsFrom_some _ _ _ (.inl hc)⟩
    subst henv
    refine ⟨noLim.keeps inside.toInCall.keep, codeAny_func ?_⟩
    obtain ⟨t, ht, hq⟩ := body A outer s H vs Q E (room.deeper _) gd hsp
    have I0 := inv_start (CX := CX0) (E := E) S room.hd e0 (long _ _ _ _ hsp) rel inside
    refine wpAny_mono (ht.nox.run [] s1 (L2.start N vs) H _ I0 hq) ?_ (fun _ _ z => z)
    intro fl s' hfl
    cases fl with
    | ret u =>
      obtain ⟨v, _, H', J, rv, q⟩ := hfl
      exact ⟨v, H', J.os, J.bare, J.base, J.hok, rv, q⟩
    | next =>
      obtain ⟨_, H', J, q⟩ := hfl
      exact ⟨V.non, H', J.os, J.bare, J.base, J.hok, rfl, q⟩
    | brk => exact hfl.elim fun _ z => z.elim fun _ z => z.2.elim
    | cont => exact hfl.elim fun _ z => z.elim fun _ z => z.2.elim
end
theorem tabs_ext {T : List (Addr × Str)} {H H' : Hp} (t : Tabs T H) (s : Same H H') : Tabs T H' := t.ext s
/-- repr of a text of the first 128 signs -/
theorem quote_two (x : Str) : reprQuote x = 34 ∨ reprQuote x = 39 := by
  unfold reprQuote
  split <;> first | exact .inl rfl | exact .inr rfl
theorem chars34 : ∀ c, c < 128 → (Builtin.Str.reprChar 34 c).all (fun d => decide (d < 0x110000)) = true := by decide +kernel
theorem chars39 : ∀ c, c < 128 → (Builtin.Str.reprChar 39 c).all (fun d => decide (d < 0x110000)) = true := by decide +kernel
theorem foldl_repr_all (q : Nat) (hq : ∀ c, c < 128 → (Builtin.Str.reprChar q c).all (fun d => decide (d < 0x110000)) = true) : ∀ (l : List Nat) (acc : Array Nat), (∀ c ∈ l, c < 128) → (∀ c ∈ acc.toList, c < 0x110000) →
    ∀ c ∈ (l.foldl (fun out c => out ++ (Builtin.Str.reprChar q c).toArray) acc).toList, c < 0x110000
  | [], acc, _, h => h
  | c :: r, acc, h, g => by
    refine foldl_repr_all q hq r _ (fun d hd => h d (List.mem_cons_of_mem _ hd)) fun d hd => ?_
    have e : (acc ++ (Builtin.Str.reprChar q c).toArray).toList = acc.toList ++ Builtin.Str.reprChar q c := by simp
    rw [e] at hd
    rcases List.mem_append.mp hd with z | z
    · exact g d z
    · exact of_decide_eq_true (List.all_eq_true.mp (hq c (h c List.mem_cons_self)) d z)
theorem repr_ok {x : Str} (h : ∀ c ∈ x.cps.toList, c < 128) : PyData.strOk (reprText x) = true := by
  have hq : ∀ c, c < 128 → (Builtin.Str.reprChar (reprQuote x) c).all (fun d => decide (d < 0x110000)) = true := by
    rcases quote_two x with e | e <;> rw [e]
    · exact chars34
    · exact chars39
  have q1 : reprQuote x < 0x110000 := by
    rcases quote_two x with e | e <;> rw [e] <;> decide
  unfold PyData.strOk
  rw [← Array.all_toList, List.all_eq_true]
  intro c hc
  refine decide_eq_true ?_
  have hc' : c ∈ ((x.cps.foldl (fun out c => out ++ (Builtin.Str.reprChar (reprQuote x) c).toArray) #[reprQuote x]).push (reprQuote x)).toList := hc
  rw [Array.toList_push, ← Array.foldl_toList] at hc'
  rcases List.mem_append.mp hc' with z | z
  · refine foldl_repr_all _ hq _ _ h (fun d hd => ?_) c z
    have : d = reprQuote x := by simpa using hd
    omega
  · rw [List.mem_singleton.mp z]
    exact q1
theorem near_ok {n : Nat} {x : Str} (h : Near n x) : PyData.strOk x = true := by
  unfold PyData.strOk
  rw [← Array.all_toList, List.all_eq_true]
  exact fun c hc => decide_eq_true (Nat.lt_trans (h.2 c hc) (by decide))
theorem near_small {x : Str} (h : Near 23 x) : Small (.str x) := by
  refine ⟨rfl, Nat.zero_le _, ?_⟩
  show (reprText x).length ≤ 100000
  have := PySem.StrLaws.reprText_len x fun c hc => Nat.lt_trans (h.2 c hc) (by decide)
  have := h.1
  omega
theorem near_fits {x : Str} (h : Near 23 x) : Fits (.str x) := by
  obtain ⟨a, b, c⟩ := near_small h
  exact ⟨a, b, c, repr_ok h.2⟩
end Wp

/-! what each of the four lambdas tells -/
namespace Wp
open PySem PySem.Spec PyProof.Rows L2 Hx LamX
def errs (Cm Cs Cw : Addr) : List (Str × Addr) := [("InvalidName", Cm), ("InvalidSign", Cs), ("InvalidWord", Cw)]
def N7 : List Str := ["_law_deck_here", "_law_title", "_law_plain", "_law_size", "_law_letter", "_law_banned", "_law_told", "_law_due", "_law_good", "_law_is_right"]
theorem scRight : FnScope N7 ["_law_deck_here"] (defScope s_law_right) := ⟨rfl, rfl, rfl, by decide +kernel, rfl, by decide +kernel, by decide +kernel⟩
def NC : List Str := ["_law_act", "_law_told", "e"]
theorem scCaught : FnScope NC ["_law_act"] (defScope s_law_caught) := ⟨rfl, rfl, rfl, by decide +kernel, rfl, by decide +kernel, by decide +kernel⟩
def lamQ : Str := "_law_right" ++ ".<locals>." ++ "<lambda>"
def tabsOf (TP : Addr) : List (Addr × Str) := [(TP, lamQ)]
def signT (x : Str) : Str := ((Str.empty ++ "'") ++ x) ++ "'"
/-- what the law's main def rests on, of the program -/
structure Defs (P : Program) (w : World) (K : PySem.W.Frag) (mg : Str → Option Value) (base : Heap) (CF CE CS CN CT CB Ce Cm Cs Cw : Addr) (cls : Addr → Prop) (c TP : Addr) : Prop where
  kl : Kls P w K mg base CF cls
  own : cls CS ∧ cls CN ∧ cls CT
  sign : mg "Sign" = some (.ref CS) ∧ ∃ fI fd, Mk K CS fI ∧ FnOk P w K mg base (L2.CX P w) 7 fI fd ["self", "sign"] (spLeaf K CF cls (lettered 1) Cs "sign" signT fun _ => []) ∧ Binds K fd ["self", "sign"] []
  name : mg "Name" = some (.ref CN) ∧ ∃ fI fd, Mk K CN fI ∧ FnOk P w K mg base (L2.CX P w) 7 fI fd ["self", "name"] (spLeaf K CF cls nameB Cm "name" (fun x => x) fun x => [x]) ∧ Binds K fd ["self", "name"] []
  turn : mg "Turn" = some (.ref CT) ∧ ∃ fI fd, Mk K CT fI ∧ FnOk P w K mg base (L2.CX P w) 7 fI fd ["self", "word", "inner"] (spTurn K CF CE Cw Ce cls) ∧ Binds K fd ["self", "word", "inner"] []
  book : mg "Book" = some (.ref CB) ∧ ∃ fI fd, Mk K CB fI ∧ FnOk P w K mg base (L2.CX P w) 7 fI fd ["self", "base", "signs", "handed", "rows"] (spBook CF CB Cw cls) ∧ Binds K fd ["self", "base", "signs", "handed", "rows"] []
  letters : PropBy P w K mg base 1 CB "signs" (spSignsB CB)
  caught : ∃ (g : Addr) (fd : FuncData), Fun K "_law_caught" "_law_caught" s_law_caught g fd ∧ Binds K fd ["_law_act"] [] ∧ mg "_law_caught" = some (.ref g)
  exc : ExcX K mg (errs Cm Cs Cw)
  tab : TabB base mg c TP
  mods : Mods base
  repr : mg "repr" = none
section
variable {X : Cx} {CF CE CS CN CT CB Ce Cm Cs Cw c TP : Addr} {cls : Addr → Prop}
/-- _law_caught(lambda: e) in the law's main def -/
theorem pe_caught {params : Arguments} {body : Expr} {scope : Scope} {t : XK → TE} {p lpos pos : Pos} (D : Defs X.prog X.w X.K X.mg X.base CF CE CS CN CT CB Ce Cm Cs Cw cls c TP) (hg : Gl X "_law_caught") (hq : X.env.qual ++ "<lambda>" = lamQ) (hcode : X.env.code = .ref c) (gd : X.A.guards = some [])
    (hr : Room 10 X.A) (L : LamS X.env.scope scope) (hdef : defaultsOf params X.env = ([], []))
    (hbind : ∀ (q : Str) (cl : List (Str × Addr)) (pm cv ctv : Value), bindArgs (PySem.W.kla_fn "<lambda>" q params body scope cl pm cv ctv) ⟨[], []⟩ = pure [])
    (hbody : ∀ (A : Around) (outer : List Env) (s : Shared) (H : Hp) (E : XK) (f c' : Addr), Room 8 (A.deeper (lamEnv X scope s.heap.objs.size f c')) → PE (lamCx X A outer s H E scope f c') body (t E)) :
    PE X (.Call (.Name "_law_caught" p) [.Lambda params body scope lpos] [] pos) (tLam (tabsOf TP) (TCaught (errs Cm Cs Cw)) t) := by
  obtain ⟨g, fd, F, bb, hm⟩ := D.caught
  obtain ⟨oc, od, kV, doc, pm, an, cdv, ct, osl, rfl, lk, hcd⟩ := F.ex
  refine pe_lamcall (a := "_law_act") (k := 8) hg hm F.kp lk hcd bb scCaught rfl (.inl rfl) ?_ D.tab hcode (by rw [hq]; exact List.mem_singleton.mpr rfl) (fun p hp _ => by rw [hq, List.mem_singleton.mp hp]) hr L hdef hbind hbody
  refine caught_gives D.exc scCaught.nd rfl (.cons (.cons (.cons .nil))) (fun p hp => ?_) rfl D.repr rfl rfl gd D.mods (fun s => ?_)
  · rcases List.mem_cons.mp hp with rfl | hp
    · rfl
    · rcases List.mem_cons.mp hp with rfl | hp
      · rfl
      · rw [List.mem_singleton.mp hp]
        rfl
  · have := (hr.deeper (envOfC "_law_caught" (defScope s_law_caught) s.heap.objs.size g cdv)).units
    exact this
end
/-- what is told is handed back with its word -/
def ToldQ (Q : VK) : VK := fun v H' => ∃ x, some (some v) = some (some x) ∧ ([V.str "told", x].length ≤ sizeLine ∧ ∀ q, H' q = none → Q (.ref q) (upd H' q (.tup [.str "told", x])))
theorem told_of {Q : VK} {v : V} {H : Hp} (h : ∀ q, H q = none → Q (.ref q) (upd H q (.tup [.str "told", v]))) : ToldQ Q v H := ⟨v, rfl, (by show 2 ≤ sizeLine; decide), h⟩
theorem tells_caught {Cm Cs Cw Cx : Addr} {nm : Str} {Q : VK} {H : Hp} {v : V} {dt : PyData} (hm : (nm, Cx) ∈ errs Cm Cs Cw) (hd : Dq H v dt) (ft : Fits dt)
    (q : ∀ p H', Same H H' → H' p = some (.tup [.str nm, .str dt.shown]) → Q (.ref p) H') : Tells (CaughtE (errs Cm Cs Cw) Q) Cx v H := by
  intro H' dd s hdd
  have s2 : Same H (upd H' dd (.xd [("given", v)])) := s.trans (same_new hdd _)
  refine ⟨(nm, Cx), dd, v, dt, hm, rfl, rfl, upd_same, Dq.same s2 _ _ hd, ft.s, ft.dep, ft.line, fun p hp => ?_⟩
  exact q p _ (s2.trans (same_new hp _)) upd_same
section
variable {P : Program} {w : World} {K : PySem.W.Frag} {mg : Str → Option Value} {base : Heap} {CF CE CS CN CT CB Ce Cm Cs Cw : Addr} {cls : Addr → Prop} {Q : VK} {H : Hp} {a dx : Addr} {t : Str}
theorem leaf_tell (L : Kls P w K mg base CF cls) {C Cx : Addr} (hC : cls C) {g : Str → Bool} {kind nm : Str} {mk : Str → Str} {lab : Str → List Str} (hm : (nm, Cx) ∈ errs Cm Cs Cw) (near : Near 23 t)
    (q : ∀ p H', Same H H' → H' p = some (.tup [.str (cond (g t) "told" nm), .str (cond (g t) (mk t) (reprText t))]) → Q (.ref p) H') (na : H a = none) (nd : H dx = none) (ne : dx ≠ a) :
    spLeaf K CF cls g Cx kind mk lab [.ref a, .str t] (upd (upd H dx (.own a)) a (.ins C dx [])) (fun r H2 => r = .non ∧ rTell P w K mg base 1 [.ref a] H2 (ToldQ Q)) (CaughtE (errs Cm Cs Cw) Q) := by
  have l23 := near.1
  refine ⟨a, dx, C, .str t, rfl, hC, upd_same, ?_⟩
  cases e : g t with
  | false =>
    rw [e] at q
    exact .inr ⟨.inl ⟨t, rfl, by omega, e⟩, tells_caught hm (.str t) (near_fits near) fun p H' s hp => q p H' ((born_same0 na nd).trans s) hp⟩
  | true =>
    rw [e] at q
    refine .inl ⟨t, rfl, by omega, e, fun H' b xp => ⟨rfl, ?_⟩⟩
    obtain ⟨dx', fa, dfa, pm, pi, pl, hc, e1, e2, _⟩ := xp
    exact ⟨.ref a, rfl, .inr (.inr ⟨a, C, dx', _, spStr C CF, rfl, e1, L.str C hC, a, dx', fa, dfa, _, _, mk t, rfl, e1, rfl, e2, rfl, mk t, rfl, told_of fun p hp => q p _ ((born_same na nd b).trans (same_new hp _)) upd_same⟩)⟩
theorem turn_text : spell "turn" [t, signT "a"] = ("turn(" ++ t) ++ ", 'a')" := by
  have e1 : (Str.empty ++ Str.ofString "turn") ++ Str.ofString "(" = Str.ofString "turn(" := by decide +kernel
  have e2 : (Str.ofString ", " ++ signT (Str.ofString "a")) ++ Str.ofString ")" = Str.ofString ", 'a')" := by decide +kernel
  show (((Str.empty ++ Str.ofString "turn") ++ Str.ofString "(") ++ ((t ++ Str.ofString ", ") ++ signT (Str.ofString "a"))) ++ Str.ofString ")" = (Str.ofString "turn(" ++ t) ++ Str.ofString ", 'a')"
  rw [e1, ← e2]
  simp only [PySem.Str.append_assoc]
theorem sign_text : signT t = (("'" : Str) ++ t) ++ "'" := by
  unfold signT
  rw [PySem.Str.empty_append]
theorem turn_tell (L : Kls P w K mg base CF cls) {C : Addr} (hC : cls C) {a1 C1 : Addr} {told inner : List V} (hm : (("InvalidWord" : Str), Cw) ∈ errs Cm Cs Cw) (near : Near 23 t)
    (xp : XpAt CF cls H a1 C1 "sign" (signT "a") told inner [] 1)
    (q : ∀ p H', Same H H' → H' p = some (.tup [.str (cond (lettered 4 t) "told" "InvalidWord"), .str (cond (lettered 4 t) (("turn(" ++ t) ++ ", 'a')") (reprText t))]) → Q (.ref p) H') (na : H a = none) (nd : H dx = none) (ne : dx ≠ a) :
    spTurn K CF CE Cw Ce cls [.ref a, .str t, .ref a1] (upd (upd H dx (.own a)) a (.ins C dx [])) (fun r H2 => r = .non ∧ rTell P w K mg base 1 [.ref a] H2 (ToldQ Q)) (CaughtE (errs Cm Cs Cw) Q) := by
  have l23 := near.1
  refine ⟨a, dx, C, .str t, .ref a1, rfl, hC, upd_same, ?_⟩
  cases e : lettered 4 t with
  | false =>
    rw [e] at q
    exact .inr (.inl ⟨.inl ⟨t, rfl, by omega, e⟩, tells_caught hm (.str t) (near_fits near) fun p H' s hp => q p H' ((born_same0 na nd).trans s) hp⟩)
  | true =>
    rw [e] at q
    refine .inl ⟨t, ⟨a1, C1, "sign", signT "a", told, inner, [], 1⟩, rfl, by omega, e, rfl, ⟨XpAt.same xp (born_same0 na nd), Nat.zero_le _, (by decide +kernel : (signT (Str.ofString "a")).length ≤ 20000)⟩, fun H' ls b xp' _ _ => ⟨rfl, ?_⟩⟩
    have et : spell "turn" [t, signT "a"] = ("turn(" ++ t) ++ ", 'a')" := turn_text
    obtain ⟨dx', fa, dfa, pm, pi, pl, hc, e1, e2, _⟩ := xp'
    refine ⟨.ref a, rfl, .inr (.inr ⟨a, C, dx', _, spStr C CF, rfl, e1, L.str C hC, a, dx', fa, dfa, _, _, spell "turn" [t, signT "a"], rfl, e1, rfl, e2, rfl, spell "turn" [t, signT "a"], rfl, told_of fun p hp => q p _ ((born_same na nd b).trans (same_new hp _)) ?_⟩)⟩
    rw [et]
    exact upd_same
theorem book_tell (PB : PropBy P w K mg base 1 CB "signs" (spSignsB CB)) {ph pr : Addr} (hm : (("InvalidWord" : Str), Cw) ∈ errs Cm Cs Cw) (near : Near 23 t) (hh : H ph = some (.tup [.str "x"])) (hr : RowsAt CF cls H pr)
    (q : ∀ p H', Same H H' → H' p = some (.tup [.str (cond (wordB t) "told" "InvalidWord"), .str (cond (wordB t) t (reprText t))]) → Q (.ref p) H') (na : H a = none) (nd : H dx = none) (ne : dx ≠ a) :
    spBook CF CB Cw cls [.ref a, .int 2, .str t, .ref ph, .ref pr] (upd (upd H dx (.own a)) a (.ins CB dx [])) (fun r H2 => r = .non ∧ ∃ (a' C dx' : Addr) (fs : List (Str × V)) (sp : Sp), V.ref a = .ref a' ∧ H2 a' = some (.ins C dx' fs) ∧ PropBy P w K mg base 1 C "signs" sp ∧ sp [.ref a'] H2 (ToldQ Q) E0) (CaughtE (errs Cm Cs Cw) Q) := by
  have l23 := near.1
  have s0 := born_same0 (o1 := .own a) (o2 := .ins CB dx []) na nd
  refine ⟨a, dx, t, ph, pr, rfl, upd_same, by omega, s0 _ _ hh, hr.same s0, ?_⟩
  cases e : wordB t with
  | false =>
    rw [e] at q
    exact .inr ⟨rfl, tells_caught hm (.str t) (near_fits near) fun p H' s hp => q p H' (s0.trans s) hp⟩
  | true =>
    rw [e] at q
    refine .inl ⟨rfl, fun H' fs h1 h2 b => ⟨rfl, a, CB, dx, fs, _, rfl, h1, PB, a, dx, fs, .str t, rfl, h1, h2, told_of fun p hp => q p _ ((born_same na nd b).trans (same_new hp _)) upd_same⟩⟩
end
end Wp

namespace Wp
open PySem PySem.Spec PyProof.Rows L2 Hx LamX
section
variable {P : Program} {w : World} {K : PySem.W.Frag} {mg : Str → Option Value} {base : Heap} {CF CE CS CN CT CB Ce Cm Cs Cw c TP : Addr} {cls : Addr → Prop} {Q : VK} {H : Hp} {t : Str} {σ : L2.St}
/-- str(Name(t)), caught -/
theorem lam_leaf (L : Kls P w K mg base CF cls) {C Cx : Addr} (hC : cls C) {g : Str → Bool} {kind nm : Str} {mk : Str → Str} {lab : Str → List Str} (hm : (nm, Cx) ∈ errs Cm Cs Cw) (near : Near 23 t) (hσ : σ[1]? = some (some (.str t)))
    (q : ∀ p H', Same H H' → H' p = some (.tup [.str (cond (g t) "told" nm), .str (cond (g t) (mk t) (reprText t))]) → Q (.ref p) H') :
    TCaught (errs Cm Cs Cw) (fun E H' Q' => tCB (rTell P w K mg base 1) (tCons (tMake C (spLeaf K CF cls g Cx kind mk lab) [] E (tCons (tVar 1) tNil)) tNil) σ H' Q') H Q :=
  ⟨_, hσ, fun a dx na nd ne => leaf_tell (Q := Q) L hC hm near q na nd ne⟩
/-- str(Turn(t, Sign('a'))), caught -/
theorem lam_turn (L : Kls P w K mg base CF cls) (hS : cls CS) (hT : cls CT) (near : Near 23 t) (hσ : σ[1]? = some (some (.str t)))
    (q : ∀ p H', Same H H' → H' p = some (.tup [.str (cond (lettered 4 t) "told" "InvalidWord"), .str (cond (lettered 4 t) (("turn(" ++ t) ++ ", 'a')") (reprText t))]) → Q (.ref p) H') :
    TCaught (errs Cm Cs Cw) (fun E H' Q' => tCB (rTell P w K mg base 1) (tCons (tMake CT (spTurn K CF CE Cw Ce cls) [] E (tCons (tVar 1) (tCons (tMake CS (spLeaf K CF cls (lettered 1) Cs "sign" signT fun _ => []) [] E (tCons (tC (.str "a")) tNil)) tNil))) tNil) σ H' Q') H Q := by
  refine ⟨_, hσ, fun a1 d1 na1 nd1 ne1 => ⟨a1, d1, CS, .str "a", rfl, hS, upd_same, .inl ⟨"a", rfl, by decide +kernel, by decide +kernel, fun H2 b2 xp => ⟨rfl, fun a dx na nd ne => ?_⟩⟩⟩⟩
  refine turn_tell (Q := Q) (Ce := Ce) L hT (List.mem_cons_of_mem _ (List.mem_cons_of_mem _ (List.mem_singleton.mpr rfl))) near xp (fun p H' s hp => q p H' ((born_same na1 nd1 b2).trans s) hp) na nd ne
/-- Book(2, t, ('x',), (('y', Name('x')),)).signs, caught -/
theorem lam_book (L : Kls P w K mg base CF cls) (hN : cls CN) (PB : PropBy P w K mg base 1 CB "signs" (spSignsB CB)) (near : Near 23 t) (hσ : σ[1]? = some (some (.str t)))
    (q : ∀ p H', Same H H' → H' p = some (.tup [.str (cond (wordB t) "told" "InvalidWord"), .str (cond (wordB t) t (reprText t))]) → Q (.ref p) H') :
    TCaught (errs Cm Cs Cw) (fun E H' Q' => tPropA P w K mg base 1 "signs" (tMake CB (spBook CF CB Cw cls) [] E (tCons (tC (.int 2)) (tCons (tVar 1) (tCons (tTup (tCons (tC (.str "x")) tNil))
      (tCons (tTup (tCons (tTup (tCons (tC (.str "y")) (tCons (tMake CN (spLeaf K CF cls nameB Cm "name" (fun x => x) fun x => [x]) [] E (tCons (tC (.str "x")) tNil)) tNil))) tNil)) tNil))))) σ H' Q') H Q := by
  refine ⟨_, hσ, (by show 1 ≤ sizeLine; decide), fun ph nh => ?_⟩
  have s1 := same_new nh (.tup [V.str "x"])
  refine fun a1 d1 na1 nd1 ne1 => ⟨a1, d1, CN, .str "x", rfl, hN, upd_same, .inl ⟨"x", rfl, by decide +kernel, nmx_ok, fun H2 b2 xp => ⟨rfl, ?_⟩⟩⟩
  have s2 := born_same na1 nd1 b2
  refine ⟨(by show 2 ≤ sizeLine; decide), fun pp np => ⟨(by show 1 ≤ sizeLine; decide), fun pr nr => fun a dx na nd ne => ?_⟩⟩
  have s3 := same_new np (.tup [V.str "y", V.ref a1])
  have s4 := same_new nr (.tup [V.ref pp])
  refine book_tell (Q := Q) PB (List.mem_cons_of_mem _ (List.mem_cons_of_mem _ (List.mem_singleton.mpr rfl))) near (s4 _ _ (s3 _ _ (s2 _ _ upd_same))) ⟨pp, a1, upd_same, s4 _ _ upd_same, ⟨CN, XpAt.same (XpAt.same xp s3) s4⟩⟩
    (fun p H' s hp => q p H' ((((s1.trans s2).trans s3).trans s4).trans s) hp) na nd ne
end
end Wp

/-! the law's main def -/
namespace Wp
open PySem PySem.Spec PyProof.Rows L2 Hx LamX
def spRight (TP : Addr) : Sp := fun vs H Q _ => ∃ d, vs = [.ref d] ∧ DeckAt H d ∧ Tabs (tabsOf TP) H ∧ ∀ H', Kp d H H' → Tabs (tabsOf TP) H' → Q (.bl true) H'
theorem te_join {te : TE} {σ : L2.St} {H : Hp} {Q : VK} (R : V → Hp → Prop) (h : ∀ Q' : VK, (∀ v H', R v H' → Q' v H') → te σ H Q') (q : ∀ v H', R v H' → Q v H') : te σ H Q := h Q q
theorem lst_join {te : TE} {u : TS} {i : Nat} {D : Ends} {σ : L2.St} {H : Hp} (R : V → Hp → Prop) (h : ∀ Q' : VK, (∀ v H', R v H' → Q' v H') → te σ H Q')
    (q : ∀ v H', R v H' → ∀ m, H' m = none → u D (σ.set i (some (.ref m))) (upd H' m (.lst [v]))) : tSeq (tAsg (tLst (tCons te tNil)) (gName i)) u D σ H := h _ fun v H' r => ⟨by show 1 ≤ sizeLine; decide, fun m hm => q v H' r m hm⟩
theorem set_join {te : TE} {u : TS} {i : Nat} {D : Ends} {σ : L2.St} {H : Hp} (R : V → Hp → Prop) (h : ∀ Q' : VK, (∀ v H', R v H' → Q' v H') → te σ H Q') (q : ∀ v H', R v H' → u D (σ.set i (some v)) H') : tSeq (tAsg te (gName i)) u D σ H := h _ q
theorem eqv_self {d : PyData} (h : SeqAt.shaped d = true) : PyData.eqv d d = true := SeqAt.eqv_refl_plain d (PyData.plain_of_canLay0 d (SeqAt.canLay_of_shaped h))
theorem shaped3 {a b c d e f : Str} (h1 : PyData.strOk a = true) (h2 : PyData.strOk b = true) (h3 : PyData.strOk c = true) (h4 : PyData.strOk d = true) (h5 : PyData.strOk e = true) (h6 : PyData.strOk f = true) :
    SeqAt.shaped (.list [.tuple [.str a, .str b], .tuple [.str c, .str d], .tuple [.str e, .str f]]) = true := by
  show (((PyData.strOk _ && (PyData.strOk _ && true)) && ((PyData.strOk _ && (PyData.strOk _ && true)) && ((PyData.strOk _ && (PyData.strOk _ && true)) && true))) && decide (_ ≤ 64)) = true
  rw [h1, h2, h3, h4, h5, h6]
  rfl
theorem cond_ok {g : Bool} {a b : Str} (h1 : PyData.strOk a = true) (h2 : PyData.strOk b = true) : PyData.strOk (cond g a b) = true := by
  cases g
  · exact h2
  · exact h1
theorem pe_propL {X : Cx} {P : Program} {w : World} {K : PySem.W.Frag} {mg : Str → Option Value} {base : Heap} {k : Nat} {f : Str} {e : Expr} {pos : Pos} {ta : TE} (h1 : X.prog = P) (h2 : X.w = w) (h3 : X.K = K) (h4 : X.mg = mg) (h5 : X.base = base) (he : PE X e ta) (room : Room (k + 1) X.A)
    (hab : attributeBase e f X.env (eval e X.env) = eval e X.env := by rfl) : PE X (.Attribute e f pos) (tPropA P w K mg base k f ta) := by
  subst h1 h2 h3 h4 h5
  exact pe_propA he room hab
theorem call_tellL {X : Cx} {P : Program} {w : World} {K : PySem.W.Frag} {mg : Str → Option Value} {base : Heap} {k : Nat} (h1 : X.prog = P) (h2 : X.w = w) (h3 : X.K = K) (h4 : X.mg = mg) (h5 : X.base = base) (room : Room (k + 2) X.A) : CallR X (.type "str") (rTell P w K mg base k) := by
  subst h1 h2 h3 h4 h5
  exact call_tell room
def plainB (x : Str) : Bool := x.cps.toList.all letterB
theorem lettered_eq (m : Int) (x : Str) : lettered m x = (decide (1 ≤ (x.length : Int)) && (decide ((x.length : Int) ≤ m) && plainB x)) := rfl
section
variable {P : Program} {w : World} {K : PySem.W.Frag} {mg : Str → Option Value} {base : Heap} {f fN CF CE CS CN CT CB Ce Cm Cs Cw c TP : Addr} {fd fdN : FuncData} {cls : Addr → Prop}
theorem ok_right (D : Defs P w K mg base CF CE CS CN CT CB Ce Cm Cs Cw cls c TP) (F : FunC K "_law_right" "_law_right" s_law_right f fd c) (Z : Bltn mg) (zs : mg "set" = none)
    (GN : FnOk P w K mg base CX0 3 fN fdN ["_law_deck_here"] spNear) (bN : Binds K fdN ["_law_deck_here"] []) (kN : PySem.W.keepIn K (.ref fN) = true) (mN : mg "_law_near_name" = some (.ref fN)) :
    GOk P w K mg base CX0 11 f fd ["_law_deck_here"] (spRight TP) := by
  refine gokC F scRight (fun vs H Q E h => ?_) (fun A outer s H vs Q E hr gd h => ?_)
  · obtain ⟨d, rfl, _⟩ := h
    rfl
  obtain ⟨d, rfl, hd, tb, q⟩ := h
  have r3 := hr.mono (by decide : 3 ≤ 10)
  obtain ⟨mS, fS, fdS, MS, GS, bS⟩ := D.sign
  obtain ⟨mM, fM, fdM, MM, GM, bM⟩ := D.name
  obtain ⟨mT, fT, fdT, MT, GT, bT⟩ := D.turn
  obtain ⟨mB, fB, fdB, MB, GB, bB⟩ := D.book
  refine ⟨_, pss_cons (ps_set (i := 1) scRight.nd rfl (Or.inr rfl) (pe_call GN r3 rfl mN kN bN .nil pass0 (pa_cons (pv 0) pa_nil)))
    (pss_cons (ps_par (i := 2) (j := 3) rfl scRight.nd rfl rfl (by decide) rfl rfl (pa_cons (pe_callB (cr_all rfl) (by rfl) Z.all PyProof.Rows.boot_all (pa_cons (pe_lc (own := [("_law_letter", 4)]) (g := gName 4) (tt := tYes) rfl scRight.nd (pi_str (pv 1))
          (blkOk_by (N := N7) (sc := defScope s_law_right) (by decide +kernel)) (fun _ _ _ _ _ => pg_name (i := 4) scRight.nd rfl (Or.inl rfl)) (fun _ _ _ _ _ => pts_nil)
          (fun _ _ _ _ _ => pe_cmpR op_in_sign (pv 4) pe_str (by rfl))) pa_nil))
        (pa_cons (pe_callB call_len_str (by rfl) Z.len PySem.boot_len (pa_cons (pv 1) pa_nil)) pa_nil)) rfl)
    (pss_cons (ps_set (i := 5) scRight.nd rfl (Or.inl rfl) (pe_lst (pa_cons pe_str (pa_cons pe_str (pa_cons pe_str (pa_cons pe_str (pa_cons pe_str pa_nil)))))))
    (pss_cons (ps_set (i := 6) scRight.nd rfl (Or.inl rfl) (pe_lst (pa_cons (pe_caught D rfl rfl rfl gd hr (lamS_by (sc := defScope s_law_right) (by decide +kernel)) rfl (fun _ _ _ _ _ => rfl) (fun A outer s H E f c' hr2 =>
        pe_callTy (call_tellL (P := P) (w := w) (K := K) (mg := mg) (base := base) (k := 1) rfl rfl rfl rfl rfl (hr2.mono (show 3 ≤ 8 by decide))) (by rfl) Z.str (by decide +kernel) (pa_cons (pe_make MM GM hr2 rfl mM bM .nil (passes_call (takes_of rfl rfl rfl rfl) (fun _ _ _ _ h => h)) (pa_cons (pv 1) pa_nil)) pa_nil))) pa_nil)))
    (pss_cons (ps_expr (pe_bm PySem.F.plainAttrs_list PySem.F.slot_list_append PySem.F.type_list_append mt_append (pv 6) (pa_cons (pe_caught D rfl rfl rfl gd hr (lamS_by (sc := defScope s_law_right) (by decide +kernel)) rfl (fun _ _ _ _ _ => rfl) (fun A outer s H E f c' hr2 =>
        pe_callTy (call_tellL (P := P) (w := w) (K := K) (mg := mg) (base := base) (k := 1) rfl rfl rfl rfl rfl (hr2.mono (show 3 ≤ 8 by decide))) (by rfl) Z.str (by decide +kernel) (pa_cons (pe_make MS GS hr2 rfl mS bS .nil (passes_call (takes_of rfl rfl rfl rfl) (fun _ _ _ _ h => h)) (pa_cons (pv 1) pa_nil)) pa_nil))) pa_nil)))
    (pss_cons (ps_expr (pe_bm PySem.F.plainAttrs_list PySem.F.slot_list_append PySem.F.type_list_append mt_append (pv 6) (pa_cons (pe_caught D rfl rfl rfl gd hr (lamS_by (sc := defScope s_law_right) (by decide +kernel)) rfl (fun _ _ _ _ _ => rfl) (fun A outer s H E f c' hr2 =>
        pe_callTy (call_tellL (P := P) (w := w) (K := K) (mg := mg) (base := base) (k := 1) rfl rfl rfl rfl rfl (hr2.mono (show 3 ≤ 8 by decide))) (by rfl) Z.str (by decide +kernel) (pa_cons (pe_make MT GT hr2 rfl mT bT .nil (passes_call (takes_of rfl rfl rfl rfl) (fun _ _ _ _ h => h)) (pa_cons (pv 1) (pa_cons
          (pe_make MS GS hr2 rfl mS bS .nil (passes_call (takes_of rfl rfl rfl rfl) (fun _ _ _ _ h => h)) (pa_cons pe_str pa_nil)) pa_nil))) pa_nil))) pa_nil)))
    (pss_cons (ps_set (i := 7) scRight.nd rfl (Or.inl rfl) (pe_lst (pa_cons (pe_ifExp (PW.pt (pw_and (pt_val (pv 2)) (pw_and (pt_chain op_le op_le pe_int (pv 3) pe_int) (pw_and1 (pt_cmpR op_notIn_seq (pv 1) (pv 5) (by rfl))))))
        (pe_tup (pa_cons pe_str (pa_cons (pv 1) pa_nil))) (pe_tup (pa_cons pe_str (pa_cons (pe_callB (call_reprD gd hr.units D.mods) (by rfl) D.repr PyProof.Rows.boot_repr (pa_cons (pv 1) pa_nil)) pa_nil)))) pa_nil)))
    (pss_cons (ps_expr (pe_bm PySem.F.plainAttrs_list PySem.F.slot_list_append PySem.F.type_list_append mt_append (pv 7) (pa_cons (pe_ifExp (PW.pt (pw_and (pt_val (pv 2)) (pw_and1 (pt_cmpR op_eq (pv 3) pe_int (nomark _)))))
        (pe_tup (pa_cons pe_str (pa_cons (pe_op op_add_str (pe_op op_add_str pe_str (pv 1)) pe_str) pa_nil))) (pe_tup (pa_cons pe_str (pa_cons (pe_callB (call_reprD gd hr.units D.mods) (by rfl) D.repr PyProof.Rows.boot_repr (pa_cons (pv 1) pa_nil)) pa_nil)))) pa_nil)))
    (pss_cons (ps_set (i := 8) scRight.nd rfl (Or.inl rfl) (pe_tup (pa_cons pe_str (pa_cons (pe_op op_add_str (pe_op op_add_str pe_str (pv 1)) pe_str) pa_nil))))
    (pss_cons (ps_expr (pe_bm PySem.F.plainAttrs_list PySem.F.slot_list_append PySem.F.type_list_append mt_append (pv 7) (pa_cons (pe_ifExp (PW.pt (pw_and (pt_val (pv 2)) (pw_and1 (pt_chain op_le op_le pe_int (pv 3) pe_int))))
        (pv 8) (pe_tup (pa_cons pe_str (pa_cons (pe_callB (call_reprD gd hr.units D.mods) (by rfl) D.repr PyProof.Rows.boot_repr (pa_cons (pv 1) pa_nil)) pa_nil)))) pa_nil)))
    (pss_cons (ps_if (pt_cmpR (op_neQ hr.units) (pv 6) (pv 7) (nomark _)) pss_no pss_nil)
    (pss_cons (ps_set (i := 6) scRight.nd rfl (Or.inl rfl) (pe_caught D rfl rfl rfl gd hr (lamS_by (sc := defScope s_law_right) (by decide +kernel)) rfl (fun _ _ _ _ _ => rfl) (fun A outer s H E f c' hr2 =>
        pe_propL (P := P) (w := w) (K := K) (mg := mg) (base := base) (k := 1) rfl rfl rfl rfl rfl (pe_make MB GB hr2 rfl mB bB .nil (passes_call (takes_of rfl rfl rfl rfl) (fun _ _ _ _ h => h)) (pa_cons pe_int (pa_cons (pv 1) (pa_cons (pe_tup (pa_cons pe_str pa_nil))
          (pa_cons (pe_tup (pa_cons (pe_tup (pa_cons pe_str (pa_cons (pe_make MM GM hr2 rfl mM bM .nil (passes_call (takes_of rfl rfl rfl rfl) (fun _ _ _ _ h => h)) (pa_cons pe_str pa_nil)) pa_nil))) pa_nil)) pa_nil))))) (hr2.mono (show 2 ≤ 8 by decide)) rfl)))
    (pss_cons (ps_set (i := 9) scRight.nd rfl (Or.inl rfl) (pe_and (pv 2) (pe_and (pe_chain op_le op_le pe_int (pv 3) pe_int) (pe_one (pe_cmpR op_eq
        (pe_callB Hs.call_lenSetS (by rfl) Z.len PySem.boot_len (pa_cons (pe_callTy (Hs.call_setOfS rfl) (by rfl) zs (by decide +kernel) (pa_cons (pv 1) pa_nil)) pa_nil)) (pv 3) (nomark _))))))
    (pss_one (ps_ret (pe_cmpR (op_eqQ hr.units) (pv 6) (pe_ifExp (pt_val (pv 9)) (pe_tup (pa_cons pe_str (pa_cons (pv 1) pa_nil)))
        (pe_tup (pa_cons pe_str (pa_cons (pe_callB (call_reprD gd hr.units D.mods) (by rfl) D.repr PyProof.Rows.boot_repr (pa_cons (pv 1) pa_nil)) pa_nil)))) (nomark _)))))))))))))))), ?_⟩
  refine ⟨_, rfl, d, rfl, hd, fun t H1 near b1 hd1 => ?_⟩
  have l23 := near.1
  have kp1 : Kp d H H1 := Kp.but b1
  have tb1 : Tabs (tabsOf TP) H1 := by
    obtain ⟨_, _, _, _, _, e⟩ := hd
    exact tabs_but tb e b1
  have iM : (("InvalidName" : Str), Cm) ∈ errs Cm Cs Cw := List.mem_cons_self
  have iS : (("InvalidSign" : Str), Cs) ∈ errs Cm Cs Cw := List.mem_cons_of_mem _ List.mem_cons_self
  have iW : (("InvalidWord" : Str), Cw) ∈ errs Cm Cs Cw := List.mem_cons_of_mem _ (List.mem_cons_of_mem _ (List.mem_singleton.mpr rfl))
  have small : t.length ≤ sizeLine := Nat.le_trans l23 (by decide)
  clear b1 hd tb
  -- whether all are letters
  refine ⟨_, rfl, t, rfl, fun D0 hD0 => ?_⟩
  refine L2.lc_it L2.walk_str (fun i H' => Same H1 H' ∧ H' D0 = some (.lst (((t.cps.toList.take i).map letterB).map V.bl))) ⟨same_new hD0 _, upd_same⟩ (fun _ _ _ _ => trivial) ?_ ?_
  · rintro i _ H2 _ hi ⟨s1, h1⟩ ⟨rfl, cp, hc, rfl⟩
    refine ⟨rfl, turn_yes ⟨_, rfl, cp, abc, rfl, rfl, ?_⟩⟩
    have hc2 : t.cps.toList[i]? = some cp := by rw [Array.getElem?_toList]; exact hc
    refine ⟨_, h1, ?_, fun b o hb => ?_, ?_⟩
    · rw [List.length_map, List.length_map, List.length_take, sizeLine_eq]
      have : t.cps.toList.length = t.length := by simp [Str.length]
      omega
    · rw [upd_ne (ne_of_none hb hD0)]
      exact s1 b o hb
    · rw [upd_same, is_letter, List.take_add_one, hc2, List.map_append, List.map_append]
      rfl
  rintro H2 ⟨s2, h2⟩
  rw [List.take_of_length_le (by rw [Array.length_toList]; exact Nat.le_refl _)] at h2
  refine ⟨D0, _, rfl, SqL.of h2, ?_⟩
  rw [List.all_map]
  refine ⟨_, rfl, t, rfl, small, _, _, rfl, ?_⟩
  refine ⟨(by show 5 ≤ sizeLine; decide), fun pb nb => ?_⟩
  have s3 := s2.trans (same_new nb (.lst (noNames.map V.str)))
  have tb3 := tb1.ext s3
  have kp3 := kp1.trans (Kp.same s3)
  have hb3 : upd H2 pb (.lst (noNames.map V.str)) pb = some (.lst (noNames.map V.str)) := upd_same
  obtain ⟨H3, e3, tb3, kp3, hb3⟩ : ∃ H3, upd H2 pb (.lst (noNames.map V.str)) = H3 ∧ Tabs (tabsOf TP) H3 ∧ Kp d H H3 ∧ H3 pb = some (.lst (noNames.map V.str)) := ⟨_, rfl, tb3, kp3, hb3⟩
  have npb : pb ≠ d := fun z => by
    have h2 := deck_off (deck_byt hd1 s2) nb
    exact h2 z.symm
  show tSeq _ _ _ _ (upd H2 pb (.lst (noNames.map V.str)))
  rw [e3]
  clear e3 s3 nb s2 h2 hD0 hd1 tb1 kp1
  -- the first lambda
  refine ⟨tb3, fun H4 e4 t4 => lam_leaf (g := nameB) (mk := fun x => x) D.kl D.own.2.1 iM near rfl fun p5 H5 s5 hp5 => ?_⟩
  have t5 := t4.ext s5
  have k5 : Kp d H3 H5 := (Kp.ext e4).trans (Kp.same s5)
  refine ⟨(by show 1 ≤ sizeLine; decide), fun l nl => ?_⟩
  have s6 := same_new nl (.lst [V.ref p5])
  have t6 := t5.ext s6
  have hl6 : upd H5 l (.lst [V.ref p5]) l = some (.lst [V.ref p5]) := upd_same
  have hp6 := s6 _ _ hp5
  have k6 : Kp d H3 (upd H5 l (.lst [V.ref p5])) := k5.trans (Kp.same s6)
  have fr : ∀ c o, H3 c = some o → c ≠ d → isTbl o = false → c ≠ l := fun c o hc n tt => ne_of_none (k5 c o n tt hc) nl
  generalize upd H5 l (.lst [V.ref p5]) = H6 at t6 hl6 hp6 k6 ⊢
  clear hp5 s5 s6 t5 t4 e4 k5 nl
  have app : ∀ (Hk : Hp) (xs : List V) (z : V), Kp d H3 Hk → Tabs (tabsOf TP) Hk → Hk l = some (.lst xs) → Kp d H3 (upd Hk l (.lst (xs ++ [z]))) ∧ Tabs (tabsOf TP) (upd Hk l (.lst (xs ++ [z]))) ∧ upd Hk l (.lst (xs ++ [z])) l = some (.lst (xs ++ [z])) ∧
      (∀ q o, (∀ ys, o ≠ .lst ys) → Hk q = some o → upd Hk l (.lst (xs ++ [z])) q = some o) := fun Hk xs z kk tt hl => by
    refine ⟨fun c o n i h => ?_, tabs_but tt hl (But.refl.upd _), upd_same, fun q o n h => ?_⟩
    · rw [upd_ne (fr c o h n i)]
      exact kk c o n i h
    · rw [upd_ne fun w => ?_]
      · exact h
      · rw [w, hl] at h
        exact n _ (Option.some.inj h).symm
  have tp : ∀ {o : HO} {x y : V}, o = .tup [x, y] → ∀ ys, o ≠ .lst ys := fun e ys z => by rw [e] at z; cases z
  -- the second
  refine ⟨_, rfl, .inl ⟨rfl, _, SqL.of hl6⟩, t6, fun H7 e7 t7 => lam_leaf (g := lettered 1) (mk := signT) D.kl D.own.1 iS near rfl fun p8 H8 s8 hp8 => ?_⟩
  have hl8 := s8 _ _ (e7 _ _ hl6 (by intro ps z; cases z))
  have hp6_8 := s8 _ _ (e7 _ _ hp6 (by intro ps z; cases z))
  refine ⟨l, _, .ref p8, rfl, rfl, hl8, (by show 1 < sizeLine; decide), ?_⟩
  obtain ⟨k9, t9, hl9, st9⟩ := app H8 _ (.ref p8) ((k6.trans (Kp.ext e7)).trans (Kp.same s8)) (t7.ext s8) hl8
  have hp6_9 := st9 _ _ (tp rfl) hp6_8
  have hp8_9 := st9 _ _ (tp rfl) hp8
  generalize upd H8 l (.lst ([V.ref p5] ++ [V.ref p8])) = H9 at k9 t9 hl9 hp6_9 hp8_9 ⊢
  clear st9 hl8 hp6_8 hp8 s8 e7 t7 k6 t6 hl6 hp6
  -- the third
  refine ⟨_, rfl, .inl ⟨rfl, _, SqL.of hl9⟩, t9, fun H10 e10 t10 => lam_turn D.kl D.own.1 D.own.2.2 near rfl fun p11 H11 s11 hp11 => ?_⟩
  have hl11 := s11 _ _ (e10 _ _ hl9 (by intro ps z; cases z))
  have hp6_11 := s11 _ _ (e10 _ _ hp6_9 (by intro ps z; cases z))
  have hp8_11 := s11 _ _ (e10 _ _ hp8_9 (by intro ps z; cases z))
  refine ⟨l, _, .ref p11, rfl, rfl, hl11, (by show 2 < sizeLine; decide), ?_⟩
  obtain ⟨k12, t12, hl12, st12⟩ := app H11 _ (.ref p11) ((k9.trans (Kp.ext e10)).trans (Kp.same s11)) (t10.ext s11) hl11
  have hp6_12 := st12 _ _ (tp rfl) hp6_11
  have hp8_12 := st12 _ _ (tp rfl) hp8_11
  have hp11_12 := st12 _ _ (tp rfl) hp11
  generalize upd H11 l (.lst (([V.ref p5] ++ [V.ref p8]) ++ [V.ref p11])) = H12 at k12 t12 hl12 hp6_12 hp8_12 hp11_12 ⊢
  clear st12 hl11 hp6_11 hp8_11 hp11 s11 e10 t10 k9 t9 hl9 hp6_9 hp8_9 app
  have hb12 := k12 _ _ npb rfl hb3
  -- what is due: the name
  refine nx_go (lst_join (fun v H' => ∃ p, v = .ref p ∧ Same H12 H' ∧ H' p = some (.tup [.str (cond (nameB t) "told" "InvalidName"), .str (cond (nameB t) t (reprText t))])) (fun Q' hQ => ?_) ?_)
  · have no : nameB t = false → (∃ v d, [V.str t] = [v] ∧ Dq H12 v d ∧ Small d ∧ [V.str "InvalidName", .str d.shown].length ≤ sizeLine ∧ ∀ p, H12 p = none → Q' (.ref p) (upd H12 p (.tup [.str "InvalidName", .str d.shown]))) := fun e => by
      rw [e] at hQ
      exact ⟨_, _, rfl, .str t, near_small near, (by show 2 ≤ sizeLine; decide), fun p hp => hQ _ _ ⟨p, rfl, same_new hp _, upd_same⟩⟩
    have yes : nameB t = true → [V.str "told", .str t].length ≤ sizeLine ∧ ∀ p, H12 p = none → Q' (.ref p) (upd H12 p (.tup [.str "told", .str t])) := fun e => by
      rw [e] at hQ
      exact ⟨(by show 2 ≤ sizeLine; decide), fun p hp => hQ _ _ ⟨p, rfl, same_new hp _, upd_same⟩⟩
    have en : nameB t = (lettered 8 t && !inV (.str t) (noNames.map V.str)) := rfl
    rw [lettered_eq] at en
    refine ⟨_, rfl, ?_⟩
    by_cases c1 : plainB t = true
    · rw [c1] at en
      rw [show t.cps.toList.all (id ∘ letterB) = true from c1]
      refine ⟨_, rfl, iteT ?_⟩
      by_cases c2 : (1 : Int) ≤ (t.length : Int)
      · rw [decide_eq_true c2] at en
        refine ⟨_, rfl, _, _, rfl, rfl, _, rfl, ?_⟩
        rw [decide_eq_true c2]
        refine iteT ⟨_, _, rfl, rfl, _, rfl, ?_⟩
        by_cases c3 : (t.length : Int) ≤ 8
        · rw [decide_eq_true c3] at en ⊢
          refine iteT ⟨_, rfl, _, rfl, pb, _, rfl, .inl (SqL.of hb12), rfl, by decide, _, rfl, ?_⟩
          cases c4 : inV (V.str t) (noNames.map V.str) with
          | true =>
            rw [c4] at en
            exact iteF ⟨_, rfl, no (en.trans (by simp))⟩
          | false =>
            rw [c4] at en
            exact iteT ⟨_, rfl, yes (en.trans (by simp))⟩
        · rw [decide_eq_false c3] at en ⊢
          exact iteF (iteF ⟨_, rfl, no (en.trans (by simp))⟩)
      · rw [decide_eq_false c2] at en
        refine ⟨_, rfl, _, _, rfl, rfl, _, rfl, ?_⟩
        rw [decide_eq_false c2]
        exact iteF ⟨_, rfl, iteF (iteF ⟨_, rfl, no (en.trans (by simp))⟩)⟩
    · rw [Bool.eq_false_iff.mpr c1] at en
      rw [show t.cps.toList.all (id ∘ letterB) = false from Bool.eq_false_iff.mpr c1]
      exact ⟨_, rfl, iteF (iteF ⟨_, rfl, no (en.trans (by simp))⟩)⟩
  rintro _ H13 ⟨p13, rfl, s13, hp13⟩ m nm
  have s14 := s13.trans (same_new nm (.lst [V.ref p13]))
  have hm14 : upd H13 m (.lst [V.ref p13]) m = some (.lst [V.ref p13]) := upd_same
  have hp13_14 := same_new nm (.lst [V.ref p13]) _ _ hp13
  have nlm : l ≠ m := ne_of_none (s13 _ _ hl12) nm
  have frm : ∀ c o, H12 c = some o → c ≠ m := fun c o hc => ne_of_none (s13 _ _ hc) nm
  generalize upd H13 m (.lst [V.ref p13]) = H14 at s14 hm14 hp13_14 ⊢
  clear hp13 nm s13
  -- what is due: the sign
  refine ⟨_, rfl, .inl ⟨rfl, _, SqL.of hm14⟩, te_join (te := tIf _ _ _) (fun v H' => ∃ p, v = .ref p ∧ Same H14 H' ∧ H' p = some (.tup [.str (cond (lettered 1 t) "told" "InvalidSign"), .str (cond (lettered 1 t) (signT t) (reprText t))])) (fun Q' hQ => ?_) ?_⟩
  · have no : lettered 1 t = false → (∃ v d, [V.str t] = [v] ∧ Dq H14 v d ∧ Small d ∧ [V.str "InvalidSign", .str d.shown].length ≤ sizeLine ∧ ∀ p, H14 p = none → Q' (.ref p) (upd H14 p (.tup [.str "InvalidSign", .str d.shown]))) := fun e => by
      rw [e] at hQ
      exact ⟨_, _, rfl, .str t, near_small near, (by show 2 ≤ sizeLine; decide), fun p hp => hQ _ _ ⟨p, rfl, same_new hp _, upd_same⟩⟩
    have yes : lettered 1 t = true → ∀ p, H14 p = none → Q' (.ref p) (upd H14 p (.tup [.str "told", .str (("'" ++ t) ++ "'")])) := fun e => by
      rw [e] at hQ
      intro p hp
      refine hQ _ _ ⟨p, rfl, same_new hp _, ?_⟩
      rw [upd_same, ← sign_text]
      rfl
    have en := lettered_eq 1 t
    have q1 : (Str.ofString "'").length = 1 := by decide +kernel
    by_cases c1 : plainB t = true
    · rw [c1] at en
      rw [show t.cps.toList.all (id ∘ letterB) = true from c1]
      refine ⟨_, rfl, _, rfl, iteT ⟨_, rfl, rfl, _, rfl, ?_⟩⟩
      by_cases c2 : t.length = 1
      · rw [show decide (V.int (t.length : Nat) = V.int 1) = true from decide_eq_true (by rw [c2]; rfl)]
        refine iteT ⟨_, rfl, _, _, rfl, rfl, (by rw [q1, sizeLine_eq]; omega), _, _, rfl, rfl, (by rw [PySem.Str.length_append, q1, sizeLine_eq]; omega), (by show 2 ≤ sizeLine; decide), yes (en.trans (by rw [c2]; decide))⟩
      · rw [show decide (V.int (t.length : Nat) = V.int 1) = false from decide_eq_false fun z => c2 (Int.ofNat.inj (V.int.inj z))]
        refine iteF ⟨_, rfl, no (en.trans ?_)⟩
        by_cases c3 : (1 : Int) ≤ (t.length : Int)
        · rw [decide_eq_true c3, decide_eq_false (by omega)]
          rfl
        · rw [decide_eq_false c3]
          rfl
    · rw [Bool.eq_false_iff.mpr c1] at en
      rw [show t.cps.toList.all (id ∘ letterB) = false from Bool.eq_false_iff.mpr c1]
      exact ⟨_, rfl, _, rfl, iteF (iteF ⟨_, rfl, no (en.trans (by simp))⟩)⟩
  rintro _ H15 ⟨p15, rfl, s15, hp15⟩
  have hm15 := s15 _ _ hm14
  refine ⟨m, _, .ref p15, rfl, rfl, hm15, (by show 1 < sizeLine; decide), ?_⟩
  have st16 : ∀ c o, (∀ ys, o ≠ .lst ys) → H15 c = some o → upd H15 m (.lst ([V.ref p13] ++ [V.ref p15])) c = some o := fun c o n h => by
    rw [upd_ne fun w => ?_]
    · exact h
    · rw [w, hm15] at h
      exact n _ (Option.some.inj h).symm
  have b16 : But m H12 (upd H15 m (.lst ([V.ref p13] ++ [V.ref p15]))) := (But.of (s14.trans s15)).upd _
  have hm16 : upd H15 m (.lst ([V.ref p13] ++ [V.ref p15])) m = some (.lst [V.ref p13, V.ref p15]) := upd_same
  have hp13_16 := st16 _ _ (tp rfl) (s15 _ _ hp13_14)
  have hp15_16 := st16 _ _ (tp rfl) hp15
  generalize upd H15 m (.lst ([V.ref p13] ++ [V.ref p15])) = H16 at b16 hm16 hp13_16 hp15_16 ⊢
  clear st16 hm15 hp15 s15 hm14 hp13_14 s14
  -- the good one
  have q5 : (Str.ofString "turn(").length = 5 := by decide +kernel
  have q6 : (Str.ofString ", 'a')").length = 6 := by decide +kernel
  refine ⟨_, rfl, _, _, rfl, rfl, (by rw [q5, sizeLine_eq]; omega), _, _, rfl, rfl, (by rw [PySem.Str.length_append, q5, q6, sizeLine_eq]; omega), (by show 2 ≤ sizeLine; decide), fun pg ng => ?_⟩
  have s17 := same_new ng (.tup [V.str "told", .str (("turn(" ++ t) ++ ", 'a')")])
  have hg17 : upd H16 pg (.tup [V.str "told", .str (("turn(" ++ t) ++ ", 'a')")]) pg = some (.tup [V.str "told", .str (("turn(" ++ t) ++ ", 'a')")]) := upd_same
  have hm17 := s17 _ _ hm16
  have hp13_17 := s17 _ _ hp13_16
  have hp15_17 := s17 _ _ hp15_16
  have b17 : But m H12 (upd H16 pg (.tup [V.str "told", .str (("turn(" ++ t) ++ ", 'a')")])) := b16.trans (But.of s17)
  generalize upd H16 pg (.tup [V.str "told", .str (("turn(" ++ t) ++ ", 'a')")]) = H17 at hg17 hm17 hp13_17 hp15_17 b17 ⊢
  clear s17 ng b16 hm16 hp13_16 hp15_16
  -- what is due: the turn
  refine ⟨_, rfl, .inl ⟨rfl, _, SqL.of hm17⟩, te_join (te := tIf _ _ _) (fun v H' => ∃ p, v = .ref p ∧ Same H17 H' ∧ H' p = some (.tup [.str (cond (lettered 4 t) "told" "InvalidWord"), .str (cond (lettered 4 t) (("turn(" ++ t) ++ ", 'a')") (reprText t))])) (fun Q' hQ => ?_) ?_⟩
  · have no : lettered 4 t = false → (∃ v d, [V.str t] = [v] ∧ Dq H17 v d ∧ Small d ∧ [V.str "InvalidWord", .str d.shown].length ≤ sizeLine ∧ ∀ p, H17 p = none → Q' (.ref p) (upd H17 p (.tup [.str "InvalidWord", .str d.shown]))) := fun e => by
      rw [e] at hQ
      exact ⟨_, _, rfl, .str t, near_small near, (by show 2 ≤ sizeLine; decide), fun p hp => hQ _ _ ⟨p, rfl, same_new hp _, upd_same⟩⟩
    have yes : lettered 4 t = true → Q' (.ref pg) H17 := fun e => by
      rw [e] at hQ
      exact hQ _ _ ⟨pg, rfl, Same.refl _, hg17⟩
    have en := lettered_eq 4 t
    by_cases c1 : plainB t = true
    · rw [c1] at en
      rw [show t.cps.toList.all (id ∘ letterB) = true from c1]
      by_cases c2 : (1 : Int) ≤ (t.length : Int)
      · rw [decide_eq_true c2] at en
        refine ⟨_, rfl, _, rfl, iteT ⟨_, rfl, _, _, rfl, rfl, _, rfl, ?_⟩⟩
        rw [decide_eq_true c2]
        refine iteT ⟨_, _, rfl, rfl, _, rfl, ?_⟩
        by_cases c3 : (t.length : Int) ≤ 4
        · rw [decide_eq_true c3] at en ⊢
          exact iteT ⟨_, rfl, yes en⟩
        · rw [decide_eq_false c3] at en ⊢
          exact iteF ⟨_, rfl, no en⟩
      · rw [decide_eq_false c2] at en
        refine ⟨_, rfl, _, rfl, iteT ⟨_, rfl, _, _, rfl, rfl, _, rfl, ?_⟩⟩
        rw [decide_eq_false c2]
        exact iteF ⟨_, rfl, iteF ⟨_, rfl, no en⟩⟩
    · rw [Bool.eq_false_iff.mpr c1] at en
      rw [show t.cps.toList.all (id ∘ letterB) = false from Bool.eq_false_iff.mpr c1]
      exact ⟨_, rfl, _, rfl, iteF (iteF ⟨_, rfl, no (en.trans (by simp))⟩)⟩
  rintro _ H18 ⟨p18, rfl, s18, hp18⟩
  have hm18 := s18 _ _ hm17
  refine ⟨m, _, .ref p18, rfl, rfl, hm18, (by show 2 < sizeLine; decide), ?_⟩
  have st19 : ∀ c o, (∀ ys, o ≠ .lst ys) → H18 c = some o → upd H18 m (.lst ([V.ref p13, V.ref p15] ++ [V.ref p18])) c = some o := fun c o n h => by
    rw [upd_ne fun w => ?_]
    · exact h
    · rw [w, hm18] at h
      exact n _ (Option.some.inj h).symm
  have b19 : But m H12 (upd H18 m (.lst ([V.ref p13, V.ref p15] ++ [V.ref p18]))) := (b17.trans (But.of s18)).upd _
  have hm19 : upd H18 m (.lst ([V.ref p13, V.ref p15] ++ [V.ref p18])) m = some (.lst [V.ref p13, V.ref p15, V.ref p18]) := upd_same
  have hp13_19 := st19 _ _ (tp rfl) (s18 _ _ hp13_17)
  have hp15_19 := st19 _ _ (tp rfl) (s18 _ _ hp15_17)
  have hp18_19 := st19 _ _ (tp rfl) hp18
  generalize upd H18 m (.lst ([V.ref p13, V.ref p15] ++ [V.ref p18])) = H19 at b19 hm19 hp13_19 hp15_19 hp18_19 ⊢
  clear st19 hm18 hp18 s18 hm17 hp13_17 hp15_17 hg17 b17
  have s19 : Same H12 H19 := fun c o hc => b19 c o (frm c o hc) hc
  have k19 := (kp3.trans k12).trans (Kp.same s19)
  have t19 := t12.ext s19
  -- they are the same
  have rk := repr_ok near.2
  have tk := near_ok near
  have sk : PyData.strOk (signT t) = true := by
    rw [sign_text]
    exact near_ok (near_add (near_add (⟨Nat.le_refl _, by decide +kernel⟩ : Near _ (Str.ofString "'")) near) (⟨Nat.le_refl _, by decide +kernel⟩ : Near _ (Str.ofString "'")))
  have uk : PyData.strOk (("turn(" ++ t) ++ ", 'a')") = true := near_ok (near_add (near_add (⟨Nat.le_refl _, by decide +kernel⟩ : Near _ (Str.ofString "turn(")) near) (⟨Nat.le_refl _, by decide +kernel⟩ : Near _ (Str.ofString ", 'a')")))
  have o0 : PyData.strOk "told" = true := by decide +kernel
  have o1 : PyData.strOk "InvalidName" = true := by decide +kernel
  have o2 : PyData.strOk "InvalidSign" = true := by decide +kernel
  have o3 : PyData.strOk "InvalidWord" = true := by decide +kernel
  have sh := shaped3 (cond_ok (g := nameB t) o0 o1) (cond_ok (g := nameB t) tk rk) (cond_ok (g := lettered 1 t) o0 o2) (cond_ok (g := lettered 1 t) sk rk) (cond_ok (g := lettered 4 t) o0 o3) (cond_ok (g := lettered 4 t) uk rk)
  have pr : ∀ {H : Hp} {p : Addr} {x y : Str}, H p = some (.tup [.str x, .str y]) → Dq H (.ref p) (.tuple [.str x, .str y]) := fun e => .tup e (.cons (.str _) (.cons (.str _) .nil))
  refine ⟨_, rfl, _, rfl, _, _, .lst (s19 _ _ hl12) (.cons (pr (s19 _ _ hp6_12)) (.cons (pr (s19 _ _ hp8_12)) (.cons (pr (s19 _ _ hp11_12)) .nil))), .lst hm19 (.cons (pr hp13_19) (.cons (pr hp15_19) (.cons (pr hp18_19) .nil))), sh, sh, _, rfl, ?_⟩
  rw [eqv_self sh]
  refine iteF ?_
  -- the book
  refine ⟨t19, fun H20 e20 t20 => lam_book D.kl D.own.2.1 D.letters near rfl fun p21 H21 s21 hp21 => ?_⟩
  have k21 := (k19.trans (Kp.ext e20)).trans (Kp.same s21)
  have t21 := t20.ext s21
  clear e20 s21 t20 hl12 hp6_12 hp8_12 hp11_12 hm19 hp13_19 hp15_19 hp18_19 sh b19 s19 k19 t19 hb12 k12 t12 frm
  refine nx_go (set_join (fun v H' => v = .bl (wordB t) ∧ Same H21 H') (fun Q' hQ => ?_) ?_)
  · have no : wordB t = false → ∀ H', Same H21 H' → Q' (.bl false) H' := fun e H' s => by
      rw [e] at hQ
      exact hQ _ _ ⟨rfl, s⟩
    have en : wordB t = (lettered 4 t && decide (kinds t = t.length)) := rfl
    rw [lettered_eq] at en
    by_cases c1 : plainB t = true
    · rw [c1] at en
      rw [show t.cps.toList.all (id ∘ letterB) = true from c1]
      by_cases c2 : (1 : Int) ≤ (t.length : Int)
      · rw [decide_eq_true c2] at en
        refine ⟨_, rfl, _, rfl, iteT ⟨_, rfl, _, _, rfl, rfl, _, rfl, ?_⟩⟩
        rw [decide_eq_true c2]
        refine iteT ⟨_, _, rfl, rfl, _, rfl, ?_⟩
        by_cases c3 : (t.length : Int) ≤ 4
        · rw [decide_eq_true c3] at en ⊢
          have kl := kinds_le t
          refine iteT ⟨_, rfl, t, rfl, by omega, fun ps hps => ⟨ps, _, rfl, upd_same, (by show kinds t ≤ 1000; omega), _, rfl, rfl, ?_⟩⟩
          refine hQ _ _ ⟨?_, same_new hps _⟩
          rw [en, Bool.true_and, Bool.true_and, Bool.true_and]
          by_cases c4 : kinds t = t.length
          · rw [decide_eq_true c4]
            exact congrArg V.bl (decide_eq_true (by rw [← c4]; rfl))
          · rw [decide_eq_false c4]
            exact congrArg V.bl (decide_eq_false fun z => c4 (Int.ofNat.inj (V.int.inj z)))
        · rw [decide_eq_false c3] at en ⊢
          exact iteF (no (en.trans (by simp)) _ (Same.refl _))
      · rw [decide_eq_false c2] at en
        refine ⟨_, rfl, _, rfl, iteT ⟨_, rfl, _, _, rfl, rfl, _, rfl, ?_⟩⟩
        rw [decide_eq_false c2]
        exact iteF ⟨_, rfl, iteF (no (en.trans (by simp)) _ (Same.refl _))⟩
    · rw [Bool.eq_false_iff.mpr c1] at en
      rw [show t.cps.toList.all (id ∘ letterB) = false from Bool.eq_false_iff.mpr c1]
      exact ⟨_, rfl, _, rfl, iteF (no (en.trans (by simp)) _ (Same.refl _))⟩
  rintro _ H22 ⟨rfl, s22⟩
  have hp21_22 := s22 _ _ hp21
  refine ⟨_, rfl, te_join (te := tIf _ _ _) (fun v H' => ∃ p, v = .ref p ∧ Same H22 H' ∧ H' p = some (.tup [.str (cond (wordB t) "told" "InvalidWord"), .str (cond (wordB t) t (reprText t))])) (fun Q' hQ => ?_) ?_⟩
  · cases e : wordB t with
    | false =>
      rw [e] at hQ
      exact ⟨_, rfl, _, rfl, iteF ⟨_, rfl, _, _, rfl, .str t, near_small near, (by show 2 ≤ sizeLine; decide), fun p hp => hQ _ _ ⟨p, rfl, same_new hp _, upd_same⟩⟩⟩
    | true =>
      rw [e] at hQ
      exact ⟨_, rfl, _, rfl, iteT ⟨_, rfl, (by show 2 ≤ sizeLine; decide), fun p hp => hQ _ _ ⟨p, rfl, same_new hp _, upd_same⟩⟩⟩
  rintro _ H23 ⟨p23, rfl, s23, hp23⟩
  have sh2 : SeqAt.shaped (.tuple [.str (cond (wordB t) "told" "InvalidWord"), .str (cond (wordB t) t (reprText t))]) = true := shaped2 (cond_ok o0 o3) (cond_ok tk rk)
  refine ⟨_, _, pr (s23 _ _ hp21_22), pr hp23, sh2, sh2, ?_⟩
  rw [eqv_self sh2]
  exact q H23 (k21.trans (Kp.same (s22.trans s23))) ((t21.ext s22).ext s23)
end
end Wp

namespace Wp
open PySem PySem.Spec PyProof.Rows L2 Hx LamX
def spLaw (K : PySem.W.Frag) (TP : Addr) : Sp := fun vs H Q _ => ∃ (a : Addr) (ns : List Int), vs = [.ref a] ∧ SqL K H a (ns.map V.int) ∧ ns.length ≤ 63 ∧ Tabs (tabsOf TP) H ∧ ∀ H', Q (.bl true) H'
structure Bltn4 (mg : Str → Option Value) : Prop where
  range : mg "range" = none
  max : mg "max" = none
  min : mg "min" = none
  len : mg "len" = none
  all : mg "all" = none
theorem scLaw : FnScope ["_law_cells", "_law_turn"] ["_law_cells"] (defScope s_law) := ⟨rfl, rfl, rfl, by decide +kernel, rfl, by decide +kernel, by decide +kernel⟩
theorem ExtN.seq {K : PySem.W.Frag} {a : Addr} {H H' : Hp} {xs : List V} (e : ExtN H H') (h : SqL K H a xs) : SqL K H' a xs := by
  rcases h with (h | ⟨o, h⟩) | h
  · exact .inl (.inl (e _ _ h fun ps z => by cases z))
  · exact .inl (.inr ⟨o, e _ _ h fun ps z => by cases z⟩)
  · exact .inr h
section
variable {P : Program} {w : World} {K : PySem.W.Frag} {mg : Str → Option Value} {base : Heap} {TP : Addr}
theorem ok_law {f fD fR : Addr} {fd fdD fdR : FuncData} (F : Fun K "law" "law" s_law f fd) (Z : Bltn4 mg)
    (GD : FnOk P w K mg base CX0 1 fD fdD ["_law_cells", "_law_turn"] (spDeck K)) (bD : Binds K fdD ["_law_cells", "_law_turn"] []) (kD : PySem.W.keepIn K (.ref fD) = true) (mD : mg "_law_deck" = some (.ref fD))
    (GR : GOk P w K mg base CX0 11 fR fdR ["_law_deck_here"] (spRight TP)) (bR : Binds K fdR ["_law_deck_here"] []) (kR : PySem.W.keepIn K (.ref fR) = true) (mR : mg "_law_right" = some (.ref fR)) :
    GOk P w K mg base CX0 12 f fd ["_law_cells"] (spLaw K TP) := by
  refine gok0 F scLaw (fun vs H Q E h => ?_) (fun cdv A outer s H vs Q E hr gd h => ?_)
  · obtain ⟨a, ns, rfl, _⟩ := h
    rfl
  obtain ⟨a, ns, rfl, hS, h63, tb, q⟩ := h
  have r1 := hr.mono (by decide : 1 ≤ 11)
  refine ⟨_, pss_one (ps_ret (pe_callB (cr_all rfl) (by rfl) Z.all PyProof.Rows.boot_all (pa_cons
      (pe_lc (te := tCall (spRight TP) [] E0 (tCons (tCall (spDeck K) [] E0 (tCons (tVar 0) (tCons (tVar 1) tNil))) tNil)) (own := [("_law_turn", 1)]) (g := gName 1) (tt := tYes) rfl scLaw.nd
        (pi_range1 rfl Z.range (pa_cons (pe_callB (call_max2 rfl) (by rfl) Z.max PyProof.Rows.boot_max (pa_cons pe_int (pa_cons
          (pe_callB (call_min2 rfl) (by rfl) Z.min PyProof.Rows.boot_min (pa_cons (pe_callB call_len_seq (by rfl) Z.len PySem.boot_len (pa_cons (pv 0) pa_nil)) (pa_cons pe_int pa_nil))) pa_nil))) pa_nil))
        (blkOk_by (N := ["_law_cells", "_law_turn"]) (sc := defScope s_law) (by decide +kernel))
        (fun _ _ _ _ _ => pg_name (i := 1) scLaw.nd rfl (Or.inl rfl)) (fun _ _ _ _ _ => pts_nil)
        (fun _ _ _ _ _ => pe_callG GR hr gd rfl mR kR bR .nil pass0 (pa_cons (pe_call GD r1 rfl mD kD bD .nil pass0 (pa_cons (pv 0) (pa_cons (pv 1) pa_nil))) pa_nil))) pa_nil))), ?_⟩
  have hl : (ns.map V.int).length = ns.length := List.length_map _
  refine ⟨_, rfl, a, _, rfl, .inl hS, _, _, rfl, _, _, rfl, ?_⟩
  generalize hnum : (if (if (12 : Int) < (((ns.map V.int).length : Nat) : Int) then (12 : Int) else (((ns.map V.int).length : Nat) : Int)) > 2 then (if (12 : Int) < (((ns.map V.int).length : Nat) : Int) then (12 : Int) else (((ns.map V.int).length : Nat) : Int)) else 2) = z
  have hz : 2 ≤ z ∧ z ≤ 12 := by
    rw [← hnum]
    split <;> split <;> omega
  refine ⟨z, rfl, by omega, by omega, fun D hD => ?_⟩
  refine lc_range (lo := 0) (n := z.toNat) (fun i H' => ExtN H H' ∧ Tabs (tabsOf TP) H' ∧ H' D = some (.lst ((List.replicate i true).map V.bl))) ⟨ExtN.of (same_new hD _), tb.ext (same_new hD _), upd_same⟩ ?_ ?_
  · rintro i H' hi ⟨s5, t5, h5⟩
    refine ⟨rfl, turn_yes ?_⟩
    refine ⟨_, rfl, _, rfl, a, ns, i, ?_, ExtN.seq s5 hS, h63, fun p H2 s6 np dk => ?_⟩
    · show [V.ref a, V.int (0 + (i : Int))] = _
      rw [Int.zero_add]
    refine ⟨p, rfl, dk, t5.ext s6, fun H3 b t3 => ?_⟩
    have npD : D ≠ p := ne_of_none h5 np
    have hD3 : H3 D = _ := b _ _ npD rfl (s6 _ _ h5)
    refine ⟨_, hD3, ?_, ?_, ?_, ?_⟩
    · rw [List.length_map, List.length_replicate]
      exact Nat.lt_of_lt_of_le (by omega : i < 1000) (small_line (Nat.le_refl _))
    · intro c o hc nt
      have nD : c ≠ D := ne_of_none hc hD
      rw [upd_ne nD]
      refine b c o (ne_of_none (s5 c o hc nt) np) ?_ (s6 c o (s5 c o hc nt))
      cases o with
      | tbl ps => exact (nt ps rfl).elim
      | _ => rfl
    · exact tabs_but t3 hD3 (But.refl.upd _)
    · rw [upd_same, List.replicate_succ', List.map_append]
      rfl
  · rintro H' ⟨s5, t5, h5⟩
    refine ⟨D, List.replicate z.toNat true, rfl, SqL.of h5, ?_⟩
    have e : (List.replicate z.toNat true).all id = true := by
      rw [List.all_eq_true]
      intro x hx
      exact (List.eq_of_mem_replicate hx)
    rw [e]
    exact q H'
end
end Wp

/-! a law's end: no guard stands below, and some defs make lambdas (their code tables grow) -/
namespace Hx
open PySem PySem.Spec PyProof.Rows L2 LamX
/-- the tables, as they stand at first -/
def tabO : HO := .tbl #[]
/-- the script at a (if it is no part of K) and the tables -/
def startH (ts : List Addr) (keep : Bool) (a : Addr) (vs : List Value) (ns : List Int) : Hp := fun b => if b ∈ ts then some tabO else if keep = true ∧ b = a then some (scriptO vs ns) else none
section
variable {P : Program} {w : World} {K : PySem.W.Frag} {mg mb : Str → Option Value} {k : Nat} {fa a : Addr} {fd : FuncData} {x : Str} {sp : Sp}
  {s1 : Shared} {vs : List Value} {ns : List Int} {ts : List (Addr × Addr)} {keep : Bool}
theorem start_cases {l : List Addr} {b : Addr} {u : HO} (h : startH l keep a vs ns b = some u) : (b ∈ l ∧ u = tabO) ∨ (b ∉ l ∧ keep = true ∧ b = a ∧ u = scriptO vs ns) := by
  unfold startH at h
  by_cases c : b ∈ l
  · rw [if_pos c] at h
    exact .inl ⟨c, (Option.some.inj h).symm⟩
  · rw [if_neg c] at h
    by_cases c2 : keep = true ∧ b = a
    · rw [if_pos c2] at h
      exact .inr ⟨c, c2.1, c2.2, (Option.some.inj h).symm⟩
    · rw [if_neg c2] at h
      cases h
theorem enter_tabs (KX : K.In s1.heap) (hglob : s1.heap.Ns mainGlobals mg) (hblt : s1.heap.Ns builtinsNs mb)
    (hboot : ∀ x : Str, x ≠ "__name__" → mb x = bootBuiltins x) (hlim : s1.heap.NoLimit) (hmods : ∃ mm, s1.heap.Ns sysModules mm) (hgen : s1.gens = #[])
    (tab : ∀ p ∈ ts, s1.heap.get? p.2 = some { cls := .none, data := .fields #[] }) (tabK : ∀ p ∈ ts, K.lookup p.2 = none) (code : ∀ p ∈ ts, PySem.W.CodeHd s1.heap p.1 p.2)
    (hbm : ∃ (bm : Addr) (ob : Obj), mg "__builtins__" = some (.ref bm) ∧ bm ≠ builtinsNs ∧ s1.heap.get? bm = some ob ∧ ob.cls = .type "module" ∧ ob.dict = some builtinsNs ∧ ob.data = .plain)
    (ha : s1.heap.get? a = some { cls := .type "list", data := .seq vs.toArray }) (room : Room k callerA)
    (F : ∀ base : Heap, K.In base → base.Ns mainGlobals mg → Mods base → (∀ p ∈ ts, TabB base mg p.1 p.2) → GOk P w K mg base CX0 k fa fd [x] sp)
    (hbind : ∀ (s : Shared) (u : Value), BindsTo s fd ⟨[u], []⟩ [(x, u)])
    (hK : keep = true → K.lookup a = none) (hok : HOk P w (startH (ts.map (·.2)) keep a vs ns) s1.heap)
    (hsp : sp [.ref a] (startH (ts.map (·.2)) keep a vs ns) (fun v _ => v = .bl true) E0) :
    codeAny (model P w) callerA (.call (.ref fa) ⟨[.ref a], []⟩) (fun r s' => r = .ok (.ret (.bool true)) ∧ OldK s1.heap s'.heap ∧ s'.os = s1.os ∧ AllBare s'.gens) s1 := by
  have tabA : ∀ {b : Addr}, b ∈ ts.map (·.2) → ∃ p ∈ ts, p.2 = b ∧ s1.heap.get? b = some { cls := .none, data := .fields #[] } := fun hb => by
    obtain ⟨p, hp, e⟩ := List.mem_map.mp hb
    exact ⟨p, hp, e, e ▸ tab p hp⟩
  -- what is told of an address that is looked at here: it is the script, or a table, or nothing
  have free : ∀ {b : Addr} {o : Obj}, s1.heap.get? b = some o → (∀ zs n, o.data ≠ .seq zs n) → o.data ≠ .fields #[] → startH (ts.map (·.2)) keep a vs ns b = none := by
    intro b o e h1 h2
    cases hb : startH (ts.map (·.2)) keep a vs ns b with
    | none => rfl
    | some u =>
      rcases start_cases hb with ⟨c, _⟩ | ⟨_, _, rfl, _⟩
      · obtain ⟨p, _, _, z⟩ := tabA c
        rw [e] at z
        cases z
        exact (h2 rfl).elim
      · rw [ha] at e
        cases e
        exact (h1 _ _ rfl).elim
  have freeD : ∀ {b : Addr} {o : Obj} {es : Array DictEntry} {ep : Nat}, s1.heap.get? b = some o → o.data = .dict es ep → startH (ts.map (·.2)) keep a vs ns b = none := fun e d =>
    free e (fun zs n z => by rw [d] at z; cases z) (fun z => by rw [d] at z; cases z)
  have nsBase : ∀ {b : Addr} {m : Str → Option Value}, s1.heap.Ns b m → (hidT s1.heap (startH (ts.map (·.2)) keep a vs ns)).Ns b m := fun {b m} ⟨o, es, ep, e, d, r⟩ =>
    ⟨o, es, ep, hidT_get e (freeD e d), d, r⟩
  have inBase : K.In (hidT s1.heap (startH (ts.map (·.2)) keep a vs ns)) := by
    intro b o e
    refine hidT_get (KX b o e) ?_
    cases hb : startH (ts.map (·.2)) keep a vs ns b with
    | none => rfl
    | some u =>
      rcases start_cases hb with ⟨c, _⟩ | ⟨_, c, rfl, _⟩
      · obtain ⟨p, hp, e2, _⟩ := tabA c
        rw [← e2, tabK p hp] at e
        cases e
      · rw [hK c] at e
        cases e
  have modOk : Mod K mg (hidT s1.heap (startH (ts.map (·.2)) keep a vs ns)) := by
    refine ⟨inBase, nsBase hglob, ⟨mb, nsBase hblt, hboot⟩, ?_⟩
    obtain ⟨mc, l1, l2⟩ := hlim
    exact ⟨mc, nsBase l1, l2⟩
  have modsOk : Mods (hidT s1.heap (startH (ts.map (·.2)) keep a vs ns)) := by
    obtain ⟨mm, hm⟩ := hmods
    obtain ⟨o, es, ep, e, _⟩ := nsBase hm
    exact ⟨o, e⟩
  have tabs : ∀ p ∈ ts, TabB (hidT s1.heap (startH (ts.map (·.2)) keep a vs ns)) mg p.1 p.2 := by
    intro p hp
    have isTab := tab p hp
    constructor
    · obtain ⟨o, us, file, tf, flags, tg, inF, text, tt, e1, r1, r2, r3, rest⟩ := code p hp
      refine ⟨o, us, file, tf, flags, tg, inF, text, tt, hidT_get e1 (free e1 (fun zs n z => ?_) fun z => ?_), r1, r2, r3, rest⟩
      · rw [r2] at z
        cases z
      · rw [r2] at z
        cases z
        simp at r3
    · obtain ⟨bm, ob, b1, b2, b3, b4, b5, b6⟩ := hbm
      refine ⟨bm, ob, b1, b2, fun z => ?_, fun z => ?_, hidT_get b3 (free b3 (fun zs n z => ?_) fun z => ?_), b4, b5, b6⟩
      · obtain ⟨o, es, ep, e, hd, _⟩ := hglob
        rw [z, e] at b3
        cases b3
        rw [hd] at b6
        cases b6
      · rw [z, isTab] at b3
        cases b3
        cases b6
      · rw [b6] at z
        cases z
      · rw [b6] at z
        cases z
    · intro z
      obtain ⟨o, es, ep, e, hd, _⟩ := hglob
      rw [z, isTab] at e
      cases e
      cases hd
  have start0 : Env0 P w K mg (hidT s1.heap (startH (ts.map (·.2)) keep a vs ns)) callerA [] s1 (startH (ts.map (·.2)) keep a vs ns) :=
    { frames := rfl, mod := modOk, bs := fun b o e => of_hidT e, bsz := Nat.le_of_eq (hidT_size _ _), funs := trivial,
      frf := fun b hb => absurd (show b ∈ ([] : List Addr) from hb) (by simp), hok := hok, bare := .of_eq hgen }
  have run := (F _ inBase (nsBase hglob) modsOk tabs).goes callerA [] s1 _ ⟨[.ref a], []⟩ [.ref a] [.ref a] _ _ room rfl start0 (hbind s1 (.ref a)) (.cons rfl .nil) hsp
  refine codeAny_mono run ?_
  intro r s' hr
  cases r with
  | error e => exact (show False from hr).elim
  | ok fl =>
    cases fl with
    | next => exact hr.elim
    | brk => exact hr.elim
    | cont => exact hr.elim
    | ret u =>
      obtain ⟨v, H', osEq, bare, un, hok', rel, rfl⟩ := hr
      cases (show u = Value.bool true from rel)
      have more : ∀ p ∈ ts, ∃ zs : Array Value, s'.heap.get? p.2 = some { cls := .none, data := .fields zs } := fun p hp => by
        obtain ⟨zs, z⟩ := un.tbls p.2 #[] (if_pos (List.mem_map.mpr ⟨p, hp, rfl⟩))
        exact ⟨_, hok' p.2 _ z⟩
      have rest : ∀ b o, b ∉ ts.map (·.2) → s1.heap.get? b = some o → s'.heap.get? b = some o := by
        intro b o nb e
        cases hb : startH (ts.map (·.2)) keep a vs ns b with
        | none => exact un.keep b o e hb (fun z => absurd (show b ∈ ([] : List Addr) from z) (by simp)) (by simp)
        | some u =>
          rcases start_cases hb with ⟨c, _⟩ | ⟨_, _, rfl, rfl⟩
          · exact (nb c).elim
          · have stay := un.frzs b _ _ hb
            obtain ⟨e1, _⟩ := hok b _ hb
            obtain ⟨e2, _⟩ := hok' b _ stay
            rw [e] at e1
            rw [e2, ← Option.some.inj e1]
      refine ⟨rfl, ⟨fun b o e => ?_, fun b o e => ?_⟩, osEq, bare⟩
      · by_cases c : b ∈ ts.map (·.2)
        · obtain ⟨p, hp, rfl, z⟩ := tabA c
          obtain ⟨zs, m⟩ := more p hp
          rw [e] at z
          cases z
          exact .inr (.inl ⟨((code p hp).tab (tab p hp)).isCodeTable, rfl, #[], zs, rfl, by rw [Array.empty_append]; exact m⟩)
        · exact .inl (rest b o c e)
      · by_cases c : b ∈ ts.map (·.2)
        · obtain ⟨p, hp, rfl, z⟩ := tabA c
          obtain ⟨zs, m⟩ := more p hp
          exact ⟨_, m⟩
        · exact ⟨o, rest b o c e⟩
theorem law_tabs (KX : K.In s1.heap) (hglob : s1.heap.Ns mainGlobals mg) (hblt : s1.heap.Ns builtinsNs mb)
    (hboot : ∀ x : Str, x ≠ "__name__" → mb x = bootBuiltins x) (hlim : s1.heap.NoLimit) (hmods : ∃ mm, s1.heap.Ns sysModules mm) (hgen : s1.gens = #[])
    (tab : ∀ p ∈ ts, s1.heap.get? p.2 = some { cls := .none, data := .fields #[] }) (tabK : ∀ p ∈ ts, K.lookup p.2 = none) (code : ∀ p ∈ ts, PySem.W.CodeHd s1.heap p.1 p.2)
    (hbm : ∃ (bm : Addr) (ob : Obj), mg "__builtins__" = some (.ref bm) ∧ bm ≠ builtinsNs ∧ s1.heap.get? bm = some ob ∧ ob.cls = .type "module" ∧ ob.dict = some builtinsNs ∧ ob.data = .plain)
    (ha : s1.heap.get? a = some { cls := .type "list", data := .seq vs.toArray }) (hi : IntsAre vs ns) (hl : ns.length ≤ sizeLine) (room : Room k callerA)
    (F : ∀ base : Heap, K.In base → base.Ns mainGlobals mg → Mods base → (∀ p ∈ ts, TabB base mg p.1 p.2) → GOk P w K mg base CX0 k fa fd [x] sp)
    (hbind : ∀ (s : Shared) (u : Value), BindsTo s fd ⟨[u], []⟩ [(x, u)])
    (hsp : ∀ H : Hp, (∀ p ∈ ts, H p.2 = some (.tbl #[])) → SqL K H a (ns.map V.int) → sp [.ref a] H (fun v _ => v = .bl true) E0) :
    codeAny (model P w) callerA (.call (.ref fa) ⟨[.ref a], []⟩) (fun r s' => r = .ok (.ret (.bool true)) ∧ OldK s1.heap s'.heap ∧ s'.os = s1.os ∧ AllBare s'.gens) s1 := by
  have rel := vals_ints hi
  have aT : a ∉ ts.map (·.2) := fun z => by
    obtain ⟨p, hp, e⟩ := List.mem_map.mp z
    have q := tab p hp
    rw [e, ha] at q
    cases congrArg Obj.data (Option.some.inj q)
  have okAll : ∀ keep : Bool, HOk P w (startH (ts.map (·.2)) keep a vs ns) s1.heap := fun keep b u h => by
    rcases start_cases h with ⟨c, rfl⟩ | ⟨_, _, rfl, rfl⟩
    · obtain ⟨p, hp, rfl⟩ := List.mem_map.mp c
      exact tab p hp
    · exact ⟨ha, by rw [List.length_map]; exact hl, vs, _, rel, ha⟩
  have tabAt : ∀ keep : Bool, ∀ p ∈ ts, startH (ts.map (·.2)) keep a vs ns p.2 = some (.tbl #[]) := fun keep p hp => if_pos (List.mem_map.mpr ⟨p, hp, rfl⟩)
  cases hk : K.lookup a with
  | some o =>
    have e := KX a o hk
    rw [ha] at e
    cases e
    refine enter_tabs (keep := false) KX hglob hblt hboot hlim hmods hgen tab tabK code hbm ha room F hbind (fun z => by cases z) (okAll false) (hsp _ (tabAt false) (.inr ⟨_, vs.toArray, _, hk, rfl, rfl, rfl, ?_, by simpa using rel⟩))
    rw [List.size_toArray, hi.length]
    exact hl
  | none =>
    have at_a : startH (ts.map (·.2)) true a vs ns a = some (scriptO vs ns) := by
      unfold startH
      rw [if_neg aT, if_pos ⟨rfl, rfl⟩]
    exact enter_tabs (keep := true) KX hglob hblt hboot hlim hmods hgen tab tabK code hbm ha room F hbind (fun _ => hk) (okAll true) (hsp _ (tabAt true) (.inl (.inr ⟨_, at_a⟩)))
end
/-- the goal that head_any leaves, for a law whose defs make lambdas and ask that no guard stands below -/
theorem walk_GT {l : PySem.W.OpenLaw} {n k : Nat} {q : Program} {loose : List Str} {XP : (Str → Option Value) → Heap → Prop} {YP : World → Heap → Prop} {d : DefRec} {x : Str}
    (hn : l.most = some n) (hn2 : n ≤ sizeLine) (hdf : d.params.defaults = []) (room : Room k callerA) (himp : importsNone q = true)
    (F : ∀ (w : World) (mg : Str → Option Value) (fa : Addr) (h : Heap), YP w h → h.Ns mainGlobals mg → mg d.name = some (.ref fa) →
      ∃ (K : PySem.W.Frag) (ts : List (Addr × Addr)) (fd : FuncData) (sp : Sp), K.In h ∧ (∀ p ∈ ts, h.get? p.2 = some { cls := .none, data := .fields #[] }) ∧ (∀ p ∈ ts, K.lookup p.2 = none) ∧ (∀ p ∈ ts, PySem.W.CodeHd h p.1 p.2) ∧
        (∀ (s : Shared) (u : Value), BindsTo s fd ⟨[u], []⟩ [(x, u)]) ∧
        (∀ (H : Hp) (a : Addr) (ns : List Int), ns.length ≤ n → (∀ p ∈ ts, H p.2 = some (.tbl #[])) → SqL K H a (ns.map V.int) → sp [.ref a] H (fun v _ => v = .bl true) E0) ∧
        ∀ base : Heap, K.In base → base.Ns mainGlobals mg → Mods base → (∀ p ∈ ts, TabB base mg p.1 p.2) → GOk l.prog w K mg base CX0 k fa fd [x] sp) :
    PySem.W.WalkO q loose XP YP l.row.toRowW d [] (fun f vs => PySem.call f vs) := by
  refine Att.attach_call hn hdf ?_
  intro w s0 s1 mg mb fa o pm cd doc a vs ns G Y ho hd hcd hmg hobj hints hlen hgen
  obtain ⟨K, ts, fd, sp, KX, t1, t2, t3, hb, hsp, hF⟩ := F w mg fa _ Y G.T.g hmg
  obtain ⟨mm, hmm, _⟩ := (G.T.seer himp).mods
  exact law_tabs KX G.T.g G.T.b G.T.builtins G.T.nolimit ⟨mm, hmm⟩ hgen t1 t2 t3 G.T.bmain hobj hints (Nat.le_trans hlen hn2) room hF hb fun H hT hS => hsp H a ns hlen hT hS
end Hx

namespace Wp
open PySem PySem.Spec PyProof.Rows L2 Hx
/-! the promises out of what the head shows -/
section
variable {P : Program} {w : World} {K : PySem.W.Frag} {h : Heap} {mg : Str → Option Value} {base : Heap}
theorem exX_err (e : exX K = true) {x : Str} (hx : x ∈ errsX) : exErr K x = true := List.all_eq_true.mp (Bool.and_eq_true_iff.mp e).1 x hx
theorem exX_cls (e : exX K = true) {x : Str} (hx : x ∈ cnX) : exCls K x = true := List.all_eq_true.mp (Bool.and_eq_true_iff.mp (Bool.and_eq_true_iff.mp e).2).1 x hx
theorem exX_facts (e : exX K = true) : exFacts K = true := (Bool.and_eq_true_iff.mp (Bool.and_eq_true_iff.mp (Bool.and_eq_true_iff.mp e).2).2).1
theorem exX_old (e : exX K = true) : exOld K = true := (Bool.and_eq_true_iff.mp (Bool.and_eq_true_iff.mp (Bool.and_eq_true_iff.mp (Bool.and_eq_true_iff.mp e).2).2).2).1
theorem exX_rest (e : exX K = true) : (glosX.all (fun x => (He.Fa.glo x).ok K) && (freeX.all (fun x => (He.Fa.free x).ok K) && (exConsts K && ex7 K))) = true := (Bool.and_eq_true_iff.mp (Bool.and_eq_true_iff.mp (Bool.and_eq_true_iff.mp (Bool.and_eq_true_iff.mp e).2).2).2).2
theorem exX_glo (e : exX K = true) {x : Str} (hx : x ∈ glosX) : (He.Fa.glo x).ok K = true := List.all_eq_true.mp (Bool.and_eq_true_iff.mp (exX_rest e)).1 x hx
theorem exX_free (e : exX K = true) {x : Str} (hx : x ∈ freeX) : (He.Fa.free x).ok K = true := List.all_eq_true.mp (Bool.and_eq_true_iff.mp (Bool.and_eq_true_iff.mp (exX_rest e)).2).1 x hx
theorem exX_consts (e : exX K = true) : exConsts K = true := (Bool.and_eq_true_iff.mp (Bool.and_eq_true_iff.mp (Bool.and_eq_true_iff.mp (exX_rest e)).2).2).1
theorem exX_7 (e : exX K = true) : ex7 K = true := (Bool.and_eq_true_iff.mp (Bool.and_eq_true_iff.mp (Bool.and_eq_true_iff.mp (exX_rest e)).2).2).2
theorem m_glo (X : K.In h) (G : h.Ns mainGlobals mg) (e : exX K = true) (x : Str) (hx : x ∈ glosX := by decide +kernel) : mg x = some (.ref (He.ga K x)) := He.glo_ok X G (exX_glo e hx)
theorem m_free (X : K.In h) (G : h.Ns mainGlobals mg) (e : exX K = true) (x : Str) (hx : x ∈ freeX := by decide +kernel) : mg x = none := He.free_ok X G (exX_free e hx)
/-- a class of errors -/
structure ErrF (K : PySem.W.Frag) (x : Str) : Prop where
  g : (He.Fa.glo x).ok K = true
  ex : ExK K (He.ga K x) "ValueError" "ValueError.__new__" "ValueError.__init__" He.veBase
  hi : PySem.W.findIn K (.ref (He.ga K x)) "__init__" = some (some (.ref (He.ma K (He.ga K x) "__init__")))
  tI : PySem.W.typeIn K (.ref (He.ma K (He.ga K x) "__init__")) = some (.type "function")
  free : PySem.W.takerIn K (He.ga K x) "given" = some none
  no : PySem.W.findIn K (.ref (He.ga K x)) "given" = some none
  ty : PySem.W.typeIn K (.ref (He.ga K x)) = some (.type "type")
theorem errF (e : exX K = true) {x : Str} (hx : x ∈ errsX) : ErrF K x := by
  have h1 := exX_err e hx
  have h2 := exX_old e
  simp only [exErr, exOld, He.eqO, Bool.and_eq_true, decide_eq_true_eq] at h1 h2
  obtain ⟨a1, a2, a3, a4, a5, a6, a7, a8, a9, a10, a11, a12, a13, a14, a15, a16⟩ := h1
  exact ⟨decide_eq_true a1, ⟨PySem.F.excBase_ValueError, PySem.F.store_ValueError, a2, a3, a4, a5, a6, a7, a8, a9, a10, h2.1, h2.2, a11⟩, a12, a13, a14, a15, a16⟩
theorem mkc (X : K.In h) (G : h.Ns mainGlobals mg) {x qual : Str} {st : Stmt} {fd : FuncData} {q1 q2 q3 q4 : Pos} (E : ErrF K x) (F : Fun K "__init__" qual st (He.ma K (He.ga K x) "__init__") fd) (S : FnScope ["self", "given"] ["self", "given"] (defScope st))
    (hb : defBody st = [.Assign [.Attribute (.Name "self" q1) "given" q2] (.Name "given" q3) q4]) (v1 : Vis (defScope st) "self") (v2 : Vis (defScope st) "given") (b : Binds K fd ["self", "given"] [])
    (bk : ∀ (s : Shared) (self w1 : Value), BindsTo s fd ⟨[self], [("given", w1)]⟩ [("self", self), ("given", w1)]) : MkC P w K mg base x (He.ga K x) "given" :=
  ⟨⟨_, fd, _, _, _, _, E.ex, E.hi, E.tI, ok_in1 F S hb v1 v2 (by decide) (by decide) E.ex E.free, b, bk⟩, He.glo_ok X G E.g, E.no⟩
/-- one of the seven classes -/
structure ClsF (K : PySem.W.Frag) (x : Str) : Prop where
  g : (He.Fa.glo x).ok K = true
  cls : Cls K (He.ga K x)
  mkr : Mk K (He.ga K x) (He.ma K (He.ga K x) "__init__")
  no : NoAttr K (He.ga K x) "facts"
  str : Meth K (He.ga K x) "__str__" (He.ma K (He.ga K x) "__str__")
  rep : Meth K (He.ga K x) "__repr__" (He.ma K (He.ga K x) "__repr__")
  prop : ∀ p ∈ propsX, PropOf K (He.ga K x) p (He.ma K (He.ga K x) p) (pG x p K)
  cl : PySem.W.findIn K (.ref (He.ga K x)) "__class__" = some (some (.builtin "object.__class__"))
  mo : PySem.W.mroIn K (He.ga K x) (.type "object") = some true
  kit : ∀ y ∈ cnX, PySem.W.kitOne K (.ref (He.ga K x)) (.ref (He.ga K y)) = some (decide (x = y))
  top : PySem.W.kitOne K (.ref (He.ga K x)) (.ref (He.ga K "Expression")) = some true
theorem clsF (e : exX K = true) {x : Str} (hx : x ∈ cnX) : ClsF K x := by
  have h1 := exX_cls e hx
  unfold exCls at h1
  obtain ⟨a1, h1⟩ := Bool.and_eq_true_iff.mp h1
  obtain ⟨a2, h1⟩ := Bool.and_eq_true_iff.mp h1
  obtain ⟨a3, h1⟩ := Bool.and_eq_true_iff.mp h1
  obtain ⟨a4, h1⟩ := Bool.and_eq_true_iff.mp h1
  obtain ⟨a5, h1⟩ := Bool.and_eq_true_iff.mp h1
  obtain ⟨a6, h1⟩ := Bool.and_eq_true_iff.mp h1
  obtain ⟨a7, h1⟩ := Bool.and_eq_true_iff.mp h1
  obtain ⟨a8, h1⟩ := Bool.and_eq_true_iff.mp h1
  obtain ⟨a9, h1⟩ := Bool.and_eq_true_iff.mp h1
  obtain ⟨a10, a11⟩ := Bool.and_eq_true_iff.mp h1
  exact ⟨a1, He.cls_ok a2, He.mkr_ok a3, He.noat_ok a4, He.meth_ok a5, He.meth_ok a6, fun p hp => pB_ok (List.all_eq_true.mp a7 p hp), He.eqO_ok a8, of_decide_eq_true a9, fun y hy => of_decide_eq_true (List.all_eq_true.mp a10 y hy), of_decide_eq_true a11⟩
theorem clsF_facts (e : exX K = true) : (He.Fa.glo "Facts").ok K = true ∧ FactsC K (He.ga K "Facts") ∧ Mk K (He.ga K "Facts") (He.ma K (He.ga K "Facts") "__init__") := by
  have h1 := exX_facts e
  unfold exFacts at h1
  obtain ⟨a1, h1⟩ := Bool.and_eq_true_iff.mp h1
  obtain ⟨a2, h1⟩ := Bool.and_eq_true_iff.mp h1
  obtain ⟨a3, a4⟩ := Bool.and_eq_true_iff.mp h1
  exact ⟨a1, ⟨He.cls_ok a2, fun f hf => He.noat_ok (List.all_eq_true.mp a4 f hf)⟩, He.mkr_ok a3⟩
theorem constsX (X : K.In h) (G : h.Ns mainGlobals mg) (e : exX K = true) : Consts mg K := by
  have h1 := exX_consts e
  unfold exConsts at h1
  obtain ⟨a1, h1⟩ := Bool.and_eq_true_iff.mp h1
  obtain ⟨a2, h1⟩ := Bool.and_eq_true_iff.mp h1
  obtain ⟨a3, h1⟩ := Bool.and_eq_true_iff.mp h1
  obtain ⟨a4, h1⟩ := Bool.and_eq_true_iff.mp h1
  obtain ⟨a5, h1⟩ := Bool.and_eq_true_iff.mp h1
  obtain ⟨a6, a7⟩ := Bool.and_eq_true_iff.mp h1
  exact ⟨He.str_ok X G a1, He.int_ok X G a2, He.int_ok X G a3, He.int_ok X G a4, He.int_ok X G a5, He.int_ok X G a6, _, m_glo X G e "NO_NAMES", fun H => He.tupB_ok a7 H⟩
def clsX (K : PySem.W.Frag) (C : Addr) : Prop := ∃ x ∈ cnX, C = He.ga K x
theorem tyX_own (e : exX K = true) (H : Hp) (C a dx : Addr) (fs : List (Str × V)) (hC : clsX K C) (ha : H a = some (.ins C dx fs)) : TyX K H (.ref a) (.ref C) := by
  obtain ⟨x, hx, rfl⟩ := hC
  have c := clsF e hx
  have h2 := exX_old e
  simp only [exOld, He.eqO, Bool.and_eq_true, decide_eq_true_eq] at h2
  exact .base (.ins ha c.cls c.cl h2.1 h2.2 c.mo)
theorem ixX (e : exX K = true) : IsX K (He.ga K "Expression") (clsX K) := fun H C a dx fs hC ha => ⟨.ref C, tyX_own e H C a dx fs hC ha, by
  obtain ⟨x, hx, rfl⟩ := hC
  exact (clsF e hx).top⟩
theorem ownX (e : exX K = true) (C : Addr) (hC : clsX K C) : Own K C := by
  obtain ⟨x, hx, rfl⟩ := hC
  exact ⟨(clsF e hx).cls, (clsF e hx).no⟩
end
end Wp

namespace Wp
open PySem PySem.Spec PyProof.Rows L2 Hx
/-- what a class of expressions tells of itself -/
structure TellF (P : Program) (w : World) (K : PySem.W.Frag) (mg : Str → Option Value) (base : Heap) (C : Addr) : Prop where
  str : TellsBy P w K mg base 1 C (spStr C (He.ga K "Facts"))
  kind : PropBy P w K mg base 1 C "kind" (spGet C (He.ga K "Facts") "word")
  inner : PropBy P w K mg base 1 C "inner" (spGet C (He.ga K "Facts") "parts")
  told : PropBy P w K mg base 1 C "told" (spGet C (He.ga K "Facts") "marks")
  names : PropBy P w K mg base 1 C "names" (spGet C (He.ga K "Facts") "labels")
  knots : PropBy P w K mg base 1 C "knots" (spGet C (He.ga K "Facts") "size")
section
variable {P : Program} {w : World} {K : PySem.W.Frag} {h : Heap} {mg : Str → Option Value} {base : Heap}

theorem sc_Name_str : FnScope ["self"] ["self"] (defScope s_Name_str) := ⟨rfl, rfl, rfl, by decide +kernel, rfl, by decide +kernel, by decide +kernel⟩
theorem sc_Name_kind : FnScope ["self"] ["self"] (defScope s_Name_kind) := ⟨rfl, rfl, rfl, by decide +kernel, rfl, by decide +kernel, by decide +kernel⟩
theorem sc_Name_inner : FnScope ["self"] ["self"] (defScope s_Name_inner) := ⟨rfl, rfl, rfl, by decide +kernel, rfl, by decide +kernel, by decide +kernel⟩
theorem sc_Name_told : FnScope ["self"] ["self"] (defScope s_Name_told) := ⟨rfl, rfl, rfl, by decide +kernel, rfl, by decide +kernel, by decide +kernel⟩
theorem sc_Name_names : FnScope ["self"] ["self"] (defScope s_Name_names) := ⟨rfl, rfl, rfl, by decide +kernel, rfl, by decide +kernel, by decide +kernel⟩
theorem sc_Name_knots : FnScope ["self"] ["self"] (defScope s_Name_knots) := ⟨rfl, rfl, rfl, by decide +kernel, rfl, by decide +kernel, by decide +kernel⟩
theorem tell_Name (c : SaysZ exX dsX K) (z : mg "str" = none) : TellF P w K mg base (He.ga K "Name") := by
  have e := c.ex
  have C := clsF e (x := "Name") (by decide +kernel)
  have FC := (clsF_facts e).2.1
  obtain ⟨f1, F1⟩ := c.def_ 46 (d := ⟨mA "Name" "__str__", "__str__", "Name.__str__", s_Name_str⟩) rfl
  obtain ⟨g0, G0⟩ := c.def_ 49 (d := ⟨pG "Name" "kind", "kind", "Name.kind", s_Name_kind⟩) rfl
  obtain ⟨g1, G1⟩ := c.def_ 50 (d := ⟨pG "Name" "inner", "inner", "Name.inner", s_Name_inner⟩) rfl
  obtain ⟨g2, G2⟩ := c.def_ 51 (d := ⟨pG "Name" "told", "told", "Name.told", s_Name_told⟩) rfl
  obtain ⟨g3, G3⟩ := c.def_ 52 (d := ⟨pG "Name" "names", "names", "Name.names", s_Name_names⟩) rfl
  obtain ⟨g4, G4⟩ := c.def_ 53 (d := ⟨pG "Name" "knots", "knots", "Name.knots", s_Name_knots⟩) rfl
  exact ⟨⟨C.cls, _, f1, C.str.at_, C.str.fn, ok_str F1 sc_Name_str rfl (Or.inl rfl) (fun _ _ => rfl) z C.cls C.no FC.cls (FC.no "text" (by simp)), F1.binds (ps := ["self"]) (fun _ _ _ _ _ _ us hl => match us, hl with | [_], _ => rfl)⟩,
    ⟨C.cls, _, _, g0, C.prop "kind" (by decide +kernel), ok_get G0 sc_Name_kind rfl (Or.inl rfl) C.cls C.no FC.cls (FC.no "word" (by simp)), G0.binds (ps := ["self"]) (fun _ _ _ _ _ _ us hl => match us, hl with | [_], _ => rfl)⟩,
    ⟨C.cls, _, _, g1, C.prop "inner" (by decide +kernel), ok_get G1 sc_Name_inner rfl (Or.inl rfl) C.cls C.no FC.cls (FC.no "parts" (by simp)), G1.binds (ps := ["self"]) (fun _ _ _ _ _ _ us hl => match us, hl with | [_], _ => rfl)⟩,
    ⟨C.cls, _, _, g2, C.prop "told" (by decide +kernel), ok_get G2 sc_Name_told rfl (Or.inl rfl) C.cls C.no FC.cls (FC.no "marks" (by simp)), G2.binds (ps := ["self"]) (fun _ _ _ _ _ _ us hl => match us, hl with | [_], _ => rfl)⟩,
    ⟨C.cls, _, _, g3, C.prop "names" (by decide +kernel), ok_get G3 sc_Name_names rfl (Or.inl rfl) C.cls C.no FC.cls (FC.no "labels" (by simp)), G3.binds (ps := ["self"]) (fun _ _ _ _ _ _ us hl => match us, hl with | [_], _ => rfl)⟩,
    ⟨C.cls, _, _, g4, C.prop "knots" (by decide +kernel), ok_get G4 sc_Name_knots rfl (Or.inl rfl) C.cls C.no FC.cls (FC.no "size" (by simp)), G4.binds (ps := ["self"]) (fun _ _ _ _ _ _ us hl => match us, hl with | [_], _ => rfl)⟩⟩
theorem sc_Sign_str : FnScope ["self"] ["self"] (defScope s_Sign_str) := ⟨rfl, rfl, rfl, by decide +kernel, rfl, by decide +kernel, by decide +kernel⟩
theorem sc_Sign_kind : FnScope ["self"] ["self"] (defScope s_Sign_kind) := ⟨rfl, rfl, rfl, by decide +kernel, rfl, by decide +kernel, by decide +kernel⟩
theorem sc_Sign_inner : FnScope ["self"] ["self"] (defScope s_Sign_inner) := ⟨rfl, rfl, rfl, by decide +kernel, rfl, by decide +kernel, by decide +kernel⟩
theorem sc_Sign_told : FnScope ["self"] ["self"] (defScope s_Sign_told) := ⟨rfl, rfl, rfl, by decide +kernel, rfl, by decide +kernel, by decide +kernel⟩
theorem sc_Sign_names : FnScope ["self"] ["self"] (defScope s_Sign_names) := ⟨rfl, rfl, rfl, by decide +kernel, rfl, by decide +kernel, by decide +kernel⟩
theorem sc_Sign_knots : FnScope ["self"] ["self"] (defScope s_Sign_knots) := ⟨rfl, rfl, rfl, by decide +kernel, rfl, by decide +kernel, by decide +kernel⟩
theorem tell_Sign (c : SaysZ exX dsX K) (z : mg "str" = none) : TellF P w K mg base (He.ga K "Sign") := by
  have e := c.ex
  have C := clsF e (x := "Sign") (by decide +kernel)
  have FC := (clsF_facts e).2.1
  obtain ⟨f1, F1⟩ := c.def_ 47 (d := ⟨mA "Sign" "__str__", "__str__", "Sign.__str__", s_Sign_str⟩) rfl
  obtain ⟨g0, G0⟩ := c.def_ 54 (d := ⟨pG "Sign" "kind", "kind", "Sign.kind", s_Sign_kind⟩) rfl
  obtain ⟨g1, G1⟩ := c.def_ 55 (d := ⟨pG "Sign" "inner", "inner", "Sign.inner", s_Sign_inner⟩) rfl
  obtain ⟨g2, G2⟩ := c.def_ 56 (d := ⟨pG "Sign" "told", "told", "Sign.told", s_Sign_told⟩) rfl
  obtain ⟨g3, G3⟩ := c.def_ 57 (d := ⟨pG "Sign" "names", "names", "Sign.names", s_Sign_names⟩) rfl
  obtain ⟨g4, G4⟩ := c.def_ 58 (d := ⟨pG "Sign" "knots", "knots", "Sign.knots", s_Sign_knots⟩) rfl
  exact ⟨⟨C.cls, _, f1, C.str.at_, C.str.fn, ok_str F1 sc_Sign_str rfl (Or.inl rfl) (fun _ _ => rfl) z C.cls C.no FC.cls (FC.no "text" (by simp)), F1.binds (ps := ["self"]) (fun _ _ _ _ _ _ us hl => match us, hl with | [_], _ => rfl)⟩,
    ⟨C.cls, _, _, g0, C.prop "kind" (by decide +kernel), ok_get G0 sc_Sign_kind rfl (Or.inl rfl) C.cls C.no FC.cls (FC.no "word" (by simp)), G0.binds (ps := ["self"]) (fun _ _ _ _ _ _ us hl => match us, hl with | [_], _ => rfl)⟩,
    ⟨C.cls, _, _, g1, C.prop "inner" (by decide +kernel), ok_get G1 sc_Sign_inner rfl (Or.inl rfl) C.cls C.no FC.cls (FC.no "parts" (by simp)), G1.binds (ps := ["self"]) (fun _ _ _ _ _ _ us hl => match us, hl with | [_], _ => rfl)⟩,
    ⟨C.cls, _, _, g2, C.prop "told" (by decide +kernel), ok_get G2 sc_Sign_told rfl (Or.inl rfl) C.cls C.no FC.cls (FC.no "marks" (by simp)), G2.binds (ps := ["self"]) (fun _ _ _ _ _ _ us hl => match us, hl with | [_], _ => rfl)⟩,
    ⟨C.cls, _, _, g3, C.prop "names" (by decide +kernel), ok_get G3 sc_Sign_names rfl (Or.inl rfl) C.cls C.no FC.cls (FC.no "labels" (by simp)), G3.binds (ps := ["self"]) (fun _ _ _ _ _ _ us hl => match us, hl with | [_], _ => rfl)⟩,
    ⟨C.cls, _, _, g4, C.prop "knots" (by decide +kernel), ok_get G4 sc_Sign_knots rfl (Or.inl rfl) C.cls C.no FC.cls (FC.no "size" (by simp)), G4.binds (ps := ["self"]) (fun _ _ _ _ _ _ us hl => match us, hl with | [_], _ => rfl)⟩⟩
theorem sc_Turn_str : FnScope ["self"] ["self"] (defScope s_Turn_str) := ⟨rfl, rfl, rfl, by decide +kernel, rfl, by decide +kernel, by decide +kernel⟩
theorem sc_Turn_kind : FnScope ["self"] ["self"] (defScope s_Turn_kind) := ⟨rfl, rfl, rfl, by decide +kernel, rfl, by decide +kernel, by decide +kernel⟩
theorem sc_Turn_inner : FnScope ["self"] ["self"] (defScope s_Turn_inner) := ⟨rfl, rfl, rfl, by decide +kernel, rfl, by decide +kernel, by decide +kernel⟩
theorem sc_Turn_told : FnScope ["self"] ["self"] (defScope s_Turn_told) := ⟨rfl, rfl, rfl, by decide +kernel, rfl, by decide +kernel, by decide +kernel⟩
theorem sc_Turn_names : FnScope ["self"] ["self"] (defScope s_Turn_names) := ⟨rfl, rfl, rfl, by decide +kernel, rfl, by decide +kernel, by decide +kernel⟩
theorem sc_Turn_knots : FnScope ["self"] ["self"] (defScope s_Turn_knots) := ⟨rfl, rfl, rfl, by decide +kernel, rfl, by decide +kernel, by decide +kernel⟩
theorem tell_Turn (c : SaysZ exX dsX K) (z : mg "str" = none) : TellF P w K mg base (He.ga K "Turn") := by
  have e := c.ex
  have C := clsF e (x := "Turn") (by decide +kernel)
  have FC := (clsF_facts e).2.1
  obtain ⟨f1, F1⟩ := c.def_ 48 (d := ⟨mA "Turn" "__str__", "__str__", "Turn.__str__", s_Turn_str⟩) rfl
  obtain ⟨g0, G0⟩ := c.def_ 59 (d := ⟨pG "Turn" "kind", "kind", "Turn.kind", s_Turn_kind⟩) rfl
  obtain ⟨g1, G1⟩ := c.def_ 60 (d := ⟨pG "Turn" "inner", "inner", "Turn.inner", s_Turn_inner⟩) rfl
  obtain ⟨g2, G2⟩ := c.def_ 61 (d := ⟨pG "Turn" "told", "told", "Turn.told", s_Turn_told⟩) rfl
  obtain ⟨g3, G3⟩ := c.def_ 62 (d := ⟨pG "Turn" "names", "names", "Turn.names", s_Turn_names⟩) rfl
  obtain ⟨g4, G4⟩ := c.def_ 63 (d := ⟨pG "Turn" "knots", "knots", "Turn.knots", s_Turn_knots⟩) rfl
  exact ⟨⟨C.cls, _, f1, C.str.at_, C.str.fn, ok_str F1 sc_Turn_str rfl (Or.inl rfl) (fun _ _ => rfl) z C.cls C.no FC.cls (FC.no "text" (by simp)), F1.binds (ps := ["self"]) (fun _ _ _ _ _ _ us hl => match us, hl with | [_], _ => rfl)⟩,
    ⟨C.cls, _, _, g0, C.prop "kind" (by decide +kernel), ok_get G0 sc_Turn_kind rfl (Or.inl rfl) C.cls C.no FC.cls (FC.no "word" (by simp)), G0.binds (ps := ["self"]) (fun _ _ _ _ _ _ us hl => match us, hl with | [_], _ => rfl)⟩,
    ⟨C.cls, _, _, g1, C.prop "inner" (by decide +kernel), ok_get G1 sc_Turn_inner rfl (Or.inl rfl) C.cls C.no FC.cls (FC.no "parts" (by simp)), G1.binds (ps := ["self"]) (fun _ _ _ _ _ _ us hl => match us, hl with | [_], _ => rfl)⟩,
    ⟨C.cls, _, _, g2, C.prop "told" (by decide +kernel), ok_get G2 sc_Turn_told rfl (Or.inl rfl) C.cls C.no FC.cls (FC.no "marks" (by simp)), G2.binds (ps := ["self"]) (fun _ _ _ _ _ _ us hl => match us, hl with | [_], _ => rfl)⟩,
    ⟨C.cls, _, _, g3, C.prop "names" (by decide +kernel), ok_get G3 sc_Turn_names rfl (Or.inl rfl) C.cls C.no FC.cls (FC.no "labels" (by simp)), G3.binds (ps := ["self"]) (fun _ _ _ _ _ _ us hl => match us, hl with | [_], _ => rfl)⟩,
    ⟨C.cls, _, _, g4, C.prop "knots" (by decide +kernel), ok_get G4 sc_Turn_knots rfl (Or.inl rfl) C.cls C.no FC.cls (FC.no "size" (by simp)), G4.binds (ps := ["self"]) (fun _ _ _ _ _ _ us hl => match us, hl with | [_], _ => rfl)⟩⟩
theorem tellX (c : SaysZ exX dsX K) (z : mg "str" = none) (C : Addr) (hC : clsX K C) : TellF P w K mg base C := by
  obtain ⟨x, hx, rfl⟩ := hC
  simp only [cnX, List.mem_cons, List.not_mem_nil, or_false] at hx
  rcases hx with rfl | rfl | rfl
  · exact tell_Name c z
  · exact tell_Sign c z
  · exact tell_Turn c z
theorem klsX (c : SaysZ exX dsX K) (z : mg "str" = none) : Kls P w K mg base (He.ga K "Facts") (clsX K) := by
  refine ⟨fun C hC => (tellX c z C hC).str, fun C hC f fld hf => ?_⟩
  have T := tellX (P := P) (w := w) (base := base) c z C hC
  simp only [List.mem_cons, Prod.mk.injEq, List.not_mem_nil, or_false] at hf
  rcases hf with ⟨rfl, rfl⟩ | ⟨rfl, rfl⟩ | ⟨rfl, rfl⟩ | ⟨rfl, rfl⟩ | ⟨rfl, rfl⟩
  · exact T.kind
  · exact T.inner
  · exact T.told
  · exact T.names
  · exact T.knots
end
end Wp

namespace Wp
open PySem PySem.Spec PyProof.Rows L2 Hx
section
variable {P : Program} {w : World} {K : PySem.W.Frag} {h : Heap} {mg : Str → Option Value} {base : Heap} {fa : Addr}

theorem sc_InvalidNumber : FnScope ["self", "given"] ["self", "given"] (defScope s_InvalidNumber_init) := ⟨rfl, rfl, rfl, by decide +kernel, rfl, by decide +kernel, by decide +kernel⟩
theorem mk_InvalidNumber (X : K.In h) (G : h.Ns mainGlobals mg) (c : SaysZ exX dsX K) : MkC P w K mg base "InvalidNumber" (He.ga K "InvalidNumber") "given" := by
  obtain ⟨fd, F⟩ := c.def_ 36 (d := ⟨mA "InvalidNumber" "__init__", "__init__", "InvalidNumber.__init__", s_InvalidNumber_init⟩) rfl
  have E := errF c.ex (x := "InvalidNumber") (by decide +kernel)
  have b := F.binds (ps := ["self", "given"]) fun _ _ _ _ _ _ us hl => match us, hl with | [_, _], _ => rfl
  have ok := ok_in1 (P := P) (w := w) (mg := mg) (base := base) F sc_InvalidNumber rfl (Or.inl rfl) (Or.inl rfl) (by decide) (by decide) E.ex E.free
  obtain ⟨oc, od, kV, doc, pm, an, cdv, ct, osl, rfl, lk, hcd⟩ := F.ex
  exact ⟨⟨_, _, _, _, _, _, E.ex, E.hi, E.tI, ok, b, fun s self w1 => .of_eq rfl⟩, He.glo_ok X G E.g, E.no⟩
theorem sc_InvalidName : FnScope ["self", "given"] ["self", "given"] (defScope s_InvalidName_init) := ⟨rfl, rfl, rfl, by decide +kernel, rfl, by decide +kernel, by decide +kernel⟩
theorem mk_InvalidName (X : K.In h) (G : h.Ns mainGlobals mg) (c : SaysZ exX dsX K) : MkC P w K mg base "InvalidName" (He.ga K "InvalidName") "given" := by
  obtain ⟨fd, F⟩ := c.def_ 37 (d := ⟨mA "InvalidName" "__init__", "__init__", "InvalidName.__init__", s_InvalidName_init⟩) rfl
  have E := errF c.ex (x := "InvalidName") (by decide +kernel)
  have b := F.binds (ps := ["self", "given"]) fun _ _ _ _ _ _ us hl => match us, hl with | [_, _], _ => rfl
  have ok := ok_in1 (P := P) (w := w) (mg := mg) (base := base) F sc_InvalidName rfl (Or.inl rfl) (Or.inl rfl) (by decide) (by decide) E.ex E.free
  obtain ⟨oc, od, kV, doc, pm, an, cdv, ct, osl, rfl, lk, hcd⟩ := F.ex
  exact ⟨⟨_, _, _, _, _, _, E.ex, E.hi, E.tI, ok, b, fun s self w1 => .of_eq rfl⟩, He.glo_ok X G E.g, E.no⟩
theorem sc_InvalidSign : FnScope ["self", "given"] ["self", "given"] (defScope s_InvalidSign_init) := ⟨rfl, rfl, rfl, by decide +kernel, rfl, by decide +kernel, by decide +kernel⟩
theorem mk_InvalidSign (X : K.In h) (G : h.Ns mainGlobals mg) (c : SaysZ exX dsX K) : MkC P w K mg base "InvalidSign" (He.ga K "InvalidSign") "given" := by
  obtain ⟨fd, F⟩ := c.def_ 38 (d := ⟨mA "InvalidSign" "__init__", "__init__", "InvalidSign.__init__", s_InvalidSign_init⟩) rfl
  have E := errF c.ex (x := "InvalidSign") (by decide +kernel)
  have b := F.binds (ps := ["self", "given"]) fun _ _ _ _ _ _ us hl => match us, hl with | [_, _], _ => rfl
  have ok := ok_in1 (P := P) (w := w) (mg := mg) (base := base) F sc_InvalidSign rfl (Or.inl rfl) (Or.inl rfl) (by decide) (by decide) E.ex E.free
  obtain ⟨oc, od, kV, doc, pm, an, cdv, ct, osl, rfl, lk, hcd⟩ := F.ex
  exact ⟨⟨_, _, _, _, _, _, E.ex, E.hi, E.tI, ok, b, fun s self w1 => .of_eq rfl⟩, He.glo_ok X G E.g, E.no⟩
theorem sc_InvalidWord : FnScope ["self", "given"] ["self", "given"] (defScope s_InvalidWord_init) := ⟨rfl, rfl, rfl, by decide +kernel, rfl, by decide +kernel, by decide +kernel⟩
theorem mk_InvalidWord (X : K.In h) (G : h.Ns mainGlobals mg) (c : SaysZ exX dsX K) : MkC P w K mg base "InvalidWord" (He.ga K "InvalidWord") "given" := by
  obtain ⟨fd, F⟩ := c.def_ 39 (d := ⟨mA "InvalidWord" "__init__", "__init__", "InvalidWord.__init__", s_InvalidWord_init⟩) rfl
  have E := errF c.ex (x := "InvalidWord") (by decide +kernel)
  have b := F.binds (ps := ["self", "given"]) fun _ _ _ _ _ _ us hl => match us, hl with | [_, _], _ => rfl
  have ok := ok_in1 (P := P) (w := w) (mg := mg) (base := base) F sc_InvalidWord rfl (Or.inl rfl) (Or.inl rfl) (by decide) (by decide) E.ex E.free
  obtain ⟨oc, od, kV, doc, pm, an, cdv, ct, osl, rfl, lk, hcd⟩ := F.ex
  exact ⟨⟨_, _, _, _, _, _, E.ex, E.hi, E.tI, ok, b, fun s self w1 => .of_eq rfl⟩, He.glo_ok X G E.g, E.no⟩
theorem sc_InvalidExpression : FnScope ["self", "given"] ["self", "given"] (defScope s_InvalidExpression_init) := ⟨rfl, rfl, rfl, by decide +kernel, rfl, by decide +kernel, by decide +kernel⟩
theorem mk_InvalidExpression (X : K.In h) (G : h.Ns mainGlobals mg) (c : SaysZ exX dsX K) : MkC P w K mg base "InvalidExpression" (He.ga K "InvalidExpression") "given" := by
  obtain ⟨fd, F⟩ := c.def_ 40 (d := ⟨mA "InvalidExpression" "__init__", "__init__", "InvalidExpression.__init__", s_InvalidExpression_init⟩) rfl
  have E := errF c.ex (x := "InvalidExpression") (by decide +kernel)
  have b := F.binds (ps := ["self", "given"]) fun _ _ _ _ _ _ us hl => match us, hl with | [_, _], _ => rfl
  have ok := ok_in1 (P := P) (w := w) (mg := mg) (base := base) F sc_InvalidExpression rfl (Or.inl rfl) (Or.inl rfl) (by decide) (by decide) E.ex E.free
  obtain ⟨oc, od, kV, doc, pm, an, cdv, ct, osl, rfl, lk, hcd⟩ := F.ex
  exact ⟨⟨_, _, _, _, _, _, E.ex, E.hi, E.tI, ok, b, fun s self w1 => .of_eq rfl⟩, He.glo_ok X G E.g, E.no⟩
end
end Wp

namespace Wp
open PySem PySem.Spec PyProof.Rows L2 Hx LamX
theorem FunC.of {K : PySem.W.Frag} {x qual : Str} {st : Stmt} {f : Addr} {fd : FuncData} (F : Fun K x qual st f fd) : FunC K x qual st f fd (codeR K f) := by
  obtain ⟨oc, od, kV, doc, pm, an, cdv, ct, osl, rfl, lk, hcd⟩ := F.ex
  obtain ⟨c, rfl⟩ := He.codeIn_ref hcd
  rw [codeR_eq lk rfl]
  exact ⟨⟨oc, od, kV, doc, pm, an, ct, osl, rfl, lk, hcd⟩, F.kp⟩
section
variable {P : Program} {w : World} {K : PySem.W.Frag} {h : Heap} {mg : Str → Option Value} {base : Heap} {fa : Addr}
theorem cauF (e : exX K = true) {x : Str} (hx : x ∈ errcX) : XfC K (He.ga K x) ∧ ∀ y ∈ errcX, PySem.W.exmOne K (.ref (He.ga K x)) (.ref (He.ga K y)) = some (decide (x = y)) := by
  have h1 := List.all_eq_true.mp (Bool.and_eq_true_iff.mp (exX_7 e)).1 x hx
  obtain ⟨a1, a2⟩ := Bool.and_eq_true_iff.mp h1
  exact ⟨xfB_ok a1, fun y hy => of_decide_eq_true (List.all_eq_true.mp a2 y hy)⟩
abbrev errsK (K : PySem.W.Frag) : List (Str × Addr) := errs (He.ga K "InvalidName") (He.ga K "InvalidSign") (He.ga K "InvalidWord")
theorem excX (X : K.In h) (G : h.Ns mainGlobals mg) (e : exX K = true) : ExcX K mg (errsK K) := by
  have all : ∀ (Pr : Str × Addr → Prop), (∀ x ∈ errcX, Pr (x, He.ga K x)) → ∀ p ∈ errsK K, Pr p := fun Pr a p hp => by
    rcases List.mem_cons.mp hp with rfl | hp
    · exact a "InvalidName" (by decide +kernel)
    rcases List.mem_cons.mp hp with rfl | hp
    · exact a "InvalidSign" (by decide +kernel)
    rw [List.mem_singleton.mp hp]
    exact a "InvalidWord" (by decide +kernel)
  have inn : ∀ x ∈ errcX, x ∈ errsX := by decide +kernel
  exact ⟨all _ fun x hx => (cauF e hx).1, all _ fun x hx => (errF e (inn x hx)).no, all _ fun x hx => He.glo_ok X G (errF e (inn x hx)).g,
    all _ fun x hx => all _ fun y hy => (cauF e hx).2 y hy, all _ fun x hx => (by decide +kernel : ∀ x ∈ errcX, (x == ("__debug__" : Str)) = false) x hx⟩
theorem bookX (e : exX K = true) : (He.Fa.glo "Book").ok K = true ∧ BookC K (He.ga K "Book") ∧ Mk K (He.ga K "Book") (He.ma K (He.ga K "Book") "__init__") ∧ PropOf K (He.ga K "Book") "signs" (He.ma K (He.ga K "Book") "signs") (pG "Book" "signs" K) := by
  have h1 := (Bool.and_eq_true_iff.mp (Bool.and_eq_true_iff.mp (exX_7 e)).2).1
  unfold exBook at h1
  obtain ⟨a1, h1⟩ := Bool.and_eq_true_iff.mp h1
  obtain ⟨a2, h1⟩ := Bool.and_eq_true_iff.mp h1
  obtain ⟨a3, h1⟩ := Bool.and_eq_true_iff.mp h1
  obtain ⟨a4, a5⟩ := Bool.and_eq_true_iff.mp h1
  exact ⟨a1, ⟨He.cls_ok a2, fun f hf => He.noat_ok (List.all_eq_true.mp a4 f hf)⟩, He.mkr_ok a3, pB_ok a5⟩
theorem consts7X (X : K.In h) (G : h.Ns mainGlobals mg) (e : exX K = true) : Consts7 mg := by
  have h1 := (Bool.and_eq_true_iff.mp (Bool.and_eq_true_iff.mp (exX_7 e)).2).2
  unfold exC7 at h1
  obtain ⟨a1, h1⟩ := Bool.and_eq_true_iff.mp h1
  obtain ⟨a2, h1⟩ := Bool.and_eq_true_iff.mp h1
  obtain ⟨a3, a4⟩ := Bool.and_eq_true_iff.mp h1
  exact ⟨He.int_ok X G a1, He.int_ok X G a2, He.int_ok X G a3, He.int_ok X G a4⟩
theorem defsX (X : K.In h) (G : h.Ns mainGlobals mg) (c : SaysZ exX dsX K) (hm : Mods base) (TB : TabB base mg (cAt "_law_right" K) (tAt "_law_right" K)) :
    Defs P w K mg base (He.ga K "Facts") (He.ga K "Expression") (He.ga K "Sign") (He.ga K "Name") (He.ga K "Turn") (He.ga K "Book") (He.ga K "InvalidExpression") (He.ga K "InvalidName") (He.ga K "InvalidSign") (He.ga K "InvalidWord") (clsX K) (cAt "_law_right" K) (tAt "_law_right" K) := by
  have e := c.ex
  have Z : Bltn mg := ⟨m_free X G e "isinstance", m_free X G e "int", m_free X G e "bool", m_free X G e "str", m_free X G e "len", m_free X G e "all"⟩
  have Z2 : Bltn2 mg := ⟨m_free X G e "list", m_free X G e "set", m_free X G e "sorted", m_free X G e "tuple", m_free X G e "sum"⟩
  have CO := constsX X G e
  have C7 := consts7X X G e
  have KL := klsX (P := P) (w := w) (base := base) c Z.str
  have OW := ownX e
  have ix := ixX e
  obtain ⟨gF, FC, MF⟩ := clsF_facts e
  obtain ⟨gB, BC, MB, PB⟩ := bookX e
  obtain ⟨d_is_integer, F_is_integer⟩ := c.def_ 0 (d := ⟨gA "is_integer", "is_integer", "is_integer", s_is_integer⟩) rfl
  have b_is_integer := F_is_integer.binds (ps := ["value"]) fun _ _ _ _ _ _ us hl => match us, hl with | [_], _ => rfl
  obtain ⟨d_is_within, F_is_within⟩ := c.def_ 1 (d := ⟨gA "is_within", "is_within", "is_within", s_is_within⟩) rfl
  have b_is_within := F_is_within.binds (ps := ["value", "least", "most"]) fun _ _ _ _ _ _ us hl => match us, hl with | [_, _, _], _ => rfl
  obtain ⟨d_is_lettered, F_is_lettered⟩ := c.def_ 2 (d := ⟨gA "is_lettered", "is_lettered", "is_lettered", s_is_lettered⟩) rfl
  have b_is_lettered := F_is_lettered.binds (ps := ["value", "most"]) fun _ _ _ _ _ _ us hl => match us, hl with | [_, _], _ => rfl
  obtain ⟨d_is_name, F_is_name⟩ := c.def_ 3 (d := ⟨gA "is_name", "is_name", "is_name", s_is_name⟩) rfl
  have b_is_name := F_is_name.binds (ps := ["value"]) fun _ _ _ _ _ _ us hl => match us, hl with | [_], _ => rfl
  obtain ⟨d_check_within, F_check_within⟩ := c.def_ 4 (d := ⟨gA "check_within", "check_within", "check_within", s_check_within⟩) rfl
  have b_check_within := F_check_within.binds (ps := ["given", "least", "most"]) fun _ _ _ _ _ _ us hl => match us, hl with | [_, _, _], _ => rfl
  obtain ⟨d_check_sign, F_check_sign⟩ := c.def_ 5 (d := ⟨gA "check_sign", "check_sign", "check_sign", s_check_sign⟩) rfl
  have b_check_sign := F_check_sign.binds (ps := ["given"]) fun _ _ _ _ _ _ us hl => match us, hl with | [_], _ => rfl
  obtain ⟨d_check_name, F_check_name⟩ := c.def_ 6 (d := ⟨gA "check_name", "check_name", "check_name", s_check_name⟩) rfl
  have b_check_name := F_check_name.binds (ps := ["given"]) fun _ _ _ _ _ _ us hl => match us, hl with | [_], _ => rfl
  obtain ⟨d_check_word, F_check_word⟩ := c.def_ 7 (d := ⟨gA "check_word", "check_word", "check_word", s_check_word⟩) rfl
  have b_check_word := F_check_word.binds (ps := ["given"]) fun _ _ _ _ _ _ us hl => match us, hl with | [_], _ => rfl
  obtain ⟨d_spelled, F_spelled⟩ := c.def_ 8 (d := ⟨gA "spelled", "spelled", "spelled", s_spelled⟩) rfl
  have b_spelled := F_spelled.binds (ps := ["kind", "told", "inner"]) fun _ _ _ _ _ _ us hl => match us, hl with | [_, _, _], _ => rfl
  obtain ⟨d_check_expressions, F_check_expressions⟩ := c.def_ 9 (d := ⟨gA "check_expressions", "check_expressions", "check_expressions", s_check_expressions⟩) rfl
  have b_check_expressions := F_check_expressions.binds (ps := ["values"]) fun _ _ _ _ _ _ us hl => match us, hl with | [_], _ => rfl
  obtain ⟨d_knots_of, F_knots_of⟩ := c.def_ 10 (d := ⟨gA "knots_of", "knots_of", "knots_of", s_knots_of⟩) rfl
  have b_knots_of := F_knots_of.binds (ps := ["expression"]) fun _ _ _ _ _ _ us hl => match us, hl with | [_], _ => rfl
  obtain ⟨d_first_unknown, F_first_unknown⟩ := c.def_ 11 (d := ⟨gA "first_unknown", "first_unknown", "first_unknown", s_first_unknown⟩) rfl
  have b_first_unknown := F_first_unknown.binds (ps := ["expression", "names"]) fun _ _ _ _ _ _ us hl => match us, hl with | [_, _], _ => rfl
  obtain ⟨d_knot_fits, F_knot_fits⟩ := c.def_ 12 (d := ⟨gA "knot_fits", "knot_fits", "knot_fits", s_knot_fits⟩) rfl
  have b_knot_fits := F_knot_fits.binds (ps := ["knot", "base", "signs"]) fun _ _ _ _ _ _ us hl => match us, hl with | [_, _, _], _ => rfl
  obtain ⟨d_fits, F_fits⟩ := c.def_ 13 (d := ⟨gA "fits", "fits", "fits", s_fits⟩) rfl
  have b_fits := F_fits.binds (ps := ["expression", "base", "signs"]) fun _ _ _ _ _ _ us hl => match us, hl with | [_, _, _], _ => rfl
  obtain ⟨d_paths_of, F_paths_of⟩ := c.def_ 14 (d := ⟨gA "paths_of", "paths_of", "paths_of", s_paths_of⟩) rfl
  have b_paths_of := F_paths_of.binds (ps := ["expression"]) fun _ _ _ _ _ _ us hl => match us, hl with | [_], _ => rfl
  obtain ⟨d_uses_of, F_uses_of⟩ := c.def_ 15 (d := ⟨gA "uses_of", "uses_of", "uses_of", s_uses_of⟩) rfl
  have b_uses_of := F_uses_of.binds (ps := ["expression", "names"]) fun _ _ _ _ _ _ us hl => match us, hl with | [_, _], _ => rfl
  obtain ⟨d_uses_by_row, F_uses_by_row⟩ := c.def_ 16 (d := ⟨gA "uses_by_row", "uses_by_row", "uses_by_row", s_uses_by_row⟩) rfl
  have b_uses_by_row := F_uses_by_row.binds (ps := ["rows"]) fun _ _ _ _ _ _ us hl => match us, hl with | [_], _ => rfl
  obtain ⟨d_reached_from, F_reached_from⟩ := c.def_ 17 (d := ⟨gA "reached_from", "reached_from", "reached_from", s_reached_from⟩) rfl
  have b_reached_from := F_reached_from.binds (ps := ["name", "followers"]) fun _ _ _ _ _ _ us hl => match us, hl with | [_, _], _ => rfl
  obtain ⟨d_first_open_ring, F_first_open_ring⟩ := c.def_ 18 (d := ⟨gA "first_open_ring", "first_open_ring", "first_open_ring", s_first_open_ring⟩) rfl
  have b_first_open_ring := F_first_open_ring.binds (ps := ["uses"]) fun _ _ _ _ _ _ us hl => match us, hl with | [_], _ => rfl
  obtain ⟨d_is_in_part_ring, F_is_in_part_ring⟩ := c.def_ 19 (d := ⟨gA "is_in_part_ring", "is_in_part_ring", "is_in_part_ring", s_is_in_part_ring⟩) rfl
  have b_is_in_part_ring := F_is_in_part_ring.binds (ps := ["name", "uses", "reached"]) fun _ _ _ _ _ _ us hl => match us, hl with | [_, _, _], _ => rfl
  obtain ⟨d_first_part_ring, F_first_part_ring⟩ := c.def_ 20 (d := ⟨gA "first_part_ring", "first_part_ring", "first_part_ring", s_first_part_ring⟩) rfl
  have b_first_part_ring := F_first_part_ring.binds (ps := ["uses"]) fun _ _ _ _ _ _ us hl => match us, hl with | [_], _ => rfl
  obtain ⟨d_parts_inside, F_parts_inside⟩ := c.def_ 21 (d := ⟨gA "parts_inside", "parts_inside", "parts_inside", s_parts_inside⟩) rfl
  have b_parts_inside := F_parts_inside.binds (ps := ["expression"]) fun _ _ _ _ _ _ us hl => match us, hl with | [_], _ => rfl
  obtain ⟨d_most_parts, F_most_parts⟩ := c.def_ 22 (d := ⟨gA "most_parts", "most_parts", "most_parts", s_most_parts⟩) rfl
  have b_most_parts := F_most_parts.binds (ps := ["rows", "uses"]) fun _ _ _ _ _ _ us hl => match us, hl with | [_, _], _ => rfl
  obtain ⟨d_check_signs, F_check_signs⟩ := c.def_ 23 (d := ⟨gA "check_signs", "check_signs", "check_signs", s_check_signs⟩) rfl
  have b_check_signs := F_check_signs.binds (ps := ["given"]) fun _ _ _ _ _ _ us hl => match us, hl with | [_], _ => rfl
  obtain ⟨d_check_handed_names, F_check_handed_names⟩ := c.def_ 24 (d := ⟨gA "check_handed_names", "check_handed_names", "check_handed_names", s_check_handed_names⟩) rfl
  have b_check_handed_names := F_check_handed_names.binds (ps := ["given"]) fun _ _ _ _ _ _ us hl => match us, hl with | [_], _ => rfl
  obtain ⟨d_is_pair, F_is_pair⟩ := c.def_ 25 (d := ⟨gA "is_pair", "is_pair", "is_pair", s_is_pair⟩) rfl
  have b_is_pair := F_is_pair.binds (ps := ["value"]) fun _ _ _ _ _ _ us hl => match us, hl with | [_], _ => rfl
  obtain ⟨d_check_pairs, F_check_pairs⟩ := c.def_ 26 (d := ⟨gA "check_pairs", "check_pairs", "check_pairs", s_check_pairs⟩) rfl
  have b_check_pairs := F_check_pairs.binds (ps := ["given", "handed"]) fun _ _ _ _ _ _ us hl => match us, hl with | [_, _], _ => rfl
  obtain ⟨d_check_rules, F_check_rules⟩ := c.def_ 27 (d := ⟨gA "check_rules", "check_rules", "check_rules", s_check_rules⟩) rfl
  have b_check_rules := F_check_rules.binds (ps := ["base", "signs", "handed", "rows"]) fun _ _ _ _ _ _ us hl => match us, hl with | [_, _, _, _], _ => rfl
  obtain ⟨d_spelled_book, F_spelled_book⟩ := c.def_ 28 (d := ⟨gA "spelled_book", "spelled_book", "spelled_book", s_spelled_book⟩) rfl
  have b_spelled_book := F_spelled_book.binds (ps := ["base", "signs", "handed", "rows"]) fun _ _ _ _ _ _ us hl => match us, hl with | [_, _, _, _], _ => rfl
  obtain ⟨d_Facts, F_Facts⟩ := c.def_ 41 (d := ⟨mA "Facts" "__init__", "__init__", "Facts.__init__", s_Facts_init⟩) rfl
  have b_Facts := F_Facts.binds (ps := ["self", "kind", "told", "inner"]) fun _ _ _ _ _ _ us hl => match us, hl with | [_, _, _, _], _ => rfl
  obtain ⟨d_Name, F_Name⟩ := c.def_ 42 (d := ⟨mA "Name" "__init__", "__init__", "Name.__init__", s_Name_init⟩) rfl
  have b_Name := F_Name.binds (ps := ["self", "name"]) fun _ _ _ _ _ _ us hl => match us, hl with | [_, _], _ => rfl
  obtain ⟨d_Sign, F_Sign⟩ := c.def_ 43 (d := ⟨mA "Sign" "__init__", "__init__", "Sign.__init__", s_Sign_init⟩) rfl
  have b_Sign := F_Sign.binds (ps := ["self", "sign"]) fun _ _ _ _ _ _ us hl => match us, hl with | [_, _], _ => rfl
  obtain ⟨d_Turn, F_Turn⟩ := c.def_ 44 (d := ⟨mA "Turn" "__init__", "__init__", "Turn.__init__", s_Turn_init⟩) rfl
  have b_Turn := F_Turn.binds (ps := ["self", "word", "inner"]) fun _ _ _ _ _ _ us hl => match us, hl with | [_, _, _], _ => rfl
  obtain ⟨d_Book, F_Book⟩ := c.def_ 45 (d := ⟨mA "Book" "__init__", "__init__", "Book.__init__", s_Book_init⟩) rfl
  have b_Book := F_Book.binds (ps := ["self", "base", "signs", "handed", "rows"]) fun _ _ _ _ _ _ us hl => match us, hl with | [_, _, _, _, _], _ => rfl
  obtain ⟨d_signs, F_signs⟩ := c.def_ 64 (d := ⟨pG "Book" "signs", "signs", "Book.signs", s_Book_signs⟩) rfl
  have b_signs := F_signs.binds (ps := ["self"]) fun _ _ _ _ _ _ us hl => match us, hl with | [_], _ => rfl
  obtain ⟨d__law_caught, F__law_caught⟩ := c.def_ 32 (d := ⟨gA "_law_caught", "_law_caught", "_law_caught", s_law_caught⟩) rfl
  have b__law_caught := F__law_caught.binds (ps := ["_law_act"]) fun _ _ _ _ _ _ us hl => match us, hl with | [_], _ => rfl
  have G_is_integer := ok_isint (P := P) (w := w) (mg := mg) (base := base) F_is_integer Z
  have G_is_within := ok_within (P := P) (w := w) (mg := mg) (base := base) F_is_within G_is_integer b_is_integer F_is_integer.kp (m_glo X G e "is_integer")
  have G_is_lettered := ok_lettered (P := P) (w := w) (mg := mg) (base := base) F_is_lettered Z CO
  have G_is_name := ok_name (P := P) (w := w) (mg := mg) (base := base) F_is_name CO G_is_lettered b_is_lettered F_is_lettered.kp (m_glo X G e "is_lettered")
  have G_check_within := ok_ckW (P := P) (w := w) (mg := mg) (base := base) F_check_within (mk_InvalidNumber (base := base) X G c) (errF e (x := "InvalidNumber") (by decide +kernel)).ty G_is_within b_is_within F_is_within.kp (m_glo X G e "is_within")
  have G_check_sign := ok_check_sign (P := P) (w := w) (mg := mg) (base := base) F_check_sign (mk_InvalidSign (base := base) X G c) (errF e (x := "InvalidSign") (by decide +kernel)).ty G_is_lettered b_is_lettered F_is_lettered.kp (m_glo X G e "is_lettered")
  have G_check_name := ok_check_name (P := P) (w := w) (mg := mg) (base := base) F_check_name (mk_InvalidName (base := base) X G c) (errF e (x := "InvalidName") (by decide +kernel)).ty G_is_name b_is_name F_is_name.kp (m_glo X G e "is_name")
  have G_check_word := ok_check_word (P := P) (w := w) (mg := mg) (base := base) F_check_word (mk_InvalidWord (base := base) X G c) (errF e (x := "InvalidWord") (by decide +kernel)).ty CO G_is_lettered b_is_lettered F_is_lettered.kp (m_glo X G e "is_lettered")
  have G_check_expressions := ok_ckE (P := P) (w := w) (mg := mg) (base := base) F_check_expressions Z (mk_InvalidExpression (base := base) X G c) (errF e (x := "InvalidExpression") (by decide +kernel)).ty (m_glo X G e "Expression")
  have G_spelled := ok_spelled (P := P) (w := w) (mg := mg) (base := base) F_spelled Z KL
  have G_Facts := ok_facts (P := P) (w := w) (mg := mg) (base := base) F_Facts Z2 KL FC G_spelled b_spelled F_spelled.kp (m_glo X G e "spelled")
  have FO : FactsOk P w K mg base (He.ga K "Facts") (clsX K) := ⟨He.glo_ok X G gF, _, _, MF, G_Facts, b_Facts⟩
  have zm := m_free X G e "max"
  have zt := m_free X G e "tuple"
  have ze := m_free X G e "enumerate"
  have G_knots_of := ok_knots (P := P) (w := w) (mg := mg) (base := base) F_knots_of KL
  have G_first_unknown := ok_unk (P := P) (w := w) (mg := mg) (base := base) F_first_unknown KL G_knots_of b_knots_of F_knots_of.kp (m_glo X G e "knots_of")
  have G_knot_fits := ok_kf (P := P) (w := w) (mg := mg) (base := base) F_knot_fits KL
  have G_fits := ok_fits (P := P) (w := w) (mg := mg) (base := base) F_fits Z.all G_knots_of b_knots_of F_knots_of.kp (m_glo X G e "knots_of") G_knot_fits b_knot_fits F_knot_fits.kp (m_glo X G e "knot_fits")
  have G_paths_of := ok_paths (P := P) (w := w) (mg := mg) (base := base) F_paths_of KL
  have G_uses_of := ok_uses (P := P) (w := w) (mg := mg) (base := base) F_uses_of KL G_paths_of b_paths_of F_paths_of.kp (m_glo X G e "paths_of")
  have G_uses_by_row := ok_byrow (P := P) (w := w) (mg := mg) (base := base) F_uses_by_row G_uses_of b_uses_of F_uses_of.kp (m_glo X G e "uses_of")
  have G_reached_from := ok_reach (P := P) (w := w) (mg := mg) (base := base) F_reached_from
  have G_first_open_ring := ok_open (P := P) (w := w) (mg := mg) (base := base) F_first_open_ring G_reached_from b_reached_from F_reached_from.kp (m_glo X G e "reached_from")
  have G_is_in_part_ring := ok_inpart (P := P) (w := w) (mg := mg) (base := base) F_is_in_part_ring
  have G_first_part_ring := ok_partring (P := P) (w := w) (mg := mg) (base := base) F_first_part_ring G_reached_from b_reached_from F_reached_from.kp (m_glo X G e "reached_from") G_is_in_part_ring b_is_in_part_ring F_is_in_part_ring.kp (m_glo X G e "is_in_part_ring")
  have G_parts_inside := ok_inside (P := P) (w := w) (mg := mg) (base := base) F_parts_inside KL zm G_paths_of b_paths_of F_paths_of.kp (m_glo X G e "paths_of")
  have G_most_parts := ok_most (P := P) (w := w) (mg := mg) (base := base) F_most_parts zm (m_free X G e "range") Z.len Z2.list G_parts_inside b_parts_inside F_parts_inside.kp (m_glo X G e "parts_inside")
  have RO : RulesOk P w K mg base (He.ga K "Facts") (clsX K) := ⟨⟨_, _, G_first_unknown, b_first_unknown, F_first_unknown.kp, (m_glo X G e "first_unknown")⟩, ⟨_, _, G_fits, b_fits, F_fits.kp, (m_glo X G e "fits")⟩, ⟨_, _, G_uses_by_row, b_uses_by_row, F_uses_by_row.kp, (m_glo X G e "uses_by_row")⟩, ⟨_, _, G_first_open_ring, b_first_open_ring, F_first_open_ring.kp, (m_glo X G e "first_open_ring")⟩, ⟨_, _, G_first_part_ring, b_first_part_ring, F_first_part_ring.kp, (m_glo X G e "first_part_ring")⟩, ⟨_, _, G_most_parts, b_most_parts, F_most_parts.kp, (m_glo X G e "most_parts")⟩⟩
  have G_check_signs := ok_check_signs (P := P) (w := w) (mg := mg) (base := base) F_check_signs (mk_InvalidWord (base := base) X G c) (errF e (x := "InvalidWord") (by decide +kernel)).ty CO Z Z2.set G_is_lettered b_is_lettered F_is_lettered.kp (m_glo X G e "is_lettered")
  have G_check_handed_names := ok_hnd (P := P) (w := w) (mg := mg) (base := base) F_check_handed_names C7 Z zt ze G_is_name b_is_name F_is_name.kp (m_glo X G e "is_name")
  have G_is_pair := ok_ispair (P := P) (w := w) (mg := mg) (base := base) (CF := He.ga K "Facts") F_is_pair ix (m_glo X G e "Expression") Z zt G_is_name b_is_name F_is_name.kp (m_glo X G e "is_name")
  have G_check_pairs := ok_pairs (P := P) (w := w) (mg := mg) (base := base) F_check_pairs C7 Z zt Z2.list ze G_is_pair b_is_pair F_is_pair.kp (m_glo X G e "is_pair")
  have G_check_rules := ok_rules (P := P) (w := w) (mg := mg) (base := base) F_check_rules KL C7 RO
  have G_spelled_book := ok_spelledB (P := P) (w := w) (mg := mg) (base := base) F_spelled_book KL Z.str
  have G_Book := ok_book (P := P) (w := w) (mg := mg) (base := base) F_Book BC CO G_check_within b_check_within F_check_within.kp (m_glo X G e "check_within") G_check_signs b_check_signs F_check_signs.kp (m_glo X G e "check_signs") G_check_handed_names b_check_handed_names F_check_handed_names.kp (m_glo X G e "check_handed_names") G_check_pairs b_check_pairs F_check_pairs.kp (m_glo X G e "check_pairs") G_check_rules b_check_rules F_check_rules.kp (m_glo X G e "check_rules") G_spelled_book b_spelled_book F_spelled_book.kp (m_glo X G e "spelled_book")
  exact
    { kl := KL
      own := ⟨⟨"Sign", by decide +kernel, rfl⟩, ⟨"Name", by decide +kernel, rfl⟩, ⟨"Turn", by decide +kernel, rfl⟩⟩
      sign := ⟨He.glo_ok X G (clsF e (x := "Sign") (by decide +kernel)).g, _, _, (clsF e (x := "Sign") (by decide +kernel)).mkr, ok_sign F_Sign FO OW G_check_sign b_check_sign F_check_sign.kp (m_glo X G e "check_sign"), b_Sign⟩
      name := ⟨He.glo_ok X G (clsF e (x := "Name") (by decide +kernel)).g, _, _, (clsF e (x := "Name") (by decide +kernel)).mkr, ok_nameE F_Name FO OW G_check_name b_check_name F_check_name.kp (m_glo X G e "check_name"), b_Name⟩
      turn := ⟨He.glo_ok X G (clsF e (x := "Turn") (by decide +kernel)).g, _, _, (clsF e (x := "Turn") (by decide +kernel)).mkr, ok_turn F_Turn FO OW ix G_check_word b_check_word F_check_word.kp (m_glo X G e "check_word") G_check_expressions b_check_expressions F_check_expressions.kp (m_glo X G e "check_expressions"), b_Turn⟩
      book := ⟨He.glo_ok X G gB, _, _, MB, G_Book, b_Book⟩
      letters := ⟨BC.cls, _, _, d_signs, PB, ok_signsB (P := P) (w := w) (mg := mg) (base := base) F_signs BC, b_signs⟩
      caught := ⟨_, _, F__law_caught, b__law_caught, (m_glo X G e "_law_caught")⟩
      exc := excX X G e
      tab := TB
      mods := hm
      repr := m_free X G e "repr" }
theorem lawX (X : K.In h) (G : h.Ns mainGlobals mg) (c : SaysZ exX dsX K) (hfa : mg ("law" : Str) = some (.ref fa)) :
    ∃ fd : FuncData, (∀ (s : Shared) (u : Value), BindsTo s fd ⟨[u], []⟩ [("_law_cells", u)]) ∧ ∀ base : Heap, K.In base → base.Ns mainGlobals mg → Mods base → (∀ x ∈ mksX, TabB base mg (cAt x K) (tAt x K)) →
      GOk P w K mg base CX0 12 fa fd ["_law_cells"] (spLaw K (tAt "_law_right" K)) := by
  have e := c.ex
  cases (hfa.symm.trans (m_glo X G e "law"))
  have Z : Bltn mg := ⟨m_free X G e "isinstance", m_free X G e "int", m_free X G e "bool", m_free X G e "str", m_free X G e "len", m_free X G e "all"⟩
  have Z4 : Bltn4 mg := ⟨m_free X G e "range", m_free X G e "max", m_free X G e "min", m_free X G e "len", m_free X G e "all"⟩
  obtain ⟨d__law_deck, F__law_deck⟩ := c.def_ 29 (d := ⟨gA "_law_deck", "_law_deck", "_law_deck", s_law_deck⟩) rfl
  have b__law_deck := F__law_deck.binds (ps := ["_law_cells", "_law_turn"]) fun _ _ _ _ _ _ us hl => match us, hl with | [_, _], _ => rfl
  obtain ⟨d__law_card, F__law_card⟩ := c.def_ 30 (d := ⟨gA "_law_card", "_law_card", "_law_card", s_law_card⟩) rfl
  have b__law_card := F__law_card.binds (ps := ["_law_deck_here", "_law_top"]) fun _ _ _ _ _ _ us hl => match us, hl with | [_, _], _ => rfl
  obtain ⟨d__law_of, F__law_of⟩ := c.def_ 31 (d := ⟨gA "_law_of", "_law_of", "_law_of", s_law_of⟩) rfl
  have b__law_of := F__law_of.binds (ps := ["_law_deck_here", "_law_menu"]) fun _ _ _ _ _ _ us hl => match us, hl with | [_, _], _ => rfl
  obtain ⟨d__law_caught, F__law_caught⟩ := c.def_ 32 (d := ⟨gA "_law_caught", "_law_caught", "_law_caught", s_law_caught⟩) rfl
  have b__law_caught := F__law_caught.binds (ps := ["_law_act"]) fun _ _ _ _ _ _ us hl => match us, hl with | [_], _ => rfl
  obtain ⟨d__law_near_name, F__law_near_name⟩ := c.def_ 33 (d := ⟨gA "_law_near_name", "_law_near_name", "_law_near_name", s_law_near_name⟩) rfl
  have b__law_near_name := F__law_near_name.binds (ps := ["_law_deck_here"]) fun _ _ _ _ _ _ us hl => match us, hl with | [_], _ => rfl
  obtain ⟨d__law_right, F__law_right⟩ := c.def_ 34 (d := ⟨gA "_law_right", "_law_right", "_law_right", s_law_right⟩) rfl
  have b__law_right := F__law_right.binds (ps := ["_law_deck_here"]) fun _ _ _ _ _ _ us hl => match us, hl with | [_], _ => rfl
  obtain ⟨d_law, F_law⟩ := c.def_ 35 (d := ⟨gA "law", "law", "law", s_law⟩) rfl
  refine ⟨d_law, ?_, fun base KB GB hm TB => ?_⟩
  · obtain ⟨oc, od, kV, doc, pm, an, cdv, ct, osl, rfl, lk, hcd⟩ := F_law.ex
    exact fun s u => .of_eq rfl
  have D := defsX (P := P) (w := w) (base := base) X G c hm (TB "_law_right" (by decide +kernel))
  have zr := m_free X G e "range"
  have G__law_deck := ok_deck (P := P) (w := w) (mg := mg) (base := base) F__law_deck Z.len Z.int (m_free X G e "abs")
  have G__law_card := ok_card (P := P) (w := w) (mg := mg) (base := base) F__law_card Z.int (m_free X G e "divmod")
  have G__law_of := ok_of (P := P) (w := w) (mg := mg) (base := base) F__law_of G__law_card b__law_card F__law_card.kp (m_glo X G e "_law_card") Z.len
  have GS := ok_ofS (P := P) (w := w) (mg := mg) (base := base) F__law_of G__law_card b__law_card F__law_card.kp (m_glo X G e "_law_card") Z.len
  have G__law_near_name := ok_near (P := P) (w := w) (mg := mg) (base := base) F__law_near_name zr Z.len G__law_card b__law_card F__law_card.kp (m_glo X G e "_law_card") G__law_of GS b__law_of F__law_of.kp (m_glo X G e "_law_of")
  have G__law_right := ok_right (P := P) (w := w) (mg := mg) (base := base) D (FunC.of F__law_right) Z (m_free X G e "set") G__law_near_name b__law_near_name F__law_near_name.kp (m_glo X G e "_law_near_name")
  exact ok_law (P := P) (w := w) (mg := mg) (base := base) F_law Z4 G__law_deck b__law_deck F__law_deck.kp (m_glo X G e "_law_deck") G__law_right b__law_right F__law_right.kp (m_glo X G e "_law_right")
end
end Wp

open PySem PySem.W PySem.Calls PyProof.Rows in
set_option maxHeartbeats 0 in
theorem PySem.Challenge.cw_wovenplaces_k07_names_signs_and_words_holds : PySem.Challenge.rw_wovenplaces_k07_names_signs_and_words.Holds := by
  w_on; o_law
  refine HandSHeadRun.head_any (r := OpenLaw.row PySem.Challenge.rw_wovenplaces_k07_names_signs_and_words) (q := view (OpenLaw.row PySem.Challenge.rw_wovenplaces_k07_names_signs_and_words).prog [101]) (H := Wp.hkX) (ob := Wp.obX) (M := 20000) (loose := Wp.namesX)
    (d := HandSHeadRun.topDef (OpenLaw.row PySem.Challenge.rw_wovenplaces_k07_names_signs_and_words).prog 101) (kwd := []) Wp.obX_eq
    (by kernel_rfl) (fun s => by kernel_rfl) Wp.runX (by kernel_rfl) (by kernel_rfl) (by kernel_rfl) (by rfl) (by first | assumption | decide +kernel) (by decide +kernel) ⟨rfl, rfl, rfl, rfl, rfl, by decide +kernel⟩ ?hw ?hc
  case hw => w_witness2
  case hc =>
    refine Hx.walk_GT (l := PySem.Challenge.rw_wovenplaces_k07_names_signs_and_words) (n := 63) (k := 12) (x := "_law_cells") rfl (by decide) (by kernel_rfl) ⟨rfl, by decide, by decide⟩ (by kernel_rfl) ?F
    intro w mg fa h Y G hmg0
    obtain ⟨K, KX, c, t⟩ := Y
    have hmg : mg ("law" : PySem.Str) = some (.ref fa) := by
      have e : (HandSHeadRun.topDef (OpenLaw.row PySem.Challenge.rw_wovenplaces_k07_names_signs_and_words).prog 101).name = ("law" : PySem.Str) := by kernel_rfl
      rw [← e]
      exact hmg0
    obtain ⟨fd, hb, hF⟩ := Wp.lawX (P := (PySem.Challenge.rw_wovenplaces_k07_names_signs_and_words).prog) (w := w) KX G c hmg
    have one : ∀ (Pr : Addr × Addr → Prop), (∀ x ∈ Wp.mksX, Pr (Wp.cAt x K, Wp.tAt x K)) → ∀ p ∈ Wp.mksX.map fun x => (Wp.cAt x K, Wp.tAt x K), Pr p := fun Pr q p hp => by
      obtain ⟨x, hx, rfl⟩ := List.mem_map.mp hp
      exact q x hx
    refine ⟨K, Wp.mksX.map fun x => (Wp.cAt x K, Wp.tAt x K), fd, Wp.spLaw K (Wp.tAt "_law_right" K), KX, one _ fun x hx => (t x hx).tab, one _ fun x hx => (t x hx).out, one _ fun x hx => codeHd_of_K KX (t x hx).code, hb, fun H a ns hl hT hS => ⟨a, ns, rfl, hS, hl, ?_, fun _ => rfl⟩,
      fun base KB GB hm hT => hF base KB GB hm fun x hx => hT _ (List.mem_map.mpr ⟨x, hx, rfl⟩)⟩
    intro p hp
    rw [List.mem_singleton.mp hp]
    exact LamX.TabS.nil (hT _ (List.mem_map.mpr ⟨"_law_right", by decide +kernel, rfl⟩))

import PyProof.Rows.All
import Wide.All
import OpenK.AllK
import Wide.FinOn
import PyProof.EqAt
import PyProof.EqKinds
import PyProof.TupleCall
import PyProof.ReprRoads
import HandS.Base
import HandS.Call
import HandS.List
import HandS.Comp
import HandS.Ends
import HandS.Dict
import HandS.Iter
import HandS.Words
import HandS.WordsList
import KE.KExcInit
import HandS.Exc
import HandS.ExcInit
import HandS.IsInst
import KE.KExcIs
import HandS.ExcValue
import HandS.ListEq
import HandS.Property
import HandS.RaiseMore
import KE.KCallOwn
import OpenK.KOps
import OpenK.KMeth
import HandS.MakeKwOnly
import HandS.SlotsOwn
import HandS.FStr
import HandS.Text
import PyProof.StrBlock2
import HandS.Walk
import HandS.TryOnly
import HandS.TryMany
import HandS.ExcField
import HandS.Lambda
import HandS.EndTab
import HandS.ExcOwn
import HandS.WordsExc
import KE.DataEq
import HandS.HeadHook4
import KE.KStateDown
import HandS.HeadEnd
import HandS.Head0
import HandS.Head1
import HandS.Head2
import HandS.HeadHook1
import HandS.HeadHook2
import PySem.Challenge.RW_wovenplaces_k26_rounds_are_refused
set_option Elab.async false
set_option linter.all false
set_option maxRecDepth 100000
set_option maxHeartbeats 0
namespace Hx
open PySem PySem.Spec PyProof.Rows L2

/-! a def's promise where no guard (a repr that runs) stands below -/
structure GOk (P : Program) (w : World) (K : PySem.W.Frag) (mg : Str → Option Value) (base : Heap) (CX : CXT) (k : Nat)
    (f : Addr) (fd : FuncData) (ps : List Str) (sp : Sp) : Prop where
  long : ∀ vs H Q E, sp vs H Q E → vs.length = ps.length
  goes : ∀ (A : Around) (outer : List Env) (s : Shared) (H : Hp) (args : Args) (us : List Value) (vs : List V) (Q : VK) (E : XK),
    Room k A → A.guards = some [] → Env0 P w K mg base A outer s H → BindsTo s fd args (ps.zip us) → Vals vs us → sp vs H Q E →
    codeAny (model P w) A (.call (.ref f) args) (CR CX outer P w H s Q E) s

section
variable {P : Program} {w : World} {K : PySem.W.Frag} {mg : Str → Option Value} {base : Heap} {CX : CXT} {k j : Nat}
  {f : Addr} {fd : FuncData} {ps : List Str} {sp : Sp}
theorem GOk.of (F : FnOk P w K mg base CX k f fd ps sp) : GOk P w K mg base CX k f fd ps sp :=
  ⟨F.len, fun A outer s H args us vs Q E room _ => F.run A outer s H args us vs Q E room⟩
theorem GOk.more (F : GOk P w K mg base CX j f fd ps sp) (h : j ≤ k) : GOk P w K mg base CX k f fd ps sp :=
  ⟨F.long, fun A outer s H args us vs Q E room => F.goes A outer s H args us vs Q E (room.mono h)⟩

/-- a def of the text keeps its promise, by its body, no guard below -/
theorem gok {x qual : Str} {st : Stmt} {N : List Str} (F : Fun K x qual st f fd) (S : FnScope N ps (defScope st))
    (long : ∀ vs H Q E, sp vs H Q E → vs.length = ps.length)
    (body : ∀ (cdv : Value) (A : Around) (outer : List Env) (s : Shared) (H : Hp) (vs : List V) (Q : VK) (E : XK),
      Room k (A.deeper (envOfC qual (defScope st) s.heap.objs.size f cdv)) → A.guards = some [] → sp vs H Q E →
      ∃ t, PSs (cxOf CX P w K mg base N qual (defScope st) f cdv A outer s H E) (defBody st) t ∧
        t { nx := fun _ H' => Q .non H', rt := Q } (start N vs) H) :
    GOk P w K mg base CX (k + 1) f fd ps sp := by
  obtain ⟨oc, od, kV, doc, pm, an, cdv, ct, osl, efd, hlook, hcode⟩ := F.ex
  subst efd
  constructor
  · exact long
  · intro A outer s H args us vs Q E room gd e0 hbind rel hsp
    have inK : K.In s.heap := e0.mod.kin.keeps fun b o h => (e0.bs b o h).1
    have noLim : s.heap.NoLimit := e0.mod.nolimit.keeps fun b o h => (e0.bs b o h).1
    refine codeAny_call_function room.depth (inK _ _ hlook) rfl S.co S.gen rfl (PySem.W.codeRec_of inK hcode) (hbind _ _ _ _ ?_)
    refine wpAny_newFunctionEnv_cells S.kind ?kinds fun env henv s1 inside => ?_
    case kinds =>
      rintro ⟨nm, val⟩ hm
      have hp := (List.of_mem_zip hm).1
      cases S.par nm hp with
      | inl hl => exact .inl hl
      | inr hc => exact .inr ⟨hc, PySem.W.cellsFrom_some _ _ _ (.inl hc)⟩
    subst henv
    refine ⟨noLim.keeps inside.toInCall.keep, codeAny_func ?_⟩
    obtain ⟨t, ht, hq⟩ := body cdv A outer s H vs Q E (room.deeper _) gd hsp
    have I0 := inv_start (CX := CX) (E := E) S room.hd e0 (long _ _ _ _ hsp) rel inside
    refine wpAny_mono (ht.run [] s1 (start N vs) H _ I0 hq) ?_ (fun _ _ z => z)
    intro fl s' hfl
    cases fl with
    | ret u =>
      obtain ⟨v, _, H', J, rv, q⟩ := hfl
      exact ⟨v, H', J.os, J.bare, J.base, J.hok, rv, q⟩
    | next =>
      obtain ⟨_, H', J, q⟩ := hfl
      exact ⟨V.non, H', J.os, J.bare, J.base, J.hok, rfl, q⟩
    | brk => exact hfl.elim fun _ z => z.elim fun _ z => z.2.elim
    | cont => exact hfl.elim fun _ z => z.elim fun _ z => z.2.elim
end

section
variable {X : Cx} {CX : CXT} {k : Nat} {f : Addr} {fd : FuncData} {ps : List Str} {sp : Sp} {dvs : List V} {ds : List Value} {E : XK}
theorem run_g {pins : List (Addr × Obj)} {σ : L2.St} {H : Hp} {s : Shared} {Q : VK} {us : List Value} {vs : List V}
    (F : GOk X.prog X.w X.K X.mg X.base CX k f fd ps sp) (room : Room k X.A) (gd : X.A.guards = some []) (hb : Binds X.K fd ps ds)
    (hd : Vals dvs ds) (pass : Passes CX X E) (I : Inv X pins σ H s) (r : Vals vs us) (h : sp (vs ++ dvs) H Q E) :
    wpAny (model X.prog X.w) X.A (call (.ref f) us) (EP X pins σ Q) X.xe s := by
  have rr := r.append hd
  have hlen : (us ++ ds).length = ps.length := rr.length.symm.trans (F.long _ _ _ _ h)
  have go := F.goes X.A X.stack s H ⟨us, []⟩ (us ++ ds) (vs ++ dvs) Q E room gd I.env0 (hb s us I.kIn hlen) rr h
  refine wpAny_call (codeAny_mono go ?_)
  intro r s' hr
  cases r with
  | error e => exact pass pins σ H s e s' I hr
  | ok fl =>
    cases fl with
    | ret u => exact I.after hr
    | next => exact hr.elim
    | brk => exact hr.elim
    | cont => exact hr.elim

theorem pe_callG {x : Str} {p pos : Pos} {e : Expr} {es : List Expr} {t : TA} (F : GOk X.prog X.w X.K X.mg X.base CX k f fd ps sp)
    (room : Room k X.A) (gd : X.A.guards = some []) (hg : Gl X x) (hm : X.mg x = some (.ref f)) (hk : PySem.W.keepIn X.K (.ref f) = true)
    (hb : Binds X.K fd ps ds) (hd : Vals dvs ds) (pass : Passes CX X E) (ha : PA X (e :: es) t)
    (hdb : (x == ("__debug__" : Str)) = false := by decide)
    (he : starEach (e :: es) X.env = (false, eval e X.env) :: starEach es X.env := by rfl)
    (hpl : (backTo pos (starEach es X.env)).any (·.1) = false := by rfl) :
    PE X (.Call (.Name x p) (e :: es) [] pos) (tCall sp dvs E t) := by
  constructor
  intro pins s σ H Q I h
  refine wpAny_Call_Name_kw (ld_glob I hg hm ?_ hdb)
  refine PySem.W.callWith_K (h₀ := X.base) I.ok.mod.kin hk ?_ he hpl
  refine thn (ha.run pos pins s σ H _ I h) ?_
  rintro us s1 ⟨vs, H1, J, r, q⟩
  exact ⟨J.kIn, run_g F room gd hb hd pass J r q⟩
end
end Hx
namespace Hx
open PySem PySem.Spec PyProof.Rows L2
section
variable {P : Program} {w : World} {K : PySem.W.Frag} {mg : Str → Option Value} {base : Heap} {k : Nat}
  {f : Addr} {fd : FuncData} {ps : List Str} {sp : Sp}
/-- the same where no exception leaves the def -/
theorem gok0 {x qual : Str} {st : Stmt} {N : List Str} (F : Fun K x qual st f fd) (S : FnScope N ps (defScope st))
    (long : ∀ vs H Q E, sp vs H Q E → vs.length = ps.length)
    (body : ∀ (cdv : Value) (A : Around) (outer : List Env) (s : Shared) (H : Hp) (vs : List V) (Q : VK) (E : XK),
      Room k (A.deeper (envOfC qual (defScope st) s.heap.objs.size f cdv)) → A.guards = some [] → sp vs H Q E →
      ∃ t, PSs (cxOf CX0 P w K mg base N qual (defScope st) f cdv A outer s H E).nox (defBody st) t ∧
        t { nx := fun _ H' => Q .non H', rt := Q } (start N vs) H) :
    GOk P w K mg base CX0 (k + 1) f fd ps sp :=
  gok F S long fun cdv A outer s H vs Q E room gd hsp => by
    obtain ⟨t, h, q⟩ := body cdv A outer s H vs Q E room gd hsp
    exact ⟨t, h.nox, q⟩
end
/-! joining ways: what is known of a value, for any wish -/
theorem asg_join {te : TE} {g : TG} {D : Ends} {σ : L2.St} {H : Hp} (R : V → Hp → Prop)
    (h : ∀ Q : VK, (∀ v H', R v H' → Q v H') → te σ H Q) (hq : ∀ v H', R v H' → g v σ H' D.nx) : tAsg te g D σ H := h _ hq
theorem te_join {te : TE} {Q : VK} {σ : L2.St} {H : Hp} (R : V → Hp → Prop)
    (h : ∀ Q : VK, (∀ v H', R v H' → Q v H') → te σ H Q) (hq : ∀ v H', R v H' → Q v H') : te σ H Q := h _ hq
theorem seq_set {te : TE} {i : Nat} {u : TS} {D : Ends} {σ : L2.St} {H : Hp} (h : te σ H fun x H1 => u D (σ.set i (some x)) H1) : tSeq (tAsg te (gName i)) u D σ H := h
theorem seq_if_op {r : R2} {ta tb : TE} {t u w : TS} {D : Ends} {σ : L2.St} {H : Hp}
    (h : ta σ H fun x H1 => tb σ H1 fun y H2 => r x y H2 fun z H3 => ∃ k, z = .bl k ∧ if k = true then t { D with nx := w D } σ H3 else u { D with nx := w D } σ H3) :
    tSeq (tIfS (tTest (tOp r ta tb)) t u) w D σ H := h
theorem ret_op {r : R2} {ta tb : TE} {D : Ends} {σ : L2.St} {H : Hp} (h : ta σ H fun x H1 => tb σ H1 fun y H2 => r x y H2 D.rt) : tRet (tOp r ta tb) D σ H := h
theorem next_go {w : Ends → L2.St → Hp → Prop} {D : Ends} {σ : L2.St} {H : Hp} (h : w D σ H) : tNext { D with nx := w D } σ H := h
theorem ret_go {te : TE} {D : Ends} {σ : L2.St} {H : Hp} (h : te σ H D.rt) : tRet te D σ H := h
theorem ret_join {te : TE} {D : Ends} {σ : L2.St} {H : Hp} (R : V → Hp → Prop)
    (h : ∀ Q : VK, (∀ v H', R v H' → Q v H') → te σ H Q) (hq : ∀ v H', R v H' → D.rt v H') : tRet te D σ H := h _ hq
theorem cons_join {te : TE} {tr : TA} {Q : List V → Hp → Prop} {σ : L2.St} {H : Hp} (R : V → Hp → Prop)
    (h : ∀ Q : VK, (∀ v H', R v H' → Q v H') → te σ H Q) (hq : ∀ v H', R v H' → tr σ H' fun xs H2 => Q (v :: xs) H2) : tCons te tr σ H Q := h _ hq
theorem ret_lst_join {te : TE} {tr : TA} {D : Ends} {σ : L2.St} {H : Hp} (R : V → Hp → Prop)
    (h : ∀ Q : VK, (∀ v H', R v H' → Q v H') → te σ H Q)
    (hq : ∀ v H', R v H' → tr σ H' fun xs H2 => (v :: xs).length ≤ sizeLine ∧ ∀ p, H2 p = none → D.rt (.ref p) (upd H2 p (.lst (v :: xs)))) :
    tRet (tLst (tCons te tr)) D σ H := h _ hq
theorem same_new {H : Hp} {p : Addr} (h : H p = none) (o : HO) : Same H (upd H p o) := fun b u q => by
  rw [upd_ne (ne_of_none q h)]
  exact q
theorem upd_other {H : Hp} {p q : Addr} {o u : HO} (h : H q = some u) (n : H p = none) : upd H p o q = some u := by
  rw [upd_ne (ne_of_none h n)]
  exact h
/-- all stands but what is at d -/
def But (d : Addr) (H H' : Hp) : Prop := ∀ b o, b ≠ d → H b = some o → H' b = some o
theorem But.of {d : Addr} {H H' : Hp} (s : Same H H') : But d H H' := fun b o _ h => s b o h
theorem But.refl {d : Addr} {H : Hp} : But d H H := fun _ _ _ h => h
theorem But.trans {d : Addr} {H H1 H2 : Hp} (a : But d H H1) (b : But d H1 H2) : But d H H2 := fun c o n h => b c o n (a c o n h)
theorem But.upd {d : Addr} {H H' : Hp} (a : But d H H') (o : HO) : But d H (L2.upd H' d o) := fun c u n h => by
  rw [upd_ne n]
  exact a c u n h
theorem But.new {d p : Addr} {H H' : Hp} (a : But d H H') (hp : H' p = none) (o : HO) : But d H (L2.upd H' p o) := fun c u n h => by
  have z := a c u n h
  rw [upd_ne (ne_of_none z hp)]
  exact z
theorem But.seq {K : PySem.W.Frag} {d a : Addr} {H H' : Hp} {xs : List V} (e : But d H H') (n : a ≠ d) (h : SqL K H a xs) : SqL K H' a xs := by
  rcases h with (h | ⟨o, h⟩) | h
  · exact .inl (.inl (e _ _ n h))
  · exact .inl (.inr ⟨o, e _ _ n h⟩)
  · exact .inr h
theorem atI_in {α : Type} {xs : List α} {r : Int} (r0 : 0 ≤ r) (r1 : r < (xs.length : Int)) : ∃ v, v ∈ xs ∧ atI xs r = some v := by
  have hr : r.toNat < xs.length := by omega
  have er : ((r.toNat : Nat) : Int) = r := by omega
  have z := atI_nat (List.getElem?_eq_getElem hr)
  rw [er] at z
  exact ⟨_, List.getElem_mem hr, z⟩
theorem small_line {n : Nat} (h : n ≤ 1000) : n ≤ sizeLine := Nat.le_trans h (by decide)
end Hx

namespace Hx
open PySem PySem.Spec PyProof.Rows L2
/-- the data of a key -/
def keyD : Key → PyData
  | .inl i => .int i
  | .inr x => .str x
mutual
/-- at v stands the data d, in objects that are tracked -/
inductive Dq (H : Hp) : V → PyData → Prop
  | non : Dq H .non .none
  | bl (b : Bool) : Dq H (.bl b) (.bool b)
  | int (i : Int) : Dq H (.int i) (.int i)
  | str (x : Str) : Dq H (.str x) (.str x)
  | lst {a : Addr} {xs : List V} {ds : List PyData} : H a = some (.lst xs) → DqAll H xs ds → Dq H (.ref a) (.list ds)
  | tup {a : Addr} {xs : List V} {ds : List PyData} : H a = some (.tup xs) → DqAll H xs ds → Dq H (.ref a) (.tuple ds)
  | dct {a : Addr} {ks : List (Key × V)} {es : List (PyData × PyData)} : H a = some (.dK ks) → DqKv H ks es → Dq H (.ref a) (.dict es)
inductive DqAll (H : Hp) : List V → List PyData → Prop
  | nil : DqAll H [] []
  | cons {v : V} {vs : List V} {d : PyData} {ds : List PyData} : Dq H v d → DqAll H vs ds → DqAll H (v :: vs) (d :: ds)
inductive DqKv (H : Hp) : List (Key × V) → List (PyData × PyData) → Prop
  | nil : DqKv H [] []
  | cons {k : Key} {v : V} {d : PyData} {r : List (Key × V)} {es : List (PyData × PyData)} : Dq H v d → DqKv H r es → DqKv H ((k, v) :: r) ((keyD k, d) :: es)
end
mutual
theorem Dq.same {H H' : Hp} (s : Same H H') : ∀ (d : PyData) (v : V), Dq H v d → Dq H' v d
  | .none, _, h => by cases h; exact .non
  | .bool b, _, h => by cases h; exact .bl b
  | .int i, _, h => by cases h; exact .int i
  | .str x, _, h => by cases h; exact .str x
  | .list ds, _, h => by cases h with | lst e r => exact .lst (s _ _ e) (DqAll.same s ds _ r)
  | .tuple ds, _, h => by cases h with | tup e r => exact .tup (s _ _ e) (DqAll.same s ds _ r)
  | .dict es, _, h => by cases h with | dct e r => exact .dct (s _ _ e) (DqKv.same s es _ r)
theorem DqAll.same {H H' : Hp} (s : Same H H') : ∀ (ds : List PyData) (vs : List V), DqAll H vs ds → DqAll H' vs ds
  | [], _, h => by cases h; exact .nil
  | d :: ds, _, h => by cases h with | cons e r => exact .cons (Dq.same s d _ e) (DqAll.same s ds _ r)
theorem DqKv.same {H H' : Hp} (s : Same H H') : ∀ (es : List (PyData × PyData)) (ks : List (Key × V)), DqKv H ks es → DqKv H' ks es
  | [], _, h => by cases h; exact .nil
  | (_, d) :: es, _, h => by cases h with | cons e r => exact .cons (Dq.same s d _ e) (DqKv.same s es _ r)
end
section
variable {X : Cx} {pins : List (Addr × Obj)} {σ : L2.St} {H : Hp} {s : Shared}
theorem reads_key {w : World} {P : Program} {h : Heap} {k : Key} {u : Value} (e : (mixKind P w).is k u = true) : Reads h u (keyD k) [] := by
  rw [mixKind_is] at e
  rcases keyIs_shape e with ⟨i, t, rfl, rfl⟩ | ⟨x, t, rfl, rfl⟩
  · exact .int i t
  · exact .str x t
mutual
theorem Dq.reads (I : Inv X pins σ H s) : ∀ (d : PyData) (v : V) (u : Value), Dq H v d → RelV v u → ∃ as, Reads s.heap u d as ∧ ∀ b ∈ as, ∃ o, H b = some o
  | .none, _, _, h, r => by
    cases h; cases r
    exact ⟨_, Reads.none, by simp⟩
  | .bool b, _, _, h, r => by
    cases h; cases r
    exact ⟨_, Reads.bool b, by simp⟩
  | .int i, _, _, h, r => by
    cases h; obtain ⟨t, rfl⟩ := r
    exact ⟨_, Reads.int i t, by simp⟩
  | .str x, _, _, h, r => by
    cases h; obtain ⟨t, rfl⟩ := r
    exact ⟨_, Reads.str x t, by simp⟩
  | .list ds, _, _, h, r => by
    cases h with
    | @lst a xs _ e ra =>
      cases r
      obtain ⟨_, its, n, rv, hg⟩ := (show ObjOk X.prog X.w H s.heap a (.lst xs) from I.hok a _ e)
      obtain ⟨as, hr, ha⟩ := DqAll.reads I ds _ its ra rv
      refine ⟨_, Reads.list hg rfl rfl hr, fun b hb => ?_⟩
      rcases List.mem_cons.mp hb with rfl | hb
      · exact ⟨_, e⟩
      · exact ha b hb
  | .tuple ds, _, _, h, r => by
    cases h with
    | @tup a xs _ e ra =>
      cases r
      obtain ⟨_, its, rv, o, hg, hc, n, hd⟩ := (show ObjOk X.prog X.w H s.heap a (.tup xs) from I.hok a _ e)
      obtain ⟨as, hr, ha⟩ := DqAll.reads I ds _ its ra rv
      exact ⟨_, Reads.tuple hg hc hd hr, ha⟩
  | .dict es, _, _, h, r => by
    cases h with
    | @dct a ks _ e ra =>
      cases r
      obtain ⟨_, _, vs, rk, o, des, ep, hg, hx, hd, _, hp, _⟩ := (show ObjOk X.prog X.w H s.heap a (.dK ks) from I.hok a _ e)
      obtain ⟨as, bs, h1, h2, h3⟩ := DqKv.reads I es ks vs _ ra rk hp
      refine ⟨_, Reads.dict hg hx.1 hd h1 h2, fun b hb => ?_⟩
      rcases List.mem_append.mp hb with hb | hb
      · rcases List.mem_cons.mp hb with rfl | hb
        · exact ⟨_, e⟩
        · exact h3 b (List.mem_append_left _ hb)
      · exact h3 b (List.mem_append_right _ hb)
theorem DqAll.reads (I : Inv X pins σ H s) : ∀ (ds : List PyData) (vs : List V) (us : List Value), DqAll H vs ds → Vals vs us → ∃ as, ReadsAll s.heap us ds as ∧ ∀ b ∈ as, ∃ o, H b = some o
  | [], _, _, h, r => by
    cases h; cases r
    exact ⟨_, ReadsAll.nil, by simp⟩
  | d :: ds, _, _, h, r => by
    cases h with
    | cons h1 h2 =>
      cases r with
      | cons r1 r2 =>
        obtain ⟨as, q1, m1⟩ := Dq.reads I d _ _ h1 r1
        obtain ⟨bs, q2, m2⟩ := DqAll.reads I ds _ _ h2 r2
        exact ⟨_, ReadsAll.cons q1 q2, fun b hb => (List.mem_append.mp hb).elim (m1 b) (m2 b)⟩
theorem DqKv.reads (I : Inv X pins σ H s) : ∀ (es : List (PyData × PyData)) (ks : List (Key × V)) (vs : List (Key × Value)) (des : List DictEntry), DqKv H ks es → KV ks vs → Pairs (mixKind X.prog X.w) des vs →
    ∃ as bs, ReadsAll s.heap (des.map (·.key)) (es.map (·.1)) as ∧ ReadsAll s.heap (des.map (·.val)) (es.map (·.2)) bs ∧ ∀ b ∈ as ++ bs, ∃ o, H b = some o
  | [], _, _, _, h, r, p => by
    cases h; cases r; cases p
    exact ⟨_, _, ReadsAll.nil, ReadsAll.nil, by simp⟩
  | (_, d) :: es, _, _, _, h, r, p => by
    cases h with
    | cons h1 h2 =>
      cases r with
      | cons r1 r2 =>
        cases p with
        | cons p1 p2 p3 =>
          obtain ⟨as, bs, q1, q2, m⟩ := DqKv.reads I es _ _ _ h2 r2 p3
          obtain ⟨cs, q3, m3⟩ := Dq.reads I d _ _ h1 r1.2
          rw [← r1.1] at p1
          refine ⟨_, _, ReadsAll.cons (reads_key p1) q1, ReadsAll.cons (by dsimp only; rw [p2]; exact q3) q2, fun b hb => ?_⟩
          rcases List.mem_append.mp hb with hb | hb
          · exact m b (List.mem_append_left _ hb)
          · rcases List.mem_append.mp hb with hb | hb
            · exact m3 b hb
            · exact m b (List.mem_append_right _ hb)
end
end
/-- the base has sys.modules -/
def Mods (base : Heap) : Prop := ∃ o, base.get? sysModules = some o
/-- a datum that a repr may be asked of -/
def Small (d : PyData) : Prop := d.showable = true ∧ d.depth ≤ 20 ∧ d.shown.length ≤ 100000
def rRepr : List V → Hp → VK → Prop := fun xs H Q => ∃ v d, xs = [v] ∧ Dq H v d ∧ Small d ∧ Q (.str d.shown) H
section
variable {X : Cx}
theorem call_reprD (gd : X.A.guards = some []) (hu : X.A.units + 64 < cLine) (hm : Mods X.base) : CallR X (.builtin "repr") rRepr := by
  intro pins s σ H xs us Q I r h
  obtain ⟨v, d, rfl, hd, ⟨h1, h2, h3⟩, q⟩ := h
  obtain ⟨u, rfl, ru⟩ := vals1 r
  have hz : d.shown.length ≤ sizeLine := Nat.le_trans h3 (by decide)
  obtain ⟨as, hr, ha⟩ := Dq.reads I d v u hd ru
  have hno : sysModules ∉ as := fun z => by
    obtain ⟨o, e⟩ := ha _ z
    obtain ⟨b, eb⟩ := hm
    have n := (I.bs _ _ eb).2
    rw [n] at e
    cases e
  have fin : ∀ (h' : Heap) (tu : Tok) (tk : Nat), (∀ b o, s.heap.get? b = some o → h'.get? b = some o) → EP X pins σ Q (.str d.shown tu) { s with heap := h', toks := tk } :=
    fun h' tu tk k => ⟨.str d.shown, H, I.kept (t' := tk) k, ⟨_, rfl⟩, q⟩
  cases hd with
  | non => cases ru; exact P.repr_of_none (fin _ _ _ fun _ _ z => z)
  | bl b => cases ru; exact P.repr_of_bool (fin _ _ _ fun _ _ z => z)
  | int i =>
    obtain ⟨t, rfl⟩ := ru
    exact P.repr_of_int (of_decide_eq_true h1) (fin _ _ _ fun _ _ z => z)
  | str x =>
    obtain ⟨t, rfl⟩ := ru
    exact P.repr_of_str (fin _ _ _ fun _ _ z => z) hz
  | lst _ _ => cases ru; exact repr_of_reads' hr h1 (fun _ => hno) gd (by omega) (fun _ _ z => z) fin hz
  | tup _ _ => cases ru; exact repr_of_reads' hr h1 (fun _ => hno) gd (by omega) (fun _ _ z => z) fin hz
  | dct _ _ => cases ru; exact repr_of_reads' hr h1 (fun _ => hno) gd (by omega) (fun _ _ z => z) fin hz
end
end Hx

namespace Hx
open PySem PySem.Spec PyProof.Rows L2
/-- a number of the module -/
theorem pe_gint {X : Cx} {x : Str} {i : Int} {t : Tok} {pos : Pos} (hg : Gl X x) (hm : X.mg x = some (.int i t))
    (hd : (x == ("__debug__" : Str)) = false := by decide) : PE X (.Name x pos) (tC (.int i)) := pe_glob hg hm ⟨_, rfl⟩ hd
/-- a class or def of the module; a built-in class, as a value -/
theorem pe_gref {X : Cx} {x : Str} {a : Addr} {pos : Pos} (hg : Gl X x) (hm : X.mg x = some (.ref a))
    (hd : (x == ("__debug__" : Str)) = false := by decide) : PE X (.Name x pos) (tC (.ref a)) := pe_glob hg hm (show RelV (.ref a) (.ref a) from rfl) hd
theorem pe_bty {X : Cx} {x : Str} {T : String} {pos : Pos} (hg : Gl X x) (hm : X.mg x = none) (hv : bootBuiltins x = some (.type T))
    (hn : x ≠ "__name__" := by decide) (hd : (x == ("__debug__" : Str)) = false := by decide) : PE X (.Name x pos) (tC (.ty T)) :=
  pe_bltn hg hm hv (show RelV (.ty T) (.type T) from rfl) hn hd
/-- a comprehension without an if: the turn is taken -/
theorem turn_yes {σ : L2.St} {H : Hp} {R S : Hp → Prop} (h : R H) : tYes σ H fun b H3 => if b = true then R H3 else S H3 := by
  show (if true = true then R H else S H)
  rw [if_pos rfl]
  exact h
/-- the script as an object that is only read -/
def scriptO (vs : List Value) (ns : List Int) : HO := .frz { cls := .type "list", data := .seq vs.toArray } (.lst (ns.map V.int))
section
variable {P : Program} {w : World} {K : PySem.W.Frag} {mg mb : Str → Option Value} {k : Nat} {fa a : Addr} {fd : FuncData} {x : Str} {sp : Sp}
  {s1 : Shared} {vs : List Value} {ns : List Int}
theorem enter_with (H : Hp) (KX : K.In s1.heap) (hglob : s1.heap.Ns mainGlobals mg) (hblt : s1.heap.Ns builtinsNs mb)
    (hboot : ∀ x : Str, x ≠ "__name__" → mb x = bootBuiltins x) (hlim : s1.heap.NoLimit) (hmods : ∃ mm, s1.heap.Ns sysModules mm) (hgen : s1.gens = #[])
    (ha : s1.heap.get? a = some { cls := .type "list", data := .seq vs.toArray }) (room : Room k callerA)
    (F : ∀ base : Heap, K.In base → base.Ns mainGlobals mg → Mods base → GOk P w K mg base CX0 k fa fd [x] sp)
    (hbind : ∀ (s : Shared) (u : Value), BindsTo s fd ⟨[u], []⟩ [(x, u)])
    (hH : ∀ b u, H b = some u → b = a ∧ u = scriptO vs ns) (hK : ∀ u, H a = some u → K.lookup a = none) (hok : HOk P w H s1.heap)
    (hsp : sp [.ref a] H (fun v _ => v = .bl true) E0) :
    codeAny (model P w) callerA (.call (.ref fa) ⟨[.ref a], []⟩) (fun r s' => r = .ok (.ret (.bool true)) ∧ OldK s1.heap s'.heap ∧ s'.os = s1.os ∧ AllBare s'.gens) s1 := by
  have untracked : ∀ {b : Addr} {o : Obj} {es : Array DictEntry} {ep : Nat}, s1.heap.get? b = some o → o.data = .dict es ep → H b = none := by
    intro b o es ep e d
    cases hb : H b with
    | none => rfl
    | some u =>
      obtain ⟨rfl, _⟩ := hH b u hb
      rw [ha] at e
      cases e
      cases (show Data.seq vs.toArray _ = Data.dict es ep from d)
  have nsBase : ∀ {b : Addr} {m : Str → Option Value}, s1.heap.Ns b m → (hidT s1.heap H).Ns b m := fun {b m} ⟨o, es, ep, e, d, r⟩ =>
    ⟨o, es, ep, hidT_get e (untracked e d), d, r⟩
  have inBase : K.In (hidT s1.heap H) := by
    intro b o e
    refine hidT_get (KX b o e) ?_
    cases hb : H b with
    | none => rfl
    | some u =>
      obtain ⟨rfl, _⟩ := hH b u hb
      rw [hK u hb] at e
      cases e
  have modOk : Mod K mg (hidT s1.heap H) := by
    refine ⟨inBase, nsBase hglob, ⟨mb, nsBase hblt, hboot⟩, ?_⟩
    obtain ⟨mc, l1, l2⟩ := hlim
    exact ⟨mc, nsBase l1, l2⟩
  have modsOk : Mods (hidT s1.heap H) := by
    obtain ⟨mm, hm⟩ := hmods
    obtain ⟨o, es, ep, e, _⟩ := nsBase hm
    exact ⟨o, e⟩
  have start0 : Env0 P w K mg (hidT s1.heap H) callerA [] s1 H :=
    { frames := rfl, mod := modOk, bs := fun b o e => of_hidT e, bsz := Nat.le_of_eq (hidT_size _ _), funs := trivial,
      frf := fun b hb => absurd (show b ∈ ([] : List Addr) from hb) (by simp), hok := hok, bare := .of_eq hgen }
  have run := (F _ inBase (nsBase hglob) modsOk).goes callerA [] s1 H ⟨[.ref a], []⟩ [.ref a] [.ref a] _ _ room rfl start0 (hbind s1 (.ref a)) (.cons rfl .nil) hsp
  refine codeAny_mono run ?_
  intro r s' hr
  cases r with
  | error e => exact (show False from hr).elim
  | ok fl =>
    cases fl with
    | next => exact hr.elim
    | brk => exact hr.elim
    | cont => exact hr.elim
    | ret u =>
      obtain ⟨v, H', osEq, bare, un, hok', rel, rfl⟩ := hr
      cases (show u = Value.bool true from rel)
      refine ⟨rfl, OldK.of_keep ?_, osEq, bare⟩
      intro b o e
      cases hb : H b with
      | none => exact un.keep b o e hb (fun z => absurd (show b ∈ ([] : List Addr) from z) (by simp)) (by simp)
      | some u =>
        obtain ⟨rfl, rfl⟩ := hH b u hb
        have stay := un.frzs b _ _ hb
        obtain ⟨e1, _⟩ := hok b _ hb
        obtain ⟨e2, _⟩ := hok' b _ stay
        rw [e] at e1
        rw [e2, ← Option.some.inj e1]

theorem law_enter (KX : K.In s1.heap) (hglob : s1.heap.Ns mainGlobals mg) (hblt : s1.heap.Ns builtinsNs mb)
    (hboot : ∀ x : Str, x ≠ "__name__" → mb x = bootBuiltins x) (hlim : s1.heap.NoLimit) (hmods : ∃ mm, s1.heap.Ns sysModules mm) (hgen : s1.gens = #[])
    (ha : s1.heap.get? a = some { cls := .type "list", data := .seq vs.toArray }) (hi : IntsAre vs ns) (hl : ns.length ≤ sizeLine) (room : Room k callerA)
    (F : ∀ base : Heap, K.In base → base.Ns mainGlobals mg → Mods base → GOk P w K mg base CX0 k fa fd [x] sp)
    (hbind : ∀ (s : Shared) (u : Value), BindsTo s fd ⟨[u], []⟩ [(x, u)])
    (hsp : ∀ H : Hp, SqL K H a (ns.map V.int) → sp [.ref a] H (fun v _ => v = .bl true) E0) :
    codeAny (model P w) callerA (.call (.ref fa) ⟨[.ref a], []⟩) (fun r s' => r = .ok (.ret (.bool true)) ∧ OldK s1.heap s'.heap ∧ s'.os = s1.os ∧ AllBare s'.gens) s1 := by
  have rel := vals_ints hi
  cases hk : K.lookup a with
  | some o =>
    have e := KX a o hk
    rw [ha] at e
    cases e
    refine enter_with (ns := ns) (fun _ => none) KX hglob hblt hboot hlim hmods hgen ha room F hbind (fun _ _ z => by cases z) (fun _ z => by cases z) (fun _ _ z => by cases z) ?_
    refine hsp _ (.inr ⟨_, vs.toArray, _, hk, rfl, rfl, rfl, ?_, by simpa using rel⟩)
    rw [List.size_toArray, hi.length]
    exact hl
  | none =>
    have at_a : (fun b => if b = a then some (scriptO vs ns) else none : Hp) a = some (scriptO vs ns) := if_pos rfl
    refine enter_with (ns := ns) (fun b => if b = a then some (scriptO vs ns) else none) KX hglob hblt hboot hlim hmods hgen ha room F hbind ?_ (fun _ _ => hk) ?_ (hsp _ (.inl (.inr ⟨_, at_a⟩)))
    · intro b u z
      by_cases hb : b = a
      · exact ⟨hb, (Option.some.inj ((if_pos hb).symm.trans z)).symm⟩
      · cases (if_neg hb).symm.trans z
    · intro b u z
      by_cases hb : b = a
      · have e := Option.some.inj ((if_pos hb).symm.trans z)
        subst hb
        subst e
        exact ⟨ha, by rw [List.length_map]; exact hl, vs, _, rel, ha⟩
      · cases (if_neg hb).symm.trans z
end
/-- the goal that k_head leaves, for a law whose defs ask that no guard stands below -/
theorem walk_G {l : PySem.W.OpenLaw} {n k : Nat} {q : Program} {loose : List Str} {XP : (Str → Option Value) → Heap → Prop} {YP : World → Heap → Prop} {d : DefRec}
    {K : Params → PySem.W.Frag} {sp : PySem.W.Frag → Sp} {x : Str} (hn : l.most = some n) (hn2 : n ≤ sizeLine) (hdf : d.params.defaults = []) (room : Room k callerA)
    (himp : importsNone q = true) (hY : ∀ (w : World) (h : Heap), YP w h → (K w.params).In h)
    (F : ∀ (w : World) (mg : Str → Option Value) (fa : Addr) (h : Heap), (K w.params).In h → h.Ns mainGlobals mg → mg d.name = some (.ref fa) →
      ∃ fd : FuncData, (∀ (s : Shared) (u : Value), BindsTo s fd ⟨[u], []⟩ [(x, u)]) ∧
        ∀ base : Heap, (K w.params).In base → base.Ns mainGlobals mg → Mods base → GOk l.prog w (K w.params) mg base CX0 k fa fd [x] (sp (K w.params)))
    (hsp : ∀ (K : PySem.W.Frag) (H : Hp) (a : Addr) (ns : List Int), ns.length ≤ n → SqL K H a (ns.map V.int) → sp K [.ref a] H (fun v _ => v = .bl true) E0) :
    PySem.W.WalkO q loose XP YP l.row.toRowW d [] (fun f vs => PySem.call f vs) := by
  refine Att.attach_call hn hdf ?_
  intro w s0 s1 mg mb fa o pm cd doc a vs ns G Y ho hd hcd hmg hobj hints hlen hgen
  have KX := hY w _ Y
  obtain ⟨fd, hb, hF⟩ := F w mg fa _ KX G.T.g hmg
  obtain ⟨mm, hmm, _⟩ := (G.T.seer himp).mods
  exact law_enter KX G.T.g G.T.b G.T.builtins G.T.nolimit ⟨mm, hmm⟩ hgen hobj hints (Nat.le_trans hlen hn2) room hF hb fun H hS => hsp _ H a ns hlen hS
end Hx

/-! own exception classes made with keywords -/
namespace PySem
namespace EK
open PySem.W PySem.Calls PyProof.Rows PySem.PX
section
variable {M : Model} {A : Around} {E : Value → Shared → Prop} {h : Heap} {g : Array GenState} {d : Drawn} {t : Nat} {os : OsState}
variable {nm q : Str} {C N : Addr} {bs bm bmB : List Value} {hdct : Bool} {sn : List Str} {sub : List Value} {ab : Bool} {col : Option Bool}
  {dd : Option Addr} {k0 k1 k2 k3 k5 : Option Value} {B newId initId : String} {kw : List (Str × Value)} {us : List Value}
theorem look_new (F : ExcBaseFacts B newId initId bmB) (same : ∀ X : String, bm.contains (.type X) = bmB.contains (.type X)) {Q : Unit → Shared → Prop}
    (hC : h.get? C = some (excClassObj nm q C N bs bm hdct sn sub ab col dd k0 k1 k2 k3 k5 newId)) (hq : Q () ⟨h, g, d, t, os⟩) :
    wpAny M A (checkBuiltinCall newId ⟨.ref C :: us, kw⟩) Q E ⟨h, g, d, t, os⟩ := by
  have inB : (Value.ref C :: bm).contains (.type B) = true := by
    rw [List.contains_cons, same, F.hasB, Bool.or_true]
  have star := F.noStar
  simp only [checkBuiltinCall, F.newKind, F.newSplit, F.newRow]
  repeat (first
    | refine wpAny_loadPart_at hC ?_
    | (refine wpAny_isSubtype_exc hC ?_; rw [inB])
    | refine wpAny_staticBase_exc hC ?_
    | refine wpAny_madeBy_exc hC ?_
    | simp only [bne_self_eq_false, Bool.false_eq_true, if_false]
    | wp_step)
  exact hq
end
section
variable {prog : Program} {w : World} {A : Around} {E : Value → Shared → Prop} {R : Result → Shared → Prop} {h : Heap} {g : Array GenState} {d : Drawn} {t : Nat} {os : OsState}
variable {nm q : Str} {C N : Addr} {bs bm bmB : List Value} {hdct : Bool} {sn : List Str} {sub : List Value} {ab : Bool} {col : Option Bool}
  {dd : Option Addr} {k0 k1 k2 k3 k5 : Option Value} {B newId initId : String} {kw : List (Str × Value)} {us : List Value} {fI : Addr}
/-- the heap behind the making -/
abbrev madeHeap (h : Heap) (C : Addr) (us : List Value) : Heap := (h.push (kdv_tup us)).push (excO C h.objs.size)
theorem made_keep (b : Addr) (o : Obj) (e : h.get? b = some o) : (madeHeap h C us).get? b = some o :=
  Heap.get?_push_of_some _ (Heap.get?_push_of_some _ e)
theorem made_at : (madeHeap h C us).get? (h.objs.size + 1) = some (excO C h.objs.size) := by heap_get
theorem run_new (F : ExcBaseFacts B newId initId bmB) (same : ∀ X : String, bm.contains (.type X) = bmB.contains (.type X))
    (hC : h.get? C = some (excClassObj nm q C N bs bm hdct sn sub ab col dd k0 k1 k2 k3 k5 newId)) (small : us.length ≤ sizeLine)
    (hq : R (.ok (.ret (.ref (h.objs.size + 1)))) ⟨madeHeap h C us, g, d, t, os⟩) :
    codeAny (model prog w) A (.builtin newId ⟨.ref C :: us, kw⟩) R ⟨h, g, d, t, os⟩ := by
  have ends := F.ends
  have inB : (Value.ref C :: bm).contains (.type B) = true := by
    rw [List.contains_cons, same, F.hasB, Bool.or_true]
  have noA : (Value.ref C :: bm).contains (.type "AttributeError") = false := by
    rw [List.contains_cons, same, F.noAttr]
    rfl
  have noN : (Value.ref C :: bm).contains (.type "NameError") = false := by
    rw [List.contains_cons, same, F.noName]
    rfl
  refine codeAny_builtinAt F.entry ?_
  unfold Builtin.«BaseException.__new__»
  refine wpAt_bind ?_
  show wpAt _ _ _ (stack >>= _) _ _ _
  refine wpAt_bind (wpAt_stack fun p under => wpAt_of_wpAny ?_)
  wp_walk
  refine wpAt_of_wpAny ?_
  rw [F.owner]
  repeat (first
    | with_reducible refine wpAny_madeHere_exc F.canon hC ?_
    | with_reducible refine wpAny_loadPart_at hC ?_
    | (with_reducible refine wpAny_isSubtype_exc hC ?_
       first | rw [inB] | rw [noA] | rw [noN])
    | wp_step)
  show R _ _
  rw [Heap.size_push]
  exact hq
theorem run_type (F : ExcBaseFacts B newId initId bmB) (same : ∀ X : String, bm.contains (.type X) = bmB.contains (.type X))
    (hC : h.get? C = some (excClassObj nm q C N bs bm hdct sn sub ab col dd k0 k1 k2 k3 k5 newId)) {Q : Fin → Shared → Prop}
    (li : Looks (model prog w) h (typeLookup (.ref C) "__init__") (some (.ref fI)))
    (lb : ∀ self, Looks (model prog w) h (bindSpecial (.ref fI) self) (.ref fI, [self])) (small : us.length ≤ sizeLine)
    (hq : codeAny (model prog w) A (.call (.ref fI) ⟨.ref (h.objs.size + 1) :: us, kw⟩)
      (fun r s' => match r with
        | .ok (.ret v) => v = .none ∧ Q (.done (.ret (.ref (h.objs.size + 1)))) s'
        | .ok _ => False
        | .error e => E e s') ⟨madeHeap h C us, g, d, t, os⟩) :
    wpAny (model prog w) A (Builtin.«type.__call__» ⟨.ref C :: us, kw⟩) Q E ⟨h, g, d, t, os⟩ := by
  repeat (first
    | with_reducible refine wpAny_loadPart_at hC ?_
    | with_reducible refine wpAny_madeBy_exc hC ?_
    | wp_step)
  refine codeAny_call_builtin_code (Code.quiet_builtin _ F.quiet) (look_new F same hC ?_)
  refine run_new F same hC small ?_
  show wpAny _ _ _ _ _ _
  have hC1 := made_keep (C := C) (us := us) _ _ hC
  have own : (Value.ref C :: bm).contains (.ref C) = true := by simp
  have li1 := li.keeps (made_keep (C := C) (us := us))
  have lb1 := (lb (.ref (h.objs.size + 1))).keeps (made_keep (C := C) (us := us))
  unfold isInstance
  repeat (first
    | with_reducible refine wpAny_loadPart_at made_at ?_
    | (with_reducible refine wpAny_isSubtype_exc hC1 ?_
       rw [own])
    | wp_step)
  show wpAny _ _ (typeLookup (.ref C) _) _ _ _
  refine li1.at ?_
  refine wpAny_holding (wpAny_bind (lb1.at ?_))
  refine wpAny_bind (wpAny_call (codeAny_mono hq ?_))
  intro r s' z
  cases r with
  | error e => exact z
  | ok fl =>
    cases fl with
    | ret v =>
      obtain ⟨rfl, z⟩ := z
      first
        | exact wpAny_pure (wpAny_pure z)
        | (wp_walk; exact z)
    | next => exact z.elim
    | brk => exact z.elim
    | cont => exact z.elim
end
section
variable {prog : Program} {w : World} {A : Around} {E : Value → Shared → Prop} {R : Result → Shared → Prop} {h : Heap} {g : Array GenState} {d : Drawn} {t : Nat} {os : OsState}
variable {nm q : Str} {C N : Addr} {bs bm bmB : List Value} {hdct : Bool} {sn : List Str} {sub : List Value} {ab : Bool} {col : Option Bool}
  {dd : Option Addr} {k0 k1 k2 k3 k5 : Option Value} {B newId initId : String} {kw : List (Str × Value)} {us : List Value} {fI : Addr}
theorem look_type {M : Model} {Q : Unit → Shared → Prop} (hC : h.get? C = some (excClassObj nm q C N bs bm hdct sn sub ab col dd k0 k1 k2 k3 k5 newId))
    (hq : Q () ⟨h, g, d, t, os⟩) : wpAny M A (checkBuiltinCall "type.__call__" ⟨.ref C :: us, kw⟩) Q E ⟨h, g, d, t, os⟩ := by
  have f0 := tc_sub
  have ofType : (⟨h, g, d, t, os⟩ : Shared).TypeIs (.ref C) "type" := ⟨_, hC, rfl⟩
  simp only [checkBuiltinCall, tc_kind, tc_split]
  repeat (any_goals (first
    | assumption
    | with_reducible refine wpAny_loadPart_at hC ?_
    | with_reducible refine wpAny_onRaise ?_
    | with_reducible refine wpAny_map ?_
    | wp_step))
/-- C(us, kw): the object is laid, then __init__ -/
theorem run_call (F : ExcBaseFacts B newId initId bmB) (same : ∀ X : String, bm.contains (.type X) = bmB.contains (.type X))
    (hC : h.get? C = some (excClassObj nm q C N bs bm hdct sn sub ab col dd k0 k1 k2 k3 k5 newId))
    (li : Looks (model prog w) h (typeLookup (.ref C) "__init__") (some (.ref fI)))
    (lb : ∀ self, Looks (model prog w) h (bindSpecial (.ref fI) self) (.ref fI, [self])) (small : us.length ≤ sizeLine)
    (hq : codeAny (model prog w) (A.under (.builtin "type.__call__" ⟨.ref C :: us, kw⟩)) (.call (.ref fI) ⟨.ref (h.objs.size + 1) :: us, kw⟩)
      (InitBack (h.objs.size + 1) R) ⟨madeHeap h C us, g, d, t, os⟩) :
    codeAny (model prog w) A (.call (.ref C) ⟨us, kw⟩) R ⟨h, g, d, t, os⟩ := by
  have f1 := tc_lookup
  have f2 := tc_bind (.ref C)
  have ofType : (⟨h, g, d, t, os⟩ : Shared).TypeIs (.ref C) "type" := ⟨_, hC, rfl⟩
  refine codeAny_of_tree ?_
  show wpAny _ _ (callAny (.ref C) _) _ _ _
  repeat (any_goals (first
    | assumption
    | with_reducible refine wpAny_loadPart_at hC ?_
    | wp_step))
  refine ⟨rfl, ?_⟩
  refine codeAny_call_builtin_at (Code.quiet_builtin _ (by decide +kernel)) entry_typeCall (look_type hC ?_)
  refine run_type F same hC li lb small (codeAny_mono hq ?_)
  intro r s' z
  rcases r with e | (v | _ | _ | _) <;> exact z
end
/-! storing into an exception -/
section
open Builtin Builtin.ObjectAttr
variable {prog : Program} {w : World} {A : Around} {R : Result → Shared → Prop} {hp : Heap} {g : Array GenState} {d : Drawn} {t : Nat} {os : OsState}
  {K : Frag} {C x : Addr} {B : String} {bmB : List Value} {name : Str} {tk : Tok} {v : Value} {fv : Array Value}
theorem first_field (SF : StoreFacts B bmB "object.__setattr__" "object") (X : K.In hp) (hx : hp.get? x = some { cls := .ref C, data := .fields fv })
    (over : excOver K C bmB = true) (free : takerIn K C name = some none) (dct : hasDictIn K C = true)
    (hq : ∀ h' tk' dx, (∀ b o, b ≠ x → hp.get? b = some o → h'.get? b = some o) → hp.objs.size ≤ dx → dx ≠ x →
      h'.get? x = some { cls := .ref C, dict := some dx, data := .fields fv } → h'.Ns1 dx (fun y => if y = name then some v else none) →
      R (.ok (.ret .none)) ⟨h', g, d, tk', os⟩) :
    codeAny (model prog w) A (.call (.builtin "object.__setattr__") ⟨[.ref x, .str name tk, v], []⟩) R ⟨hp, g, d, t, os⟩ := by
  have I : InstAt hp x { cls := .ref C, data := .fields fv } C none := ⟨hx, rfl, rfl, trivial⟩
  refine osa_openX (s := ⟨hp, g, d, t, os⟩) SF X I over free fun b => ?_
  show wpAny _ _ (storeInOwnDict (.ref x) (.ref C) (.str name tk) name v b) _ _ _
  obtain ⟨cd, hcd, hd⟩ := any_some dct
  have lc : Looks (model prog w) hp (classData C) cd := looks_clsIn X hcd
  obtain ⟨nm, bs, mro, ns, qn, hdd, sn, sb, ab, col, del⟩ := cd
  dsimp only at hd
  subst hd
  have apart : x ≠ hp.objs.size := Nat.ne_of_lt (Heap.lt_size hx)
  unfold storeInOwnDict ownDictForStores
  repeat (first
    | with_reducible refine PX.store_in_new ?_ ?_
    | with_reducible refine wpAny_loadPart_at hx ?_
    | with_reducible refine lc.at ?_
    | wp_step)
  · exact ⟨_, #[], _, (Heap.get?_update_ne _ _ _ _ apart.symm).trans (Heap.get?_push_at rfl rfl), rfl, fun e he => absurd he (by simp), fun _ => rfl⟩
  · intro h' tk' hn' but
    have hx1 : (hp.push { cls := .type "dict", data := .dict #[] }).get? x = some { cls := .ref C, data := .fields fv } := Heap.get?_push_of_some _ hx
    refine hq h' tk' hp.objs.size ?_ (Nat.le_refl _) apart.symm ?_ hn'
    · intro b o hb ho
      have z := but.2 b (Nat.ne_of_lt (Heap.lt_size ho))
      rw [z, Heap.get?_update_ne _ _ _ _ hb]
      exact Heap.get?_push_of_some _ ho
    · rw [but.2 x apart]
      exact Heap.get?_update_self _ hx1 rfl
theorem next_field (SF : StoreFacts B bmB "object.__setattr__" "object") (X : K.In hp) {dx : Addr} {m0 : Str → Option Value} {nl : List Str}
    (hx : hp.get? x = some { cls := .ref C, dict := some dx, data := .fields fv }) (hn : hp.Ns1 dx m0) (within : Within m0 nl) (few : nl.length ≤ 1000)
    (over : excOver K C bmB = true) (free : takerIn K C name = some none) (dct : hasDictIn K C = true)
    (hq : ∀ h' tk', (∀ b o, b ≠ dx → hp.get? b = some o → h'.get? b = some o) → h'.Ns1 dx (fun y => if y = name then some v else m0 y) →
      R (.ok (.ret .none)) ⟨h', g, d, tk', os⟩) :
    codeAny (model prog w) A (.call (.builtin "object.__setattr__") ⟨[.ref x, .str name tk, v], []⟩) R ⟨hp, g, d, t, os⟩ := by
  obtain ⟨oD, _, _, hoD, _, _⟩ := hn.count within
  have I : InstAt hp x { cls := .ref C, dict := some dx, data := .fields fv } C (some oD) := ⟨hx, rfl, rfl, hoD⟩
  refine osa_openX (s := ⟨hp, g, d, t, os⟩) SF X I over free fun b => ?_
  show wpAny _ _ (storeInOwnDict (.ref x) (.ref C) (.str name tk) name v b) _ _ _
  obtain ⟨cd, hcd, hd⟩ := any_some dct
  have lc : Looks (model prog w) hp (classData C) cd := looks_clsIn X hcd
  obtain ⟨nm, bs, mro, ns, qn, hdd, sn, sb, ab, col, del⟩ := cd
  dsimp only at hd
  subst hd
  unfold storeInOwnDict ownDictForStores
  repeat (first
    | with_reducible refine PX.store_in_old hn within few ?_
    | with_reducible refine wpAny_loadPart_at hx ?_
    | with_reducible refine lc.at ?_
    | wp_step)
  intro h' tk' hn' but
  exact hq h' tk' (fun b o hb ho => (but.2 b hb).trans ho) hn'
end
end EK
end PySem

namespace Hx
open PySem PySem.Spec PyProof.Rows L2
/-- what the written part says of an own exception class at C, over the built-in B -/
structure ExK (K : PySem.W.Frag) (C : Addr) (B newId initId : String) (bmB : List Value) : Prop where
  facts : ExcBaseFacts B newId initId bmB
  store : StoreFacts B bmB "object.__setattr__" "object"
  made : PySem.W.excInitIn K C bmB newId = true
  over : PySem.W.excOver K C bmB = true
  dct : PySem.W.hasDictIn K C = true
  sa : PySem.W.findIn K (.ref C) "__setattr__" = some (some (.builtin "object.__setattr__"))
  ga : PySem.W.findIn K (.ref C) "__getattribute__" = some (some (.builtin "BaseException.__getattribute__"))
  gt : PySem.W.findIn K (.ref C) "__getattr__" = some none
  sub : PySem.W.subIn K (.ref C) (.type "BaseException") = some true
  keep : PySem.W.keepIn K (.ref C) = true
  cl : PySem.W.findIn K (.ref C) "__class__" = some (some (.builtin "object.__class__"))
  gg : PySem.W.specialIn K (.builtin "object.__class__") "__get__" = some (some (.builtin "getset_descriptor.__get__"))
  tk : PySem.W.takesIn K (.builtin "object.__class__") = some true
  mo : PySem.W.mroIn K C (.type "object") = some true
section
variable {X : Cx} {pins : List (Addr × Obj)} {σ : L2.St} {H : Hp} {s : Shared} {a C dx : Addr} {f : Str} {y : V} {u : Value} {fs : List (Str × V)}
  {B newId initId : String} {bmB : List Value} {A : Around} {E : Value → Shared → Prop}
/-- self.f = y, the first field: the exception gets its dict -/
theorem put_first {Q : Unit → Shared → Prop} (T : ExK X.K C B newId initId bmB) (I : Inv X pins σ H s) (e : H a = some (exo a C none))
    (free : PySem.W.takerIn X.K C f = some none) (ry : RelV y u)
    (h : ∀ dx s', H dx = none → dx ≠ a → Inv X pins σ (upd (upd H dx (exd dx [(f, y)])) a (exo a C (some dx))) s' → Q () s') :
    wpAny (model X.prog X.w) A (setAttr (.ref a) f u) Q E s := by
  obtain ⟨t1, ho⟩ := exo_at I.hok e
  obtain ⟨hp, g, d, t, os⟩ := s
  refine PySem.W.set_plain I.kIn (ox := { cls := .ref C, dict := none, data := .fields #[.ref t1, .none, .none, .none, .bool false, .none] }) (od := none) ⟨ho, rfl, rfl, trivial⟩ T.sa ?_
  refine PySem.EK.first_field T.store I.kIn ho T.over free T.dct ?_
  intro h' tk' dx keeps new apart at_a ns
  have n0 : H dx = none := I.hok.fresh new
  have old : ∀ {b : Addr} {o : Obj}, hp.get? b = some o → b ≠ dx := fun {b o} z => Nat.ne_of_lt (Nat.lt_of_lt_of_le (Heap.lt_size z) new)
  have other : ∀ {b : Addr}, H b = none → b ≠ a := fun {b} n z => by
    rw [z, e] at n
    cases n
  have un : Un X.fs [] H (upd (upd H dx (exd dx [(f, y)])) a (exo a C (some dx))) hp h' :=
    { keep := fun b o z n _ _ => keeps b o (other n) z
      slot := fun b o z n _ _ => ⟨o.slots, keeps b o (other n) z⟩
      free := fun b o z n _ => by
        rw [upd_ne (other n), upd_ne (old z)]
        exact n
      there := fun b o z _ => by
        by_cases hb : b = a
        · exact ⟨_, by rw [hb]; exact at_a⟩
        · exact ⟨o, keeps b o hb z⟩
      tups := fun b xs z => by
        rw [upd_ne (at_ne e z exo_tup), upd_ne (ne_of_none z n0)]
        exact z
      frzs := fun b o v z => by
        rw [upd_ne (at_ne e z exo_frz), upd_ne (ne_of_none z n0)]
        exact z
      tbls := fun b ps z => ⟨#[], by
        rw [upd_ne (at_ne e z exo_tbl), upd_ne (ne_of_none z n0), z]
        simp⟩ }
  refine h dx _ n0 apart (I.un (t' := tk') un ?_)
  intro b o z
  by_cases hb : b = a
  · subst hb
    rw [upd_same] at z
    cases z
    exact exo_ok at_a
  rw [upd_ne hb] at z
  by_cases hd : b = dx
  · subst hd
    rw [upd_same] at z
    cases z
    exact exd_ok ns (relO_put (fs := []) ry fun _ => True.intro)
  rw [upd_ne hd] at z
  refine (I.hok b o z).stay ?_ ?_ ?_
  · intro c v hc r
    refine keeps c v ?_ r
    rcases hc with hc | hc
    · rw [hc]
      exact hb
    · exact at_ne e hc exo_own
  · intro c hc
    rw [upd_ne (at_ne e hc exo_own), upd_ne (ne_of_none hc n0)]
    exact hc
  · intro c xs hc
    rw [upd_ne (at_ne e hc exo_tup), upd_ne (ne_of_none hc n0)]
    exact hc
/-- self.f = y, a further field -/
theorem put_next {Q : Unit → Shared → Prop} (T : ExK X.K C B newId initId bmB) (I : Inv X pins σ H s) (e : H a = some (exo a C (some dx))) (ed : H dx = some (exd dx fs))
    (few : fs.length ≤ 900) (free : PySem.W.takerIn X.K C f = some none) (ry : RelV y u)
    (h : ∀ s', Inv X pins σ (upd H dx (exd dx ((f, y) :: fs))) s' → Q () s') : wpAny (model X.prog X.w) A (setAttr (.ref a) f u) Q E s := by
  obtain ⟨t1, ho⟩ := exo_at I.hok e
  obtain ⟨mA, ns, rel⟩ := exd_at I.hok ed
  have within := within_of rel
  obtain ⟨hp, g, d, t, os⟩ := s
  obtain ⟨oD, _, _, hoD, _, _⟩ := ns.count within
  refine PySem.W.set_plain I.kIn (ox := { cls := .ref C, dict := some dx, data := .fields #[.ref t1, .none, .none, .none, .bool false, .none] }) (od := some oD) ⟨ho, rfl, rfl, hoD⟩ T.sa ?_
  refine PySem.EK.next_field T.store I.kIn ho ns within (by rw [List.length_map]; omega) T.over free T.dct ?_
  intro h' tk' keeps ns'
  obtain ⟨o', _, _, there, _⟩ := id ns'
  exact h _ (I.write (t' := tk') (x := dx) (e := dx) (o := exd dx ((f, y) :: fs)) (by rw [ed]; exact True.intro) (.inl rfl) keeps ⟨o', there⟩ (exd_ok ns' (relO_put ry rel)))
end
/-- self.f = e, self an exception of the class at C -/
def tPut (f : Str) (C : Addr) (to te : TE) : TS := fun D σ H => te σ H fun y H1 => to σ H1 fun x H2 => ∃ a : Addr, x = .ref a ∧
  ((H2 a = some (exo a C none) ∧ ∀ dx, H2 dx = none → dx ≠ a → D.nx σ (upd (upd H2 dx (exd dx [(f, y)])) a (exo a C (some dx)))) ∨
    ∃ (dx : Addr) (fs : List (Str × V)), H2 a = some (exo a C (some dx)) ∧ H2 dx = some (exd dx fs) ∧ fs.length ≤ 900 ∧ D.nx σ (upd H2 dx (exd dx ((f, y) :: fs))))
section
variable {X : Cx} {o e : Expr} {es : List Expr} {to te : TE} {ta : TA} {f : Str} {p p' p1 p2 pos : Pos} {C : Addr} {B newId initId : String} {bmB : List Value}
theorem ps_put (T : ExK X.K C B newId initId bmB) (free : PySem.W.takerIn X.K C f = some none) (ho : PE X o to) (he : PE X e te)
    (hs : swapsWith e (some (.Attribute o f p')) pos.line X.env = pure false := by rfl) : PS X (.Assign [.Attribute o f p'] e pos) (tPut f C to te) := by
  constructor
  intro pins s σ H D I h
  refine plainObj_wpAny_Assign_Attribute (thn (he.run pins s σ H _ I h) ?_) hs
  rintro v s1 ⟨y, H1, I1, r1, q1⟩
  refine thn (ho.run pins s1 σ H1 _ I1 q1) ?_
  rintro u s2 ⟨x, H2, I2, r2, a, ex, q⟩
  subst ex
  cases (show u = Value.ref a from r2)
  rcases q with ⟨ea, q⟩ | ⟨dx, fs, ea, ed, few, q⟩
  · exact put_first T I2 ea free r1 fun dx s' n ne J => ⟨σ, _, J, q dx n ne⟩
  · exact put_next T I2 ea ed few free r1 fun s' J => ⟨σ, _, J, q⟩
end
/-- a fresh exception -/
def spIn1 (C : Addr) (f : Str) : Sp := fun vs H Q _ => ∃ (a : Addr) (v : V), vs = [.ref a, v] ∧ H a = some (exo a C none) ∧
  ∀ d, H d = none → d ≠ a → Q .non (upd (upd H d (exd d [(f, v)])) a (exo a C (some d)))
def spIn2 (C : Addr) (f g : Str) : Sp := fun vs H Q _ => ∃ (a : Addr) (v u : V), vs = [.ref a, v, u] ∧ H a = some (exo a C none) ∧
  ∀ d, H d = none → d ≠ a → Q .non (upd (upd (upd H d (exd d [(f, v)])) a (exo a C (some d))) d (exd d [(g, u), (f, v)]))
section
variable {P : Program} {w : World} {K : PySem.W.Frag} {mg : Str → Option Value} {base : Heap} {fI C : Addr} {fd : FuncData} {st : Stmt} {qual f g : Str}
  {B newId initId : String} {bmB : List Value} {q1 q2 q3 q4 q5 q6 q7 q8 : Pos}
theorem ok_in1 (F : Fun K "__init__" qual st fI fd) (S : FnScope ["self", f] ["self", f] (defScope st))
    (hb : defBody st = [.Assign [.Attribute (.Name "self" q1) f q2] (.Name f q3) q4]) (v1 : Vis (defScope st) "self") (v2 : Vis (defScope st) f)
    (hd : (f == ("__debug__" : Str)) = false) (hc : (f == ("__classdict__" : Str)) = false) (T : ExK K C B newId initId bmB) (free : PySem.W.takerIn K C f = some none) :
    FnOk P w K mg base CX0 1 fI fd ["self", f] (spIn1 C f) := by
  refine F.ok S (fun vs H Q E h => ?_) (fun cdv A outer s H vs Q E hr h => ?_)
  · obtain ⟨a, v, rfl, _⟩ := h
    rfl
  obtain ⟨a, v, rfl, ha, q⟩ := h
  rw [hb]
  refine ⟨_, pss_one (ps_put T free (pe_var (i := 0) rfl v1) (pe_var (i := 1) rfl v2 hd hc)), ?_⟩
  exact ⟨_, rfl, _, rfl, a, rfl, .inl ⟨ha, fun d n ne => q d n ne⟩⟩
theorem ok_in2 (F : Fun K "__init__" qual st fI fd) (S : FnScope ["self", f, g] ["self", f, g] (defScope st))
    (hb : defBody st = [.Assign [.Attribute (.Name "self" q1) f q2] (.Name f q3) q4, .Assign [.Attribute (.Name "self" q5) g q6] (.Name g q7) q8])
    (v1 : Vis (defScope st) "self") (v2 : Vis (defScope st) f) (v3 : Vis (defScope st) g)
    (hd : (f == ("__debug__" : Str)) = false) (hc : (f == ("__classdict__" : Str)) = false) (hd2 : (g == ("__debug__" : Str)) = false) (hc2 : (g == ("__classdict__" : Str)) = false)
    (T : ExK K C B newId initId bmB) (free : PySem.W.takerIn K C f = some none) (free2 : PySem.W.takerIn K C g = some none) :
    FnOk P w K mg base CX0 1 fI fd ["self", f, g] (spIn2 C f g) := by
  refine F.ok S (fun vs H Q E h => ?_) (fun cdv A outer s H vs Q E hr h => ?_)
  · obtain ⟨a, v, u, rfl, _⟩ := h
    rfl
  obtain ⟨a, v, u, rfl, ha, q⟩ := h
  rw [hb]
  refine ⟨_, pss_cons (ps_put T free (pe_var (i := 0) rfl v1) (pe_var (i := 1) rfl v2 hd hc)) (pss_one (ps_put T free2 (pe_var (i := 0) rfl v1) (pe_var (i := 2) rfl v3 hd2 hc2))), ?_⟩
  refine ⟨_, rfl, _, rfl, a, rfl, .inl ⟨ha, fun d n ne => ?_⟩⟩
  refine ⟨_, rfl, _, rfl, a, rfl, .inr ⟨d, [(f, v)], upd_same, ?_, (by show 1 ≤ 900; decide), q d n ne⟩⟩
  rw [upd_ne ne]
  exact upd_same
end

/-! C(..) as a value -/
section
variable {X : Cx} {pins : List (Addr × Obj)} {σ : L2.St} {H : Hp} {s : Shared} {C fI : Addr} {fd : FuncData} {ps : List Str} {sp : Sp} {k : Nat}
  {B newId initId : String} {bmB : List Value}
theorem run_mk {Q : VK} {us bs : List Value} {kw : List (Str × Value)} {vs : List V} (T : ExK X.K C B newId initId bmB)
    (hi : PySem.W.findIn X.K (.ref C) "__init__" = some (some (.ref fI))) (tI : PySem.W.typeIn X.K (.ref fI) = some (.type "function"))
    (F : FnOk X.prog X.w X.K X.mg X.base CX0 k fI fd ps sp) (room : Room (k + 1) X.A) (I : Inv X pins σ H s) (rel : Vals vs bs)
    (binds : ∀ (s : Shared) (self : Value), X.K.In s.heap → BindsTo s fd ⟨self :: us, kw⟩ (ps.zip (self :: bs))) (small : us.length ≤ sizeLine)
    (q : ∀ a, H a = none → sp (.ref a :: vs) (upd H a (exo a C none)) (fun v H2 => v = .non ∧ Q (.ref a) H2) E0) :
    wpAny (model X.prog X.w) X.A (call (.ref C) us kw) (EP X pins σ Q) X.xe s := by
  obtain ⟨nm, N, qn, bs0, bm, hdct, sn, sub, ab, col, dd, k0, k1, k2, k3, k5, hC, same⟩ := PySem.W.excInit_of I.kIn T.made
  obtain ⟨hp, g, dr, tk, os⟩ := s
  have above : hp.objs.size ≤ hp.objs.size + 1 := Nat.le_succ _
  have n0 : H (hp.objs.size + 1) = none := I.hok.fresh above
  have q0 := q _ n0
  have J : Inv X pins σ (upd H (hp.objs.size + 1) (exo (hp.objs.size + 1) C none)) ⟨PySem.EK.madeHeap hp C us, g, dr, tk, os⟩ :=
    I.laid (t' := tk) (h' := PySem.EK.madeHeap hp C us) (fun b o e => PySem.EK.made_keep b o e) above (exo_ok PySem.EK.made_at)
  have rel2 : Vals (V.ref (hp.objs.size + 1) :: vs) (Value.ref (hp.objs.size + 1) :: bs) := .cons rfl rel
  refine wpAny_call (PySem.EK.run_call T.facts same hC (PySem.W.looks_findIn I.kIn hi) (fun self => PySem.W.bind_fn I.kIn self tI) small ?_)
  refine codeAny_mono (F.run _ X.stack _ _ ⟨Value.ref (hp.objs.size + 1) :: us, kw⟩ _ _ _ E0 (room.make C us kw) (J.env0.make C us kw) (binds _ _ J.kIn) rel2 q0) ?_
  intro r s' hr
  cases r with
  | error e => exact (show False from hr).elim
  | ok fl =>
    cases fl with
    | ret u =>
      obtain ⟨v, H2, J2, rv, ev, q2⟩ := J.after hr
      subst ev
      exact ⟨rv, ⟨V.ref (hp.objs.size + 1), H2, J2, rfl, q2⟩⟩
    | next => exact hr.elim
    | brk => exact hr.elim
    | cont => exact hr.elim
end
/-- C(e, ..) -/
def tMk (C : Addr) (sp : Sp) (ta : TA) : TE := fun σ H Q => ta σ H fun vs H1 => vs.length ≤ 100 ∧ ∀ a, H1 a = none →
  sp (.ref a :: vs) (upd H1 a (exo a C none)) (fun v H2 => v = .non ∧ Q (.ref a) H2) E0
def tMkK (C : Addr) (sp : Sp) (gV : List V → List V) (tk : TA) : TE := fun σ H Q => tk σ H fun vs H1 => ∀ a, H1 a = none →
  sp (.ref a :: gV vs) (upd H1 a (exo a C none)) (fun v H2 => v = .non ∧ Q (.ref a) H2) E0
section
variable {X : Cx} {C fI : Addr} {fd : FuncData} {ps ks : List Str} {sp : Sp} {k : Nat} {B newId initId : String} {bmB : List Value}
  {x : Str} {p pos : Pos} {e : Expr} {es : List Expr} {t tk : TA} {kws : List Keyword}
theorem pe_mk (T : ExK X.K C B newId initId bmB)
    (hi : PySem.W.findIn X.K (.ref C) "__init__" = some (some (.ref fI))) (tI : PySem.W.typeIn X.K (.ref fI) = some (.type "function"))
    (F : FnOk X.prog X.w X.K X.mg X.base CX0 k fI fd ps sp) (hb : Binds X.K fd ps []) (room : Room (k + 1) X.A) (hg : Gl X x) (hm : X.mg x = some (.ref C)) (ha : PA X (e :: es) t)
    (hdb : (x == ("__debug__" : Str)) = false := by decide) (he : starEach (e :: es) X.env = (false, eval e X.env) :: starEach es X.env := by rfl)
    (hpl : (backTo pos (starEach es X.env)).any (·.1) = false := by rfl) : PE X (.Call (.Name x p) (e :: es) [] pos) (tMk C sp t) := by
  constructor
  intro pins s σ H Q I h
  refine wpAny_Call_Name_kw (ld_glob I hg hm ?_ hdb)
  refine PySem.W.callWith_K (h₀ := X.base) I.ok.mod.kin T.keep ?_ he hpl
  refine thn (ha.run pos pins s σ H _ I h) ?_
  rintro us s1 ⟨vs, H1, J, r, hl, q⟩
  refine ⟨J.kIn, ?_⟩
  have hlen : (Value.none :: us).length = ps.length := by
    have z := F.len _ _ _ _ (q s1.heap.objs.size (J.hok.fresh (Nat.le_refl _)))
    rw [← z, List.length_cons, List.length_cons, r.length]
  refine run_mk (bs := us) (kw := []) T hi tI F room J r (fun s' self hK => ?_) (by show us.length ≤ sizeLine; rw [← r.length]; exact small_line (by omega)) q
  have z := hb s' (self :: us) hK (by rw [List.append_nil]; exact hlen)
  rw [List.append_nil] at z
  exact z
theorem pe_mkK (T : ExK X.K C B newId initId bmB) {g : List Value → List Value} {gV : List V → List V}
    (hi : PySem.W.findIn X.K (.ref C) "__init__" = some (some (.ref fI))) (tI : PySem.W.typeIn X.K (.ref fI) = some (.type "function"))
    (F : FnOk X.prog X.w X.K X.mg X.base CX0 k fI fd ps sp) (hgV : ∀ vs us, Vals vs us → Vals (gV vs) (g us))
    (hb : ∀ (s : Shared) (self : Value) (ws : List Value), ws.length = ks.length → BindsTo s fd ⟨[self], ks.zip ws⟩ (ps.zip (self :: g ws)))
    (room : Room (k + 1) X.A) (hg : Gl X x) (hm : X.mg x = some (.ref C)) (hkw : PK X kws tk) (hn : ∀ σ H Q, tk σ H Q → tk σ H fun vs H1 => vs.length = ks.length ∧ Q vs H1)
    (hall : (backToKw pos (keywordEach kws X.env)).all (·.1.isSome) = true := by rfl) (hks : (backToKw pos (keywordEach kws X.env)).filterMap (·.1) = ks := by rfl)
    (hdb : (x == ("__debug__" : Str)) = false := by decide)
    (hpl : ((backTo pos (starEach [] X.env)).any (·.1) || (backToKw pos (keywordEach kws X.env)).any (·.1.isNone)) = false := by rfl) :
    PE X (.Call (.Name x p) [] kws pos) (tMkK C sp gV tk) := by
  constructor
  intro pins s σ H Q I h
  refine wpAny_Call_Name_kw (ld_glob I hg hm ?_ hdb)
  refine PySem.W.callWith_KW0 (h₀ := X.base) I.ok.mod.kin T.keep hall ?_ hpl
  refine thn (hkw.run pos pins s σ H _ I (hn _ _ _ h)) ?_
  rintro ws s1 ⟨vs, H1, J, r, hl, q⟩
  refine ⟨J.kIn, ?_⟩
  rw [hks]
  exact run_mk (us := []) (bs := g ws) (kw := ks.zip ws) T hi tI F room J (hgV _ _ r) (fun s' self _ => hb s' self ws (by rw [← r.length]; exact hl)) (small_line (by decide)) q
end
/-- o.f of an exception that has its dict -/
def tGet (C : Addr) (f : Str) (to : TE) : TE := fun σ H Q => to σ H fun x H1 => ∃ (a d : Addr) (fs : List (Str × V)) (v : V), x = .ref a ∧ H1 a = some (exo a C (some d)) ∧ H1 d = some (exd d fs) ∧ fs.lookup f = some v ∧ Q v H1
theorem pe_get {X : Cx} {o : Expr} {to : TE} {f : Str} {pos : Pos} {C : Addr} {B newId initId : String} {bmB : List Value} (T : ExK X.K C B newId initId bmB) (hno : PySem.W.findIn X.K (.ref C) f = some none) (ho : PE X o to)
    (hb : attributeBase o f X.env (eval o X.env) = eval o X.env := by rfl) : PE X (.Attribute o f pos) (tGet C f to) := by
  constructor
  intro pins s σ H Q I h
  refine attr_of hb (thn (ho.run pins s σ H _ I h) ?_)
  rintro u s1 ⟨x, H1, J, r, a, d, fs, v, ex, ea, ed, hv, q⟩
  subst ex
  cases (show u = Value.ref a from r)
  obtain ⟨t1, hobj⟩ := exo_at J.hok ea
  obtain ⟨mA, ns, rel⟩ := exd_at J.hok ed
  have rv := rel f
  rw [hv] at rv
  obtain ⟨u', hu, ru⟩ := RelO.some_of rv
  obtain ⟨od, hod, look⟩ := lookIn_ns ns
  have inst : PySem.W.InstAt s1.heap a { cls := .ref C, dict := some d, data := .fields #[.ref t1, .none, .none, .none, .bool false, .none] } C (some od) := ⟨hobj, rfl, rfl, hod⟩
  exact PySem.PX.exc_get J.kIn inst T.ga T.gt T.sub (PySem.W.findObj_own T.dct hno rfl (by rw [look, hu])) (handed_of ru) ⟨v, H1, J.tok _, ru, q⟩
/-- isinstance(e, c), e an exception -/
def rIsX (K : PySem.W.Frag) : List V → Hp → VK → Prop := fun xs H Q => ∃ (a C : Addr) (d : Option Addr) (c : V) (cv : Value) (b : Bool), xs = [.ref a, c] ∧ H a = some (exo a C d) ∧ (∀ x, d = some x → ∃ fs, H x = some (exd x fs)) ∧
  ClsV c cv ∧ PySem.W.kitOne K (.ref C) cv = some b ∧ Q (.bl b) H
/-- the classes that a law's exceptions are of -/
def ExAll (K : PySem.W.Frag) (P : Addr → Prop) : Prop := ∀ C, P C → ∃ B newId initId bmB, ExK K C B newId initId bmB
theorem call_isX {X : Cx} {P : Addr → Prop} (T : ExAll X.K P) : CallR X (.builtin "isinstance") (fun xs H Q => rIsX X.K xs H Q ∧ ∀ a c, xs = [.ref a, c] → ∀ C d, H a = some (exo a C d) → P C) := by
  intro pins s σ H xs us Q I r h
  obtain ⟨⟨a, C, d, c, cv, b, rfl, ha, hd, hc, e, q⟩, hP⟩ := h
  obtain ⟨u1, u2, rfl, r1, r2⟩ := vals2 r
  cases (show u1 = Value.ref a from r1)
  have e2 := hc.eq r2
  subst e2
  obtain ⟨B, newId, initId, bmB, K0⟩ := T C (hP a c rfl C d ha)
  obtain ⟨t1, hobj⟩ := exo_at I.hok ha
  obtain ⟨cd, hcd, _⟩ := PySem.W.any_some K0.dct
  have hcl : (PySem.W.clsIn X.K C).isSome = true := by
    rw [hcd]
    rfl
  cases d with
  | none =>
    have inst : PySem.W.InstAt s.heap a { cls := .ref C, dict := none, data := .fields #[.ref t1, .none, .none, .none, .bool false, .none] } C none := ⟨hobj, rfl, rfl, trivial⟩
    exact PySem.W.kia_one (PySem.W.kitx_exc hcl K0.ga K0.gt K0.sub K0.cl K0.gg K0.tk K0.mo) I.kIn inst e (fun z => nomatch z) fun tk => ⟨.bl b, H, I.tok tk, rfl, q⟩
  | some x =>
    obtain ⟨fs, ex⟩ := hd x rfl
    obtain ⟨mA, ns, rel⟩ := exd_at I.hok ex
    obtain ⟨od, hod, look⟩ := lookIn_ns ns
    have inst : PySem.W.InstAt s.heap a { cls := .ref C, dict := some x, data := .fields #[.ref t1, .none, .none, .none, .bool false, .none] } C (some od) := ⟨hobj, rfl, rfl, hod⟩
    exact PySem.W.kia_one (PySem.W.kitx_exc hcl K0.ga K0.gt K0.sub K0.cl K0.gg K0.tk K0.mo) I.kIn inst e (fun z => nomatch z) fun tk => ⟨.bl b, H, I.tok tk, rfl, q⟩
end Hx

namespace Hx
open PySem PySem.Spec PyProof.Rows L2
/-! comparing data -/
section
variable {X : Cx}
def rNeQ : R2 := fun x y H Q => ∃ d e, Dq H x d ∧ Dq H y e ∧ SeqAt.shaped d = true ∧ SeqAt.shaped e = true ∧ Q (.bl (!PyData.eqv d e)) H
def rEqQ : R2 := fun x y H Q => ∃ d e, Dq H x d ∧ Dq H y e ∧ SeqAt.shaped d = true ∧ SeqAt.shaped e = true ∧ Q (.bl (PyData.eqv d e)) H
theorem op_neQ (hu : X.A.units + 64 < cLine) : OpR X (compareOp .NotEq) rNeQ := by
  intro pins s σ H x y v u Q I rx ry h
  obtain ⟨d, e, hd, he, sd, se, q⟩ := h
  obtain ⟨as, r1, _⟩ := Dq.reads I d x v hd rx
  obtain ⟨bs, r2, _⟩ := Dq.reads I e y u he ry
  exact SeqAt.compareNe_shaped r1 r2 sd se hu ⟨.bl _, H, I, rfl, q⟩
theorem op_eqQ (hu : X.A.units + 64 < cLine) : OpR X (compareOp .Eq) rEqQ := by
  intro pins s σ H x y v u Q I rx ry h
  obtain ⟨d, e, hd, he, sd, se, q⟩ := h
  obtain ⟨as, r1, _⟩ := Dq.reads I d x v hd rx
  obtain ⟨bs, r2, _⟩ := Dq.reads I e y u he ry
  exact SeqAt.compareEq_shaped r1 r2 sd se hu ⟨.bl _, H, I, rfl, q⟩
end
/-! comprehensions that make data -/
def without (D : Addr) (H : Hp) : Hp := fun b => if b = D then none else H b
def newPart (H H' : Hp) : Hp := fun b => if H b = none then H' b else none
theorem without_some {D b : Addr} {H : Hp} {o : HO} (h : without D H b = some o) : b ≠ D ∧ H b = some o := by
  unfold without at h
  split at h
  · cases h
  · exact ⟨by assumption, h⟩
theorem without_at {D b : Addr} {H : Hp} {o : HO} (n : b ≠ D) (h : H b = some o) : without D H b = some o := by
  unfold without
  rw [if_neg n]
  exact h
theorem newPart_some {b : Addr} {H H' : Hp} {o : HO} (h : newPart H H' b = some o) : H b = none ∧ H' b = some o := by
  unfold newPart at h
  split at h
  · exact ⟨by assumption, h⟩
  · cases h
theorem newPart_at {b : Addr} {H H' : Hp} {o : HO} (n : H b = none) (h : H' b = some o) : newPart H H' b = some o := by
  unfold newPart
  rw [if_pos n]
  exact h
theorem without_same {D : Addr} {H : Hp} : Same (without D H) H := fun b o h => (without_some h).2
theorem newPart_same {H H' : Hp} : Same (newPart H H') H' := fun b o h => (newPart_some h).2
theorem without_upd {D : Addr} {H : Hp} {o : HO} : without D (upd H D o) = without D H := by
  funext b
  unfold without
  split
  · rfl
  · rw [upd_ne (by assumption)]
theorem DqAll.snoc {H : Hp} {v : V} {d : PyData} : ∀ {vs : List V} {ds : List PyData}, DqAll H vs ds → Dq H v d → DqAll H (vs ++ [v]) (ds ++ [d])
  | _, _, .nil, h => .cons h .nil
  | _, _, .cons a r, h => .cons a (DqAll.snoc r h)
theorem DqAll.len {H : Hp} : ∀ {vs : List V} {ds : List PyData}, DqAll H vs ds → vs.length = ds.length
  | _, _, .nil => rfl
  | _, _, .cons _ r => congrArg Nat.succ (DqAll.len r)
/-- what a turn's element must do: a new datum, all else as it was -/
def Gives (te : TE) (σ : L2.St) (H : Hp) (d : PyData) : Prop := ∀ Q : VK, (∀ y H', Same H H' → Dq (newPart H H') y d → Q y H') → te σ H Q
def LcAt (H1 : Hp) (D : Addr) (f : Nat → PyData) (i : Nat) (H' : Hp) : Prop :=
  Same H1 H' ∧ ∃ xs, H' D = some (.lst xs) ∧ DqAll (without D H') xs ((List.range i).map f)
theorem LcAt.start {H1 : Hp} {D : Addr} {f : Nat → PyData} (hD : H1 D = none) : LcAt H1 D f 0 (upd H1 D (.lst [])) := ⟨same_new hD _, [], upd_same, .nil⟩
theorem LcAt.turn {H1 H' H2 : Hp} {D : Addr} {f : Nat → PyData} {i : Nat} {y : V} (hD : H1 D = none) (h : LcAt H1 D f i H') (s : Same H' H2) (hy : Dq (newPart H' H2) y (f i)) (hi : i < 100000) :
    ∃ acc, H2 D = some (.lst acc) ∧ acc.length < sizeLine ∧ LcAt H1 D f (i + 1) (upd H2 D (.lst (acc ++ [y]))) := by
  obtain ⟨s1, xs, hx, ha⟩ := h
  have hlen := ha.len
  rw [List.length_map, List.length_range] at hlen
  refine ⟨xs, s _ _ hx, by rw [hlen]; exact Nat.lt_of_lt_of_le hi (by decide), ?_, xs ++ [y], upd_same, ?_⟩
  · intro b o hb
    rw [upd_ne (ne_of_none hb hD)]
    exact s _ _ (s1 _ _ hb)
  · rw [without_upd, List.range_succ, List.map_append]
    refine DqAll.snoc (DqAll.same (fun b o hb => ?_) _ _ ha) (Dq.same (fun b o hb => ?_) _ _ hy)
    · obtain ⟨n, e⟩ := without_some hb
      exact without_at n (s _ _ e)
    · obtain ⟨n, e⟩ := newPart_some hb
      exact without_at (fun z => by rw [z, hx] at n; cases n) e
theorem lc_data_range {n : Nat} {i0 : Nat} {te : TE} {vs : List Nat} {σ : L2.St} {H1 : Hp} {D : Addr} {Qd : Hp → Prop} (f : Nat → PyData) (hD : H1 D = none) (hn : n ≤ 100000)
    (hw : ∀ x : V, wipe ((wipe σ vs).set i0 (some x)) vs = wipe σ vs)
    (hs : ∀ i H', i < n → Same H1 H' → Gives te ((wipe σ vs).set i0 (some (.int (i : Nat)))) H' (f i))
    (hd : ∀ H' xs, Same H1 H' → H' D = some (.lst xs) → DqAll H' xs ((List.range n).map f) → Qd H') :
    ∃ W : Nat → Nat → Hp → Prop, (∃ m, W 0 m (upd H1 D (.lst []))) ∧ ∀ i m H, W i m H →
      ((Itr 0 n).stop i H ∧ Qd H) ∨ ((Itr 0 n).go i H ∧ ∃ Nx : Hp → Prop, (∀ H', Nx H' → ∃ m', m' < m ∧ W (i + 1) m' H') ∧
        ∀ x H', (Itr 0 n).yld i H x H' → gName i0 x (wipe σ vs) H' fun σ2 H2 => wipe σ2 vs = wipe σ vs ∧ tYes σ2 H2 fun b H3 =>
          if b = true then te σ2 H3 fun y H4 => ∃ acc, H4 D = some (.lst acc) ∧ acc.length < sizeLine ∧ Nx (upd H4 D (.lst (acc ++ [y]))) else Nx H3) := by
  refine lc_range (lo := 0) (n := n) (LcAt H1 D f) (LcAt.start hD) ?_ ?_
  · intro i H' hi h
    refine ⟨hw _, turn_yes ?_⟩
    have e : (V.int (0 + (i : Int))) = V.int ((i : Nat) : Int) := by rw [Int.zero_add]
    rw [e]
    exact hs i H' hi h.1 _ fun y H2 s hy => h.turn hD s hy (by omega)
  · rintro H' ⟨s1, xs, hx, ha⟩
    exact hd H' xs s1 hx (DqAll.same without_same _ _ ha)
theorem lc_data_list {K : PySem.W.Frag} {a : Addr} {ws : List V} {i0 : Nat} {te : TE} {vs : List Nat} {σ : L2.St} {H1 : Hp} {D : Addr} {Qd : Hp → Prop} (f : Nat → PyData) (hD : H1 D = none) (hn : ws.length ≤ 100000)
    (hl : SqL K H1 a ws) (hw : ∀ x : V, wipe ((wipe σ vs).set i0 (some x)) vs = wipe σ vs)
    (hs : ∀ i x H', ws[i]? = some x → Same H1 H' → Gives te ((wipe σ vs).set i0 (some x)) H' (f i))
    (hd : ∀ H' xs, Same H1 H' → H' D = some (.lst xs) → DqAll H' xs ((List.range ws.length).map f) → Qd H') :
    ∃ W : Nat → Nat → Hp → Prop, (∃ m, W 0 m (upd H1 D (.lst []))) ∧ ∀ i m H, W i m H →
      ((Itl K a).stop i H ∧ Qd H) ∨ ((Itl K a).go i H ∧ ∃ Nx : Hp → Prop, (∀ H', Nx H' → ∃ m', m' < m ∧ W (i + 1) m' H') ∧
        ∀ x H', (Itl K a).yld i H x H' → gName i0 x (wipe σ vs) H' fun σ2 H2 => wipe σ2 vs = wipe σ vs ∧ tYes σ2 H2 fun b H3 =>
          if b = true then te σ2 H3 fun y H4 => ∃ acc, H4 D = some (.lst acc) ∧ acc.length < sizeLine ∧ Nx (upd H4 D (.lst (acc ++ [y]))) else Nx H3) := by
  refine lc_list (K := K) (a := a) (xs := ws) (LcAt H1 D f) (LcAt.start hD) (fun i H' _ h => h.1.seq hl) ?_ ?_
  · intro i x H' hi h
    have lt : i < ws.length := (List.getElem?_eq_some_iff.mp hi).1
    refine ⟨hw _, turn_yes ?_⟩
    exact hs i x H' hi h.1 _ fun y H2 s hy => h.turn hD s hy (by omega)
  · rintro H' ⟨s1, xs, hx, ha⟩
    exact hd H' xs s1 hx (DqAll.same without_same _ _ ha)
/-! isinstance of an exception -/
/-- at a stands an exception of the class at C -/
def XAt (H : Hp) (a C : Addr) : Prop := ∃ d, H a = some (exo a C d) ∧ ∀ x, d = some x → ∃ fs, H x = some (exd x fs)
theorem XAt.same {H H' : Hp} {a C : Addr} (h : XAt H a C) (s : Same H H') : XAt H' a C := by
  obtain ⟨d, e, k⟩ := h
  refine ⟨d, s _ _ e, fun x hx => ?_⟩
  obtain ⟨fs, z⟩ := k x hx
  exact ⟨fs, s _ _ z⟩
def tIs (i : Nat) (a C : Addr) (b : Bool) : TE := fun σ H Q => σ[i]? = some (some (.ref a)) ∧ XAt H a C ∧ Q (.bl b) H
section
variable {X : Cx} {a C : Addr} {i : Nat} {x : Str} {p p1 pos : Pos} {ce : Expr} {c : V} {cv : Value} {b : Bool} {B newId initId : String} {bmB : List Value}
theorem call_isK (T : ExK X.K C B newId initId bmB) : CallR X (.builtin "isinstance") (fun xs H Q => ∃ (a : Addr) (c : V) (cv : Value) (b : Bool), xs = [.ref a, c] ∧ XAt H a C ∧ ClsV c cv ∧ PySem.W.kitOne X.K (.ref C) cv = some b ∧ Q (.bl b) H) := by
  intro pins s σ H xs us Q I r h
  obtain ⟨a, c, cv, b, rfl, ⟨d, ha, hd⟩, hc, e, q⟩ := h
  obtain ⟨u1, u2, rfl, r1, r2⟩ := vals2 r
  cases (show u1 = Value.ref a from r1)
  have e2 := hc.eq r2
  subst e2
  obtain ⟨t1, hobj⟩ := exo_at I.hok ha
  obtain ⟨cd, hcd, _⟩ := PySem.W.any_some T.dct
  have hcl : (PySem.W.clsIn X.K C).isSome = true := by
    rw [hcd]
    rfl
  cases d with
  | none =>
    have inst : PySem.W.InstAt s.heap a { cls := .ref C, dict := none, data := .fields #[.ref t1, .none, .none, .none, .bool false, .none] } C none := ⟨hobj, rfl, rfl, trivial⟩
    exact PySem.W.kia_one (PySem.W.kitx_exc hcl T.ga T.gt T.sub T.cl T.gg T.tk T.mo) I.kIn inst e (fun z => nomatch z) fun tk => ⟨.bl b, H, I.tok tk, rfl, q⟩
  | some x =>
    obtain ⟨fs, ex⟩ := hd x rfl
    obtain ⟨mA, ns, rel⟩ := exd_at I.hok ex
    obtain ⟨od, hod, look⟩ := lookIn_ns ns
    have inst : PySem.W.InstAt s.heap a { cls := .ref C, dict := some x, data := .fields #[.ref t1, .none, .none, .none, .bool false, .none] } C (some od) := ⟨hobj, rfl, rfl, hod⟩
    exact PySem.W.kia_one (PySem.W.kitx_exc hcl T.ga T.gt T.sub T.cl T.gg T.tk T.mo) I.kIn inst e (fun z => nomatch z) fun tk => ⟨.bl b, H, I.tok tk, rfl, q⟩
theorem pe_is (T : ExK X.K C B newId initId bmB) (hg : Gl X "isinstance") (hm : X.mg "isinstance" = none) (hx : PE X (.Name x p1) (tVar i)) (hc : PE X ce (tC c)) (cl : ClsV c cv)
    (hk : PySem.W.kitOne X.K (.ref C) cv = some b) (he1 : starEach [.Name x p1, ce] X.env = (false, eval (.Name x p1) X.env) :: starEach [ce] X.env := by rfl)
    (he2 : starEach [ce] X.env = (false, eval ce X.env) :: starEach [] X.env := by rfl)
    (hpl : (backTo pos (starEach [ce] X.env)).any (·.1) = false := by rfl) : PE X (.Call (.Name "isinstance" p) [.Name x p1, ce] [] pos) (tIs i a C b) := by
  constructor
  intro pins s σ H Q I h
  obtain ⟨h1, h2, h3⟩ := h
  exact (pe_callB (call_isK T) hg hm PyProof.Rows.boot_isinstance (pa_cons hx (pa_cons hc pa_nil he2) he1) (by decide) (by decide) he1 hpl).run pins s σ H Q I ⟨_, h1, a, c, cv, b, rfl, h2, cl, hk, h3⟩
end
/-- C(), C an own exception class without __init__ -/
theorem pe_mk0 {X : Cx} {C : Addr} {B newId initId : String} {bmB : List Value} {x : Str} {p pos : Pos} (F : ExcBaseFacts B newId initId bmB) (q : PySem.W.excIn X.K C bmB newId = true)
    (gC : X.mg x = some (.ref C)) (kC : PySem.W.keepIn X.K (.ref C) = true) (hg : Gl X x) (hdb : (x == ("__debug__" : Str)) = false := by decide) :
    PE X (.Call (.Name x p) [] [] pos) (fun σ H Q => ∀ a, H a = none → Q (.ref a) (upd H a (exo a C none))) := by
  constructor
  intro pins s σ H Q I h
  refine wpAny_Call_Name_kw (ld_glob I hg gC ?_ hdb)
  refine PySem.W.callWith_K0 I.kIn kC ?_
  show wpAny _ _ (call (.ref C) []) _ _ _
  obtain ⟨bm, N, nm, qn, bs, hdct, sn, sub, ab, col, dd, k0, k1, k2, k3, k5, mN, hC, hN, hni, T⟩ := exc_obj I.kIn q
  refine wpAny_call_exc_subT F T hC hN hni (fun h' a hm => ?_) (by show 0 ≤ sizeLine; exact Nat.zero_le _)
  have hn : H a = none := I.hok.gone hm.new
  obtain ⟨t, ht, _, _⟩ := hm.there
  exact ⟨.ref a, upd H a (exo a C none), I.laidN hm.keeps hm.new hn (exo_ok ht), rfl, h a hn⟩
end Hx

namespace Hx
open PySem PySem.Spec PyProof.Rows L2
/-- at a stands an exception of the class at C with these fields -/
def EAt (H : Hp) (a C : Addr) (fs : List (Str × V)) : Prop := ∃ d, H a = some (exo a C (some d)) ∧ H d = some (exd d fs)
theorem EAt.same {H H' : Hp} {a C : Addr} {fs : List (Str × V)} (h : EAt H a C fs) (s : Same H H') : EAt H' a C fs := by
  obtain ⟨d, h1, h2⟩ := h
  exact ⟨d, s _ _ h1, s _ _ h2⟩
theorem EAt.x {H : Hp} {a C : Addr} {fs : List (Str × V)} (h : EAt H a C fs) : XAt H a C := by
  obtain ⟨d, h1, h2⟩ := h
  refine ⟨some d, h1, fun x hx => ?_⟩
  cases hx
  exact ⟨fs, h2⟩
/-- an own exception class x at C whose __init__ keeps its one parameter f -/
structure MkC (P : Program) (w : World) (K : PySem.W.Frag) (mg : Str → Option Value) (base : Heap) (x : Str) (C : Addr) (f : Str) : Prop where
  go : ∃ (fI : Addr) (fd : FuncData) (B newId initId : String) (bmB : List Value), ExK K C B newId initId bmB ∧ PySem.W.findIn K (.ref C) "__init__" = some (some (.ref fI)) ∧
    PySem.W.typeIn K (.ref fI) = some (.type "function") ∧ FnOk P w K mg base CX0 1 fI fd ["self", f] (spIn1 C f) ∧ Binds K fd ["self", f] [] ∧
    ∀ (s : Shared) (self w1 : Value), BindsTo s fd ⟨[self], [(f, w1)]⟩ [("self", self), (f, w1)]
  m : mg x = some (.ref C)
  no : PySem.W.findIn K (.ref C) f = some none
structure MkC2 (P : Program) (w : World) (K : PySem.W.Frag) (mg : Str → Option Value) (base : Heap) (x : Str) (C : Addr) (f g : Str) : Prop where
  go : ∃ (fI : Addr) (fd : FuncData) (B newId initId : String) (bmB : List Value), ExK K C B newId initId bmB ∧ PySem.W.findIn K (.ref C) "__init__" = some (some (.ref fI)) ∧
    PySem.W.typeIn K (.ref fI) = some (.type "function") ∧ FnOk P w K mg base CX0 1 fI fd ["self", f, g] (spIn2 C f g) ∧ Binds K fd ["self", f, g] [] ∧
    ∀ (s : Shared) (self w1 w2 : Value), BindsTo s fd ⟨[self], [(g, w2), (f, w1)]⟩ [("self", self), (f, w1), (g, w2)]
  m : mg x = some (.ref C)
  no : PySem.W.findIn K (.ref C) f = some none
  no2 : PySem.W.findIn K (.ref C) g = some none
/-- X(y), y in slot i -/
def tNew (i : Nat) (C : Addr) (f : Str) : TE := fun σ H Q => ∃ v, σ[i]? = some (some v) ∧ ∀ a H', H a = none → Same H H' → EAt H' a C [(f, v)] → Q (.ref a) H'
def tNew2 (i j : Nat) (C : Addr) (f g : Str) : TE := fun σ H Q => ∃ v u, σ[i]? = some (some v) ∧ σ[j]? = some (some u) ∧ ∀ a H', H a = none → Same H H' → EAt H' a C [(g, u), (f, v)] → Q (.ref a) H'
theorem made_same {H : Hp} {a d C : Addr} {o o1 o2 : HO} (na : H a = none) (nd : upd H a o d = none) : Same H (upd (upd (upd H a o) d o1) a o2) := fun b u hb => by
  rw [upd_ne (ne_of_none hb na)]
  exact ((same_new na o).trans (same_new nd o1)) b u hb
section
variable {X : Cx} {x y z f g : Str} {C : Addr} {i j : Nat} {p py pz pos kp kq : Pos}
theorem pe_new (M : MkC X.prog X.w X.K X.mg X.base x C f) (room : Room 2 X.A) (hg : Gl X x) (hy : PE X (.Name y py) (tVar i))
    (hdb : (x == ("__debug__" : Str)) = false := by decide) (he : starEach [.Name y py] X.env = (false, eval (.Name y py) X.env) :: starEach [] X.env := by rfl)
    (hpl : (backTo pos (starEach [] X.env)).any (·.1) = false := by rfl) : PE X (.Call (.Name x p) [.Name y py] [] pos) (tNew i C f) := by
  obtain ⟨fI, fd, B, newId, initId, bmB, T, hi, tI, F, hb, _⟩ := M.go
  constructor
  intro pins s σ H Q I h
  obtain ⟨v, hv, q⟩ := h
  refine (pe_mk T hi tI F hb room hg M.m (pa_cons hy pa_nil he) hdb he hpl).run pins s σ H Q I ⟨v, hv, (by show 1 ≤ 100; decide), fun a na => ?_⟩
  refine ⟨a, v, rfl, upd_same, fun d nd ne => ⟨rfl, q a _ na (made_same (C := C) na nd) ⟨d, upd_same, ?_⟩⟩⟩
  rw [upd_ne ne]
  exact upd_same
theorem pe_newK (M : MkC X.prog X.w X.K X.mg X.base x C f) (room : Room 2 X.A) (hg : Gl X x) (hy : PE X (.Name y py) (tVar i))
    (hdb : (x == ("__debug__" : Str)) = false := by decide)
    (hall : (backToKw pos (keywordEach [⟨some f, .Name y py, kp⟩] X.env)).all (·.1.isSome) = true := by rfl)
    (hks : (backToKw pos (keywordEach [⟨some f, .Name y py, kp⟩] X.env)).filterMap (·.1) = [f] := by rfl)
    (hpl : ((backTo pos (starEach [] X.env)).any (·.1) || (backToKw pos (keywordEach [⟨some f, .Name y py, kp⟩] X.env)).any (·.1.isNone)) = false := by rfl) :
    PE X (.Call (.Name x p) [] [⟨some f, .Name y py, kp⟩] pos) (tNew i C f) := by
  obtain ⟨fI, fd, B, newId, initId, bmB, T, hi, tI, F, _, hb⟩ := M.go
  constructor
  intro pins s σ H Q I h
  obtain ⟨v, hv, q⟩ := h
  refine (pe_mkK (g := id) (gV := id) T hi tI F (fun _ _ r => r) (fun s self ws hl => ?_) room hg M.m (pk_cons hy pk_nil) (fun σ H Q ⟨v, e, q⟩ => ⟨v, e, rfl, q⟩) hall hks hdb hpl).run pins s σ H Q I ⟨v, hv, fun a na => ?_⟩
  · match ws, hl with
    | [w1], _ => exact hb s self w1
  refine ⟨a, v, rfl, upd_same, fun d nd ne => ⟨rfl, q a _ na (made_same (C := C) na nd) ⟨d, upd_same, ?_⟩⟩⟩
  rw [upd_ne ne]
  exact upd_same
theorem made_same2 {H : Hp} {a d : Addr} {o o1 o2 o3 : HO} (na : H a = none) (nd : upd H a o d = none) : Same H (upd (upd (upd (upd H a o) d o1) a o2) d o3) := fun b u hb => by
  have n : b ≠ d := ne_of_none (same_new na o b u hb) nd
  rw [upd_ne n]
  exact made_same (C := a) na nd b u hb
theorem pe_new2 (M : MkC2 X.prog X.w X.K X.mg X.base x C f g) (room : Room 2 X.A) (hg : Gl X x) (hy : PE X (.Name y py) (tVar i)) (hz : PE X (.Name z pz) (tVar j))
    (hdb : (x == ("__debug__" : Str)) = false := by decide) (he : starEach [.Name y py, .Name z pz] X.env = (false, eval (.Name y py) X.env) :: starEach [.Name z pz] X.env := by rfl)
    (he2 : starEach [.Name z pz] X.env = (false, eval (.Name z pz) X.env) :: starEach [] X.env := by rfl)
    (hpl : (backTo pos (starEach [.Name z pz] X.env)).any (·.1) = false := by rfl) : PE X (.Call (.Name x p) [.Name y py, .Name z pz] [] pos) (tNew2 i j C f g) := by
  obtain ⟨fI, fd, B, newId, initId, bmB, T, hi, tI, F, hb, _⟩ := M.go
  constructor
  intro pins s σ H Q I h
  obtain ⟨v, u, hv, hu, q⟩ := h
  refine (pe_mk T hi tI F hb room hg M.m (pa_cons hy (pa_cons hz pa_nil he2) he) hdb he hpl).run pins s σ H Q I ⟨v, hv, u, hu, (by show 2 ≤ 100; decide), fun a na => ?_⟩
  refine ⟨a, v, u, rfl, upd_same, fun d nd ne => ⟨rfl, q a _ na (made_same2 na nd) ⟨d, ?_, upd_same⟩⟩⟩
  rw [upd_ne (Ne.symm ne)]
  exact upd_same
/-- X(g = z, f = y) -/
theorem pe_new2K (M : MkC2 X.prog X.w X.K X.mg X.base x C f g) (room : Room 2 X.A) (hg : Gl X x) (hy : PE X (.Name y py) (tVar i)) (hz : PE X (.Name z pz) (tVar j))
    (hdb : (x == ("__debug__" : Str)) = false := by decide)
    (hall : (backToKw pos (keywordEach [⟨some g, .Name z pz, kp⟩, ⟨some f, .Name y py, kq⟩] X.env)).all (·.1.isSome) = true := by rfl)
    (hks : (backToKw pos (keywordEach [⟨some g, .Name z pz, kp⟩, ⟨some f, .Name y py, kq⟩] X.env)).filterMap (·.1) = [g, f] := by rfl)
    (hpl : ((backTo pos (starEach [] X.env)).any (·.1) || (backToKw pos (keywordEach [⟨some g, .Name z pz, kp⟩, ⟨some f, .Name y py, kq⟩] X.env)).any (·.1.isNone)) = false := by rfl) :
    PE X (.Call (.Name x p) [] [⟨some g, .Name z pz, kp⟩, ⟨some f, .Name y py, kq⟩] pos) (tNew2 i j C f g) := by
  obtain ⟨fI, fd, B, newId, initId, bmB, T, hi, tI, F, _, hb⟩ := M.go
  constructor
  intro pins s σ H Q I h
  obtain ⟨v, u, hv, hu, q⟩ := h
  refine (pe_mkK (g := List.reverse) (gV := List.reverse) T hi tI F (fun _ _ r => r.reverse) (fun s self ws hl => ?_) room hg M.m (pk_cons hz (pk_cons hy pk_nil))
    (fun σ H Q ⟨v, e, u, e2, q⟩ => ⟨v, e, u, e2, rfl, q⟩) hall hks hdb hpl).run pins s σ H Q I ⟨u, hu, v, hv, fun a na => ?_⟩
  · match ws, hl with
    | [w2, w1], _ => exact hb s self w1 w2
  refine ⟨a, v, u, rfl, upd_same, fun d nd ne => ⟨rfl, q a _ na (made_same2 na nd) ⟨d, ?_, upd_same⟩⟩⟩
  rw [upd_ne (Ne.symm ne)]
  exact upd_same
/-- o.f, o an exception of some class that is told where it is read -/
def tGetA (K : PySem.W.Frag) (f : Str) (to : TE) : TE := fun σ H Q => to σ H fun x H1 => ∃ (a C : Addr) (fs : List (Str × V)) (v : V), x = .ref a ∧ EAt H1 a C fs ∧
  (∃ B newId initId bmB, ExK K C B newId initId bmB) ∧ PySem.W.findIn K (.ref C) f = some none ∧ fs.lookup f = some v ∧ Q v H1
theorem pe_getA {o : Expr} {to : TE} (ho : PE X o to) (hb : attributeBase o f X.env (eval o X.env) = eval o X.env := by rfl) : PE X (.Attribute o f pos) (tGetA X.K f to) := by
  constructor
  intro pins s σ H Q I h
  refine attr_of hb (thn (ho.run pins s σ H _ I h) ?_)
  rintro u s1 ⟨x, H1, J, r, a, C, fs, v, ex, ⟨d, ea, ed⟩, ⟨B, newId, initId, bmB, T⟩, hno, hv, q⟩
  subst ex
  cases (show u = Value.ref a from r)
  obtain ⟨t1, hobj⟩ := exo_at J.hok ea
  obtain ⟨mA, ns, rel⟩ := exd_at J.hok ed
  have rv := rel f
  rw [hv] at rv
  obtain ⟨u', hu, ru⟩ := RelO.some_of rv
  obtain ⟨od, hod, look⟩ := lookIn_ns ns
  have inst : PySem.W.InstAt s1.heap a { cls := .ref C, dict := some d, data := .fields #[.ref t1, .none, .none, .none, .bool false, .none] } C (some od) := ⟨hobj, rfl, rfl, hod⟩
  exact PySem.PX.exc_get J.kIn inst T.ga T.gt T.sub (PySem.W.findObj_own T.dct hno rfl (by rw [look, hu])) (handed_of ru) ⟨v, H1, J.tok _, ru, q⟩
end
end Hx

namespace Hx
open PySem PySem.Spec PyProof.Rows L2
section
variable {X : Cx} {C fI : Addr} {fd : FuncData} {ps : List Str} {sp : Sp} {k : Nat} {B newId initId : String} {bmB : List Value}
  {x : Str} {p pos : Pos} {e : Expr} {es : List Expr} {ta : TA}
/-- raise C(e, ..), C an own class over any built-in one whose __init__ is a def -/
theorem pmk_own2 (T : ExK X.K C B newId initId bmB) (ty : PySem.W.typeIn X.K (.ref C) = some (.type "type")) (hi : PySem.W.findIn X.K (.ref C) "__init__" = some (some (.ref fI))) (tI : PySem.W.typeIn X.K (.ref fI) = some (.type "function"))
    (F1 : FnOk X.prog X.w X.K X.mg X.base CX0 k fI fd ps sp) (room : Room (k + 1) X.A) (hb : Binds X.K fd ps []) (hg : Gl X x) (hm : X.mg x = some (.ref C)) (ha : PA X (e :: es) ta)
    (hdb : (x == ("__debug__" : Str)) = false := by decide) (he : starEach (e :: es) X.env = (false, eval e X.env) :: starEach es X.env := by rfl) (hpl : (backTo pos (starEach es X.env)).any (·.1) = false := by rfl) :
    PMk X (.Call (.Name x p) (e :: es) [] pos) (tMkO C sp [] ta) := by
  intro pins s σ H Q I h
  refine wpAny_Call_Name_kw (ld_glob I hg hm ?_ hdb)
  refine PySem.W.callWith_K (h₀ := X.base) I.ok.mod.kin T.keep (thn (ha.run pos pins s σ H _ I h) fun us s1 ⟨vs, H1, I1, r1, few, q1⟩ => ⟨I1.kIn, ?_⟩) he hpl
  obtain ⟨nm, N, qn, bs0, bm, hdct, sn, sub, ab, col, dd, k0, k1, k2, k3, k5, hC, same⟩ := PySem.W.excInit_of I1.kIn T.made
  obtain ⟨hp, g, dr, tk, os⟩ := s1
  have above : hp.objs.size ≤ hp.objs.size + 1 := Nat.le_succ _
  have n0 : H1 (hp.objs.size + 1) = none := I1.hok.fresh above
  have q0 := q1 _ n0
  rw [List.append_nil] at q0
  have J : Inv X pins σ (upd H1 (hp.objs.size + 1) (exo (hp.objs.size + 1) C none)) ⟨PySem.EK.madeHeap hp C us, g, dr, tk, os⟩ :=
    I1.laid (t' := tk) (h' := PySem.EK.madeHeap hp C us) (fun b o e => PySem.EK.made_keep b o e) above (exo_ok PySem.EK.made_at)
  have rel2 : Vals (V.ref (hp.objs.size + 1) :: vs) (Value.ref (hp.objs.size + 1) :: us) := .cons rfl r1
  have hl : ((Value.ref (hp.objs.size + 1) :: us) ++ []).length = ps.length := by
    rw [List.append_nil, ← rel2.length]
    exact F1.len _ _ _ _ q0
  have small : us.length ≤ sizeLine := by
    rw [← r1.length]
    exact small_line few
  have bind := hb _ (Value.ref (hp.objs.size + 1) :: us) J.kIn hl
  rw [List.append_nil] at bind
  refine wpAny_call (PySem.EK.run_call T.facts same hC (PySem.W.looks_findIn I1.kIn hi) (fun self => PySem.W.bind_fn I1.kIn self tI) small ?_)
  refine codeAny_mono (F1.run _ X.stack _ _ ⟨Value.ref (hp.objs.size + 1) :: us, []⟩ _ _ _ (fun _ _ _ => False) (room.make C us []) (J.env0.make C us []) bind rel2 q0) ?_
  intro r s' hr
  cases r with
  | error e => exact (show False from hr).elim
  | ok fl =>
    cases fl with
    | next => exact hr.elim
    | brk => exact hr.elim
    | cont => exact hr.elim
    | ret u =>
      obtain ⟨v, H2, os2, bare2, un2, hok2, rv, ev, d, fs, ea, ed, hd1, q2⟩ := hr
      subst ev
      obtain ⟨h2, g2, d2, t2, os'⟩ := s'
      exact ⟨rv, mk_end (raises_own T.sub ty) I1 above (fun b o e => PySem.EK.made_keep b o e) un2 hok2 os2 bare2 ea ed hd1 q2⟩
end
end Hx

namespace Hx
open PySem PySem.Spec PyProof.Rows L2
theorem made_gone {H : Hp} {a d : Addr} {o1 o2 o3 o4 : HO} (na : H a = none) : upd (del (upd (upd (upd H a o1) d o2) a o3) a) d o4 = upd H d o4 := by
  funext b
  by_cases h : b = d
  · rw [h, upd_same, upd_same]
  · rw [upd_ne h, upd_ne h]
    by_cases k : b = a
    · rw [k, del_same, na]
    · rw [del_ne k, upd_ne k, upd_ne h, upd_ne k]
/-- raise C(y), C an own class that keeps its one parameter as f -/
def tRaise1 (i : Nat) (C : Addr) (f : Str) (W : WX) : TS := fun _ σ H => ∃ v, σ[i]? = some (some v) ∧ ∀ d, H d = none → W (.ref C) (some d) σ (upd H d (.xd [(f, v)]))
theorem ps_raise1 {X : Cx} {W : WX} {x y f : Str} {C : Addr} {i : Nat} {p py pos pos2 : Pos} (M : MkC X.prog X.w X.K X.mg X.base x C f) (ty : PySem.W.typeIn X.K (.ref C) = some (.type "type")) (hc : X.calm = true) (tk : Takes X W) (room : Room 2 X.A)
    (hg : Gl X x) (hy : PE X (.Name y py) (tVar i)) (hdb : (x == ("__debug__" : Str)) = false := by decide) (he : starEach [.Name y py] X.env = (false, eval (.Name y py) X.env) :: starEach [] X.env := by rfl)
    (hpl : (backTo pos (starEach [] X.env)).any (·.1) = false := by rfl) : PS X (.Raise (some (.Call (.Name x p) [.Name y py] [] pos)) none pos2) (tRaise1 i C f W) := by
  obtain ⟨fI, fd, B, newId, initId, bmB, T, hi, tI, F, hb, _⟩ := M.go
  constructor
  intro pins s σ H D I h
  obtain ⟨v, hv, q⟩ := h
  refine (ps_raise hc tk (pmk_own2 T ty hi tI F room hb hg M.m (pa_cons hy pa_nil he) hdb he hpl)).run pins s σ H D I ⟨v, hv, (by show 1 ≤ 1000; decide), fun a na => ⟨a, v, rfl, upd_same, fun d nd ne => ⟨rfl, d, [(f, v)], upd_same, ?_, ?_, ?_⟩⟩⟩
  · rw [upd_ne ne]
    exact upd_same
  · rw [upd_ne ne] at nd
    exact nd
  · rw [made_gone na]
    rw [upd_ne ne] at nd
    exact q d nd
end Hx

namespace Hx
open PySem PySem.Spec PyProof.Rows L2
/-- the class at C tells its text by a def of its own, whose promise is sp -/
structure TellsBy (P : Program) (w : World) (K : PySem.W.Frag) (mg : Str → Option Value) (base : Heap) (k : Nat) (C : Addr) (sp : Sp) : Prop where
  cls : Cls K C
  go : ∃ (g : Addr) (fd : FuncData), PySem.W.findIn K (.ref C) "__str__" = some (some (.ref g)) ∧ PySem.W.isFn K (.ref g) = true ∧
    FnOk P w K mg base CX0 k g fd ["self"] sp ∧ Binds K fd ["self"] []
/-- str(x): a number, a text, or an object that tells its text -/
def rTell (P : Program) (w : World) (K : PySem.W.Frag) (mg : Str → Option Value) (base : Heap) (k : Nat) : List V → Hp → VK → Prop := fun xs H Q => ∃ x, xs = [x] ∧
  ((∃ i : Int, x = .int i ∧ i.natAbs.log2 < 1920 ∧ Q (.str (toString i)) H) ∨ (∃ y : Str, x = .str y ∧ Q (.str y) H) ∨
    ∃ (a C dx : Addr) (fs : List (Str × V)) (sp : Sp), x = .ref a ∧ H a = some (.ins C dx fs) ∧ TellsBy P w K mg base k C sp ∧
      sp [.ref a] H (fun v H' => ∃ y : Str, v = .str y ∧ Q (.str y) H') E0)
theorem Room.less {k j : Nat} {A : Around} (r : Room k A) (h : j ≤ k) : Room j A := r.mono h
theorem call_tell {X : Cx} {k : Nat} (room : Room (k + 2) X.A) : CallR X (.type "str") (rTell X.prog X.w X.K X.mg X.base k) := by
  intro pins s σ H xs us Q I r h
  obtain ⟨x, rfl, ⟨i, rfl, small, q⟩ | ⟨y, rfl, q⟩ | ⟨a, C, dx, fs, sp, rfl, ha, T, q⟩⟩ := h
  · exact call_str_int pins s σ H _ us Q I r ⟨i, rfl, small, q⟩
  · exact SkE.call_str_str pins s σ H _ us Q I r ⟨y, rfl, q⟩
  · rw [Vals.ref1 r]
    obtain ⟨mA, O, _, _, _, _⟩ := ins_get I.hok ha
    obtain ⟨od, J, _⟩ := O.look
    obtain ⟨g, fd, hs, hf, F, b⟩ := T.go
    refine PySem.W.kso_call (by have := room.units; show _ < _; exact Nat.lt_of_le_of_lt (Nat.le_add_right _ 64) room.in1.in1.units) I.kIn J hs hf ?_
    have go := F.run X.A.in1.in1 X.stack s H ⟨[.ref a], []⟩ [.ref a] [.ref a] _ E0 room.in1.in1 I.env0.in1.in1 (b s [.ref a] I.kIn rfl) (.cons rfl .nil) q
    refine wpAny_call (codeAny_mono go ?_)
    intro r' s' hr
    cases r' with
    | error e => exact (show False from hr).elim
    | ok fl =>
      cases fl with
      | ret u =>
        obtain ⟨v, H', J', rv, y, ev, qy⟩ := I.after hr
        subst ev
        obtain ⟨t, rfl⟩ := rv
        exact ⟨.str y, H', J', ⟨t, rfl⟩, qy⟩
      | next => exact hr.elim
      | brk => exact hr.elim
      | cont => exact hr.elim
end Hx

/-! operators of an own class without slots; a text times a number; a method called by keywords; dead rows -/
namespace Hx
open PySem PySem.Spec PyProof.Rows L2
/-- a row that is never reached -/
theorem ps_dead {X : Cx} {st : Stmt} : PS X st (fun _ _ _ => False) := ⟨fun _ _ _ _ _ _ h => h.elim⟩
section
variable {X : Cx}
theorem op_mul_str : OpR X (binaryOp .Mult) (fun x y H Q => ∃ z k, x = .str z ∧ y = .int k ∧ MulOk z k ∧ Q (.str (Txt.mul z k)) H) := by
  intro pins s σ H x y v u Q I rx ry h
  obtain ⟨z, k, rfl, rfl, hz, q⟩ := h
  obtain ⟨t, rfl⟩ := rx
  obtain ⟨t', rfl⟩ := ry
  exact SB.mul hz (fun t' tk => ⟨.str (Txt.mul z k), H, I.tok _, ⟨_, rfl⟩, q⟩)
end
/-- o.m(k = v, ..) -/
def tMethK (C : Addr) (m : Str) (sp : Sp) (gV : List V → List V → List V) (E : XK) (ta : TE) (tk : TA) : TE := fun σ H Q => ta σ H fun x H1 => ∃ a dx fs, x = .ref a ∧ H1 a = some (.ins C dx fs) ∧ fs.lookup m = none ∧
  tk σ H1 fun zs H2 => sp (gV [x] zs) H2 Q E
section
variable {X : Cx} {CX : CXT} {k : Nat} {f C : Addr} {fd : FuncData} {ps ks : List Str} {sp : Sp} {E : XK} {m : Str} {pos apos : Pos} {o : Expr} {kws : List Keyword} {ta : TE} {tk : TA}
  {g : List Value → List Value → List Value} {gV : List V → List V → List V}
theorem pe_methK {pl : Sem Bool} (he : PE X o ta) (c : Cls X.K C) (hm : Meth X.K C m f) (F : FnOk X.prog X.w X.K X.mg X.base CX k f fd ps sp) (hr : Room k X.A) (hb : KBinds X.K fd ps ks g gV) (hx : Passes CX X E) (hkw : PK X kws tk)
    (hall : (backToKw pos (keywordEach kws X.env)).all (·.1.isSome) = true := by rfl) (hks : (backToKw pos (keywordEach kws X.env)).filterMap (·.1) = ks := by rfl)
    (hpl : ((backTo pos (starEach [] X.env)).any (·.1) || (backToKw pos (keywordEach kws X.env)).any (·.1.isNone)) = false := by rfl)
    (ht : eval (.Call (.Attribute o m apos) [] kws pos) X.env = (do
      let ov ← eval o X.env
      standAt apos.atName
      let (f, first) ← holding [ov] (getMethod ov m pl)
      callWith pos f first (backTo pos (starEach [] X.env)) (backToKw pos (keywordEach kws X.env))) := by rfl) :
    PE X (.Call (.Attribute o m apos) [] kws pos) (tMethK C m sp gV E ta tk) := by
  refine ⟨fun pins s σ H Q I h => ?_⟩
  refine PySem.W.methodCall_KW (pl := pl) (thn (he.run pins s σ H _ I h) fun u s1 ⟨x, H1, I1, rx, a, dx, fs, ex, ea, l, q⟩ => ?_) ht
  subst ex
  obtain rfl : u = Value.ref a := rx
  refine getmeth_ok I1 ea c hm l ?_
  refine PySem.W.callWith_KW0 (first := [.ref a]) (h₀ := X.base) I.ok.mod.kin hm.kp hall ?_ hpl
  refine thn (hkw.run pos pins s1 σ H1 _ I1 q) fun ws s2 ⟨zs, H2, I2, rz, q2⟩ => ⟨I2.kIn, ?_⟩
  rw [hks]
  exact run_fnk (us := [.ref a]) (vs := [.ref a]) F hr hb hx I2 (.cons rfl .nil) rz q2
end
/-- o[i] where the class at C tells its items by a def of its own -/
structure ItemBy (P : Program) (w : World) (K : PySem.W.Frag) (mg : Str → Option Value) (base : Heap) (k : Nat) (C : Addr) (ps : List Str) (sp : Sp) : Prop where
  go : ∃ (g : Addr) (fd : FuncData), PySem.W.findIn K (.ref C) "__getitem__" = some (some (.ref g)) ∧ PySem.W.fnIn K g = true ∧ PySem.W.isFn K (.ref g) = true ∧
    FnOk P w K mg base CX0 k g fd ps sp ∧ Binds K fd ps []
def rItem (C : Addr) (sp : Sp) : R2 := fun x y H Q => ∃ (a dx : Addr) (fs : List (Str × V)), x = .ref a ∧ H a = some (.ins C dx fs) ∧ sp [x, y] H Q E0
section
variable {X : Cx} {k : Nat} {C : Addr} {ps : List Str} {sp : Sp}
theorem run_below {pins : List (Addr × Obj)} {σ : L2.St} {H : Hp} {s : Shared} {Q : VK} {us : List Value} {vs : List V} {A1 : Around} {f : Addr} {fd : FuncData}
    (F : FnOk X.prog X.w X.K X.mg X.base CX0 k f fd ps sp) (hr : Room k A1) (e0 : Env0 X.prog X.w X.K X.mg X.base A1 X.stack s H) (hb : Binds X.K fd ps []) (I : Inv X pins σ H s) (r : Vals vs us) (h : sp vs H Q E0) :
    wpAny (model X.prog X.w) A1 (call (.ref f) us) (EP X pins σ Q) X.xe s := by
  have l := F.len vs H Q E0 h
  have hl : us.length = ps.length := by rw [← r.length]; exact l
  have b := hb s us I.kIn (by rw [List.append_nil]; exact hl)
  rw [List.append_nil] at b
  refine wpAny_call (codeAny_mono (F.run A1 X.stack s H ⟨us, []⟩ us vs Q E0 hr e0 b r h) fun r s' hq => ?_)
  cases r with
  | error e => exact (show False from hq).elim
  | ok fl =>
    cases fl with
    | ret u => exact I.after hq
    | next => exact hq.elim
    | brk => exact hq.elim
    | cont => exact hq.elim
theorem pe_ixO {e i : Expr} {pos : Pos} {te ti : TE} (T : ItemBy X.prog X.w X.K X.mg X.base k C ps sp) (hr : Room (k + 1) X.A) (he : PE X e te) (hi : PE X i ti)
    (hsl : ∀ (a : Addr) (u : Value), subscripted i true (.ref a) u = runValue (.builtin "lifetime.subscript" ⟨[.ref a, u], []⟩)) : PE X (.Subscript e i pos) (tOp (rItem C sp) te ti) := by
  refine ⟨fun pins s σ H Q I h => ?_⟩
  refine Subscript_ (binT he hi I h fun v u s2 x y H2 I2 rx ry q => ?_)
  obtain ⟨a, dx, fs, rfl, ha, q⟩ := q
  cases (show v = Value.ref a from rx)
  obtain ⟨g, fd, h1, h2, h3, F, b⟩ := T.go
  obtain ⟨mA, O, _⟩ := ins_get I2.hok ha
  obtain ⟨od, J, _⟩ := O.look
  obtain ⟨m, hF⟩ := I2.fr
  exact PySem.W.sub_K hF I2.ok.mod.kin J h1 h2 h3 (run_below F hr.in1 I2.env0.in1 b I2 (.cons rx (.cons ry .nil)) q) (hsl _ _)
end
/-- x == y by the class's own def -/
structure EqBy (P : Program) (w : World) (K : PySem.W.Frag) (mg : Str → Option Value) (base : Heap) (k : Nat) (C : Addr) (ps : List Str) (sp : Sp) : Prop where
  go : ∃ (g : Addr) (fd : FuncData), PySem.W.findIn K (.ref C) "__eq__" = some (some (.ref g)) ∧ PySem.W.isFn K (.ref g) = true ∧
    FnOk P w K mg base CX0 k g fd ps sp ∧ Binds K fd ps []
  ne : PySem.W.findIn K (.ref C) "__ne__" = some (some (.builtin "object.__ne__"))
  obj : PySem.W.mroIn K C (.type "object") = some true
  str : PySem.W.notFirst K C (.type "str") = true
  tup : PySem.W.notFirst K C (.type "tuple") = true
/-- the right operand: a text, a tuple, an object of this class -/
def Right (C : Addr) (H : Hp) (y : V) : Prop := (∃ z : Str, y = .str z) ∨ (∃ (b : Addr) (xs : List V), y = .ref b ∧ H b = some (.tup xs)) ∨ ∃ (b dx : Addr) (fs : List (Str × V)), y = .ref b ∧ H b = some (.ins C dx fs)
def rEqO (C : Addr) (sp : Sp) : R2 := fun x y H Q => ∃ (a dx : Addr) (fs : List (Str × V)), x = .ref a ∧ H a = some (.ins C dx fs) ∧ Right C H y ∧ sp [x, y] H (fun v H' => ∃ k, v = .bl k ∧ Q (.bl k) H') E0
def rNeO (C : Addr) (sp : Sp) : R2 := fun x y H Q => ∃ (a dx : Addr) (fs : List (Str × V)), x = .ref a ∧ H a = some (.ins C dx fs) ∧ Right C H y ∧ sp [x, y] H (fun v H' => ∃ k, v = .bl k ∧ Q (.bl (!k)) H') E0
section
variable {X : Cx} {k : Nat} {C : Addr} {ps : List Str} {sp : Sp} {P : Program} {w : World} {K : PySem.W.Frag} {mg : Str → Option Value} {base : Heap}
theorem right_of {pins : List (Addr × Obj)} {σ : L2.St} {H : Hp} {s : Shared} {y : V} {u : Value} (T : EqBy P w K mg base k C ps sp) (I : Inv X pins σ H s) (ry : RelV y u) (r : Right C H y) :
    ∃ tb, PySem.W.Looks (model X.prog X.w) s.heap (typeOf u) tb ∧ PySem.W.notFirst K C tb = true := by
  rcases r with ⟨z, rfl⟩ | ⟨b, xs, rfl, hb⟩ | ⟨b, dx, fs, rfl, hb⟩
  · obtain ⟨t, rfl⟩ := ry
    exact ⟨.type "str", .of_pure rfl, T.str⟩
  · cases (show u = Value.ref b from ry)
    obtain ⟨its, _, ⟨o, ho, hc, _⟩, _⟩ := I.tuple (SqT.of hb)
    exact ⟨.type "tuple", hc ▸ (PySem.W.Looks.ld ho).andThen .now, T.tup⟩
  · cases (show u = Value.ref b from ry)
    obtain ⟨mA, O, _⟩ := ins_get I.hok hb
    obtain ⟨od, J, _⟩ := O.look
    exact ⟨.ref C, J.type, by unfold PySem.W.notFirst; simp⟩
theorem op_eqO (T : EqBy X.prog X.w X.K X.mg X.base k C ps sp) (hr : Room k X.A) : OpR X (compareOp .Eq) (rEqO C sp) := by
  intro pins s σ H x y v u Q I rx ry h
  obtain ⟨a, dx, fs, rfl, ha, r, q⟩ := h
  obtain ⟨tb, hb, hn⟩ := right_of T I ry r
  cases (show v = Value.ref a from rx)
  obtain ⟨g, fd, h1, h2, F, b⟩ := T.go
  obtain ⟨mA, O, _⟩ := ins_get I.hok ha
  obtain ⟨od, J, _⟩ := O.look
  obtain ⟨m, hF⟩ := I.fr
  refine PySem.W.cmp_ofEq (PySem.W.cmp_K (op := .Eq) hr.units0 hF I.ok.mod.kin J hb hn h1 h2 ?_)
  refine wpAny_mono (run_below F hr I.env0 b I (.cons rx (.cons ry .nil)) q) (fun w' s' z => ?_) fun _ _ e => e
  obtain ⟨z', H', I', rz, kk, rfl, qz⟩ := z
  cases (show w' = Value.bool kk from rz)
  exact ⟨.bl kk, H', I', rfl, qz⟩
end
end Hx
namespace Hx
open PySem PySem.Spec PyProof.Rows L2
section
variable {prog : Program} {w : World} {A : Around} {E : Value → Shared → Prop} {s : Shared} {K : PySem.W.Frag} {x C L f : Addr} {h₀ : Heap} {m : Str → Option Value} {ox : Obj} {od : Option Obj} {name : Str} {b tb : Value}
theorem ifBound_B {M : Model} {args : List Value} {id : String} {Q : Option Value → Shared → Prop} (X : K.In s.heap) (I : PySem.W.InstAt s.heap x ox C od) (hs : PySem.W.findIn K (.ref C) name = some (some (.builtin id)))
    (hb : ∀ self, bindSpecial (.builtin id) self = pure (.builtin id, [self])) (h : wpAny M A (call (.builtin id) (.ref x :: args)) (fun v => Q (some v)) E s) : wpAny M A (callSpecialIfBound? (.ref x) name args) Q E s := by
  simp only [callSpecialIfBound?, bindSpecialIfBound?]
  refine wpAny_holding (wpAny_bind (wpAny_bind (wpAny_bind (I.type.here ((PySem.W.looks_findIn X hs).here ?_)))))
  refine wpAny_bind (wpAny_askSetting (wpAny_ite ?_))
  have fin : wpAny M A (call (.builtin id) ([.ref x] ++ args) >>= fun v => pure (some v)) Q E s := wpAny_bind (wpAny_mono h (fun v s' h' => wpAny_pure h') fun _ _ h' => h')
  split
  · exact wpAny_bind ((PySem.W.Looks.of_pure (hb _)).here (wpAny_pure (by exact fin)))
  · exact wpAny_tryCatch (wpAny_bind ((PySem.W.Looks.of_pure (hb _)).here (wpAny_pure (by exact fin))))
theorem objNe_K (hu : A.units < cLine) (X : K.In s.heap) (I : PySem.W.InstAt s.heap x ox C od) (he : PySem.W.findIn K (.ref C) "__eq__" = some (some (.ref f))) (hf : PySem.W.isFn K (.ref f) = true) {Q : Fin → Shared → Prop}
    (hcall : wpAny (model prog w) A (call (.ref f) [.ref x, b]) (fun v s' => ∃ k, v = .bool k ∧ Q (.done (.ret (.bool (!k)))) s') E s) :
    wpAny (model prog w) A (Builtin.«object.__ne__» ⟨[.ref x, b], []⟩) Q E s := by
  unfold Builtin.«object.__ne__»
  repeat (first
    | with_reducible refine wpAny_cRoomFor hu ?_
    | (refine wpAny_bind (m := callSpecialIfBound? (.ref x) (Str.ofString "__eq__") [b])
        (PySem.W.ifBound_K X I he hf (wpAny_mono hcall (fun r s' hr => by
          obtain ⟨k, rfl, hq⟩ := hr
          repeat (first | exact hq | exact wpAny_pure hq | exact wpAny_truthy_bool hq | (refine wpAny_bind (m := truthy (.bool _)) (wpAny_truthy_bool ?_)) | wp_step)) fun _ _ e => e)))
    | wp_step)
theorem ne_K {Q : Value → Shared → Prop} (hu : A.units + 1 < cLine) (F : Fr h₀ L s.heap m) (X₀ : K.In h₀) (I : PySem.W.InstAt s.heap x ox C od) (hb : PySem.W.Looks (model prog w) s.heap (typeOf b) tb) (hn : PySem.W.notFirst K C tb = true)
    (hs : PySem.W.findIn K (.ref C) "__ne__" = some (some (.builtin "object.__ne__"))) (hm : PySem.W.mroIn K C (.type "object") = some true) (he : PySem.W.findIn K (.ref C) "__eq__" = some (some (.ref f))) (hf : PySem.W.isFn K (.ref f) = true)
    (h : wpAny (model prog w) A.in1 (call (.ref f) [.ref x, b]) (fun v s' => ∃ k, v = .bool k ∧ Q (.bool (!k)) s') E s) : wpAny (model prog w) A (richCompare .NotEq (.ref x) b) Q E s := by
  have X := X₀.keeps F.keep
  have FB := PySem.F.cmp_object
  have sub : PySem.W.Looks (model prog w) s.heap (isInstance (.ref x) (.type "object")) true := I.type.andThen (PySem.W.looks_mroIn X hm)
  have one : wpAny (model prog w) A (tryCompare (.ref x) "__ne__" b) (fun r s' => ∃ v, r = some v ∧ Q v s') E s := by
    unfold tryCompare
    refine wpAny_bind (ifBound_B X I hs FB.ne.bind (wpAny_call (codeAny_call_builtin FB.ne.plain PySem.F.cmpEntry_ne ?_)))
    refine @PySem.W.check_slot (model prog w) _ _ s "object.__ne__" "object" "__ne__" (.ref x) [b] [] _ PySem.F.cmpKind_ne PySem.F.cmpSplit_ne sub (PySem.F.cmpArgs_ne (.ref x) b) ?_
    refine objNe_K (A := A.in1) hu X I he hf (wpAny_mono h (fun v s' hv => ?_) fun _ _ e => e)
    obtain ⟨k, rfl, hq⟩ := hv
    exact ⟨k, rfl, wpAny_pure ⟨_, rfl, hq⟩⟩
  unfold richCompare
  simp only [oneThing_ref]
  refine wpAny_holding (wpAny_bind (wpAny_cRoomFor (Nat.lt_of_succ_lt hu) ?_))
  refine wpAny_bind (I.type.here (wpAny_bind (hb.here ?_)))
  split
  · rename_i q
    have e : PySem.W.subIn K tb (.ref C) = some false := by
      rcases Bool.or_eq_true_iff.mp hn with e | e
      · rw [beq_iff_eq.mp e] at q; simp at q
      · exact beq_iff_eq.mp e
    refine wpAny_bind ((PySem.W.looks_subIn X e).here ?_)
    simp only [Bool.false_eq_true, if_false]
    refine wpAny_bind (wpAny_mono one (fun r s' z => ?_) fun _ _ e => e)
    obtain ⟨v, rfl, hq⟩ := z
    exact wpAny_pure hq
  · refine wpAny_bind (wpAny_pure ?_)
    simp only [Bool.false_eq_true, if_false]
    refine wpAny_bind (wpAny_mono one (fun r s' z => ?_) fun _ _ e => e)
    obtain ⟨v, rfl, hq⟩ := z
    exact wpAny_pure hq
end
section
variable {X : Cx} {k : Nat} {C : Addr} {ps : List Str} {sp : Sp}
theorem op_neO (T : EqBy X.prog X.w X.K X.mg X.base k C ps sp) (hr : Room (k + 1) X.A) : OpR X (compareOp .NotEq) (rNeO C sp) := by
  intro pins s σ H x y v u Q I rx ry h
  obtain ⟨a, dx, fs, rfl, ha, r, q⟩ := h
  obtain ⟨tb, hb, hn⟩ := right_of T I ry r
  cases (show v = Value.ref a from rx)
  obtain ⟨g, fd, h1, h2, F, b⟩ := T.go
  obtain ⟨mA, O, _⟩ := ins_get I.hok ha
  obtain ⟨od, J, _⟩ := O.look
  obtain ⟨m, hF⟩ := I.fr
  refine PySem.W.cmp_ofNotEq (ne_K (by have := hr.un; omega) hF I.ok.mod.kin J hb hn T.ne T.obj h1 h2 ?_)
  refine wpAny_mono (run_below F hr.in1 I.env0.in1 b I (.cons rx (.cons ry .nil)) q) (fun w' s' z => ?_) fun _ _ e => e
  obtain ⟨z', H', I', rz, kk, rfl, qz⟩ := z
  cases (show w' = Value.bool kk from rz)
  exact ⟨kk, rfl, .bl (!kk), H', I', rfl, qz⟩
/-- repr(x) of an own object -/
structure ShowsBy (P : Program) (w : World) (K : PySem.W.Frag) (mg : Str → Option Value) (base : Heap) (k : Nat) (C : Addr) (sp : Sp) : Prop where
  go : ∃ (g : Addr) (fd : FuncData), PySem.W.findIn K (.ref C) "__repr__" = some (some (.ref g)) ∧ PySem.W.isFn K (.ref g) = true ∧
    FnOk P w K mg base CX0 k g fd ["self"] sp ∧ Binds K fd ["self"] []
def rShow (C : Addr) (sp : Sp) : List V → Hp → VK → Prop := fun xs H Q => ∃ (a dx : Addr) (fs : List (Str × V)), xs = [.ref a] ∧ H a = some (.ins C dx fs) ∧ sp [.ref a] H (fun v H' => ∃ y : Str, v = .str y ∧ Q (.str y) H') E0
theorem call_show (T : ShowsBy X.prog X.w X.K X.mg X.base k C sp) (hr : Room (k + 1) X.A) : CallR X (.builtin "repr") (rShow C sp) := by
  intro pins s σ H xs us Q I r h
  obtain ⟨a, dx, fs, rfl, ha, q⟩ := h
  rw [Vals.ref1 r]
  obtain ⟨g, fd, h1, h2, F, b⟩ := T.go
  obtain ⟨mA, O, _⟩ := ins_get I.hok ha
  obtain ⟨od, J, _⟩ := O.look
  obtain ⟨m, hF⟩ := I.fr
  refine PySem.W.repr_K hr.in1.units0 hF I.ok.mod.kin J h1 h2 ?_
  refine wpAny_mono (run_below F hr.in1 I.env0.in1 b I (us := [.ref a]) (vs := [.ref a]) (.cons rfl .nil) q) (fun w' s' z => ?_) fun _ _ e => e
  obtain ⟨z', H', I', rz, y, rfl, qz⟩ := z
  obtain ⟨t, rfl⟩ := rz
  exact ⟨.str y, H', I', ⟨t, rfl⟩, qz⟩
end
end Hx

/-! endless rows with a head and a loop, in plain lists -/
namespace Rw
theorem getD_appL {a b : List Nat} {i : Nat} (h : i < a.length) : (a ++ b).getD i 0 = a.getD i 0 := by
  rw [List.getD_eq_getElem?_getD, List.getElem?_append_left h, ← List.getD_eq_getElem?_getD]
theorem getD_appR {a b : List Nat} {i : Nat} (h : a.length ≤ i) : (a ++ b).getD i 0 = b.getD (i - a.length) 0 := by
  rw [List.getD_eq_getElem?_getD, List.getElem?_append_right h, ← List.getD_eq_getElem?_getD]
theorem getD_get {a : List Nat} {i : Nat} (h : i < a.length) : a.getD i 0 = a[i] := by
  rw [List.getD_eq_getElem?_getD, List.getElem?_eq_getElem h]
  rfl
/-- n times a -/
def rep (n : Nat) (a : List Nat) : List Nat := (List.replicate n a).flatten
def lp (g : List Nat) (n : Nat) : Nat := g.getD (n % g.length) 0
def sg (f g : List Nat) (n : Nat) : Nat := if n < f.length then f.getD n 0 else lp g (n - f.length)
def Prim (g : List Nat) : Prop := ∀ m, 0 < m → m < g.length → ∃ i, lp g i ≠ lp g (i + m)
structure Norm (f g : List Nat) : Prop where
  pos : 0 < g.length
  prim : Prim g
  last : 0 < f.length → f.getD (f.length - 1) 0 ≠ lp g (g.length - 1)
theorem rep_zero (a : List Nat) : rep 0 a = [] := rfl
theorem rep_succ (n : Nat) (a : List Nat) : rep (n + 1) a = a ++ rep n a := by
  unfold rep
  rw [List.replicate_succ, List.flatten_cons]
theorem rep_length (n : Nat) (a : List Nat) : (rep n a).length = n * a.length := by
  induction n with
  | zero => rw [rep_zero, Nat.zero_mul]; rfl
  | succ n ih => rw [rep_succ, List.length_append, ih, Nat.succ_mul, Nat.add_comm]
theorem rep_getD {a : List Nat} : ∀ (n i : Nat), i < n * a.length → (rep n a).getD i 0 = a.getD (i % a.length) 0
  | 0, i, h => by rw [Nat.zero_mul] at h; exact absurd h (Nat.not_lt_zero _)
  | n + 1, i, h => by
    rw [rep_succ]
    by_cases c : i < a.length
    · rw [getD_appL c, Nat.mod_eq_of_lt c]
    · have c' : a.length ≤ i := Nat.le_of_not_lt c
      rw [getD_appR c', rep_getD n (i - a.length) (by rw [Nat.succ_mul] at h; omega)]
      rw [Nat.mod_eq_sub_mod c']
theorem lp_mod (g : List Nat) (n : Nat) : lp g (n % g.length) = lp g n := by
  unfold lp
  rw [Nat.mod_mod]
theorem lp_add (g : List Nat) (n k : Nat) : lp g (n + g.length * k) = lp g n := by
  unfold lp
  rw [Nat.add_mul_mod_self_left]
theorem lp_add1 (g : List Nat) (n : Nat) : lp g (n + g.length) = lp g n := by
  have := lp_add g n 1
  rwa [Nat.mul_one] at this
theorem lp_lt {g : List Nat} {n : Nat} (h : n < g.length) : lp g n = g.getD n 0 := by
  unfold lp
  rw [Nat.mod_eq_of_lt h]
theorem lp_rep {a : List Nat} {n : Nat} (ha : 0 < a.length) (hn : 0 < n) (i : Nat) : lp (rep n a) i = lp a i := by
  unfold lp
  rw [rep_length]
  have hp : 0 < n * a.length := Nat.mul_pos hn ha
  rw [rep_getD n _ (Nat.mod_lt _ hp), Nat.mod_mul_left_mod]
/-- the least string that makes the loop, told by its length -/
structure Least (a l : List Nat) : Prop where
  pos : 0 < a.length
  k : ∃ n, 0 < n ∧ l = rep n a
  min : ∀ m, 0 < m → m < a.length → ∀ b : List Nat, b.length = m → ∀ n, l ≠ rep n b
theorem ext_getD {a b : List Nat} (h : a.length = b.length) (e : ∀ i, i < a.length → a.getD i 0 = b.getD i 0) : a = b := by
  refine List.ext_getElem h fun i h1 h2 => ?_
  have := e i h1
  rwa [getD_get h1, getD_get h2] at this
theorem rep_rep (n m : Nat) (b : List Nat) : rep n (rep m b) = rep (n * m) b := by
  induction n with
  | zero => rw [rep_zero, Nat.zero_mul, rep_zero]
  | succ n ih =>
    rw [rep_succ, ih, Nat.succ_mul, Nat.add_comm]
    induction m with
    | zero => rw [rep_zero, Nat.zero_add]; rfl
    | succ m ih2 =>
      have e : m + 1 + n * (m + 1) = (m + n * (m + 1)) + 1 := by omega
      rw [e, rep_succ, rep_succ, List.append_assoc]
      congr 1
      clear ih ih2 e
      generalize n * (m + 1) = k
      induction m with
      | zero => rw [rep_zero, Nat.zero_add]; rfl
      | succ m ih3 =>
        rw [rep_succ, List.append_assoc, ih3, show m + 1 + k = (m + k) + 1 by omega, rep_succ]
/-- a string of at most four signs with no shorter one that makes it is the same under no turn -/
theorem prim_of_least {a l : List Nat} (h : Least a l) (h4 : a.length ≤ 4) : Prim a := by
  obtain ⟨n, hn, hl⟩ := h.k
  have no : ∀ m, 0 < m → m < a.length → ∀ b : List Nat, b.length = m → ∀ k, a ≠ rep k b := by
    intro m m0 m1 b hb k e
    exact h.min m m0 m1 b hb (n * k) (by rw [hl, e, rep_rep])
  clear hl hn
  have hp := h.pos
  clear h
  intro m m0 m1
  refine Classical.byContradiction fun z => ?_
  have same : ∀ i, lp a i = lp a (i + m) := fun i => Classical.byContradiction fun q => z ⟨i, q⟩
  clear z
  match a, h4, hp, m1, no, same with
  | [], _, hp, _, _, _ => exact absurd hp (Nat.lt_irrefl _)
  | [x], _, _, m1, _, _ => exact absurd m1 (by simp; omega)
  | [x, y], _, _, m1, no, same =>
    have : m = 1 := by simp at m1; omega
    subst this
    have e0 : x = y := by have q := same 0; simpa [lp] using q
    subst e0
    exact no 1 (by decide) (by simp) [x] rfl 2 rfl
  | [x, y, u], _, _, m1, no, same =>
    have : m = 1 ∨ m = 2 := by simp at m1; omega
    rcases this with rfl | rfl
    · have e0 : x = y := by have q := same 0; simpa [lp] using q
      have e1 : y = u := by have q := same 1; simpa [lp] using q
      subst e0 e1
      exact no 1 (by decide) (by simp) [x] rfl 3 rfl
    · have e0 : x = u := by have q := same 0; simpa [lp] using q
      have e1 : y = x := by have q := same 1; simpa [lp] using q
      subst e0 e1
      exact no 1 (by decide) (by simp) [y] rfl 3 rfl
  | [x, y, u, v], _, _, m1, no, same =>
    have : m = 1 ∨ m = 2 ∨ m = 3 := by simp at m1; omega
    rcases this with rfl | rfl | rfl
    · have e0 : x = y := by have q := same 0; simpa [lp] using q
      have e1 : y = u := by have q := same 1; simpa [lp] using q
      have e2 : u = v := by have q := same 2; simpa [lp] using q
      subst e0 e1 e2
      exact no 1 (by decide) (by simp) [x] rfl 4 rfl
    · have e0 : x = u := by have q := same 0; simpa [lp] using q
      have e1 : y = v := by have q := same 1; simpa [lp] using q
      subst e0 e1
      exact no 2 (by decide) (by simp) [x, y] rfl 2 rfl
    · have e0 : x = v := by have q := same 0; simpa [lp] using q
      have e1 : y = x := by have q := same 1; simpa [lp] using q
      have e2 : u = y := by have q := same 2; simpa [lp] using q
      subst e0 e1 e2
      exact no 1 (by decide) (by simp) [u] rfl 4 rfl
  | _ :: _ :: _ :: _ :: _ :: _, h4, _, _, _, _ => exact absurd h4 (by simp)
/-- the loop's place from which it goes on when so many signs of the head are taken back -/
structure Back (many : Nat) (h a : List Nat) : Prop where
  le : many ≤ h.length
  same : ∀ i, i < many → h.getD (h.length - 1 - i) 0 = a.getD (a.length - 1 - i % a.length) 0
  stop : many < h.length → h.getD (h.length - 1 - many) 0 ≠ a.getD (a.length - 1 - many % a.length) 0
/-- the place (-many) % p -/
def back (many p : Nat) : Nat := (p - many % p) % p
def turned (at_ : Nat) (a : List Nat) : List Nat := a.drop at_ ++ a.take at_
theorem turned_length {at_ : Nat} {a : List Nat} (h : at_ ≤ a.length) : (turned at_ a).length = a.length := by
  unfold turned
  rw [List.length_append, List.length_drop, List.length_take]
  omega
theorem turned_lp {at_ : Nat} {a : List Nat} (h : at_ < a.length) (i : Nat) : lp (turned at_ a) i = lp a (at_ + i) := by
  have hl := turned_length (Nat.le_of_lt h)
  unfold lp
  rw [hl]
  have hp : 0 < a.length := Nat.lt_of_le_of_lt (Nat.zero_le _) h
  have hi := Nat.mod_lt i hp
  rw [Nat.add_mod, Nat.mod_eq_of_lt h]
  generalize i % a.length = j at hi
  unfold turned
  by_cases c : j < a.length - at_
  · rw [getD_appL (by rw [List.length_drop]; exact c), Nat.mod_eq_of_lt (by omega)]
    rw [List.getD_eq_getElem?_getD, List.getElem?_drop, ← List.getD_eq_getElem?_getD]
  · rw [getD_appR (by rw [List.length_drop]; omega), List.length_drop]
    have e : (at_ + j) % a.length = at_ + j - a.length := by
      rw [Nat.mod_eq_sub_mod (by omega), Nat.mod_eq_of_lt (by omega)]
    rw [e, List.getD_eq_getElem?_getD, List.getElem?_take_of_lt (by omega), ← List.getD_eq_getElem?_getD]
    congr 1
    omega
theorem back_lt {many p : Nat} (hp : 0 < p) : back many p < p := Nat.mod_lt _ hp
theorem back_add {many p : Nat} (hp : 0 < p) : (back many p + many) % p = 0 := by
  unfold back
  have h1 := Nat.mod_lt many hp
  rw [Nat.add_mod, Nat.mod_mod]
  by_cases c : many % p = 0
  · rw [c, Nat.sub_zero, Nat.mod_self]
    rfl
  · rw [Nat.mod_eq_of_lt (a := p - many % p) (by omega), Nat.sub_add_cancel (Nat.le_of_lt h1), Nat.mod_self]
theorem lp_back {a : List Nat} {many : Nat} (hp : 0 < a.length) (n : Nat) : lp a (back many a.length + many + n) = lp a n := by
  unfold lp
  rw [Nat.add_mod, back_add hp, Nat.zero_add, Nat.mod_mod]
theorem getD_take {h : List Nat} {n i : Nat} (c : i < n) : (h.take n).getD i 0 = h.getD i 0 := by
  rw [List.getD_eq_getElem?_getD, List.getElem?_take_of_lt c, ← List.getD_eq_getElem?_getD]
/-- a.getD (p - 1 - i % p) is the loop at (-1 - i) -/
theorem lp_behind {a : List Nat} (hp : 0 < a.length) {i at_ : Nat} (e : (at_ + i + 1) % a.length = 0) : a.getD (a.length - 1 - i % a.length) 0 = lp a at_ := by
  unfold lp
  have h1 := Nat.mod_lt i hp
  have h2 := Nat.mod_lt at_ hp
  have e2 : (at_ % a.length + i % a.length + 1) % a.length = 0 := by
    rw [show at_ % a.length + i % a.length + 1 = at_ % a.length + (i % a.length + 1) by omega, Nat.add_mod, Nat.mod_mod, ← Nat.add_mod]
    rw [show at_ + (i % a.length + 1) = (at_ + 1) + i % a.length by omega, Nat.add_mod, Nat.mod_mod, ← Nat.add_mod, show at_ + 1 + i = at_ + i + 1 by omega]
    exact e
  generalize at_ % a.length = x at *
  generalize i % a.length = y at *
  have : x + y + 1 = a.length := by
    rcases Nat.lt_or_ge (x + y + 1) a.length with q | q
    · rw [Nat.mod_eq_of_lt q] at e2; omega
    · rw [Nat.mod_eq_sub_mod q, Nat.mod_eq_of_lt (by omega)] at e2; omega
  rw [show a.length - 1 - y = x by omega]
/-- what Round keeps -/
theorem norm_made {h l a : List Nat} {many : Nat} (L : Least a l) (h4 : a.length ≤ 4) (B : Back many h a) :
    Norm (h.take (h.length - many)) (turned (back many a.length) a) ∧ ∀ n, sg (h.take (h.length - many)) (turned (back many a.length) a) n = sg h l n := by
  have hp := L.pos
  have hb := back_lt (many := many) hp
  have le := B.le
  have tl := turned_length (Nat.le_of_lt hb)
  have fl : (h.take (h.length - many)).length = h.length - many := by rw [List.length_take]; omega
  have lpl : ∀ i, lp l i = lp a i := by
    obtain ⟨n, hn, rfl⟩ := L.k
    exact lp_rep hp hn
  constructor
  · refine ⟨by rw [tl]; exact hp, ?_, ?_⟩
    · intro m m0 m1
      rw [tl] at m1
      obtain ⟨i, hi⟩ := prim_of_least L h4 m m0 m1
      refine ⟨many + i, ?_⟩
      rw [turned_lp hb, turned_lp hb, ← Nat.add_assoc, lp_back hp, ← Nat.add_assoc, ← Nat.add_assoc, Nat.add_assoc _ i m, lp_back hp]
      exact hi
    · intro f0
      rw [fl] at f0 ⊢
      rw [tl, getD_take (by omega), turned_lp hb]
      have st := B.stop (by omega)
      rw [show h.length - many - 1 = h.length - 1 - many by omega]
      have e := lp_behind (a := a) hp (i := many) (at_ := back many a.length + (a.length - 1)) (by
        rw [show back many a.length + (a.length - 1) + many + 1 = (back many a.length + many) + a.length by omega, Nat.add_mod_right]
        exact back_add hp)
      rw [e] at st
      exact st
  · intro n
    unfold sg
    rw [fl]
    by_cases c : n < h.length - many
    · rw [if_pos c, if_pos (by omega), getD_take c]
    · rw [if_neg c, turned_lp hb]
      by_cases c2 : n < h.length
      · rw [if_pos c2]
        have hi : h.length - 1 - n < many := by omega
        have s := B.same _ hi
        rw [show h.length - 1 - (h.length - 1 - n) = n by omega] at s
        rw [s]
        refine (lp_behind hp ?_).symm
        rw [show back many a.length + (n - (h.length - many)) + (h.length - 1 - n) + 1 = back many a.length + many by omega]
        exact back_add hp
      · rw [if_neg c2, lpl]
        have e := lp_back (a := a) (many := many) hp (n - h.length)
        rw [show back many a.length + (n - (h.length - many)) = back many a.length + many + (n - h.length) by omega]
        exact e
theorem chain {s : Nat → Nat} {k L : Nat} : ∀ p, (∀ j, j < p → s (k + j * L) = s (k + j * L + L)) → s k = s (k + p * L)
  | 0, _ => by rw [Nat.zero_mul, Nat.add_zero]
  | p + 1, h => by
    rw [chain p fun j hj => h j (by omega), h p (by omega), Nat.succ_mul, Nat.add_assoc]
theorem sg_far {f g : List Nat} {n : Nat} (h : f.length ≤ n) : sg f g n = lp g (n - f.length) := by
  unfold sg
  rw [if_neg (by omega)]
theorem sg_last {f g : List Nat} (N : Norm f g) (h : 0 < f.length) {L : Nat} (hL : 0 < L) : sg f g (f.length - 1) ≠ sg f g (f.length - 1 + g.length * L) := by
  have hp := N.pos
  obtain ⟨M, rfl⟩ : ∃ M, L = M + 1 := ⟨L - 1, by omega⟩
  rw [sg_far (n := f.length - 1 + g.length * (M + 1)) (by rw [Nat.mul_succ]; omega)]
  rw [show f.length - 1 + g.length * (M + 1) - f.length = (g.length - 1) + g.length * M by rw [Nat.mul_succ]; omega, lp_add]
  unfold sg
  rw [if_pos (by omega)]
  exact N.last h
/-- in a window of 40: no shorter head -/
theorem no_head {f g : List Nat} (N : Norm f g) (f8 : f.length ≤ 8) (g4 : g.length ≤ 4) {size L : Nat} (hs : size < f.length) (l0 : 0 < L) (l8 : L ≤ 8) (w : ∀ k, size ≤ k → k < 40 - L → sg f g k = sg f g (k + L)) : False := by
  refine sg_last N (by omega) l0 (chain g.length fun j hj => ?_)
  have : (j + 1) * L ≤ 4 * 8 := Nat.mul_le_mul (by omega) l8
  have e : (j + 1) * L = j * L + L := Nat.succ_mul j L
  exact w _ (by omega) (by omega)
theorem no_loop {f g : List Nat} (N : Norm f g) (f8 : f.length ≤ 8) (g4 : g.length ≤ 4) {L : Nat} (l0 : 0 < L) (l8 : L < g.length) (w : ∀ k, f.length ≤ k → k < 40 - L → sg f g k = sg f g (k + L)) : False := by
  obtain ⟨i, hi⟩ := N.prim L l0 l8
  refine hi ?_
  have hm := Nat.mod_lt i N.pos
  have e := w (f.length + i % g.length) (by omega) (by omega)
  rw [sg_far (by omega), sg_far (by omega), show f.length + i % g.length - f.length = i % g.length by omega, show f.length + i % g.length + L - f.length = i % g.length + L by omega, lp_mod] at e
  rw [e]
  unfold lp
  rw [Nat.mod_add_mod]
theorem hits {f g : List Nat} {k : Nat} (h : f.length ≤ k) : sg f g k = sg f g (k + g.length) := by
  rw [sg_far h, sg_far (by omega), show k + g.length - f.length = (k - f.length) + g.length by omega, lp_add1]
/-- of two normal forms of one row the heads are equally long -/
theorem head_le {f g f2 g2 : List Nat} (N2 : Norm f2 g2) (p : 0 < g.length) (e : ∀ n, sg f2 g2 n = sg f g n) : f2.length ≤ f.length := by
  refine Classical.byContradiction fun c => ?_
  refine sg_last N2 (by omega) p ?_
  rw [e, e, Nat.mul_comm]
  have : ∀ j, sg f g (f2.length - 1) = sg f g (f2.length - 1 + j * g.length) := by
    intro j
    refine chain (s := sg f g) j fun i _ => hits (by omega)
  rw [this g2.length, Nat.mul_comm]
theorem sg_map_head {f g : List Nat} {n : Nat} (h : n ≤ f.length) : (List.range n).map (sg f g) = f.take n := by
  refine ext_getD (by rw [List.length_map, List.length_range, List.length_take]; omega) fun i hi => ?_
  rw [List.length_map, List.length_range] at hi
  rw [getD_take hi, List.getD_eq_getElem?_getD, List.getElem?_map, List.getElem?_range hi]
  show sg f g i = _
  unfold sg
  rw [if_pos (by omega)]
/-- the first signs, as they are told -/
theorem first_signs {f g : List Nat} {t n : Nat} (hp : 0 < g.length) (h : n ≤ f.length + t * g.length) : (f ++ rep t g).take n = (List.range n).map (sg f g) := by
  have hl : (f ++ rep t g).length = f.length + t * g.length := by rw [List.length_append, rep_length]
  refine ext_getD (by rw [List.length_map, List.length_range, List.length_take, hl]; omega) fun i hi => ?_
  rw [List.length_take, hl] at hi
  have hi2 : i < n := by omega
  rw [getD_take hi2, List.getD_eq_getElem?_getD (l := List.map _ _), List.getElem?_map, List.getElem?_range hi2]
  show _ = sg f g i
  unfold sg
  by_cases c : i < f.length
  · rw [if_pos c, getD_appL c]
  · rw [if_neg c, getD_appR (by omega), rep_getD t _ (by omega)]
    rfl
theorem map_range_take (s : Nat → Nat) {n m : Nat} (h : m ≤ n) : ((List.range n).map s).take m = (List.range m).map s := by
  rw [← List.map_take, List.take_range, Nat.min_eq_left h]
/-- the piece of the line that is the loop -/
theorem loop_piece {f g : List Nat} {n : Nat} (h : f.length + g.length ≤ n) : (((List.range n).map (sg f g)).drop f.length).take g.length = g := by
  refine ext_getD (by rw [List.length_take, List.length_drop, List.length_map, List.length_range]; omega) fun i hi => ?_
  rw [List.length_take, List.length_drop, List.length_map, List.length_range] at hi
  rw [getD_take (by omega), List.getD_eq_getElem?_getD, List.getElem?_drop, List.getElem?_map, List.getElem?_range (by omega)]
  show sg f g (f.length + i) = _
  rw [sg_far (by omega), show f.length + i - f.length = i by omega, lp_lt (by omega)]
theorem head_piece {f g : List Nat} {n : Nat} (h : f.length ≤ n) : ((List.range n).map (sg f g)).take f.length = f := by
  rw [map_range_take _ h, sg_map_head (Nat.le_refl _), List.take_length]
/-- the same row with a turn of the loop in its head -/
theorem sg_longer {h l : List Nat} (hp : 0 < l.length) {t : Nat} (ht : 0 < t) (n : Nat) : sg (h ++ l) (rep t l) n = sg h l n := by
  unfold sg
  rw [List.length_append]
  by_cases c : n < h.length
  · rw [if_pos c, if_pos (by omega), getD_appL c]
  · rw [if_neg c]
    by_cases c2 : n < h.length + l.length
    · rw [if_pos c2, getD_appR (by omega), lp_lt (by omega)]
    · rw [if_neg c2, lp_rep hp ht, ← lp_add1 l, show n - (h.length + l.length) + l.length = n - h.length by omega]
end Rw

namespace R5
open PySem PySem.Spec PyProof.Rows L2
def top (i : Nat) : Stmt := PySem.Challenge.pw_wovenplaces_k26_rounds_are_refused.main.body.getD i (.Pass ⟨0, 0, 0, 0⟩)
abbrev c_WrongValue : Stmt := top 1
abbrev c_InvalidNumber : Stmt := top 2
abbrev s_InvalidNumber_init : Stmt := inClass (top 2) 0
abbrev c_InvalidText : Stmt := top 3
abbrev s_InvalidText_init : Stmt := inClass (top 3) 0
abbrev s_is_integer : Stmt := top 6
abbrev s_is_count : Stmt := top 8
abbrev s_check_count : Stmt := top 9
abbrev c_Round : Stmt := top 11
abbrev s_Round_init : Stmt := inClass (top 11) 0
abbrev s_Round_head : Stmt := inClass (top 11) 1
abbrev s_Round_loop : Stmt := inClass (top 11) 2
abbrev s_Round_getitem : Stmt := inClass (top 11) 3
abbrev s_Round_iter : Stmt := inClass (top 11) 4
abbrev s_Round_first : Stmt := inClass (top 11) 5
abbrev s_Round_eq : Stmt := inClass (top 11) 6
abbrev s_Round_str : Stmt := inClass (top 11) 7
abbrev s_Round_repr : Stmt := inClass (top 11) 8
abbrev s_check_lettered : Stmt := top 12
abbrev s_shortest_loop : Stmt := top 13
abbrev s_turned_back : Stmt := top 14
abbrev s_law_deck : Stmt := top 16
abbrev s_law_card : Stmt := top 17
abbrev s_law_of : Stmt := top 18
abbrev s_law_string : Stmt := top 19
abbrev s_law_caught : Stmt := top 20
abbrev s_law_thing : Stmt := top 21
abbrev s_law_right : Stmt := top 22
abbrev s_law : Stmt := top 23
end R5

namespace R5
open PySem PySem.Spec PyProof.Rows L2 Hx Rw
/-- a deck: a list of three ints at d, the first two not negative -/
def DeckAt (H : Hp) (d : Addr) : Prop := ∃ a m c : Int, 0 ≤ a ∧ 0 ≤ m ∧ H d = some (.lst [.int a, .int m, .int c])
def spDeck (K : PySem.W.Frag) : Sp := fun vs H Q _ => ∃ (a : Addr) (ns : List Int) (t : Nat), vs = [.ref a, .int t] ∧
  SqL K H a (ns.map V.int) ∧ ns.length ≤ 63 ∧ ∀ p H', Same H H' → H p = none → DeckAt H' p → Q (.ref p) H'
section
variable {P : Program} {w : World} {K : PySem.W.Frag} {mg : Str → Option Value} {base : Heap}
theorem scDeck : FnScope ["_law_cells", "_law_turn", "_law_cell", "_law_mixed", "_law_each"] ["_law_cells", "_law_turn"] (defScope s_law_deck) :=
  ⟨rfl, rfl, rfl, by decide +kernel, rfl, by decide +kernel, by decide +kernel⟩
theorem ok_deck {f : Addr} {fd : FuncData} (F : Fun K "_law_deck" "_law_deck" s_law_deck f fd) (ml : mg "len" = none) (mi : mg "int" = none)
    (ma : mg "abs" = none) : FnOk P w K mg base CX0 1 f fd ["_law_cells", "_law_turn"] (spDeck K) := by
  refine F.ok scDeck (fun vs H Q E h => ?_) (fun cdv A outer s H vs Q E hr h => ?_)
  · obtain ⟨a, ns, t, rfl, _⟩ := h
    rfl
  obtain ⟨a, ns, t, rfl, hS, h63, q⟩ := h
  refine ⟨_, pss_cons (ps_set (i := 2) scDeck.nd rfl (Or.inl rfl)
      (pe_ifExp (pt_cmpR op_lt (pv 1) (pe_callB call_len_seq (by rfl) ml PySem.boot_len (pa_cons (pv 0) pa_nil)) (nomark _))
        (pe_ix ix_list (pv 0) (pv 1) (fun _ _ => rfl)) (pe_op op_add (pe_op op_mul pe_int (pv 1)) pe_int)))
    (pss_cons (ps_set (i := 3) scDeck.nd rfl (Or.inl rfl) (pe_op op_add pe_int (pe_op op_mul pe_int (pv 1))))
    (pss_cons (ps_for PassesOwn.never rfl (pi_list (pe_op op_cat (pe_slice sl_list (pv 0) po_none (po_some pe_int)) (pe_lst (pa_cons (pv 2) pa_nil))))
        (pg_name (i := 4) scDeck.nd rfl (Or.inl rfl))
        (pss_one (ps_set (i := 3) scDeck.nd rfl (Or.inl rfl)
          (pe_op op_mod (pe_callTy call_int1 (by rfl) mi PyProof.Rows.boot_int (pa_cons (pe_op op_add (pe_op op_mul (pv 3) pe_int) (pv 4)) pa_nil)) pe_int))))
    (pss_one (ps_ret (pe_lst (pa_cons
        (pe_ifExp (PW.pt (pw_or (pt_cmpR op_lt (pv 2) pe_int (nomark _)) (pw_or1 (pt_cmpR op_ge (pv 2) (pe_op op_pow pe_int pe_int) (nomark _)))))
          (pe_callB call_abs (by rfl) ma PyProof.Rows.boot_abs (pa_cons (pv 2) pa_nil)) pe_int)
        (pa_cons (pv 3) (pa_cons pe_int pa_nil)))))))), ?_⟩
  have hl : (ns.map V.int).length = ns.length := List.length_map _
  refine asg_join (fun v H' => H = H' ∧ ∃ c : Int, v = .int c) (fun Q' hQ => ?_) ?_
  · refine ⟨_, rfl, _, rfl, a, _, rfl, .inl hS, _, _, rfl, rfl, _, rfl, ?_⟩
    refine ite2 (fun c => ?_) (fun c => ?_)
    · have c' : (t : Int) < (((ns.map V.int).length : Nat) : Int) := of_decide_eq_true c
      have hlt : t < ns.length := by rw [hl] at c'; omega
      refine ⟨_, rfl, _, rfl, a, _, _, _, rfl, rfl, hS, atI_nat (j := t) (v := V.int ns[t]) ?_, hQ _ _ ⟨rfl, _, rfl⟩⟩
      rw [List.getElem?_map, List.getElem?_eq_getElem hlt]
      rfl
    · exact ⟨_, rfl, _, _, rfl, rfl, .inl ⟨by decide, by decide⟩, _, _, rfl, rfl, hQ _ _ ⟨rfl, _, rfl⟩⟩
  rintro _ _ ⟨rfl, c, rfl⟩
  refine ⟨_, rfl, _, _, rfl, rfl, .inl ⟨by decide, by decide⟩, _, _, rfl, rfl, ?_⟩
  refine ⟨_, rfl, _, rfl, a, _, rfl, hS, fun l hl0 => ?_⟩
  refine ⟨_, rfl, (by show 1 ≤ sizeLine; decide), fun l2 hl2 => ?_⟩
  have hcut := cutV_length (ns.map V.int) none (some 4)
  have allInt : ∀ x ∈ cutV (ns.map V.int) none (some 4) ++ [V.int c], ∃ i, x = V.int i := by
    intro x hx
    rcases List.mem_append.mp hx with hx | hx
    · have hx2 : x ∈ ns.map V.int := List.mem_of_mem_drop (List.mem_of_mem_take hx)
      obtain ⟨i, _, rfl⟩ := List.mem_map.mp hx2
      exact ⟨i, rfl⟩
    · exact ⟨c, by simpa using hx⟩
  refine ⟨l, l2, _, _, rfl, rfl, upd_other upd_same hl2, upd_same, small_line ?_, fun l3 hl3 => ?_⟩
  · rw [List.length_singleton]
    omega
  have s3 : Same H (upd (upd (upd H l (.lst (cutV (ns.map V.int) none (some 4)))) l2 (.lst [V.int c])) l3 (.lst (cutV (ns.map V.int) none (some 4) ++ [V.int c]))) :=
    ((same_new hl0 _).trans (same_new hl2 _)).trans (same_new hl3 _)
  refine ⟨l3, rfl, ⟨_, SqL.of upd_same⟩, for_list (K := K) (a := l3) (xs := cutV (ns.map V.int) none (some 4) ++ [V.int c])
    (fun _ σ H' => Same H H' ∧ H' l3 = some (.lst (cutV (ns.map V.int) none (some 4) ++ [V.int c])) ∧
      ∃ (m : Int) (v : Option V), 0 ≤ m ∧ σ = [some (.ref a), some (.int t), some (.int c), some (.int m), v])
    ⟨s3, upd_same, _, none, ?_, rfl⟩ (fun _ _ _ _ h => SqL.of h.2.1) ?_ ?_⟩
  · omega
  · rintro i x σ H' hx ⟨s4, h4, m, v, hm, rfl⟩
    obtain ⟨n, rfl⟩ := allInt x (List.mem_of_getElem? hx)
    refine ⟨_, rfl, _, _, rfl, rfl, .inr ⟨by decide, by decide⟩, _, rfl, _, _, rfl, rfl, .inl ⟨_, rfl, ?_⟩⟩
    exact ⟨_, _, rfl, rfl, (by decide : (0 : Int) < 2147483629), s4, h4, _, some (.int n), Int.emod_nonneg _ (by decide), rfl⟩
  · rintro σ H' ⟨s4, h4, m, v, hm, rfl⟩
    dsimp only
    refine ret_lst_join (fun v H2 => H' = H2 ∧ ∃ b : Int, 0 ≤ b ∧ v = .int b) (fun Q' hQ => ?_) ?_
    · refine ⟨_, rfl, _, _, rfl, rfl, _, rfl, ?_⟩
      refine ite2 (fun c0 => ?_) (fun c0 => ?_)
      · refine iteT ⟨_, rfl, _, rfl, hQ _ _ ⟨rfl, _, ?_, rfl⟩⟩
        split <;> omega
      · refine ⟨_, rfl, _, _, rfl, rfl, ⟨by decide, by decide, by decide⟩, _, _, rfl, rfl, _, rfl, ?_⟩
        refine ite2 (fun c1 => ?_) (fun c1 => ?_)
        · refine ⟨_, rfl, _, rfl, hQ _ _ ⟨rfl, _, ?_, rfl⟩⟩
          split <;> omega
        · exact hQ _ _ ⟨rfl, 0, Int.le_refl 0, rfl⟩
    rintro _ _ ⟨rfl, b, hb, rfl⟩
    refine ⟨_, rfl, (by show 3 ≤ sizeLine; decide), fun p hp => ?_⟩
    exact q p _ (s4.trans (same_new hp _)) (s4.free hp) ⟨b, m, 0, hb, hm, upd_same⟩
def spCard : Sp := fun vs H Q _ => ∃ (d : Addr) (t : Int), vs = [.ref d, .int t] ∧ 0 < t ∧ t < 1073741824 ∧ DeckAt H d ∧
  ∀ r H', 0 ≤ r → r < t → But d H H' → DeckAt H' d → Q (.int r) H'
theorem scCard : FnScope ["_law_deck_here", "_law_top", "_law_figure"] ["_law_deck_here", "_law_top"] (defScope s_law_card) :=
  ⟨rfl, rfl, rfl, by decide +kernel, rfl, by decide +kernel, by decide +kernel⟩
theorem ok_card {f : Addr} {fd : FuncData} (F : Fun K "_law_card" "_law_card" s_law_card f fd) (mi : mg "int" = none) (md : mg "divmod" = none) :
    FnOk P w K mg base CX0 1 f fd ["_law_deck_here", "_law_top"] spCard := by
  refine F.ok scCard (fun vs H Q E h => ?_) (fun cdv A outer s H vs Q E hr h => ?_)
  · obtain ⟨d, t, rfl, _⟩ := h
    rfl
  obtain ⟨d, t, rfl, t0, t1, ⟨a, m, c, a0, m0, hd⟩, q⟩ := h
  refine ⟨_, pss_cons (ps_asg (pe_op op_add (pe_ix ix_list (pv 0) pe_int (fun _ _ => rfl)) pe_int) (pg_sub (pv 0) pe_int set_list))
    (pss_cons (ps_if (pt_cmpR op_gt (pe_ix ix_list (pv 0) pe_int (fun _ _ => rfl)) pe_int (nomark _))
      (pss_cons (ps_asg (pe_callB call_divmod (by rfl) md PyProof.Rows.boot_divmod (pa_cons (pe_ix ix_list (pv 0) pe_int (fun _ _ => rfl)) (pa_cons (pv 1) pa_nil)))
          (pg_tup (by rfl) (pgs_cons (pg_sub (pv 0) pe_int set_list) (pgs_cons (pg_name (i := 2) scCard.nd rfl (Or.inl rfl)) pgs_nil))))
        (pss_one (ps_ret (pv 2)))) pss_nil)
    (pss_cons (ps_asg (pe_op op_mod (pe_callTy call_int1 (by rfl) mi PyProof.Rows.boot_int (pa_cons
        (pe_op op_add (pe_op op_mul (pe_ix ix_list (pv 0) pe_int (fun _ _ => rfl)) pe_int) (pe_op op_mul pe_int (pe_ix ix_list (pv 0) pe_int (fun _ _ => rfl)))) pa_nil)) pe_int)
        (pg_sub (pv 0) pe_int set_list))
    (pss_one (ps_ret (pe_op op_mod (pe_callTy call_int1 (by rfl) mi PyProof.Rows.boot_int (pa_cons
        (pe_op op_fdiv (pe_ix ix_list (pv 0) pe_int (fun _ _ => rfl)) pe_int) pa_nil)) (pv 1)))))), ?_⟩
  refine ⟨_, rfl, d, _, _, _, rfl, rfl, SqL.of hd, rfl, _, _, rfl, rfl, _, rfl, d, _, _, _, rfl, rfl, hd, rfl, ?_⟩
  refine ⟨_, rfl, d, _, _, _, rfl, rfl, SqL.of upd_same, rfl, _, _, rfl, rfl, _, rfl, ?_⟩
  refine ite2 (fun c0 => ?_) (fun c0 => ?_)
  · refine ⟨_, rfl, d, _, _, _, rfl, rfl, SqL.of upd_same, rfl, _, rfl, _, _, rfl, ⟨t0, t1⟩, fun p hp => ?_⟩
    have npd : d ≠ p := ne_of_none upd_same hp
    refine ⟨p, _, rfl, SqT.of upd_same, rfl, _, _, rfl, ?_⟩
    refine ⟨_, rfl, d, _, _, _, rfl, rfl, by rw [upd_ne npd]; exact upd_same, rfl, ?_⟩
    refine ⟨_, _, rfl, rfl, _, rfl, ?_⟩
    refine q _ _ (Int.emod_nonneg _ (by omega)) (Int.emod_lt_of_pos _ t0) (((But.refl.upd _).new hp _).upd _) ⟨_, _, _, ?_, m0, upd_same⟩
    exact Int.ediv_nonneg a0 (by omega)
  · refine ⟨_, rfl, d, _, _, _, rfl, rfl, SqL.of upd_same, rfl, _, _, rfl, rfl, .inr ⟨by decide, by decide⟩, ?_⟩
    refine ⟨_, rfl, d, _, _, _, rfl, rfl, SqL.of upd_same, rfl, _, _, rfl, rfl, .inl ⟨by decide, by decide⟩, _, _, rfl, rfl, .inl ⟨_, rfl, ?_⟩⟩
    refine ⟨_, _, rfl, rfl, (by decide : (0 : Int) < 2147483629), ?_⟩
    refine ⟨_, rfl, d, _, _, _, rfl, rfl, upd_same, rfl, ?_⟩
    refine ⟨_, rfl, d, _, _, _, rfl, rfl, SqL.of upd_same, rfl, _, _, rfl, rfl, ⟨by decide, by decide⟩, .inl ⟨_, rfl, ?_⟩⟩
    refine ⟨_, rfl, _, _, rfl, rfl, t0, ?_⟩
    refine q _ _ (Int.emod_nonneg _ (by omega)) (Int.emod_lt_of_pos _ t0) ((But.refl.upd _).upd _) ⟨_, _, _, a0, Int.emod_nonneg _ (by decide), upd_same⟩
end
/-! ### texts as lists of signs -/
def T (l : List Nat) : Str := ⟨l.toArray⟩
theorem T_tl (l : List Nat) : (T l).cps.toList = l := rfl
theorem T_len (l : List Nat) : (T l).length = l.length := by
  show l.toArray.size = l.length
  rw [List.size_toArray]
theorem T_ext {x : Str} {l : List Nat} (h : x.cps.toList = l) : x = T l := TL.ext_tl h
theorem T_inj {l m : List Nat} (h : T l = T m) : l = m := by
  have := congrArg (fun x : Str => x.cps.toList) h
  exact this
theorem T_add (l m : List Nat) : T l ++ T m = T (l ++ m) := T_ext (TL.tl_append _ _)
theorem T_cutN (l : List Nat) {n : Int} (h0 : 0 ≤ n) : cutS (T l) none (some n) = T (l.take n.toNat) := by
  refine T_ext ?_
  show ((l.drop (HT.sIx (T l).length 0 none)).take (HT.sIx (T l).length (T l).length (some n) - HT.sIx (T l).length 0 none)) = _
  rw [T_len]
  have e1 : HT.sIx l.length 0 none = 0 := rfl
  have e2 : HT.sIx l.length l.length (some n) = min n.toNat l.length := by
    unfold HT.sIx
    simp only
    split <;> omega
  rw [e1, e2, List.drop_zero, Nat.sub_zero]
  by_cases c : n.toNat ≤ l.length
  · rw [Nat.min_eq_left c]
  · rw [Nat.min_eq_right (by omega), List.take_length, List.take_of_length_le (by omega)]
theorem T_cutD (l : List Nat) {n : Int} (h0 : 0 ≤ n) : cutS (T l) (some n) none = T (l.drop n.toNat) := by
  refine T_ext ?_
  show ((l.drop (HT.sIx (T l).length 0 (some n))).take (HT.sIx (T l).length (T l).length none - HT.sIx (T l).length 0 (some n))) = _
  rw [T_len]
  have e1 : HT.sIx l.length l.length none = l.length := rfl
  have e2 : HT.sIx l.length 0 (some n) = min n.toNat l.length := by
    unfold HT.sIx
    simp only
    split <;> omega
  rw [e1, e2]
  by_cases c : n.toNat ≤ l.length
  · rw [Nat.min_eq_left c, List.take_of_length_le (by rw [List.length_drop]; exact Nat.le_refl _)]
  · rw [Nat.min_eq_right (by omega), Nat.sub_self, List.take_zero, List.drop_of_length_le (by omega)]
theorem T_cutB (l : List Nat) {n : Int} (h0 : n < 0) : cutS (T l) (some n) none = T (l.drop (l.length - (-n).toNat)) := by
  refine T_ext ?_
  show ((l.drop (HT.sIx (T l).length 0 (some n))).take (HT.sIx (T l).length (T l).length none - HT.sIx (T l).length 0 (some n))) = _
  rw [T_len]
  have e1 : HT.sIx l.length l.length none = l.length := rfl
  have e2 : HT.sIx l.length 0 (some n) = l.length - (-n).toNat := by
    unfold HT.sIx
    simp only
    split <;> omega
  rw [e1, e2, List.take_of_length_le (by rw [List.length_drop]; exact Nat.le_refl _)]
theorem foldl_reps (a : Array Nat) : ∀ (n : Nat) (acc : Array Nat), ((List.replicate n a).foldl (· ++ ·) acc).toList = acc.toList ++ rep n a.toList
  | 0, acc => by rw [rep_zero]; simp
  | n + 1, acc => by
    rw [List.replicate_succ, List.foldl_cons, foldl_reps a n, rep_succ, Array.toList_append, List.append_assoc]
theorem T_mul (l : List Nat) {n : Int} (h0 : 0 ≤ n) : Txt.mul (T l) n = T (rep n.toNat l) := by
  unfold Txt.mul
  by_cases c : n < 1
  · rw [if_pos c]
    have : n = 0 := by omega
    subst this
    rfl
  · rw [if_neg c]
    by_cases c2 : (n == 1 || (T l).length == 0) = true
    · rw [if_pos c2]
      simp only [Bool.or_eq_true, beq_iff_eq] at c2
      rcases c2 with rfl | c2
      · rw [show (1 : Int).toNat = 1 from rfl, rep_succ, rep_zero, List.append_nil]
      · rw [T_len] at c2
        obtain rfl := List.length_eq_zero_iff.mp c2
        have : rep n.toNat [] = [] := List.length_eq_zero_iff.mp (by rw [rep_length]; exact Nat.mul_zero _)
        rw [this]
    · rw [if_neg c2]
      refine T_ext ?_
      show ((List.replicate n.toNat (T l).cps).foldl (· ++ ·) #[]).toList = _
      rw [foldl_reps]
      rfl
theorem mulOk {l : List Nat} {n : Int} (h0 : 0 ≤ n) (h1 : n ≤ 1000) (h2 : l.length ≤ 1000) : MulOk (T l) n := by
  refine ⟨by simp; omega, fun c _ => ?_, fun _ _ => ?_⟩
  · rw [T_len]
    have hm : (l.length : Int) * n ≤ 1000 * 1000 := Int.mul_le_mul (by omega) h1 h0 (by decide)
    have : (l.length : Int) ≤ (2 ^ 63 - 1) / n := Int.le_ediv_of_mul_le (by omega) (Int.le_trans hm (by decide))
    omega
  · rw [T_len]
    have : l.length * n.toNat ≤ 1000 * 1000 := Nat.mul_le_mul h2 (by omega)
    unfold Builtin.Str.tooLong
    exact decide_eq_false (by have : 1000 * 1000 < sizeLine := by decide
                              omega)
end R5

namespace R5
open PySem PySem.Spec PyProof.Rows L2 Hx Rw
structure Bl (mg : Str → Option Value) : Prop where
  isinstance : mg "isinstance" = none
  len : mg "len" = none
  all : mg "all" = none
  str : mg "str" = none
  int : mg "int" = none
  bool : mg "bool" = none
  range : mg "range" = none
  min : mg "min" = none
  max : mg "max" = none
  abs : mg "abs" = none
  divmod : mg "divmod" = none
  repr : mg "repr" = none
  list : mg "list" = none
def abc : Str := "abcdefghijklmnopqrstuvwxyz"
def letter (c : Nat) : Bool := decide (c ∈ abc.cps.toList)
/-- small text of letters -/
def Good (l : List Nat) : Prop := l.length ≤ 1000 ∧ l.all letter = true
theorem good_line {l : List Nat} (g : l.length ≤ 1000) : (T l).length ≤ sizeLine := by
  rw [T_len]
  exact small_line g
def spChk : Sp := fun vs H Q _ => ∃ (l : List Nat) (k : Int), vs = [.str (T l), .int k] ∧ k ≤ (l.length : Int) ∧ Good l ∧ ∀ H', Same H H' → Q .non H'
section
variable {P : Program} {w : World} {K : PySem.W.Frag} {mg : Str → Option Value} {base : Heap} {f : Addr} {fd : FuncData}
theorem scChk : FnScope ["given", "least", "letter"] ["given", "least"] (defScope s_check_lettered) := ⟨rfl, rfl, rfl, by decide +kernel, rfl, by decide +kernel, by decide +kernel⟩
theorem ok_chk (F : Fun K "check_lettered" "check_lettered" s_check_lettered f fd) (Z : Bl mg) (ml : ∃ t, mg "LETTERS" = some (.str abc t)) : FnOk P w K mg base CX0 1 f fd ["given", "least"] spChk := by
  refine F.ok scChk (fun vs H Q E h => ?_) (fun cdv A outer s H vs Q E hr h => ?_)
  · obtain ⟨l, k, rfl, _⟩ := h
    rfl
  obtain ⟨l, k, rfl, hk, ⟨few, good⟩, q⟩ := h
  obtain ⟨tl, ml⟩ := ml
  refine ⟨_, pss_one (ps_if (PW.pt (pw_or (pt_not (pt_val (pe_callB call_isi (by rfl) Z.isinstance PyProof.Rows.boot_isinstance (pa_cons (pv 0) (pa_cons (pe_bty (T := "str") rfl Z.str (by decide +kernel)) pa_nil)))))
      (pw_or (pt_cmpR op_lt (pe_callB call_len_str (by rfl) Z.len PySem.boot_len (pa_cons (pv 0) pa_nil)) (pv 1) (nomark _))
      (pw_or1 (pt_not (pt_val (pe_callB (cr_all rfl) (by rfl) Z.all PyProof.Rows.boot_all (pa_cons (pe_lc (own := [("letter", 2)]) (g := gName 2) (tt := tYes) rfl scChk.nd (pi_str (pv 0))
        (blkOk_by (N := ["given", "least", "letter"]) (sc := defScope s_check_lettered) (by decide +kernel)) (fun _ _ _ _ _ => pg_name (i := 2) scChk.nd rfl (Or.inl rfl)) (fun _ _ _ _ _ => pts_nil)
        (fun _ _ _ _ _ => pe_cmpR op_in_sign (pv 2) (pe_glob (v := .str abc) rfl ml ⟨_, rfl⟩) (by rfl))) pa_nil)))))))) (pss_one ps_dead) pss_nil), ?_⟩
  have small := good_line few
  refine ⟨_, rfl, _, _, .type "str", _, true, rfl, .ty "str", .base (.str _), kit_ty (by decide +kernel), _, rfl, iteF ?_⟩
  refine ⟨_, rfl, _, rfl, small, _, rfl, _, _, rfl, rfl, _, rfl, ?_⟩
  rw [T_len, decide_eq_false (by omega)]
  refine iteF ?_
  refine ⟨_, rfl, _, rfl, fun D hD => ?_⟩
  refine L2.lc_it L2.walk_str (fun i H' => Same H H' ∧ H' D = some (.lst (((l.take i).map letter).map V.bl))) ⟨same_new hD _, upd_same⟩ (fun _ _ _ _ => trivial) ?_ ?_
  · rintro i _ H1 _ hi ⟨s1, h1⟩ ⟨rfl, c, hc, rfl⟩
    refine ⟨rfl, turn_yes ⟨_, rfl, c, abc, rfl, rfl, ?_⟩⟩
    have hc2 : l[i]? = some c := by
      have : (T l).cps.toList[i]? = some c := by rw [Array.getElem?_toList]; exact hc
      exact this
    refine ⟨_, h1, ?_, fun b o hb => ?_, ?_⟩
    · rw [List.length_map, List.length_map, List.length_take]
      exact Nat.lt_of_le_of_lt (Nat.le_trans (Nat.min_le_right _ _) few) (by decide)
    · rw [upd_ne (ne_of_none hb hD)]
      exact s1 b o hb
    · rw [upd_same, List.take_add_one, hc2, List.map_append, List.map_append]
      rfl
  · rintro H1 ⟨s1, h1⟩
    rw [List.take_of_length_le (by show l.length ≤ l.toArray.size; rw [List.size_toArray]; exact Nat.le_refl _)] at h1
    refine ⟨D, _, rfl, SqL.of h1, _, rfl, ?_⟩
    dsimp only
    rw [List.all_map]
    have e : l.all (id ∘ letter) = true := good
    rw [e]
    exact iteF (q H1 s1)
/-- the shortest string that makes the loop -/
def spShort : Sp := fun vs H Q _ => ∃ l : List Nat, vs = [.str (T l)] ∧ 0 < l.length ∧ l.length ≤ 1000 ∧ ∀ a, Least a l → a.length ≤ l.length → Q (.str (T a)) H
theorem scShort : FnScope ["loop", "many"] ["loop"] (defScope s_shortest_loop) := ⟨rfl, rfl, rfl, by decide +kernel, rfl, by decide +kernel, by decide +kernel⟩
theorem rep_take {l b : List Nat} {n : Nat} (hn : 0 < n) (e : l = rep n b) : l.take b.length = b := by
  obtain ⟨m, rfl⟩ : ∃ m, n = m + 1 := ⟨n - 1, by omega⟩
  rw [e, rep_succ, List.take_left]
theorem ok_short (F : Fun K "shortest_loop" "shortest_loop" s_shortest_loop f fd) (Z : Bl mg) : FnOk P w K mg base CX0 1 f fd ["loop"] spShort := by
  refine F.ok scShort (fun vs H Q E h => ?_) (fun cdv A outer s H vs Q E hr h => ?_)
  · obtain ⟨l, rfl, _⟩ := h
    rfl
  obtain ⟨l, rfl, pos, few, q⟩ := h
  have small := good_line few
  refine ⟨_, pss_cons (ps_for PassesOwn.never rfl (pi_range2 rfl Z.range (pa_cons pe_int (pa_cons (pe_callB call_len_str (by rfl) Z.len PySem.boot_len (pa_cons (pv 0) pa_nil)) pa_nil))) (pg_name (i := 1) scShort.nd rfl (Or.inl rfl))
      (pss_one (ps_if (PW.pt (pw_and (pt_cmpR op_eq (pe_op op_mod (pe_callB call_len_str (by rfl) Z.len PySem.boot_len (pa_cons (pv 0) pa_nil)) (pv 1)) pe_int (nomark _))
          (pw_and1 (pt_cmpR op_eq (pe_op op_mul_str (pe_slice sl_str (pv 0) po_none (po_some (pv 1))) (pe_op op_fdiv (pe_callB call_len_str (by rfl) Z.len PySem.boot_len (pa_cons (pv 0) pa_nil)) (pv 1))) (pv 0) (nomark _)))))
        (pss_one (ps_ret (pe_slice sl_str (pv 0) po_none (po_some (pv 1))))) pss_nil)))
    (pss_one (ps_ret (pv 0))), ?_⟩
  refine ⟨_, rfl, _, rfl, small, _, _, rfl, ?_, ?_⟩
  · rw [T_len]
    omega
  rw [T_len]
  refine for_range (lo := 1) (fun i σ H' => H' = H ∧ (∃ v, σ = [some (.str (T l)), v]) ∧ ∀ m, 0 < m → m < i + 1 → ∀ b : List Nat, b.length = m → ∀ n, l ≠ rep n b) ⟨rfl, ⟨none, rfl⟩, fun m m0 m1 => by omega⟩ ?_ ?_
  · rintro i σ H' hi ⟨rfl, ⟨v, rfl⟩, inv⟩
    have hi2 : i + 1 < l.length := by omega
    refine ⟨_, rfl, _, rfl, small, _, rfl, _, _, rfl, rfl, by omega, rfl, _, rfl, ?_⟩
    rw [T_len]
    have go : (¬ ∃ n, l = rep n (l.take (i + 1))) → ∀ m, 0 < m → m < i + 1 + 1 → ∀ b : List Nat, b.length = m → ∀ n, l ≠ rep n b := by
      intro no m m0 m1 b hb n e
      by_cases c : m < i + 1
      · exact inv m m0 c b hb n e
      · have : m = i + 1 := by omega
        subst this
        have n0 : 0 < n := by
          rcases Nat.eq_zero_or_pos n with rfl | z
          · rw [rep_zero] at e
            rw [e] at pos
            exact absurd pos (Nat.lt_irrefl _)
          · exact z
        refine no ⟨n, ?_⟩
        have := rep_take n0 e
        rw [hb] at this
        rw [this]
        exact e
    refine ite2 (fun c => ?_) (fun c => ?_)
    · have c' : (l.length : Int) % (1 + (i : Int)) = 0 := by
        have := of_decide_eq_true c
        exact V.int.inj this
      have hm : (i + 1) ∣ l.length := by
        refine Nat.dvd_of_mod_eq_zero ?_
        have e1 : (1 + (i : Int)) = ((i + 1 : Nat) : Int) := by omega
        rw [e1] at c'
        omega
      have ec : cutS (T l) none (some (1 + (i : Int))) = T (l.take (i + 1)) := by
        rw [T_cutN l (by omega)]
        congr 2
        omega
      have ed : (l.length : Int) / (1 + (i : Int)) = ((l.length / (i + 1) : Nat) : Int) := by
        rw [show (1 + (i : Int)) = ((i + 1 : Nat) : Int) by omega]
        exact (Int.natCast_ediv _ _).symm
      have tk : (l.take (i + 1)).length = i + 1 := by
        rw [List.length_take]
        omega
      have dl : l.length / (i + 1) ≤ 1000 := Nat.le_trans (Nat.div_le_self _ _) few
      have z0 : (0 : Int) ≤ ((l.length / (i + 1) : Nat) : Int) := Int.natCast_nonneg _
      have z1 : ((l.length / (i + 1) : Nat) : Int) ≤ 1000 := Int.ofNat_le.mpr dl
      refine ⟨_, rfl, _, rfl, _, rfl, _, rfl, small, _, rfl, _, rfl, small, _, rfl, _, _, rfl, rfl, ⟨by omega, by omega⟩, ?_⟩
      dsimp only
      rw [ec, T_len, ed]
      refine ⟨_, _, rfl, rfl, mulOk z0 z1 (by rw [tk]; omega), _, rfl, rfl, _, rfl, ?_⟩
      rw [T_mul _ z0, Int.toNat_natCast]
      refine ite2 (fun d => ?_) (fun d => ?_)
      · have d' : rep (l.length / (i + 1)) (l.take (i + 1)) = l := T_inj (V.str.inj (of_decide_eq_true d))
        refine ⟨_, rfl, _, rfl, _, rfl, _, rfl, small, ?_⟩
        rw [ec]
        refine q _ ⟨by rw [tk]; omega, ⟨_, Nat.div_pos (by omega) (by omega), d'.symm⟩, fun m m0 m1 b hb n => inv m m0 (by omega) b hb n⟩ (by rw [tk]; omega)
      · refine ⟨rfl, ⟨_, rfl⟩, go ?_⟩
        rintro ⟨n, e⟩
        refine d (decide_eq_true ?_)
        have hl := congrArg List.length e
        rw [rep_length, tk] at hl
        rw [hl, Nat.mul_div_cancel _ (by omega), ← e]
    · refine ⟨rfl, ⟨_, rfl⟩, go ?_⟩
      rintro ⟨n, e⟩
      refine c (decide_eq_true ?_)
      have hl := congrArg List.length e
      have tk : (l.take (i + 1)).length = i + 1 := by
        rw [List.length_take]
        omega
      rw [rep_length, tk] at hl
      show V.int ((l.length : Int) % (1 + (i : Int))) = V.int 0
      rw [hl, show (1 + (i : Int)) = ((i + 1 : Nat) : Int) by omega, Int.natCast_mul, Int.mul_emod_left]
  · rintro σ H' ⟨rfl, ⟨v, rfl⟩, inv⟩
    refine ⟨_, rfl, q l ⟨pos, ⟨1, Nat.one_pos, ?_⟩, fun m m0 m1 b hb n => inv m m0 ?_ b hb n⟩ (Nat.le_refl _)⟩
    · rw [rep_succ, rep_zero, List.append_nil]
    · omega
/-- how many signs of the head go on backwards as the loop does -/
def spBack : Sp := fun vs H Q _ => ∃ h a : List Nat, vs = [.str (T h), .str (T a)] ∧ 0 < a.length ∧ a.length ≤ 1000 ∧ h.length ≤ 1000 ∧ ∀ many, Back many h a → Q (.int (many : Nat)) H
theorem scBack : FnScope ["head", "loop", "many"] ["head", "loop"] (defScope s_turned_back) := ⟨rfl, rfl, rfl, by decide +kernel, rfl, by decide +kernel, by decide +kernel⟩
theorem atI_behind {l : List Nat} {m : Nat} (h : m < l.length) : atI (T l).cps.toList (-1 - (m : Int)) = some (l.getD (l.length - 1 - m) 0) := by
  show atI l (-1 - (m : Int)) = _
  unfold atI ixN
  rw [if_neg (by omega), if_pos (by omega)]
  show l[(-1 - (m : Int) + (l.length : Int)).toNat]? = _
  rw [show (-1 - (m : Int) + (l.length : Int)).toNat = l.length - 1 - m by omega, List.getElem?_eq_getElem (by omega), getD_get (by omega)]
theorem ok_back (F : Fun K "turned_back" "turned_back" s_turned_back f fd) (Z : Bl mg) : FnOk P w K mg base CX0 1 f fd ["head", "loop"] spBack := by
  refine F.ok scBack (fun vs H Q E h => ?_) (fun cdv A outer s H vs Q E hr h => ?_)
  · obtain ⟨h, a, rfl, _⟩ := h
    rfl
  obtain ⟨h, a, rfl, pos, fewa, fewh, q⟩ := h
  have sa := good_line fewa
  have sh := good_line fewh
  refine ⟨_, pss_cons (ps_set (i := 2) scBack.nd rfl (Or.inl rfl) pe_int)
    (pss_cons (ps_while PassesOwn.never (PW.pt (pw_and (pt_cmpR op_lt (pv 2) (pe_callB call_len_str (by rfl) Z.len PySem.boot_len (pa_cons (pv 0) pa_nil)) (nomark _))
        (pw_and1 (pt_cmpR op_eq (pe_ix ix_str (pv 0) (pe_op op_sub (pe_un un_neg pe_int) (pv 2)) (fun _ _ => rfl))
          (pe_ix ix_str (pv 1) (pe_op op_sub (pe_un un_neg pe_int) (pe_op op_mod (pv 2) (pe_callB call_len_str (by rfl) Z.len PySem.boot_len (pa_cons (pv 1) pa_nil)))) (fun _ _ => rfl)) (nomark _)))))
      (pss_one (ps_aug (i := 2) scBack.nd rfl (Or.inl rfl) pe_int ip_add)))
    (pss_one (ps_ret (pv 2)))), ?_⟩
  refine ⟨fun k σ H' => H' = H ∧ ∃ m : Nat, σ = [some (.str (T h)), some (.str (T a)), some (.int (m : Nat))] ∧ k = h.length - m ∧ m ≤ h.length ∧ ∀ i, i < m → h.getD (h.length - 1 - i) 0 = a.getD (a.length - 1 - i % a.length) 0,
    ⟨_, rfl, 0, rfl, rfl, Nat.zero_le _, fun i hi => absurd hi (Nat.not_lt_zero _)⟩, ?_⟩
  · rintro k σ H' ⟨rfl, m, rfl, rfl, le, same⟩
    refine ⟨_, rfl, _, rfl, _, rfl, sh, _, _, rfl, rfl, _, rfl, ?_⟩
    rw [T_len]
    refine ite2 (fun c => ?_) (fun c => ?_)
    · have c' : m < h.length := by
        have := of_decide_eq_true c
        omega
      have hm := Nat.mod_lt m pos
      have e1 := atI_behind (l := h) c'
      have e2 := atI_behind (l := a) hm
      refine ⟨_, rfl, _, rfl, _, rfl, _, _, rfl, rfl, _, _, _, rfl, rfl, sh, e1, ?_⟩
      refine ⟨_, rfl, _, rfl, _, rfl, _, rfl, _, rfl, sa, _, _, rfl, rfl, by rw [T_len]; omega, _, _, rfl, rfl, _, _, (a.getD (a.length - 1 - m % a.length) 0), rfl, rfl, sa, ?_, rfl, _, rfl, ?_⟩
      · rw [T_len, ← Int.natCast_emod]
        exact e2
      refine ite2 (fun d => ?_) (fun d => ?_)
      · have d' : h.getD (h.length - 1 - m) 0 = a.getD (a.length - 1 - m % a.length) 0 := by
          have z : (⟨#[h.getD (h.length - 1 - m) 0]⟩ : Str) = ⟨#[a.getD (a.length - 1 - m % a.length) 0]⟩ := V.str.inj (of_decide_eq_true d)
          have z2 := congrArg (fun x : Str => x.cps.toList) z
          exact List.head_eq_of_cons_eq z2
        refine ⟨fun σ' H'' => H'' = H' ∧ ∃ m' : Nat, σ' = [some (.str (T h)), some (.str (T a)), some (.int (m' : Nat))] ∧ m' = m + 1, ?_, ?_⟩
        · rintro σ' H'' ⟨rfl, m', rfl, rfl⟩
          refine ⟨h.length - (m + 1), by omega, rfl, m + 1, rfl, rfl, c', fun i hi => ?_⟩
          rcases Nat.lt_succ_iff_lt_or_eq.mp hi with z | rfl
          · exact same i z
          · exact d'
        · exact ⟨_, rfl, _, _, rfl, rfl, rfl, m + 1, rfl, rfl⟩
      · refine ⟨_, rfl, q m ⟨le, same, fun _ z => d (decide_eq_true ?_)⟩⟩
        rw [z]
    · refine iteF ⟨_, rfl, q m ⟨le, same, fun z => absurd ?_ c⟩⟩
      exact decide_eq_true (by omega)
end
end R5

namespace R5
open PySem PySem.Spec PyProof.Rows L2 Hx Rw
/-- what the text says of the class Round -/
structure Rd (K : PySem.W.Frag) (mg : Str → Option Value) (C : Addr) : Prop where
  cl : Cls K C
  nF : NoAttr K C "front"
  nA : NoAttr K C "again"
  gC : mg "Round" = some (.ref C)
  kS : PySem.W.kitOne K (.type "str") (.ref C) = some false
  kT : PySem.W.kitOne K (.type "tuple") (.ref C) = some false
  kC : PySem.W.kitOne K (.ref C) (.ref C) = some true
  ha : PySem.W.findIn K (.ref C) "__class__" = some (some (.builtin "object.__class__"))
  hn : PySem.W.specialIn K (.builtin "object.__class__") "__get__" = some (some (.builtin "getset_descriptor.__get__"))
  htk : PySem.W.takesIn K (.builtin "object.__class__") = some true
  hm : PySem.W.mroIn K C (.type "object") = some true
def fld (f g : List Nat) : List (Str × V) := [("front", .str (T f)), ("again", .str (T g))]
/-- a Round stands at a -/
def RoundAt (C : Addr) (H : Hp) (a : Addr) (f g : List Nat) : Prop := ∃ dx, H a = some (.ins C dx (fld f g))
theorem RoundAt.same {C : Addr} {H H' : Hp} {a : Addr} {f g : List Nat} (r : RoundAt C H a f g) (s : Same H H') : RoundAt C H' a f g := let ⟨dx, h⟩ := r; ⟨dx, s _ _ h⟩
def spIsInt : Sp := fun vs H Q _ => ∃ i : Int, vs = [.int i] ∧ Q (.bl true) H
def spCount : Sp := fun vs H Q _ => ∃ i : Int, vs = [.int i] ∧ 0 ≤ i ∧ Q .non H
def spInit (C : Addr) : Sp := fun vs H Q _ => ∃ (a dx : Addr) (h l : List Nat), vs = [.ref a, .str (T h), .str (T l)] ∧ H a = some (.ins C dx []) ∧ Good h ∧ Good l ∧ 0 < l.length ∧
  ∀ (least : List Nat) (many : Nat) (H' : Hp), Least least l → Back many h least → least.length ≤ l.length → But a H H' →
    H' a = some (.ins C dx (fld (h.take (h.length - many)) (turned (back many least.length) least))) → Q .non H'
def spItem (C : Addr) : Sp := fun vs H Q _ => ∃ (a : Addr) (n : Nat) (f g : List Nat), vs = [.ref a, .int (n : Nat)] ∧ RoundAt C H a f g ∧ f.length ≤ 1000 ∧ g.length ≤ 1000 ∧ 0 < g.length ∧ Q (.str (T [sg f g n])) H
def spFirst (C : Addr) : Sp := fun vs H Q _ => ∃ (a : Addr) (n : Nat) (f g : List Nat), vs = [.ref a, .int (n : Nat)] ∧ RoundAt C H a f g ∧ f.length ≤ 1000 ∧ g.length ≤ 1000 ∧ 0 < g.length ∧ n ≤ 100 ∧ Q (.str (T ((List.range n).map (sg f g)))) H
def spEq (C : Addr) : Sp := fun vs H Q _ => ∃ (a : Addr) (y : V) (f g : List Nat), vs = [.ref a, y] ∧ RoundAt C H a f g ∧
  (((∃ z : Str, y = .str z) ∧ Q (.bl false) H) ∨ ((∃ (b : Addr) (xs : List V), y = .ref b ∧ H b = some (.tup xs)) ∧ Q (.bl false) H) ∨
    ∃ (b : Addr) (f2 g2 : List Nat), y = .ref b ∧ RoundAt C H b f2 g2 ∧ Q (.bl (decide (f = f2 ∧ g = g2))) H)
def spStr (C : Addr) : Sp := fun vs H Q _ => ∃ (a : Addr) (f g : List Nat), vs = [.ref a] ∧ RoundAt C H a f g ∧ f.length ≤ 1000 ∧ g.length ≤ 1000 ∧ Q (.str (T (f ++ [40] ++ g ++ [41]))) H
def word : List Nat := [82, 111, 117, 110, 100, 40]
def spRepr (C : Addr) : Sp := fun vs H Q _ => ∃ (a : Addr) (f g : List Nat), vs = [.ref a] ∧ RoundAt C H a f g ∧ f.length ≤ 1000 ∧ g.length ≤ 1000 ∧ Q (.str (T (word ++ f ++ [40] ++ g ++ [41, 41]))) H
section
variable {P : Program} {w : World} {K : PySem.W.Frag} {mg : Str → Option Value} {base : Heap} {f C f1 f2 f3 : Addr} {fd fd1 fd2 fd3 : FuncData}
theorem scIsInt : FnScope ["value"] ["value"] (defScope s_is_integer) := ⟨rfl, rfl, rfl, by decide +kernel, rfl, by decide +kernel, by decide +kernel⟩
theorem ok_isint (F : Fun K "is_integer" "is_integer" s_is_integer f fd) (Z : Bl mg) : FnOk P w K mg base CX0 1 f fd ["value"] spIsInt := by
  refine F.ok scIsInt (fun vs H Q E h => ?_) (fun cdv A outer s H vs Q E hr h => ?_)
  · obtain ⟨i, rfl, _⟩ := h
    rfl
  obtain ⟨i, rfl, q⟩ := h
  refine ⟨_, pss_one (ps_ret (pe_and (pe_callB call_isi (by rfl) Z.isinstance PyProof.Rows.boot_isinstance (pa_cons (pv 0) (pa_cons (pe_bty (T := "int") rfl Z.int (by decide +kernel)) pa_nil)))
    (pe_one (pe_not (pe_callB call_isi (by rfl) Z.isinstance PyProof.Rows.boot_isinstance (pa_cons (pv 0) (pa_cons (pe_bty (T := "bool") rfl Z.bool (by decide +kernel)) pa_nil))))))), ?_⟩
  refine ⟨_, rfl, _, _, .type "int", _, true, rfl, .ty "int", .base (.int i), kit_ty (by decide +kernel), _, rfl, iteT ?_⟩
  exact ⟨_, rfl, _, _, .type "int", _, false, rfl, .ty "bool", .base (.int i), kit_ty (by decide +kernel), _, rfl, q⟩
def spIsCount : Sp := fun vs H Q _ => ∃ i : Int, vs = [.int i] ∧ Q (.bl (decide (0 ≤ i))) H
theorem scIsCount : FnScope ["value"] ["value"] (defScope s_is_count) := ⟨rfl, rfl, rfl, by decide +kernel, rfl, by decide +kernel, by decide +kernel⟩
theorem ok_iscount (F : Fun K "is_count" "is_count" s_is_count f fd)
    (G1 : FnOk P w K mg base CX0 1 f1 fd1 ["value"] spIsInt) (b1 : Binds K fd1 ["value"] []) (k1 : PySem.W.keepIn K (.ref f1) = true) (m1 : mg "is_integer" = some (.ref f1)) :
    FnOk P w K mg base CX0 2 f fd ["value"] spIsCount := by
  refine F.ok scIsCount (fun vs H Q E h => ?_) (fun cdv A outer s H vs Q E hr h => ?_)
  · obtain ⟨i, rfl, _⟩ := h
    rfl
  obtain ⟨i, rfl, q⟩ := h
  refine ⟨_, pss_one (ps_ret (pe_and (pe_call G1 hr rfl m1 k1 b1 .nil pass0 (pa_cons (pv 0) pa_nil)) (pe_one (pe_cmpR op_ge (pv 0) pe_int (nomark _))))), ?_⟩
  refine ⟨_, rfl, i, rfl, _, rfl, iteT ?_⟩
  exact ⟨_, rfl, _, _, rfl, rfl, q⟩
theorem scCount : FnScope ["given"] ["given"] (defScope s_check_count) := ⟨rfl, rfl, rfl, by decide +kernel, rfl, by decide +kernel, by decide +kernel⟩
theorem ok_count (F : Fun K "check_count" "check_count" s_check_count f fd)
    (G1 : FnOk P w K mg base CX0 2 f1 fd1 ["value"] spIsCount) (b1 : Binds K fd1 ["value"] []) (k1 : PySem.W.keepIn K (.ref f1) = true) (m1 : mg "is_count" = some (.ref f1)) :
    FnOk P w K mg base CX0 3 f fd ["given"] spCount := by
  refine F.ok scCount (fun vs H Q E h => ?_) (fun cdv A outer s H vs Q E hr h => ?_)
  · obtain ⟨i, rfl, _⟩ := h
    rfl
  obtain ⟨i, rfl, i0, q⟩ := h
  refine ⟨_, pss_one (ps_if (pt_not (pt_val (pe_call G1 hr rfl m1 k1 b1 .nil pass0 (pa_cons (pv 0) pa_nil)))) (pss_one ps_dead) pss_nil), ?_⟩
  refine ⟨_, rfl, i, rfl, ?_⟩
  rw [decide_eq_true i0]
  exact ⟨_, rfl, iteF q⟩
theorem neg_mod (m p : Nat) (hp : 0 < p) : (-(m : Int)) % (p : Int) = ((back m p : Nat) : Int) := by
  have hb := back_lt (many := m) hp
  have h2 := back_add (many := m) hp
  generalize back m p = b at hb h2 ⊢
  obtain ⟨k, hk⟩ := Nat.dvd_of_mod_eq_zero h2
  have e : (-(m : Int)) = (b : Int) + (p : Int) * (-(k : Int)) := by
    have : ((b + m : Nat) : Int) = ((p * k : Nat) : Int) := by rw [hk]
    rw [Int.natCast_add, Int.natCast_mul] at this
    rw [Int.mul_neg]
    omega
  rw [e, Int.add_mul_emod_self_left]
  exact Int.emod_eq_of_lt (Int.natCast_nonneg _) (Int.ofNat_lt.mpr hb)
theorem scInit : FnScope ["self", "head", "loop", "least", "many", "at"] ["self", "head", "loop"] (defScope s_Round_init) := ⟨rfl, rfl, rfl, by decide +kernel, rfl, by decide +kernel, by decide +kernel⟩
theorem ok_init (F : Fun K "__init__" "Round.__init__" s_Round_init f fd) (R : Rd K mg C) (Z : Bl mg)
    (G1 : FnOk P w K mg base CX0 1 f1 fd1 ["given", "least"] spChk) (b1 : Binds K fd1 ["given", "least"] []) (k1 : PySem.W.keepIn K (.ref f1) = true) (m1 : mg "check_lettered" = some (.ref f1))
    (G2 : FnOk P w K mg base CX0 1 f2 fd2 ["loop"] spShort) (b2 : Binds K fd2 ["loop"] []) (k2 : PySem.W.keepIn K (.ref f2) = true) (m2 : mg "shortest_loop" = some (.ref f2))
    (G3 : FnOk P w K mg base CX0 1 f3 fd3 ["head", "loop"] spBack) (b3 : Binds K fd3 ["head", "loop"] []) (k3 : PySem.W.keepIn K (.ref f3) = true) (m3 : mg "turned_back" = some (.ref f3)) :
    FnOk P w K mg base CX0 2 f fd ["self", "head", "loop"] (spInit C) := by
  refine F.ok scInit (fun vs H Q E h => ?_) (fun cdv A outer s H vs Q E hr h => ?_)
  · obtain ⟨a, dx, h, l, rfl, _⟩ := h
    rfl
  obtain ⟨a, dx, h, l, rfl, ha, gh, gl, pos, q⟩ := h
  refine ⟨_, pss_cons (ps_expr (pe_call G1 hr rfl m1 k1 b1 .nil pass0 (pa_cons (pv 1) (pa_cons pe_int pa_nil))))
    (pss_cons (ps_expr (pe_call G1 hr rfl m1 k1 b1 .nil pass0 (pa_cons (pv 2) (pa_cons pe_int pa_nil))))
    (pss_cons (ps_set (i := 3) scInit.nd rfl (Or.inl rfl) (pe_call G2 hr rfl m2 k2 b2 .nil pass0 (pa_cons (pv 2) pa_nil)))
    (pss_cons (ps_set (i := 4) scInit.nd rfl (Or.inl rfl) (pe_call G3 hr rfl m3 k3 b3 .nil pass0 (pa_cons (pv 1) (pa_cons (pv 3) pa_nil))))
    (pss_cons (ps_set (i := 5) scInit.nd rfl (Or.inl rfl) (pe_op op_mod (pe_un un_neg (pv 4)) (pe_callB call_len_str (by rfl) Z.len PySem.boot_len (pa_cons (pv 3) pa_nil))))
    (pss_cons (ps_fld (pv 0) (pe_slice sl_str (pv 1) po_none (po_some (pe_op op_sub (pe_callB call_len_str (by rfl) Z.len PySem.boot_len (pa_cons (pv 1) pa_nil)) (pv 4)))) rfl)
    (pss_one (ps_fld (pv 0) (pe_op op_add_str (pe_slice sl_str (pv 3) (po_some (pv 5)) po_none) (pe_slice sl_str (pv 3) po_none (po_some (pv 5)))) rfl))))))), ?_⟩
  refine ⟨_, rfl, h, 0, rfl, Int.natCast_nonneg _, gh, fun H1 s1 => ?_⟩
  refine ⟨_, rfl, l, 1, rfl, by omega, gl, fun H2 s2 => ?_⟩
  refine ⟨_, rfl, l, rfl, pos, gl.1, fun least L le => ?_⟩
  have p0 := L.pos
  refine ⟨_, rfl, _, rfl, h, least, rfl, p0, Nat.le_trans le gl.1, gh.1, fun many B => ?_⟩
  have hb := back_lt (many := many) p0
  have sl := good_line (Nat.le_trans le gl.1)
  have sh := good_line gh.1
  refine ⟨_, rfl, _, rfl, _, rfl, _, rfl, sl, _, _, rfl, rfl, by rw [T_len]; omega, ?_⟩
  have bl := B.le
  have e1 : cutS (T h) none (some (((T h).length : Int) - (many : Int))) = T (h.take (h.length - many)) := by
    rw [T_len, T_cutN _ (by omega), show ((h.length : Int) - (many : Int)).toNat = h.length - many by omega]
  have e2 : -(many : Int) % ((T least).length : Int) = ((back many least.length : Nat) : Int) := by
    rw [T_len, neg_mod _ _ p0]
  dsimp only
  rw [e2]
  have c1 := (s1.trans s2) _ _ ha
  refine ⟨_, rfl, _, rfl, _, rfl, sh, _, rfl, _, _, rfl, rfl, _, rfl, _, rfl, sh, ?_⟩
  rw [e1]
  refine ⟨_, rfl, a, C, dx, _, rfl, c1, R.cl, R.nF, (by show 0 < 1000; decide), ?_⟩
  refine ⟨_, rfl, _, rfl, _, rfl, _, rfl, sl, ?_⟩
  refine ⟨_, rfl, _, rfl, _, rfl, _, rfl, sl, ?_⟩
  rw [T_cutD _ (Int.natCast_nonneg _), T_cutN _ (Int.natCast_nonneg _), Int.toNat_natCast]
  refine ⟨_, _, rfl, rfl, ?_, ?_⟩
  · rw [T_len, T_len, List.length_drop, List.length_take]
    refine small_line ?_
    have := gl.1
    omega
  rw [T_add]
  refine ⟨_, rfl, a, C, dx, _, rfl, upd_same, R.cl, R.nA, (by show 1 < 1000; decide), ?_⟩
  refine q least many _ L B le ?_ upd_same
  exact ((But.of (s1.trans s2)).upd _).upd _
end
end R5

namespace R5
open PySem PySem.Spec PyProof.Rows L2 Hx Rw
section
variable {P : Program} {w : World} {K : PySem.W.Frag} {mg : Str → Option Value} {base : Heap} {f C f1 f2 f3 : Addr} {fd fd1 fd2 fd3 : FuncData}
theorem atI_at {l : List Nat} {n : Nat} (h : n < l.length) : atI (T l).cps.toList (n : Int) = some (l.getD n 0) := by
  show atI l (n : Int) = _
  rw [getD_get h]
  exact atI_nat (List.getElem?_eq_getElem h)
theorem scItem : FnScope ["self", "at"] ["self", "at"] (defScope s_Round_getitem) := ⟨rfl, rfl, rfl, by decide +kernel, rfl, by decide +kernel, by decide +kernel⟩
theorem ok_item (F : Fun K "__getitem__" "Round.__getitem__" s_Round_getitem f fd) (R : Rd K mg C) (Z : Bl mg)
    (G1 : FnOk P w K mg base CX0 3 f1 fd1 ["given"] spCount) (b1 : Binds K fd1 ["given"] []) (k1 : PySem.W.keepIn K (.ref f1) = true) (m1 : mg "check_count" = some (.ref f1)) :
    FnOk P w K mg base CX0 4 f fd ["self", "at"] (spItem C) := by
  refine F.ok scItem (fun vs H Q E h => ?_) (fun cdv A outer s H vs Q E hr h => ?_)
  · obtain ⟨a, n, f, g, rfl, _⟩ := h
    rfl
  obtain ⟨a, n, f, g, rfl, ⟨dx, ha⟩, fl, gl, pos, q⟩ := h
  refine ⟨_, pss_cons (ps_expr (pe_call G1 hr rfl m1 k1 b1 .nil pass0 (pa_cons (pv 1) pa_nil)))
    (pss_cons (ps_if (pt_cmpR op_lt (pv 1) (pe_callB call_len_str (by rfl) Z.len PySem.boot_len (pa_cons (pe_fld (pv 0) rfl) pa_nil)) (nomark _))
      (pss_one (ps_ret (pe_ix ix_str (pe_fld (pv 0) rfl) (pv 1) (fun _ _ => rfl)))) pss_nil)
    (pss_one (ps_ret (pe_ix ix_str (pe_fld (pv 0) rfl) (pe_op op_mod (pe_op op_sub (pv 1) (pe_callB call_len_str (by rfl) Z.len PySem.boot_len (pa_cons (pe_fld (pv 0) rfl) pa_nil)))
      (pe_callB call_len_str (by rfl) Z.len PySem.boot_len (pa_cons (pe_fld (pv 0) rfl) pa_nil))) (fun _ _ => rfl))))), ?_⟩
  have sf := good_line fl
  have sgl := good_line gl
  refine ⟨_, rfl, _, rfl, Int.natCast_nonneg _, ?_⟩
  refine ⟨_, rfl, _, rfl, a, C, dx, _, _, rfl, ha, R.cl, R.nF, rfl, _, rfl, sf, _, _, rfl, rfl, _, rfl, ?_⟩
  rw [T_len]
  refine ite2 (fun c => ?_) (fun c => ?_)
  · have c' : n < f.length := by
      have := of_decide_eq_true c
      omega
    refine ⟨_, rfl, a, C, dx, _, _, rfl, ha, R.cl, R.nF, rfl, _, rfl, _, _, f.getD n 0, rfl, rfl, sf, atI_at c', ?_⟩
    have e : sg f g n = f.getD n 0 := by
      unfold sg
      rw [if_pos c']
    rw [e] at q
    exact q
  · have c' : f.length ≤ n := by
      have : ¬ (n : Int) < (f.length : Int) := fun z => c (decide_eq_true z)
      omega
    refine ⟨_, rfl, a, C, dx, _, _, rfl, ha, R.cl, R.nA, rfl, ?_⟩
    refine ⟨_, rfl, _, rfl, a, C, dx, _, _, rfl, ha, R.cl, R.nF, rfl, _, rfl, sf, _, _, rfl, rfl, ?_⟩
    refine ⟨_, rfl, a, C, dx, _, _, rfl, ha, R.cl, R.nA, rfl, _, rfl, sgl, _, _, rfl, rfl, (by show (0 : Int) < ((T g).length : Int); rw [T_len]; omega), ?_⟩
    have hm := Nat.mod_lt (n - f.length) pos
    refine ⟨_, _, g.getD ((n - f.length) % g.length) 0, rfl, rfl, sgl, ?_, ?_⟩
    · have e : ((n : Int) - ((T f).length : Int)) % ((T g).length : Int) = (((n - f.length) % g.length : Nat) : Int) := by
        rw [T_len, T_len, show (n : Int) - (f.length : Int) = ((n - f.length : Nat) : Int) by omega]
        exact (Int.natCast_emod _ _).symm
      show atI (T g).cps.toList (((n : Int) - ((T f).length : Int)) % ((T g).length : Int)) = _
      rw [e]
      exact atI_at hm
    · rw [sg_far c'] at q
      exact q
theorem scFirst : FnScope ["self", "many", "times"] ["self", "many"] (defScope s_Round_first) := ⟨rfl, rfl, rfl, by decide +kernel, rfl, by decide +kernel, by decide +kernel⟩
theorem ok_first (F : Fun K "first" "Round.first" s_Round_first f fd) (R : Rd K mg C) (Z : Bl mg)
    (G1 : FnOk P w K mg base CX0 3 f1 fd1 ["given"] spCount) (b1 : Binds K fd1 ["given"] []) (k1 : PySem.W.keepIn K (.ref f1) = true) (m1 : mg "check_count" = some (.ref f1)) :
    FnOk P w K mg base CX0 4 f fd ["self", "many"] (spFirst C) := by
  refine F.ok scFirst (fun vs H Q E h => ?_) (fun cdv A outer s H vs Q E hr h => ?_)
  · obtain ⟨a, n, f, g, rfl, _⟩ := h
    rfl
  obtain ⟨a, n, f, g, rfl, ⟨dx, ha⟩, fl, gl, pos, n1, q⟩ := h
  refine ⟨_, pss_cons (ps_expr (pe_call G1 hr rfl m1 k1 b1 .nil pass0 (pa_cons (pv 1) pa_nil)))
    (pss_cons (ps_set (i := 2) scFirst.nd rfl (Or.inl rfl) (pe_op op_add (pe_op op_fdiv (pv 1) (pe_callB call_len_str (by rfl) Z.len PySem.boot_len (pa_cons (pe_fld (pv 0) rfl) pa_nil))) pe_int))
    (pss_one (ps_ret (pe_slice sl_str (pe_op op_add_str (pe_fld (pv 0) rfl) (pe_op op_mul_str (pe_fld (pv 0) rfl) (pv 2))) po_none (po_some (pv 1)))))), ?_⟩
  have sf := good_line fl
  have sgl := good_line gl
  have dl : n / g.length ≤ n := Nat.div_le_self _ _
  refine ⟨_, rfl, _, rfl, Int.natCast_nonneg _, ?_⟩
  refine ⟨_, rfl, _, rfl, a, C, dx, _, _, rfl, ha, R.cl, R.nA, rfl, _, rfl, sgl, _, _, rfl, rfl, ⟨by rw [T_len]; omega, by rw [T_len]; omega⟩, _, _, rfl, rfl, ?_⟩
  have e : (n : Int) / ((T g).length : Int) + 1 = ((n / g.length + 1 : Nat) : Int) := by
    rw [T_len, Int.natCast_add, Int.natCast_ediv]
    rfl
  dsimp only
  rw [e]
  have z1 : ((n / g.length + 1 : Nat) : Int) ≤ 1000 := by
    have : n / g.length + 1 ≤ 1000 := by omega
    exact Int.ofNat_le.mpr this
  refine ⟨_, rfl, a, C, dx, _, _, rfl, ha, R.cl, R.nF, rfl, _, rfl, a, C, dx, _, _, rfl, ha, R.cl, R.nA, rfl, _, rfl, _, _, rfl, rfl, mulOk (Int.natCast_nonneg _) z1 gl, ?_⟩
  rw [T_mul _ (Int.natCast_nonneg _), Int.toNat_natCast]
  have hmul : (n / g.length + 1) * g.length ≤ n + g.length := by
    rw [Nat.add_mul, Nat.one_mul]
    have := Nat.div_mul_le_self n g.length
    omega
  have hl : (T f).length + (T (rep (n / g.length + 1) g)).length ≤ 3000 := by
    rw [T_len, T_len, rep_length]
    omega
  have line : (3000 : Nat) ≤ sizeLine := by decide
  refine ⟨_, _, rfl, rfl, Nat.le_trans hl line, ?_⟩
  rw [T_add]
  refine ⟨_, rfl, _, rfl, _, rfl, ?_, ?_⟩
  · rw [T_len, List.length_append, ← T_len f, ← T_len (rep _ g)]
    exact Nat.le_trans hl line
  · rw [T_cutN _ (Int.natCast_nonneg _), Int.toNat_natCast, first_signs pos ?_]
    · exact q
    · have := Nat.lt_div_mul_add (a := n) (b := g.length) pos
      rw [Nat.add_mul, Nat.one_mul]
      omega
theorem scEq : FnScope ["self", "other"] ["self", "other"] (defScope s_Round_eq) := ⟨rfl, rfl, rfl, by decide +kernel, rfl, by decide +kernel, by decide +kernel⟩
theorem ok_eq (F : Fun K "__eq__" "Round.__eq__" s_Round_eq f fd) (R : Rd K mg C) (Z : Bl mg) : FnOk P w K mg base CX0 1 f fd ["self", "other"] (spEq C) := by
  refine F.ok scEq (fun vs H Q E h => ?_) (fun cdv A outer s H vs Q E hr h => ?_)
  · obtain ⟨a, y, f, g, rfl, _⟩ := h
    rfl
  obtain ⟨a, y, f, g, rfl, ⟨dx, ha⟩, h⟩ := h
  refine ⟨_, pss_one (ps_ret (pe_and (pe_callB call_isi (by rfl) Z.isinstance PyProof.Rows.boot_isinstance (pa_cons (pv 1) (pa_cons (pe_gref rfl R.gC) pa_nil)))
    (pe_and (pe_cmpR op_eq (pe_fld (pv 0) rfl) (pe_fld (pv 1) rfl) (nomark _)) (pe_one (pe_cmpR op_eq (pe_fld (pv 0) rfl) (pe_fld (pv 1) rfl) (nomark _)))))), ?_⟩
  rcases h with ⟨⟨z, rfl⟩, q⟩ | ⟨⟨b, xs, rfl, hb⟩, q⟩ | ⟨b, f2, g2, rfl, ⟨dy, hb⟩, q⟩
  · exact ⟨_, rfl, _, _, .type "str", _, false, rfl, .own C, .base (.str z), R.kS, _, rfl, iteF q⟩
  · exact ⟨_, rfl, _, _, .type "tuple", _, false, rfl, .own C, .base (.tup hb), R.kT, _, rfl, iteF q⟩
  · refine ⟨_, rfl, _, _, .ref C, _, true, rfl, .own C, .base (.ins hb R.cl R.ha R.hn R.htk R.hm), R.kC, _, rfl, iteT ?_⟩
    refine ⟨_, rfl, a, C, dx, _, _, rfl, ha, R.cl, R.nF, rfl, _, rfl, b, C, dy, _, _, rfl, hb, R.cl, R.nF, rfl, rfl, _, rfl, ?_⟩
    by_cases c : f = f2
    · subst c
      rw [decide_eq_true rfl]
      refine iteT ⟨_, rfl, a, C, dx, _, _, rfl, ha, R.cl, R.nA, rfl, _, rfl, b, C, dy, _, _, rfl, hb, R.cl, R.nA, rfl, rfl, ?_⟩
      have e : decide (V.str (T g) = V.str (T g2)) = decide (f = f ∧ g = g2) := by
        by_cases d : g = g2
        · subst d
          rw [decide_eq_true rfl, decide_eq_true ⟨rfl, rfl⟩]
        · rw [decide_eq_false fun z => d (T_inj (V.str.inj z)), decide_eq_false fun z => d z.2]
      rw [e]
      exact q
    · rw [decide_eq_false fun z => c (T_inj (V.str.inj z))]
      rw [decide_eq_false fun z => c z.1] at q
      exact iteF q
theorem scStr : FnScope ["self"] ["self"] (defScope s_Round_str) := ⟨rfl, rfl, rfl, by decide +kernel, rfl, by decide +kernel, by decide +kernel⟩
theorem scRepr : FnScope ["self"] ["self"] (defScope s_Round_repr) := ⟨rfl, rfl, rfl, by decide +kernel, rfl, by decide +kernel, by decide +kernel⟩
theorem ok_str (F : Fun K "__str__" "Round.__str__" s_Round_str f fd) (R : Rd K mg C) : FnOk P w K mg base CX0 1 f fd ["self"] (spStr C) := by
  refine F.ok scStr (fun vs H Q E h => ?_) (fun cdv A outer s H vs Q E hr h => ?_)
  · obtain ⟨a, f, g, rfl, _⟩ := h
    rfl
  obtain ⟨a, f, g, rfl, ⟨dx, ha⟩, fl, gl, q⟩ := h
  refine ⟨_, pss_one (ps_ret (pe_joined (.cons (pe_fmt (pe_fld (pv 0) rfl)) (.cons pe_str (.cons (pe_fmt (pe_fld (pv 0) rfl)) (.cons pe_str .nil)))))), ?_⟩
  have line : (3000 : Nat) ≤ sizeLine := by decide
  have l1 : (Str.empty ++ T f).length ≤ sizeLine := by
    rw [show Str.empty = T [] from rfl, T_add, List.nil_append]
    exact good_line fl
  refine ⟨_, rfl, a, C, dx, _, _, rfl, ha, R.cl, R.nF, rfl, .inl ⟨_, rfl, good_line fl, _, rfl, l1, ?_⟩⟩
  rw [show Str.empty = T [] from rfl, T_add, List.nil_append]
  have e1 : ("(" : Str) = T [40] := by decide +kernel
  have e2 : (")" : Str) = T [41] := by decide +kernel
  have fit : ∀ m : List Nat, m.length ≤ 3000 → (T m).length ≤ sizeLine := fun m hm => by
    rw [T_len]
    exact Nat.le_trans hm line
  refine ⟨_, rfl, ?_, ?_⟩
  · rw [e1, T_add]
    exact fit _ (by rw [List.length_append]; simp; omega)
  rw [e1, T_add]
  refine ⟨_, rfl, a, C, dx, _, _, rfl, ha, R.cl, R.nA, rfl, .inl ⟨_, rfl, good_line gl, _, rfl, ?_, ?_⟩⟩
  · rw [T_add]
    exact fit _ (by simp; omega)
  rw [T_add]
  refine ⟨_, rfl, ?_, ?_⟩
  · rw [e2, T_add]
    exact fit _ (by simp; omega)
  rw [e2, T_add]
  exact q
theorem ok_repr (F : Fun K "__repr__" "Round.__repr__" s_Round_repr f fd) (R : Rd K mg C) : FnOk P w K mg base CX0 1 f fd ["self"] (spRepr C) := by
  refine F.ok scRepr (fun vs H Q E h => ?_) (fun cdv A outer s H vs Q E hr h => ?_)
  · obtain ⟨a, f, g, rfl, _⟩ := h
    rfl
  obtain ⟨a, f, g, rfl, ⟨dx, ha⟩, fl, gl, q⟩ := h
  refine ⟨_, pss_one (ps_ret (pe_joined (.cons pe_str (.cons (pe_fmt (pe_fld (pv 0) rfl)) (.cons pe_str (.cons (pe_fmt (pe_fld (pv 0) rfl)) (.cons pe_str .nil))))))), ?_⟩
  have line : (3000 : Nat) ≤ sizeLine := by decide
  have e0 : ("Round(" : Str) = T word := by decide +kernel
  have e1 : ("(" : Str) = T [40] := by decide +kernel
  have e2 : ("))" : Str) = T [41, 41] := by decide +kernel
  have fit : ∀ m : List Nat, m.length ≤ 3000 → (T m).length ≤ sizeLine := fun m hm => by
    rw [T_len]
    exact Nat.le_trans hm line
  have wl : word.length = 6 := rfl
  refine ⟨_, rfl, ?_, ?_⟩
  · rw [e0, show Str.empty = T [] from rfl, T_add, List.nil_append]
    exact fit _ (by decide)
  rw [e0, show Str.empty = T [] from rfl, T_add, List.nil_append]
  refine ⟨_, rfl, a, C, dx, _, _, rfl, ha, R.cl, R.nF, rfl, .inl ⟨_, rfl, good_line fl, _, rfl, ?_, ?_⟩⟩
  · rw [T_add]
    exact fit _ (by simp [wl]; omega)
  rw [T_add]
  refine ⟨_, rfl, ?_, ?_⟩
  · rw [e1, T_add]
    exact fit _ (by simp [wl]; omega)
  rw [e1, T_add]
  refine ⟨_, rfl, a, C, dx, _, _, rfl, ha, R.cl, R.nA, rfl, .inl ⟨_, rfl, good_line gl, _, rfl, ?_, ?_⟩⟩
  · rw [T_add]
    exact fit _ (by simp [wl]; omega)
  rw [T_add]
  refine ⟨_, rfl, ?_, ?_⟩
  · rw [e2, T_add]
    exact fit _ (by simp [wl]; omega)
  rw [e2, T_add]
  exact q
end
end R5

namespace R5
open PySem PySem.Spec PyProof.Rows L2 Hx Rw
/-- the signs one by one -/
def one (l : List Nat) : List Str := l.map fun c => T [c]
def ones (l : List Nat) : List V := (one l).map V.str
theorem ones_length (l : List Nat) : (ones l).length = l.length := by
  unfold ones one
  rw [List.length_map, List.length_map]
theorem ones_add (l m : List Nat) : ones (l ++ m) = ones l ++ ones m := by
  unfold ones one
  rw [List.map_append, List.map_append]
theorem ones_take (l : List Nat) (n : Nat) : (ones l).take n = ones (l.take n) := by
  unfold ones one
  rw [List.map_take, List.map_take]
theorem ones_drop (l : List Nat) (n : Nat) : (ones l).drop n = ones (l.drop n) := by
  unfold ones one
  rw [List.map_drop, List.map_drop]
theorem ones_get {l : List Nat} {n : Nat} (h : n < l.length) : (ones l)[n]? = some (V.str (T [l.getD n 0])) := by
  unfold ones one
  rw [List.getElem?_map, List.getElem?_map, List.getElem?_eq_getElem h, getD_get h]
  rfl
theorem joinL_nil : ∀ l : List Nat, TL.joinL [] (l.map fun c => [c]) = l
  | [] => rfl
  | [_] => rfl
  | a :: b :: r => by
    show [a] ++ ([] ++ TL.joinL [] ((b :: r).map fun c => [c])) = _
    rw [joinL_nil (b :: r)]
    rfl
theorem join_one (l : List Nat) : Str.join "" (one l) = T l := by
  refine T_ext ?_
  show TL.tl (Str.join "" (one l)) = l
  rw [TL.tl_join]
  have e1 : TL.tl ("" : Str) = [] := by decide +kernel
  have e2 : (one l).map TL.tl = l.map fun c => [c] := by
    unfold one
    rw [List.map_map]
    rfl
  rw [e1, e2, joinL_nil]
theorem one_small {l : List Nat} (h : l.length ≤ 1000) : ((one l).map (·.length)).sum + (one l).length * ("" : Str).length ≤ 16777216 := by
  have e0 : ("" : Str).length = 0 := by decide +kernel
  have e1 : ((one l).map (·.length)).sum = l.length := by
    unfold one
    induction l with
    | nil => rfl
    | cons c r ih =>
      rw [List.map_cons, List.map_cons, List.sum_cons, ih (by rw [List.length_cons] at h; omega), T_len, List.length_cons, List.length_cons]
      show 0 + 1 + r.length = _
      omega
  rw [e0, e1]
  omega
def spOfS : Sp := fun vs H Q _ => ∃ (d : Addr) (m : List Nat), vs = [.ref d, .str (T m)] ∧ 0 < m.length ∧ m.length ≤ 1000 ∧ DeckAt H d ∧ ∀ c H', c ∈ m → But d H H' → DeckAt H' d → Q (.str (T [c])) H'
def spString : Sp := fun vs H Q _ => ∃ (d : Addr) (m : List Nat) (k : Int), vs = [.ref d, .str (T m), .int k] ∧ 0 < m.length ∧ m.length ≤ 1000 ∧ 0 ≤ k ∧ k ≤ 100 ∧ DeckAt H d ∧
  ∀ (l : List Nat) H', (l.length : Int) = k → (∀ c ∈ l, c ∈ m) → But d H H' → DeckAt H' d → Q (.str (T l)) H'
theorem DeckAt.but {d D : Addr} {H : Hp} (h : DeckAt H d) (n : d ≠ D) (o : HO) : DeckAt (upd H D o) d := by
  obtain ⟨a, m, c, h1, h2, e⟩ := h
  exact ⟨a, m, c, h1, h2, by rw [upd_ne n]; exact e⟩
theorem DeckAt.some {d : Addr} {H : Hp} (h : DeckAt H d) : ∃ o, H d = Option.some o := let ⟨_, _, _, _, _, e⟩ := h; ⟨_, e⟩
theorem DeckAt.ne {d D : Addr} {H : Hp} (h : DeckAt H d) (n : H D = none) : d ≠ D := by
  obtain ⟨o, e⟩ := h.some
  exact ne_of_none e n
section
variable {P : Program} {w : World} {K : PySem.W.Frag} {mg : Str → Option Value} {base : Heap} {f C f1 f2 f3 : Addr} {fd fd1 fd2 fd3 : FuncData}
theorem scOf : FnScope ["_law_deck_here", "_law_menu"] ["_law_deck_here", "_law_menu"] (defScope s_law_of) := ⟨rfl, rfl, rfl, by decide +kernel, rfl, by decide +kernel, by decide +kernel⟩
theorem ok_ofS (F : Fun K "_law_of" "_law_of" s_law_of f fd) (GC : FnOk P w K mg base CX0 1 f1 fd1 ["_law_deck_here", "_law_top"] spCard) (bC : Binds K fd1 ["_law_deck_here", "_law_top"] [])
    (kC : PySem.W.keepIn K (.ref f1) = true) (mC : mg "_law_card" = some (.ref f1)) (ml : mg "len" = none) : FnOk P w K mg base CX0 2 f fd ["_law_deck_here", "_law_menu"] spOfS := by
  refine F.ok scOf (fun vs H Q E h => ?_) (fun cdv A outer s H vs Q E hr h => ?_)
  · obtain ⟨d, z, rfl, _⟩ := h
    rfl
  obtain ⟨d, z, rfl, z0, z1, hd, q⟩ := h
  refine ⟨_, pss_one (ps_ret (pe_ix ix_str (pv 1) (pe_call GC hr rfl mC kC bC .nil pass0 (pa_cons (pv 0) (pa_cons
    (pe_callB call_len_str (by rfl) ml PySem.boot_len (pa_cons (pv 1) pa_nil)) pa_nil))) (fun _ _ => rfl))), ?_⟩
  refine ⟨_, rfl, _, rfl, _, rfl, T z, rfl, good_line z1, d, _, rfl, by rw [T_len]; omega, by rw [T_len]; omega, hd, fun r H' r0 r1 b hd' => ?_⟩
  rw [T_len] at r1
  obtain ⟨c, hc, ec⟩ := atI_in (xs := z) r0 r1
  exact ⟨_, _, c, rfl, rfl, good_line z1, ec, q c H' hc b hd'⟩
theorem scString : FnScope ["_law_deck_here", "_law_letters", "_law_size", "_law_k"] ["_law_deck_here", "_law_letters", "_law_size"] (defScope s_law_string) := ⟨rfl, rfl, rfl, by decide +kernel, rfl, by decide +kernel, by decide +kernel⟩
theorem ok_string (F : Fun K "_law_string" "_law_string" s_law_string f fd) (Z : Bl mg) (GO : FnOk P w K mg base CX0 2 f1 fd1 ["_law_deck_here", "_law_menu"] spOfS) (bO : Binds K fd1 ["_law_deck_here", "_law_menu"] [])
    (kO : PySem.W.keepIn K (.ref f1) = true) (mO : mg "_law_of" = some (.ref f1)) : FnOk P w K mg base CX0 3 f fd ["_law_deck_here", "_law_letters", "_law_size"] spString := by
  refine F.ok scString (fun vs H Q E h => ?_) (fun cdv A outer s H vs Q E hr h => ?_)
  · obtain ⟨d, m, k, rfl, _⟩ := h
    rfl
  obtain ⟨d, m, k, rfl, m0, m1, k0, k1, hd, q⟩ := h
  refine ⟨_, pss_one (ps_ret (pe_join pe_str (pe_lc (te := tCall spOfS [] E0 (tCons (tVar 0) (tCons (tVar 1) tNil))) (own := [("_law_k", 3)]) (g := gName 3) (tt := tYes) rfl scString.nd (pi_range1 rfl Z.range (pa_cons (pv 2) pa_nil))
      (blkOk_by (N := ["_law_deck_here", "_law_letters", "_law_size", "_law_k"]) (sc := defScope s_law_string) (by decide +kernel)) (fun _ _ _ _ _ => pg_name (i := 3) scString.nd rfl (Or.inl rfl)) (fun _ _ _ _ _ => pts_nil)
      (fun _ _ _ _ _ => pe_call GO hr rfl mO kO bO .nil pass0 (pa_cons (pv 0) (pa_cons (pv 1) pa_nil)))))), ?_⟩
  refine ⟨⟨_, rfl⟩, _, rfl, k, rfl, by omega, by omega, fun D hD => ?_⟩
  have nd := hd.ne hD
  refine lc_range (lo := 0) (n := k.toNat) (fun i H' => But d H H' ∧ DeckAt H' d ∧ ∃ l : List Nat, l.length = i ∧ (∀ c ∈ l, c ∈ m) ∧ H' D = some (.lst (ones l)))
    ⟨But.refl.new hD _, hd.but nd _, [], rfl, (by intro c hc; cases hc), upd_same⟩ ?_ ?_
  · rintro i H' hi ⟨b, hd', l, rfl, hl, h1⟩
    refine ⟨rfl, turn_yes ⟨_, rfl, _, rfl, d, m, rfl, m0, m1, hd', fun c H2 hc b2 hd2 => ?_⟩⟩
    have h2 := b2 D _ (Ne.symm nd) h1
    refine ⟨_, h2, ?_, ?_, hd2.but nd _, l ++ [c], by rw [List.length_append]; rfl, fun x hx => ?_, ?_⟩
    · rw [ones_length]
      exact Nat.lt_of_lt_of_le (by omega : _ < 1000) (small_line (Nat.le_refl _))
    · intro x o nx hx
      have e : x ≠ D := ne_of_none hx hD
      rw [upd_ne e]
      exact b2 x o nx (b x o nx hx)
    · rcases List.mem_append.mp hx with z | z
      · exact hl x z
      · rw [List.mem_singleton.mp z]
        exact hc
    · rw [upd_same, ones_add]
      rfl
  · rintro H' ⟨b, hd', l, ll, hl, h1⟩
    refine ⟨"", D, one l, rfl, rfl, .inl (SqL.of h1), one_small (by omega), ?_⟩
    rw [TL.join_eq, join_one]
    exact q l H' (by omega) hl b hd'
end
end R5

namespace Hx
open PySem PySem.Spec PyProof.Rows L2
/-- repr of data, up to a line in length -/
def rReprL : List V → Hp → VK → Prop := fun xs H Q => ∃ v d, xs = [v] ∧ Dq H v d ∧ d.showable = true ∧ d.depth ≤ 20 ∧ d.shown.length ≤ sizeLine ∧ Q (.str d.shown) H
/-- repr(x) of an own object, its class in the reading -/
def rShowA (P : Program) (w : World) (K : PySem.W.Frag) (mg : Str → Option Value) (base : Heap) (k : Nat) : List V → Hp → VK → Prop := fun xs H Q => ∃ (a C dx : Addr) (fs : List (Str × V)) (sp : Sp), xs = [.ref a] ∧ H a = some (.ins C dx fs) ∧ Hx.ShowsBy P w K mg base k C sp ∧
  sp [.ref a] H (fun v H' => ∃ y : Str, v = .str y ∧ Q (.str y) H') E0
section
variable {X : Cx} {k : Nat}
theorem call_reprL (gd : X.A.guards = some []) (hu : X.A.units + 64 < cLine) (hm : Mods X.base) : CallR X (.builtin "repr") rReprL := by
  intro pins s σ H xs us Q I r h
  obtain ⟨v, d, rfl, hd, h1, h2, hz, q⟩ := h
  obtain ⟨u, rfl, ru⟩ := vals1 r
  obtain ⟨as, hr, ha⟩ := Dq.reads I d v u hd ru
  have hno : sysModules ∉ as := fun z => by
    obtain ⟨o, e⟩ := ha _ z
    obtain ⟨b, eb⟩ := hm
    have n := (I.bs _ _ eb).2
    rw [n] at e
    cases e
  have fin : ∀ (h' : Heap) (tu : Tok) (tk : Nat), (∀ b o, s.heap.get? b = some o → h'.get? b = some o) → EP X pins σ Q (.str d.shown tu) { s with heap := h', toks := tk } :=
    fun h' tu tk k => ⟨.str d.shown, H, I.kept (t' := tk) k, ⟨_, rfl⟩, q⟩
  cases hd with
  | non => cases ru; exact P.repr_of_none (fin _ _ _ fun _ _ z => z)
  | bl b => cases ru; exact P.repr_of_bool (fin _ _ _ fun _ _ z => z)
  | int i =>
    obtain ⟨t, rfl⟩ := ru
    exact P.repr_of_int (of_decide_eq_true h1) (fin _ _ _ fun _ _ z => z)
  | str x =>
    obtain ⟨t, rfl⟩ := ru
    exact P.repr_of_str (fin _ _ _ fun _ _ z => z) hz
  | lst _ _ => cases ru; exact repr_of_reads' hr h1 (fun _ => hno) gd (by omega) (fun _ _ z => z) fin hz
  | tup _ _ => cases ru; exact repr_of_reads' hr h1 (fun _ => hno) gd (by omega) (fun _ _ z => z) fin hz
  | dct _ _ => cases ru; exact repr_of_reads' hr h1 (fun _ => hno) gd (by omega) (fun _ _ z => z) fin hz
theorem call_showA (hr : Room (k + 1) X.A) : CallR X (.builtin "repr") (rShowA X.prog X.w X.K X.mg X.base k) := by
  intro pins s σ H xs us Q I r h
  obtain ⟨a, C, dx, fs, sp, rfl, ha, T, q⟩ := h
  exact call_show T hr pins s σ H _ us Q I r ⟨a, dx, fs, rfl, ha, q⟩
end
end Hx

/-! try with several clauses 'except x as n' -/
namespace Hx
open PySem PySem.Spec PyProof.Rows L2
/-- what is wished behind a clause's suite: the name is gone -/
def Gone (i : Nat) (D : Ends) : Ends := { nx := fun σ' H' => D.nx (σ'.set i none) H', rt := D.rt, bk := fun σ' H' => D.bk (σ'.set i none) H', ct := fun σ' H' => D.ct (σ'.set i none) H' }
def wClauses (K : PySem.W.Frag) (i : Nat) (Wout : WX) (D : Ends) : List (Value × (Addr → Value → Option Addr → TS)) → WX
  | [] => Wout
  | (c, ts) :: r => fun cls d σ H => ∃ b, PySem.W.exmOne K cls c = some b ∧ (b = true → ∀ a, H a = none → i < σ.length → ts a cls d (Gone i D) (σ.set i (some (.ref a))) H) ∧ (b = false → wClauses K i Wout D r cls d σ H)
inductive Clauses (X : Cx) (n : Str) : List ExceptHandler → List (Value × (Addr → Value → Option Addr → TS)) → Prop
  | nil : Clauses X n [] []
  | cons {x : Str} {c : Value} {ts : Addr → Value → Option Addr → TS} {b₀ : Stmt} {suite : List Stmt} {np pos' : Pos} {hds : List ExceptHandler} {l : List (Value × (Addr → Value → Option Addr → TS))} (hc : Names X x c)
      (hsu : ∀ (a : Addr) (oe : Obj) (cls : Value) (d : Option Addr) (pn : List (Addr × Obj)), Zc cls d oe → (∃ vs, oe.data = .fields vs) → PSs (X.suite a ((a, oe) :: pn)) (b₀ :: suite) (ts a cls d)) (r : Clauses X n hds l) :
      Clauses X n (.ExceptHandler (some (.Name x np)) (some n) (b₀ :: suite) pos' :: hds) ((c, ts) :: l)
section
variable {X : Cx} {n : Str} {i : Nat} {body : List Stmt} {h₀ : ExceptHandler} {hds : List ExceptHandler} {l : List (Value × (Addr → Value → Option Addr → TS))} {pos : Pos} {tb : WX → TS} {Wout : WX}
theorem ps_try_clauses (hs : X.stack = X.env :: X.outer) (hf : X.env.frame = some X.env.locals) (hN : X.N.Nodup) (hi : X.N[i]? = some n) (hln : X.env.kindOf n = some .local) (tk : Takes X Wout)
    (hb : ∀ (W : WX) (pn : List (Addr × Obj)) (xe : Value → Shared → Prop), Takes (X.tr pn xe) W → PassesOwn (model X.prog X.w) X.A X.env xe → PSs (X.tr pn xe) body (tb W))
    (hh : Clauses X n (h₀ :: hds) l) : PS X (.Try body (h₀ :: hds) [] [] pos) (fun D σ H => tb (wClauses X.K i Wout D l) D σ H) := by
  constructor
  intro pins s σ H D I h
  have ok := I.ok
  have frames : X.A.frames = some (X.env :: X.outer) := by rw [ok.frames, hs]
  have loc : Loc X.env.scope n := .inl hln
  refine wpAny_Try_except ?_
  refine wpAny_mono ((hb (wClauses X.K i Wout D l) (X.pn ++ pins) (fun e s₁ => wpAny (model X.prog X.w) X.A (noteFrame e X.env) (fun _ s₂ => wpAny (model X.prog X.w) X.A (setFlight e none) (fun _ s₃ =>
    wpAny (model X.prog X.w) X.A (handleBy e X.env (h₀ :: hds)) (SP X pins D) X.xe s₃) X.xe s₂) X.xe s₁) (fun u s' xx => ?_) PassesOwn.looking).run [] s σ H D (I.toTry _) h) (fun f s1 hsp => ?_) (fun e s1 he => he)
  case refine_2 =>
    cases f with
    | next => obtain ⟨σ', H', J', q⟩ := hsp; exact wpAny_execs_nil ⟨σ', H', J'.ofTry ok, q⟩
    | brk => obtain ⟨σ', H', J', q⟩ := hsp; exact ⟨σ', H', J'.ofTry ok, q⟩
    | cont => obtain ⟨σ', H', J', q⟩ := hsp; exact ⟨σ', H', J'.ofTry ok, q⟩
    | ret u => obtain ⟨v, σ', H', J', r, q⟩ := hsp; exact ⟨v, σ', H', J'.ofTry ok, r, q⟩
  obtain ⟨a, B, sI, pins', σ', H', cls, d, rfl, J', nb, up, sky, na, os, ag, w⟩ := xx
  have J : Inv X pins σ' H' sI := J'.ofTry ok
  have sky' : Sky B (X.env :: X.outer) a (Zc cls d) X.env.locals s'.heap := by rw [← hs]; exact sky
  show wpAny (model X.prog X.w) X.A (noteFrame (.ref a) X.env) _ _ _
  refine Sky.land Zc.steady frames hf sky' fun h3 fl3 up3 => ?_
  have J3 : Inv X pins σ' H' { s' with heap := h3 } := J.landed nb fl3.1 (up.trans up3) os ag
  obtain ⟨oe3, vs3, he3, hz3, hd3⟩ := fl3.there
  have off : a ∉ frs (X.env :: X.outer) := fun hm => by
    obtain ⟨_, o', e', hnf⟩ := fl3.2.2.1.mem hm
    rw [he3] at e'
    cases e'
    exact hnf _ hd3
  have offL : a ≠ X.env.locals := fun z => off (List.mem_filterMap.mpr ⟨X.env, List.mem_cons_self, by rw [hf, z]⟩)
  have offF : a ∉ X.fs := fun hm => by
    obtain ⟨e, he, q⟩ := List.mem_filterMap.mp hm
    exact off (List.mem_filterMap.mpr ⟨e, List.mem_cons_of_mem _ he, q⟩)
  have S3 := J3.suite he3 hd3 na offL offF
  have go : ∀ {hds' : List ExceptHandler} {l' : List (Value × (Addr → Value → Option Addr → TS))}, Clauses X n hds' l' → wClauses X.K i Wout D l' cls d σ' H' →
      wpAny (model X.prog X.w) X.A (handleBy (.ref a) X.env hds') (SP X pins D) X.xe { s' with heap := h3 } := by
    intro hds' l' hk
    induction hk with
    | nil =>
      intro w
      refine wpAny_handleBy_nil ?_
      obtain ⟨k1, k2, k3, oe, vs, T, oT, ts', he, hz, hd, h1, hr⟩ := id fl3
      unfold PySem.passOn
      refine wpAny_bind (wpAny_field he hd h1 ?_)
      rw [if_neg (show ¬ ((Value.ref T == Value.none) = true) from by simp)]
      have away : wpAny (model X.prog X.w) X.A (setFlight (.ref a) X.env.frame) (fun _ s4 => wpAny (model X.prog X.w) X.A (throw (.ref a) : Sem Flow) (SP X pins D) X.xe s4) X.xe { s' with heap := h3 } := by
        rw [hf]
        refine HandSPX.setFlight_upZ fl3 fun h4 hh4 up4 => wpAny_throw (tk _ _ ?_)
        exact ⟨a, B, sI, pins, σ', H', cls, d, rfl, J, nb, (up.trans up3).trans up4, .inr (.inr (by rw [hs]; exact hh4)), na, os, ag, w⟩
      first
        | exact wpAny_bind (wpAny_pure (wpAny_bind away))
        | exact wpAny_bind away
    | @cons x c ts b₀ suite np pos' hds2 l2 hc hsu r ih =>
      intro w
      obtain ⟨b, hb1, yes, no⟩ := w
      refine wpAny_handleBy_cons (codeAny_handlers_test ?_) (by intro q; cases q)
      have LT : PySem.W.Looks (model X.prog X.w) h3 (typeOf (.ref a)) cls := fun A Q E s k q => wpAny_typeOf_ref (k _ _ he3) (by rw [hz3.1]; exact q)
      have LM := PySem.W.exm_one (M := model X.prog X.w) (J3.kIn) LT hb1
      have test : ∀ {Q : Value → Shared → Prop} {E : Value → Shared → Prop}, Q c { s' with heap := h3 } → wpAny (model X.prog X.w) (X.A.mark (some (.ref a))) (eval (.Name x np) X.env) Q E { s' with heap := h3 } := fun {Q E} q => by
        obtain ⟨hg, hdbg, hm | ⟨hm, hv, hnn⟩⟩ := hc
        · exact ld_glob (X := X.suite a ((a, oe3) :: (X.pn ++ pins))) S3 hg hm q hdbg
        · exact ld_blt (X := X.suite a ((a, oe3) :: (X.pn ++ pins))) S3 hg hm hv q hnn hdbg
      refine test (LM.here ?_)
      cases b with
      | false =>
        show wpAny _ X.A (handleBy (.ref a) X.env hds2) _ _ _
        exact ih (no rfl)
      | true =>
        refine codeAny_handlers_suite_as ?_
        refine HandSPX.lands_againZ fl3 fun h4 fl4 up4 => ?_
        have J4 : Inv X pins σ' H' { s' with heap := h4 } := J.landed nb fl4.1 ((up.trans up3).trans up4) os ag
        obtain ⟨oe4, vs4, he4, hz4, hd4⟩ := fl4.there
        have S4 := J4.suite he4 hd4 na offL offF
        refine store_ok (X := X.suite a ((a, oe4) :: (X.pn ++ pins))) (v := .ref a) S4 hN hi loc rfl (fun s5 S5 => ?_) (.inr hln)
        refine wpAny_mono ((hsu a oe4 cls d (X.pn ++ pins) hz4 ⟨_, hd4⟩).run [] s5 _ H' _ S5 (yes rfl a na (by rw [J.len]; exact (List.getElem?_eq_some_iff.mp hi).1))) (fun f s6 hsp => ?_) (fun _ _ z => False.elim z)
        have last : ∀ {σ6 : L2.St} {H6 : Hp} {Q : Shared → Prop}, Inv (X.suite a ((a, oe4) :: (X.pn ++ pins))) [] σ6 H6 s6 → (∀ s7, Inv X pins (σ6.set i none) H6 s7 → Q s7) →
            wpAny (model X.prog X.w) X.A (do bindName X.env n .none; unbindBehindTheSuite X.env n pos') (fun _ s7 => Q s7) X.xe s6 := fun {σ6 H6 Q} S6 hq => gone_ok (S6.unsuite ok) hN hi hln hq
        cases f with
        | next => obtain ⟨σ6, H6, S6, q6⟩ := hsp; exact last S6 fun s7 J7 => ⟨_, _, J7, q6⟩
        | brk => obtain ⟨σ6, H6, S6, q6⟩ := hsp; exact last S6 fun s7 J7 => ⟨_, _, J7, q6⟩
        | cont => obtain ⟨σ6, H6, S6, q6⟩ := hsp; exact last S6 fun s7 J7 => ⟨_, _, J7, q6⟩
        | ret u => obtain ⟨v6, σ6, H6, S6, r6, q6⟩ := hsp; exact last S6 fun s7 J7 => ⟨_, _, _, J7, r6, q6⟩
  exact go hh w
end
end Hx

/-! a def that calls what it gets, and tells an error by its name and the repr of what it was given -/
namespace Hx
open PySem PySem.Spec PyProof.Rows L2 LamX
/-- the classes of errors of its clauses -/
structure ExcX (K : PySem.W.Frag) (mg : Str → Option Value) (L : List (Str × Addr)) : Prop where
  xf : ∀ p ∈ L, XfC K p.2
  no : ∀ p ∈ L, PySem.W.findIn K (.ref p.2) "given" = some none
  m : ∀ p ∈ L, mg p.1 = some (.ref p.2)
  exm : ∀ p ∈ L, ∀ r ∈ L, PySem.W.exmOne K (.ref p.2) (.ref r.2) = some (decide (p.1 = r.1))
  db : ∀ p ∈ L, (p.1 == ("__debug__" : Str)) = false
inductive HdsL : List Str → List ExceptHandler → Prop
  | nil : HdsL [] []
  | cons {nm : Str} {ns : List Str} {hds : List ExceptHandler} {p1 p2 p3 p4 p5 p6 p7 p8 p9 : Pos} {j k : Nat} : HdsL ns hds →
    HdsL (nm :: ns) (.ExceptHandler (some (.Name nm p1)) (some "e") [.Return (some (.Tuple [.Constant (.str nm) j p2, .Call (.Name "repr" p3) [.Attribute (.Name "e" p4) "given" p5] [] p6] k p7)) p8] p9 :: hds)
def tsOf (i : Nat) (p : Str × Addr) (a : Addr) (cls : Value) (d : Option Addr) : TS := tRet (tTup (tCons (tC (.str p.1)) (tCons (tCB rReprL (tCons (tXf a cls d p.2 "given" (tVar i)) tNil)) tNil)))
theorem clauses_of {X : Cx} {i : Nat} {L : List (Str × Addr)} (EX : ExcX X.K X.mg L) (gl : ∀ p ∈ L, Gl X p.1) (gr : Gl X "repr") (mr : X.mg "repr" = none) (hi : X.N[i]? = some ("e" : Str)) (hv : Vis X.env.scope "e")
    (gd : X.A.guards = some []) (hu : X.A.units + 64 < cLine) (hm : Mods X.base) :
    ∀ {M : List (Str × Addr)} {hds : List ExceptHandler}, (∀ p ∈ M, p ∈ L) → HdsL (M.map (·.1)) hds → Clauses X "e" hds (M.map fun p => (Value.ref p.2, tsOf i p)) := by
  intro M
  induction M with
  | nil =>
    intro hds _ h
    cases h
    exact .nil
  | cons p M ih =>
    intro hds sub h
    have hp := sub p List.mem_cons_self
    cases h with
    | cons r =>
      refine .cons ⟨gl p hp, EX.db p hp, .inl (EX.m p hp)⟩ (fun a oe cls d pn hz hd => ?_) (ih (fun q hq => sub q (List.mem_cons_of_mem _ hq)) r)
      exact pss_one (ps_ret (pe_tup (pa_cons pe_str (pa_cons (pe_callB (call_reprL gd hu hm) gr mr PyProof.Rows.boot_repr (pa_cons (pe_xf (EX.xf p hp) (EX.no p hp) hz hd (pe_var (i := i) hi hv)) pa_nil)) pa_nil))))
/-- an error that is told: what it was given is small data -/
def CaughtE (L : List (Str × Addr)) (Q : VK) : XK := fun cls d H' => ∃ (p : Str × Addr) (dd : Addr) (v : V) (dt : PyData), p ∈ L ∧ cls = .ref p.2 ∧ d = some dd ∧ H' dd = some (.xd [("given", v)]) ∧ Dq H' v dt ∧ dt.showable = true ∧ dt.depth ≤ 20 ∧ dt.shown.length ≤ sizeLine ∧
  ∀ q, H' q = none → Q (.ref q) (upd H' q (.tup [.str p.1, .str dt.shown]))
def TCaught (L : List (Str × Addr)) : (XK → Hp → VK → Prop) → Hp → VK → Prop := fun tl H Q => tl (CaughtE L Q) H fun v H' => ∃ x, some (some v) = some (some x) ∧ ([V.str "told", x].length ≤ sizeLine ∧ ∀ q, H' q = none → Q (.ref q) (upd H' q (.tup [.str "told", x])))
theorem caught_w {K : PySem.W.Frag} {mg : Str → Option Value} {L : List (Str × Addr)} (EX : ExcX K mg L) {i : Nat} {D : Ends} {Wout : WX} {cls : Value} {d : Option Addr} {σ : L2.St} {H : Hp} (h : CaughtE L D.rt cls d H) :
    ∀ {M : List (Str × Addr)}, (∀ p ∈ M, p ∈ L) → (∃ p ∈ M, cls = .ref p.2) → wClauses K i Wout D (M.map fun p => (Value.ref p.2, tsOf i p)) cls d σ H := by
  obtain ⟨p, dd, v, dt, hp, rfl, rfl, hd, hv, s1, s2, s3, q⟩ := h
  intro M
  induction M with
  | nil =>
    rintro _ ⟨r, hr, _⟩
    cases hr
  | cons r M ih =>
    rintro sub ⟨x, hx, ex⟩
    have hr := sub r List.mem_cons_self
    refine ⟨_, EX.exm p hp r hr, fun c a na hi => ?_, fun c => ?_⟩
    · have e1 : p.1 = r.1 := of_decide_eq_true c
      have e2 : p.2 = r.2 := by
        exact Value.ref.inj (Option.some.inj ((EX.m p hp).symm.trans (by rw [e1]; exact EX.m r hr)))
      refine ⟨.ref a, ?_, rfl, by rw [e2], dd, _, v, rfl, hd, rfl, v, dt, rfl, hv, s1, s2, s3, (by show 2 ≤ sizeLine; decide), fun q' hq' => ?_⟩
      · rw [List.getElem?_set_self hi]
      · rw [← e1]
        exact q q' hq'
    · refine ih (fun y hy => sub y (List.mem_cons_of_mem _ hy)) ?_
      rcases List.mem_cons.mp hx with rfl | hx
      · have e1 : p.1 = x.1 := by
          have hx' := sub x List.mem_cons_self
          have e3 := EX.exm p hp x hx'
          have e4 : p.2 = x.2 := Value.ref.inj ex
          have e5 := EX.exm x hx' x hx'
          rw [← e4] at e5 e3
          rw [e3] at e5
          have e6 := Option.some.inj e5
          rw [c] at e6
          simp at e6
        rw [decide_eq_true e1] at c
        cases c
      · exact ⟨x, hx, ex⟩
/-- try: told = act() / except C as e: return (name, repr(e.given)) .. / return ('told', told) -/
theorem caught_gives {X : Cx} {L : List (Str × Addr)} {Ng : List Str} {x a q : Str} {sg : Scope} {g : Addr} {cdg : Value} {h₀ : ExceptHandler} {hds : List ExceptHandler} {p1 p2 p3 p4 p5 p6 p7 p8 p9 : Pos} {j k : Nat}
    (EX : ExcX X.K X.mg L) (hNd : Ng.Nodup) (hN : Ng = [a, "_law_told", "e"]) (hL : HdsL (L.map (·.1)) (h₀ :: hds)) (gl : ∀ p ∈ L, sg.names.lookup p.1 = some .globalImplicit) (gr : sg.names.lookup ("repr" : Str) = some .globalImplicit) (mr : X.mg "repr" = none)
    (lt : sg.names.lookup ("_law_told" : Str) = some .local) (le : sg.names.lookup ("e" : Str) = some .local) (gd : X.A.guards = some []) (hm : Mods X.base)
    (hu : ∀ (s : Shared), (X.A.deeper (envOfC x sg s.heap.objs.size g cdg)).units + 64 < cLine) :
    GivesTo X Ng x sg g cdg [.Try [.Assign [.Name "_law_told" p1] (.Call (.Name a p2) [] [] p3) p4] (h₀ :: hds) [] [] p5, .Return (some (.Tuple [.Constant (.str "told") j p6, .Name "_law_told" p7] k p8)) p9] a q (TCaught L) := by
  subst hN
  intro f c' s H Q tl act hc h
  let X' := (cxOf C8.CX0 X.prog X.w X.K X.mg X.base [a, "_law_told", "e"] x sg g cdg X.A X.stack s H C8.E0).nox
  have cl : Clauses X' "e" (h₀ :: hds) (L.map fun p => (Value.ref p.2, tsOf 2 p)) :=
    clauses_of (X := X') EX gl gr mr rfl (.inl le) gd (hu s) hm (fun _ h => h) hL
  refine ⟨_, pss_cons (ps_try_clauses (X := X') (i := 2) (n := "e")
      (tb := fun W D σ H => ∃ Ech : XK, (∀ cls d σ' H', Ech cls d H' → W cls d σ' H') ∧ σ[0]? = some (some (.ref f)) ∧ H c' = some (CodeO c' q) ∧ tl Ech H fun v H1 => D.nx (σ.set 1 (some v)) H1)
      rfl rfl hNd rfl le LamX.takes0 (fun W pn xe tk _ => ?_) cl) (pss_one (ps_ret (pe_tup (pa_cons pe_str (pa_cons (pe_var (i := 1) rfl (.inl lt)) pa_nil))))), ?_⟩
  · refine ⟨fun pins s' σ H' D I h' => ?_⟩
    obtain ⟨Ech, hW, h1, h2, h3⟩ := h'
    have hp := act W pn xe Ech p2 p3 tk hW
    have hq := pss_one (ps_set (i := 1) (pos := p4) (pos' := p1) hNd rfl (Or.inl lt) hp)
    exact hq.run pins s' σ H' D I ⟨h1, h2, h3⟩
  · exact ⟨CaughtE L Q, fun cls d σ' H' hE => caught_w EX hE (fun _ h => h) (by obtain ⟨p, dd, v, dt, hp, e, _⟩ := hE; exact ⟨p, hp, e⟩), rfl, hc, h⟩
end Hx

/-! a law's end: no guard stands below, and some defs make lambdas (their code tables grow) -/
namespace Hx
open PySem PySem.Spec PyProof.Rows L2 LamX
/-- the tables, as they stand at first -/
def tabO : HO := .tbl #[]
/-- the script at a (if it is no part of K) and the tables -/
def startH (ts : List Addr) (keep : Bool) (a : Addr) (vs : List Value) (ns : List Int) : Hp := fun b => if b ∈ ts then some tabO else if keep = true ∧ b = a then some (scriptO vs ns) else none
section
variable {P : Program} {w : World} {K : PySem.W.Frag} {mg mb : Str → Option Value} {k : Nat} {fa a : Addr} {fd : FuncData} {x : Str} {sp : Sp}
  {s1 : Shared} {vs : List Value} {ns : List Int} {ts : List (Addr × Addr)} {keep : Bool}
theorem start_cases {l : List Addr} {b : Addr} {u : HO} (h : startH l keep a vs ns b = some u) : (b ∈ l ∧ u = tabO) ∨ (b ∉ l ∧ keep = true ∧ b = a ∧ u = scriptO vs ns) := by
  unfold startH at h
  by_cases c : b ∈ l
  · rw [if_pos c] at h
    exact .inl ⟨c, (Option.some.inj h).symm⟩
  · rw [if_neg c] at h
    by_cases c2 : keep = true ∧ b = a
    · rw [if_pos c2] at h
      exact .inr ⟨c, c2.1, c2.2, (Option.some.inj h).symm⟩
    · rw [if_neg c2] at h
      cases h
theorem enter_tabs (KX : K.In s1.heap) (hglob : s1.heap.Ns mainGlobals mg) (hblt : s1.heap.Ns builtinsNs mb)
    (hboot : ∀ x : Str, x ≠ "__name__" → mb x = bootBuiltins x) (hlim : s1.heap.NoLimit) (hmods : ∃ mm, s1.heap.Ns sysModules mm) (hgen : s1.gens = #[])
    (tab : ∀ p ∈ ts, s1.heap.get? p.2 = some { cls := .none, data := .fields #[] }) (tabK : ∀ p ∈ ts, K.lookup p.2 = none) (code : ∀ p ∈ ts, PySem.W.CodeHd s1.heap p.1 p.2)
    (hbm : ∃ (bm : Addr) (ob : Obj), mg "__builtins__" = some (.ref bm) ∧ bm ≠ builtinsNs ∧ s1.heap.get? bm = some ob ∧ ob.cls = .type "module" ∧ ob.dict = some builtinsNs ∧ ob.data = .plain)
    (ha : s1.heap.get? a = some { cls := .type "list", data := .seq vs.toArray }) (room : Room k callerA)
    (F : ∀ base : Heap, K.In base → base.Ns mainGlobals mg → Mods base → (∀ p ∈ ts, TabB base mg p.1 p.2) → GOk P w K mg base CX0 k fa fd [x] sp)
    (hbind : ∀ (s : Shared) (u : Value), BindsTo s fd ⟨[u], []⟩ [(x, u)])
    (hK : keep = true → K.lookup a = none) (hok : HOk P w (startH (ts.map (·.2)) keep a vs ns) s1.heap)
    (hsp : sp [.ref a] (startH (ts.map (·.2)) keep a vs ns) (fun v _ => v = .bl true) E0) :
    codeAny (model P w) callerA (.call (.ref fa) ⟨[.ref a], []⟩) (fun r s' => r = .ok (.ret (.bool true)) ∧ OldK s1.heap s'.heap ∧ s'.os = s1.os ∧ AllBare s'.gens) s1 := by
  have tabA : ∀ {b : Addr}, b ∈ ts.map (·.2) → ∃ p ∈ ts, p.2 = b ∧ s1.heap.get? b = some { cls := .none, data := .fields #[] } := fun hb => by
    obtain ⟨p, hp, e⟩ := List.mem_map.mp hb
    exact ⟨p, hp, e, e ▸ tab p hp⟩
  -- what is told of an address that is looked at here: it is the script, or a table, or nothing
  have free : ∀ {b : Addr} {o : Obj}, s1.heap.get? b = some o → (∀ zs n, o.data ≠ .seq zs n) → o.data ≠ .fields #[] → startH (ts.map (·.2)) keep a vs ns b = none := by
    intro b o e h1 h2
    cases hb : startH (ts.map (·.2)) keep a vs ns b with
    | none => rfl
    | some u =>
      rcases start_cases hb with ⟨c, _⟩ | ⟨_, _, rfl, _⟩
      · obtain ⟨p, _, _, z⟩ := tabA c
        rw [e] at z
        cases z
        exact (h2 rfl).elim
      · rw [ha] at e
        cases e
        exact (h1 _ _ rfl).elim
  have freeD : ∀ {b : Addr} {o : Obj} {es : Array DictEntry} {ep : Nat}, s1.heap.get? b = some o → o.data = .dict es ep → startH (ts.map (·.2)) keep a vs ns b = none := fun e d =>
    free e (fun zs n z => by rw [d] at z; cases z) (fun z => by rw [d] at z; cases z)
  have nsBase : ∀ {b : Addr} {m : Str → Option Value}, s1.heap.Ns b m → (hidT s1.heap (startH (ts.map (·.2)) keep a vs ns)).Ns b m := fun {b m} ⟨o, es, ep, e, d, r⟩ =>
    ⟨o, es, ep, hidT_get e (freeD e d), d, r⟩
  have inBase : K.In (hidT s1.heap (startH (ts.map (·.2)) keep a vs ns)) := by
    intro b o e
    refine hidT_get (KX b o e) ?_
    cases hb : startH (ts.map (·.2)) keep a vs ns b with
    | none => rfl
    | some u =>
      rcases start_cases hb with ⟨c, _⟩ | ⟨_, c, rfl, _⟩
      · obtain ⟨p, hp, e2, _⟩ := tabA c
        rw [← e2, tabK p hp] at e
        cases e
      · rw [hK c] at e
        cases e
  have modOk : Mod K mg (hidT s1.heap (startH (ts.map (·.2)) keep a vs ns)) := by
    refine ⟨inBase, nsBase hglob, ⟨mb, nsBase hblt, hboot⟩, ?_⟩
    obtain ⟨mc, l1, l2⟩ := hlim
    exact ⟨mc, nsBase l1, l2⟩
  have modsOk : Mods (hidT s1.heap (startH (ts.map (·.2)) keep a vs ns)) := by
    obtain ⟨mm, hm⟩ := hmods
    obtain ⟨o, es, ep, e, _⟩ := nsBase hm
    exact ⟨o, e⟩
  have tabs : ∀ p ∈ ts, TabB (hidT s1.heap (startH (ts.map (·.2)) keep a vs ns)) mg p.1 p.2 := by
    intro p hp
    have isTab := tab p hp
    constructor
    · obtain ⟨o, us, file, tf, flags, tg, inF, text, tt, e1, r1, r2, r3, rest⟩ := code p hp
      refine ⟨o, us, file, tf, flags, tg, inF, text, tt, hidT_get e1 (free e1 (fun zs n z => ?_) fun z => ?_), r1, r2, r3, rest⟩
      · rw [r2] at z
        cases z
      · rw [r2] at z
        cases z
        simp at r3
    · obtain ⟨bm, ob, b1, b2, b3, b4, b5, b6⟩ := hbm
      refine ⟨bm, ob, b1, b2, fun z => ?_, fun z => ?_, hidT_get b3 (free b3 (fun zs n z => ?_) fun z => ?_), b4, b5, b6⟩
      · obtain ⟨o, es, ep, e, hd, _⟩ := hglob
        rw [z, e] at b3
        cases b3
        rw [hd] at b6
        cases b6
      · rw [z, isTab] at b3
        cases b3
        cases b6
      · rw [b6] at z
        cases z
      · rw [b6] at z
        cases z
    · intro z
      obtain ⟨o, es, ep, e, hd, _⟩ := hglob
      rw [z, isTab] at e
      cases e
      cases hd
  have start0 : Env0 P w K mg (hidT s1.heap (startH (ts.map (·.2)) keep a vs ns)) callerA [] s1 (startH (ts.map (·.2)) keep a vs ns) :=
    { frames := rfl, mod := modOk, bs := fun b o e => of_hidT e, bsz := Nat.le_of_eq (hidT_size _ _), funs := trivial,
      frf := fun b hb => absurd (show b ∈ ([] : List Addr) from hb) (by simp), hok := hok, bare := .of_eq hgen }
  have run := (F _ inBase (nsBase hglob) modsOk tabs).goes callerA [] s1 _ ⟨[.ref a], []⟩ [.ref a] [.ref a] _ _ room rfl start0 (hbind s1 (.ref a)) (.cons rfl .nil) hsp
  refine codeAny_mono run ?_
  intro r s' hr
  cases r with
  | error e => exact (show False from hr).elim
  | ok fl =>
    cases fl with
    | next => exact hr.elim
    | brk => exact hr.elim
    | cont => exact hr.elim
    | ret u =>
      obtain ⟨v, H', osEq, bare, un, hok', rel, rfl⟩ := hr
      cases (show u = Value.bool true from rel)
      have more : ∀ p ∈ ts, ∃ zs : Array Value, s'.heap.get? p.2 = some { cls := .none, data := .fields zs } := fun p hp => by
        obtain ⟨zs, z⟩ := un.tbls p.2 #[] (if_pos (List.mem_map.mpr ⟨p, hp, rfl⟩))
        exact ⟨_, hok' p.2 _ z⟩
      have rest : ∀ b o, b ∉ ts.map (·.2) → s1.heap.get? b = some o → s'.heap.get? b = some o := by
        intro b o nb e
        cases hb : startH (ts.map (·.2)) keep a vs ns b with
        | none => exact un.keep b o e hb (fun z => absurd (show b ∈ ([] : List Addr) from z) (by simp)) (by simp)
        | some u =>
          rcases start_cases hb with ⟨c, _⟩ | ⟨_, _, rfl, rfl⟩
          · exact (nb c).elim
          · have stay := un.frzs b _ _ hb
            obtain ⟨e1, _⟩ := hok b _ hb
            obtain ⟨e2, _⟩ := hok' b _ stay
            rw [e] at e1
            rw [e2, ← Option.some.inj e1]
      refine ⟨rfl, ⟨fun b o e => ?_, fun b o e => ?_⟩, osEq, bare⟩
      · by_cases c : b ∈ ts.map (·.2)
        · obtain ⟨p, hp, rfl, z⟩ := tabA c
          obtain ⟨zs, m⟩ := more p hp
          rw [e] at z
          cases z
          exact .inr (.inl ⟨((code p hp).tab (tab p hp)).isCodeTable, rfl, #[], zs, rfl, by rw [Array.empty_append]; exact m⟩)
        · exact .inl (rest b o c e)
      · by_cases c : b ∈ ts.map (·.2)
        · obtain ⟨p, hp, rfl, z⟩ := tabA c
          obtain ⟨zs, m⟩ := more p hp
          exact ⟨_, m⟩
        · exact ⟨o, rest b o c e⟩
theorem law_tabs (KX : K.In s1.heap) (hglob : s1.heap.Ns mainGlobals mg) (hblt : s1.heap.Ns builtinsNs mb)
    (hboot : ∀ x : Str, x ≠ "__name__" → mb x = bootBuiltins x) (hlim : s1.heap.NoLimit) (hmods : ∃ mm, s1.heap.Ns sysModules mm) (hgen : s1.gens = #[])
    (tab : ∀ p ∈ ts, s1.heap.get? p.2 = some { cls := .none, data := .fields #[] }) (tabK : ∀ p ∈ ts, K.lookup p.2 = none) (code : ∀ p ∈ ts, PySem.W.CodeHd s1.heap p.1 p.2)
    (hbm : ∃ (bm : Addr) (ob : Obj), mg "__builtins__" = some (.ref bm) ∧ bm ≠ builtinsNs ∧ s1.heap.get? bm = some ob ∧ ob.cls = .type "module" ∧ ob.dict = some builtinsNs ∧ ob.data = .plain)
    (ha : s1.heap.get? a = some { cls := .type "list", data := .seq vs.toArray }) (hi : IntsAre vs ns) (hl : ns.length ≤ sizeLine) (room : Room k callerA)
    (F : ∀ base : Heap, K.In base → base.Ns mainGlobals mg → Mods base → (∀ p ∈ ts, TabB base mg p.1 p.2) → GOk P w K mg base CX0 k fa fd [x] sp)
    (hbind : ∀ (s : Shared) (u : Value), BindsTo s fd ⟨[u], []⟩ [(x, u)])
    (hsp : ∀ H : Hp, (∀ p ∈ ts, H p.2 = some (.tbl #[])) → SqL K H a (ns.map V.int) → sp [.ref a] H (fun v _ => v = .bl true) E0) :
    codeAny (model P w) callerA (.call (.ref fa) ⟨[.ref a], []⟩) (fun r s' => r = .ok (.ret (.bool true)) ∧ OldK s1.heap s'.heap ∧ s'.os = s1.os ∧ AllBare s'.gens) s1 := by
  have rel := vals_ints hi
  have aT : a ∉ ts.map (·.2) := fun z => by
    obtain ⟨p, hp, e⟩ := List.mem_map.mp z
    have q := tab p hp
    rw [e, ha] at q
    cases congrArg Obj.data (Option.some.inj q)
  have okAll : ∀ keep : Bool, HOk P w (startH (ts.map (·.2)) keep a vs ns) s1.heap := fun keep b u h => by
    rcases start_cases h with ⟨c, rfl⟩ | ⟨_, _, rfl, rfl⟩
    · obtain ⟨p, hp, rfl⟩ := List.mem_map.mp c
      exact tab p hp
    · exact ⟨ha, by rw [List.length_map]; exact hl, vs, _, rel, ha⟩
  have tabAt : ∀ keep : Bool, ∀ p ∈ ts, startH (ts.map (·.2)) keep a vs ns p.2 = some (.tbl #[]) := fun keep p hp => if_pos (List.mem_map.mpr ⟨p, hp, rfl⟩)
  cases hk : K.lookup a with
  | some o =>
    have e := KX a o hk
    rw [ha] at e
    cases e
    refine enter_tabs (keep := false) KX hglob hblt hboot hlim hmods hgen tab tabK code hbm ha room F hbind (fun z => by cases z) (okAll false) (hsp _ (tabAt false) (.inr ⟨_, vs.toArray, _, hk, rfl, rfl, rfl, ?_, by simpa using rel⟩))
    rw [List.size_toArray, hi.length]
    exact hl
  | none =>
    have at_a : startH (ts.map (·.2)) true a vs ns a = some (scriptO vs ns) := by
      unfold startH
      rw [if_neg aT, if_pos ⟨rfl, rfl⟩]
    exact enter_tabs (keep := true) KX hglob hblt hboot hlim hmods hgen tab tabK code hbm ha room F hbind (fun _ => hk) (okAll true) (hsp _ (tabAt true) (.inl (.inr ⟨_, at_a⟩)))
end
/-- the goal that head_any leaves, for a law whose defs make lambdas and ask that no guard stands below -/
theorem walk_GT {l : PySem.W.OpenLaw} {n k : Nat} {q : Program} {loose : List Str} {XP : (Str → Option Value) → Heap → Prop} {YP : World → Heap → Prop} {d : DefRec} {x : Str}
    (hn : l.most = some n) (hn2 : n ≤ sizeLine) (hdf : d.params.defaults = []) (room : Room k callerA) (himp : importsNone q = true)
    (F : ∀ (w : World) (mg : Str → Option Value) (fa : Addr) (h : Heap), YP w h → h.Ns mainGlobals mg → mg d.name = some (.ref fa) →
      ∃ (K : PySem.W.Frag) (ts : List (Addr × Addr)) (fd : FuncData) (sp : Sp), K.In h ∧ (∀ p ∈ ts, h.get? p.2 = some { cls := .none, data := .fields #[] }) ∧ (∀ p ∈ ts, K.lookup p.2 = none) ∧ (∀ p ∈ ts, PySem.W.CodeHd h p.1 p.2) ∧
        (∀ (s : Shared) (u : Value), BindsTo s fd ⟨[u], []⟩ [(x, u)]) ∧
        (∀ (H : Hp) (a : Addr) (ns : List Int), ns.length ≤ n → (∀ p ∈ ts, H p.2 = some (.tbl #[])) → SqL K H a (ns.map V.int) → sp [.ref a] H (fun v _ => v = .bl true) E0) ∧
        ∀ base : Heap, K.In base → base.Ns mainGlobals mg → Mods base → (∀ p ∈ ts, TabB base mg p.1 p.2) → GOk l.prog w K mg base CX0 k fa fd [x] sp) :
    PySem.W.WalkO q loose XP YP l.row.toRowW d [] (fun f vs => PySem.call f vs) := by
  refine Att.attach_call hn hdf ?_
  intro w s0 s1 mg mb fa o pm cd doc a vs ns G Y ho hd hcd hmg hobj hints hlen hgen
  obtain ⟨K, ts, fd, sp, KX, t1, t2, t3, hb, hsp, hF⟩ := F w mg fa _ Y G.T.g hmg
  obtain ⟨mm, hmm, _⟩ := (G.T.seer himp).mods
  exact law_tabs KX G.T.g G.T.b G.T.builtins G.T.nolimit ⟨mm, hmm⟩ hgen t1 t2 t3 G.T.bmain hobj hints (Nat.le_trans hlen hn2) room hF hb fun H hT hS => hsp H a ns hlen hT hS
end Hx

/-! the class Round with its errors -/
namespace R5
open PySem PySem.Spec PyProof.Rows L2 Hx Rw
/-- no integer: of another class, or True, False -/
def NotInt (K : PySem.W.Frag) (H : Hp) (v : V) : Prop := ∃ t bi bb, TyX K H v t ∧ PySem.W.kitOne K t (.type "int") = some bi ∧ PySem.W.kitOne K t (.type "bool") = some bb ∧ (bi && !bb) = false
def NotStr (K : PySem.W.Frag) (H : Hp) (v : V) : Prop := ∃ t, TyX K H v t ∧ PySem.W.kitOne K t (.type "str") = some false
/-- an error that tells v -/
def Tells (E : XK) (C : Addr) (v : V) (H : Hp) : Prop := ∀ H' d, Same H H' → H' d = none → E (.ref C) (some d) (upd H' d (.xd [("given", v)]))
theorem TyX.same {K : PySem.W.Frag} {H H' : Hp} {v : V} {t : Value} (h : TyX K H v t) (s : Same H H') : TyX K H' v t := by
  cases h with
  | base h =>
    refine .base ?_
    cases h with
    | non => exact .non
    | bl x => exact .bl x
    | int i => exact .int i
    | str x => exact .str x
    | flt x => exact .flt x
    | lst e => exact .lst (s _ _ e)
    | frz e => exact .frz (s _ _ e)
    | tup e => exact .tup (s _ _ e)
    | dK e => exact .dK (s _ _ e)
    | dT e => exact .dT (s _ _ e)
    | ins e c1 c2 c3 c4 c5 => exact .ins (s _ _ e) c1 c2 c3 c4 c5
  | byt b => exact .byt b
  | set e => exact .set (s _ _ e)
  | kList e c => exact .kList e c
  | kTuple e c => exact .kTuple e c
  | kDict e c => exact .kDict e c
  | fTuple e => exact .fTuple (s _ _ e)
  | fDict e => exact .fDict (s _ _ e)
theorem NotStr.same {K : PySem.W.Frag} {H H' : Hp} {v : V} (h : NotStr K H v) (s : Same H H') : NotStr K H' v := let ⟨t, a, b⟩ := h; ⟨t, TyX.same a s, b⟩
theorem NotInt.same {K : PySem.W.Frag} {H H' : Hp} {v : V} (h : NotInt K H v) (s : Same H H') : NotInt K H' v := let ⟨t, x, y, a, b⟩ := h; ⟨t, x, y, TyX.same a s, b⟩
theorem Tells.same {E : XK} {C : Addr} {v : V} {H H' : Hp} (t : Tells E C v H) (s : Same H H') : Tells E C v H' := fun H2 d s2 hd => t H2 d (s.trans s2) hd
def BadT (K : PySem.W.Frag) (H : Hp) (k : Int) (v : V) : Prop := (∃ l : List Nat, v = .str (T l) ∧ l.length ≤ 1000 ∧ ((l.length : Int) < k ∨ l.all letter = false)) ∨ NotStr K H v
theorem BadT.same {K : PySem.W.Frag} {H H' : Hp} {k : Int} {v : V} (h : BadT K H k v) (s : Same H H') : BadT K H' k v := h.imp_right fun n => n.same s
def BadN (K : PySem.W.Frag) (H : Hp) (v : V) : Prop := (∃ i, v = .int i ∧ i < 0) ∨ NotInt K H v
theorem BadN.same {K : PySem.W.Frag} {H H' : Hp} {v : V} (h : BadN K H v) (s : Same H H') : BadN K H' v := h.imp_right fun n => n.same s
def spChkX (K : PySem.W.Frag) (CT : Addr) : Sp := fun vs H Q E => ∃ (v : V) (k : Int), vs = [v, .int k] ∧
  ((∃ l : List Nat, v = .str (T l) ∧ k ≤ (l.length : Int) ∧ Good l ∧ ∀ H', Same H H' → Q .non H') ∨ (BadT K H k v ∧ Tells E CT v H))
def spIsIntX (K : PySem.W.Frag) : Sp := fun vs H Q _ => ∃ v, vs = [v] ∧ ((∃ i, v = .int i ∧ Q (.bl true) H) ∨ (NotInt K H v ∧ Q (.bl false) H))
def spCountX (K : PySem.W.Frag) (CN : Addr) : Sp := fun vs H Q E => ∃ v, vs = [v] ∧ ((∃ i, v = .int i ∧ 0 ≤ i ∧ Q .non H) ∨ (BadN K H v ∧ Tells E CN v H))
def spInitX (K : PySem.W.Frag) (C CT : Addr) : Sp := fun vs H Q E => ∃ (a dx : Addr) (u v : V), vs = [.ref a, u, v] ∧ H a = some (.ins C dx []) ∧
  ((∃ h l : List Nat, u = .str (T h) ∧ v = .str (T l) ∧ Good h ∧ Good l ∧ 0 < l.length ∧ ∀ (f g : List Nat) (H' : Hp), (∀ n, sg f g n = sg h l n) → 0 < g.length → f.length ≤ h.length → g.length ≤ l.length → But a H H' →
      H' a = some (.ins C dx (fld f g)) → Q .non H') ∨
    (BadT K H 0 u ∧ Tells E CT u H) ∨ ((∃ h, u = .str (T h) ∧ Good h) ∧ BadT K H 1 v ∧ Tells E CT v H))
def spItemX (K : PySem.W.Frag) (CN : Addr) : Sp := fun vs H Q E => ∃ (a : Addr) (v : V), vs = [.ref a, v] ∧ BadN K H v ∧ Tells E CN v H
def spFirstX (K : PySem.W.Frag) (C CN : Addr) : Sp := fun vs H Q E => ∃ (a : Addr) (v : V), vs = [.ref a, v] ∧
  ((∃ (n : Nat) (f g : List Nat), v = .int (n : Nat) ∧ RoundAt C H a f g ∧ f.length ≤ 1000 ∧ g.length ≤ 1000 ∧ 0 < g.length ∧ n ≤ 100 ∧ Q (.str (T ((List.range n).map (sg f g)))) H) ∨ (BadN K H v ∧ Tells E CN v H))
/-- the signs of what Round keeps -/
theorem sg_made {h l a : List Nat} {many : Nat} (L : Least a l) (B : Back many h a) (n : Nat) : sg (h.take (h.length - many)) (turned (back many a.length) a) n = sg h l n := by
  have hp := L.pos
  have hb := back_lt (many := many) hp
  have le := B.le
  have fl : (h.take (h.length - many)).length = h.length - many := by rw [List.length_take]; omega
  have lpl : ∀ i, lp l i = lp a i := by
    obtain ⟨n, hn, rfl⟩ := L.k
    exact lp_rep hp hn
  unfold sg
  rw [fl]
  by_cases c : n < h.length - many
  · rw [if_pos c, if_pos (by omega), getD_take c]
  · rw [if_neg c, turned_lp hb]
    by_cases c2 : n < h.length
    · rw [if_pos c2]
      have hi : h.length - 1 - n < many := by omega
      have s := B.same _ hi
      rw [show h.length - 1 - (h.length - 1 - n) = n by omega] at s
      rw [s]
      refine (lp_behind hp ?_).symm
      rw [show back many a.length + (n - (h.length - many)) + (h.length - 1 - n) + 1 = back many a.length + many by omega]
      exact back_add hp
    · rw [if_neg c2, lpl]
      have e := lp_back (a := a) (many := many) hp (n - h.length)
      rw [show back many a.length + (n - (h.length - many)) = back many a.length + many + (n - h.length) by omega]
      exact e
section
variable {P : Program} {w : World} {K : PySem.W.Frag} {mg : Str → Option Value} {base : Heap} {f C CT CN f1 f2 f3 : Addr} {fd fd1 fd2 fd3 : FuncData}
theorem ok_chkX (F : Fun K "check_lettered" "check_lettered" s_check_lettered f fd) (Z : Bl mg) (ml : ∃ t, mg "LETTERS" = some (.str abc t)) (M : MkC P w K mg base "InvalidText" CT "given") (ty : PySem.W.typeIn K (.ref CT) = some (.type "type")) :
    FnOk P w K mg base (L2.CX P w) 3 f fd ["given", "least"] (spChkX K CT) := by
  refine F.okX scChk (fun vs H Q E h => ?_) (fun cdv A outer s H vs Q E hr h => ?_)
  · obtain ⟨l, k, rfl, _⟩ := h
    rfl
  obtain ⟨v, k, rfl, h⟩ := h
  obtain ⟨tl, ml⟩ := ml
  refine ⟨_, pss_one (ps_if (PW.pt (pw_or (pt_not (pt_val (pe_callB call_isi (by rfl) Z.isinstance PyProof.Rows.boot_isinstance (pa_cons (pv 0) (pa_cons (pe_bty (T := "str") rfl Z.str (by decide +kernel)) pa_nil)))))
      (pw_or (pt_cmpR op_lt (pe_callB call_len_str (by rfl) Z.len PySem.boot_len (pa_cons (pv 0) pa_nil)) (pv 1) (nomark _))
      (pw_or1 (pt_not (pt_val (pe_callB (cr_all rfl) (by rfl) Z.all PyProof.Rows.boot_all (pa_cons (pe_lc (own := [("letter", 2)]) (g := gName 2) (tt := tYes) rfl scChk.nd (pi_str (pv 0))
        (blkOk_by (N := ["given", "least", "letter"]) (sc := defScope s_check_lettered) (by decide +kernel)) (fun _ _ _ _ _ => pg_name (i := 2) scChk.nd rfl (Or.inl rfl)) (fun _ _ _ _ _ => pts_nil)
        (fun _ _ _ _ _ => pe_cmpR op_in_sign (pv 2) (pe_glob (v := .str abc) rfl ml ⟨_, rfl⟩) (by rfl))) pa_nil)))))))) (pss_one (ps_raise1 M ty rfl (takes_of rfl rfl rfl rfl) hr rfl (pv 0))) pss_nil), ?_⟩
  have hv : (∃ l : List Nat, v = .str (T l) ∧ l.length ≤ 1000 ∧ (k ≤ (l.length : Int) → l.all letter = true → ∀ H', Same H H' → Q .non H') ∧
      (((l.length : Int) < k ∨ l.all letter = false) → Tells E CT v H)) ∨ (NotStr K H v ∧ Tells E CT v H) := by
    rcases h with ⟨l, rfl, hk, ⟨few, good⟩, q⟩ | ⟨⟨l, rfl, few, bad⟩ | n, t⟩
    · refine .inl ⟨l, rfl, few, fun _ _ => q, fun z => ?_⟩
      rcases z with z | z
      · omega
      · rw [good] at z
        cases z
    · refine .inl ⟨l, rfl, few, fun h1 h2 => ?_, fun _ => t⟩
      rcases bad with z | z
      · omega
      · rw [h2] at z
        cases z
    · exact .inr ⟨n, t⟩
  clear h
  rcases hv with ⟨l, rfl, few, yes, no⟩ | ⟨n, t⟩
  · have small := good_line few
    refine ⟨_, rfl, _, _, .type "str", _, true, rfl, .ty "str", .base (.str _), kit_ty (by decide +kernel), _, rfl, iteF ?_⟩
    refine ⟨_, rfl, _, rfl, small, _, rfl, _, _, rfl, rfl, _, rfl, ?_⟩
    rw [T_len]
    refine ite2 (fun c => ?_) (fun c => ?_)
    · exact ⟨_, rfl, fun d hd => no (.inl (of_decide_eq_true c)) H d (Same.refl H) hd⟩
    have c' : k ≤ (l.length : Int) := by
      have : ¬ (l.length : Int) < k := fun z => c (decide_eq_true z)
      omega
    refine ⟨_, rfl, _, rfl, fun D hD => ?_⟩
    refine L2.lc_it L2.walk_str (fun i H' => Same H H' ∧ H' D = some (.lst (((l.take i).map letter).map V.bl))) ⟨same_new hD _, upd_same⟩ (fun _ _ _ _ => trivial) ?_ ?_
    · rintro i _ H1 _ hi ⟨s1, h1⟩ ⟨rfl, c, hc, rfl⟩
      refine ⟨rfl, turn_yes ⟨_, rfl, c, abc, rfl, rfl, ?_⟩⟩
      have hc2 : l[i]? = some c := by
        have : (T l).cps.toList[i]? = some c := by rw [Array.getElem?_toList]; exact hc
        exact this
      refine ⟨_, h1, ?_, fun b o hb => ?_, ?_⟩
      · rw [List.length_map, List.length_map, List.length_take]
        exact Nat.lt_of_le_of_lt (Nat.le_trans (Nat.min_le_right _ _) few) (by decide)
      · rw [upd_ne (ne_of_none hb hD)]
        exact s1 b o hb
      · rw [upd_same, List.take_add_one, hc2, List.map_append, List.map_append]
        rfl
    · rintro H1 ⟨s1, h1⟩
      rw [List.take_of_length_le (by show l.length ≤ l.toArray.size; rw [List.size_toArray]; exact Nat.le_refl _)] at h1
      refine ⟨D, _, rfl, SqL.of h1, _, rfl, ?_⟩
      dsimp only
      rw [List.all_map]
      have e : l.all (id ∘ letter) = l.all letter := rfl
      rw [e]
      cases g : l.all letter with
      | true => exact iteF (yes c' g H1 s1)
      | false => exact iteT ⟨_, rfl, fun d hd => no (.inr g) H1 d s1 hd⟩
  · obtain ⟨ty', k1, k2⟩ := n
    exact ⟨_, rfl, _, _, ty', _, false, rfl, .ty "str", k1, k2, _, rfl, iteT ⟨_, rfl, fun d hd => t H d (Same.refl H) hd⟩⟩
theorem ok_isintX (F : Fun K "is_integer" "is_integer" s_is_integer f fd) (Z : Bl mg) : FnOk P w K mg base CX0 1 f fd ["value"] (spIsIntX K) := by
  refine F.ok scIsInt (fun vs H Q E h => ?_) (fun cdv A outer s H vs Q E hr h => ?_)
  · obtain ⟨v, rfl, _⟩ := h
    rfl
  obtain ⟨v, rfl, h⟩ := h
  refine ⟨_, pss_one (ps_ret (pe_and (pe_callB call_isi (by rfl) Z.isinstance PyProof.Rows.boot_isinstance (pa_cons (pv 0) (pa_cons (pe_bty (T := "int") rfl Z.int (by decide +kernel)) pa_nil)))
    (pe_one (pe_not (pe_callB call_isi (by rfl) Z.isinstance PyProof.Rows.boot_isinstance (pa_cons (pv 0) (pa_cons (pe_bty (T := "bool") rfl Z.bool (by decide +kernel)) pa_nil))))))), ?_⟩
  rcases h with ⟨i, rfl, q⟩ | ⟨⟨t, bi, bb, ty, k1, k2, e⟩, q⟩
  · refine ⟨_, rfl, _, _, .type "int", _, true, rfl, .ty "int", .base (.int i), kit_ty (by decide +kernel), _, rfl, iteT ?_⟩
    exact ⟨_, rfl, _, _, .type "int", _, false, rfl, .ty "bool", .base (.int i), kit_ty (by decide +kernel), _, rfl, q⟩
  · refine ⟨_, rfl, _, _, t, _, bi, rfl, .ty "int", ty, k1, _, rfl, ?_⟩
    cases bi with
    | false => exact iteF q
    | true =>
      refine iteT ⟨_, rfl, _, _, t, _, bb, rfl, .ty "bool", ty, k2, _, rfl, ?_⟩
      cases bb with
      | true => exact q
      | false => cases e
def spIsCountX (K : PySem.W.Frag) : Sp := fun vs H Q _ => ∃ v, vs = [v] ∧ ((∃ i, v = .int i ∧ Q (.bl (decide (0 ≤ i))) H) ∨ (NotInt K H v ∧ Q (.bl false) H))
theorem ok_iscountX (F : Fun K "is_count" "is_count" s_is_count f fd)
    (G1 : FnOk P w K mg base CX0 1 f1 fd1 ["value"] (spIsIntX K)) (b1 : Binds K fd1 ["value"] []) (k1 : PySem.W.keepIn K (.ref f1) = true) (m1 : mg "is_integer" = some (.ref f1)) :
    FnOk P w K mg base CX0 2 f fd ["value"] (spIsCountX K) := by
  refine F.ok scIsCount (fun vs H Q E h => ?_) (fun cdv A outer s H vs Q E hr h => ?_)
  · obtain ⟨v, rfl, _⟩ := h
    rfl
  obtain ⟨v, rfl, h⟩ := h
  refine ⟨_, pss_one (ps_ret (pe_and (pe_call G1 hr rfl m1 k1 b1 .nil pass0 (pa_cons (pv 0) pa_nil)) (pe_one (pe_cmpR op_ge (pv 0) pe_int (nomark _))))), ?_⟩
  rcases h with ⟨i, rfl, q⟩ | ⟨n, q⟩
  · refine ⟨_, rfl, _, rfl, .inl ⟨i, rfl, _, rfl, iteT ?_⟩⟩
    exact ⟨_, rfl, _, _, rfl, rfl, q⟩
  · exact ⟨_, rfl, _, rfl, .inr ⟨n, _, rfl, iteF q⟩⟩
theorem ok_countX (F : Fun K "check_count" "check_count" s_check_count f fd) (M : MkC P w K mg base "InvalidNumber" CN "given") (ty : PySem.W.typeIn K (.ref CN) = some (.type "type"))
    (G1 : FnOk P w K mg base CX0 2 f1 fd1 ["value"] (spIsCountX K)) (b1 : Binds K fd1 ["value"] []) (k1 : PySem.W.keepIn K (.ref f1) = true) (m1 : mg "is_count" = some (.ref f1)) :
    FnOk P w K mg base (L2.CX P w) 3 f fd ["given"] (spCountX K CN) := by
  refine F.okX scCount (fun vs H Q E h => ?_) (fun cdv A outer s H vs Q E hr h => ?_)
  · obtain ⟨i, rfl, _⟩ := h
    rfl
  obtain ⟨v, rfl, h⟩ := h
  refine ⟨_, pss_one (ps_if (pt_not (pt_val (pe_call G1 hr rfl m1 k1 b1 .nil pass0 (pa_cons (pv 0) pa_nil))))
    (pss_one (ps_raise1 M ty rfl (takes_of rfl rfl rfl rfl) hr rfl (pv 0))) pss_nil), ?_⟩
  rcases h with ⟨i, rfl, i0, q⟩ | ⟨⟨i, rfl, i0⟩ | n, t⟩
  · refine ⟨_, rfl, _, rfl, .inl ⟨i, rfl, ?_⟩⟩
    rw [decide_eq_true i0]
    exact ⟨_, rfl, iteF q⟩
  · refine ⟨_, rfl, _, rfl, .inl ⟨i, rfl, ?_⟩⟩
    rw [decide_eq_false (by omega)]
    exact ⟨_, rfl, iteT ⟨_, rfl, fun d hd => t H d (Same.refl H) hd⟩⟩
  · exact ⟨_, rfl, _, rfl, .inr ⟨n, _, rfl, iteT ⟨_, rfl, fun d hd => t H d (Same.refl H) hd⟩⟩⟩
theorem ok_initX (F : Fun K "__init__" "Round.__init__" s_Round_init f fd) (R : Rd K mg C) (Z : Bl mg)
    (G1 : FnOk P w K mg base (L2.CX P w) 3 f1 fd1 ["given", "least"] (spChkX K CT)) (b1 : Binds K fd1 ["given", "least"] []) (k1 : PySem.W.keepIn K (.ref f1) = true) (m1 : mg "check_lettered" = some (.ref f1))
    (G2 : FnOk P w K mg base CX0 1 f2 fd2 ["loop"] spShort) (b2 : Binds K fd2 ["loop"] []) (k2 : PySem.W.keepIn K (.ref f2) = true) (m2 : mg "shortest_loop" = some (.ref f2))
    (G3 : FnOk P w K mg base CX0 1 f3 fd3 ["head", "loop"] spBack) (b3 : Binds K fd3 ["head", "loop"] []) (k3 : PySem.W.keepIn K (.ref f3) = true) (m3 : mg "turned_back" = some (.ref f3)) :
    FnOk P w K mg base (L2.CX P w) 4 f fd ["self", "head", "loop"] (spInitX K C CT) := by
  refine F.okX scInit (fun vs H Q E h => ?_) (fun cdv A outer s H vs Q E hr h => ?_)
  · obtain ⟨a, dx, h, l, rfl, _⟩ := h
    rfl
  obtain ⟨a, dx, u, v, rfl, ha, h⟩ := h
  have tk := takes_of (X := cxOf (L2.CX P w) P w K mg base ["self", "head", "loop", "least", "many", "at"] "Round.__init__" (defScope s_Round_init) f cdv A outer s H E) rfl rfl rfl rfl
  have r1 := hr.mono (by decide : 1 ≤ 3)
  refine ⟨_, pss_cons (ps_expr (pe_callS G1 hr rfl m1 k1 b1 (fun σ => passAt tk σ) (pa_cons (pv 1) (pa_cons pe_int pa_nil))))
    (pss_cons (ps_expr (pe_callS G1 hr rfl m1 k1 b1 (fun σ => passAt tk σ) (pa_cons (pv 2) (pa_cons pe_int pa_nil))))
    (pss_cons (ps_set (i := 3) scInit.nd rfl (Or.inl rfl) (pe_call G2 r1 rfl m2 k2 b2 .nil pass0 (pa_cons (pv 2) pa_nil)))
    (pss_cons (ps_set (i := 4) scInit.nd rfl (Or.inl rfl) (pe_call G3 r1 rfl m3 k3 b3 .nil pass0 (pa_cons (pv 1) (pa_cons (pv 3) pa_nil))))
    (pss_cons (ps_set (i := 5) scInit.nd rfl (Or.inl rfl) (pe_op op_mod (pe_un un_neg (pv 4)) (pe_callB call_len_str (by rfl) Z.len PySem.boot_len (pa_cons (pv 3) pa_nil))))
    (pss_cons (ps_fld (pv 0) (pe_slice sl_str (pv 1) po_none (po_some (pe_op op_sub (pe_callB call_len_str (by rfl) Z.len PySem.boot_len (pa_cons (pv 1) pa_nil)) (pv 4)))) rfl)
    (pss_one (ps_fld (pv 0) (pe_op op_add_str (pe_slice sl_str (pv 3) (po_some (pv 5)) po_none) (pe_slice sl_str (pv 3) po_none (po_some (pv 5)))) rfl))))))), ?_⟩
  rcases h with ⟨h, l, rfl, rfl, gh, gl, pos, q⟩ | ⟨bad, t⟩ | ⟨⟨h, rfl, gh⟩, bad, t⟩
  · refine ⟨_, rfl, _, 0, rfl, .inl ⟨h, rfl, Int.natCast_nonneg _, gh, fun H1 s1 => ?_⟩⟩
    refine ⟨_, rfl, _, 1, rfl, .inl ⟨l, rfl, by omega, gl, fun H2 s2 => ?_⟩⟩
    refine ⟨_, rfl, l, rfl, pos, gl.1, fun least L le => ?_⟩
    have p0 := L.pos
    refine ⟨_, rfl, _, rfl, h, least, rfl, p0, Nat.le_trans le gl.1, gh.1, fun many B => ?_⟩
    have hb := back_lt (many := many) p0
    have sl := good_line (Nat.le_trans le gl.1)
    have sh := good_line gh.1
    refine ⟨_, rfl, _, rfl, _, rfl, _, rfl, sl, _, _, rfl, rfl, by rw [T_len]; omega, ?_⟩
    have bl := B.le
    have e1 : cutS (T h) none (some (((T h).length : Int) - (many : Int))) = T (h.take (h.length - many)) := by
      rw [T_len, T_cutN _ (by omega), show ((h.length : Int) - (many : Int)).toNat = h.length - many by omega]
    have e2 : -(many : Int) % ((T least).length : Int) = ((back many least.length : Nat) : Int) := by
      rw [T_len, neg_mod _ _ p0]
    dsimp only
    rw [e2]
    have c1 := (s1.trans s2) _ _ ha
    refine ⟨_, rfl, _, rfl, _, rfl, sh, _, rfl, _, _, rfl, rfl, _, rfl, _, rfl, sh, ?_⟩
    rw [e1]
    refine ⟨_, rfl, a, C, dx, _, rfl, c1, R.cl, R.nF, (by show 0 < 1000; decide), ?_⟩
    refine ⟨_, rfl, _, rfl, _, rfl, _, rfl, sl, ?_⟩
    refine ⟨_, rfl, _, rfl, _, rfl, _, rfl, sl, ?_⟩
    rw [T_cutD _ (Int.natCast_nonneg _), T_cutN _ (Int.natCast_nonneg _), Int.toNat_natCast]
    refine ⟨_, _, rfl, rfl, ?_, ?_⟩
    · rw [T_len, T_len, List.length_drop, List.length_take]
      refine small_line ?_
      have := gl.1
      omega
    rw [T_add]
    refine ⟨_, rfl, a, C, dx, _, rfl, upd_same, R.cl, R.nA, (by show 1 < 1000; decide), ?_⟩
    have tl := turned_length (Nat.le_of_lt hb)
    refine q _ _ _ (sg_made L B) (by rw [tl]; exact p0) (by rw [List.length_take]; omega) (by rw [tl]; exact le) ?_ upd_same
    exact ((But.of (s1.trans s2)).upd _).upd _
  · exact ⟨_, rfl, _, 0, rfl, .inr ⟨bad, t⟩⟩
  · exact ⟨_, rfl, _, 0, rfl, .inl ⟨h, rfl, Int.natCast_nonneg _, gh, fun H1 s1 => ⟨_, rfl, _, 1, rfl, .inr ⟨bad.same s1, t.same s1⟩⟩⟩⟩
theorem ok_itemX (F : Fun K "__getitem__" "Round.__getitem__" s_Round_getitem f fd)
    (G1 : FnOk P w K mg base (L2.CX P w) 3 f1 fd1 ["given"] (spCountX K CN)) (b1 : Binds K fd1 ["given"] []) (k1 : PySem.W.keepIn K (.ref f1) = true) (m1 : mg "check_count" = some (.ref f1)) :
    FnOk P w K mg base (L2.CX P w) 4 f fd ["self", "at"] (spItemX K CN) := by
  refine F.okX scItem (fun vs H Q E h => ?_) (fun cdv A outer s H vs Q E hr h => ?_)
  · obtain ⟨a, v, rfl, _⟩ := h
    rfl
  obtain ⟨a, v, rfl, bad, t⟩ := h
  have tk := takes_of (X := cxOf (L2.CX P w) P w K mg base ["self", "at"] "Round.__getitem__" (defScope s_Round_getitem) f cdv A outer s H E) rfl rfl rfl rfl
  exact ⟨_, pss_cons (ps_expr (pe_callS G1 hr rfl m1 k1 b1 (fun σ => passAt tk σ) (pa_cons (pv 1) pa_nil))) (pss_cons ps_dead (pss_one ps_dead)), _, rfl, _, rfl, .inr ⟨bad, t⟩⟩
theorem ok_firstX (F : Fun K "first" "Round.first" s_Round_first f fd) (R : Rd K mg C) (Z : Bl mg)
    (G1 : FnOk P w K mg base (L2.CX P w) 3 f1 fd1 ["given"] (spCountX K CN)) (b1 : Binds K fd1 ["given"] []) (k1 : PySem.W.keepIn K (.ref f1) = true) (m1 : mg "check_count" = some (.ref f1)) :
    FnOk P w K mg base (L2.CX P w) 4 f fd ["self", "many"] (spFirstX K C CN) := by
  refine F.okX scFirst (fun vs H Q E h => ?_) (fun cdv A outer s H vs Q E hr h => ?_)
  · obtain ⟨a, v, rfl, _⟩ := h
    rfl
  obtain ⟨a, v, rfl, h⟩ := h
  have tk := takes_of (X := cxOf (L2.CX P w) P w K mg base ["self", "many", "times"] "Round.first" (defScope s_Round_first) f cdv A outer s H E) rfl rfl rfl rfl
  refine ⟨_, pss_cons (ps_expr (pe_callS G1 hr rfl m1 k1 b1 (fun σ => passAt tk σ) (pa_cons (pv 1) pa_nil)))
    (pss_cons (ps_set (i := 2) scFirst.nd rfl (Or.inl rfl) (pe_op op_add (pe_op op_fdiv (pv 1) (pe_callB call_len_str (by rfl) Z.len PySem.boot_len (pa_cons (pe_fld (pv 0) rfl) pa_nil))) pe_int))
    (pss_one (ps_ret (pe_slice sl_str (pe_op op_add_str (pe_fld (pv 0) rfl) (pe_op op_mul_str (pe_fld (pv 0) rfl) (pv 2))) po_none (po_some (pv 1)))))), ?_⟩
  rcases h with ⟨n, f, g, rfl, ⟨dx, ha⟩, fl, gl, pos, n1, q⟩ | ⟨bad, t⟩
  case inr => exact ⟨_, rfl, _, rfl, .inr ⟨bad, t⟩⟩
  have sf := good_line fl
  have sgl := good_line gl
  have dl : n / g.length ≤ n := Nat.div_le_self _ _
  refine ⟨_, rfl, _, rfl, .inl ⟨_, rfl, Int.natCast_nonneg _, ?_⟩⟩
  refine ⟨_, rfl, _, rfl, a, C, dx, _, _, rfl, ha, R.cl, R.nA, rfl, _, rfl, sgl, _, _, rfl, rfl, ⟨by rw [T_len]; omega, by rw [T_len]; omega⟩, _, _, rfl, rfl, ?_⟩
  have e : (n : Int) / ((T g).length : Int) + 1 = ((n / g.length + 1 : Nat) : Int) := by
    rw [T_len, Int.natCast_add, Int.natCast_ediv]
    rfl
  dsimp only
  rw [e]
  have z1 : ((n / g.length + 1 : Nat) : Int) ≤ 1000 := by
    have : n / g.length + 1 ≤ 1000 := by omega
    exact Int.ofNat_le.mpr this
  refine ⟨_, rfl, a, C, dx, _, _, rfl, ha, R.cl, R.nF, rfl, _, rfl, a, C, dx, _, _, rfl, ha, R.cl, R.nA, rfl, _, rfl, _, _, rfl, rfl, mulOk (Int.natCast_nonneg _) z1 gl, ?_⟩
  rw [T_mul _ (Int.natCast_nonneg _), Int.toNat_natCast]
  have hmul : (n / g.length + 1) * g.length ≤ n + g.length := by
    rw [Nat.add_mul, Nat.one_mul]
    have := Nat.div_mul_le_self n g.length
    omega
  have hl : (T f).length + (T (rep (n / g.length + 1) g)).length ≤ 3000 := by
    rw [T_len, T_len, rep_length]
    omega
  have line : (3000 : Nat) ≤ sizeLine := by decide
  refine ⟨_, _, rfl, rfl, Nat.le_trans hl line, ?_⟩
  rw [T_add]
  refine ⟨_, rfl, _, rfl, _, rfl, ?_, ?_⟩
  · rw [T_len, List.length_append, ← T_len f, ← T_len (rep _ g)]
    exact Nat.le_trans hl line
  · rw [T_cutN _ (Int.natCast_nonneg _), Int.toNat_natCast, first_signs pos ?_]
    · exact q
    · have := Nat.lt_div_mul_add (a := n) (b := g.length) pos
      rw [Nat.add_mul, Nat.one_mul]
      omega
end
end R5

/-! what stays; data that are told; the law's things -/
namespace R5
open PySem PySem.Spec PyProof.Rows L2 Hx Rw LamX
def isTbl : HO → Bool
  | .tbl _ => true
  | _ => false
/-- all but the deck and the tables -/
def bare (d : Addr) (H : Hp) : Hp := fun b => if b = d then none else (H b).bind fun o => if isTbl o = true then none else some o
theorem bare_some {d b : Addr} {H : Hp} {o : HO} (h : bare d H b = some o) : b ≠ d ∧ isTbl o = false ∧ H b = some o := by
  unfold bare at h
  by_cases c : b = d
  · rw [if_pos c] at h
    cases h
  · rw [if_neg c] at h
    cases e : H b with
    | none => rw [e] at h; cases h
    | some u =>
      rw [e] at h
      simp only [Option.bind_some] at h
      by_cases g : isTbl u = true
      · rw [if_pos g] at h
        cases h
      · rw [if_neg g] at h
        cases h
        exact ⟨c, by simpa using g, rfl⟩
theorem bare_at {d b : Addr} {H : Hp} {o : HO} (n : b ≠ d) (t : isTbl o = false) (h : H b = some o) : bare d H b = some o := by
  unfold bare
  rw [if_neg n, h]
  simp only [Option.bind_some]
  rw [t]
  rfl
theorem bare_same {d : Addr} {H : Hp} : Same (bare d H) H := fun b o h => (bare_some h).2.2
/-- what stays of H -/
def Kp (d : Addr) (H H' : Hp) : Prop := ∀ b o, b ≠ d → isTbl o = false → H b = some o → H' b = some o
theorem Kp.refl {d : Addr} {H : Hp} : Kp d H H := fun _ _ _ _ h => h
theorem Kp.trans {d : Addr} {H H1 H2 : Hp} (a : Kp d H H1) (b : Kp d H1 H2) : Kp d H H2 := fun c o n t h => b c o n t (a c o n t h)
theorem Kp.but {d : Addr} {H H' : Hp} (b : But d H H') : Kp d H H' := fun c o n _ h => b c o n h
theorem Kp.same {d : Addr} {H H' : Hp} (s : Same H H') : Kp d H H' := fun c o _ _ h => s c o h
theorem Kp.ext {d : Addr} {H H' : Hp} (e : ExtN H H') : Kp d H H' := fun c o _ t h => e c o h fun ps z => by
  rw [z] at t
  cases t
theorem Kp.bare {d : Addr} {H H' : Hp} (k : Kp d H H') : Same (bare d H) (bare d H') := fun b o h => by
  obtain ⟨n, t, e⟩ := bare_some h
  exact bare_at n t (k b o n t e)
theorem DeckAt.ext {H H' : Hp} {d : Addr} (h : DeckAt H d) (e : ExtN H H') : DeckAt H' d := by
  obtain ⟨x, y, z, e1, e2, e3⟩ := h
  exact ⟨x, y, z, e1, e2, e _ _ e3 (fun ps z => by cases z)⟩
theorem DeckAt.sm {H H' : Hp} {d : Addr} (h : DeckAt H d) (s : Same H H') : DeckAt H' d := h.ext (ExtN.of s)
/-- a datum whose repr may be compared -/
structure Fits (d : PyData) : Prop where
  s : d.showable = true
  dep : d.depth ≤ 20
  len : d.shown.length ≤ 100000
  ok : PyData.strOk d.shown = true
theorem Fits.line {d : PyData} (h : Fits d) : d.shown.length ≤ sizeLine := Nat.le_trans h.len (by decide)
/-- the law's signs -/
def alph : List Nat := [97, 98, 99, 120, 121, 122, 65, 90, 48, 57, 95, 32, 39, 45, 40, 44, 126]
theorem alph_char : ∀ c ∈ alph, ∀ q ∈ [34, 39], (Builtin.Str.reprChar q c).length ≤ 2 ∧ (Builtin.Str.reprChar q c).all (fun x => decide (x < 0x110000)) = true := by decide +kernel
theorem repr_list (q : Nat) : ∀ (l : List Nat) (acc : Array Nat), (l.foldl (fun out c => out ++ (Builtin.Str.reprChar q c).toArray) acc).toList = acc.toList ++ l.flatMap (Builtin.Str.reprChar q)
  | [], acc => by simp
  | c :: r, acc => by
    rw [List.foldl_cons, repr_list q r, List.flatMap_cons, Array.toList_append, List.append_assoc]
theorem quote_in (x : Str) : reprQuote x ∈ [34, 39] := by
  unfold reprQuote
  split <;> simp
theorem shown_list (l : List Nat) : (PyData.shown (.str (T l))).cps.toList = [reprQuote (T l)] ++ l.flatMap (Builtin.Str.reprChar (reprQuote (T l))) ++ [reprQuote (T l)] := by
  show (((l.toArray).foldl (fun out c => out ++ (Builtin.Str.reprChar (reprQuote (T l)) c).toArray) #[reprQuote (T l)]).push (reprQuote (T l))).toList = _
  rw [Array.toList_push, ← Array.foldl_toList, repr_list]
theorem fits_str {l : List Nat} (hl : l.length ≤ 1000) (h : ∀ c ∈ l, c ∈ alph) : Fits (.str (T l)) := by
  have hq := quote_in (T l)
  have e := shown_list l
  generalize reprQuote (T l) = q at hq e
  have h1 : ∀ m : List Nat, (∀ c ∈ m, c ∈ alph) → (m.flatMap (Builtin.Str.reprChar q)).length ≤ 2 * m.length := by
    intro m
    induction m with
    | nil => intro _; simp
    | cons c r ih =>
      intro hm
      rw [List.flatMap_cons, List.length_append, List.length_cons]
      have := (alph_char c (hm c List.mem_cons_self) q hq).1
      have := ih fun x hx => hm x (List.mem_cons_of_mem _ hx)
      omega
  have h2 : ∀ x ∈ l.flatMap (Builtin.Str.reprChar q), x < 0x110000 := by
    intro x hx
    obtain ⟨c, hc, hx⟩ := List.mem_flatMap.mp hx
    exact of_decide_eq_true (List.all_eq_true.mp (alph_char c (h c hc) q hq).2 x hx)
  have h3 := h1 l h
  have q1 : q < 0x110000 := by
    rcases List.mem_cons.mp hq with rfl | hq
    · decide
    · rw [List.mem_singleton.mp hq]
      decide
  refine ⟨rfl, Nat.zero_le _, ?_, ?_⟩
  · have : (PyData.shown (.str (T l))).length = (PyData.shown (.str (T l))).cps.toList.length := Array.length_toList.symm
    rw [this, e]
    simp only [List.length_append, List.length_singleton]
    omega
  · unfold PyData.strOk
    rw [← Array.all_toList, e, List.all_eq_true]
    intro x hx
    refine decide_eq_true ?_
    rcases List.mem_append.mp hx with hx | hx
    · rcases List.mem_append.mp hx with hx | hx
      · rw [List.mem_singleton.mp hx]
        exact q1
      · exact h2 x hx
    · rw [List.mem_singleton.mp hx]
      exact q1
/-- a text of letters, or something else -/
def Thing (K : PySem.W.Frag) (H : Hp) (v : V) (b : Bool) : Prop := (b = true ∧ ∃ l : List Nat, v = .str (T l) ∧ l.length ≤ 6 ∧ l.all letter = true) ∨
  (b = false ∧ ((∃ l : List Nat, v = .str (T l) ∧ l.length ≤ 7 ∧ l.all letter = false) ∨ NotStr K H v))
theorem Thing.same {K : PySem.W.Frag} {H H' : Hp} {v : V} {b : Bool} (h : Thing K H v b) (s : Same H H') : Thing K H' v b := h.imp_right fun ⟨e, x⟩ => ⟨e, x.imp_right fun n => n.same s⟩
def spThing (K : PySem.W.Frag) : Sp := fun vs H Q _ => ∃ (d : Addr) (n : Int), vs = [.ref d, .int n] ∧ 0 ≤ n ∧ n ≤ 6 ∧ DeckAt H d ∧
  ∀ (p : Addr) (v : V) (b : Bool) (dt : PyData) (H' : Hp), But d H H' → DeckAt H' d → p ≠ d → H' p = some (.tup [v, .bl b]) → Dq (bare d H') v dt → Fits dt → Thing K (bare d H') v b → Q (.ref p) H'
/-- _law_of over a list -/
def spOfL (K : PySem.W.Frag) : Sp := fun vs H Q _ => ∃ (d p : Addr) (xs : List V), vs = [.ref d, .ref p] ∧ SqL K H p xs ∧ 0 < xs.length ∧ xs.length ≤ 1000 ∧ p ≠ d ∧ DeckAt H d ∧
  ∀ v H', v ∈ xs → But d H H' → DeckAt H' d → Q v H'
/-- one of a menu: its datum -/
def Odd (K : PySem.W.Frag) (N : PySem.W.Frag → Hp → V → Prop) (H : Hp) (v : V) : Prop := ∃ dt, Dq H v dt ∧ Fits dt ∧ N K H v
def thingD : List PyData := [.none, .int 7, .bool true, .tuple [.str "a"], .list [.str "a", .str "b"], .dict [], .tuple [], .list []]
def oddD : List PyData := [.none, .int (-1), .bool true, .str "0", .tuple [.int 0], .list [.int 1], .dict [], .bool false, .int (-1000000000000000000000000000000), .tuple []]
theorem fits_things : ∀ d ∈ thingD, Fits d := by
  have h : (thingD.all fun d => d.showable && decide (d.depth ≤ 20) && decide (d.shown.length ≤ 100000) && PyData.strOk d.shown) = true := by decide +kernel
  intro d hd
  have := List.all_eq_true.mp h d hd
  simp only [Bool.and_eq_true, decide_eq_true_eq] at this
  exact ⟨this.1.1.1, this.1.1.2, this.1.2, this.2⟩
theorem fits_odds : ∀ d ∈ oddD, Fits d := by
  have h : (oddD.all fun d => d.showable && decide (d.depth ≤ 20) && decide (d.shown.length ≤ 100000) && PyData.strOk d.shown) = true := by decide +kernel
  intro d hd
  have := List.all_eq_true.mp h d hd
  simp only [Bool.and_eq_true, decide_eq_true_eq] at this
  exact ⟨this.1.1.1, this.1.1.2, this.1.2, this.2⟩
section
variable {P : Program} {w : World} {K : PySem.W.Frag} {mg : Str → Option Value} {base : Heap} {f C f1 f2 f3 : Addr} {fd fd1 fd2 fd3 : FuncData}
theorem ok_ofL (F : Fun K "_law_of" "_law_of" s_law_of f fd) (GC : FnOk P w K mg base CX0 1 f1 fd1 ["_law_deck_here", "_law_top"] spCard) (bC : Binds K fd1 ["_law_deck_here", "_law_top"] [])
    (kC : PySem.W.keepIn K (.ref f1) = true) (mC : mg "_law_card" = some (.ref f1)) (ml : mg "len" = none) : FnOk P w K mg base CX0 2 f fd ["_law_deck_here", "_law_menu"] (spOfL K) := by
  refine F.ok scOf (fun vs H Q E h => ?_) (fun cdv A outer s H vs Q E hr h => ?_)
  · obtain ⟨d, z, xs, rfl, _⟩ := h
    rfl
  obtain ⟨d, p, xs, rfl, hS, z0, z1, npd, hd, q⟩ := h
  refine ⟨_, pss_one (ps_ret (pe_ix ix_list (pv 1) (pe_call GC hr rfl mC kC bC .nil pass0 (pa_cons (pv 0) (pa_cons
    (pe_callB call_len_seq (by rfl) ml PySem.boot_len (pa_cons (pv 1) pa_nil)) pa_nil))) (fun _ _ => rfl))), ?_⟩
  refine ⟨_, rfl, _, rfl, _, rfl, p, xs, rfl, .inl hS, d, _, rfl, by omega, by omega, hd, fun r H' r0 r1 b hd' => ?_⟩
  obtain ⟨v, hv, ev⟩ := atI_in (xs := xs) r0 r1
  exact ⟨p, _, _, v, rfl, rfl, b.seq npd hS, ev, q v H' hv b hd'⟩
theorem scThing : FnScope ["_law_deck_here", "_law_size", "_law_line", "_law_way", "_law_spot"] ["_law_deck_here", "_law_size"] (defScope s_law_thing) := ⟨rfl, rfl, rfl, by decide +kernel, rfl, by decide +kernel, by decide +kernel⟩
theorem ok_thing (F : Fun K "_law_thing" "_law_thing" s_law_thing f fd) (Z : Bl mg)
    (GC : FnOk P w K mg base CX0 1 f1 fd1 ["_law_deck_here", "_law_top"] spCard) (bC : Binds K fd1 ["_law_deck_here", "_law_top"] []) (kC : PySem.W.keepIn K (.ref f1) = true) (mC : mg "_law_card" = some (.ref f1))
    (GO : FnOk P w K mg base CX0 2 f2 fd2 ["_law_deck_here", "_law_menu"] spOfS) (GL : FnOk P w K mg base CX0 2 f2 fd2 ["_law_deck_here", "_law_menu"] (spOfL K)) (bO : Binds K fd2 ["_law_deck_here", "_law_menu"] []) (kO : PySem.W.keepIn K (.ref f2) = true) (mO : mg "_law_of" = some (.ref f2))
    (GS : FnOk P w K mg base CX0 3 f3 fd3 ["_law_deck_here", "_law_letters", "_law_size"] spString) (bS : Binds K fd3 ["_law_deck_here", "_law_letters", "_law_size"] []) (kS : PySem.W.keepIn K (.ref f3) = true) (mS : mg "_law_string" = some (.ref f3)) :
    FnOk P w K mg base CX0 4 f fd ["_law_deck_here", "_law_size"] (spThing K) := by
  refine F.ok scThing (fun vs H Q E h => ?_) (fun cdv A outer s H vs Q E hr h => ?_)
  · obtain ⟨d, n, rfl, _⟩ := h
    rfl
  obtain ⟨d, n, rfl, n0, n6, hd, q⟩ := h
  have r1 := hr.mono (by decide : 1 ≤ 3)
  have r2 := hr.mono (by decide : 2 ≤ 3)
  refine ⟨_, pss_cons (ps_set (i := 2) scThing.nd rfl (Or.inl rfl) (pe_call GS hr rfl mS kS bS .nil pass0 (pa_cons (pv 0) (pa_cons pe_str (pa_cons (pe_call GC r1 rfl mC kC bC .nil pass0 (pa_cons (pv 0) (pa_cons (pe_op op_add (pv 1) pe_int) pa_nil))) pa_nil)))))
    (pss_cons (ps_set (i := 3) scThing.nd rfl (Or.inl rfl) (pe_call GC r1 rfl mC kC bC .nil pass0 (pa_cons (pv 0) (pa_cons pe_int pa_nil))))
    (pss_cons (ps_if (pt_cmpR op_eq (pv 3) pe_int (nomark _))
      (pss_cons (ps_set (i := 4) scThing.nd rfl (Or.inl rfl) (pe_call GC r1 rfl mC kC bC .nil pass0 (pa_cons (pv 0) (pa_cons (pe_op op_add (pe_callB call_len_str (by rfl) Z.len PySem.boot_len (pa_cons (pv 2) pa_nil)) pe_int) pa_nil))))
      (pss_one (ps_ret (pe_tup (pa_cons (pe_op op_add_str (pe_op op_add_str (pe_slice sl_str (pv 2) po_none (po_some (pv 4))) (pe_call GO r2 rfl mO kO bO .nil pass0 (pa_cons (pv 0) (pa_cons pe_str pa_nil))))
        (pe_slice sl_str (pv 2) (po_some (pv 4)) po_none)) (pa_cons pe_bl pa_nil)))))) pss_nil)
    (pss_cons (ps_if (pt_cmpR op_eq (pv 3) pe_int (nomark _))
      (pss_one (ps_ret (pe_tup (pa_cons (pe_call GL r2 rfl mO kO bO .nil pass0 (pa_cons (pv 0) (pa_cons
        (pe_lst (pa_cons pe_non (pa_cons pe_int (pa_cons pe_bl (pa_cons (pe_tup (pa_cons pe_str pa_nil)) (pa_cons (pe_lst (pa_cons pe_str (pa_cons pe_str pa_nil))) (pa_cons pe_dnewK (pa_cons (pe_tup pa_nil) (pa_cons (pe_lst pa_nil) pa_nil))))))))) pa_nil))) (pa_cons pe_bl pa_nil))))) pss_nil)
    (pss_one (ps_ret (pe_tup (pa_cons (pv 2) (pa_cons pe_bl pa_nil)))))))), ?_⟩
  have e6 : ("abcxyz" : Str) = T [97, 98, 99, 120, 121, 122] := by decide +kernel
  have e11 : ("AZ09_ '-(,~" : Str) = T [65, 90, 48, 57, 95, 32, 39, 45, 40, 44, 126] := by decide +kernel
  refine ⟨_, rfl, _, rfl, _, rfl, _, _, rfl, rfl, ?_⟩
  refine ⟨d, n + 1, rfl, by omega, by omega, hd, fun k H1 k0 k1 b1 hd1 => ?_⟩
  refine ⟨d, [97, 98, 99, 120, 121, 122], k, by rw [e6]; rfl, by decide, by decide, k0, by omega, hd1, fun l H2 ll hl b2 hd2 => ?_⟩
  have l6 : l.length ≤ 6 := by omega
  have lg : l.all letter = true := by
    rw [List.all_eq_true]
    have : ∀ c ∈ [97, 98, 99, 120, 121, 122], letter c = true := by decide +kernel
    exact fun c hc => this c (hl c hc)
  have la : ∀ c ∈ l, c ∈ alph := fun c hc => by
    have : ∀ c ∈ [97, 98, 99, 120, 121, 122], c ∈ alph := by decide
    exact this c (hl c hc)
  have b12 := b1.trans b2
  refine ⟨_, rfl, d, 4, rfl, by decide, by decide, hd2, fun way H3 w0 w1 b3 hd3 => ?_⟩
  have b13 := b12.trans b3
  have small := good_line (l := l) (by omega)
  refine ⟨_, rfl, rfl, _, rfl, ?_⟩
  refine ite2 (fun c => ?_) (fun c => ?_)
  · refine ⟨_, rfl, _, rfl, _, rfl, small, _, _, rfl, rfl, ?_⟩
    refine ⟨d, _, rfl, by rw [T_len]; omega, by rw [T_len]; omega, hd3, fun sp H4 s0 s1 b4 hd4 => ?_⟩
    rw [T_len] at s1
    refine ⟨_, rfl, _, rfl, _, rfl, _, rfl, small, ?_⟩
    refine ⟨_, rfl, d, [65, 90, 48, 57, 95, 32, 39, 45, 40, 44, 126], by rw [e11]; rfl, by decide, by decide, hd4, fun x H5 hx b5 hd5 => ?_⟩
    rw [T_cutN _ s0]
    have few : (l.take sp.toNat).length ≤ 6 := by rw [List.length_take]; omega
    have few2 : (l.drop sp.toNat).length ≤ 6 := by rw [List.length_drop]; omega
    refine ⟨_, _, rfl, rfl, ?_, ?_⟩
    · rw [T_len, T_len]
      exact small_line (by rw [List.length_singleton]; omega)
    refine ⟨_, rfl, _, rfl, _, rfl, _, rfl, small, ?_⟩
    rw [T_cutD _ s0]
    rw [T_add]
    refine ⟨_, _, rfl, rfl, ?_, ?_⟩
    · rw [T_len, T_len, List.length_append, List.length_singleton]
      exact small_line (by omega)
    rw [T_add]
    have ml : (l.take sp.toNat ++ [x] ++ l.drop sp.toNat).length ≤ 7 := by
      rw [List.length_append, List.length_append, List.length_take, List.length_drop, List.length_singleton]
      omega
    have ma : ∀ c ∈ l.take sp.toNat ++ [x] ++ l.drop sp.toNat, c ∈ alph := by
      intro c hc
      rcases List.mem_append.mp hc with hc | hc
      · rcases List.mem_append.mp hc with hc | hc
        · exact la c (List.mem_of_mem_take hc)
        · rw [List.mem_singleton.mp hc]
          have : ∀ c ∈ [65, 90, 48, 57, 95, 32, 39, 45, 40, 44, 126], c ∈ alph := by decide
          exact this x hx
      · exact la c (List.mem_of_mem_drop hc)
    have mb : (l.take sp.toNat ++ [x] ++ l.drop sp.toNat).all letter = false := by
      rw [List.all_append, List.all_append]
      have : ∀ c ∈ [65, 90, 48, 57, 95, 32, 39, 45, 40, 44, 126], letter c = false := by decide +kernel
      have hx' : [x].all letter = false := by
        show (letter x && true) = false
        rw [this x hx]
        rfl
      rw [hx', Bool.and_false, Bool.false_and]
    refine ⟨(by show 2 ≤ sizeLine; decide), fun p hp => ?_⟩
    have npd := hd5.ne hp
    exact q p _ false _ _ ((b13.trans (b4.trans b5)).new hp _) (hd5.but npd _) (Ne.symm npd) upd_same (.str _) (fits_str (by omega) ma) (.inr ⟨rfl, .inl ⟨_, rfl, ml, mb⟩⟩)
  · refine ⟨_, rfl, rfl, _, rfl, ?_⟩
    refine ite2 (fun c2 => ?_) (fun c2 => ?_)
    · refine ⟨_, rfl, ?_⟩
      obtain ⟨od, hdo⟩ := hd3.some
      refine ⟨(by show 1 ≤ sizeLine; decide), fun a1 n1 => ?_⟩
      refine ⟨(by show 2 ≤ sizeLine; decide), fun a2 n2 => ?_⟩
      refine fun a3 n3 => ?_
      refine ⟨(by show 0 ≤ sizeLine; decide), fun a4 n4 => ?_⟩
      refine ⟨(by show 0 ≤ sizeLine; decide), fun a5 n5 => ?_⟩
      refine ⟨(by show 8 ≤ sizeLine; decide), fun a6 n6' => ?_⟩
      have g1 := same_new n1 (.tup [V.str "a"])
      have g2 := same_new n2 (.lst [V.str "a", V.str "b"])
      have g3 := same_new n3 (.dK [])
      have g4 := same_new n4 (.tup [])
      have g5 := same_new n5 (.lst [])
      have g6 := same_new n6' (.lst [V.non, .int 7, .bl true, .ref a1, .ref a2, .ref a3, .ref a4, .ref a5])
      have d1 := g1 _ _ hdo
      have d2 := g2 _ _ d1
      have d3 := g3 _ _ d2
      have d4 := g4 _ _ d3
      have d5 := g5 _ _ d4
      have x1 := ne_of_none hdo n1
      have x2 := ne_of_none d1 n2
      have x3 := ne_of_none d2 n3
      have x4 := ne_of_none d3 n4
      have x5 := ne_of_none d4 n5
      have x6 := ne_of_none d5 n6'
      have f5 := g6
      have f4 := g5.trans f5
      have f3 := g4.trans f4
      have f2 := g3.trans f3
      have f1 := g2.trans f2
      have f0 := g1.trans f1
      have menu : ∀ H9, But d _ H9 → ∀ v ∈ [V.non, .int 7, .bl true, .ref a1, .ref a2, .ref a3, .ref a4, .ref a5], ∃ dt ∈ thingD, Dq (bare d H9) v dt ∧ NotStr K (bare d H9) v := fun H9 b9 => by
        have k9 := fun {b : Addr} {o : HO} (n : d ≠ b) (t : isTbl o = false) e => bare_at (Ne.symm n) t (b9 b o (Ne.symm n) e)
        intro v hv
        simp only [List.mem_cons, List.not_mem_nil, or_false] at hv
        rcases hv with rfl | rfl | rfl | rfl | rfl | rfl | rfl | rfl
        · exact ⟨_, by simp [thingD], .non, _, .base .non, kit_ty (by decide +kernel)⟩
        · exact ⟨.int 7, by simp [thingD], .int 7, _, .base (.int 7), kit_ty (by decide +kernel)⟩
        · exact ⟨.bool true, by simp [thingD], .bl true, _, .base (.bl true), kit_ty (by decide +kernel)⟩
        · exact ⟨_, by simp [thingD], .tup (k9 x1 rfl (f1 _ _ upd_same)) (.cons (.str _) .nil), _, .base (.tup (k9 x1 rfl (f1 _ _ upd_same))), kit_ty (by decide +kernel)⟩
        · exact ⟨.list [.str "a", .str "b"], by simp [thingD], .lst (k9 x2 rfl (f2 _ _ upd_same)) (.cons (.str _) (.cons (.str _) .nil)), _, .base (.lst (k9 x2 rfl (f2 _ _ upd_same))), kit_ty (by decide +kernel)⟩
        · exact ⟨.dict [], by simp [thingD], .dct (k9 x3 rfl (f3 _ _ upd_same)) .nil, _, .base (.dK (k9 x3 rfl (f3 _ _ upd_same))), kit_ty (by decide +kernel)⟩
        · exact ⟨.tuple [], by simp [thingD], .tup (k9 x4 rfl (f4 _ _ upd_same)) .nil, _, .base (.tup (k9 x4 rfl (f4 _ _ upd_same))), kit_ty (by decide +kernel)⟩
        · exact ⟨.list [], by simp [thingD], .lst (k9 x5 rfl (f5 _ _ upd_same)) .nil, _, .base (.lst (k9 x5 rfl (f5 _ _ upd_same))), kit_ty (by decide +kernel)⟩
      refine ⟨d, a6, _, rfl, SqL.of upd_same, (by show 0 < 8; decide), (by show 8 ≤ 1000; decide), Ne.symm x6, hd3.sm f0, fun v H9 hv b9 hd9 => ?_⟩
      obtain ⟨dt, hdt, dq, ns⟩ := menu H9 b9 v hv
      refine ⟨(by show 2 ≤ sizeLine; decide), fun p hp => ?_⟩
      have npd := hd9.ne hp
      have sb : Same (bare d H9) (bare d (upd H9 p (.tup [v, V.bl false]))) := (Kp.same (same_new hp _)).bare
      exact q p v false dt _ ((b13.trans ((But.of f0).trans b9)).new hp _) (hd9.but npd _) (Ne.symm npd) upd_same (Dq.same sb _ _ dq) (fits_things dt hdt) (.inr ⟨rfl, .inr (ns.same sb)⟩)
    · refine ⟨_, rfl, ?_⟩
      refine ⟨(by show 2 ≤ sizeLine; decide), fun p hp => ?_⟩
      have npd := hd3.ne hp
      exact q p _ true _ _ (b13.new hp _) (hd3.but npd _) (Ne.symm npd) upd_same (.str _) (fits_str (by omega) la) (.inl ⟨rfl, l, rfl, l6, lg⟩)
end
end R5

/-! what the law's main def rests on -/
namespace R5
open PySem PySem.Spec PyProof.Rows L2 Hx Rw LamX
/-- o[i] by an own def that may let an error out -/
structure ItemX (P : Program) (w : World) (K : PySem.W.Frag) (mg : Str → Option Value) (base : Heap) (k : Nat) (C : Addr) (ps : List Str) (sp : Sp) : Prop where
  go : ∃ (g : Addr) (fd : FuncData), PySem.W.findIn K (.ref C) "__getitem__" = some (some (.ref g)) ∧ PySem.W.fnIn K g = true ∧ PySem.W.isFn K (.ref g) = true ∧
    FnOk P w K mg base (L2.CX P w) k g fd ps sp ∧ Binds K fd ps []
def rItemX (C : Addr) (sp : Sp) (E : XK) : R2 := fun x y H Q => ∃ (a dx : Addr) (fs : List (Str × V)), x = .ref a ∧ H a = some (.ins C dx fs) ∧ sp [x, y] H Q E
section
variable {X : Cx} {k : Nat} {C : Addr} {ps : List Str} {sp : Sp} {E : XK}
theorem run_belowX {pins : List (Addr × Obj)} {σ : L2.St} {H : Hp} {s : Shared} {Q : VK} {us : List Value} {vs : List V} {A1 : Around} {f : Addr} {fd : FuncData}
    (F : FnOk X.prog X.w X.K X.mg X.base (L2.CX X.prog X.w) k f fd ps sp) (hr : Room k A1) (e0 : Env0 X.prog X.w X.K X.mg X.base A1 X.stack s H) (hb : Binds X.K fd ps []) (hx : Passes (L2.CX X.prog X.w) X E) (I : Inv X pins σ H s) (r : Vals vs us) (h : sp vs H Q E) :
    wpAny (model X.prog X.w) A1 (call (.ref f) us) (EP X pins σ Q) X.xe s := by
  have l := F.len vs H Q E h
  have hl : us.length = ps.length := by rw [← r.length]; exact l
  have b := hb s us I.kIn (by rw [List.append_nil]; exact hl)
  rw [List.append_nil] at b
  refine wpAny_call (codeAny_mono (F.run A1 X.stack s H ⟨us, []⟩ us vs Q E hr e0 b r h) fun r s' hq => ?_)
  cases r with
  | error e => exact hx pins σ H s e s' I hq
  | ok fl =>
    cases fl with
    | ret u => exact I.after hq
    | next => exact hq.elim
    | brk => exact hq.elim
    | cont => exact hq.elim
theorem pe_ixX {e i : Expr} {pos : Pos} {te ti : TE} (T : ItemX X.prog X.w X.K X.mg X.base k C ps sp) (hr : Room (k + 1) X.A) (hx : Passes (L2.CX X.prog X.w) X E) (he : PE X e te) (hi : PE X i ti)
    (hsl : ∀ (a : Addr) (u : Value), subscripted i true (.ref a) u = runValue (.builtin "lifetime.subscript" ⟨[.ref a, u], []⟩)) : PE X (.Subscript e i pos) (tOp (rItemX C sp E) te ti) := by
  refine ⟨fun pins s σ H Q I h => ?_⟩
  refine Subscript_ (binT he hi I h fun v u s2 x y H2 I2 rx ry q => ?_)
  obtain ⟨a, dx, fs, rfl, ha, q⟩ := q
  cases (show v = Value.ref a from rx)
  obtain ⟨g, fd, h1, h2, h3, F, b⟩ := T.go
  obtain ⟨mA, O, _⟩ := ins_get I2.hok ha
  obtain ⟨od, J, _⟩ := O.look
  obtain ⟨m, hF⟩ := I2.fr
  exact PySem.W.sub_K hF I2.ok.mod.kin J h1 h2 h3 (run_belowX F hr.in1 I2.env0.in1 b hx I2 (.cons rx (.cons ry .nil)) q) (hsl _ _)
end
/-- a def whose code object is the one at c -/
structure FunC (K : PySem.W.Frag) (x qual : Str) (st : Stmt) (f : Addr) (fd : FuncData) (c : Addr) : Prop where
  ex : ∃ (oc : Value) (od : Option Addr) (kV doc pm : Value) (an : Option Addr) (ct : Value) (osl : Array (Option Value)),
    fd = PySem.W.fnOf x qual (defArgs st) (defBody st) (defScope st) .none kV doc pm an (.ref c) ct ∧ K.lookup f = some ⟨oc, od, .func fd, osl⟩ ∧ PySem.W.codeIn K (.ref c) qual = true
  kp : PySem.W.keepIn K (.ref f) = true
section
variable {P : Program} {w : World} {K : PySem.W.Frag} {mg : Str → Option Value} {base : Heap} {k : Nat} {f c : Addr} {fd : FuncData} {ps : List Str} {sp : Sp}
theorem FunC.fn {x qual : Str} {st : Stmt} (F : FunC K x qual st f fd c) : Fun K x qual st f fd := by
  obtain ⟨oc, od, kV, doc, pm, an, ct, osl, h⟩ := F.ex
  exact ⟨⟨oc, od, kV, doc, pm, an, _, ct, osl, h⟩, F.kp⟩
/-- no exception leaves the def; it makes lambdas -/
theorem gokC {x qual : Str} {st : Stmt} {N : List Str} (F : FunC K x qual st f fd c) (S : FnScope N ps (defScope st))
    (long : ∀ vs H Q E, sp vs H Q E → vs.length = ps.length)
    (body : ∀ (A : Around) (outer : List Env) (s : Shared) (H : Hp) (vs : List V) (Q : VK) (E : XK),
      Room k (A.deeper (envOfC qual (defScope st) s.heap.objs.size f (.ref c))) → A.guards = some [] → sp vs H Q E →
      ∃ t, PSs (cxOf CX0 P w K mg base N qual (defScope st) f (.ref c) A outer s H E).nox (defBody st) t ∧
        t { nx := fun _ H' => Q .non H', rt := Q } (L2.start N vs) H) :
    GOk P w K mg base CX0 (k + 1) f fd ps sp := by
  obtain ⟨oc, od, kV, doc, pm, an, ct, osl, efd, hlook, hcode⟩ := F.ex
  subst efd
  constructor
  · exact long
  · intro A outer s H args us vs Q E room gd e0 hbind rel hsp
    have inK : K.In s.heap := e0.mod.kin.keeps fun b o h => (e0.bs b o h).1
    have noLim : s.heap.NoLimit := e0.mod.nolimit.keeps fun b o h => (e0.bs b o h).1
    refine codeAny_call_function room.depth (inK _ _ hlook) rfl S.co S.gen rfl (PySem.W.codeRec_of inK hcode) (hbind _ _ _ _ ?_)
    refine wpAny_newFunctionEnv_cells S.kind ?kinds fun env henv s1 inside => ?_
    case kinds =>
      rintro ⟨nm, val⟩ hm
      have hp := (List.of_mem_zip hm).1
      cases S.par nm hp with
      | inl hl => exact .inl hl
      | inr hc => exact .inr ⟨hc, PySem.W.cellsFrom_some _ _ _ (.inl hc)⟩
    subst henv
    refine ⟨noLim.keeps inside.toInCall.keep, codeAny_func ?_⟩
    obtain ⟨t, ht, hq⟩ := body A outer s H vs Q E (room.deeper _) gd hsp
    have I0 := inv_start (CX := CX0) (E := E) S room.hd e0 (long _ _ _ _ hsp) rel inside
    refine wpAny_mono (ht.nox.run [] s1 (L2.start N vs) H _ I0 hq) ?_ (fun _ _ z => z)
    intro fl s' hfl
    cases fl with
    | ret u =>
      obtain ⟨v, _, H', J, rv, q⟩ := hfl
      exact ⟨v, H', J.os, J.bare, J.base, J.hok, rv, q⟩
    | next =>
      obtain ⟨_, H', J, q⟩ := hfl
      exact ⟨V.non, H', J.os, J.bare, J.base, J.hok, rfl, q⟩
    | brk => exact hfl.elim fun _ z => z.elim fun _ z => z.2.elim
    | cont => exact hfl.elim fun _ z => z.elim fun _ z => z.2.elim
end
/-- the def x of the module keeps its promise -/
structure Has (P : Program) (w : World) (K : PySem.W.Frag) (mg : Str → Option Value) (base : Heap) (k : Nat) (x : Str) (ps : List Str) (sp : Sp) : Prop where
  go : ∃ (f : Addr) (fd : FuncData), FnOk P w K mg base CX0 k f fd ps sp ∧ Binds K fd ps [] ∧ PySem.W.keepIn K (.ref f) = true ∧ mg x = some (.ref f)
def gMk (us ws : List Value) : List Value := match us, ws with
  | [a], [l, h] => [a, h, l]
  | _, _ => []
def gMkV (us ws : List V) : List V := match us, ws with
  | [a], [l, h] => [a, h, l]
  | _, _ => []
def gF (us ws : List Value) : List Value := match us, ws with
  | [a], [m] => [a, m]
  | _, _ => []
def gFV (us ws : List V) : List V := match us, ws with
  | [a], [m] => [a, m]
  | _, _ => []
def errs (CN CT : Addr) : List (Str × Addr) := [("InvalidNumber", CN), ("InvalidText", CT)]
structure Defs (P : Program) (w : World) (K : PySem.W.Frag) (mg : Str → Option Value) (base : Heap) (C CN CT c TP : Addr) : Prop where
  rd : Rd K mg C
  bl : Bl mg
  thing : Has P w K mg base 4 "_law_thing" ["_law_deck_here", "_law_size"] (spThing K)
  ofL : Has P w K mg base 2 "_law_of" ["_law_deck_here", "_law_menu"] (spOfL K)
  make : ∃ (f : Addr) (fd : FuncData), Mk K C f ∧ FnOk P w K mg base (L2.CX P w) 4 f fd ["self", "head", "loop"] (spInitX K C CT) ∧ Binds K fd ["self", "head", "loop"] [] ∧ KBn K fd ["self", "head", "loop"] 1 ["loop", "head"] gMk gMkV
  first : ∃ (f : Addr) (fd : FuncData), Meth K C "first" f ∧ FnOk P w K mg base (L2.CX P w) 4 f fd ["self", "many"] (spFirstX K C CN) ∧ Binds K fd ["self", "many"] [] ∧ KBinds K fd ["self", "many"] ["many"] gF gFV
  item : ItemX P w K mg base 4 C ["self", "at"] (spItemX K CN)
  caught : ∃ (g : Addr) (fd : FuncData), Fun K "_law_caught" "_law_caught" s_law_caught g fd ∧ Binds K fd ["_law_act"] [] ∧ mg "_law_caught" = some (.ref g)
  exc : ExcX K mg (errs CN CT)
  tab : TabB base mg c TP
  mods : Mods base
def NR : List Str := ["_law_deck_here", "_law_start", "_law_cycle", "_law_told", "_law_named", "_law_due", "_law_mine", "_law_odd"]
theorem scRight : FnScope NR ["_law_deck_here"] (defScope s_law_right) := ⟨rfl, rfl, rfl, by decide +kernel, rfl, by decide +kernel, by decide +kernel⟩
def NC : List Str := ["_law_act", "_law_told", "e"]
theorem scCaught : FnScope NC ["_law_act"] (defScope s_law_caught) := ⟨rfl, rfl, rfl, by decide +kernel, rfl, by decide +kernel, by decide +kernel⟩
def lamQ : Str := "_law_right" ++ ".<locals>." ++ "<lambda>"
def tabsOf (TP : Addr) : List (Addr × Str) := [(TP, lamQ)]
section
variable {X : Cx} {C CN CT c TP : Addr}
/-- _law_caught(lambda: e) in the law's main def -/
theorem pe_caught {params : Arguments} {body : Expr} {scope : Scope} {t : XK → TE} {p lpos pos : Pos} (D : Defs X.prog X.w X.K X.mg X.base C CN CT c TP) (hg : Gl X "_law_caught") (hq : X.env.qual ++ "<lambda>" = lamQ) (hcode : X.env.code = .ref c) (gd : X.A.guards = some [])
    (hr : Room 7 X.A) (L : LamS X.env.scope scope) (hdef : defaultsOf params X.env = ([], []))
    (hbind : ∀ (q : Str) (cl : List (Str × Addr)) (pm cv ctv : Value), bindArgs (PySem.W.kla_fn "<lambda>" q params body scope cl pm cv ctv) ⟨[], []⟩ = pure [])
    (hbody : ∀ (A : Around) (outer : List Env) (s : Shared) (H : Hp) (E : XK) (f c' : Addr), Room 5 (A.deeper (lamEnv X scope s.heap.objs.size f c')) → PE (lamCx X A outer s H E scope f c') body (t E)) :
    PE X (.Call (.Name "_law_caught" p) [.Lambda params body scope lpos] [] pos) (tLam (tabsOf TP) (TCaught (errs CN CT)) t) := by
  obtain ⟨g, fd, F, bb, hm⟩ := D.caught
  obtain ⟨oc, od, kV, doc, pm, an, cdv, ct, osl, rfl, lk, hcd⟩ := F.ex
  refine pe_lamcall (a := "_law_act") (k := 5) hg hm F.kp lk hcd bb scCaught rfl (.inl rfl) ?_ D.tab hcode (by rw [hq]; exact List.mem_singleton.mpr rfl) (fun p hp _ => by rw [hq, List.mem_singleton.mp hp]) hr L hdef hbind hbody
  refine caught_gives D.exc scCaught.nd rfl (.cons (.cons .nil)) (fun p hp => ?_) rfl D.bl.repr rfl rfl gd D.mods (fun s => ?_)
  · rcases List.mem_cons.mp hp with rfl | hp
    · rfl
    · rw [List.mem_singleton.mp hp]
      rfl
  · have := (hr.deeper (envOfC "_law_caught" (defScope s_law_caught) s.heap.objs.size g cdv)).units
    exact this
end
end R5

/-! what Round tells of two things -/
namespace R5
open PySem PySem.Spec PyProof.Rows L2 Hx Rw LamX
/-- what is due for a head and a loop -/
inductive Want (K : PySem.W.Frag) (H : Hp) (v u : V) : Str → Str → Prop
  | head {dt : PyData} : BadT K H 0 v → Dq H v dt → Fits dt → Want K H v u "InvalidText" dt.shown
  | loop {h : List Nat} {dt : PyData} : v = .str (T h) → Good h → BadT K H 1 u → Dq H u dt → Fits dt → Want K H v u "InvalidText" dt.shown
  | told {h l : List Nat} : v = .str (T h) → u = .str (T l) → Good h → Good l → h.length ≤ 6 → l.length ≤ 6 → 0 < l.length → Want K H v u "told" (T ((h ++ rep 12 l).take 12))
theorem Want.same {K : PySem.W.Frag} {H H' : Hp} {v u : V} {x y : Str} (W : Want K H v u x y) (s : Same H H') : Want K H' v u x y := by
  cases W with
  | head a b c => exact .head (a.same s) (Dq.same s _ _ b) c
  | loop e g a b c => exact .loop e g (a.same s) (Dq.same s _ _ b) c
  | told e1 e2 g1 g2 l1 l2 p => exact .told e1 e2 g1 g2 l1 l2 p
theorem letters_ok {l : List Nat} (h : l.all letter = true) : PyData.strOk (T l) = true := by
  have a : ∀ c ∈ abc.cps.toList, c < 0x110000 := by decide +kernel
  unfold PyData.strOk
  rw [← Array.all_toList, List.all_eq_true]
  intro c hc
  exact decide_eq_true (a c (of_decide_eq_true (List.all_eq_true.mp h c hc)))
theorem rep_letters {l : List Nat} (h : l.all letter = true) : ∀ n, (rep n l).all letter = true
  | 0 => rfl
  | n + 1 => by rw [rep_succ, List.all_append, h, rep_letters h n]; rfl
theorem Want.ok {K : PySem.W.Frag} {H : Hp} {v u : V} {x y : Str} (W : Want K H v u x y) : PyData.strOk x = true ∧ PyData.strOk y = true := by
  cases W with
  | head a b c => exact ⟨by decide +kernel, c.ok⟩
  | loop e g a b c => exact ⟨by decide +kernel, c.ok⟩
  | told e1 e2 g1 g2 l1 l2 p =>
    refine ⟨by decide +kernel, letters_ok ?_⟩
    rw [List.all_eq_true]
    intro c hc
    rcases List.mem_append.mp (List.mem_of_mem_take hc) with z | z
    · exact List.all_eq_true.mp g1.2 c z
    · exact List.all_eq_true.mp (rep_letters g2.2 12) c z
theorem shaped2 {x y : Str} (hx : PyData.strOk x = true) (hy : PyData.strOk y = true) : SeqAt.shaped (.tuple [.str x, .str y]) = true := by
  show ((PyData.strOk x && (PyData.strOk y && true)) && decide (max 0 (max 0 0) + 1 ≤ 64)) = true
  rw [hx, hy]
  rfl
theorem shaped22 {x y : Str} (hx : PyData.strOk x = true) (hy : PyData.strOk y = true) : SeqAt.shaped (.list [.tuple [.str x, .str y], .tuple [.str x, .str y]]) = true := by
  show (((PyData.strOk x && (PyData.strOk y && true)) && ((PyData.strOk x && (PyData.strOk y && true)) && true)) && decide (max (max 0 (max 0 0) + 1) (max (max 0 (max 0 0) + 1) 0) + 1 ≤ 64)) = true
  rw [hx, hy]
  rfl
theorem eqv_self {d : PyData} (h : SeqAt.shaped d = true) : PyData.eqv d d = true := SeqAt.eqv_refl_plain d (PyData.plain_of_canLay0 d (SeqAt.canLay_of_shaped h))
/-- an error is told by its name and the repr of what it was given -/
theorem tells_caught {CN CT Ce : Addr} {nm : Str} {Q : VK} {H : Hp} {v : V} {dt : PyData} (hm : (nm, Ce) ∈ errs CN CT) (hd : Dq H v dt) (ft : Fits dt)
    (q : ∀ p H', Same H H' → H' p = some (.tup [.str nm, .str dt.shown]) → Q (.ref p) H') : Tells (CaughtE (errs CN CT) Q) Ce v H := by
  intro H' dd s hdd
  have s2 : Same H (upd H' dd (.xd [("given", v)])) := s.trans (same_new hdd _)
  refine ⟨(nm, Ce), dd, v, dt, hm, rfl, rfl, upd_same, Dq.same s2 _ _ hd, ft.s, ft.dep, ft.line, fun p hp => ?_⟩
  exact q p _ (s2.trans (same_new hp _)) upd_same
theorem told_in {CN CT : Addr} : (("InvalidText" : Str), CT) ∈ errs CN CT := List.mem_cons_of_mem _ (List.mem_singleton.mpr rfl)
theorem number_in {CN CT : Addr} : (("InvalidNumber" : Str), CN) ∈ errs CN CT := List.mem_cons_self
/-- a new object, and all that was there -/
theorem born_same {H H' : Hp} {a dx : Addr} {o1 o2 : HO} (na : H a = none) (nd : H dx = none) (b : But a (upd (upd H dx o1) a o2) H') : Same H H' := fun c o h => by
  have n1 := ne_of_none h na
  have n2 := ne_of_none h nd
  refine b c o n1 ?_
  rw [upd_ne n1, upd_ne n2]
  exact h
theorem born_same0 {H : Hp} {a dx : Addr} {o1 o2 : HO} (na : H a = none) (nd : H dx = none) : Same H (upd (upd H dx o1) a o2) := fun c o h => by
  rw [upd_ne (ne_of_none h na), upd_ne (ne_of_none h nd)]
  exact h
/-- Round(v, u).first(12), its errors caught -/
theorem run_want {K : PySem.W.Frag} {C CN CT : Addr} {Q : VK} {H : Hp} {v u : V} {x y : Str} (W : Want K H v u x y) (q : ∀ p H', Same H H' → H' p = some (.tup [.str x, .str y]) → Q (.ref p) H')
    {a dx : Addr} (na : H a = none) (nd : H dx = none) (ne : dx ≠ a) :
    spInitX K C CT [.ref a, v, u] (upd (upd H dx (.own a)) a (.ins C dx [])) (fun r H2 => r = .non ∧ ∃ (a' dx' : Addr) (fs : List (Str × V)), V.ref a = .ref a' ∧ H2 a' = some (.ins C dx' fs) ∧ fs.lookup ("first" : Str) = none ∧
      spFirstX K C CN [.ref a, .int 12] H2 (fun v H' => ∃ z, some (some v) = some (some z) ∧ ([V.str "told", z].length ≤ sizeLine ∧ ∀ p, H' p = none → Q (.ref p) (upd H' p (.tup [.str "told", z])))) (CaughtE (errs CN CT) Q)) (CaughtE (errs CN CT) Q) := by
  have s0 : Same H (upd (upd H dx (.own a)) a (.ins C dx [])) := born_same0 na nd
  refine ⟨a, dx, v, u, rfl, upd_same, ?_⟩
  cases W with
  | @head dt b d f => exact .inr (.inl ⟨b.same s0, tells_caught told_in (Dq.same s0 _ _ d) f fun p H' s => q p H' (s0.trans s)⟩)
  | @loop h dt e g b d f => exact .inr (.inr ⟨⟨h, e, g⟩, b.same s0, tells_caught told_in (Dq.same s0 _ _ d) f fun p H' s => q p H' (s0.trans s)⟩)
  | @told h l e1 e2 g1 g2 l1 l2 pos =>
    refine .inl ⟨h, l, e1, e2, g1, g2, pos, fun f g H2 sgn gpos fl gl b at_ => ⟨rfl, a, dx, _, rfl, at_, rfl, ?_⟩⟩
    have s2 : Same H H2 := born_same na nd b
    refine ⟨a, .int 12, rfl, .inl ⟨12, f, g, rfl, ⟨dx, at_⟩, by omega, by omega, gpos, by decide, _, rfl, (by show 2 ≤ sizeLine; decide), fun p hp => ?_⟩⟩
    refine q p _ (s2.trans (same_new hp _)) ?_
    rw [upd_same]
    have e : (List.range 12).map (sg f g) = (h ++ rep 12 l).take 12 := by
      rw [first_signs pos (by omega)]
      exact List.map_congr_left fun n _ => sgn n
    rw [e]
/-- what is due, told by the law's own hand -/
theorem want_of {K : PySem.W.Frag} {H : Hp} {v u : V} {b c : Bool} {dv du : PyData} (tv : Thing K H v b) (tu : Thing K H u c) (qv : Dq H v dv) (qu : Dq H u du) (fv : Fits dv) (fu : Fits du) :
    (b = false ∧ Want K H v u "InvalidText" dv.shown) ∨ (b = true ∧ (c = false ∨ (c = true ∧ u = .str (T []))) ∧ Want K H v u "InvalidText" du.shown) ∨
      (b = true ∧ c = true ∧ ∃ h l : List Nat, v = .str (T h) ∧ u = .str (T l) ∧ l ≠ [] ∧ h.length ≤ 6 ∧ l.length ≤ 6 ∧ Want K H v u "told" (T ((h ++ rep 12 l).take 12))) := by
  rcases tv with ⟨rfl, h, rfl, h6, hg⟩ | ⟨rfl, bad⟩
  · have gh : Good h := ⟨by omega, hg⟩
    rcases tu with ⟨rfl, l, rfl, l6, lg⟩ | ⟨rfl, bad⟩
    · have gl : Good l := ⟨by omega, lg⟩
      cases l with
      | nil => exact .inr (.inl ⟨rfl, .inr ⟨rfl, rfl⟩, .loop rfl gh (.inl ⟨[], rfl, by decide, .inl (by decide)⟩) qu fu⟩)
      | cons c l => exact .inr (.inr ⟨rfl, rfl, h, _, rfl, rfl, by simp, h6, l6, .told rfl rfl gh gl h6 l6 (by simp)⟩)
    · refine .inr (.inl ⟨rfl, .inl rfl, .loop rfl gh ?_ qu fu⟩)
      rcases bad with ⟨l, rfl, l7, lb⟩ | n
      · exact .inl ⟨l, rfl, by omega, .inr lb⟩
      · exact .inr n
  · refine .inl ⟨rfl, .head ?_ qv fv⟩
    rcases bad with ⟨l, rfl, l7, lb⟩ | n
    · exact .inl ⟨l, rfl, by omega, .inr lb⟩
    · exact .inr n
theorem seq_of {t : TS} {u : TS} {D : Ends} {σ : L2.St} {H : Hp} (J : L2.St → Hp → Prop) (hu : ∀ σ' H', J σ' H' → u D σ' H') (ht : ∀ N, (∀ σ' H', J σ' H' → N σ' H') → t { D with nx := N } σ H) : tSeq t u D σ H := ht _ hu
end R5

/-! the law's main def -/
namespace R5
open PySem PySem.Spec PyProof.Rows L2 Hx Rw LamX
def spRight (TP : Addr) : Sp := fun vs H Q _ => ∃ d, vs = [.ref d] ∧ DeckAt H d ∧ Tabs (tabsOf TP) H ∧ ∀ H', Kp d H H' → Tabs (tabsOf TP) H' → Q (.bl true) H'
theorem tabs_but {T : List (Addr × Str)} {H H' : Hp} {d : Addr} {xs : List V} (t : Tabs T H) (hd : H d = some (.lst xs)) (b : But d H H') : Tabs T H' := fun p hp => by
  obtain ⟨ps, h1, h2, h3⟩ := t p hp
  refine ⟨ps, b _ _ (fun z => ?_) h1, h2, fun pos cv hc => ?_⟩
  · rw [z, hd] at h1
    cases h1
  · obtain ⟨c, e1, e2⟩ := h3 pos cv hc
    refine ⟨c, e1, b _ _ (fun z => ?_) e2⟩
    rw [z, hd] at e2
    cases e2
theorem tabs_deck {T : List (Addr × Str)} {H H' : Hp} {d : Addr} (t : Tabs T H) (hd : DeckAt H d) (b : But d H H') : Tabs T H' := by
  obtain ⟨x, y, z, _, _, e⟩ := hd
  exact tabs_but t e b
theorem Kp.late {d l : Addr} {H Ha Hb : Hp} {o1 o2 : HO} (k : Kp d H Ha) (na : Ha l = none) (k2 : Kp d (upd Ha l o1) Hb) : Kp d H (upd Hb l o2) := fun b o n t h => by
  have e := k b o n t h
  have nl := ne_of_none e na
  rw [upd_ne nl]
  exact k2 b o n t (by rw [upd_ne nl]; exact e)
theorem name_seq {i : Nat} {x : V} {t u : TS} {D : Ends} {r : VK} {b e : L2.St → Hp → Prop} {σ : L2.St} {H : Hp} (h : tSeq t u D (σ.set i (some x)) H) : gName i x σ H (Ends.nx { nx := tSeq t u D, rt := r, bk := b, ct := e }) := h
section
variable {K : PySem.W.Frag} {C CN CT : Addr} {Q : VK} {H : Hp} {v u : V} {x y : Str} {σ : L2.St} {ta : XK → TE}
theorem lam_told (W : Want K H v u x y)
    (hta : ∀ E Q', (∀ a dx, H a = none → H dx = none → dx ≠ a → spInitX K C CT [.ref a, v, u] (upd (upd H dx (.own a)) a (.ins C dx [])) (fun r H2 => r = .non ∧ Q' (.ref a) H2) E) → ta E σ H Q')
    (q : ∀ p H', Same H H' → H' p = some (.tup [.str x, .str y]) → Q (.ref p) H') :
    TCaught (errs CN CT) (fun E H' Q' => tMeth C "first" (spFirstX K C CN) [] E (ta E) (tCons (tC (.int 12)) tNil) σ H' Q') H Q :=
  hta _ _ fun a dx na nd ne => run_want W q na nd ne
theorem lam_toldK (W : Want K H v u x y)
    (hta : ∀ E Q', (∀ a dx, H a = none → H dx = none → dx ≠ a → spInitX K C CT [.ref a, v, u] (upd (upd H dx (.own a)) a (.ins C dx [])) (fun r H2 => r = .non ∧ Q' (.ref a) H2) E) → ta E σ H Q')
    (q : ∀ p H', Same H H' → H' p = some (.tup [.str x, .str y]) → Q (.ref p) H') :
    TCaught (errs CN CT) (fun E H' Q' => tMethK C "first" (spFirstX K C CN) gFV E (ta E) (tCons (tC (.int 12)) tNil) σ H' Q') H Q :=
  hta _ _ fun a dx na nd ne => run_want W q na nd ne
end
theorem ixT {X : Cx} {K : PySem.W.Frag} (h : X.K = K := by rfl) : IxR X (rIxT K) := h ▸ ix_tup
section
variable {P : Program} {w : World} {K : PySem.W.Frag} {mg : Str → Option Value} {base : Heap} {f C CN CT c TP : Addr} {fd : FuncData}
theorem ok_right (D : Defs P w K mg base C CN CT c TP) (F : FunC K "_law_right" "_law_right" s_law_right f fd c) : GOk P w K mg base CX0 8 f fd ["_law_deck_here"] (spRight TP) := by
  refine gokC F scRight (fun vs H Q E h => ?_) (fun A outer s H vs Q E hr gd h => ?_)
  · obtain ⟨d, rfl, _⟩ := h
    rfl
  obtain ⟨d, rfl, hd, tb, q⟩ := h
  have Z := D.bl
  have R := D.rd
  obtain ⟨fT, fdT, GT, bT, kT, mT⟩ := D.thing.go
  obtain ⟨fO, fdO, GO, bO, kO, mO⟩ := D.ofL.go
  obtain ⟨fM, fdM, M, GM, bM, kbM⟩ := D.make
  obtain ⟨f1, fd1, mt1, G1, b1, kb1⟩ := D.first
  have r4 := hr.mono (by decide : 4 ≤ 7)
  have r5 := hr.mono (by decide : 5 ≤ 7)
  have r2 := hr.mono (by decide : 2 ≤ 7)
  refine ⟨_, pss_cons (ps_asg (pe_tup (pa_cons (pe_call GT r4 rfl mT kT bT .nil pass0 (pa_cons (pv 0) (pa_cons pe_int pa_nil))) (pa_cons (pe_call GT r4 rfl mT kT bT .nil pass0 (pa_cons (pv 0) (pa_cons pe_int pa_nil))) pa_nil)))
      (pg_tup (by rfl) (pgs_cons (pg_name (i := 1) scRight.nd rfl (Or.inr rfl)) (pgs_cons (pg_name (i := 2) scRight.nd rfl (Or.inr rfl)) pgs_nil))))
    (pss_cons (ps_set (i := 3) scRight.nd rfl (Or.inl rfl) (pe_caught D rfl rfl rfl gd hr (lamS_by (sc := defScope s_law_right) (by decide +kernel)) rfl (fun _ _ _ _ _ => rfl) (fun A outer s H E f c' hr2 =>
        pe_meth (pe_make M GM hr2 rfl R.gC bM .nil (passes_call (takes_of rfl rfl rfl rfl) (fun _ _ _ _ h => h)) (pa_cons (pe_ix (ixT (K := K)) (pv 1) pe_int (fun _ _ => rfl)) (pa_cons (pe_ix (ixT (K := K)) (pv 2) pe_int (fun _ _ => rfl)) pa_nil)))
          R.cl mt1 G1 (hr2.mono (by decide)) b1 .nil (passes_call (takes_of rfl rfl rfl rfl) (fun _ _ _ _ h => h)) (pa_cons pe_int pa_nil))))
    (pss_cons (ps_set (i := 4) scRight.nd rfl (Or.inl rfl) (pe_caught D rfl rfl rfl gd hr (lamS_by (sc := defScope s_law_right) (by decide +kernel)) rfl (fun _ _ _ _ _ => rfl) (fun A outer s H E f c' hr2 =>
        pe_methK (pe_makeK0 M GM hr2 rfl R.gC kbM (passes_call (takes_of rfl rfl rfl rfl) (fun _ _ _ _ h => h)) (pk_cons (pe_ix (ixT (K := K)) (pv 2) pe_int (fun _ _ => rfl)) (pk_cons (pe_ix (ixT (K := K)) (pv 1) pe_int (fun _ _ => rfl)) pk_nil)))
          R.cl mt1 G1 (hr2.mono (by decide)) kb1 (passes_call (takes_of rfl rfl rfl rfl) (fun _ _ _ _ h => h)) (pk_cons pe_int pk_nil))))
    (pss_cons (ps_set (i := 5) scRight.nd rfl (Or.inl rfl) (pe_tup (pa_cons pe_str (pa_cons (pe_callB (call_reprD gd hr.units D.mods) (by rfl) Z.repr PyProof.Rows.boot_repr (pa_cons (pe_ix ix_tup (pv 2) pe_int (fun _ _ => rfl)) pa_nil)) pa_nil))))
    (pss_cons (ps_if (pt_not (pt_val (pe_ix ix_tup (pv 1) pe_int (fun _ _ => rfl))))
        (pss_one (ps_set (i := 5) scRight.nd rfl (Or.inl rfl) (pe_tup (pa_cons pe_str (pa_cons (pe_callB (call_reprD gd hr.units D.mods) (by rfl) Z.repr PyProof.Rows.boot_repr (pa_cons (pe_ix ix_tup (pv 1) pe_int (fun _ _ => rfl)) pa_nil)) pa_nil)))))
        (pss_one (ps_if (PW.pt (pw_and (pt_val (pe_ix ix_tup (pv 2) pe_int (fun _ _ => rfl))) (pw_and1 (pt_cmpR op_ne (pe_ix ix_tup (pv 2) pe_int (fun _ _ => rfl)) pe_str (nomark _)))))
          (pss_one (ps_set (i := 5) scRight.nd rfl (Or.inl rfl) (pe_tup (pa_cons pe_str (pa_cons (pe_slice sl_str (pe_op op_add_str (pe_ix ix_tup (pv 1) pe_int (fun _ _ => rfl)) (pe_op op_mul_str (pe_ix ix_tup (pv 2) pe_int (fun _ _ => rfl)) pe_int)) po_none (po_some pe_int)) pa_nil))))) pss_nil)))
    (pss_cons (ps_if (PW.pt (pw_or (pt_cmpR (op_neD hr.units) (pv 3) (pv 5) (nomark _)) (pw_or1 (pt_cmpR (op_neD hr.units) (pv 4) (pv 5) (nomark _))))) (pss_one ps_dead) pss_nil)
    (pss_cons (ps_asg (pe_tup (pa_cons (pe_make M GM r5 rfl R.gC bM .nil passL (pa_cons pe_str (pa_cons pe_str pa_nil))) (pa_cons (pe_call GO r2 rfl mO kO bO .nil pass0 (pa_cons (pv 0) (pa_cons
        (pe_lst (pa_cons pe_non (pa_cons (pe_un un_neg pe_int) (pa_cons pe_bl (pa_cons pe_str (pa_cons (pe_tup (pa_cons pe_int pa_nil)) (pa_cons (pe_lst (pa_cons pe_int pa_nil)) (pa_cons pe_dnewK (pa_cons pe_bl
          (pa_cons (pe_un un_neg (pe_op op_pow pe_int pe_int)) (pa_cons (pe_tup pa_nil) pa_nil))))))))))) pa_nil))) pa_nil)))
      (pg_tup (by rfl) (pgs_cons (pg_name (i := 6) scRight.nd rfl (Or.inr rfl)) (pgs_cons (pg_name (i := 7) scRight.nd rfl (Or.inr rfl)) pgs_nil))))
    (pss_cons (ps_set (i := 3) scRight.nd rfl (Or.inl rfl) (pe_lst (pa_cons (pe_caught D rfl rfl rfl gd hr (lamS_by (sc := defScope s_law_right) (by decide +kernel)) rfl (fun _ _ _ _ _ => rfl) (fun A outer s H E f c' hr2 =>
        pe_ixX D.item hr2 (passes_call (takes_of rfl rfl rfl rfl) (fun _ _ _ _ h => h)) (pv 6) (pv 7) (fun _ _ => rfl))) pa_nil)))
    (pss_cons (ps_expr (pe_bm PySem.F.plainAttrs_list PySem.F.slot_list_append PySem.F.type_list_append mt_append (pv 3) (pa_cons (pe_caught D rfl rfl rfl gd hr (lamS_by (sc := defScope s_law_right) (by decide +kernel)) rfl (fun _ _ _ _ _ => rfl) (fun A outer s H E f c' hr2 =>
        pe_meth (pv 6) R.cl mt1 G1 (hr2.mono (by decide)) b1 .nil (passes_call (takes_of rfl rfl rfl rfl) (fun _ _ _ _ h => h)) (pa_cons (pv 7) pa_nil))) pa_nil)))
    (pss_one (ps_ret (pe_and (pe_cmpR (op_eqD hr.units) (pv 3) (pe_op op_rep (pe_lst (pa_cons (pe_tup (pa_cons pe_str (pa_cons (pe_callB (call_reprD gd hr.units D.mods) (by rfl) Z.repr PyProof.Rows.boot_repr (pa_cons (pv 7) pa_nil)) pa_nil))) pa_nil)) pe_int) (nomark _))
      (pe_one (pe_cmpR op_eq (pe_meth (pv 6) R.cl mt1 G1 r4 b1 .nil passL (pa_cons pe_int pa_nil)) pe_str (nomark _)))))))))))))), ?_⟩
  refine ⟨_, rfl, d, 6, rfl, by decide, by decide, hd, fun p1 v1 b1 dt1 H1 bu1 hd1 np1 hp1 dq1 ft1 th1 => ?_⟩
  refine ⟨_, rfl, d, 5, rfl, by decide, by decide, hd1, fun p2 v2 b2 dt2 H2 bu2 hd2 np2 hp2 dq2 ft2 th2 => ?_⟩
  refine ⟨(by show 2 ≤ sizeLine; decide), fun pp npp => ⟨pp, _, rfl, SqT.of upd_same, rfl, _, _, rfl, _, _, rfl, rfl, ?_⟩⟩
  have k12 : Kp d H1 H2 := Kp.but bu2
  have hp1' := k12 p1 _ np1 rfl hp1
  have dq1' := Dq.same k12.bare _ _ dq1
  have th1' := th1.same k12.bare
  have want := want_of th1' th2 dq1' dq2 ft1 ft2
  have s3 : Same H2 (upd H2 pp (.tup [V.ref p1, V.ref p2])) := same_new npp _
  have k02 : Kp d H H2 := (Kp.but bu1).trans k12
  have t2 : Tabs (tabsOf TP) H2 := tabs_deck (tabs_deck tb hd bu1) hd1 bu2
  have t3 := t2.ext s3
  generalize upd H2 pp (.tup [V.ref p1, V.ref p2]) = H3 at s3 t3 ⊢
  obtain ⟨x, y, W, due⟩ : ∃ x y, Want K (bare d H2) v1 v2 x y ∧ ((b1 = false ∧ x = "InvalidText" ∧ y = dt1.shown) ∨ (b1 = true ∧ (b2 = false ∨ (b2 = true ∧ v2 = .str (T []))) ∧ x = "InvalidText" ∧ y = dt2.shown) ∨
      (b1 = true ∧ b2 = true ∧ ∃ h l : List Nat, v1 = .str (T h) ∧ v2 = .str (T l) ∧ l ≠ [] ∧ h.length ≤ 6 ∧ l.length ≤ 6 ∧ x = "told" ∧ y = T ((h ++ rep 12 l).take 12))) := by
    rcases want with ⟨e, W⟩ | ⟨e1, e2, W⟩ | ⟨e1, e2, h, l, e3, e4, e5, e6, e7, W⟩
    · exact ⟨_, _, W, .inl ⟨e, rfl, rfl⟩⟩
    · exact ⟨_, _, W, .inr (.inl ⟨e1, e2, rfl, rfl⟩)⟩
    · exact ⟨_, _, W, .inr (.inr ⟨e1, e2, h, l, e3, e4, e5, e6, e7, rfl, rfl⟩)⟩
  obtain ⟨okx, oky⟩ := W.ok
  -- the first lambda
  refine ⟨t3, fun H4 e4 t4 => ?_⟩
  have k24 : Kp d H2 H4 := (Kp.same s3).trans (Kp.ext e4)
  have W4 : Want K H4 v1 v2 x y := W.same (k24.bare.trans bare_same)
  refine lam_told W4 (fun E' Q' h => ⟨_, rfl, p1, _, 0, v1, rfl, rfl, SqT.of (k24 p1 _ np1 rfl hp1'), rfl, _, rfl, p2, _, 0, v2, rfl, rfl, SqT.of (k24 p2 _ np2 rfl hp2), rfl, h⟩) (fun p3 H5 s5 hp3 => ?_)
  -- the second
  have t5 := t4.ext s5
  have k25 : Kp d H2 H5 := k24.trans (Kp.same s5)
  refine ⟨t5, fun H6 e6 t6 => ?_⟩
  have k26 : Kp d H2 H6 := k25.trans (Kp.ext e6)
  have W6 : Want K H6 v1 v2 x y := W.same (k26.bare.trans bare_same)
  refine lam_toldK W6 (fun E' Q' h => ⟨_, rfl, p2, _, 0, v2, rfl, rfl, SqT.of (k26 p2 _ np2 rfl hp2), rfl, _, rfl, p1, _, 0, v1, rfl, rfl, SqT.of (k26 p1 _ np1 rfl hp1'), rfl, rfl, rfl, h⟩) (fun p4 H7 s7 hp4 => ?_)
  have t7 := t6.ext s7
  have k27 : Kp d H2 H7 := k26.trans (Kp.same s7)
  have hp3' : H7 p3 = some (.tup [.str x, .str y]) := s7 _ _ (e6 _ _ hp3 (fun ps z => by cases z))
  have hd7 : DeckAt H7 d := (((((hd2.sm s3).ext e4).sm s5).ext e6).sm s7)
  -- what is due
  refine ⟨_, rfl, p2, _, 0, v2, rfl, rfl, SqT.of (k27 p2 _ np2 rfl hp2), rfl, v2, dt2, rfl, Dq.same (k27.bare.trans bare_same) _ _ dq2, ⟨ft2.s, ft2.dep, ft2.len⟩, ?_⟩
  refine ⟨(by show 2 ≤ sizeLine; decide), fun p5 n5 => ?_⟩
  have s8 := same_new n5 (.tup [V.str "InvalidText", .str dt2.shown])
  have k28 : Kp d H2 (upd H7 p5 (.tup [V.str "InvalidText", .str dt2.shown])) := k27.trans (Kp.same s8)
  refine name_seq ?_
  refine seq_of (fun σ' H' => ∃ p, σ' = [some (.ref d), some (.ref p1), some (.ref p2), some (.ref p3), some (.ref p4), some (.ref p), none, none] ∧ Same H7 H' ∧ H' p = some (.tup [.str x, .str y])) ?_ (fun N hN => ?_)
  case refine_2 =>
    refine ⟨_, rfl, p1, _, 1, .bl b1, rfl, rfl, SqT.of (k28 p1 _ np1 rfl hp1'), rfl, ?_⟩
    rcases due with ⟨rfl, rfl, rfl⟩ | ⟨rfl, e2, rfl, rfl⟩ | ⟨rfl, rfl, h, l, rfl, rfl, lne, h6, l6, rfl, rfl⟩
    · refine ⟨_, rfl, iteT ?_⟩
      refine ⟨_, rfl, p1, _, 0, v1, rfl, rfl, SqT.of (k28 p1 _ np1 rfl hp1'), rfl, v1, dt1, rfl, Dq.same (k28.bare.trans bare_same) _ _ dq1', ⟨ft1.s, ft1.dep, ft1.len⟩, ?_⟩
      refine ⟨(by show 2 ≤ sizeLine; decide), fun p6 n6 => hN _ _ ⟨p6, rfl, s8.trans (same_new n6 _), upd_same⟩⟩
    · refine ⟨_, rfl, iteF ?_⟩
      refine ⟨_, rfl, p2, _, 1, .bl b2, rfl, rfl, SqT.of (k28 p2 _ np2 rfl hp2), rfl, ?_⟩
      rcases e2 with rfl | ⟨rfl, rfl⟩
      · exact ⟨_, rfl, iteF (hN _ _ ⟨p5, rfl, s8, upd_same⟩)⟩
      · refine ⟨_, rfl, iteT ?_⟩
        refine ⟨_, rfl, p2, _, 0, _, rfl, rfl, SqT.of (k28 p2 _ np2 rfl hp2), rfl, rfl, _, rfl, ?_⟩
        have e0 : (!decide (V.str (T []) = V.str "")) = false := by decide +kernel
        rw [e0]
        exact iteF (hN _ _ ⟨p5, rfl, s8, upd_same⟩)
    · refine ⟨_, rfl, iteF ?_⟩
      refine ⟨_, rfl, p2, _, 1, .bl true, rfl, rfl, SqT.of (k28 p2 _ np2 rfl hp2), rfl, ?_⟩
      refine ⟨_, rfl, iteT ?_⟩
      refine ⟨_, rfl, p2, _, 0, _, rfl, rfl, SqT.of (k28 p2 _ np2 rfl hp2), rfl, rfl, _, rfl, ?_⟩
      have e0 : (!decide (V.str (T l) = V.str "")) = true := by
        have : ("" : Str) = T [] := by decide +kernel
        rw [this, decide_eq_false fun z => lne (T_inj (V.str.inj z))]
        rfl
      rw [e0]
      refine iteT ?_
      refine ⟨_, rfl, p1, _, 0, _, rfl, rfl, SqT.of (k28 p1 _ np1 rfl hp1'), rfl, ?_⟩
      refine ⟨_, rfl, p2, _, 0, _, rfl, rfl, SqT.of (k28 p2 _ np2 rfl hp2), rfl, ?_⟩
      refine ⟨_, _, rfl, rfl, mulOk (by decide) (by decide) (by omega), ?_⟩
      rw [T_mul _ (by decide), show (12 : Int).toNat = 12 from rfl]
      have few : (h ++ rep 12 l).length ≤ 100 := by
        rw [List.length_append, rep_length]
        omega
      refine ⟨_, _, rfl, rfl, ?_, ?_⟩
      · rw [T_len, T_len, ← List.length_append]
        exact small_line (by omega)
      rw [T_add]
      refine ⟨_, rfl, _, rfl, good_line (by omega), ?_⟩
      rw [T_cutN _ (by decide), show (12 : Int).toNat = 12 from rfl]
      refine ⟨(by show 2 ≤ sizeLine; decide), fun p6 n6 => hN _ _ ⟨p6, rfl, s8.trans (same_new n6 _), upd_same⟩⟩
  rintro σ' H' ⟨p, rfl, s9, hp⟩
  have hp3'' := s9 _ _ hp3'
  have hp4'' := s9 _ _ hp4
  have t9 := t7.ext s9
  have hd9 := hd7.sm s9
  have k09 : Kp d H H' := k02.trans (k27.trans (Kp.same s9))
  have sh := shaped2 okx oky
  have dp : ∀ {a : Addr}, H' a = some (.tup [.str x, .str y]) → Dp K H' (.ref a) (.tuple [.str x, .str y]) := fun e => .tup (SqT.of e) (.cons (.str _) (.cons (.str _) .nil))
  refine ⟨_, rfl, _, rfl, _, _, dp hp3'', dp hp, sh, sh, _, rfl, ?_⟩
  rw [eqv_self sh]
  refine iteF ⟨_, rfl, _, rfl, _, _, dp hp4'', dp hp, sh, sh, _, rfl, ?_⟩
  rw [eqv_self sh]
  refine iteF ?_
  have eab : ("ab" : Str) = T [97, 98] := by decide +kernel
  have ec : ("c" : Str) = T [99] := by decide +kernel
  refine fun a dx na nd ne => ?_
  refine ⟨a, dx, _, _, rfl, upd_same, .inl ⟨[97, 98], [99], by rw [eab], by rw [ec], ⟨by decide, by decide +kernel⟩, ⟨by decide, by decide +kernel⟩, by decide, fun f g H9 sgn gpos fl gl b at_ => ⟨rfl, ?_⟩⟩⟩
  have s10 : Same H' H9 := born_same na nd b
  have hd10 := hd9.sm s10
  have t10 := t9.ext s10
  have k10 := k09.trans (Kp.same s10)
  clear k24 k25 k26 k27 k28 W4 W6
  obtain ⟨od, hdo⟩ := hd10.some
  refine ⟨_, rfl, ?_⟩
  refine ⟨_, rfl, ?_⟩
  refine ⟨(by show 1 ≤ sizeLine; decide), fun a1 n1 => ?_⟩
  refine ⟨(by show 1 ≤ sizeLine; decide), fun a2 n2 => ?_⟩
  refine fun a3 n3 => ?_
  refine ⟨_, _, rfl, rfl, ⟨by decide, by decide, by decide⟩, ?_⟩
  refine ⟨_, rfl, ?_⟩
  refine ⟨(by show 0 ≤ sizeLine; decide), fun a4 n4 => ?_⟩
  refine ⟨(by show 10 ≤ sizeLine; decide), fun a5 n5 => ?_⟩
  have g1 := same_new n1 (.tup [V.int 0])
  have g2 := same_new n2 (.lst [V.int 1])
  have g3 := same_new n3 (.dK [])
  have g4 := same_new n4 (.tup [])
  have g5 := same_new n5 (.lst [V.non, .int (-1), .bl true, .str "0", .ref a1, .ref a2, .ref a3, .bl false, .int (-((10 : Int) ^ (30 : Int).toNat)), .ref a4])
  have d1 := g1 _ _ hdo
  have d2 := g2 _ _ d1
  have d3 := g3 _ _ d2
  have d4 := g4 _ _ d3
  have x1 := ne_of_none hdo n1
  have x2 := ne_of_none d1 n2
  have x3 := ne_of_none d2 n3
  have x4 := ne_of_none d3 n4
  have x5 := ne_of_none d4 n5
  have f4 := g5
  have f3 := g4.trans f4
  have f2 := g3.trans f3
  have f1 := g2.trans f2
  have f0 := g1.trans f1
  have pw : (10 : Int) ^ (30 : Int).toNat = 1000000000000000000000000000000 := by decide +kernel
  have menu : ∀ H9, But d _ H9 → ∀ v ∈ [V.non, .int (-1), .bl true, .str "0", .ref a1, .ref a2, .ref a3, .bl false, .int (-((10 : Int) ^ (30 : Int).toNat)), .ref a4], ∃ dt ∈ oddD, Dq (bare d H9) v dt ∧ BadN K (bare d H9) v := fun H9 b9 => by
    have k9 := fun {b : Addr} {o : HO} (n : d ≠ b) (t : isTbl o = false) e => bare_at (Ne.symm n) t (b9 b o (Ne.symm n) e)
    have ni : ∀ {v : V} {t : String} (bb : Bool), TyX K (bare d H9) v (.type t) → PySem.W.kitOne K (.type t) (.type "int") = some false → PySem.W.kitOne K (.type t) (.type "bool") = some bb → BadN K (bare d H9) v :=
      fun bb ty k1 k2 => .inr ⟨_, _, _, ty, k1, k2, rfl⟩
    intro v hv
    simp only [List.mem_cons, List.not_mem_nil, or_false] at hv
    rcases hv with rfl | rfl | rfl | rfl | rfl | rfl | rfl | rfl | rfl | rfl
    · exact ⟨.none, by simp [oddD], .non, ni false (.base .non) (kit_ty (by decide +kernel)) (kit_ty (by decide +kernel))⟩
    · exact ⟨.int (-1), by simp [oddD], .int (-1), .inl ⟨_, rfl, by decide⟩⟩
    · exact ⟨.bool true, by simp [oddD], .bl true, .inr ⟨_, true, true, .base (.bl true), kit_ty (by decide +kernel), kit_ty (by decide +kernel), rfl⟩⟩
    · exact ⟨.str "0", by simp [oddD], .str _, ni false (.base (.str _)) (kit_ty (by decide +kernel)) (kit_ty (by decide +kernel))⟩
    · exact ⟨.tuple [.int 0], by simp [oddD], .tup (k9 x1 rfl (f1 _ _ upd_same)) (.cons (.int 0) .nil), ni false (.base (.tup (k9 x1 rfl (f1 _ _ upd_same)))) (kit_ty (by decide +kernel)) (kit_ty (by decide +kernel))⟩
    · exact ⟨.list [.int 1], by simp [oddD], .lst (k9 x2 rfl (f2 _ _ upd_same)) (.cons (.int 1) .nil), ni false (.base (.lst (k9 x2 rfl (f2 _ _ upd_same)))) (kit_ty (by decide +kernel)) (kit_ty (by decide +kernel))⟩
    · exact ⟨.dict [], by simp [oddD], .dct (k9 x3 rfl (f3 _ _ upd_same)) .nil, ni false (.base (.dK (k9 x3 rfl (f3 _ _ upd_same)))) (kit_ty (by decide +kernel)) (kit_ty (by decide +kernel))⟩
    · exact ⟨.bool false, by simp [oddD], .bl false, .inr ⟨_, true, true, .base (.bl false), kit_ty (by decide +kernel), kit_ty (by decide +kernel), rfl⟩⟩
    · exact ⟨.int (-1000000000000000000000000000000), by simp [oddD], by rw [pw]; exact .int _, .inl ⟨_, rfl, by rw [pw]; decide⟩⟩
    · exact ⟨.tuple [], by simp [oddD], .tup (k9 x4 rfl (f4 _ _ upd_same)) .nil, ni false (.base (.tup (k9 x4 rfl (f4 _ _ upd_same)))) (kit_ty (by decide +kernel)) (kit_ty (by decide +kernel))⟩
  refine ⟨d, a5, _, rfl, SqL.of upd_same, (by show 0 < 10; decide), (by show 10 ≤ 1000; decide), Ne.symm x5, hd10.sm f0, fun v H11 hv b11 hd11 => ?_⟩
  obtain ⟨dt, hdt, dq, bad⟩ := menu H11 b11 v hv
  have ft := fits_odds dt hdt
  clear menu
  have nad : a ≠ d := fun z => by
    obtain ⟨_, _, _, _, _, e⟩ := hd10
    rw [← z, at_] at e
    cases e
  have at11 := b11 _ _ nad (f0 _ _ at_)
  have t11 : Tabs (tabsOf TP) H11 := tabs_deck (t10.ext f0) (hd10.sm f0) b11
  have k11 : Kp d H H11 := k10.trans ((Kp.same f0).trans (Kp.but b11))
  clear b11 f0 f1 f2 f3 f4 g1 g2 g3 g4 g5 d1 d2 d3 d4
  refine ⟨(by show 2 ≤ sizeLine; decide), fun pq npq => ⟨pq, _, rfl, SqT.of upd_same, rfl, _, _, rfl, _, _, rfl, rfl, ?_⟩⟩
  have s12 := same_new npq (.tup [V.ref a, v])
  have t12 := t11.ext s12
  generalize upd H11 pq (.tup [V.ref a, v]) = H12 at s12 t12 ⊢
  -- the third lambda
  refine ⟨t12, fun H13 e13 t13 => ?_⟩
  have k1113 : Kp d H11 H13 := (Kp.same s12).trans (Kp.ext e13)
  have at13 : H13 a = _ := k1113 a _ nad rfl at11
  refine ⟨_, rfl, _, rfl, a, dx, _, rfl, at13, a, v, rfl, bad.same (k1113.bare.trans bare_same), tells_caught number_in (Dq.same (k1113.bare.trans bare_same) _ _ dq) ft fun p6 H14 s14 hp6 => ?_⟩
  have t14 := t13.ext s14
  refine ⟨(by show 1 ≤ sizeLine; decide), fun l6 nl6 => ?_⟩
  have s15 := same_new nl6 (.lst [V.ref p6])
  have t15 := t14.ext s15
  -- the fourth
  refine ⟨_, rfl, .inl ⟨rfl, _, SqL.of upd_same⟩, t15, fun H16 e16 t16 => ?_⟩
  have k1116 : Kp d H11 H16 := k1113.trans (((Kp.same s14).trans (Kp.same s15)).trans (Kp.ext e16))
  have at16 := k1116 a _ nad rfl at11
  refine ⟨_, rfl, a, dx, _, rfl, at16, rfl, _, rfl, a, v, rfl, .inr ⟨bad.same (k1116.bare.trans bare_same), tells_caught number_in (Dq.same (k1116.bare.trans bare_same) _ _ dq) ft fun p7 H17 s17 hp7 => ?_⟩⟩
  have t17 := t16.ext s17
  have hl17 : H17 l6 = some (.lst [V.ref p6]) := s17 _ _ (e16 _ _ upd_same fun ps z => by cases z)
  have hp6' : H17 p6 = some (.tup [.str "InvalidNumber", .str dt.shown]) := s17 _ _ (e16 _ _ (s15 _ _ hp6) fun ps z => by cases z)
  have at17 := s17 _ _ at16
  refine ⟨l6, [V.ref p6], V.ref p7, rfl, rfl, hl17, (by show 1 < sizeLine; decide), ?_⟩
  have n6 : p6 ≠ l6 := fun z => by rw [z, hl17] at hp6'; cases hp6'
  have n7 : p7 ≠ l6 := fun z => by rw [z, hl17] at hp7; cases hp7
  have na6 : a ≠ l6 := fun z => by rw [z, hl17] at at17; cases at17
  have k14 : Kp d H H14 := (k11.trans k1113).trans (Kp.same s14)
  have k17 : Kp d (upd H14 l6 (.lst [V.ref p6])) H17 := (Kp.ext e16).trans (Kp.same s17)
  have k18 : Kp d H (upd H17 l6 (.lst [V.ref p6, V.ref p7])) := k14.late nl6 k17
  have t18 : Tabs (tabsOf TP) (upd H17 l6 (.lst [V.ref p6, V.ref p7])) := tabs_but t17 hl17 (But.refl.upd _)
  have hp6t : upd H17 l6 (.lst [V.ref p6, V.ref p7]) p6 = some (.tup [.str "InvalidNumber", .str dt.shown]) := by rw [upd_ne n6]; exact hp6'
  have hp7t : upd H17 l6 (.lst [V.ref p6, V.ref p7]) p7 = some (.tup [.str "InvalidNumber", .str dt.shown]) := by rw [upd_ne n7]; exact hp7
  have at18 : upd H17 l6 (.lst [V.ref p6, V.ref p7]) a = some (.ins C dx (fld f g)) := by rw [upd_ne na6]; exact at17
  have hl18 : upd H17 l6 (.lst [V.ref p6, V.ref p7]) l6 = some (.lst [V.ref p6, V.ref p7]) := upd_same
  have dq18 : Dq (upd H17 l6 (.lst [V.ref p6, V.ref p7])) v dt := by
    have k1114 : Kp d H11 H14 := k1113.trans (Kp.same s14)
    exact Dq.same ((k1114.late nl6 k17).bare.trans bare_same) _ _ dq
  refine ⟨_, rfl, ?_⟩
  refine ⟨_, rfl, v, dt, rfl, dq18, ⟨ft.s, ft.dep, ft.len⟩, ?_⟩
  refine ⟨(by show 2 ≤ sizeLine; decide), fun p8 n8 => ⟨(by show 1 ≤ sizeLine; decide), fun l8 nl8 => ?_⟩⟩
  refine ⟨l8, 2, _, rfl, rfl, upd_same, by decide, by decide, (by show 1 * 2 ≤ sizeLine; decide), fun l9 nl9 => ?_⟩
  have s20 := ((same_new n8 (.tup [V.str "InvalidNumber", .str dt.shown])).trans (same_new nl8 (.lst [V.ref p8]))).trans (same_new nl9 (.lst (List.replicate (2 : Int).toNat [V.ref p8]).flatten))
  have s19 := (same_new nl8 (.lst [V.ref p8])).trans (same_new nl9 (.lst (List.replicate (2 : Int).toNat [V.ref p8]).flatten))
  have sh2 := shaped22 (x := "InvalidNumber") (by decide +kernel) ft.ok
  have pr : ∀ {b : Addr}, upd (upd (upd (upd H17 l6 (.lst [V.ref p6, V.ref p7])) p8 (.tup [V.str "InvalidNumber", .str dt.shown])) l8 (.lst [V.ref p8])) l9 (.lst (List.replicate (2 : Int).toNat [V.ref p8]).flatten) b = some (.tup [.str "InvalidNumber", .str dt.shown]) →
      Dp K _ (.ref b) (.tuple [.str "InvalidNumber", .str dt.shown]) := fun e => .tup (SqT.of e) (.cons (.str _) (.cons (.str _) .nil))
  refine ⟨.list [.tuple [.str "InvalidNumber", .str dt.shown], .tuple [.str "InvalidNumber", .str dt.shown]], .list [.tuple [.str "InvalidNumber", .str dt.shown], .tuple [.str "InvalidNumber", .str dt.shown]],
    .lst (SqL.of (s20 _ _ hl18)) (.cons (pr (s20 _ _ hp6t)) (.cons (pr (s20 _ _ hp7t)) .nil)), .lst (SqL.of upd_same) (.cons (pr (s19 _ _ upd_same)) (.cons (pr (s19 _ _ upd_same)) .nil)), sh2, sh2, ?_⟩
  rw [eqv_self sh2]
  refine ⟨_, rfl, iteT ?_⟩
  refine ⟨_, rfl, a, dx, _, rfl, s20 _ _ at18, rfl, a, .int 5, rfl, .inl ⟨5, f, g, rfl, ⟨dx, s20 _ _ at18⟩, Nat.le_trans fl (by decide), Nat.le_trans gl (by decide), gpos, by decide, rfl, ?_⟩⟩
  have e5 : (List.range 5).map (sg f g) = [97, 98, 99, 99, 99] := by
    rw [show (List.range 5).map (sg f g) = (List.range 5).map (sg [97, 98] [99]) from List.map_congr_left fun n _ => sgn n]
    decide
  have e6 : ("abccc" : Str) = T [97, 98, 99, 99, 99] := by decide +kernel
  rw [e5, e6, decide_eq_true rfl]
  exact q _ (k18.trans (Kp.same s20)) (t18.ext s20)
end
end R5

namespace R5
open PySem PySem.Spec PyProof.Rows L2 Hx Rw LamX
def spLaw (K : PySem.W.Frag) (TP : Addr) : Sp := fun vs H Q _ => ∃ (a : Addr) (ns : List Int), vs = [.ref a] ∧ SqL K H a (ns.map V.int) ∧ ns.length ≤ 63 ∧ Tabs (tabsOf TP) H ∧ ∀ H', Q (.bl true) H'
theorem scLaw : FnScope ["_law_cells", "_law_turn"] ["_law_cells"] (defScope s_law) := ⟨rfl, rfl, rfl, by decide +kernel, rfl, by decide +kernel, by decide +kernel⟩
theorem ExtN.seq {K : PySem.W.Frag} {a : Addr} {H H' : Hp} {xs : List V} (e : ExtN H H') (h : SqL K H a xs) : SqL K H' a xs := by
  rcases h with (h | ⟨o, h⟩) | h
  · exact .inl (.inl (e _ _ h fun ps z => by cases z))
  · exact .inl (.inr ⟨o, e _ _ h fun ps z => by cases z⟩)
  · exact .inr h
section
variable {P : Program} {w : World} {K : PySem.W.Frag} {mg : Str → Option Value} {base : Heap} {TP : Addr}
theorem ok_law {f fD fR : Addr} {fd fdD fdR : FuncData} (F : Fun K "law" "law" s_law f fd) (Z : Bl mg)
    (GD : FnOk P w K mg base CX0 1 fD fdD ["_law_cells", "_law_turn"] (spDeck K)) (bD : Binds K fdD ["_law_cells", "_law_turn"] []) (kD : PySem.W.keepIn K (.ref fD) = true) (mD : mg "_law_deck" = some (.ref fD))
    (GR : GOk P w K mg base CX0 8 fR fdR ["_law_deck_here"] (spRight TP)) (bR : Binds K fdR ["_law_deck_here"] []) (kR : PySem.W.keepIn K (.ref fR) = true) (mR : mg "_law_right" = some (.ref fR)) :
    GOk P w K mg base CX0 9 f fd ["_law_cells"] (spLaw K TP) := by
  refine gok0 F scLaw (fun vs H Q E h => ?_) (fun cdv A outer s H vs Q E hr gd h => ?_)
  · obtain ⟨a, ns, rfl, _⟩ := h
    rfl
  obtain ⟨a, ns, rfl, hS, h63, tb, q⟩ := h
  have r1 := hr.mono (by decide : 1 ≤ 8)
  refine ⟨_, pss_one (ps_ret (pe_callB (cr_all rfl) (by rfl) Z.all PyProof.Rows.boot_all (pa_cons
      (pe_lc (te := tCall (spRight TP) [] E0 (tCons (tCall (spDeck K) [] E0 (tCons (tVar 0) (tCons (tVar 1) tNil))) tNil)) (own := [("_law_turn", 1)]) (g := gName 1) (tt := tYes) rfl scLaw.nd
        (pi_range1 rfl Z.range (pa_cons (pe_callB (call_max2 rfl) (by rfl) Z.max PyProof.Rows.boot_max (pa_cons pe_int (pa_cons
          (pe_callB (call_min2 rfl) (by rfl) Z.min PyProof.Rows.boot_min (pa_cons (pe_callB call_len_seq (by rfl) Z.len PySem.boot_len (pa_cons (pv 0) pa_nil)) (pa_cons pe_int pa_nil))) pa_nil))) pa_nil))
        (blkOk_by (N := ["_law_cells", "_law_turn"]) (sc := defScope s_law) (by decide +kernel))
        (fun _ _ _ _ _ => pg_name (i := 1) scLaw.nd rfl (Or.inl rfl)) (fun _ _ _ _ _ => pts_nil)
        (fun _ _ _ _ _ => pe_callG GR hr gd rfl mR kR bR .nil pass0 (pa_cons (pe_call GD r1 rfl mD kD bD .nil pass0 (pa_cons (pv 0) (pa_cons (pv 1) pa_nil))) pa_nil))) pa_nil))), ?_⟩
  have hl : (ns.map V.int).length = ns.length := List.length_map _
  refine ⟨_, rfl, a, _, rfl, .inl hS, _, _, rfl, _, _, rfl, ?_⟩
  generalize hnum : (if (if (10 : Int) < (((ns.map V.int).length : Nat) : Int) then (10 : Int) else (((ns.map V.int).length : Nat) : Int)) > 2 then (if (10 : Int) < (((ns.map V.int).length : Nat) : Int) then (10 : Int) else (((ns.map V.int).length : Nat) : Int)) else 2) = z
  have hz : 2 ≤ z ∧ z ≤ 10 := by
    rw [← hnum]
    split <;> split <;> omega
  refine ⟨z, rfl, by omega, by omega, fun D hD => ?_⟩
  refine lc_range (lo := 0) (n := z.toNat) (fun i H' => ExtN H H' ∧ Tabs (tabsOf TP) H' ∧ H' D = some (.lst ((List.replicate i true).map V.bl))) ⟨ExtN.of (same_new hD _), tb.ext (same_new hD _), upd_same⟩ ?_ ?_
  · rintro i H' hi ⟨s5, t5, h5⟩
    refine ⟨rfl, turn_yes ?_⟩
    refine ⟨_, rfl, _, rfl, a, ns, i, ?_, ExtN.seq s5 hS, h63, fun p H2 s6 np dk => ?_⟩
    · show [V.ref a, V.int (0 + (i : Int))] = _
      rw [Int.zero_add]
    refine ⟨p, rfl, dk, t5.ext s6, fun H3 b t3 => ?_⟩
    have npD : D ≠ p := ne_of_none h5 np
    have hD3 : H3 D = _ := b _ _ npD rfl (s6 _ _ h5)
    refine ⟨_, hD3, ?_, ?_, ?_, ?_⟩
    · rw [List.length_map, List.length_replicate]
      exact Nat.lt_of_lt_of_le (by omega : i < 1000) (small_line (Nat.le_refl _))
    · intro c o hc nt
      have nD : c ≠ D := ne_of_none hc hD
      rw [upd_ne nD]
      refine b c o (ne_of_none (s5 c o hc nt) np) ?_ (s6 c o (s5 c o hc nt))
      cases o with
      | tbl ps => exact (nt ps rfl).elim
      | _ => rfl
    · exact tabs_but t3 hD3 (But.refl.upd _)
    · rw [upd_same, List.replicate_succ', List.map_append]
      rfl
  · rintro H' ⟨s5, t5, h5⟩
    refine ⟨D, List.replicate z.toNat true, rfl, SqL.of h5, ?_⟩
    have e : (List.replicate z.toNat true).all id = true := by
      rw [List.all_eq_true]
      intro x hx
      exact (List.eq_of_mem_replicate hx)
    rw [e]
    exact q H'
end
end R5

namespace R5
open PySem PySem.Spec PyProof.Rows L2 Hx
/-! the head of the program by one run: facts by names -/
/-- a def of the text and where it stands -/
structure DA where
  adr : PySem.W.Frag → Addr
  name : Str
  qual : Str
  st : Stmt
abbrev FnV : Type := He.FnV
def faA (K : PySem.W.Frag) (a : Addr) : FnV := match K.lookup a with
  | some ⟨_, _, .func u, _⟩ => some (u.name, u.qualname, u.params, u.body, u.scope, u.globals, u.closure, u.defaults, u.builtins)
  | _ => none
def DA.val (d : DA) : FnV := some (d.name, d.qual, defArgs d.st, .stmts (defBody d.st), defScope d.st, mainGlobals, [], .none, builtinsNs)
def DA.ok (K : PySem.W.Frag) (d : DA) : Bool := PySem.W.keepIn K (.ref (d.adr K)) && (match K.lookup (d.adr K) with
  | some ⟨_, _, .func u, _⟩ => PySem.W.codeIn K u.code d.qual
  | _ => false)
theorem DA.fun {K : PySem.W.Frag} {d : DA} (e : faA K (d.adr K) = d.val) (c : d.ok K = true) : ∃ fd, Fun K d.name d.qual d.st (d.adr K) fd := by
  obtain ⟨kp, c2⟩ := Bool.and_eq_true_iff.mp c
  unfold faA at e
  cases q : K.lookup (d.adr K) with
  | none =>
    rw [q] at c2
    cases c2
  | some o =>
    obtain ⟨oc, od, dt, osl⟩ := o
    rw [q] at c2 e
    cases dt with
    | func fd =>
      obtain ⟨v1, v2, v3, v4, v5, v6, v7, v8, v9, v10, v11, v12, v13, v14, v15⟩ := fd
      have e2 : (some (v1, v2, v3, v4, v5, v6, v7, v8, v15) : FnV) = some (d.name, d.qual, defArgs d.st, .stmts (defBody d.st), defScope d.st, mainGlobals, [], .none, builtinsNs) := e
      simp only [Option.some.injEq, Prod.mk.injEq] at e2
      obtain ⟨w1, w2, w3, w4, w5, w6, w7, w8, w9⟩ := e2
      subst w1 w2 w3 w4 w5 w6 w7 w8 w9
      exact ⟨_, ⟨oc, od, v9, v10, v11, v12, v13, v14, osl, rfl, q, c2⟩, kp⟩
    | _ => cases c2
abbrev AlZ : Type := Bool × List FnV
def obsZ (ex : PySem.W.Frag → Bool) (ds : List DA) (K : PySem.W.Frag) : AlZ := (ex K && ds.all fun d => d.ok K, ds.map fun d => faA K (d.adr K))
def valZ (ds : List DA) : AlZ := (true, ds.map DA.val)
def SaysZ (ex : PySem.W.Frag → Bool) (ds : List DA) (K : PySem.W.Frag) : Prop := obsZ ex ds K = valZ ds
/-! the addresses that are looked at: the module's names, the classes' own names, getters, code -/
def codesG (g : Addr → Option Obj) (a : Addr) : List Addr := match g a with
  | some ⟨_, _, .func fd, _⟩ => He.refV fd.code
  | _ => []
def nssG (g : Addr → Option Obj) (a : Addr) : List Addr := match g a with
  | some ⟨_, _, .cls cd, _⟩ => [cd.ns]
  | _ => []
def valsG (g : Addr → Option Obj) (a : Addr) : List Addr := match g a with
  | some ⟨_, _, .dict es _, _⟩ => es.toList.flatMap fun e => He.refV e.val
  | _ => []
def fldsG (g : Addr → Option Obj) (a : Addr) : List Addr := match g a with
  | some ⟨_, _, .fields vs, _⟩ => vs.toList.flatMap He.refV
  | _ => []
def asZ3 (g : Addr → Option Obj) (A N M G : List Addr) : List Addr := mainGlobals :: (N ++ (A ++ (M ++ (G ++ (A.flatMap (codesG g) ++ (M.flatMap (codesG g) ++ G.flatMap (codesG g)))))))
def asZ2 (g : Addr → Option Obj) (A N M : List Addr) : List Addr := asZ3 g A N M (M.flatMap (fldsG g))
def asZ1 (g : Addr → Option Obj) (A N : List Addr) : List Addr := asZ2 g A N (N.flatMap (valsG g))
def asZ0 (g : Addr → Option Obj) (A : List Addr) : List Addr := asZ1 g A (A.flatMap (nssG g))
def asZ (g : Addr → Option Obj) : List Addr := asZ0 g (valsG g mainGlobals)
/-! the law's main def: its code object and the table of what it makes -/
def codeR (K : PySem.W.Frag) (a : Addr) : Addr := match K.lookup a with
  | some ⟨_, _, .func fd, _⟩ => (match fd.code with
    | .ref c => c
    | _ => 0)
  | _ => 0
theorem codeR_eq {K : PySem.W.Frag} {a : Addr} {oc : Value} {od : Option Addr} {osl : Array (Option Value)} {fd : FuncData} {c : Addr} (lk : K.lookup a = some ⟨oc, od, .func fd, osl⟩) (e : fd.code = .ref c) : codeR K a = c := by
  unfold codeR
  rw [lk]
  show (match fd.code with | .ref c => c | _ => 0) = c
  rw [e]
def cAt (x : Str) (K : PySem.W.Frag) : Addr := codeR K (He.ga K x)
def tAt (x : Str) (K : PySem.W.Frag) : Addr := He.tabOf K (cAt x K)
def tabZ (x : Str) (K : PySem.W.Frag) (g : Addr → Option Obj) : Bool := PySem.W.codeHdIn K (cAt x K) (tAt x K) && ((match g (tAt x K) with
  | some o => He.emptyTab o
  | none => false) && (K.lookup (tAt x K)).isNone)
structure TabF (x : Str) (K : PySem.W.Frag) (h : Heap) : Prop where
  code : PySem.W.codeHdIn K (cAt x K) (tAt x K) = true
  tab : h.get? (tAt x K) = some { cls := .none, data := .fields #[] }
  out : K.lookup (tAt x K) = none
theorem tabZ_ok {x : Str} {K : PySem.W.Frag} {h : Heap} (e : tabZ x K h.get? = true) : TabF x K h := by
  obtain ⟨e1, e2⟩ := Bool.and_eq_true_iff.mp e
  obtain ⟨e2, e3⟩ := Bool.and_eq_true_iff.mp e2
  refine ⟨e1, ?_, Option.isNone_iff_eq_none.mp e3⟩
  cases q : h.get? (tAt x K) with
  | none =>
    rw [q] at e2
    cases e2
  | some o =>
    rw [q] at e2
    rw [He.emptyTab_eq e2]
def obsTG (x : Str) (ex : PySem.W.Frag → Bool) (ds : List DA) (g : Addr → Option Obj) : AlZ × Bool := (obsZ ex ds (He.frG g (asZ g)), tabZ x (He.frG g (asZ g)) g)
def hookT (x : Str) (ex : PySem.W.Frag → Bool) (ds : List DA) : PySem.W.Hook where
  α := AlZ × Bool
  obs := fun s => obsTG x ex ds s.heap.get?
  val := fun _ => (valZ ds, true)
  says := fun _ h => ∃ K : PySem.W.Frag, K.In h ∧ SaysZ ex ds K ∧ TabF x K h
  of := fun _ _ e => ⟨_, He.frG_in, congrArg Prod.fst e, tabZ_ok (congrArg Prod.snd e)⟩
  keeps := fun _ _ _ ⟨K, isIn, says, t⟩ more => ⟨K, PySem.W.Frag.In.keeps isIn more, says, t.code, more _ _ t.tab, t.out⟩
theorem obsTG_eq {x : Str} {ex : PySem.W.Frag → Bool} {ds : List DA} {g : Addr → Option Obj} {s : Shared} (h : ∀ a, g a = s.heap.get? a) : obsTG x ex ds g = (hookT x ex ds).obs s := by
  have e : g = s.heap.get? := funext h
  rw [e] <;> rfl
theorem FunC.of {K : PySem.W.Frag} {x qual : Str} {st : Stmt} {f : Addr} {fd : FuncData} (F : Fun K x qual st f fd) : FunC K x qual st f fd (codeR K f) := by
  obtain ⟨oc, od, kV, doc, pm, an, cdv, ct, osl, rfl, lk, hcd⟩ := F.ex
  obtain ⟨c, rfl⟩ := He.codeIn_ref hcd
  rw [codeR_eq lk rfl]
  exact ⟨⟨oc, od, kV, doc, pm, an, ct, osl, rfl, lk, hcd⟩, F.kp⟩
theorem SaysZ.ex {ex : PySem.W.Frag → Bool} {ds : List DA} {K : PySem.W.Frag} (c : SaysZ ex ds K) : ex K = true := by
  have c1 : (ex K && ds.all fun d => d.ok K) = true := congrArg (fun z : AlZ => z.1) c
  exact (Bool.and_eq_true_iff.mp c1).1
theorem SaysZ.def_ {ex : PySem.W.Frag → Bool} {ds : List DA} {K : PySem.W.Frag} (c : SaysZ ex ds K) (i : Nat) {d : DA} (h : ds[i]? = some d := by rfl) : ∃ fd, Fun K d.name d.qual d.st (d.adr K) fd := by
  have c1 : (ex K && ds.all fun d => d.ok K) = true := congrArg (fun z : AlZ => z.1) c
  have c2 := (Bool.and_eq_true_iff.mp c1).2
  have e : ds.map (fun d => faA K (d.adr K)) = ds.map DA.val := congrArg (fun z : AlZ => z.2) c
  have e2 : (ds.map fun d => faA K (d.adr K))[i]? = (ds.map DA.val)[i]? := by rw [e]
  rw [List.getElem?_map, List.getElem?_map, h] at e2
  exact DA.fun (Option.some.inj e2) (List.all_eq_true.mp c2 d (List.mem_of_getElem? h))
/-! where things stand -/
def gA (x : Str) (K : PySem.W.Frag) : Addr := He.ga K x
def mA (x m : Str) (K : PySem.W.Frag) : Addr := He.ma K (He.ga K x) m
/-- the getter of a property -/
def pG (x m : Str) (K : PySem.W.Frag) : Addr := match PySem.W.recIn K (He.ma K (He.ga K x) m) "property" with
  | some (.ref g :: _) => g
  | _ => 0
def pB (x m : Str) (K : PySem.W.Frag) : Bool := He.eqO (PySem.W.findIn K (.ref (He.ga K x)) m) (some (some (.ref (He.ma K (He.ga K x) m)))) &&
  (He.eqO (PySem.W.specialIn K (.ref (He.ma K (He.ga K x) m)) "__get__") (some (some (.builtin "property.__get__"))) &&
  (decide (PySem.W.takesIn K (.ref (He.ma K (He.ga K x) m)) = some true) && (match PySem.W.recIn K (He.ma K (He.ga K x) m) "property" with
  | some (.ref _ :: _) => true
  | _ => false)))
theorem pB_ok {K : PySem.W.Frag} {x m : Str} (h : pB x m K = true) : PropOf K (He.ga K x) m (He.ma K (He.ga K x) m) (pG x m K) := by
  obtain ⟨h1, h⟩ := Bool.and_eq_true_iff.mp h
  obtain ⟨h2, h⟩ := Bool.and_eq_true_iff.mp h
  obtain ⟨h3, h4⟩ := Bool.and_eq_true_iff.mp h
  refine ⟨He.eqO_ok h1, He.eqO_ok h2, of_decide_eq_true h3, ?_⟩
  unfold pG
  revert h4
  split
  · rename_i g r e
    intro _
    exact ⟨r, e⟩
  · intro h
    cases h
end R5

namespace R5
open PySem PySem.Spec PyProof.Rows L2 Hx
/-! what the head shows, and the run that shows it -/
def errsX : List Str := ["InvalidNumber", "InvalidText"]
def exErr (K : PySem.W.Frag) (x : Str) : Bool :=
  He.eqO (PySem.W.nsIn K mainGlobals x) (some (some (.ref (He.ga K x)))) && (PySem.W.excInitIn K (He.ga K x) He.veBase "ValueError.__new__" && (PySem.W.excOver K (He.ga K x) He.veBase && (PySem.W.hasDictIn K (He.ga K x) &&
  (He.eqO (PySem.W.findIn K (.ref (He.ga K x)) "__setattr__") (some (some (.builtin "object.__setattr__"))) && (He.eqO (PySem.W.findIn K (.ref (He.ga K x)) "__getattribute__") (some (some (.builtin "BaseException.__getattribute__"))) &&
  (He.eqO (PySem.W.findIn K (.ref (He.ga K x)) "__getattr__") (some none) && (decide (PySem.W.subIn K (.ref (He.ga K x)) (.type "BaseException") = some true) && (PySem.W.keepIn K (.ref (He.ga K x)) &&
  (He.eqO (PySem.W.findIn K (.ref (He.ga K x)) "__class__") (some (some (.builtin "object.__class__"))) && (decide (PySem.W.mroIn K (He.ga K x) (.type "object") = some true) &&
  (He.eqO (PySem.W.findIn K (.ref (He.ga K x)) "__init__") (some (some (.ref (He.ma K (He.ga K x) "__init__")))) && (decide (PySem.W.typeIn K (.ref (He.ma K (He.ga K x) "__init__")) = some (.type "function")) &&
  (decide (PySem.W.takerIn K (He.ga K x) "given" = some none) && (He.eqO (PySem.W.findIn K (.ref (He.ga K x)) "given") (some none) && decide (PySem.W.typeIn K (.ref (He.ga K x)) = some (.type "type"))))))))))))))))
def exErr2 (K : PySem.W.Frag) (x : Str) : Bool := exErr K x && (xfB K (He.ga K x) && errsX.all fun y => decide (PySem.W.exmOne K (.ref (He.ga K x)) (.ref (He.ga K y)) = some (decide (x = y))))
def exOld (K : PySem.W.Frag) : Bool := He.eqO (PySem.W.specialIn K (.builtin "object.__class__") "__get__") (some (some (.builtin "getset_descriptor.__get__"))) && decide (PySem.W.takesIn K (.builtin "object.__class__") = some true)
def exRd (K : PySem.W.Frag) : Bool := (He.Fa.glo "Round").ok K && ((He.Fa.cls "Round").ok K && ((He.Fa.mkr "Round").ok K && ((He.Fa.noat "Round" "front").ok K && ((He.Fa.noat "Round" "again").ok K && ((He.Fa.meth "Round" "__getitem__").ok K && ((He.Fa.meth "Round" "first").ok K &&
  (He.eqO (PySem.W.findIn K (.ref (He.ga K "Round")) "__class__") (some (some (.builtin "object.__class__"))) && (decide (PySem.W.mroIn K (He.ga K "Round") (.type "object") = some true) &&
  (decide (PySem.W.kitOne K (.type "str") (.ref (He.ga K "Round")) = some false) && (decide (PySem.W.kitOne K (.type "tuple") (.ref (He.ga K "Round")) = some false) && (decide (PySem.W.kitOne K (.ref (He.ga K "Round")) (.ref (He.ga K "Round")) = some true) &&
  PySem.W.fnIn K (He.ma K (He.ga K "Round") "__getitem__"))))))))))))
def glosX : List Str := ["is_integer", "check_count", "check_lettered", "shortest_loop", "turned_back", "_law_deck", "_law_card", "_law_of", "_law_string", "_law_caught", "_law_thing", "_law_right", "law", "is_count"]
def freeX : List Str := ["isinstance", "len", "all", "str", "int", "bool", "range", "min", "max", "abs", "divmod", "repr", "list"]
def exX (K : PySem.W.Frag) : Bool := errsX.all (exErr2 K) && (exRd K && (exOld K && (glosX.all (fun x => (He.Fa.glo x).ok K) && (freeX.all (fun x => (He.Fa.free x).ok K) && (He.Fa.str "LETTERS" "abcdefghijklmnopqrstuvwxyz").ok K))))
def dsX : List DA := [
  ⟨gA "is_integer", "is_integer", "is_integer", s_is_integer⟩,
  ⟨gA "check_count", "check_count", "check_count", s_check_count⟩,
  ⟨gA "check_lettered", "check_lettered", "check_lettered", s_check_lettered⟩,
  ⟨gA "shortest_loop", "shortest_loop", "shortest_loop", s_shortest_loop⟩,
  ⟨gA "turned_back", "turned_back", "turned_back", s_turned_back⟩,
  ⟨gA "_law_deck", "_law_deck", "_law_deck", s_law_deck⟩,
  ⟨gA "_law_card", "_law_card", "_law_card", s_law_card⟩,
  ⟨gA "_law_of", "_law_of", "_law_of", s_law_of⟩,
  ⟨gA "_law_string", "_law_string", "_law_string", s_law_string⟩,
  ⟨gA "_law_caught", "_law_caught", "_law_caught", s_law_caught⟩,
  ⟨gA "_law_thing", "_law_thing", "_law_thing", s_law_thing⟩,
  ⟨gA "_law_right", "_law_right", "_law_right", s_law_right⟩,
  ⟨gA "law", "law", "law", s_law⟩,
  ⟨mA "InvalidNumber" "__init__", "__init__", "InvalidNumber.__init__", s_InvalidNumber_init⟩,
  ⟨mA "InvalidText" "__init__", "__init__", "InvalidText.__init__", s_InvalidText_init⟩,
  ⟨mA "Round" "__init__", "__init__", "Round.__init__", s_Round_init⟩,
  ⟨mA "Round" "__getitem__", "__getitem__", "Round.__getitem__", s_Round_getitem⟩,
  ⟨mA "Round" "first", "first", "Round.first", s_Round_first⟩,
  ⟨gA "is_count", "is_count", "is_count", s_is_count⟩]
abbrev RX : PySem.W.OpenRow := PySem.W.OpenLaw.row PySem.Challenge.rw_wovenplaces_k26_rounds_are_refused
abbrev hkX : PySem.W.Hook := hookT "_law_right" exX dsX
def obX (s : PySem.W.SharedT) : AlZ × Bool := obsTG "_law_right" exX dsX (HandSHeadRun.getT s)
theorem obX_eq (s : PySem.W.SharedT) : obX s = hkX.obs s.abs := obsTG_eq (HandSHeadRun.getT_eq s)
def namesX : List PySem.Str := ["WrongValue", "InvalidNumber", "InvalidText", "LETTERS", "Round", "is_integer", "check_count", "check_lettered", "shortest_loop", "turned_back", "_law_deck", "_law_card", "_law_of", "_law_string", "_law_caught", "_law_thing", "_law_right", "is_count"]
theorem runX (w : World) : HandSHeadRun.RunEq RX (PySem.W.view RX.prog [23]) hkX obX 20000 namesX w := by
  intro os
  kernel_rfl
end R5

namespace R5
open PySem PySem.Spec PyProof.Rows L2 Hx Rw LamX
/-! the promises out of what the head shows -/
section
variable {P : Program} {w : World} {K : PySem.W.Frag} {h : Heap} {mg : Str → Option Value} {base : Heap} {fa : Addr}
theorem exX_err (e : exX K = true) {x : Str} (hx : x ∈ errsX) : exErr2 K x = true := List.all_eq_true.mp (Bool.and_eq_true_iff.mp e).1 x hx
theorem exX_rd (e : exX K = true) : exRd K = true := (Bool.and_eq_true_iff.mp (Bool.and_eq_true_iff.mp e).2).1
theorem exX_old (e : exX K = true) : exOld K = true := (Bool.and_eq_true_iff.mp (Bool.and_eq_true_iff.mp (Bool.and_eq_true_iff.mp e).2).2).1
theorem exX_rest (e : exX K = true) : (glosX.all (fun x => (He.Fa.glo x).ok K) && (freeX.all (fun x => (He.Fa.free x).ok K) && (He.Fa.str "LETTERS" "abcdefghijklmnopqrstuvwxyz").ok K)) = true := (Bool.and_eq_true_iff.mp (Bool.and_eq_true_iff.mp (Bool.and_eq_true_iff.mp e).2).2).2
theorem exX_glo (e : exX K = true) {x : Str} (hx : x ∈ glosX) : (He.Fa.glo x).ok K = true := List.all_eq_true.mp (Bool.and_eq_true_iff.mp (exX_rest e)).1 x hx
theorem exX_free (e : exX K = true) {x : Str} (hx : x ∈ freeX) : (He.Fa.free x).ok K = true := List.all_eq_true.mp (Bool.and_eq_true_iff.mp (Bool.and_eq_true_iff.mp (exX_rest e)).2).1 x hx
theorem exX_letters (e : exX K = true) : (He.Fa.str "LETTERS" "abcdefghijklmnopqrstuvwxyz").ok K = true := (Bool.and_eq_true_iff.mp (Bool.and_eq_true_iff.mp (exX_rest e)).2).2
theorem m_glo (X : K.In h) (G : h.Ns mainGlobals mg) (e : exX K = true) (x : Str) (hx : x ∈ glosX := by decide +kernel) : mg x = some (.ref (He.ga K x)) := He.glo_ok X G (exX_glo e hx)
theorem m_free (X : K.In h) (G : h.Ns mainGlobals mg) (e : exX K = true) (x : Str) (hx : x ∈ freeX := by decide +kernel) : mg x = none := He.free_ok X G (exX_free e hx)
/-- a class of errors -/
structure ErrF (K : PySem.W.Frag) (x : Str) : Prop where
  g : (He.Fa.glo x).ok K = true
  ex : ExK K (He.ga K x) "ValueError" "ValueError.__new__" "ValueError.__init__" He.veBase
  hi : PySem.W.findIn K (.ref (He.ga K x)) "__init__" = some (some (.ref (He.ma K (He.ga K x) "__init__")))
  tI : PySem.W.typeIn K (.ref (He.ma K (He.ga K x) "__init__")) = some (.type "function")
  free : PySem.W.takerIn K (He.ga K x) "given" = some none
  no : PySem.W.findIn K (.ref (He.ga K x)) "given" = some none
  ty : PySem.W.typeIn K (.ref (He.ga K x)) = some (.type "type")
  xf : XfC K (He.ga K x)
  exm : ∀ y ∈ errsX, PySem.W.exmOne K (.ref (He.ga K x)) (.ref (He.ga K y)) = some (decide (x = y))
theorem errF (e : exX K = true) {x : Str} (hx : x ∈ errsX) : ErrF K x := by
  obtain ⟨h1, h3⟩ := Bool.and_eq_true_iff.mp (exX_err e hx)
  obtain ⟨h3, h4⟩ := Bool.and_eq_true_iff.mp h3
  have h2 := exX_old e
  simp only [exErr, exOld, He.eqO, Bool.and_eq_true, decide_eq_true_eq] at h1 h2
  obtain ⟨a1, a2, a3, a4, a5, a6, a7, a8, a9, a10, a11, a12, a13, a14, a15, a16⟩ := h1
  exact ⟨decide_eq_true a1, ⟨PySem.F.excBase_ValueError, PySem.F.store_ValueError, a2, a3, a4, a5, a6, a7, a8, a9, a10, h2.1, h2.2, a11⟩, a12, a13, a14, a15, a16, xfB_ok h3, fun y hy => of_decide_eq_true (List.all_eq_true.mp h4 y hy)⟩
theorem sc_InvalidNumber : FnScope ["self", "given"] ["self", "given"] (defScope s_InvalidNumber_init) := ⟨rfl, rfl, rfl, by decide +kernel, rfl, by decide +kernel, by decide +kernel⟩
theorem mk_InvalidNumber (X : K.In h) (G : h.Ns mainGlobals mg) (c : SaysZ exX dsX K) : MkC P w K mg base "InvalidNumber" (He.ga K "InvalidNumber") "given" := by
  obtain ⟨fd, F⟩ := c.def_ 13 (d := ⟨mA "InvalidNumber" "__init__", "__init__", "InvalidNumber.__init__", s_InvalidNumber_init⟩) rfl
  have E := errF c.ex (x := "InvalidNumber") (by decide +kernel)
  have b := F.binds (ps := ["self", "given"]) fun _ _ _ _ _ _ us hl => match us, hl with | [_, _], _ => rfl
  have ok := ok_in1 (P := P) (w := w) (mg := mg) (base := base) F sc_InvalidNumber rfl (Or.inl rfl) (Or.inl rfl) (by decide) (by decide) E.ex E.free
  obtain ⟨oc, od, kV, doc, pm, an, cdv, ct, osl, rfl, lk, hcd⟩ := F.ex
  exact ⟨⟨_, _, _, _, _, _, E.ex, E.hi, E.tI, ok, b, fun s self w1 => .of_eq rfl⟩, He.glo_ok X G E.g, E.no⟩
theorem sc_InvalidText : FnScope ["self", "given"] ["self", "given"] (defScope s_InvalidText_init) := ⟨rfl, rfl, rfl, by decide +kernel, rfl, by decide +kernel, by decide +kernel⟩
theorem mk_InvalidText (X : K.In h) (G : h.Ns mainGlobals mg) (c : SaysZ exX dsX K) : MkC P w K mg base "InvalidText" (He.ga K "InvalidText") "given" := by
  obtain ⟨fd, F⟩ := c.def_ 14 (d := ⟨mA "InvalidText" "__init__", "__init__", "InvalidText.__init__", s_InvalidText_init⟩) rfl
  have E := errF c.ex (x := "InvalidText") (by decide +kernel)
  have b := F.binds (ps := ["self", "given"]) fun _ _ _ _ _ _ us hl => match us, hl with | [_, _], _ => rfl
  have ok := ok_in1 (P := P) (w := w) (mg := mg) (base := base) F sc_InvalidText rfl (Or.inl rfl) (Or.inl rfl) (by decide) (by decide) E.ex E.free
  obtain ⟨oc, od, kV, doc, pm, an, cdv, ct, osl, rfl, lk, hcd⟩ := F.ex
  exact ⟨⟨_, _, _, _, _, _, E.ex, E.hi, E.tI, ok, b, fun s self w1 => .of_eq rfl⟩, He.glo_ok X G E.g, E.no⟩
theorem excX (X : K.In h) (G : h.Ns mainGlobals mg) (e : exX K = true) : ExcX K mg (errs (He.ga K "InvalidNumber") (He.ga K "InvalidText")) := by
  have EN := errF e (x := "InvalidNumber") (by decide +kernel)
  have ET := errF e (x := "InvalidText") (by decide +kernel)
  have all : ∀ (Pr : Str × Addr → Prop), Pr ("InvalidNumber", He.ga K "InvalidNumber") → Pr ("InvalidText", He.ga K "InvalidText") → ∀ p ∈ errs (He.ga K "InvalidNumber") (He.ga K "InvalidText"), Pr p := fun Pr a b p hp => by
    rcases List.mem_cons.mp hp with rfl | hp
    · exact a
    · rw [List.mem_singleton.mp hp]
      exact b
  exact ⟨all _ EN.xf ET.xf, all _ EN.no ET.no, all _ (He.glo_ok X G EN.g) (He.glo_ok X G ET.g),
    all _ (all _ (EN.exm _ (by decide +kernel)) (EN.exm _ (by decide +kernel))) (all _ (ET.exm _ (by decide +kernel)) (ET.exm _ (by decide +kernel))), all _ (show (("InvalidNumber" : Str) == ("__debug__" : Str)) = false by decide) (show (("InvalidText" : Str) == ("__debug__" : Str)) = false by decide)⟩
theorem lawX (X : K.In h) (G : h.Ns mainGlobals mg) (c : SaysZ exX dsX K) (hfa : mg ("law" : Str) = some (.ref fa)) :
    ∃ fd : FuncData, (∀ (s : Shared) (u : Value), BindsTo s fd ⟨[u], []⟩ [("_law_cells", u)]) ∧ ∀ base : Heap, K.In base → base.Ns mainGlobals mg → Mods base → TabB base mg (cAt "_law_right" K) (tAt "_law_right" K) →
      GOk P w K mg base CX0 9 fa fd ["_law_cells"] (spLaw K (tAt "_law_right" K)) := by
  have e := c.ex
  cases (hfa.symm.trans (m_glo X G e "law"))
  have Z : Bl mg := ⟨m_free X G e "isinstance", m_free X G e "len", m_free X G e "all", m_free X G e "str", m_free X G e "int", m_free X G e "bool", m_free X G e "range", m_free X G e "min", m_free X G e "max", m_free X G e "abs", m_free X G e "divmod", m_free X G e "repr", m_free X G e "list"⟩
  have hr := exX_rd e
  unfold exRd at hr
  obtain ⟨a1, hr⟩ := Bool.and_eq_true_iff.mp hr
  obtain ⟨a2, hr⟩ := Bool.and_eq_true_iff.mp hr
  obtain ⟨a3, hr⟩ := Bool.and_eq_true_iff.mp hr
  obtain ⟨a4, hr⟩ := Bool.and_eq_true_iff.mp hr
  obtain ⟨a5, hr⟩ := Bool.and_eq_true_iff.mp hr
  obtain ⟨a6, hr⟩ := Bool.and_eq_true_iff.mp hr
  obtain ⟨a7, hr⟩ := Bool.and_eq_true_iff.mp hr
  obtain ⟨a8, hr⟩ := Bool.and_eq_true_iff.mp hr
  obtain ⟨a9, hr⟩ := Bool.and_eq_true_iff.mp hr
  obtain ⟨a10, hr⟩ := Bool.and_eq_true_iff.mp hr
  obtain ⟨a11, hr⟩ := Bool.and_eq_true_iff.mp hr
  obtain ⟨a12, a13⟩ := Bool.and_eq_true_iff.mp hr
  have old := exX_old e
  simp only [exOld, He.eqO, Bool.and_eq_true, decide_eq_true_eq] at old
  have R : Rd K mg (He.ga K "Round") := ⟨He.cls_ok a2, He.noat_ok a4, He.noat_ok a5, He.glo_ok X G a1, of_decide_eq_true a10, of_decide_eq_true a11, of_decide_eq_true a12, He.eqO_ok a8, old.1, old.2, of_decide_eq_true a9⟩
  have mk := He.mkr_ok a3
  have mi := He.meth_ok a6
  have mf := He.meth_ok a7
  obtain ⟨d0, F0⟩ := c.def_ 0 (d := ⟨gA "is_integer", "is_integer", "is_integer", s_is_integer⟩) rfl
  have b0 := F0.binds (ps := ["value"]) fun _ _ _ _ _ _ us hl => match us, hl with | [_], _ => rfl
  obtain ⟨d1, F1⟩ := c.def_ 1 (d := ⟨gA "check_count", "check_count", "check_count", s_check_count⟩) rfl
  have b1 := F1.binds (ps := ["given"]) fun _ _ _ _ _ _ us hl => match us, hl with | [_], _ => rfl
  obtain ⟨d2, F2⟩ := c.def_ 2 (d := ⟨gA "check_lettered", "check_lettered", "check_lettered", s_check_lettered⟩) rfl
  have b2 := F2.binds (ps := ["given", "least"]) fun _ _ _ _ _ _ us hl => match us, hl with | [_, _], _ => rfl
  obtain ⟨d3, F3⟩ := c.def_ 3 (d := ⟨gA "shortest_loop", "shortest_loop", "shortest_loop", s_shortest_loop⟩) rfl
  have b3 := F3.binds (ps := ["loop"]) fun _ _ _ _ _ _ us hl => match us, hl with | [_], _ => rfl
  obtain ⟨d4, F4⟩ := c.def_ 4 (d := ⟨gA "turned_back", "turned_back", "turned_back", s_turned_back⟩) rfl
  have b4 := F4.binds (ps := ["head", "loop"]) fun _ _ _ _ _ _ us hl => match us, hl with | [_, _], _ => rfl
  obtain ⟨d5, F5⟩ := c.def_ 5 (d := ⟨gA "_law_deck", "_law_deck", "_law_deck", s_law_deck⟩) rfl
  have b5 := F5.binds (ps := ["_law_cells", "_law_turn"]) fun _ _ _ _ _ _ us hl => match us, hl with | [_, _], _ => rfl
  obtain ⟨d6, F6⟩ := c.def_ 6 (d := ⟨gA "_law_card", "_law_card", "_law_card", s_law_card⟩) rfl
  have b6 := F6.binds (ps := ["_law_deck_here", "_law_top"]) fun _ _ _ _ _ _ us hl => match us, hl with | [_, _], _ => rfl
  obtain ⟨d7, F7⟩ := c.def_ 7 (d := ⟨gA "_law_of", "_law_of", "_law_of", s_law_of⟩) rfl
  have b7 := F7.binds (ps := ["_law_deck_here", "_law_menu"]) fun _ _ _ _ _ _ us hl => match us, hl with | [_, _], _ => rfl
  obtain ⟨d8, F8⟩ := c.def_ 8 (d := ⟨gA "_law_string", "_law_string", "_law_string", s_law_string⟩) rfl
  have b8 := F8.binds (ps := ["_law_deck_here", "_law_letters", "_law_size"]) fun _ _ _ _ _ _ us hl => match us, hl with | [_, _, _], _ => rfl
  obtain ⟨d9, F9⟩ := c.def_ 9 (d := ⟨gA "_law_caught", "_law_caught", "_law_caught", s_law_caught⟩) rfl
  have b9 := F9.binds (ps := ["_law_act"]) fun _ _ _ _ _ _ us hl => match us, hl with | [_], _ => rfl
  obtain ⟨d10, F10⟩ := c.def_ 10 (d := ⟨gA "_law_thing", "_law_thing", "_law_thing", s_law_thing⟩) rfl
  have b10 := F10.binds (ps := ["_law_deck_here", "_law_size"]) fun _ _ _ _ _ _ us hl => match us, hl with | [_, _], _ => rfl
  obtain ⟨d11, F11⟩ := c.def_ 11 (d := ⟨gA "_law_right", "_law_right", "_law_right", s_law_right⟩) rfl
  have b11 := F11.binds (ps := ["_law_deck_here"]) fun _ _ _ _ _ _ us hl => match us, hl with | [_], _ => rfl
  obtain ⟨d12, F12⟩ := c.def_ 12 (d := ⟨gA "law", "law", "law", s_law⟩) rfl
  obtain ⟨d15, F15⟩ := c.def_ 15 (d := ⟨mA "Round" "__init__", "__init__", "Round.__init__", s_Round_init⟩) rfl
  have b15 := F15.binds (ps := ["self", "head", "loop"]) fun _ _ _ _ _ _ us hl => match us, hl with | [_, _, _], _ => rfl
  obtain ⟨d16, F16⟩ := c.def_ 16 (d := ⟨mA "Round" "__getitem__", "__getitem__", "Round.__getitem__", s_Round_getitem⟩) rfl
  have b16 := F16.binds (ps := ["self", "at"]) fun _ _ _ _ _ _ us hl => match us, hl with | [_, _], _ => rfl
  obtain ⟨d17, F17⟩ := c.def_ 17 (d := ⟨mA "Round" "first", "first", "Round.first", s_Round_first⟩) rfl
  have b17 := F17.binds (ps := ["self", "many"]) fun _ _ _ _ _ _ us hl => match us, hl with | [_, _], _ => rfl
  obtain ⟨d18, F18⟩ := c.def_ 18 (d := ⟨gA "is_count", "is_count", "is_count", s_is_count⟩) rfl
  have b18 := F18.binds (ps := ["value"]) fun _ _ _ _ _ _ us hl => match us, hl with | [_], _ => rfl
  have kbI : KBn K d15 ["self", "head", "loop"] 1 ["loop", "head"] gMk gMkV := by
    obtain ⟨oc, od, kV, doc, pm, an, cdv, ct, osl, rfl, lk, hcd⟩ := F15.ex
    refine ⟨fun s us ws _ h1 h2 => ?_, fun r rz => ?_⟩
    · match us, ws, h1, h2 with
      | [u], [x, y], _, _ => exact .of_eq rfl
    · cases r with
      | nil => exact .nil
      | cons a r2 =>
        cases r2 with
        | cons _ _ => exact .nil
        | nil =>
          cases rz with
          | nil => exact .nil
          | cons b rz2 =>
            cases rz2 with
            | nil => exact .nil
            | cons c rz3 =>
              cases rz3 with
              | nil => exact .cons a (.cons c (.cons b .nil))
              | cons _ _ => exact .nil
  have kbF : KBinds K d17 ["self", "many"] ["many"] gF gFV := by
    obtain ⟨oc, od, kV, doc, pm, an, cdv, ct, osl, rfl, lk, hcd⟩ := F17.ex
    refine ⟨fun s us ws _ h1 => ?_, fun r rz => ?_⟩
    · match us, ws, h1 with
      | [u], [x], _ => exact .of_eq rfl
      | [], [], h => cases h
      | [], _ :: _, h => cases h
      | _ :: _ :: _, _, h => cases h
      | [_], [], h => cases h
      | [_], _ :: _ :: _, h => cases h
    · cases r with
      | nil => exact .nil
      | cons a r2 =>
        cases r2 with
        | cons _ _ => exact .nil
        | nil =>
          cases rz with
          | nil => exact .nil
          | cons b rz2 =>
            cases rz2 with
            | nil => exact .cons a (.cons b .nil)
            | cons _ _ => exact .nil
  refine ⟨d12, ?_, fun base KB GB hm TB => ?_⟩
  · obtain ⟨oc, od, kV, doc, pm, an, cdv, ct, osl, rfl, lk, hcd⟩ := F12.ex
    exact fun s u => .of_eq rfl
  have MN := mk_InvalidNumber (P := P) (w := w) (base := base) X G c
  have MT := mk_InvalidText (P := P) (w := w) (base := base) X G c
  have tN := (errF e (x := "InvalidNumber") (by decide +kernel)).ty
  have tT := (errF e (x := "InvalidText") (by decide +kernel)).ty
  have G0 := ok_isintX (P := P) (w := w) (mg := mg) (base := base) F0 Z
  have G18 := ok_iscountX (P := P) (w := w) (mg := mg) (base := base) F18 G0 b0 F0.kp (m_glo X G e "is_integer")
  have G1 := ok_countX (P := P) (w := w) (mg := mg) (base := base) F1 MN tN G18 b18 F18.kp (m_glo X G e "is_count")
  have G2 := ok_chkX (P := P) (w := w) (mg := mg) (base := base) F2 Z (He.str_ok X G (exX_letters e)) MT tT
  have G3 := ok_short (P := P) (w := w) (mg := mg) (base := base) F3 Z
  have G4 := ok_back (P := P) (w := w) (mg := mg) (base := base) F4 Z
  have G5 := ok_deck (P := P) (w := w) (mg := mg) (base := base) F5 Z.len Z.int Z.abs
  have G6 := ok_card (P := P) (w := w) (mg := mg) (base := base) F6 Z.int Z.divmod
  have G7 := ok_ofS (P := P) (w := w) (mg := mg) (base := base) F7 G6 b6 F6.kp (m_glo X G e "_law_card") Z.len
  have G7L := ok_ofL (P := P) (w := w) (mg := mg) (base := base) F7 G6 b6 F6.kp (m_glo X G e "_law_card") Z.len
  have G8 := ok_string (P := P) (w := w) (mg := mg) (base := base) F8 Z G7 b7 F7.kp (m_glo X G e "_law_of")
  have G10 := ok_thing (P := P) (w := w) (mg := mg) (base := base) F10 Z G6 b6 F6.kp (m_glo X G e "_law_card") G7 G7L b7 F7.kp (m_glo X G e "_law_of") G8 b8 F8.kp (m_glo X G e "_law_string")
  have G15 := ok_initX (P := P) (w := w) (mg := mg) (base := base) F15 R Z G2 b2 F2.kp (m_glo X G e "check_lettered") G3 b3 F3.kp (m_glo X G e "shortest_loop") G4 b4 F4.kp (m_glo X G e "turned_back")
  have G16 := ok_itemX (P := P) (w := w) (mg := mg) (base := base) F16 G1 b1 F1.kp (m_glo X G e "check_count")
  have G17 := ok_firstX (P := P) (w := w) (mg := mg) (base := base) F17 R Z G1 b1 F1.kp (m_glo X G e "check_count")
  have D : Defs P w K mg base (He.ga K "Round") (He.ga K "InvalidNumber") (He.ga K "InvalidText") (cAt "_law_right" K) (tAt "_law_right" K) :=
    { rd := R, bl := Z
      thing := ⟨_, _, G10, b10, F10.kp, m_glo X G e "_law_thing"⟩
      ofL := ⟨_, _, G7L, b7, F7.kp, m_glo X G e "_law_of"⟩
      make := ⟨_, _, mk, G15, b15, kbI⟩
      first := ⟨_, _, mf, G17, b17, kbF⟩
      item := ⟨_, _, mi.at_, a13, mi.fn, G16, b16⟩
      caught := ⟨_, _, F9, b9, m_glo X G e "_law_caught"⟩
      exc := excX X G e
      tab := TB
      mods := hm }
  have G11 := ok_right D (FunC.of F11)
  exact ok_law (P := P) (w := w) (mg := mg) (base := base) F12 Z G5 b5 F5.kp (m_glo X G e "_law_deck") G11 b11 F11.kp (m_glo X G e "_law_right")
end
end R5

open PySem PySem.W PySem.Calls PyProof.Rows in
set_option maxHeartbeats 0 in
theorem PySem.Challenge.cw_wovenplaces_k26_rounds_are_refused_holds : PySem.Challenge.rw_wovenplaces_k26_rounds_are_refused.Holds := by
  w_on; o_law
  refine HandSHeadRun.head_any (r := OpenLaw.row PySem.Challenge.rw_wovenplaces_k26_rounds_are_refused) (q := view (OpenLaw.row PySem.Challenge.rw_wovenplaces_k26_rounds_are_refused).prog [23]) (H := R5.hkX) (ob := R5.obX) (M := 20000) (loose := R5.namesX)
    (d := HandSHeadRun.topDef (OpenLaw.row PySem.Challenge.rw_wovenplaces_k26_rounds_are_refused).prog 23) (kwd := []) R5.obX_eq
    (by kernel_rfl) (fun s => by kernel_rfl) R5.runX (by kernel_rfl) (by kernel_rfl) (by kernel_rfl) (by rfl) (by first | assumption | decide +kernel) (by decide +kernel) ⟨rfl, rfl, rfl, rfl, rfl, by decide +kernel⟩ ?hw ?hc
  case hw => w_witness2
  case hc =>
    refine Hx.walk_GT (l := PySem.Challenge.rw_wovenplaces_k26_rounds_are_refused) (n := 63) (k := 9) (x := "_law_cells") rfl (by decide) (by kernel_rfl) ⟨rfl, by decide, by decide⟩ (by kernel_rfl) ?F
    intro w mg fa h Y G hmg0
    obtain ⟨K, KX, c, t⟩ := Y
    have hmg : mg ("law" : PySem.Str) = some (.ref fa) := by
      have e : (HandSHeadRun.topDef (OpenLaw.row PySem.Challenge.rw_wovenplaces_k26_rounds_are_refused).prog 23).name = ("law" : PySem.Str) := by kernel_rfl
      rw [← e]
      exact hmg0
    obtain ⟨fd, hb, hF⟩ := R5.lawX (P := (PySem.Challenge.rw_wovenplaces_k26_rounds_are_refused).prog) (w := w) KX G c hmg
    have one : ∀ (Pr : Addr × Addr → Prop), Pr (R5.cAt "_law_right" K, R5.tAt "_law_right" K) → ∀ p ∈ [(R5.cAt "_law_right" K, R5.tAt "_law_right" K)], Pr p := fun Pr q p hp => by
      rw [List.mem_singleton.mp hp]
      exact q
    refine ⟨K, [(R5.cAt "_law_right" K, R5.tAt "_law_right" K)], fd, R5.spLaw K (R5.tAt "_law_right" K), KX, one _ t.tab, one _ t.out, one _ (codeHd_of_K KX t.code), hb, fun H a ns hl hT hS => ⟨a, ns, rfl, hS, hl, ?_, fun _ => rfl⟩,
      fun base KB GB hm hT => hF base KB GB hm (hT _ (List.mem_singleton.mpr rfl))⟩
    intro p hp
    rw [List.mem_singleton.mp hp]
    exact LamX.TabS.nil (hT _ (List.mem_singleton.mpr rfl))

import PyProof.Rows.All
import Wide.All
import OpenK.AllK
import Wide.FinOn
import PyProof.EqAt
import PyProof.EqKinds
import PyProof.TupleCall
import PyProof.ReprRoads
import HandS.Base
import HandS.Call
import HandS.List
import HandS.Comp
import HandS.Ends
import HandS.Dict
import HandS.Iter
import HandS.Words
import HandS.WordsList
import HandS.Property
import HandS.RaiseMore
import KE.KCallOwn
import OpenK.KOps
import OpenK.KMeth
import HandS.MakeKwOnly
import HandS.SlotsOwn
import HandS.FStr
import HandS.IsInst
import HandS.Text
import PyProof.StrBlock2
import HandS.Walk
import HandS.Conv
import KE.DataEq
import PySem.Challenge.RW_wovenplaces_k25_rows_that_come_round
set_option Elab.async false
set_option linter.all false
set_option maxRecDepth 100000
set_option maxHeartbeats 0
namespace Hx
open PySem PySem.Spec PyProof.Rows L2

/-! a def's promise where no guard (a repr that runs) stands below -/
structure GOk (P : Program) (w : World) (K : PySem.W.Frag) (mg : Str → Option Value) (base : Heap) (CX : CXT) (k : Nat)
    (f : Addr) (fd : FuncData) (ps : List Str) (sp : Sp) : Prop where
  long : ∀ vs H Q E, sp vs H Q E → vs.length = ps.length
  goes : ∀ (A : Around) (outer : List Env) (s : Shared) (H : Hp) (args : Args) (us : List Value) (vs : List V) (Q : VK) (E : XK),
    Room k A → A.guards = some [] → Env0 P w K mg base A outer s H → BindsTo s fd args (ps.zip us) → Vals vs us → sp vs H Q E →
    codeAny (model P w) A (.call (.ref f) args) (CR CX outer P w H s Q E) s

section
variable {P : Program} {w : World} {K : PySem.W.Frag} {mg : Str → Option Value} {base : Heap} {CX : CXT} {k j : Nat}
  {f : Addr} {fd : FuncData} {ps : List Str} {sp : Sp}
theorem GOk.of (F : FnOk P w K mg base CX k f fd ps sp) : GOk P w K mg base CX k f fd ps sp :=
  ⟨F.len, fun A outer s H args us vs Q E room _ => F.run A outer s H args us vs Q E room⟩
theorem GOk.more (F : GOk P w K mg base CX j f fd ps sp) (h : j ≤ k) : GOk P w K mg base CX k f fd ps sp :=
  ⟨F.long, fun A outer s H args us vs Q E room => F.goes A outer s H args us vs Q E (room.mono h)⟩

/-- a def of the text keeps its promise, by its body, no guard below -/
theorem gok {x qual : Str} {st : Stmt} {N : List Str} (F : Fun K x qual st f fd) (S : FnScope N ps (defScope st))
    (long : ∀ vs H Q E, sp vs H Q E → vs.length = ps.length)
    (body : ∀ (cdv : Value) (A : Around) (outer : List Env) (s : Shared) (H : Hp) (vs : List V) (Q : VK) (E : XK),
      Room k (A.deeper (envOfC qual (defScope st) s.heap.objs.size f cdv)) → A.guards = some [] → sp vs H Q E →
      ∃ t, PSs (cxOf CX P w K mg base N qual (defScope st) f cdv A outer s H E) (defBody st) t ∧
        t { nx := fun _ H' => Q .non H', rt := Q } (start N vs) H) :
    GOk P w K mg base CX (k + 1) f fd ps sp := by
  obtain ⟨oc, od, kV, doc, pm, an, cdv, ct, osl, efd, hlook, hcode⟩ := F.ex
  subst efd
  constructor
  · exact long
  · intro A outer s H args us vs Q E room gd e0 hbind rel hsp
    have inK : K.In s.heap := e0.mod.kin.keeps fun b o h => (e0.bs b o h).1
    have noLim : s.heap.NoLimit := e0.mod.nolimit.keeps fun b o h => (e0.bs b o h).1
    refine codeAny_call_function room.depth (inK _ _ hlook) rfl S.co S.gen rfl (PySem.W.codeRec_of inK hcode) (hbind _ _ _ _ ?_)
    refine wpAny_newFunctionEnv_cells S.kind ?kinds fun env henv s1 inside => ?_
    case kinds =>
      rintro ⟨nm, val⟩ hm
      have hp := (List.of_mem_zip hm).1
      cases S.par nm hp with
      | inl hl => exact .inl hl
      | inr hc => exact .inr ⟨hc, PySem.W.cellsFrom_some _ _ _ (.inl hc)⟩
    subst henv
    refine ⟨noLim.keeps inside.toInCall.keep, codeAny_func ?_⟩
    obtain ⟨t, ht, hq⟩ := body cdv A outer s H vs Q E (room.deeper _) gd hsp
    have I0 := inv_start (CX := CX) (E := E) S room.hd e0 (long _ _ _ _ hsp) rel inside
    refine wpAny_mono (ht.run [] s1 (start N vs) H _ I0 hq) ?_ (fun _ _ z => z)
    intro fl s' hfl
    cases fl with
    | ret u =>
      obtain ⟨v, _, H', J, rv, q⟩ := hfl
      exact ⟨v, H', J.os, J.bare, J.base, J.hok, rv, q⟩
    | next =>
      obtain ⟨_, H', J, q⟩ := hfl
      exact ⟨V.non, H', J.os, J.bare, J.base, J.hok, rfl, q⟩
    | brk => exact hfl.elim fun _ z => z.elim fun _ z => z.2.elim
    | cont => exact hfl.elim fun _ z => z.elim fun _ z => z.2.elim
end

section
variable {X : Cx} {CX : CXT} {k : Nat} {f : Addr} {fd : FuncData} {ps : List Str} {sp : Sp} {dvs : List V} {ds : List Value} {E : XK}
theorem run_g {pins : List (Addr × Obj)} {σ : L2.St} {H : Hp} {s : Shared} {Q : VK} {us : List Value} {vs : List V}
    (F : GOk X.prog X.w X.K X.mg X.base CX k f fd ps sp) (room : Room k X.A) (gd : X.A.guards = some []) (hb : Binds X.K fd ps ds)
    (hd : Vals dvs ds) (pass : Passes CX X E) (I : Inv X pins σ H s) (r : Vals vs us) (h : sp (vs ++ dvs) H Q E) :
    wpAny (model X.prog X.w) X.A (call (.ref f) us) (EP X pins σ Q) X.xe s := by
  have rr := r.append hd
  have hlen : (us ++ ds).length = ps.length := rr.length.symm.trans (F.long _ _ _ _ h)
  have go := F.goes X.A X.stack s H ⟨us, []⟩ (us ++ ds) (vs ++ dvs) Q E room gd I.env0 (hb s us I.kIn hlen) rr h
  refine wpAny_call (codeAny_mono go ?_)
  intro r s' hr
  cases r with
  | error e => exact pass pins σ H s e s' I hr
  | ok fl =>
    cases fl with
    | ret u => exact I.after hr
    | next => exact hr.elim
    | brk => exact hr.elim
    | cont => exact hr.elim

theorem pe_callG {x : Str} {p pos : Pos} {e : Expr} {es : List Expr} {t : TA} (F : GOk X.prog X.w X.K X.mg X.base CX k f fd ps sp)
    (room : Room k X.A) (gd : X.A.guards = some []) (hg : Gl X x) (hm : X.mg x = some (.ref f)) (hk : PySem.W.keepIn X.K (.ref f) = true)
    (hb : Binds X.K fd ps ds) (hd : Vals dvs ds) (pass : Passes CX X E) (ha : PA X (e :: es) t)
    (hdb : (x == ("__debug__" : Str)) = false := by decide)
    (he : starEach (e :: es) X.env = (false, eval e X.env) :: starEach es X.env := by rfl)
    (hpl : (backTo pos (starEach es X.env)).any (·.1) = false := by rfl) :
    PE X (.Call (.Name x p) (e :: es) [] pos) (tCall sp dvs E t) := by
  constructor
  intro pins s σ H Q I h
  refine wpAny_Call_Name_kw (ld_glob I hg hm ?_ hdb)
  refine PySem.W.callWith_K (h₀ := X.base) I.ok.mod.kin hk ?_ he hpl
  refine thn (ha.run pos pins s σ H _ I h) ?_
  rintro us s1 ⟨vs, H1, J, r, q⟩
  exact ⟨J.kIn, run_g F room gd hb hd pass J r q⟩
end
end Hx
namespace Hx
open PySem PySem.Spec PyProof.Rows L2
section
variable {P : Program} {w : World} {K : PySem.W.Frag} {mg : Str → Option Value} {base : Heap} {k : Nat}
  {f : Addr} {fd : FuncData} {ps : List Str} {sp : Sp}
/-- the same where no exception leaves the def -/
theorem gok0 {x qual : Str} {st : Stmt} {N : List Str} (F : Fun K x qual st f fd) (S : FnScope N ps (defScope st))
    (long : ∀ vs H Q E, sp vs H Q E → vs.length = ps.length)
    (body : ∀ (cdv : Value) (A : Around) (outer : List Env) (s : Shared) (H : Hp) (vs : List V) (Q : VK) (E : XK),
      Room k (A.deeper (envOfC qual (defScope st) s.heap.objs.size f cdv)) → A.guards = some [] → sp vs H Q E →
      ∃ t, PSs (cxOf CX0 P w K mg base N qual (defScope st) f cdv A outer s H E).nox (defBody st) t ∧
        t { nx := fun _ H' => Q .non H', rt := Q } (start N vs) H) :
    GOk P w K mg base CX0 (k + 1) f fd ps sp :=
  gok F S long fun cdv A outer s H vs Q E room gd hsp => by
    obtain ⟨t, h, q⟩ := body cdv A outer s H vs Q E room gd hsp
    exact ⟨t, h.nox, q⟩
end
/-! joining ways: what is known of a value, for any wish -/
theorem asg_join {te : TE} {g : TG} {D : Ends} {σ : L2.St} {H : Hp} (R : V → Hp → Prop)
    (h : ∀ Q : VK, (∀ v H', R v H' → Q v H') → te σ H Q) (hq : ∀ v H', R v H' → g v σ H' D.nx) : tAsg te g D σ H := h _ hq
theorem te_join {te : TE} {Q : VK} {σ : L2.St} {H : Hp} (R : V → Hp → Prop)
    (h : ∀ Q : VK, (∀ v H', R v H' → Q v H') → te σ H Q) (hq : ∀ v H', R v H' → Q v H') : te σ H Q := h _ hq
theorem seq_set {te : TE} {i : Nat} {u : TS} {D : Ends} {σ : L2.St} {H : Hp} (h : te σ H fun x H1 => u D (σ.set i (some x)) H1) : tSeq (tAsg te (gName i)) u D σ H := h
theorem seq_if_op {r : R2} {ta tb : TE} {t u w : TS} {D : Ends} {σ : L2.St} {H : Hp}
    (h : ta σ H fun x H1 => tb σ H1 fun y H2 => r x y H2 fun z H3 => ∃ k, z = .bl k ∧ if k = true then t { D with nx := w D } σ H3 else u { D with nx := w D } σ H3) :
    tSeq (tIfS (tTest (tOp r ta tb)) t u) w D σ H := h
theorem ret_op {r : R2} {ta tb : TE} {D : Ends} {σ : L2.St} {H : Hp} (h : ta σ H fun x H1 => tb σ H1 fun y H2 => r x y H2 D.rt) : tRet (tOp r ta tb) D σ H := h
theorem next_go {w : Ends → L2.St → Hp → Prop} {D : Ends} {σ : L2.St} {H : Hp} (h : w D σ H) : tNext { D with nx := w D } σ H := h
theorem ret_go {te : TE} {D : Ends} {σ : L2.St} {H : Hp} (h : te σ H D.rt) : tRet te D σ H := h
theorem ret_join {te : TE} {D : Ends} {σ : L2.St} {H : Hp} (R : V → Hp → Prop)
    (h : ∀ Q : VK, (∀ v H', R v H' → Q v H') → te σ H Q) (hq : ∀ v H', R v H' → D.rt v H') : tRet te D σ H := h _ hq
theorem cons_join {te : TE} {tr : TA} {Q : List V → Hp → Prop} {σ : L2.St} {H : Hp} (R : V → Hp → Prop)
    (h : ∀ Q : VK, (∀ v H', R v H' → Q v H') → te σ H Q) (hq : ∀ v H', R v H' → tr σ H' fun xs H2 => Q (v :: xs) H2) : tCons te tr σ H Q := h _ hq
theorem ret_lst_join {te : TE} {tr : TA} {D : Ends} {σ : L2.St} {H : Hp} (R : V → Hp → Prop)
    (h : ∀ Q : VK, (∀ v H', R v H' → Q v H') → te σ H Q)
    (hq : ∀ v H', R v H' → tr σ H' fun xs H2 => (v :: xs).length ≤ sizeLine ∧ ∀ p, H2 p = none → D.rt (.ref p) (upd H2 p (.lst (v :: xs)))) :
    tRet (tLst (tCons te tr)) D σ H := h _ hq
theorem same_new {H : Hp} {p : Addr} (h : H p = none) (o : HO) : Same H (upd H p o) := fun b u q => by
  rw [upd_ne (ne_of_none q h)]
  exact q
theorem upd_other {H : Hp} {p q : Addr} {o u : HO} (h : H q = some u) (n : H p = none) : upd H p o q = some u := by
  rw [upd_ne (ne_of_none h n)]
  exact h
/-- all stands but what is at d -/
def But (d : Addr) (H H' : Hp) : Prop := ∀ b o, b ≠ d → H b = some o → H' b = some o
theorem But.of {d : Addr} {H H' : Hp} (s : Same H H') : But d H H' := fun b o _ h => s b o h
theorem But.refl {d : Addr} {H : Hp} : But d H H := fun _ _ _ h => h
theorem But.trans {d : Addr} {H H1 H2 : Hp} (a : But d H H1) (b : But d H1 H2) : But d H H2 := fun c o n h => b c o n (a c o n h)
theorem But.upd {d : Addr} {H H' : Hp} (a : But d H H') (o : HO) : But d H (L2.upd H' d o) := fun c u n h => by
  rw [upd_ne n]
  exact a c u n h
theorem But.new {d p : Addr} {H H' : Hp} (a : But d H H') (hp : H' p = none) (o : HO) : But d H (L2.upd H' p o) := fun c u n h => by
  have z := a c u n h
  rw [upd_ne (ne_of_none z hp)]
  exact z
theorem But.seq {K : PySem.W.Frag} {d a : Addr} {H H' : Hp} {xs : List V} (e : But d H H') (n : a ≠ d) (h : SqL K H a xs) : SqL K H' a xs := by
  rcases h with (h | ⟨o, h⟩) | h
  · exact .inl (.inl (e _ _ n h))
  · exact .inl (.inr ⟨o, e _ _ n h⟩)
  · exact .inr h
theorem atI_in {α : Type} {xs : List α} {r : Int} (r0 : 0 ≤ r) (r1 : r < (xs.length : Int)) : ∃ v, v ∈ xs ∧ atI xs r = some v := by
  have hr : r.toNat < xs.length := by omega
  have er : ((r.toNat : Nat) : Int) = r := by omega
  have z := atI_nat (List.getElem?_eq_getElem hr)
  rw [er] at z
  exact ⟨_, List.getElem_mem hr, z⟩
theorem small_line {n : Nat} (h : n ≤ 1000) : n ≤ sizeLine := Nat.le_trans h (by decide)
end Hx

namespace Hx
open PySem PySem.Spec PyProof.Rows L2
/-- the data of a key -/
def keyD : Key → PyData
  | .inl i => .int i
  | .inr x => .str x
mutual
/-- at v stands the data d, in objects that are tracked -/
inductive Dq (H : Hp) : V → PyData → Prop
  | non : Dq H .non .none
  | bl (b : Bool) : Dq H (.bl b) (.bool b)
  | int (i : Int) : Dq H (.int i) (.int i)
  | str (x : Str) : Dq H (.str x) (.str x)
  | lst {a : Addr} {xs : List V} {ds : List PyData} : H a = some (.lst xs) → DqAll H xs ds → Dq H (.ref a) (.list ds)
  | tup {a : Addr} {xs : List V} {ds : List PyData} : H a = some (.tup xs) → DqAll H xs ds → Dq H (.ref a) (.tuple ds)
  | dct {a : Addr} {ks : List (Key × V)} {es : List (PyData × PyData)} : H a = some (.dK ks) → DqKv H ks es → Dq H (.ref a) (.dict es)
inductive DqAll (H : Hp) : List V → List PyData → Prop
  | nil : DqAll H [] []
  | cons {v : V} {vs : List V} {d : PyData} {ds : List PyData} : Dq H v d → DqAll H vs ds → DqAll H (v :: vs) (d :: ds)
inductive DqKv (H : Hp) : List (Key × V) → List (PyData × PyData) → Prop
  | nil : DqKv H [] []
  | cons {k : Key} {v : V} {d : PyData} {r : List (Key × V)} {es : List (PyData × PyData)} : Dq H v d → DqKv H r es → DqKv H ((k, v) :: r) ((keyD k, d) :: es)
end
mutual
theorem Dq.same {H H' : Hp} (s : Same H H') : ∀ (d : PyData) (v : V), Dq H v d → Dq H' v d
  | .none, _, h => by cases h; exact .non
  | .bool b, _, h => by cases h; exact .bl b
  | .int i, _, h => by cases h; exact .int i
  | .str x, _, h => by cases h; exact .str x
  | .list ds, _, h => by cases h with | lst e r => exact .lst (s _ _ e) (DqAll.same s ds _ r)
  | .tuple ds, _, h => by cases h with | tup e r => exact .tup (s _ _ e) (DqAll.same s ds _ r)
  | .dict es, _, h => by cases h with | dct e r => exact .dct (s _ _ e) (DqKv.same s es _ r)
theorem DqAll.same {H H' : Hp} (s : Same H H') : ∀ (ds : List PyData) (vs : List V), DqAll H vs ds → DqAll H' vs ds
  | [], _, h => by cases h; exact .nil
  | d :: ds, _, h => by cases h with | cons e r => exact .cons (Dq.same s d _ e) (DqAll.same s ds _ r)
theorem DqKv.same {H H' : Hp} (s : Same H H') : ∀ (es : List (PyData × PyData)) (ks : List (Key × V)), DqKv H ks es → DqKv H' ks es
  | [], _, h => by cases h; exact .nil
  | (_, d) :: es, _, h => by cases h with | cons e r => exact .cons (Dq.same s d _ e) (DqKv.same s es _ r)
end
section
variable {X : Cx} {pins : List (Addr × Obj)} {σ : L2.St} {H : Hp} {s : Shared}
theorem reads_key {w : World} {P : Program} {h : Heap} {k : Key} {u : Value} (e : (mixKind P w).is k u = true) : Reads h u (keyD k) [] := by
  rw [mixKind_is] at e
  rcases keyIs_shape e with ⟨i, t, rfl, rfl⟩ | ⟨x, t, rfl, rfl⟩
  · exact .int i t
  · exact .str x t
mutual
theorem Dq.reads (I : Inv X pins σ H s) : ∀ (d : PyData) (v : V) (u : Value), Dq H v d → RelV v u → ∃ as, Reads s.heap u d as ∧ ∀ b ∈ as, ∃ o, H b = some o
  | .none, _, _, h, r => by
    cases h; cases r
    exact ⟨_, Reads.none, by simp⟩
  | .bool b, _, _, h, r => by
    cases h; cases r
    exact ⟨_, Reads.bool b, by simp⟩
  | .int i, _, _, h, r => by
    cases h; obtain ⟨t, rfl⟩ := r
    exact ⟨_, Reads.int i t, by simp⟩
  | .str x, _, _, h, r => by
    cases h; obtain ⟨t, rfl⟩ := r
    exact ⟨_, Reads.str x t, by simp⟩
  | .list ds, _, _, h, r => by
    cases h with
    | @lst a xs _ e ra =>
      cases r
      obtain ⟨_, its, n, rv, hg⟩ := (show ObjOk X.prog X.w H s.heap a (.lst xs) from I.hok a _ e)
      obtain ⟨as, hr, ha⟩ := DqAll.reads I ds _ its ra rv
      refine ⟨_, Reads.list hg rfl rfl hr, fun b hb => ?_⟩
      rcases List.mem_cons.mp hb with rfl | hb
      · exact ⟨_, e⟩
      · exact ha b hb
  | .tuple ds, _, _, h, r => by
    cases h with
    | @tup a xs _ e ra =>
      cases r
      obtain ⟨_, its, rv, o, hg, hc, n, hd⟩ := (show ObjOk X.prog X.w H s.heap a (.tup xs) from I.hok a _ e)
      obtain ⟨as, hr, ha⟩ := DqAll.reads I ds _ its ra rv
      exact ⟨_, Reads.tuple hg hc hd hr, ha⟩
  | .dict es, _, _, h, r => by
    cases h with
    | @dct a ks _ e ra =>
      cases r
      obtain ⟨_, _, vs, rk, o, des, ep, hg, hx, hd, _, hp, _⟩ := (show ObjOk X.prog X.w H s.heap a (.dK ks) from I.hok a _ e)
      obtain ⟨as, bs, h1, h2, h3⟩ := DqKv.reads I es ks vs _ ra rk hp
      refine ⟨_, Reads.dict hg hx.1 hd h1 h2, fun b hb => ?_⟩
      rcases List.mem_append.mp hb with hb | hb
      · rcases List.mem_cons.mp hb with rfl | hb
        · exact ⟨_, e⟩
        · exact h3 b (List.mem_append_left _ hb)
      · exact h3 b (List.mem_append_right _ hb)
theorem DqAll.reads (I : Inv X pins σ H s) : ∀ (ds : List PyData) (vs : List V) (us : List Value), DqAll H vs ds → Vals vs us → ∃ as, ReadsAll s.heap us ds as ∧ ∀ b ∈ as, ∃ o, H b = some o
  | [], _, _, h, r => by
    cases h; cases r
    exact ⟨_, ReadsAll.nil, by simp⟩
  | d :: ds, _, _, h, r => by
    cases h with
    | cons h1 h2 =>
      cases r with
      | cons r1 r2 =>
        obtain ⟨as, q1, m1⟩ := Dq.reads I d _ _ h1 r1
        obtain ⟨bs, q2, m2⟩ := DqAll.reads I ds _ _ h2 r2
        exact ⟨_, ReadsAll.cons q1 q2, fun b hb => (List.mem_append.mp hb).elim (m1 b) (m2 b)⟩
theorem DqKv.reads (I : Inv X pins σ H s) : ∀ (es : List (PyData × PyData)) (ks : List (Key × V)) (vs : List (Key × Value)) (des : List DictEntry), DqKv H ks es → KV ks vs → Pairs (mixKind X.prog X.w) des vs →
    ∃ as bs, ReadsAll s.heap (des.map (·.key)) (es.map (·.1)) as ∧ ReadsAll s.heap (des.map (·.val)) (es.map (·.2)) bs ∧ ∀ b ∈ as ++ bs, ∃ o, H b = some o
  | [], _, _, _, h, r, p => by
    cases h; cases r; cases p
    exact ⟨_, _, ReadsAll.nil, ReadsAll.nil, by simp⟩
  | (_, d) :: es, _, _, _, h, r, p => by
    cases h with
    | cons h1 h2 =>
      cases r with
      | cons r1 r2 =>
        cases p with
        | cons p1 p2 p3 =>
          obtain ⟨as, bs, q1, q2, m⟩ := DqKv.reads I es _ _ _ h2 r2 p3
          obtain ⟨cs, q3, m3⟩ := Dq.reads I d _ _ h1 r1.2
          rw [← r1.1] at p1
          refine ⟨_, _, ReadsAll.cons (reads_key p1) q1, ReadsAll.cons (by dsimp only; rw [p2]; exact q3) q2, fun b hb => ?_⟩
          rcases List.mem_append.mp hb with hb | hb
          · exact m b (List.mem_append_left _ hb)
          · rcases List.mem_append.mp hb with hb | hb
            · exact m3 b hb
            · exact m b (List.mem_append_right _ hb)
end
end
/-- the base has sys.modules -/
def Mods (base : Heap) : Prop := ∃ o, base.get? sysModules = some o
/-- a datum that a repr may be asked of -/
def Small (d : PyData) : Prop := d.showable = true ∧ d.depth ≤ 20 ∧ d.shown.length ≤ 100000
def rRepr : List V → Hp → VK → Prop := fun xs H Q => ∃ v d, xs = [v] ∧ Dq H v d ∧ Small d ∧ Q (.str d.shown) H
section
variable {X : Cx}
theorem call_reprD (gd : X.A.guards = some []) (hu : X.A.units + 64 < cLine) (hm : Mods X.base) : CallR X (.builtin "repr") rRepr := by
  intro pins s σ H xs us Q I r h
  obtain ⟨v, d, rfl, hd, ⟨h1, h2, h3⟩, q⟩ := h
  obtain ⟨u, rfl, ru⟩ := vals1 r
  have hz : d.shown.length ≤ sizeLine := Nat.le_trans h3 (by decide)
  obtain ⟨as, hr, ha⟩ := Dq.reads I d v u hd ru
  have hno : sysModules ∉ as := fun z => by
    obtain ⟨o, e⟩ := ha _ z
    obtain ⟨b, eb⟩ := hm
    have n := (I.bs _ _ eb).2
    rw [n] at e
    cases e
  have fin : ∀ (h' : Heap) (tu : Tok) (tk : Nat), (∀ b o, s.heap.get? b = some o → h'.get? b = some o) → EP X pins σ Q (.str d.shown tu) { s with heap := h', toks := tk } :=
    fun h' tu tk k => ⟨.str d.shown, H, I.kept (t' := tk) k, ⟨_, rfl⟩, q⟩
  cases hd with
  | non => cases ru; exact P.repr_of_none (fin _ _ _ fun _ _ z => z)
  | bl b => cases ru; exact P.repr_of_bool (fin _ _ _ fun _ _ z => z)
  | int i =>
    obtain ⟨t, rfl⟩ := ru
    exact P.repr_of_int (of_decide_eq_true h1) (fin _ _ _ fun _ _ z => z)
  | str x =>
    obtain ⟨t, rfl⟩ := ru
    exact P.repr_of_str (fin _ _ _ fun _ _ z => z) hz
  | lst _ _ => cases ru; exact repr_of_reads' hr h1 (fun _ => hno) gd (by omega) (fun _ _ z => z) fin hz
  | tup _ _ => cases ru; exact repr_of_reads' hr h1 (fun _ => hno) gd (by omega) (fun _ _ z => z) fin hz
  | dct _ _ => cases ru; exact repr_of_reads' hr h1 (fun _ => hno) gd (by omega) (fun _ _ z => z) fin hz
end
end Hx

namespace Hx
open PySem PySem.Spec PyProof.Rows L2
/-- a number of the module -/
theorem pe_gint {X : Cx} {x : Str} {i : Int} {t : Tok} {pos : Pos} (hg : Gl X x) (hm : X.mg x = some (.int i t))
    (hd : (x == ("__debug__" : Str)) = false := by decide) : PE X (.Name x pos) (tC (.int i)) := pe_glob hg hm ⟨_, rfl⟩ hd
/-- a class or def of the module; a built-in class, as a value -/
theorem pe_gref {X : Cx} {x : Str} {a : Addr} {pos : Pos} (hg : Gl X x) (hm : X.mg x = some (.ref a))
    (hd : (x == ("__debug__" : Str)) = false := by decide) : PE X (.Name x pos) (tC (.ref a)) := pe_glob hg hm (show RelV (.ref a) (.ref a) from rfl) hd
theorem pe_bty {X : Cx} {x : Str} {T : String} {pos : Pos} (hg : Gl X x) (hm : X.mg x = none) (hv : bootBuiltins x = some (.type T))
    (hn : x ≠ "__name__" := by decide) (hd : (x == ("__debug__" : Str)) = false := by decide) : PE X (.Name x pos) (tC (.ty T)) :=
  pe_bltn hg hm hv (show RelV (.ty T) (.type T) from rfl) hn hd
/-- a comprehension without an if: the turn is taken -/
theorem turn_yes {σ : L2.St} {H : Hp} {R S : Hp → Prop} (h : R H) : tYes σ H fun b H3 => if b = true then R H3 else S H3 := by
  show (if true = true then R H else S H)
  rw [if_pos rfl]
  exact h
/-- the script as an object that is only read -/
def scriptO (vs : List Value) (ns : List Int) : HO := .frz { cls := .type "list", data := .seq vs.toArray } (.lst (ns.map V.int))
section
variable {P : Program} {w : World} {K : PySem.W.Frag} {mg mb : Str → Option Value} {k : Nat} {fa a : Addr} {fd : FuncData} {x : Str} {sp : Sp}
  {s1 : Shared} {vs : List Value} {ns : List Int}
theorem enter_with (H : Hp) (KX : K.In s1.heap) (hglob : s1.heap.Ns mainGlobals mg) (hblt : s1.heap.Ns builtinsNs mb)
    (hboot : ∀ x : Str, x ≠ "__name__" → mb x = bootBuiltins x) (hlim : s1.heap.NoLimit) (hmods : ∃ mm, s1.heap.Ns sysModules mm) (hgen : s1.gens = #[])
    (ha : s1.heap.get? a = some { cls := .type "list", data := .seq vs.toArray }) (room : Room k callerA)
    (F : ∀ base : Heap, K.In base → base.Ns mainGlobals mg → Mods base → GOk P w K mg base CX0 k fa fd [x] sp)
    (hbind : ∀ (s : Shared) (u : Value), BindsTo s fd ⟨[u], []⟩ [(x, u)])
    (hH : ∀ b u, H b = some u → b = a ∧ u = scriptO vs ns) (hK : ∀ u, H a = some u → K.lookup a = none) (hok : HOk P w H s1.heap)
    (hsp : sp [.ref a] H (fun v _ => v = .bl true) E0) :
    codeAny (model P w) callerA (.call (.ref fa) ⟨[.ref a], []⟩) (fun r s' => r = .ok (.ret (.bool true)) ∧ OldK s1.heap s'.heap ∧ s'.os = s1.os ∧ AllBare s'.gens) s1 := by
  have untracked : ∀ {b : Addr} {o : Obj} {es : Array DictEntry} {ep : Nat}, s1.heap.get? b = some o → o.data = .dict es ep → H b = none := by
    intro b o es ep e d
    cases hb : H b with
    | none => rfl
    | some u =>
      obtain ⟨rfl, _⟩ := hH b u hb
      rw [ha] at e
      cases e
      cases (show Data.seq vs.toArray _ = Data.dict es ep from d)
  have nsBase : ∀ {b : Addr} {m : Str → Option Value}, s1.heap.Ns b m → (hidT s1.heap H).Ns b m := fun {b m} ⟨o, es, ep, e, d, r⟩ =>
    ⟨o, es, ep, hidT_get e (untracked e d), d, r⟩
  have inBase : K.In (hidT s1.heap H) := by
    intro b o e
    refine hidT_get (KX b o e) ?_
    cases hb : H b with
    | none => rfl
    | some u =>
      obtain ⟨rfl, _⟩ := hH b u hb
      rw [hK u hb] at e
      cases e
  have modOk : Mod K mg (hidT s1.heap H) := by
    refine ⟨inBase, nsBase hglob, ⟨mb, nsBase hblt, hboot⟩, ?_⟩
    obtain ⟨mc, l1, l2⟩ := hlim
    exact ⟨mc, nsBase l1, l2⟩
  have modsOk : Mods (hidT s1.heap H) := by
    obtain ⟨mm, hm⟩ := hmods
    obtain ⟨o, es, ep, e, _⟩ := nsBase hm
    exact ⟨o, e⟩
  have start0 : Env0 P w K mg (hidT s1.heap H) callerA [] s1 H :=
    { frames := rfl, mod := modOk, bs := fun b o e => of_hidT e, bsz := Nat.le_of_eq (hidT_size _ _), funs := trivial,
      frf := fun b hb => absurd (show b ∈ ([] : List Addr) from hb) (by simp), hok := hok, bare := .of_eq hgen }
  have run := (F _ inBase (nsBase hglob) modsOk).goes callerA [] s1 H ⟨[.ref a], []⟩ [.ref a] [.ref a] _ _ room rfl start0 (hbind s1 (.ref a)) (.cons rfl .nil) hsp
  refine codeAny_mono run ?_
  intro r s' hr
  cases r with
  | error e => exact (show False from hr).elim
  | ok fl =>
    cases fl with
    | next => exact hr.elim
    | brk => exact hr.elim
    | cont => exact hr.elim
    | ret u =>
      obtain ⟨v, H', osEq, bare, un, hok', rel, rfl⟩ := hr
      cases (show u = Value.bool true from rel)
      refine ⟨rfl, OldK.of_keep ?_, osEq, bare⟩
      intro b o e
      cases hb : H b with
      | none => exact un.keep b o e hb (fun z => absurd (show b ∈ ([] : List Addr) from z) (by simp)) (by simp)
      | some u =>
        obtain ⟨rfl, rfl⟩ := hH b u hb
        have stay := un.frzs b _ _ hb
        obtain ⟨e1, _⟩ := hok b _ hb
        obtain ⟨e2, _⟩ := hok' b _ stay
        rw [e] at e1
        rw [e2, ← Option.some.inj e1]

theorem law_enter (KX : K.In s1.heap) (hglob : s1.heap.Ns mainGlobals mg) (hblt : s1.heap.Ns builtinsNs mb)
    (hboot : ∀ x : Str, x ≠ "__name__" → mb x = bootBuiltins x) (hlim : s1.heap.NoLimit) (hmods : ∃ mm, s1.heap.Ns sysModules mm) (hgen : s1.gens = #[])
    (ha : s1.heap.get? a = some { cls := .type "list", data := .seq vs.toArray }) (hi : IntsAre vs ns) (hl : ns.length ≤ sizeLine) (room : Room k callerA)
    (F : ∀ base : Heap, K.In base → base.Ns mainGlobals mg → Mods base → GOk P w K mg base CX0 k fa fd [x] sp)
    (hbind : ∀ (s : Shared) (u : Value), BindsTo s fd ⟨[u], []⟩ [(x, u)])
    (hsp : ∀ H : Hp, SqL K H a (ns.map V.int) → sp [.ref a] H (fun v _ => v = .bl true) E0) :
    codeAny (model P w) callerA (.call (.ref fa) ⟨[.ref a], []⟩) (fun r s' => r = .ok (.ret (.bool true)) ∧ OldK s1.heap s'.heap ∧ s'.os = s1.os ∧ AllBare s'.gens) s1 := by
  have rel := vals_ints hi
  cases hk : K.lookup a with
  | some o =>
    have e := KX a o hk
    rw [ha] at e
    cases e
    refine enter_with (ns := ns) (fun _ => none) KX hglob hblt hboot hlim hmods hgen ha room F hbind (fun _ _ z => by cases z) (fun _ z => by cases z) (fun _ _ z => by cases z) ?_
    refine hsp _ (.inr ⟨_, vs.toArray, _, hk, rfl, rfl, rfl, ?_, by simpa using rel⟩)
    rw [List.size_toArray, hi.length]
    exact hl
  | none =>
    have at_a : (fun b => if b = a then some (scriptO vs ns) else none : Hp) a = some (scriptO vs ns) := if_pos rfl
    refine enter_with (ns := ns) (fun b => if b = a then some (scriptO vs ns) else none) KX hglob hblt hboot hlim hmods hgen ha room F hbind ?_ (fun _ _ => hk) ?_ (hsp _ (.inl (.inr ⟨_, at_a⟩)))
    · intro b u z
      by_cases hb : b = a
      · exact ⟨hb, (Option.some.inj ((if_pos hb).symm.trans z)).symm⟩
      · cases (if_neg hb).symm.trans z
    · intro b u z
      by_cases hb : b = a
      · have e := Option.some.inj ((if_pos hb).symm.trans z)
        subst hb
        subst e
        exact ⟨ha, by rw [List.length_map]; exact hl, vs, _, rel, ha⟩
      · cases (if_neg hb).symm.trans z
end
/-- the goal that k_head leaves, for a law whose defs ask that no guard stands below -/
theorem walk_G {l : PySem.W.OpenLaw} {n k : Nat} {q : Program} {loose : List Str} {XP : (Str → Option Value) → Heap → Prop} {YP : World → Heap → Prop} {d : DefRec}
    {K : Params → PySem.W.Frag} {sp : PySem.W.Frag → Sp} {x : Str} (hn : l.most = some n) (hn2 : n ≤ sizeLine) (hdf : d.params.defaults = []) (room : Room k callerA)
    (himp : importsNone q = true) (hY : ∀ (w : World) (h : Heap), YP w h → (K w.params).In h)
    (F : ∀ (w : World) (mg : Str → Option Value) (fa : Addr) (h : Heap), (K w.params).In h → h.Ns mainGlobals mg → mg d.name = some (.ref fa) →
      ∃ fd : FuncData, (∀ (s : Shared) (u : Value), BindsTo s fd ⟨[u], []⟩ [(x, u)]) ∧
        ∀ base : Heap, (K w.params).In base → base.Ns mainGlobals mg → Mods base → GOk l.prog w (K w.params) mg base CX0 k fa fd [x] (sp (K w.params)))
    (hsp : ∀ (K : PySem.W.Frag) (H : Hp) (a : Addr) (ns : List Int), ns.length ≤ n → SqL K H a (ns.map V.int) → sp K [.ref a] H (fun v _ => v = .bl true) E0) :
    PySem.W.WalkO q loose XP YP l.row.toRowW d [] (fun f vs => PySem.call f vs) := by
  refine Att.attach_call hn hdf ?_
  intro w s0 s1 mg mb fa o pm cd doc a vs ns G Y ho hd hcd hmg hobj hints hlen hgen
  have KX := hY w _ Y
  obtain ⟨fd, hb, hF⟩ := F w mg fa _ KX G.T.g hmg
  obtain ⟨mm, hmm, _⟩ := (G.T.seer himp).mods
  exact law_enter KX G.T.g G.T.b G.T.builtins G.T.nolimit ⟨mm, hmm⟩ hgen hobj hints (Nat.le_trans hlen hn2) room hF hb fun H hS => hsp _ H a ns hlen hS
end Hx

namespace Hx
open PySem PySem.Spec PyProof.Rows L2
/-- the class at C tells its text by a def of its own, whose promise is sp -/
structure TellsBy (P : Program) (w : World) (K : PySem.W.Frag) (mg : Str → Option Value) (base : Heap) (k : Nat) (C : Addr) (sp : Sp) : Prop where
  cls : Cls K C
  go : ∃ (g : Addr) (fd : FuncData), PySem.W.findIn K (.ref C) "__str__" = some (some (.ref g)) ∧ PySem.W.isFn K (.ref g) = true ∧
    FnOk P w K mg base CX0 k g fd ["self"] sp ∧ Binds K fd ["self"] []
/-- str(x): a number, a text, or an object that tells its text -/
def rTell (P : Program) (w : World) (K : PySem.W.Frag) (mg : Str → Option Value) (base : Heap) (k : Nat) : List V → Hp → VK → Prop := fun xs H Q => ∃ x, xs = [x] ∧
  ((∃ i : Int, x = .int i ∧ i.natAbs.log2 < 1920 ∧ Q (.str (toString i)) H) ∨ (∃ y : Str, x = .str y ∧ Q (.str y) H) ∨
    ∃ (a C dx : Addr) (fs : List (Str × V)) (sp : Sp), x = .ref a ∧ H a = some (.ins C dx fs) ∧ TellsBy P w K mg base k C sp ∧
      sp [.ref a] H (fun v H' => ∃ y : Str, v = .str y ∧ Q (.str y) H') E0)
theorem Room.less {k j : Nat} {A : Around} (r : Room k A) (h : j ≤ k) : Room j A := r.mono h
theorem call_tell {X : Cx} {k : Nat} (room : Room (k + 2) X.A) : CallR X (.type "str") (rTell X.prog X.w X.K X.mg X.base k) := by
  intro pins s σ H xs us Q I r h
  obtain ⟨x, rfl, ⟨i, rfl, small, q⟩ | ⟨y, rfl, q⟩ | ⟨a, C, dx, fs, sp, rfl, ha, T, q⟩⟩ := h
  · exact call_str_int pins s σ H _ us Q I r ⟨i, rfl, small, q⟩
  · exact SkE.call_str_str pins s σ H _ us Q I r ⟨y, rfl, q⟩
  · rw [Vals.ref1 r]
    obtain ⟨mA, O, _, _, _, _⟩ := ins_get I.hok ha
    obtain ⟨od, J, _⟩ := O.look
    obtain ⟨g, fd, hs, hf, F, b⟩ := T.go
    refine PySem.W.kso_call (by have := room.units; show _ < _; exact Nat.lt_of_le_of_lt (Nat.le_add_right _ 64) room.in1.in1.units) I.kIn J hs hf ?_
    have go := F.run X.A.in1.in1 X.stack s H ⟨[.ref a], []⟩ [.ref a] [.ref a] _ E0 room.in1.in1 I.env0.in1.in1 (b s [.ref a] I.kIn rfl) (.cons rfl .nil) q
    refine wpAny_call (codeAny_mono go ?_)
    intro r' s' hr
    cases r' with
    | error e => exact (show False from hr).elim
    | ok fl =>
      cases fl with
      | ret u =>
        obtain ⟨v, H', J', rv, y, ev, qy⟩ := I.after hr
        subst ev
        obtain ⟨t, rfl⟩ := rv
        exact ⟨.str y, H', J', ⟨t, rfl⟩, qy⟩
      | next => exact hr.elim
      | brk => exact hr.elim
      | cont => exact hr.elim
end Hx

/-! operators of an own class without slots; a text times a number; a method called by keywords; dead rows -/
namespace Hx
open PySem PySem.Spec PyProof.Rows L2
/-- a row that is never reached -/
theorem ps_dead {X : Cx} {st : Stmt} : PS X st (fun _ _ _ => False) := ⟨fun _ _ _ _ _ _ h => h.elim⟩
section
variable {X : Cx}
theorem op_mul_str : OpR X (binaryOp .Mult) (fun x y H Q => ∃ z k, x = .str z ∧ y = .int k ∧ MulOk z k ∧ Q (.str (Txt.mul z k)) H) := by
  intro pins s σ H x y v u Q I rx ry h
  obtain ⟨z, k, rfl, rfl, hz, q⟩ := h
  obtain ⟨t, rfl⟩ := rx
  obtain ⟨t', rfl⟩ := ry
  exact SB.mul hz (fun t' tk => ⟨.str (Txt.mul z k), H, I.tok _, ⟨_, rfl⟩, q⟩)
end
/-- o.m(k = v, ..) -/
def tMethK (C : Addr) (m : Str) (sp : Sp) (gV : List V → List V → List V) (E : XK) (ta : TE) (tk : TA) : TE := fun σ H Q => ta σ H fun x H1 => ∃ a dx fs, x = .ref a ∧ H1 a = some (.ins C dx fs) ∧ fs.lookup m = none ∧
  tk σ H1 fun zs H2 => sp (gV [x] zs) H2 Q E
section
variable {X : Cx} {CX : CXT} {k : Nat} {f C : Addr} {fd : FuncData} {ps ks : List Str} {sp : Sp} {E : XK} {m : Str} {pos apos : Pos} {o : Expr} {kws : List Keyword} {ta : TE} {tk : TA}
  {g : List Value → List Value → List Value} {gV : List V → List V → List V}
theorem pe_methK {pl : Sem Bool} (he : PE X o ta) (c : Cls X.K C) (hm : Meth X.K C m f) (F : FnOk X.prog X.w X.K X.mg X.base CX k f fd ps sp) (hr : Room k X.A) (hb : KBinds X.K fd ps ks g gV) (hx : Passes CX X E) (hkw : PK X kws tk)
    (hall : (backToKw pos (keywordEach kws X.env)).all (·.1.isSome) = true := by rfl) (hks : (backToKw pos (keywordEach kws X.env)).filterMap (·.1) = ks := by rfl)
    (hpl : ((backTo pos (starEach [] X.env)).any (·.1) || (backToKw pos (keywordEach kws X.env)).any (·.1.isNone)) = false := by rfl)
    (ht : eval (.Call (.Attribute o m apos) [] kws pos) X.env = (do
      let ov ← eval o X.env
      standAt apos.atName
      let (f, first) ← holding [ov] (getMethod ov m pl)
      callWith pos f first (backTo pos (starEach [] X.env)) (backToKw pos (keywordEach kws X.env))) := by rfl) :
    PE X (.Call (.Attribute o m apos) [] kws pos) (tMethK C m sp gV E ta tk) := by
  refine ⟨fun pins s σ H Q I h => ?_⟩
  refine PySem.W.methodCall_KW (pl := pl) (thn (he.run pins s σ H _ I h) fun u s1 ⟨x, H1, I1, rx, a, dx, fs, ex, ea, l, q⟩ => ?_) ht
  subst ex
  obtain rfl : u = Value.ref a := rx
  refine getmeth_ok I1 ea c hm l ?_
  refine PySem.W.callWith_KW0 (first := [.ref a]) (h₀ := X.base) I.ok.mod.kin hm.kp hall ?_ hpl
  refine thn (hkw.run pos pins s1 σ H1 _ I1 q) fun ws s2 ⟨zs, H2, I2, rz, q2⟩ => ⟨I2.kIn, ?_⟩
  rw [hks]
  exact run_fnk (us := [.ref a]) (vs := [.ref a]) F hr hb hx I2 (.cons rfl .nil) rz q2
end
/-- o[i] where the class at C tells its items by a def of its own -/
structure ItemBy (P : Program) (w : World) (K : PySem.W.Frag) (mg : Str → Option Value) (base : Heap) (k : Nat) (C : Addr) (ps : List Str) (sp : Sp) : Prop where
  go : ∃ (g : Addr) (fd : FuncData), PySem.W.findIn K (.ref C) "__getitem__" = some (some (.ref g)) ∧ PySem.W.fnIn K g = true ∧ PySem.W.isFn K (.ref g) = true ∧
    FnOk P w K mg base CX0 k g fd ps sp ∧ Binds K fd ps []
def rItem (C : Addr) (sp : Sp) : R2 := fun x y H Q => ∃ (a dx : Addr) (fs : List (Str × V)), x = .ref a ∧ H a = some (.ins C dx fs) ∧ sp [x, y] H Q E0
section
variable {X : Cx} {k : Nat} {C : Addr} {ps : List Str} {sp : Sp}
theorem run_below {pins : List (Addr × Obj)} {σ : L2.St} {H : Hp} {s : Shared} {Q : VK} {us : List Value} {vs : List V} {A1 : Around} {f : Addr} {fd : FuncData}
    (F : FnOk X.prog X.w X.K X.mg X.base CX0 k f fd ps sp) (hr : Room k A1) (e0 : Env0 X.prog X.w X.K X.mg X.base A1 X.stack s H) (hb : Binds X.K fd ps []) (I : Inv X pins σ H s) (r : Vals vs us) (h : sp vs H Q E0) :
    wpAny (model X.prog X.w) A1 (call (.ref f) us) (EP X pins σ Q) X.xe s := by
  have l := F.len vs H Q E0 h
  have hl : us.length = ps.length := by rw [← r.length]; exact l
  have b := hb s us I.kIn (by rw [List.append_nil]; exact hl)
  rw [List.append_nil] at b
  refine wpAny_call (codeAny_mono (F.run A1 X.stack s H ⟨us, []⟩ us vs Q E0 hr e0 b r h) fun r s' hq => ?_)
  cases r with
  | error e => exact (show False from hq).elim
  | ok fl =>
    cases fl with
    | ret u => exact I.after hq
    | next => exact hq.elim
    | brk => exact hq.elim
    | cont => exact hq.elim
theorem pe_ixO {e i : Expr} {pos : Pos} {te ti : TE} (T : ItemBy X.prog X.w X.K X.mg X.base k C ps sp) (hr : Room (k + 1) X.A) (he : PE X e te) (hi : PE X i ti)
    (hsl : ∀ (a : Addr) (u : Value), subscripted i true (.ref a) u = runValue (.builtin "lifetime.subscript" ⟨[.ref a, u], []⟩)) : PE X (.Subscript e i pos) (tOp (rItem C sp) te ti) := by
  refine ⟨fun pins s σ H Q I h => ?_⟩
  refine Subscript_ (binT he hi I h fun v u s2 x y H2 I2 rx ry q => ?_)
  obtain ⟨a, dx, fs, rfl, ha, q⟩ := q
  cases (show v = Value.ref a from rx)
  obtain ⟨g, fd, h1, h2, h3, F, b⟩ := T.go
  obtain ⟨mA, O, _⟩ := ins_get I2.hok ha
  obtain ⟨od, J, _⟩ := O.look
  obtain ⟨m, hF⟩ := I2.fr
  exact PySem.W.sub_K hF I2.ok.mod.kin J h1 h2 h3 (run_below F hr.in1 I2.env0.in1 b I2 (.cons rx (.cons ry .nil)) q) (hsl _ _)
end
/-- x == y by the class's own def -/
structure EqBy (P : Program) (w : World) (K : PySem.W.Frag) (mg : Str → Option Value) (base : Heap) (k : Nat) (C : Addr) (ps : List Str) (sp : Sp) : Prop where
  go : ∃ (g : Addr) (fd : FuncData), PySem.W.findIn K (.ref C) "__eq__" = some (some (.ref g)) ∧ PySem.W.isFn K (.ref g) = true ∧
    FnOk P w K mg base CX0 k g fd ps sp ∧ Binds K fd ps []
  ne : PySem.W.findIn K (.ref C) "__ne__" = some (some (.builtin "object.__ne__"))
  obj : PySem.W.mroIn K C (.type "object") = some true
  str : PySem.W.notFirst K C (.type "str") = true
  tup : PySem.W.notFirst K C (.type "tuple") = true
/-- the right operand: a text, a tuple, an object of this class -/
def Right (C : Addr) (H : Hp) (y : V) : Prop := (∃ z : Str, y = .str z) ∨ (∃ (b : Addr) (xs : List V), y = .ref b ∧ H b = some (.tup xs)) ∨ ∃ (b dx : Addr) (fs : List (Str × V)), y = .ref b ∧ H b = some (.ins C dx fs)
def rEqO (C : Addr) (sp : Sp) : R2 := fun x y H Q => ∃ (a dx : Addr) (fs : List (Str × V)), x = .ref a ∧ H a = some (.ins C dx fs) ∧ Right C H y ∧ sp [x, y] H (fun v H' => ∃ k, v = .bl k ∧ Q (.bl k) H') E0
def rNeO (C : Addr) (sp : Sp) : R2 := fun x y H Q => ∃ (a dx : Addr) (fs : List (Str × V)), x = .ref a ∧ H a = some (.ins C dx fs) ∧ Right C H y ∧ sp [x, y] H (fun v H' => ∃ k, v = .bl k ∧ Q (.bl (!k)) H') E0
section
variable {X : Cx} {k : Nat} {C : Addr} {ps : List Str} {sp : Sp} {P : Program} {w : World} {K : PySem.W.Frag} {mg : Str → Option Value} {base : Heap}
theorem right_of {pins : List (Addr × Obj)} {σ : L2.St} {H : Hp} {s : Shared} {y : V} {u : Value} (T : EqBy P w K mg base k C ps sp) (I : Inv X pins σ H s) (ry : RelV y u) (r : Right C H y) :
    ∃ tb, PySem.W.Looks (model X.prog X.w) s.heap (typeOf u) tb ∧ PySem.W.notFirst K C tb = true := by
  rcases r with ⟨z, rfl⟩ | ⟨b, xs, rfl, hb⟩ | ⟨b, dx, fs, rfl, hb⟩
  · obtain ⟨t, rfl⟩ := ry
    exact ⟨.type "str", .of_pure rfl, T.str⟩
  · cases (show u = Value.ref b from ry)
    obtain ⟨its, _, ⟨o, ho, hc, _⟩, _⟩ := I.tuple (SqT.of hb)
    exact ⟨.type "tuple", hc ▸ (PySem.W.Looks.ld ho).andThen .now, T.tup⟩
  · cases (show u = Value.ref b from ry)
    obtain ⟨mA, O, _⟩ := ins_get I.hok hb
    obtain ⟨od, J, _⟩ := O.look
    exact ⟨.ref C, J.type, by unfold PySem.W.notFirst; simp⟩
theorem op_eqO (T : EqBy X.prog X.w X.K X.mg X.base k C ps sp) (hr : Room k X.A) : OpR X (compareOp .Eq) (rEqO C sp) := by
  intro pins s σ H x y v u Q I rx ry h
  obtain ⟨a, dx, fs, rfl, ha, r, q⟩ := h
  obtain ⟨tb, hb, hn⟩ := right_of T I ry r
  cases (show v = Value.ref a from rx)
  obtain ⟨g, fd, h1, h2, F, b⟩ := T.go
  obtain ⟨mA, O, _⟩ := ins_get I.hok ha
  obtain ⟨od, J, _⟩ := O.look
  obtain ⟨m, hF⟩ := I.fr
  refine PySem.W.cmp_ofEq (PySem.W.cmp_K (op := .Eq) hr.units0 hF I.ok.mod.kin J hb hn h1 h2 ?_)
  refine wpAny_mono (run_below F hr I.env0 b I (.cons rx (.cons ry .nil)) q) (fun w' s' z => ?_) fun _ _ e => e
  obtain ⟨z', H', I', rz, kk, rfl, qz⟩ := z
  cases (show w' = Value.bool kk from rz)
  exact ⟨.bl kk, H', I', rfl, qz⟩
end
end Hx
namespace Hx
open PySem PySem.Spec PyProof.Rows L2
section
variable {prog : Program} {w : World} {A : Around} {E : Value → Shared → Prop} {s : Shared} {K : PySem.W.Frag} {x C L f : Addr} {h₀ : Heap} {m : Str → Option Value} {ox : Obj} {od : Option Obj} {name : Str} {b tb : Value}
theorem ifBound_B {M : Model} {args : List Value} {id : String} {Q : Option Value → Shared → Prop} (X : K.In s.heap) (I : PySem.W.InstAt s.heap x ox C od) (hs : PySem.W.findIn K (.ref C) name = some (some (.builtin id)))
    (hb : ∀ self, bindSpecial (.builtin id) self = pure (.builtin id, [self])) (h : wpAny M A (call (.builtin id) (.ref x :: args)) (fun v => Q (some v)) E s) : wpAny M A (callSpecialIfBound? (.ref x) name args) Q E s := by
  simp only [callSpecialIfBound?, bindSpecialIfBound?]
  refine wpAny_holding (wpAny_bind (wpAny_bind (wpAny_bind (I.type.here ((PySem.W.looks_findIn X hs).here ?_)))))
  refine wpAny_bind (wpAny_askSetting (wpAny_ite ?_))
  have fin : wpAny M A (call (.builtin id) ([.ref x] ++ args) >>= fun v => pure (some v)) Q E s := wpAny_bind (wpAny_mono h (fun v s' h' => wpAny_pure h') fun _ _ h' => h')
  split
  · exact wpAny_bind ((PySem.W.Looks.of_pure (hb _)).here (wpAny_pure (by exact fin)))
  · exact wpAny_tryCatch (wpAny_bind ((PySem.W.Looks.of_pure (hb _)).here (wpAny_pure (by exact fin))))
theorem objNe_K (hu : A.units < cLine) (X : K.In s.heap) (I : PySem.W.InstAt s.heap x ox C od) (he : PySem.W.findIn K (.ref C) "__eq__" = some (some (.ref f))) (hf : PySem.W.isFn K (.ref f) = true) {Q : Fin → Shared → Prop}
    (hcall : wpAny (model prog w) A (call (.ref f) [.ref x, b]) (fun v s' => ∃ k, v = .bool k ∧ Q (.done (.ret (.bool (!k)))) s') E s) :
    wpAny (model prog w) A (Builtin.«object.__ne__» ⟨[.ref x, b], []⟩) Q E s := by
  unfold Builtin.«object.__ne__»
  repeat (first
    | with_reducible refine wpAny_cRoomFor hu ?_
    | (refine wpAny_bind (m := callSpecialIfBound? (.ref x) (Str.ofString "__eq__") [b])
        (PySem.W.ifBound_K X I he hf (wpAny_mono hcall (fun r s' hr => by
          obtain ⟨k, rfl, hq⟩ := hr
          repeat (first | exact hq | exact wpAny_pure hq | exact wpAny_truthy_bool hq | (refine wpAny_bind (m := truthy (.bool _)) (wpAny_truthy_bool ?_)) | wp_step)) fun _ _ e => e)))
    | wp_step)
theorem ne_K {Q : Value → Shared → Prop} (hu : A.units + 1 < cLine) (F : Fr h₀ L s.heap m) (X₀ : K.In h₀) (I : PySem.W.InstAt s.heap x ox C od) (hb : PySem.W.Looks (model prog w) s.heap (typeOf b) tb) (hn : PySem.W.notFirst K C tb = true)
    (hs : PySem.W.findIn K (.ref C) "__ne__" = some (some (.builtin "object.__ne__"))) (hm : PySem.W.mroIn K C (.type "object") = some true) (he : PySem.W.findIn K (.ref C) "__eq__" = some (some (.ref f))) (hf : PySem.W.isFn K (.ref f) = true)
    (h : wpAny (model prog w) A.in1 (call (.ref f) [.ref x, b]) (fun v s' => ∃ k, v = .bool k ∧ Q (.bool (!k)) s') E s) : wpAny (model prog w) A (richCompare .NotEq (.ref x) b) Q E s := by
  have X := X₀.keeps F.keep
  have FB := PySem.F.cmp_object
  have sub : PySem.W.Looks (model prog w) s.heap (isInstance (.ref x) (.type "object")) true := I.type.andThen (PySem.W.looks_mroIn X hm)
  have one : wpAny (model prog w) A (tryCompare (.ref x) "__ne__" b) (fun r s' => ∃ v, r = some v ∧ Q v s') E s := by
    unfold tryCompare
    refine wpAny_bind (ifBound_B X I hs FB.ne.bind (wpAny_call (codeAny_call_builtin FB.ne.plain PySem.F.cmpEntry_ne ?_)))
    refine @PySem.W.check_slot (model prog w) _ _ s "object.__ne__" "object" "__ne__" (.ref x) [b] [] _ PySem.F.cmpKind_ne PySem.F.cmpSplit_ne sub (PySem.F.cmpArgs_ne (.ref x) b) ?_
    refine objNe_K (A := A.in1) hu X I he hf (wpAny_mono h (fun v s' hv => ?_) fun _ _ e => e)
    obtain ⟨k, rfl, hq⟩ := hv
    exact ⟨k, rfl, wpAny_pure ⟨_, rfl, hq⟩⟩
  unfold richCompare
  simp only [oneThing_ref]
  refine wpAny_holding (wpAny_bind (wpAny_cRoomFor (Nat.lt_of_succ_lt hu) ?_))
  refine wpAny_bind (I.type.here (wpAny_bind (hb.here ?_)))
  split
  · rename_i q
    have e : PySem.W.subIn K tb (.ref C) = some false := by
      rcases Bool.or_eq_true_iff.mp hn with e | e
      · rw [beq_iff_eq.mp e] at q; simp at q
      · exact beq_iff_eq.mp e
    refine wpAny_bind ((PySem.W.looks_subIn X e).here ?_)
    simp only [Bool.false_eq_true, if_false]
    refine wpAny_bind (wpAny_mono one (fun r s' z => ?_) fun _ _ e => e)
    obtain ⟨v, rfl, hq⟩ := z
    exact wpAny_pure hq
  · refine wpAny_bind (wpAny_pure ?_)
    simp only [Bool.false_eq_true, if_false]
    refine wpAny_bind (wpAny_mono one (fun r s' z => ?_) fun _ _ e => e)
    obtain ⟨v, rfl, hq⟩ := z
    exact wpAny_pure hq
end
section
variable {X : Cx} {k : Nat} {C : Addr} {ps : List Str} {sp : Sp}
theorem op_neO (T : EqBy X.prog X.w X.K X.mg X.base k C ps sp) (hr : Room (k + 1) X.A) : OpR X (compareOp .NotEq) (rNeO C sp) := by
  intro pins s σ H x y v u Q I rx ry h
  obtain ⟨a, dx, fs, rfl, ha, r, q⟩ := h
  obtain ⟨tb, hb, hn⟩ := right_of T I ry r
  cases (show v = Value.ref a from rx)
  obtain ⟨g, fd, h1, h2, F, b⟩ := T.go
  obtain ⟨mA, O, _⟩ := ins_get I.hok ha
  obtain ⟨od, J, _⟩ := O.look
  obtain ⟨m, hF⟩ := I.fr
  refine PySem.W.cmp_ofNotEq (ne_K (by have := hr.un; omega) hF I.ok.mod.kin J hb hn T.ne T.obj h1 h2 ?_)
  refine wpAny_mono (run_below F hr.in1 I.env0.in1 b I (.cons rx (.cons ry .nil)) q) (fun w' s' z => ?_) fun _ _ e => e
  obtain ⟨z', H', I', rz, kk, rfl, qz⟩ := z
  cases (show w' = Value.bool kk from rz)
  exact ⟨kk, rfl, .bl (!kk), H', I', rfl, qz⟩
/-- repr(x) of an own object -/
structure ShowsBy (P : Program) (w : World) (K : PySem.W.Frag) (mg : Str → Option Value) (base : Heap) (k : Nat) (C : Addr) (sp : Sp) : Prop where
  go : ∃ (g : Addr) (fd : FuncData), PySem.W.findIn K (.ref C) "__repr__" = some (some (.ref g)) ∧ PySem.W.isFn K (.ref g) = true ∧
    FnOk P w K mg base CX0 k g fd ["self"] sp ∧ Binds K fd ["self"] []
def rShow (C : Addr) (sp : Sp) : List V → Hp → VK → Prop := fun xs H Q => ∃ (a dx : Addr) (fs : List (Str × V)), xs = [.ref a] ∧ H a = some (.ins C dx fs) ∧ sp [.ref a] H (fun v H' => ∃ y : Str, v = .str y ∧ Q (.str y) H') E0
theorem call_show (T : ShowsBy X.prog X.w X.K X.mg X.base k C sp) (hr : Room (k + 1) X.A) : CallR X (.builtin "repr") (rShow C sp) := by
  intro pins s σ H xs us Q I r h
  obtain ⟨a, dx, fs, rfl, ha, q⟩ := h
  rw [Vals.ref1 r]
  obtain ⟨g, fd, h1, h2, F, b⟩ := T.go
  obtain ⟨mA, O, _⟩ := ins_get I.hok ha
  obtain ⟨od, J, _⟩ := O.look
  obtain ⟨m, hF⟩ := I.fr
  refine PySem.W.repr_K hr.in1.units0 hF I.ok.mod.kin J h1 h2 ?_
  refine wpAny_mono (run_below F hr.in1 I.env0.in1 b I (us := [.ref a]) (vs := [.ref a]) (.cons rfl .nil) q) (fun w' s' z => ?_) fun _ _ e => e
  obtain ⟨z', H', I', rz, y, rfl, qz⟩ := z
  obtain ⟨t, rfl⟩ := rz
  exact ⟨.str y, H', I', ⟨t, rfl⟩, qz⟩
end
end Hx

/-! endless rows with a head and a loop, in plain lists -/
namespace Rw
theorem getD_appL {a b : List Nat} {i : Nat} (h : i < a.length) : (a ++ b).getD i 0 = a.getD i 0 := by
  rw [List.getD_eq_getElem?_getD, List.getElem?_append_left h, ← List.getD_eq_getElem?_getD]
theorem getD_appR {a b : List Nat} {i : Nat} (h : a.length ≤ i) : (a ++ b).getD i 0 = b.getD (i - a.length) 0 := by
  rw [List.getD_eq_getElem?_getD, List.getElem?_append_right h, ← List.getD_eq_getElem?_getD]
theorem getD_get {a : List Nat} {i : Nat} (h : i < a.length) : a.getD i 0 = a[i] := by
  rw [List.getD_eq_getElem?_getD, List.getElem?_eq_getElem h]
  rfl
/-- n times a -/
def rep (n : Nat) (a : List Nat) : List Nat := (List.replicate n a).flatten
def lp (g : List Nat) (n : Nat) : Nat := g.getD (n % g.length) 0
def sg (f g : List Nat) (n : Nat) : Nat := if n < f.length then f.getD n 0 else lp g (n - f.length)
def Prim (g : List Nat) : Prop := ∀ m, 0 < m → m < g.length → ∃ i, lp g i ≠ lp g (i + m)
structure Norm (f g : List Nat) : Prop where
  pos : 0 < g.length
  prim : Prim g
  last : 0 < f.length → f.getD (f.length - 1) 0 ≠ lp g (g.length - 1)
theorem rep_zero (a : List Nat) : rep 0 a = [] := rfl
theorem rep_succ (n : Nat) (a : List Nat) : rep (n + 1) a = a ++ rep n a := by
  unfold rep
  rw [List.replicate_succ, List.flatten_cons]
theorem rep_length (n : Nat) (a : List Nat) : (rep n a).length = n * a.length := by
  induction n with
  | zero => rw [rep_zero, Nat.zero_mul]; rfl
  | succ n ih => rw [rep_succ, List.length_append, ih, Nat.succ_mul, Nat.add_comm]
theorem rep_getD {a : List Nat} : ∀ (n i : Nat), i < n * a.length → (rep n a).getD i 0 = a.getD (i % a.length) 0
  | 0, i, h => by rw [Nat.zero_mul] at h; exact absurd h (Nat.not_lt_zero _)
  | n + 1, i, h => by
    rw [rep_succ]
    by_cases c : i < a.length
    · rw [getD_appL c, Nat.mod_eq_of_lt c]
    · have c' : a.length ≤ i := Nat.le_of_not_lt c
      rw [getD_appR c', rep_getD n (i - a.length) (by rw [Nat.succ_mul] at h; omega)]
      rw [Nat.mod_eq_sub_mod c']
theorem lp_mod (g : List Nat) (n : Nat) : lp g (n % g.length) = lp g n := by
  unfold lp
  rw [Nat.mod_mod]
theorem lp_add (g : List Nat) (n k : Nat) : lp g (n + g.length * k) = lp g n := by
  unfold lp
  rw [Nat.add_mul_mod_self_left]
theorem lp_add1 (g : List Nat) (n : Nat) : lp g (n + g.length) = lp g n := by
  have := lp_add g n 1
  rwa [Nat.mul_one] at this
theorem lp_lt {g : List Nat} {n : Nat} (h : n < g.length) : lp g n = g.getD n 0 := by
  unfold lp
  rw [Nat.mod_eq_of_lt h]
theorem lp_rep {a : List Nat} {n : Nat} (ha : 0 < a.length) (hn : 0 < n) (i : Nat) : lp (rep n a) i = lp a i := by
  unfold lp
  rw [rep_length]
  have hp : 0 < n * a.length := Nat.mul_pos hn ha
  rw [rep_getD n _ (Nat.mod_lt _ hp), Nat.mod_mul_left_mod]
/-- the least string that makes the loop, told by its length -/
structure Least (a l : List Nat) : Prop where
  pos : 0 < a.length
  k : ∃ n, 0 < n ∧ l = rep n a
  min : ∀ m, 0 < m → m < a.length → ∀ b : List Nat, b.length = m → ∀ n, l ≠ rep n b
theorem ext_getD {a b : List Nat} (h : a.length = b.length) (e : ∀ i, i < a.length → a.getD i 0 = b.getD i 0) : a = b := by
  refine List.ext_getElem h fun i h1 h2 => ?_
  have := e i h1
  rwa [getD_get h1, getD_get h2] at this
theorem rep_rep (n m : Nat) (b : List Nat) : rep n (rep m b) = rep (n * m) b := by
  induction n with
  | zero => rw [rep_zero, Nat.zero_mul, rep_zero]
  | succ n ih =>
    rw [rep_succ, ih, Nat.succ_mul, Nat.add_comm]
    induction m with
    | zero => rw [rep_zero, Nat.zero_add]; rfl
    | succ m ih2 =>
      have e : m + 1 + n * (m + 1) = (m + n * (m + 1)) + 1 := by omega
      rw [e, rep_succ, rep_succ, List.append_assoc]
      congr 1
      clear ih ih2 e
      generalize n * (m + 1) = k
      induction m with
      | zero => rw [rep_zero, Nat.zero_add]; rfl
      | succ m ih3 =>
        rw [rep_succ, List.append_assoc, ih3, show m + 1 + k = (m + k) + 1 by omega, rep_succ]
/-- a string of at most four signs with no shorter one that makes it is the same under no turn -/
theorem prim_of_least {a l : List Nat} (h : Least a l) (h4 : a.length ≤ 4) : Prim a := by
  obtain ⟨n, hn, hl⟩ := h.k
  have no : ∀ m, 0 < m → m < a.length → ∀ b : List Nat, b.length = m → ∀ k, a ≠ rep k b := by
    intro m m0 m1 b hb k e
    exact h.min m m0 m1 b hb (n * k) (by rw [hl, e, rep_rep])
  clear hl hn
  have hp := h.pos
  clear h
  intro m m0 m1
  refine Classical.byContradiction fun z => ?_
  have same : ∀ i, lp a i = lp a (i + m) := fun i => Classical.byContradiction fun q => z ⟨i, q⟩
  clear z
  match a, h4, hp, m1, no, same with
  | [], _, hp, _, _, _ => exact absurd hp (Nat.lt_irrefl _)
  | [x], _, _, m1, _, _ => exact absurd m1 (by simp; omega)
  | [x, y], _, _, m1, no, same =>
    have : m = 1 := by simp at m1; omega
    subst this
    have e0 : x = y := by have q := same 0; simpa [lp] using q
    subst e0
    exact no 1 (by decide) (by simp) [x] rfl 2 rfl
  | [x, y, u], _, _, m1, no, same =>
    have : m = 1 ∨ m = 2 := by simp at m1; omega
    rcases this with rfl | rfl
    · have e0 : x = y := by have q := same 0; simpa [lp] using q
      have e1 : y = u := by have q := same 1; simpa [lp] using q
      subst e0 e1
      exact no 1 (by decide) (by simp) [x] rfl 3 rfl
    · have e0 : x = u := by have q := same 0; simpa [lp] using q
      have e1 : y = x := by have q := same 1; simpa [lp] using q
      subst e0 e1
      exact no 1 (by decide) (by simp) [y] rfl 3 rfl
  | [x, y, u, v], _, _, m1, no, same =>
    have : m = 1 ∨ m = 2 ∨ m = 3 := by simp at m1; omega
    rcases this with rfl | rfl | rfl
    · have e0 : x = y := by have q := same 0; simpa [lp] using q
      have e1 : y = u := by have q := same 1; simpa [lp] using q
      have e2 : u = v := by have q := same 2; simpa [lp] using q
      subst e0 e1 e2
      exact no 1 (by decide) (by simp) [x] rfl 4 rfl
    · have e0 : x = u := by have q := same 0; simpa [lp] using q
      have e1 : y = v := by have q := same 1; simpa [lp] using q
      subst e0 e1
      exact no 2 (by decide) (by simp) [x, y] rfl 2 rfl
    · have e0 : x = v := by have q := same 0; simpa [lp] using q
      have e1 : y = x := by have q := same 1; simpa [lp] using q
      have e2 : u = y := by have q := same 2; simpa [lp] using q
      subst e0 e1 e2
      exact no 1 (by decide) (by simp) [u] rfl 4 rfl
  | _ :: _ :: _ :: _ :: _ :: _, h4, _, _, _, _ => exact absurd h4 (by simp)
/-- the loop's place from which it goes on when so many signs of the head are taken back -/
structure Back (many : Nat) (h a : List Nat) : Prop where
  le : many ≤ h.length
  same : ∀ i, i < many → h.getD (h.length - 1 - i) 0 = a.getD (a.length - 1 - i % a.length) 0
  stop : many < h.length → h.getD (h.length - 1 - many) 0 ≠ a.getD (a.length - 1 - many % a.length) 0
/-- the place (-many) % p -/
def back (many p : Nat) : Nat := (p - many % p) % p
def turned (at_ : Nat) (a : List Nat) : List Nat := a.drop at_ ++ a.take at_
theorem turned_length {at_ : Nat} {a : List Nat} (h : at_ ≤ a.length) : (turned at_ a).length = a.length := by
  unfold turned
  rw [List.length_append, List.length_drop, List.length_take]
  omega
theorem turned_lp {at_ : Nat} {a : List Nat} (h : at_ < a.length) (i : Nat) : lp (turned at_ a) i = lp a (at_ + i) := by
  have hl := turned_length (Nat.le_of_lt h)
  unfold lp
  rw [hl]
  have hp : 0 < a.length := Nat.lt_of_le_of_lt (Nat.zero_le _) h
  have hi := Nat.mod_lt i hp
  rw [Nat.add_mod, Nat.mod_eq_of_lt h]
  generalize i % a.length = j at hi
  unfold turned
  by_cases c : j < a.length - at_
  · rw [getD_appL (by rw [List.length_drop]; exact c), Nat.mod_eq_of_lt (by omega)]
    rw [List.getD_eq_getElem?_getD, List.getElem?_drop, ← List.getD_eq_getElem?_getD]
  · rw [getD_appR (by rw [List.length_drop]; omega), List.length_drop]
    have e : (at_ + j) % a.length = at_ + j - a.length := by
      rw [Nat.mod_eq_sub_mod (by omega), Nat.mod_eq_of_lt (by omega)]
    rw [e, List.getD_eq_getElem?_getD, List.getElem?_take_of_lt (by omega), ← List.getD_eq_getElem?_getD]
    congr 1
    omega
theorem back_lt {many p : Nat} (hp : 0 < p) : back many p < p := Nat.mod_lt _ hp
theorem back_add {many p : Nat} (hp : 0 < p) : (back many p + many) % p = 0 := by
  unfold back
  have h1 := Nat.mod_lt many hp
  rw [Nat.add_mod, Nat.mod_mod]
  by_cases c : many % p = 0
  · rw [c, Nat.sub_zero, Nat.mod_self]
    rfl
  · rw [Nat.mod_eq_of_lt (a := p - many % p) (by omega), Nat.sub_add_cancel (Nat.le_of_lt h1), Nat.mod_self]
theorem lp_back {a : List Nat} {many : Nat} (hp : 0 < a.length) (n : Nat) : lp a (back many a.length + many + n) = lp a n := by
  unfold lp
  rw [Nat.add_mod, back_add hp, Nat.zero_add, Nat.mod_mod]
theorem getD_take {h : List Nat} {n i : Nat} (c : i < n) : (h.take n).getD i 0 = h.getD i 0 := by
  rw [List.getD_eq_getElem?_getD, List.getElem?_take_of_lt c, ← List.getD_eq_getElem?_getD]
/-- a.getD (p - 1 - i % p) is the loop at (-1 - i) -/
theorem lp_behind {a : List Nat} (hp : 0 < a.length) {i at_ : Nat} (e : (at_ + i + 1) % a.length = 0) : a.getD (a.length - 1 - i % a.length) 0 = lp a at_ := by
  unfold lp
  have h1 := Nat.mod_lt i hp
  have h2 := Nat.mod_lt at_ hp
  have e2 : (at_ % a.length + i % a.length + 1) % a.length = 0 := by
    rw [show at_ % a.length + i % a.length + 1 = at_ % a.length + (i % a.length + 1) by omega, Nat.add_mod, Nat.mod_mod, ← Nat.add_mod]
    rw [show at_ + (i % a.length + 1) = (at_ + 1) + i % a.length by omega, Nat.add_mod, Nat.mod_mod, ← Nat.add_mod, show at_ + 1 + i = at_ + i + 1 by omega]
    exact e
  generalize at_ % a.length = x at *
  generalize i % a.length = y at *
  have : x + y + 1 = a.length := by
    rcases Nat.lt_or_ge (x + y + 1) a.length with q | q
    · rw [Nat.mod_eq_of_lt q] at e2; omega
    · rw [Nat.mod_eq_sub_mod q, Nat.mod_eq_of_lt (by omega)] at e2; omega
  rw [show a.length - 1 - y = x by omega]
/-- what Round keeps -/
theorem norm_made {h l a : List Nat} {many : Nat} (L : Least a l) (h4 : a.length ≤ 4) (B : Back many h a) :
    Norm (h.take (h.length - many)) (turned (back many a.length) a) ∧ ∀ n, sg (h.take (h.length - many)) (turned (back many a.length) a) n = sg h l n := by
  have hp := L.pos
  have hb := back_lt (many := many) hp
  have le := B.le
  have tl := turned_length (Nat.le_of_lt hb)
  have fl : (h.take (h.length - many)).length = h.length - many := by rw [List.length_take]; omega
  have lpl : ∀ i, lp l i = lp a i := by
    obtain ⟨n, hn, rfl⟩ := L.k
    exact lp_rep hp hn
  constructor
  · refine ⟨by rw [tl]; exact hp, ?_, ?_⟩
    · intro m m0 m1
      rw [tl] at m1
      obtain ⟨i, hi⟩ := prim_of_least L h4 m m0 m1
      refine ⟨many + i, ?_⟩
      rw [turned_lp hb, turned_lp hb, ← Nat.add_assoc, lp_back hp, ← Nat.add_assoc, ← Nat.add_assoc, Nat.add_assoc _ i m, lp_back hp]
      exact hi
    · intro f0
      rw [fl] at f0 ⊢
      rw [tl, getD_take (by omega), turned_lp hb]
      have st := B.stop (by omega)
      rw [show h.length - many - 1 = h.length - 1 - many by omega]
      have e := lp_behind (a := a) hp (i := many) (at_ := back many a.length + (a.length - 1)) (by
        rw [show back many a.length + (a.length - 1) + many + 1 = (back many a.length + many) + a.length by omega, Nat.add_mod_right]
        exact back_add hp)
      rw [e] at st
      exact st
  · intro n
    unfold sg
    rw [fl]
    by_cases c : n < h.length - many
    · rw [if_pos c, if_pos (by omega), getD_take c]
    · rw [if_neg c, turned_lp hb]
      by_cases c2 : n < h.length
      · rw [if_pos c2]
        have hi : h.length - 1 - n < many := by omega
        have s := B.same _ hi
        rw [show h.length - 1 - (h.length - 1 - n) = n by omega] at s
        rw [s]
        refine (lp_behind hp ?_).symm
        rw [show back many a.length + (n - (h.length - many)) + (h.length - 1 - n) + 1 = back many a.length + many by omega]
        exact back_add hp
      · rw [if_neg c2, lpl]
        have e := lp_back (a := a) (many := many) hp (n - h.length)
        rw [show back many a.length + (n - (h.length - many)) = back many a.length + many + (n - h.length) by omega]
        exact e
theorem chain {s : Nat → Nat} {k L : Nat} : ∀ p, (∀ j, j < p → s (k + j * L) = s (k + j * L + L)) → s k = s (k + p * L)
  | 0, _ => by rw [Nat.zero_mul, Nat.add_zero]
  | p + 1, h => by
    rw [chain p fun j hj => h j (by omega), h p (by omega), Nat.succ_mul, Nat.add_assoc]
theorem sg_far {f g : List Nat} {n : Nat} (h : f.length ≤ n) : sg f g n = lp g (n - f.length) := by
  unfold sg
  rw [if_neg (by omega)]
theorem sg_last {f g : List Nat} (N : Norm f g) (h : 0 < f.length) {L : Nat} (hL : 0 < L) : sg f g (f.length - 1) ≠ sg f g (f.length - 1 + g.length * L) := by
  have hp := N.pos
  obtain ⟨M, rfl⟩ : ∃ M, L = M + 1 := ⟨L - 1, by omega⟩
  rw [sg_far (n := f.length - 1 + g.length * (M + 1)) (by rw [Nat.mul_succ]; omega)]
  rw [show f.length - 1 + g.length * (M + 1) - f.length = (g.length - 1) + g.length * M by rw [Nat.mul_succ]; omega, lp_add]
  unfold sg
  rw [if_pos (by omega)]
  exact N.last h
/-- in a window of 40: no shorter head -/
theorem no_head {f g : List Nat} (N : Norm f g) (f8 : f.length ≤ 8) (g4 : g.length ≤ 4) {size L : Nat} (hs : size < f.length) (l0 : 0 < L) (l8 : L ≤ 8) (w : ∀ k, size ≤ k → k < 40 - L → sg f g k = sg f g (k + L)) : False := by
  refine sg_last N (by omega) l0 (chain g.length fun j hj => ?_)
  have : (j + 1) * L ≤ 4 * 8 := Nat.mul_le_mul (by omega) l8
  have e : (j + 1) * L = j * L + L := Nat.succ_mul j L
  exact w _ (by omega) (by omega)
theorem no_loop {f g : List Nat} (N : Norm f g) (f8 : f.length ≤ 8) (g4 : g.length ≤ 4) {L : Nat} (l0 : 0 < L) (l8 : L < g.length) (w : ∀ k, f.length ≤ k → k < 40 - L → sg f g k = sg f g (k + L)) : False := by
  obtain ⟨i, hi⟩ := N.prim L l0 l8
  refine hi ?_
  have hm := Nat.mod_lt i N.pos
  have e := w (f.length + i % g.length) (by omega) (by omega)
  rw [sg_far (by omega), sg_far (by omega), show f.length + i % g.length - f.length = i % g.length by omega, show f.length + i % g.length + L - f.length = i % g.length + L by omega, lp_mod] at e
  rw [e]
  unfold lp
  rw [Nat.mod_add_mod]
theorem hits {f g : List Nat} {k : Nat} (h : f.length ≤ k) : sg f g k = sg f g (k + g.length) := by
  rw [sg_far h, sg_far (by omega), show k + g.length - f.length = (k - f.length) + g.length by omega, lp_add1]
/-- of two normal forms of one row the heads are equally long -/
theorem head_le {f g f2 g2 : List Nat} (N2 : Norm f2 g2) (p : 0 < g.length) (e : ∀ n, sg f2 g2 n = sg f g n) : f2.length ≤ f.length := by
  refine Classical.byContradiction fun c => ?_
  refine sg_last N2 (by omega) p ?_
  rw [e, e, Nat.mul_comm]
  have : ∀ j, sg f g (f2.length - 1) = sg f g (f2.length - 1 + j * g.length) := by
    intro j
    refine chain (s := sg f g) j fun i _ => hits (by omega)
  rw [this g2.length, Nat.mul_comm]
theorem sg_map_head {f g : List Nat} {n : Nat} (h : n ≤ f.length) : (List.range n).map (sg f g) = f.take n := by
  refine ext_getD (by rw [List.length_map, List.length_range, List.length_take]; omega) fun i hi => ?_
  rw [List.length_map, List.length_range] at hi
  rw [getD_take hi, List.getD_eq_getElem?_getD, List.getElem?_map, List.getElem?_range hi]
  show sg f g i = _
  unfold sg
  rw [if_pos (by omega)]
/-- the first signs, as they are told -/
theorem first_signs {f g : List Nat} {t n : Nat} (hp : 0 < g.length) (h : n ≤ f.length + t * g.length) : (f ++ rep t g).take n = (List.range n).map (sg f g) := by
  have hl : (f ++ rep t g).length = f.length + t * g.length := by rw [List.length_append, rep_length]
  refine ext_getD (by rw [List.length_map, List.length_range, List.length_take, hl]; omega) fun i hi => ?_
  rw [List.length_take, hl] at hi
  have hi2 : i < n := by omega
  rw [getD_take hi2, List.getD_eq_getElem?_getD (l := List.map _ _), List.getElem?_map, List.getElem?_range hi2]
  show _ = sg f g i
  unfold sg
  by_cases c : i < f.length
  · rw [if_pos c, getD_appL c]
  · rw [if_neg c, getD_appR (by omega), rep_getD t _ (by omega)]
    rfl
theorem map_range_take (s : Nat → Nat) {n m : Nat} (h : m ≤ n) : ((List.range n).map s).take m = (List.range m).map s := by
  rw [← List.map_take, List.take_range, Nat.min_eq_left h]
/-- the piece of the line that is the loop -/
theorem loop_piece {f g : List Nat} {n : Nat} (h : f.length + g.length ≤ n) : (((List.range n).map (sg f g)).drop f.length).take g.length = g := by
  refine ext_getD (by rw [List.length_take, List.length_drop, List.length_map, List.length_range]; omega) fun i hi => ?_
  rw [List.length_take, List.length_drop, List.length_map, List.length_range] at hi
  rw [getD_take (by omega), List.getD_eq_getElem?_getD, List.getElem?_drop, List.getElem?_map, List.getElem?_range (by omega)]
  show sg f g (f.length + i) = _
  rw [sg_far (by omega), show f.length + i - f.length = i by omega, lp_lt (by omega)]
theorem head_piece {f g : List Nat} {n : Nat} (h : f.length ≤ n) : ((List.range n).map (sg f g)).take f.length = f := by
  rw [map_range_take _ h, sg_map_head (Nat.le_refl _), List.take_length]
/-- the same row with a turn of the loop in its head -/
theorem sg_longer {h l : List Nat} (hp : 0 < l.length) {t : Nat} (ht : 0 < t) (n : Nat) : sg (h ++ l) (rep t l) n = sg h l n := by
  unfold sg
  rw [List.length_append]
  by_cases c : n < h.length
  · rw [if_pos c, if_pos (by omega), getD_appL c]
  · rw [if_neg c]
    by_cases c2 : n < h.length + l.length
    · rw [if_pos c2, getD_appR (by omega), lp_lt (by omega)]
    · rw [if_neg c2, lp_rep hp ht, ← lp_add1 l, show n - (h.length + l.length) + l.length = n - h.length by omega]
end Rw

namespace R5
open PySem PySem.Spec PyProof.Rows L2
def top (i : Nat) : Stmt := PySem.Challenge.pw_wovenplaces_k25_rows_that_come_round.main.body.getD i (.Pass ⟨0, 0, 0, 0⟩)
abbrev c_WrongValue : Stmt := top 1
abbrev c_InvalidNumber : Stmt := top 2
abbrev s_InvalidNumber_init : Stmt := inClass (top 2) 0
abbrev c_InvalidText : Stmt := top 3
abbrev s_InvalidText_init : Stmt := inClass (top 3) 0
abbrev s_is_integer : Stmt := top 6
abbrev s_is_count : Stmt := top 8
abbrev s_check_count : Stmt := top 9
abbrev c_Round : Stmt := top 11
abbrev s_Round_init : Stmt := inClass (top 11) 0
abbrev s_Round_head : Stmt := inClass (top 11) 1
abbrev s_Round_loop : Stmt := inClass (top 11) 2
abbrev s_Round_getitem : Stmt := inClass (top 11) 3
abbrev s_Round_iter : Stmt := inClass (top 11) 4
abbrev s_Round_first : Stmt := inClass (top 11) 5
abbrev s_Round_eq : Stmt := inClass (top 11) 6
abbrev s_Round_str : Stmt := inClass (top 11) 7
abbrev s_Round_repr : Stmt := inClass (top 11) 8
abbrev s_check_lettered : Stmt := top 12
abbrev s_shortest_loop : Stmt := top 13
abbrev s_turned_back : Stmt := top 14
abbrev s_law_deck : Stmt := top 16
abbrev s_law_card : Stmt := top 17
abbrev s_law_of : Stmt := top 18
abbrev s_law_far : Stmt := top 19
abbrev s_law_string : Stmt := top 20
abbrev s_law_sign : Stmt := top 21
abbrev s_law_least : Stmt := top 22
abbrev s_law_drawn : Stmt := top 23
abbrev s_law_right : Stmt := top 24
abbrev s_law : Stmt := top 25
end R5

namespace R5
open PySem PySem.Spec PyProof.Rows L2 Hx Rw
/-- a deck: a list of three ints at d, the first two not negative -/
def DeckAt (H : Hp) (d : Addr) : Prop := ∃ a m c : Int, 0 ≤ a ∧ 0 ≤ m ∧ H d = some (.lst [.int a, .int m, .int c])
def spDeck (K : PySem.W.Frag) : Sp := fun vs H Q _ => ∃ (a : Addr) (ns : List Int) (t : Nat), vs = [.ref a, .int t] ∧
  SqL K H a (ns.map V.int) ∧ ns.length ≤ 63 ∧ ∀ p H', Same H H' → H p = none → DeckAt H' p → Q (.ref p) H'
section
variable {P : Program} {w : World} {K : PySem.W.Frag} {mg : Str → Option Value} {base : Heap}
theorem scDeck : FnScope ["_law_cells", "_law_turn", "_law_cell", "_law_mixed", "_law_each"] ["_law_cells", "_law_turn"] (defScope s_law_deck) :=
  ⟨rfl, rfl, rfl, by decide +kernel, rfl, by decide +kernel, by decide +kernel⟩
theorem ok_deck {f : Addr} {fd : FuncData} (F : Fun K "_law_deck" "_law_deck" s_law_deck f fd) (ml : mg "len" = none) (mi : mg "int" = none)
    (ma : mg "abs" = none) : FnOk P w K mg base CX0 1 f fd ["_law_cells", "_law_turn"] (spDeck K) := by
  refine F.ok scDeck (fun vs H Q E h => ?_) (fun cdv A outer s H vs Q E hr h => ?_)
  · obtain ⟨a, ns, t, rfl, _⟩ := h
    rfl
  obtain ⟨a, ns, t, rfl, hS, h63, q⟩ := h
  refine ⟨_, pss_cons (ps_set (i := 2) scDeck.nd rfl (Or.inl rfl)
      (pe_ifExp (pt_cmpR op_lt (pv 1) (pe_callB call_len_seq (by rfl) ml PySem.boot_len (pa_cons (pv 0) pa_nil)) (nomark _))
        (pe_ix ix_list (pv 0) (pv 1) (fun _ _ => rfl)) (pe_op op_add (pe_op op_mul pe_int (pv 1)) pe_int)))
    (pss_cons (ps_set (i := 3) scDeck.nd rfl (Or.inl rfl) (pe_op op_add pe_int (pe_op op_mul pe_int (pv 1))))
    (pss_cons (ps_for PassesOwn.never rfl (pi_list (pe_op op_cat (pe_slice sl_list (pv 0) po_none (po_some pe_int)) (pe_lst (pa_cons (pv 2) pa_nil))))
        (pg_name (i := 4) scDeck.nd rfl (Or.inl rfl))
        (pss_one (ps_set (i := 3) scDeck.nd rfl (Or.inl rfl)
          (pe_op op_mod (pe_callTy call_int1 (by rfl) mi PyProof.Rows.boot_int (pa_cons (pe_op op_add (pe_op op_mul (pv 3) pe_int) (pv 4)) pa_nil)) pe_int))))
    (pss_one (ps_ret (pe_lst (pa_cons
        (pe_ifExp (PW.pt (pw_or (pt_cmpR op_lt (pv 2) pe_int (nomark _)) (pw_or1 (pt_cmpR op_ge (pv 2) (pe_op op_pow pe_int pe_int) (nomark _)))))
          (pe_callB call_abs (by rfl) ma PyProof.Rows.boot_abs (pa_cons (pv 2) pa_nil)) pe_int)
        (pa_cons (pv 3) (pa_cons pe_int pa_nil)))))))), ?_⟩
  have hl : (ns.map V.int).length = ns.length := List.length_map _
  refine asg_join (fun v H' => H = H' ∧ ∃ c : Int, v = .int c) (fun Q' hQ => ?_) ?_
  · refine ⟨_, rfl, _, rfl, a, _, rfl, .inl hS, _, _, rfl, rfl, _, rfl, ?_⟩
    refine ite2 (fun c => ?_) (fun c => ?_)
    · have c' : (t : Int) < (((ns.map V.int).length : Nat) : Int) := of_decide_eq_true c
      have hlt : t < ns.length := by rw [hl] at c'; omega
      refine ⟨_, rfl, _, rfl, a, _, _, _, rfl, rfl, hS, atI_nat (j := t) (v := V.int ns[t]) ?_, hQ _ _ ⟨rfl, _, rfl⟩⟩
      rw [List.getElem?_map, List.getElem?_eq_getElem hlt]
      rfl
    · exact ⟨_, rfl, _, _, rfl, rfl, .inl ⟨by decide, by decide⟩, _, _, rfl, rfl, hQ _ _ ⟨rfl, _, rfl⟩⟩
  rintro _ _ ⟨rfl, c, rfl⟩
  refine ⟨_, rfl, _, _, rfl, rfl, .inl ⟨by decide, by decide⟩, _, _, rfl, rfl, ?_⟩
  refine ⟨_, rfl, _, rfl, a, _, rfl, hS, fun l hl0 => ?_⟩
  refine ⟨_, rfl, (by show 1 ≤ sizeLine; decide), fun l2 hl2 => ?_⟩
  have hcut := cutV_length (ns.map V.int) none (some 4)
  have allInt : ∀ x ∈ cutV (ns.map V.int) none (some 4) ++ [V.int c], ∃ i, x = V.int i := by
    intro x hx
    rcases List.mem_append.mp hx with hx | hx
    · have hx2 : x ∈ ns.map V.int := List.mem_of_mem_drop (List.mem_of_mem_take hx)
      obtain ⟨i, _, rfl⟩ := List.mem_map.mp hx2
      exact ⟨i, rfl⟩
    · exact ⟨c, by simpa using hx⟩
  refine ⟨l, l2, _, _, rfl, rfl, upd_other upd_same hl2, upd_same, small_line ?_, fun l3 hl3 => ?_⟩
  · rw [List.length_singleton]
    omega
  have s3 : Same H (upd (upd (upd H l (.lst (cutV (ns.map V.int) none (some 4)))) l2 (.lst [V.int c])) l3 (.lst (cutV (ns.map V.int) none (some 4) ++ [V.int c]))) :=
    ((same_new hl0 _).trans (same_new hl2 _)).trans (same_new hl3 _)
  refine ⟨l3, rfl, ⟨_, SqL.of upd_same⟩, for_list (K := K) (a := l3) (xs := cutV (ns.map V.int) none (some 4) ++ [V.int c])
    (fun _ σ H' => Same H H' ∧ H' l3 = some (.lst (cutV (ns.map V.int) none (some 4) ++ [V.int c])) ∧
      ∃ (m : Int) (v : Option V), 0 ≤ m ∧ σ = [some (.ref a), some (.int t), some (.int c), some (.int m), v])
    ⟨s3, upd_same, _, none, ?_, rfl⟩ (fun _ _ _ _ h => SqL.of h.2.1) ?_ ?_⟩
  · omega
  · rintro i x σ H' hx ⟨s4, h4, m, v, hm, rfl⟩
    obtain ⟨n, rfl⟩ := allInt x (List.mem_of_getElem? hx)
    refine ⟨_, rfl, _, _, rfl, rfl, .inr ⟨by decide, by decide⟩, _, rfl, _, _, rfl, rfl, .inl ⟨_, rfl, ?_⟩⟩
    exact ⟨_, _, rfl, rfl, (by decide : (0 : Int) < 2147483629), s4, h4, _, some (.int n), Int.emod_nonneg _ (by decide), rfl⟩
  · rintro σ H' ⟨s4, h4, m, v, hm, rfl⟩
    dsimp only
    refine ret_lst_join (fun v H2 => H' = H2 ∧ ∃ b : Int, 0 ≤ b ∧ v = .int b) (fun Q' hQ => ?_) ?_
    · refine ⟨_, rfl, _, _, rfl, rfl, _, rfl, ?_⟩
      refine ite2 (fun c0 => ?_) (fun c0 => ?_)
      · refine iteT ⟨_, rfl, _, rfl, hQ _ _ ⟨rfl, _, ?_, rfl⟩⟩
        split <;> omega
      · refine ⟨_, rfl, _, _, rfl, rfl, ⟨by decide, by decide, by decide⟩, _, _, rfl, rfl, _, rfl, ?_⟩
        refine ite2 (fun c1 => ?_) (fun c1 => ?_)
        · refine ⟨_, rfl, _, rfl, hQ _ _ ⟨rfl, _, ?_, rfl⟩⟩
          split <;> omega
        · exact hQ _ _ ⟨rfl, 0, Int.le_refl 0, rfl⟩
    rintro _ _ ⟨rfl, b, hb, rfl⟩
    refine ⟨_, rfl, (by show 3 ≤ sizeLine; decide), fun p hp => ?_⟩
    exact q p _ (s4.trans (same_new hp _)) (s4.free hp) ⟨b, m, 0, hb, hm, upd_same⟩
def spCard : Sp := fun vs H Q _ => ∃ (d : Addr) (t : Int), vs = [.ref d, .int t] ∧ 0 < t ∧ t < 1073741824 ∧ DeckAt H d ∧
  ∀ r H', 0 ≤ r → r < t → But d H H' → DeckAt H' d → Q (.int r) H'
theorem scCard : FnScope ["_law_deck_here", "_law_top", "_law_figure"] ["_law_deck_here", "_law_top"] (defScope s_law_card) :=
  ⟨rfl, rfl, rfl, by decide +kernel, rfl, by decide +kernel, by decide +kernel⟩
theorem ok_card {f : Addr} {fd : FuncData} (F : Fun K "_law_card" "_law_card" s_law_card f fd) (mi : mg "int" = none) (md : mg "divmod" = none) :
    FnOk P w K mg base CX0 1 f fd ["_law_deck_here", "_law_top"] spCard := by
  refine F.ok scCard (fun vs H Q E h => ?_) (fun cdv A outer s H vs Q E hr h => ?_)
  · obtain ⟨d, t, rfl, _⟩ := h
    rfl
  obtain ⟨d, t, rfl, t0, t1, ⟨a, m, c, a0, m0, hd⟩, q⟩ := h
  refine ⟨_, pss_cons (ps_asg (pe_op op_add (pe_ix ix_list (pv 0) pe_int (fun _ _ => rfl)) pe_int) (pg_sub (pv 0) pe_int set_list))
    (pss_cons (ps_if (pt_cmpR op_gt (pe_ix ix_list (pv 0) pe_int (fun _ _ => rfl)) pe_int (nomark _))
      (pss_cons (ps_asg (pe_callB call_divmod (by rfl) md PyProof.Rows.boot_divmod (pa_cons (pe_ix ix_list (pv 0) pe_int (fun _ _ => rfl)) (pa_cons (pv 1) pa_nil)))
          (pg_tup (by rfl) (pgs_cons (pg_sub (pv 0) pe_int set_list) (pgs_cons (pg_name (i := 2) scCard.nd rfl (Or.inl rfl)) pgs_nil))))
        (pss_one (ps_ret (pv 2)))) pss_nil)
    (pss_cons (ps_asg (pe_op op_mod (pe_callTy call_int1 (by rfl) mi PyProof.Rows.boot_int (pa_cons
        (pe_op op_add (pe_op op_mul (pe_ix ix_list (pv 0) pe_int (fun _ _ => rfl)) pe_int) (pe_op op_mul pe_int (pe_ix ix_list (pv 0) pe_int (fun _ _ => rfl)))) pa_nil)) pe_int)
        (pg_sub (pv 0) pe_int set_list))
    (pss_one (ps_ret (pe_op op_mod (pe_callTy call_int1 (by rfl) mi PyProof.Rows.boot_int (pa_cons
        (pe_op op_fdiv (pe_ix ix_list (pv 0) pe_int (fun _ _ => rfl)) pe_int) pa_nil)) (pv 1)))))), ?_⟩
  refine ⟨_, rfl, d, _, _, _, rfl, rfl, SqL.of hd, rfl, _, _, rfl, rfl, _, rfl, d, _, _, _, rfl, rfl, hd, rfl, ?_⟩
  refine ⟨_, rfl, d, _, _, _, rfl, rfl, SqL.of upd_same, rfl, _, _, rfl, rfl, _, rfl, ?_⟩
  refine ite2 (fun c0 => ?_) (fun c0 => ?_)
  · refine ⟨_, rfl, d, _, _, _, rfl, rfl, SqL.of upd_same, rfl, _, rfl, _, _, rfl, ⟨t0, t1⟩, fun p hp => ?_⟩
    have npd : d ≠ p := ne_of_none upd_same hp
    refine ⟨p, _, rfl, SqT.of upd_same, rfl, _, _, rfl, ?_⟩
    refine ⟨_, rfl, d, _, _, _, rfl, rfl, by rw [upd_ne npd]; exact upd_same, rfl, ?_⟩
    refine ⟨_, _, rfl, rfl, _, rfl, ?_⟩
    refine q _ _ (Int.emod_nonneg _ (by omega)) (Int.emod_lt_of_pos _ t0) (((But.refl.upd _).new hp _).upd _) ⟨_, _, _, ?_, m0, upd_same⟩
    exact Int.ediv_nonneg a0 (by omega)
  · refine ⟨_, rfl, d, _, _, _, rfl, rfl, SqL.of upd_same, rfl, _, _, rfl, rfl, .inr ⟨by decide, by decide⟩, ?_⟩
    refine ⟨_, rfl, d, _, _, _, rfl, rfl, SqL.of upd_same, rfl, _, _, rfl, rfl, .inl ⟨by decide, by decide⟩, _, _, rfl, rfl, .inl ⟨_, rfl, ?_⟩⟩
    refine ⟨_, _, rfl, rfl, (by decide : (0 : Int) < 2147483629), ?_⟩
    refine ⟨_, rfl, d, _, _, _, rfl, rfl, upd_same, rfl, ?_⟩
    refine ⟨_, rfl, d, _, _, _, rfl, rfl, SqL.of upd_same, rfl, _, _, rfl, rfl, ⟨by decide, by decide⟩, .inl ⟨_, rfl, ?_⟩⟩
    refine ⟨_, rfl, _, _, rfl, rfl, t0, ?_⟩
    refine q _ _ (Int.emod_nonneg _ (by omega)) (Int.emod_lt_of_pos _ t0) ((But.refl.upd _).upd _) ⟨_, _, _, a0, Int.emod_nonneg _ (by decide), upd_same⟩
end
/-! ### texts as lists of signs -/
def T (l : List Nat) : Str := ⟨l.toArray⟩
theorem T_tl (l : List Nat) : (T l).cps.toList = l := rfl
theorem T_len (l : List Nat) : (T l).length = l.length := by
  show l.toArray.size = l.length
  rw [List.size_toArray]
theorem T_ext {x : Str} {l : List Nat} (h : x.cps.toList = l) : x = T l := TL.ext_tl h
theorem T_inj {l m : List Nat} (h : T l = T m) : l = m := by
  have := congrArg (fun x : Str => x.cps.toList) h
  exact this
theorem T_add (l m : List Nat) : T l ++ T m = T (l ++ m) := T_ext (TL.tl_append _ _)
theorem T_cutN (l : List Nat) {n : Int} (h0 : 0 ≤ n) : cutS (T l) none (some n) = T (l.take n.toNat) := by
  refine T_ext ?_
  show ((l.drop (HT.sIx (T l).length 0 none)).take (HT.sIx (T l).length (T l).length (some n) - HT.sIx (T l).length 0 none)) = _
  rw [T_len]
  have e1 : HT.sIx l.length 0 none = 0 := rfl
  have e2 : HT.sIx l.length l.length (some n) = min n.toNat l.length := by
    unfold HT.sIx
    simp only
    split <;> omega
  rw [e1, e2, List.drop_zero, Nat.sub_zero]
  by_cases c : n.toNat ≤ l.length
  · rw [Nat.min_eq_left c]
  · rw [Nat.min_eq_right (by omega), List.take_length, List.take_of_length_le (by omega)]
theorem T_cutD (l : List Nat) {n : Int} (h0 : 0 ≤ n) : cutS (T l) (some n) none = T (l.drop n.toNat) := by
  refine T_ext ?_
  show ((l.drop (HT.sIx (T l).length 0 (some n))).take (HT.sIx (T l).length (T l).length none - HT.sIx (T l).length 0 (some n))) = _
  rw [T_len]
  have e1 : HT.sIx l.length l.length none = l.length := rfl
  have e2 : HT.sIx l.length 0 (some n) = min n.toNat l.length := by
    unfold HT.sIx
    simp only
    split <;> omega
  rw [e1, e2]
  by_cases c : n.toNat ≤ l.length
  · rw [Nat.min_eq_left c, List.take_of_length_le (by rw [List.length_drop]; exact Nat.le_refl _)]
  · rw [Nat.min_eq_right (by omega), Nat.sub_self, List.take_zero, List.drop_of_length_le (by omega)]
theorem T_cutB (l : List Nat) {n : Int} (h0 : n < 0) : cutS (T l) (some n) none = T (l.drop (l.length - (-n).toNat)) := by
  refine T_ext ?_
  show ((l.drop (HT.sIx (T l).length 0 (some n))).take (HT.sIx (T l).length (T l).length none - HT.sIx (T l).length 0 (some n))) = _
  rw [T_len]
  have e1 : HT.sIx l.length l.length none = l.length := rfl
  have e2 : HT.sIx l.length 0 (some n) = l.length - (-n).toNat := by
    unfold HT.sIx
    simp only
    split <;> omega
  rw [e1, e2, List.take_of_length_le (by rw [List.length_drop]; exact Nat.le_refl _)]
theorem foldl_reps (a : Array Nat) : ∀ (n : Nat) (acc : Array Nat), ((List.replicate n a).foldl (· ++ ·) acc).toList = acc.toList ++ rep n a.toList
  | 0, acc => by rw [rep_zero]; simp
  | n + 1, acc => by
    rw [List.replicate_succ, List.foldl_cons, foldl_reps a n, rep_succ, Array.toList_append, List.append_assoc]
theorem T_mul (l : List Nat) {n : Int} (h0 : 0 ≤ n) : Txt.mul (T l) n = T (rep n.toNat l) := by
  unfold Txt.mul
  by_cases c : n < 1
  · rw [if_pos c]
    have : n = 0 := by omega
    subst this
    rfl
  · rw [if_neg c]
    by_cases c2 : (n == 1 || (T l).length == 0) = true
    · rw [if_pos c2]
      simp only [Bool.or_eq_true, beq_iff_eq] at c2
      rcases c2 with rfl | c2
      · rw [show (1 : Int).toNat = 1 from rfl, rep_succ, rep_zero, List.append_nil]
      · rw [T_len] at c2
        obtain rfl := List.length_eq_zero_iff.mp c2
        have : rep n.toNat [] = [] := List.length_eq_zero_iff.mp (by rw [rep_length]; exact Nat.mul_zero _)
        rw [this]
    · rw [if_neg c2]
      refine T_ext ?_
      show ((List.replicate n.toNat (T l).cps).foldl (· ++ ·) #[]).toList = _
      rw [foldl_reps]
      rfl
theorem mulOk {l : List Nat} {n : Int} (h0 : 0 ≤ n) (h1 : n ≤ 1000) (h2 : l.length ≤ 1000) : MulOk (T l) n := by
  refine ⟨by simp; omega, fun c _ => ?_, fun _ _ => ?_⟩
  · rw [T_len]
    have hm : (l.length : Int) * n ≤ 1000 * 1000 := Int.mul_le_mul (by omega) h1 h0 (by decide)
    have : (l.length : Int) ≤ (2 ^ 63 - 1) / n := Int.le_ediv_of_mul_le (by omega) (Int.le_trans hm (by decide))
    omega
  · rw [T_len]
    have : l.length * n.toNat ≤ 1000 * 1000 := Nat.mul_le_mul h2 (by omega)
    unfold Builtin.Str.tooLong
    exact decide_eq_false (by have : 1000 * 1000 < sizeLine := by decide
                              omega)
end R5

namespace R5
open PySem PySem.Spec PyProof.Rows L2 Hx Rw
structure Bl (mg : Str → Option Value) : Prop where
  isinstance : mg "isinstance" = none
  len : mg "len" = none
  all : mg "all" = none
  str : mg "str" = none
  int : mg "int" = none
  bool : mg "bool" = none
  range : mg "range" = none
  min : mg "min" = none
  max : mg "max" = none
  abs : mg "abs" = none
  divmod : mg "divmod" = none
  repr : mg "repr" = none
  list : mg "list" = none
def abc : Str := "abcdefghijklmnopqrstuvwxyz"
def letter (c : Nat) : Bool := decide (c ∈ abc.cps.toList)
/-- small text of letters -/
def Good (l : List Nat) : Prop := l.length ≤ 1000 ∧ l.all letter = true
theorem good_line {l : List Nat} (g : l.length ≤ 1000) : (T l).length ≤ sizeLine := by
  rw [T_len]
  exact small_line g
def spChk : Sp := fun vs H Q _ => ∃ (l : List Nat) (k : Int), vs = [.str (T l), .int k] ∧ k ≤ (l.length : Int) ∧ Good l ∧ ∀ H', Same H H' → Q .non H'
section
variable {P : Program} {w : World} {K : PySem.W.Frag} {mg : Str → Option Value} {base : Heap} {f : Addr} {fd : FuncData}
theorem scChk : FnScope ["given", "least", "letter"] ["given", "least"] (defScope s_check_lettered) := ⟨rfl, rfl, rfl, by decide +kernel, rfl, by decide +kernel, by decide +kernel⟩
theorem ok_chk (F : Fun K "check_lettered" "check_lettered" s_check_lettered f fd) (Z : Bl mg) (ml : ∃ t, mg "LETTERS" = some (.str abc t)) : FnOk P w K mg base CX0 1 f fd ["given", "least"] spChk := by
  refine F.ok scChk (fun vs H Q E h => ?_) (fun cdv A outer s H vs Q E hr h => ?_)
  · obtain ⟨l, k, rfl, _⟩ := h
    rfl
  obtain ⟨l, k, rfl, hk, ⟨few, good⟩, q⟩ := h
  obtain ⟨tl, ml⟩ := ml
  refine ⟨_, pss_one (ps_if (PW.pt (pw_or (pt_not (pt_val (pe_callB call_isi (by rfl) Z.isinstance PyProof.Rows.boot_isinstance (pa_cons (pv 0) (pa_cons (pe_bty (T := "str") rfl Z.str (by decide +kernel)) pa_nil)))))
      (pw_or (pt_cmpR op_lt (pe_callB call_len_str (by rfl) Z.len PySem.boot_len (pa_cons (pv 0) pa_nil)) (pv 1) (nomark _))
      (pw_or1 (pt_not (pt_val (pe_callB (cr_all rfl) (by rfl) Z.all PyProof.Rows.boot_all (pa_cons (pe_lc (own := [("letter", 2)]) (g := gName 2) (tt := tYes) rfl scChk.nd (pi_str (pv 0))
        (blkOk_by (N := ["given", "least", "letter"]) (sc := defScope s_check_lettered) (by decide +kernel)) (fun _ _ _ _ _ => pg_name (i := 2) scChk.nd rfl (Or.inl rfl)) (fun _ _ _ _ _ => pts_nil)
        (fun _ _ _ _ _ => pe_cmpR op_in_sign (pv 2) (pe_glob (v := .str abc) rfl ml ⟨_, rfl⟩) (by rfl))) pa_nil)))))))) (pss_one ps_dead) pss_nil), ?_⟩
  have small := good_line few
  refine ⟨_, rfl, _, _, .type "str", _, true, rfl, .ty "str", .base (.str _), kit_ty (by decide +kernel), _, rfl, iteF ?_⟩
  refine ⟨_, rfl, _, rfl, small, _, rfl, _, _, rfl, rfl, _, rfl, ?_⟩
  rw [T_len, decide_eq_false (by omega)]
  refine iteF ?_
  refine ⟨_, rfl, _, rfl, fun D hD => ?_⟩
  refine L2.lc_it L2.walk_str (fun i H' => Same H H' ∧ H' D = some (.lst (((l.take i).map letter).map V.bl))) ⟨same_new hD _, upd_same⟩ (fun _ _ _ _ => trivial) ?_ ?_
  · rintro i _ H1 _ hi ⟨s1, h1⟩ ⟨rfl, c, hc, rfl⟩
    refine ⟨rfl, turn_yes ⟨_, rfl, c, abc, rfl, rfl, ?_⟩⟩
    have hc2 : l[i]? = some c := by
      have : (T l).cps.toList[i]? = some c := by rw [Array.getElem?_toList]; exact hc
      exact this
    refine ⟨_, h1, ?_, fun b o hb => ?_, ?_⟩
    · rw [List.length_map, List.length_map, List.length_take]
      exact Nat.lt_of_le_of_lt (Nat.le_trans (Nat.min_le_right _ _) few) (by decide)
    · rw [upd_ne (ne_of_none hb hD)]
      exact s1 b o hb
    · rw [upd_same, List.take_add_one, hc2, List.map_append, List.map_append]
      rfl
  · rintro H1 ⟨s1, h1⟩
    rw [List.take_of_length_le (by show l.length ≤ l.toArray.size; rw [List.size_toArray]; exact Nat.le_refl _)] at h1
    refine ⟨D, _, rfl, SqL.of h1, _, rfl, ?_⟩
    dsimp only
    rw [List.all_map]
    have e : l.all (id ∘ letter) = true := good
    rw [e]
    exact iteF (q H1 s1)
/-- the shortest string that makes the loop -/
def spShort : Sp := fun vs H Q _ => ∃ l : List Nat, vs = [.str (T l)] ∧ 0 < l.length ∧ l.length ≤ 1000 ∧ ∀ a, Least a l → a.length ≤ l.length → Q (.str (T a)) H
theorem scShort : FnScope ["loop", "many"] ["loop"] (defScope s_shortest_loop) := ⟨rfl, rfl, rfl, by decide +kernel, rfl, by decide +kernel, by decide +kernel⟩
theorem rep_take {l b : List Nat} {n : Nat} (hn : 0 < n) (e : l = rep n b) : l.take b.length = b := by
  obtain ⟨m, rfl⟩ : ∃ m, n = m + 1 := ⟨n - 1, by omega⟩
  rw [e, rep_succ, List.take_left]
theorem ok_short (F : Fun K "shortest_loop" "shortest_loop" s_shortest_loop f fd) (Z : Bl mg) : FnOk P w K mg base CX0 1 f fd ["loop"] spShort := by
  refine F.ok scShort (fun vs H Q E h => ?_) (fun cdv A outer s H vs Q E hr h => ?_)
  · obtain ⟨l, rfl, _⟩ := h
    rfl
  obtain ⟨l, rfl, pos, few, q⟩ := h
  have small := good_line few
  refine ⟨_, pss_cons (ps_for PassesOwn.never rfl (pi_range2 rfl Z.range (pa_cons pe_int (pa_cons (pe_callB call_len_str (by rfl) Z.len PySem.boot_len (pa_cons (pv 0) pa_nil)) pa_nil))) (pg_name (i := 1) scShort.nd rfl (Or.inl rfl))
      (pss_one (ps_if (PW.pt (pw_and (pt_cmpR op_eq (pe_op op_mod (pe_callB call_len_str (by rfl) Z.len PySem.boot_len (pa_cons (pv 0) pa_nil)) (pv 1)) pe_int (nomark _))
          (pw_and1 (pt_cmpR op_eq (pe_op op_mul_str (pe_slice sl_str (pv 0) po_none (po_some (pv 1))) (pe_op op_fdiv (pe_callB call_len_str (by rfl) Z.len PySem.boot_len (pa_cons (pv 0) pa_nil)) (pv 1))) (pv 0) (nomark _)))))
        (pss_one (ps_ret (pe_slice sl_str (pv 0) po_none (po_some (pv 1))))) pss_nil)))
    (pss_one (ps_ret (pv 0))), ?_⟩
  refine ⟨_, rfl, _, rfl, small, _, _, rfl, ?_, ?_⟩
  · rw [T_len]
    omega
  rw [T_len]
  refine for_range (lo := 1) (fun i σ H' => H' = H ∧ (∃ v, σ = [some (.str (T l)), v]) ∧ ∀ m, 0 < m → m < i + 1 → ∀ b : List Nat, b.length = m → ∀ n, l ≠ rep n b) ⟨rfl, ⟨none, rfl⟩, fun m m0 m1 => by omega⟩ ?_ ?_
  · rintro i σ H' hi ⟨rfl, ⟨v, rfl⟩, inv⟩
    have hi2 : i + 1 < l.length := by omega
    refine ⟨_, rfl, _, rfl, small, _, rfl, _, _, rfl, rfl, by omega, rfl, _, rfl, ?_⟩
    rw [T_len]
    have go : (¬ ∃ n, l = rep n (l.take (i + 1))) → ∀ m, 0 < m → m < i + 1 + 1 → ∀ b : List Nat, b.length = m → ∀ n, l ≠ rep n b := by
      intro no m m0 m1 b hb n e
      by_cases c : m < i + 1
      · exact inv m m0 c b hb n e
      · have : m = i + 1 := by omega
        subst this
        have n0 : 0 < n := by
          rcases Nat.eq_zero_or_pos n with rfl | z
          · rw [rep_zero] at e
            rw [e] at pos
            exact absurd pos (Nat.lt_irrefl _)
          · exact z
        refine no ⟨n, ?_⟩
        have := rep_take n0 e
        rw [hb] at this
        rw [this]
        exact e
    refine ite2 (fun c => ?_) (fun c => ?_)
    · have c' : (l.length : Int) % (1 + (i : Int)) = 0 := by
        have := of_decide_eq_true c
        exact V.int.inj this
      have hm : (i + 1) ∣ l.length := by
        refine Nat.dvd_of_mod_eq_zero ?_
        have e1 : (1 + (i : Int)) = ((i + 1 : Nat) : Int) := by omega
        rw [e1] at c'
        omega
      have ec : cutS (T l) none (some (1 + (i : Int))) = T (l.take (i + 1)) := by
        rw [T_cutN l (by omega)]
        congr 2
        omega
      have ed : (l.length : Int) / (1 + (i : Int)) = ((l.length / (i + 1) : Nat) : Int) := by
        rw [show (1 + (i : Int)) = ((i + 1 : Nat) : Int) by omega]
        exact (Int.natCast_ediv _ _).symm
      have tk : (l.take (i + 1)).length = i + 1 := by
        rw [List.length_take]
        omega
      have dl : l.length / (i + 1) ≤ 1000 := Nat.le_trans (Nat.div_le_self _ _) few
      have z0 : (0 : Int) ≤ ((l.length / (i + 1) : Nat) : Int) := Int.natCast_nonneg _
      have z1 : ((l.length / (i + 1) : Nat) : Int) ≤ 1000 := Int.ofNat_le.mpr dl
      refine ⟨_, rfl, _, rfl, _, rfl, _, rfl, small, _, rfl, _, rfl, small, _, rfl, _, _, rfl, rfl, ⟨by omega, by omega⟩, ?_⟩
      dsimp only
      rw [ec, T_len, ed]
      refine ⟨_, _, rfl, rfl, mulOk z0 z1 (by rw [tk]; omega), _, rfl, rfl, _, rfl, ?_⟩
      rw [T_mul _ z0, Int.toNat_natCast]
      refine ite2 (fun d => ?_) (fun d => ?_)
      · have d' : rep (l.length / (i + 1)) (l.take (i + 1)) = l := T_inj (V.str.inj (of_decide_eq_true d))
        refine ⟨_, rfl, _, rfl, _, rfl, _, rfl, small, ?_⟩
        rw [ec]
        refine q _ ⟨by rw [tk]; omega, ⟨_, Nat.div_pos (by omega) (by omega), d'.symm⟩, fun m m0 m1 b hb n => inv m m0 (by omega) b hb n⟩ (by rw [tk]; omega)
      · refine ⟨rfl, ⟨_, rfl⟩, go ?_⟩
        rintro ⟨n, e⟩
        refine d (decide_eq_true ?_)
        have hl := congrArg List.length e
        rw [rep_length, tk] at hl
        rw [hl, Nat.mul_div_cancel _ (by omega), ← e]
    · refine ⟨rfl, ⟨_, rfl⟩, go ?_⟩
      rintro ⟨n, e⟩
      refine c (decide_eq_true ?_)
      have hl := congrArg List.length e
      have tk : (l.take (i + 1)).length = i + 1 := by
        rw [List.length_take]
        omega
      rw [rep_length, tk] at hl
      show V.int ((l.length : Int) % (1 + (i : Int))) = V.int 0
      rw [hl, show (1 + (i : Int)) = ((i + 1 : Nat) : Int) by omega, Int.natCast_mul, Int.mul_emod_left]
  · rintro σ H' ⟨rfl, ⟨v, rfl⟩, inv⟩
    refine ⟨_, rfl, q l ⟨pos, ⟨1, Nat.one_pos, ?_⟩, fun m m0 m1 b hb n => inv m m0 ?_ b hb n⟩ (Nat.le_refl _)⟩
    · rw [rep_succ, rep_zero, List.append_nil]
    · omega
/-- how many signs of the head go on backwards as the loop does -/
def spBack : Sp := fun vs H Q _ => ∃ h a : List Nat, vs = [.str (T h), .str (T a)] ∧ 0 < a.length ∧ a.length ≤ 1000 ∧ h.length ≤ 1000 ∧ ∀ many, Back many h a → Q (.int (many : Nat)) H
theorem scBack : FnScope ["head", "loop", "many"] ["head", "loop"] (defScope s_turned_back) := ⟨rfl, rfl, rfl, by decide +kernel, rfl, by decide +kernel, by decide +kernel⟩
theorem atI_behind {l : List Nat} {m : Nat} (h : m < l.length) : atI (T l).cps.toList (-1 - (m : Int)) = some (l.getD (l.length - 1 - m) 0) := by
  show atI l (-1 - (m : Int)) = _
  unfold atI ixN
  rw [if_neg (by omega), if_pos (by omega)]
  show l[(-1 - (m : Int) + (l.length : Int)).toNat]? = _
  rw [show (-1 - (m : Int) + (l.length : Int)).toNat = l.length - 1 - m by omega, List.getElem?_eq_getElem (by omega), getD_get (by omega)]
theorem ok_back (F : Fun K "turned_back" "turned_back" s_turned_back f fd) (Z : Bl mg) : FnOk P w K mg base CX0 1 f fd ["head", "loop"] spBack := by
  refine F.ok scBack (fun vs H Q E h => ?_) (fun cdv A outer s H vs Q E hr h => ?_)
  · obtain ⟨h, a, rfl, _⟩ := h
    rfl
  obtain ⟨h, a, rfl, pos, fewa, fewh, q⟩ := h
  have sa := good_line fewa
  have sh := good_line fewh
  refine ⟨_, pss_cons (ps_set (i := 2) scBack.nd rfl (Or.inl rfl) pe_int)
    (pss_cons (ps_while PassesOwn.never (PW.pt (pw_and (pt_cmpR op_lt (pv 2) (pe_callB call_len_str (by rfl) Z.len PySem.boot_len (pa_cons (pv 0) pa_nil)) (nomark _))
        (pw_and1 (pt_cmpR op_eq (pe_ix ix_str (pv 0) (pe_op op_sub (pe_un un_neg pe_int) (pv 2)) (fun _ _ => rfl))
          (pe_ix ix_str (pv 1) (pe_op op_sub (pe_un un_neg pe_int) (pe_op op_mod (pv 2) (pe_callB call_len_str (by rfl) Z.len PySem.boot_len (pa_cons (pv 1) pa_nil)))) (fun _ _ => rfl)) (nomark _)))))
      (pss_one (ps_aug (i := 2) scBack.nd rfl (Or.inl rfl) pe_int ip_add)))
    (pss_one (ps_ret (pv 2)))), ?_⟩
  refine ⟨fun k σ H' => H' = H ∧ ∃ m : Nat, σ = [some (.str (T h)), some (.str (T a)), some (.int (m : Nat))] ∧ k = h.length - m ∧ m ≤ h.length ∧ ∀ i, i < m → h.getD (h.length - 1 - i) 0 = a.getD (a.length - 1 - i % a.length) 0,
    ⟨_, rfl, 0, rfl, rfl, Nat.zero_le _, fun i hi => absurd hi (Nat.not_lt_zero _)⟩, ?_⟩
  · rintro k σ H' ⟨rfl, m, rfl, rfl, le, same⟩
    refine ⟨_, rfl, _, rfl, _, rfl, sh, _, _, rfl, rfl, _, rfl, ?_⟩
    rw [T_len]
    refine ite2 (fun c => ?_) (fun c => ?_)
    · have c' : m < h.length := by
        have := of_decide_eq_true c
        omega
      have hm := Nat.mod_lt m pos
      have e1 := atI_behind (l := h) c'
      have e2 := atI_behind (l := a) hm
      refine ⟨_, rfl, _, rfl, _, rfl, _, _, rfl, rfl, _, _, _, rfl, rfl, sh, e1, ?_⟩
      refine ⟨_, rfl, _, rfl, _, rfl, _, rfl, _, rfl, sa, _, _, rfl, rfl, by rw [T_len]; omega, _, _, rfl, rfl, _, _, (a.getD (a.length - 1 - m % a.length) 0), rfl, rfl, sa, ?_, rfl, _, rfl, ?_⟩
      · rw [T_len, ← Int.natCast_emod]
        exact e2
      refine ite2 (fun d => ?_) (fun d => ?_)
      · have d' : h.getD (h.length - 1 - m) 0 = a.getD (a.length - 1 - m % a.length) 0 := by
          have z : (⟨#[h.getD (h.length - 1 - m) 0]⟩ : Str) = ⟨#[a.getD (a.length - 1 - m % a.length) 0]⟩ := V.str.inj (of_decide_eq_true d)
          have z2 := congrArg (fun x : Str => x.cps.toList) z
          exact List.head_eq_of_cons_eq z2
        refine ⟨fun σ' H'' => H'' = H' ∧ ∃ m' : Nat, σ' = [some (.str (T h)), some (.str (T a)), some (.int (m' : Nat))] ∧ m' = m + 1, ?_, ?_⟩
        · rintro σ' H'' ⟨rfl, m', rfl, rfl⟩
          refine ⟨h.length - (m + 1), by omega, rfl, m + 1, rfl, rfl, c', fun i hi => ?_⟩
          rcases Nat.lt_succ_iff_lt_or_eq.mp hi with z | rfl
          · exact same i z
          · exact d'
        · exact ⟨_, rfl, _, _, rfl, rfl, rfl, m + 1, rfl, rfl⟩
      · refine ⟨_, rfl, q m ⟨le, same, fun _ z => d (decide_eq_true ?_)⟩⟩
        rw [z]
    · refine iteF ⟨_, rfl, q m ⟨le, same, fun z => absurd ?_ c⟩⟩
      exact decide_eq_true (by omega)
end
end R5

namespace R5
open PySem PySem.Spec PyProof.Rows L2 Hx Rw
/-- what the text says of the class Round -/
structure Rd (K : PySem.W.Frag) (mg : Str → Option Value) (C : Addr) : Prop where
  cl : Cls K C
  nF : NoAttr K C "front"
  nA : NoAttr K C "again"
  gC : mg "Round" = some (.ref C)
  kS : PySem.W.kitOne K (.type "str") (.ref C) = some false
  kT : PySem.W.kitOne K (.type "tuple") (.ref C) = some false
  kC : PySem.W.kitOne K (.ref C) (.ref C) = some true
  ha : PySem.W.findIn K (.ref C) "__class__" = some (some (.builtin "object.__class__"))
  hn : PySem.W.specialIn K (.builtin "object.__class__") "__get__" = some (some (.builtin "getset_descriptor.__get__"))
  htk : PySem.W.takesIn K (.builtin "object.__class__") = some true
  hm : PySem.W.mroIn K C (.type "object") = some true
def fld (f g : List Nat) : List (Str × V) := [("front", .str (T f)), ("again", .str (T g))]
/-- a Round stands at a -/
def RoundAt (C : Addr) (H : Hp) (a : Addr) (f g : List Nat) : Prop := ∃ dx, H a = some (.ins C dx (fld f g))
theorem RoundAt.same {C : Addr} {H H' : Hp} {a : Addr} {f g : List Nat} (r : RoundAt C H a f g) (s : Same H H') : RoundAt C H' a f g := let ⟨dx, h⟩ := r; ⟨dx, s _ _ h⟩
def spIsInt : Sp := fun vs H Q _ => ∃ i : Int, vs = [.int i] ∧ Q (.bl true) H
def spCount : Sp := fun vs H Q _ => ∃ i : Int, vs = [.int i] ∧ 0 ≤ i ∧ Q .non H
def spInit (C : Addr) : Sp := fun vs H Q _ => ∃ (a dx : Addr) (h l : List Nat), vs = [.ref a, .str (T h), .str (T l)] ∧ H a = some (.ins C dx []) ∧ Good h ∧ Good l ∧ 0 < l.length ∧
  ∀ (least : List Nat) (many : Nat) (H' : Hp), Least least l → Back many h least → least.length ≤ l.length → But a H H' →
    H' a = some (.ins C dx (fld (h.take (h.length - many)) (turned (back many least.length) least))) → Q .non H'
def spItem (C : Addr) : Sp := fun vs H Q _ => ∃ (a : Addr) (n : Nat) (f g : List Nat), vs = [.ref a, .int (n : Nat)] ∧ RoundAt C H a f g ∧ f.length ≤ 1000 ∧ g.length ≤ 1000 ∧ 0 < g.length ∧ Q (.str (T [sg f g n])) H
def spFirst (C : Addr) : Sp := fun vs H Q _ => ∃ (a : Addr) (n : Nat) (f g : List Nat), vs = [.ref a, .int (n : Nat)] ∧ RoundAt C H a f g ∧ f.length ≤ 1000 ∧ g.length ≤ 1000 ∧ 0 < g.length ∧ n ≤ 100 ∧ Q (.str (T ((List.range n).map (sg f g)))) H
def spEq (C : Addr) : Sp := fun vs H Q _ => ∃ (a : Addr) (y : V) (f g : List Nat), vs = [.ref a, y] ∧ RoundAt C H a f g ∧
  (((∃ z : Str, y = .str z) ∧ Q (.bl false) H) ∨ ((∃ (b : Addr) (xs : List V), y = .ref b ∧ H b = some (.tup xs)) ∧ Q (.bl false) H) ∨
    ∃ (b : Addr) (f2 g2 : List Nat), y = .ref b ∧ RoundAt C H b f2 g2 ∧ Q (.bl (decide (f = f2 ∧ g = g2))) H)
def spStr (C : Addr) : Sp := fun vs H Q _ => ∃ (a : Addr) (f g : List Nat), vs = [.ref a] ∧ RoundAt C H a f g ∧ f.length ≤ 1000 ∧ g.length ≤ 1000 ∧ Q (.str (T (f ++ [40] ++ g ++ [41]))) H
def word : List Nat := [82, 111, 117, 110, 100, 40]
def spRepr (C : Addr) : Sp := fun vs H Q _ => ∃ (a : Addr) (f g : List Nat), vs = [.ref a] ∧ RoundAt C H a f g ∧ f.length ≤ 1000 ∧ g.length ≤ 1000 ∧ Q (.str (T (word ++ f ++ [40] ++ g ++ [41, 41]))) H
section
variable {P : Program} {w : World} {K : PySem.W.Frag} {mg : Str → Option Value} {base : Heap} {f C f1 f2 f3 : Addr} {fd fd1 fd2 fd3 : FuncData}
theorem scIsInt : FnScope ["value"] ["value"] (defScope s_is_integer) := ⟨rfl, rfl, rfl, by decide +kernel, rfl, by decide +kernel, by decide +kernel⟩
theorem ok_isint (F : Fun K "is_integer" "is_integer" s_is_integer f fd) (Z : Bl mg) : FnOk P w K mg base CX0 1 f fd ["value"] spIsInt := by
  refine F.ok scIsInt (fun vs H Q E h => ?_) (fun cdv A outer s H vs Q E hr h => ?_)
  · obtain ⟨i, rfl, _⟩ := h
    rfl
  obtain ⟨i, rfl, q⟩ := h
  refine ⟨_, pss_one (ps_ret (pe_and (pe_callB call_isi (by rfl) Z.isinstance PyProof.Rows.boot_isinstance (pa_cons (pv 0) (pa_cons (pe_bty (T := "int") rfl Z.int (by decide +kernel)) pa_nil)))
    (pe_one (pe_not (pe_callB call_isi (by rfl) Z.isinstance PyProof.Rows.boot_isinstance (pa_cons (pv 0) (pa_cons (pe_bty (T := "bool") rfl Z.bool (by decide +kernel)) pa_nil))))))), ?_⟩
  refine ⟨_, rfl, _, _, .type "int", _, true, rfl, .ty "int", .base (.int i), kit_ty (by decide +kernel), _, rfl, iteT ?_⟩
  exact ⟨_, rfl, _, _, .type "int", _, false, rfl, .ty "bool", .base (.int i), kit_ty (by decide +kernel), _, rfl, q⟩
def spIsCount : Sp := fun vs H Q _ => ∃ i : Int, vs = [.int i] ∧ Q (.bl (decide (0 ≤ i))) H
theorem scIsCount : FnScope ["value"] ["value"] (defScope s_is_count) := ⟨rfl, rfl, rfl, by decide +kernel, rfl, by decide +kernel, by decide +kernel⟩
theorem ok_iscount (F : Fun K "is_count" "is_count" s_is_count f fd)
    (G1 : FnOk P w K mg base CX0 1 f1 fd1 ["value"] spIsInt) (b1 : Binds K fd1 ["value"] []) (k1 : PySem.W.keepIn K (.ref f1) = true) (m1 : mg "is_integer" = some (.ref f1)) :
    FnOk P w K mg base CX0 2 f fd ["value"] spIsCount := by
  refine F.ok scIsCount (fun vs H Q E h => ?_) (fun cdv A outer s H vs Q E hr h => ?_)
  · obtain ⟨i, rfl, _⟩ := h
    rfl
  obtain ⟨i, rfl, q⟩ := h
  refine ⟨_, pss_one (ps_ret (pe_and (pe_call G1 hr rfl m1 k1 b1 .nil pass0 (pa_cons (pv 0) pa_nil)) (pe_one (pe_cmpR op_ge (pv 0) pe_int (nomark _))))), ?_⟩
  refine ⟨_, rfl, i, rfl, _, rfl, iteT ?_⟩
  exact ⟨_, rfl, _, _, rfl, rfl, q⟩
theorem scCount : FnScope ["given"] ["given"] (defScope s_check_count) := ⟨rfl, rfl, rfl, by decide +kernel, rfl, by decide +kernel, by decide +kernel⟩
theorem ok_count (F : Fun K "check_count" "check_count" s_check_count f fd)
    (G1 : FnOk P w K mg base CX0 2 f1 fd1 ["value"] spIsCount) (b1 : Binds K fd1 ["value"] []) (k1 : PySem.W.keepIn K (.ref f1) = true) (m1 : mg "is_count" = some (.ref f1)) :
    FnOk P w K mg base CX0 3 f fd ["given"] spCount := by
  refine F.ok scCount (fun vs H Q E h => ?_) (fun cdv A outer s H vs Q E hr h => ?_)
  · obtain ⟨i, rfl, _⟩ := h
    rfl
  obtain ⟨i, rfl, i0, q⟩ := h
  refine ⟨_, pss_one (ps_if (pt_not (pt_val (pe_call G1 hr rfl m1 k1 b1 .nil pass0 (pa_cons (pv 0) pa_nil)))) (pss_one ps_dead) pss_nil), ?_⟩
  refine ⟨_, rfl, i, rfl, ?_⟩
  rw [decide_eq_true i0]
  exact ⟨_, rfl, iteF q⟩
theorem neg_mod (m p : Nat) (hp : 0 < p) : (-(m : Int)) % (p : Int) = ((back m p : Nat) : Int) := by
  have hb := back_lt (many := m) hp
  have h2 := back_add (many := m) hp
  generalize back m p = b at hb h2 ⊢
  obtain ⟨k, hk⟩ := Nat.dvd_of_mod_eq_zero h2
  have e : (-(m : Int)) = (b : Int) + (p : Int) * (-(k : Int)) := by
    have : ((b + m : Nat) : Int) = ((p * k : Nat) : Int) := by rw [hk]
    rw [Int.natCast_add, Int.natCast_mul] at this
    rw [Int.mul_neg]
    omega
  rw [e, Int.add_mul_emod_self_left]
  exact Int.emod_eq_of_lt (Int.natCast_nonneg _) (Int.ofNat_lt.mpr hb)
theorem scInit : FnScope ["self", "head", "loop", "least", "many", "at"] ["self", "head", "loop"] (defScope s_Round_init) := ⟨rfl, rfl, rfl, by decide +kernel, rfl, by decide +kernel, by decide +kernel⟩
theorem ok_init (F : Fun K "__init__" "Round.__init__" s_Round_init f fd) (R : Rd K mg C) (Z : Bl mg)
    (G1 : FnOk P w K mg base CX0 1 f1 fd1 ["given", "least"] spChk) (b1 : Binds K fd1 ["given", "least"] []) (k1 : PySem.W.keepIn K (.ref f1) = true) (m1 : mg "check_lettered" = some (.ref f1))
    (G2 : FnOk P w K mg base CX0 1 f2 fd2 ["loop"] spShort) (b2 : Binds K fd2 ["loop"] []) (k2 : PySem.W.keepIn K (.ref f2) = true) (m2 : mg "shortest_loop" = some (.ref f2))
    (G3 : FnOk P w K mg base CX0 1 f3 fd3 ["head", "loop"] spBack) (b3 : Binds K fd3 ["head", "loop"] []) (k3 : PySem.W.keepIn K (.ref f3) = true) (m3 : mg "turned_back" = some (.ref f3)) :
    FnOk P w K mg base CX0 2 f fd ["self", "head", "loop"] (spInit C) := by
  refine F.ok scInit (fun vs H Q E h => ?_) (fun cdv A outer s H vs Q E hr h => ?_)
  · obtain ⟨a, dx, h, l, rfl, _⟩ := h
    rfl
  obtain ⟨a, dx, h, l, rfl, ha, gh, gl, pos, q⟩ := h
  refine ⟨_, pss_cons (ps_expr (pe_call G1 hr rfl m1 k1 b1 .nil pass0 (pa_cons (pv 1) (pa_cons pe_int pa_nil))))
    (pss_cons (ps_expr (pe_call G1 hr rfl m1 k1 b1 .nil pass0 (pa_cons (pv 2) (pa_cons pe_int pa_nil))))
    (pss_cons (ps_set (i := 3) scInit.nd rfl (Or.inl rfl) (pe_call G2 hr rfl m2 k2 b2 .nil pass0 (pa_cons (pv 2) pa_nil)))
    (pss_cons (ps_set (i := 4) scInit.nd rfl (Or.inl rfl) (pe_call G3 hr rfl m3 k3 b3 .nil pass0 (pa_cons (pv 1) (pa_cons (pv 3) pa_nil))))
    (pss_cons (ps_set (i := 5) scInit.nd rfl (Or.inl rfl) (pe_op op_mod (pe_un un_neg (pv 4)) (pe_callB call_len_str (by rfl) Z.len PySem.boot_len (pa_cons (pv 3) pa_nil))))
    (pss_cons (ps_fld (pv 0) (pe_slice sl_str (pv 1) po_none (po_some (pe_op op_sub (pe_callB call_len_str (by rfl) Z.len PySem.boot_len (pa_cons (pv 1) pa_nil)) (pv 4)))) rfl)
    (pss_one (ps_fld (pv 0) (pe_op op_add_str (pe_slice sl_str (pv 3) (po_some (pv 5)) po_none) (pe_slice sl_str (pv 3) po_none (po_some (pv 5)))) rfl))))))), ?_⟩
  refine ⟨_, rfl, h, 0, rfl, Int.natCast_nonneg _, gh, fun H1 s1 => ?_⟩
  refine ⟨_, rfl, l, 1, rfl, by omega, gl, fun H2 s2 => ?_⟩
  refine ⟨_, rfl, l, rfl, pos, gl.1, fun least L le => ?_⟩
  have p0 := L.pos
  refine ⟨_, rfl, _, rfl, h, least, rfl, p0, Nat.le_trans le gl.1, gh.1, fun many B => ?_⟩
  have hb := back_lt (many := many) p0
  have sl := good_line (Nat.le_trans le gl.1)
  have sh := good_line gh.1
  refine ⟨_, rfl, _, rfl, _, rfl, _, rfl, sl, _, _, rfl, rfl, by rw [T_len]; omega, ?_⟩
  have bl := B.le
  have e1 : cutS (T h) none (some (((T h).length : Int) - (many : Int))) = T (h.take (h.length - many)) := by
    rw [T_len, T_cutN _ (by omega), show ((h.length : Int) - (many : Int)).toNat = h.length - many by omega]
  have e2 : -(many : Int) % ((T least).length : Int) = ((back many least.length : Nat) : Int) := by
    rw [T_len, neg_mod _ _ p0]
  dsimp only
  rw [e2]
  have c1 := (s1.trans s2) _ _ ha
  refine ⟨_, rfl, _, rfl, _, rfl, sh, _, rfl, _, _, rfl, rfl, _, rfl, _, rfl, sh, ?_⟩
  rw [e1]
  refine ⟨_, rfl, a, C, dx, _, rfl, c1, R.cl, R.nF, (by show 0 < 1000; decide), ?_⟩
  refine ⟨_, rfl, _, rfl, _, rfl, _, rfl, sl, ?_⟩
  refine ⟨_, rfl, _, rfl, _, rfl, _, rfl, sl, ?_⟩
  rw [T_cutD _ (Int.natCast_nonneg _), T_cutN _ (Int.natCast_nonneg _), Int.toNat_natCast]
  refine ⟨_, _, rfl, rfl, ?_, ?_⟩
  · rw [T_len, T_len, List.length_drop, List.length_take]
    refine small_line ?_
    have := gl.1
    omega
  rw [T_add]
  refine ⟨_, rfl, a, C, dx, _, rfl, upd_same, R.cl, R.nA, (by show 1 < 1000; decide), ?_⟩
  refine q least many _ L B le ?_ upd_same
  exact ((But.of (s1.trans s2)).upd _).upd _
end
end R5

namespace R5
open PySem PySem.Spec PyProof.Rows L2 Hx Rw
section
variable {P : Program} {w : World} {K : PySem.W.Frag} {mg : Str → Option Value} {base : Heap} {f C f1 f2 f3 : Addr} {fd fd1 fd2 fd3 : FuncData}
theorem atI_at {l : List Nat} {n : Nat} (h : n < l.length) : atI (T l).cps.toList (n : Int) = some (l.getD n 0) := by
  show atI l (n : Int) = _
  rw [getD_get h]
  exact atI_nat (List.getElem?_eq_getElem h)
theorem scItem : FnScope ["self", "at"] ["self", "at"] (defScope s_Round_getitem) := ⟨rfl, rfl, rfl, by decide +kernel, rfl, by decide +kernel, by decide +kernel⟩
theorem ok_item (F : Fun K "__getitem__" "Round.__getitem__" s_Round_getitem f fd) (R : Rd K mg C) (Z : Bl mg)
    (G1 : FnOk P w K mg base CX0 3 f1 fd1 ["given"] spCount) (b1 : Binds K fd1 ["given"] []) (k1 : PySem.W.keepIn K (.ref f1) = true) (m1 : mg "check_count" = some (.ref f1)) :
    FnOk P w K mg base CX0 4 f fd ["self", "at"] (spItem C) := by
  refine F.ok scItem (fun vs H Q E h => ?_) (fun cdv A outer s H vs Q E hr h => ?_)
  · obtain ⟨a, n, f, g, rfl, _⟩ := h
    rfl
  obtain ⟨a, n, f, g, rfl, ⟨dx, ha⟩, fl, gl, pos, q⟩ := h
  refine ⟨_, pss_cons (ps_expr (pe_call G1 hr rfl m1 k1 b1 .nil pass0 (pa_cons (pv 1) pa_nil)))
    (pss_cons (ps_if (pt_cmpR op_lt (pv 1) (pe_callB call_len_str (by rfl) Z.len PySem.boot_len (pa_cons (pe_fld (pv 0) rfl) pa_nil)) (nomark _))
      (pss_one (ps_ret (pe_ix ix_str (pe_fld (pv 0) rfl) (pv 1) (fun _ _ => rfl)))) pss_nil)
    (pss_one (ps_ret (pe_ix ix_str (pe_fld (pv 0) rfl) (pe_op op_mod (pe_op op_sub (pv 1) (pe_callB call_len_str (by rfl) Z.len PySem.boot_len (pa_cons (pe_fld (pv 0) rfl) pa_nil)))
      (pe_callB call_len_str (by rfl) Z.len PySem.boot_len (pa_cons (pe_fld (pv 0) rfl) pa_nil))) (fun _ _ => rfl))))), ?_⟩
  have sf := good_line fl
  have sgl := good_line gl
  refine ⟨_, rfl, _, rfl, Int.natCast_nonneg _, ?_⟩
  refine ⟨_, rfl, _, rfl, a, C, dx, _, _, rfl, ha, R.cl, R.nF, rfl, _, rfl, sf, _, _, rfl, rfl, _, rfl, ?_⟩
  rw [T_len]
  refine ite2 (fun c => ?_) (fun c => ?_)
  · have c' : n < f.length := by
      have := of_decide_eq_true c
      omega
    refine ⟨_, rfl, a, C, dx, _, _, rfl, ha, R.cl, R.nF, rfl, _, rfl, _, _, f.getD n 0, rfl, rfl, sf, atI_at c', ?_⟩
    have e : sg f g n = f.getD n 0 := by
      unfold sg
      rw [if_pos c']
    rw [e] at q
    exact q
  · have c' : f.length ≤ n := by
      have : ¬ (n : Int) < (f.length : Int) := fun z => c (decide_eq_true z)
      omega
    refine ⟨_, rfl, a, C, dx, _, _, rfl, ha, R.cl, R.nA, rfl, ?_⟩
    refine ⟨_, rfl, _, rfl, a, C, dx, _, _, rfl, ha, R.cl, R.nF, rfl, _, rfl, sf, _, _, rfl, rfl, ?_⟩
    refine ⟨_, rfl, a, C, dx, _, _, rfl, ha, R.cl, R.nA, rfl, _, rfl, sgl, _, _, rfl, rfl, (by show (0 : Int) < ((T g).length : Int); rw [T_len]; omega), ?_⟩
    have hm := Nat.mod_lt (n - f.length) pos
    refine ⟨_, _, g.getD ((n - f.length) % g.length) 0, rfl, rfl, sgl, ?_, ?_⟩
    · have e : ((n : Int) - ((T f).length : Int)) % ((T g).length : Int) = (((n - f.length) % g.length : Nat) : Int) := by
        rw [T_len, T_len, show (n : Int) - (f.length : Int) = ((n - f.length : Nat) : Int) by omega]
        exact (Int.natCast_emod _ _).symm
      show atI (T g).cps.toList (((n : Int) - ((T f).length : Int)) % ((T g).length : Int)) = _
      rw [e]
      exact atI_at hm
    · rw [sg_far c'] at q
      exact q
theorem scFirst : FnScope ["self", "many", "times"] ["self", "many"] (defScope s_Round_first) := ⟨rfl, rfl, rfl, by decide +kernel, rfl, by decide +kernel, by decide +kernel⟩
theorem ok_first (F : Fun K "first" "Round.first" s_Round_first f fd) (R : Rd K mg C) (Z : Bl mg)
    (G1 : FnOk P w K mg base CX0 3 f1 fd1 ["given"] spCount) (b1 : Binds K fd1 ["given"] []) (k1 : PySem.W.keepIn K (.ref f1) = true) (m1 : mg "check_count" = some (.ref f1)) :
    FnOk P w K mg base CX0 4 f fd ["self", "many"] (spFirst C) := by
  refine F.ok scFirst (fun vs H Q E h => ?_) (fun cdv A outer s H vs Q E hr h => ?_)
  · obtain ⟨a, n, f, g, rfl, _⟩ := h
    rfl
  obtain ⟨a, n, f, g, rfl, ⟨dx, ha⟩, fl, gl, pos, n1, q⟩ := h
  refine ⟨_, pss_cons (ps_expr (pe_call G1 hr rfl m1 k1 b1 .nil pass0 (pa_cons (pv 1) pa_nil)))
    (pss_cons (ps_set (i := 2) scFirst.nd rfl (Or.inl rfl) (pe_op op_add (pe_op op_fdiv (pv 1) (pe_callB call_len_str (by rfl) Z.len PySem.boot_len (pa_cons (pe_fld (pv 0) rfl) pa_nil))) pe_int))
    (pss_one (ps_ret (pe_slice sl_str (pe_op op_add_str (pe_fld (pv 0) rfl) (pe_op op_mul_str (pe_fld (pv 0) rfl) (pv 2))) po_none (po_some (pv 1)))))), ?_⟩
  have sf := good_line fl
  have sgl := good_line gl
  have dl : n / g.length ≤ n := Nat.div_le_self _ _
  refine ⟨_, rfl, _, rfl, Int.natCast_nonneg _, ?_⟩
  refine ⟨_, rfl, _, rfl, a, C, dx, _, _, rfl, ha, R.cl, R.nA, rfl, _, rfl, sgl, _, _, rfl, rfl, ⟨by rw [T_len]; omega, by rw [T_len]; omega⟩, _, _, rfl, rfl, ?_⟩
  have e : (n : Int) / ((T g).length : Int) + 1 = ((n / g.length + 1 : Nat) : Int) := by
    rw [T_len, Int.natCast_add, Int.natCast_ediv]
    rfl
  dsimp only
  rw [e]
  have z1 : ((n / g.length + 1 : Nat) : Int) ≤ 1000 := by
    have : n / g.length + 1 ≤ 1000 := by omega
    exact Int.ofNat_le.mpr this
  refine ⟨_, rfl, a, C, dx, _, _, rfl, ha, R.cl, R.nF, rfl, _, rfl, a, C, dx, _, _, rfl, ha, R.cl, R.nA, rfl, _, rfl, _, _, rfl, rfl, mulOk (Int.natCast_nonneg _) z1 gl, ?_⟩
  rw [T_mul _ (Int.natCast_nonneg _), Int.toNat_natCast]
  have hmul : (n / g.length + 1) * g.length ≤ n + g.length := by
    rw [Nat.add_mul, Nat.one_mul]
    have := Nat.div_mul_le_self n g.length
    omega
  have hl : (T f).length + (T (rep (n / g.length + 1) g)).length ≤ 3000 := by
    rw [T_len, T_len, rep_length]
    omega
  have line : (3000 : Nat) ≤ sizeLine := by decide
  refine ⟨_, _, rfl, rfl, Nat.le_trans hl line, ?_⟩
  rw [T_add]
  refine ⟨_, rfl, _, rfl, _, rfl, ?_, ?_⟩
  · rw [T_len, List.length_append, ← T_len f, ← T_len (rep _ g)]
    exact Nat.le_trans hl line
  · rw [T_cutN _ (Int.natCast_nonneg _), Int.toNat_natCast, first_signs pos ?_]
    · exact q
    · have := Nat.lt_div_mul_add (a := n) (b := g.length) pos
      rw [Nat.add_mul, Nat.one_mul]
      omega
theorem scEq : FnScope ["self", "other"] ["self", "other"] (defScope s_Round_eq) := ⟨rfl, rfl, rfl, by decide +kernel, rfl, by decide +kernel, by decide +kernel⟩
theorem ok_eq (F : Fun K "__eq__" "Round.__eq__" s_Round_eq f fd) (R : Rd K mg C) (Z : Bl mg) : FnOk P w K mg base CX0 1 f fd ["self", "other"] (spEq C) := by
  refine F.ok scEq (fun vs H Q E h => ?_) (fun cdv A outer s H vs Q E hr h => ?_)
  · obtain ⟨a, y, f, g, rfl, _⟩ := h
    rfl
  obtain ⟨a, y, f, g, rfl, ⟨dx, ha⟩, h⟩ := h
  refine ⟨_, pss_one (ps_ret (pe_and (pe_callB call_isi (by rfl) Z.isinstance PyProof.Rows.boot_isinstance (pa_cons (pv 1) (pa_cons (pe_gref rfl R.gC) pa_nil)))
    (pe_and (pe_cmpR op_eq (pe_fld (pv 0) rfl) (pe_fld (pv 1) rfl) (nomark _)) (pe_one (pe_cmpR op_eq (pe_fld (pv 0) rfl) (pe_fld (pv 1) rfl) (nomark _)))))), ?_⟩
  rcases h with ⟨⟨z, rfl⟩, q⟩ | ⟨⟨b, xs, rfl, hb⟩, q⟩ | ⟨b, f2, g2, rfl, ⟨dy, hb⟩, q⟩
  · exact ⟨_, rfl, _, _, .type "str", _, false, rfl, .own C, .base (.str z), R.kS, _, rfl, iteF q⟩
  · exact ⟨_, rfl, _, _, .type "tuple", _, false, rfl, .own C, .base (.tup hb), R.kT, _, rfl, iteF q⟩
  · refine ⟨_, rfl, _, _, .ref C, _, true, rfl, .own C, .base (.ins hb R.cl R.ha R.hn R.htk R.hm), R.kC, _, rfl, iteT ?_⟩
    refine ⟨_, rfl, a, C, dx, _, _, rfl, ha, R.cl, R.nF, rfl, _, rfl, b, C, dy, _, _, rfl, hb, R.cl, R.nF, rfl, rfl, _, rfl, ?_⟩
    by_cases c : f = f2
    · subst c
      rw [decide_eq_true rfl]
      refine iteT ⟨_, rfl, a, C, dx, _, _, rfl, ha, R.cl, R.nA, rfl, _, rfl, b, C, dy, _, _, rfl, hb, R.cl, R.nA, rfl, rfl, ?_⟩
      have e : decide (V.str (T g) = V.str (T g2)) = decide (f = f ∧ g = g2) := by
        by_cases d : g = g2
        · subst d
          rw [decide_eq_true rfl, decide_eq_true ⟨rfl, rfl⟩]
        · rw [decide_eq_false fun z => d (T_inj (V.str.inj z)), decide_eq_false fun z => d z.2]
      rw [e]
      exact q
    · rw [decide_eq_false fun z => c (T_inj (V.str.inj z))]
      rw [decide_eq_false fun z => c z.1] at q
      exact iteF q
theorem scStr : FnScope ["self"] ["self"] (defScope s_Round_str) := ⟨rfl, rfl, rfl, by decide +kernel, rfl, by decide +kernel, by decide +kernel⟩
theorem scRepr : FnScope ["self"] ["self"] (defScope s_Round_repr) := ⟨rfl, rfl, rfl, by decide +kernel, rfl, by decide +kernel, by decide +kernel⟩
theorem ok_str (F : Fun K "__str__" "Round.__str__" s_Round_str f fd) (R : Rd K mg C) : FnOk P w K mg base CX0 1 f fd ["self"] (spStr C) := by
  refine F.ok scStr (fun vs H Q E h => ?_) (fun cdv A outer s H vs Q E hr h => ?_)
  · obtain ⟨a, f, g, rfl, _⟩ := h
    rfl
  obtain ⟨a, f, g, rfl, ⟨dx, ha⟩, fl, gl, q⟩ := h
  refine ⟨_, pss_one (ps_ret (pe_joined (.cons (pe_fmt (pe_fld (pv 0) rfl)) (.cons pe_str (.cons (pe_fmt (pe_fld (pv 0) rfl)) (.cons pe_str .nil)))))), ?_⟩
  have line : (3000 : Nat) ≤ sizeLine := by decide
  have l1 : (Str.empty ++ T f).length ≤ sizeLine := by
    rw [show Str.empty = T [] from rfl, T_add, List.nil_append]
    exact good_line fl
  refine ⟨_, rfl, a, C, dx, _, _, rfl, ha, R.cl, R.nF, rfl, .inl ⟨_, rfl, good_line fl, _, rfl, l1, ?_⟩⟩
  rw [show Str.empty = T [] from rfl, T_add, List.nil_append]
  have e1 : ("(" : Str) = T [40] := by decide +kernel
  have e2 : (")" : Str) = T [41] := by decide +kernel
  have fit : ∀ m : List Nat, m.length ≤ 3000 → (T m).length ≤ sizeLine := fun m hm => by
    rw [T_len]
    exact Nat.le_trans hm line
  refine ⟨_, rfl, ?_, ?_⟩
  · rw [e1, T_add]
    exact fit _ (by rw [List.length_append]; simp; omega)
  rw [e1, T_add]
  refine ⟨_, rfl, a, C, dx, _, _, rfl, ha, R.cl, R.nA, rfl, .inl ⟨_, rfl, good_line gl, _, rfl, ?_, ?_⟩⟩
  · rw [T_add]
    exact fit _ (by simp; omega)
  rw [T_add]
  refine ⟨_, rfl, ?_, ?_⟩
  · rw [e2, T_add]
    exact fit _ (by simp; omega)
  rw [e2, T_add]
  exact q
theorem ok_repr (F : Fun K "__repr__" "Round.__repr__" s_Round_repr f fd) (R : Rd K mg C) : FnOk P w K mg base CX0 1 f fd ["self"] (spRepr C) := by
  refine F.ok scRepr (fun vs H Q E h => ?_) (fun cdv A outer s H vs Q E hr h => ?_)
  · obtain ⟨a, f, g, rfl, _⟩ := h
    rfl
  obtain ⟨a, f, g, rfl, ⟨dx, ha⟩, fl, gl, q⟩ := h
  refine ⟨_, pss_one (ps_ret (pe_joined (.cons pe_str (.cons (pe_fmt (pe_fld (pv 0) rfl)) (.cons pe_str (.cons (pe_fmt (pe_fld (pv 0) rfl)) (.cons pe_str .nil))))))), ?_⟩
  have line : (3000 : Nat) ≤ sizeLine := by decide
  have e0 : ("Round(" : Str) = T word := by decide +kernel
  have e1 : ("(" : Str) = T [40] := by decide +kernel
  have e2 : ("))" : Str) = T [41, 41] := by decide +kernel
  have fit : ∀ m : List Nat, m.length ≤ 3000 → (T m).length ≤ sizeLine := fun m hm => by
    rw [T_len]
    exact Nat.le_trans hm line
  have wl : word.length = 6 := rfl
  refine ⟨_, rfl, ?_, ?_⟩
  · rw [e0, show Str.empty = T [] from rfl, T_add, List.nil_append]
    exact fit _ (by decide)
  rw [e0, show Str.empty = T [] from rfl, T_add, List.nil_append]
  refine ⟨_, rfl, a, C, dx, _, _, rfl, ha, R.cl, R.nF, rfl, .inl ⟨_, rfl, good_line fl, _, rfl, ?_, ?_⟩⟩
  · rw [T_add]
    exact fit _ (by simp [wl]; omega)
  rw [T_add]
  refine ⟨_, rfl, ?_, ?_⟩
  · rw [e1, T_add]
    exact fit _ (by simp [wl]; omega)
  rw [e1, T_add]
  refine ⟨_, rfl, a, C, dx, _, _, rfl, ha, R.cl, R.nA, rfl, .inl ⟨_, rfl, good_line gl, _, rfl, ?_, ?_⟩⟩
  · rw [T_add]
    exact fit _ (by simp [wl]; omega)
  rw [T_add]
  refine ⟨_, rfl, ?_, ?_⟩
  · rw [e2, T_add]
    exact fit _ (by simp [wl]; omega)
  rw [e2, T_add]
  exact q
end
end R5

namespace R5
open PySem PySem.Spec PyProof.Rows L2 Hx Rw
/-- the signs one by one -/
def one (l : List Nat) : List Str := l.map fun c => T [c]
def ones (l : List Nat) : List V := (one l).map V.str
theorem ones_length (l : List Nat) : (ones l).length = l.length := by
  unfold ones one
  rw [List.length_map, List.length_map]
theorem ones_add (l m : List Nat) : ones (l ++ m) = ones l ++ ones m := by
  unfold ones one
  rw [List.map_append, List.map_append]
theorem ones_take (l : List Nat) (n : Nat) : (ones l).take n = ones (l.take n) := by
  unfold ones one
  rw [List.map_take, List.map_take]
theorem ones_drop (l : List Nat) (n : Nat) : (ones l).drop n = ones (l.drop n) := by
  unfold ones one
  rw [List.map_drop, List.map_drop]
theorem ones_get {l : List Nat} {n : Nat} (h : n < l.length) : (ones l)[n]? = some (V.str (T [l.getD n 0])) := by
  unfold ones one
  rw [List.getElem?_map, List.getElem?_map, List.getElem?_eq_getElem h, getD_get h]
  rfl
theorem joinL_nil : ∀ l : List Nat, TL.joinL [] (l.map fun c => [c]) = l
  | [] => rfl
  | [_] => rfl
  | a :: b :: r => by
    show [a] ++ ([] ++ TL.joinL [] ((b :: r).map fun c => [c])) = _
    rw [joinL_nil (b :: r)]
    rfl
theorem join_one (l : List Nat) : Str.join "" (one l) = T l := by
  refine T_ext ?_
  show TL.tl (Str.join "" (one l)) = l
  rw [TL.tl_join]
  have e1 : TL.tl ("" : Str) = [] := by decide +kernel
  have e2 : (one l).map TL.tl = l.map fun c => [c] := by
    unfold one
    rw [List.map_map]
    rfl
  rw [e1, e2, joinL_nil]
theorem one_small {l : List Nat} (h : l.length ≤ 1000) : ((one l).map (·.length)).sum + (one l).length * ("" : Str).length ≤ 16777216 := by
  have e0 : ("" : Str).length = 0 := by decide +kernel
  have e1 : ((one l).map (·.length)).sum = l.length := by
    unfold one
    induction l with
    | nil => rfl
    | cons c r ih =>
      rw [List.map_cons, List.map_cons, List.sum_cons, ih (by rw [List.length_cons] at h; omega), T_len, List.length_cons, List.length_cons]
      show 0 + 1 + r.length = _
      omega
  rw [e0, e1]
  omega
def spOfS : Sp := fun vs H Q _ => ∃ (d : Addr) (m : List Nat), vs = [.ref d, .str (T m)] ∧ 0 < m.length ∧ m.length ≤ 1000 ∧ DeckAt H d ∧ ∀ c H', c ∈ m → But d H H' → DeckAt H' d → Q (.str (T [c])) H'
def spFar : Sp := fun vs H Q _ => ∃ (d : Addr) (k : Int), vs = [.ref d, .int k] ∧ 0 ≤ k ∧ k ≤ 100 ∧ DeckAt H d ∧ ∀ (n : Nat) H', But d H H' → DeckAt H' d → Q (.int (n : Nat)) H'
def spString : Sp := fun vs H Q _ => ∃ (d : Addr) (m : List Nat) (k : Int), vs = [.ref d, .str (T m), .int k] ∧ 0 < m.length ∧ m.length ≤ 1000 ∧ 0 ≤ k ∧ k ≤ 100 ∧ DeckAt H d ∧
  ∀ (l : List Nat) H', (l.length : Int) = k → (∀ c ∈ l, c ∈ m) → But d H H' → DeckAt H' d → Q (.str (T l)) H'
theorem DeckAt.but {d D : Addr} {H : Hp} (h : DeckAt H d) (n : d ≠ D) (o : HO) : DeckAt (upd H D o) d := by
  obtain ⟨a, m, c, h1, h2, e⟩ := h
  exact ⟨a, m, c, h1, h2, by rw [upd_ne n]; exact e⟩
theorem DeckAt.some {d : Addr} {H : Hp} (h : DeckAt H d) : ∃ o, H d = Option.some o := let ⟨_, _, _, _, _, e⟩ := h; ⟨_, e⟩
theorem DeckAt.ne {d D : Addr} {H : Hp} (h : DeckAt H d) (n : H D = none) : d ≠ D := by
  obtain ⟨o, e⟩ := h.some
  exact ne_of_none e n
section
variable {P : Program} {w : World} {K : PySem.W.Frag} {mg : Str → Option Value} {base : Heap} {f C f1 f2 f3 : Addr} {fd fd1 fd2 fd3 : FuncData}
theorem scOf : FnScope ["_law_deck_here", "_law_menu"] ["_law_deck_here", "_law_menu"] (defScope s_law_of) := ⟨rfl, rfl, rfl, by decide +kernel, rfl, by decide +kernel, by decide +kernel⟩
theorem ok_ofS (F : Fun K "_law_of" "_law_of" s_law_of f fd) (GC : FnOk P w K mg base CX0 1 f1 fd1 ["_law_deck_here", "_law_top"] spCard) (bC : Binds K fd1 ["_law_deck_here", "_law_top"] [])
    (kC : PySem.W.keepIn K (.ref f1) = true) (mC : mg "_law_card" = some (.ref f1)) (ml : mg "len" = none) : FnOk P w K mg base CX0 2 f fd ["_law_deck_here", "_law_menu"] spOfS := by
  refine F.ok scOf (fun vs H Q E h => ?_) (fun cdv A outer s H vs Q E hr h => ?_)
  · obtain ⟨d, z, rfl, _⟩ := h
    rfl
  obtain ⟨d, z, rfl, z0, z1, hd, q⟩ := h
  refine ⟨_, pss_one (ps_ret (pe_ix ix_str (pv 1) (pe_call GC hr rfl mC kC bC .nil pass0 (pa_cons (pv 0) (pa_cons
    (pe_callB call_len_str (by rfl) ml PySem.boot_len (pa_cons (pv 1) pa_nil)) pa_nil))) (fun _ _ => rfl))), ?_⟩
  refine ⟨_, rfl, _, rfl, _, rfl, T z, rfl, good_line z1, d, _, rfl, by rw [T_len]; omega, by rw [T_len]; omega, hd, fun r H' r0 r1 b hd' => ?_⟩
  rw [T_len] at r1
  obtain ⟨c, hc, ec⟩ := atI_in (xs := z) r0 r1
  exact ⟨_, _, c, rfl, rfl, good_line z1, ec, q c H' hc b hd'⟩
theorem scFar : FnScope ["_law_deck_here", "_law_groups", "_law_found", "_law_k"] ["_law_deck_here", "_law_groups"] (defScope s_law_far) := ⟨rfl, rfl, rfl, by decide +kernel, rfl, by decide +kernel, by decide +kernel⟩
theorem ok_far (F : Fun K "_law_far" "_law_far" s_law_far f fd) (Z : Bl mg) (GC : FnOk P w K mg base CX0 1 f1 fd1 ["_law_deck_here", "_law_top"] spCard) (bC : Binds K fd1 ["_law_deck_here", "_law_top"] [])
    (kC : PySem.W.keepIn K (.ref f1) = true) (mC : mg "_law_card" = some (.ref f1)) : FnOk P w K mg base CX0 2 f fd ["_law_deck_here", "_law_groups"] spFar := by
  refine F.ok scFar (fun vs H Q E h => ?_) (fun cdv A outer s H vs Q E hr h => ?_)
  · obtain ⟨d, k, rfl, _⟩ := h
    rfl
  obtain ⟨d, k, rfl, k0, k1, hd, q⟩ := h
  refine ⟨_, pss_cons (ps_set (i := 2) scFar.nd rfl (Or.inl rfl) pe_int)
    (pss_cons (ps_for PassesOwn.never rfl (pi_range1 rfl Z.range (pa_cons (pv 1) pa_nil)) (pg_name (i := 3) scFar.nd rfl (Or.inl rfl))
      (pss_one (ps_set (i := 2) scFar.nd rfl (Or.inl rfl) (pe_op op_add (pe_op op_mul (pv 2) pe_int) (pe_call GC hr rfl mC kC bC .nil pass0 (pa_cons (pv 0) (pa_cons pe_int pa_nil)))))))
    (pss_one (ps_ret (pv 2)))), ?_⟩
  refine ⟨_, rfl, k, rfl, by omega, by omega, ?_⟩
  refine for_range (lo := 0) (n := k.toNat) (fun _ σ H' => But d H H' ∧ DeckAt H' d ∧ ∃ (n : Nat) (v : Option V), σ = [some (.ref d), some (.int k), some (.int (n : Nat)), v]) ⟨But.refl, hd, 0, none, rfl⟩ ?_ ?_
  · rintro i σ H' hi ⟨b, hd', n, v, rfl⟩
    refine ⟨_, rfl, _, _, rfl, rfl, .inr ⟨by decide, by decide⟩, _, rfl, d, 1000, rfl, by decide, by decide, hd', fun r H2 r0 r1 b2 hd2 => ?_⟩
    refine ⟨_, _, rfl, rfl, b.trans b2, hd2, n * 1000 + r.toNat, some (.int (0 + (i : Int))), ?_⟩
    have e : (n : Int) * 1000 + r = ((n * 1000 + r.toNat : Nat) : Int) := by omega
    show [some (V.ref d), some (V.int k), some (V.int ((n : Int) * 1000 + r)), some (V.int (0 + (i : Int)))] = _
    rw [e]
  · rintro σ H' ⟨b, hd', n, v, rfl⟩
    exact ⟨_, rfl, q n H' b hd'⟩
theorem scString : FnScope ["_law_deck_here", "_law_letters", "_law_size", "_law_k"] ["_law_deck_here", "_law_letters", "_law_size"] (defScope s_law_string) := ⟨rfl, rfl, rfl, by decide +kernel, rfl, by decide +kernel, by decide +kernel⟩
theorem ok_string (F : Fun K "_law_string" "_law_string" s_law_string f fd) (Z : Bl mg) (GO : FnOk P w K mg base CX0 2 f1 fd1 ["_law_deck_here", "_law_menu"] spOfS) (bO : Binds K fd1 ["_law_deck_here", "_law_menu"] [])
    (kO : PySem.W.keepIn K (.ref f1) = true) (mO : mg "_law_of" = some (.ref f1)) : FnOk P w K mg base CX0 3 f fd ["_law_deck_here", "_law_letters", "_law_size"] spString := by
  refine F.ok scString (fun vs H Q E h => ?_) (fun cdv A outer s H vs Q E hr h => ?_)
  · obtain ⟨d, m, k, rfl, _⟩ := h
    rfl
  obtain ⟨d, m, k, rfl, m0, m1, k0, k1, hd, q⟩ := h
  refine ⟨_, pss_one (ps_ret (pe_join pe_str (pe_lc (te := tCall spOfS [] E0 (tCons (tVar 0) (tCons (tVar 1) tNil))) (own := [("_law_k", 3)]) (g := gName 3) (tt := tYes) rfl scString.nd (pi_range1 rfl Z.range (pa_cons (pv 2) pa_nil))
      (blkOk_by (N := ["_law_deck_here", "_law_letters", "_law_size", "_law_k"]) (sc := defScope s_law_string) (by decide +kernel)) (fun _ _ _ _ _ => pg_name (i := 3) scString.nd rfl (Or.inl rfl)) (fun _ _ _ _ _ => pts_nil)
      (fun _ _ _ _ _ => pe_call GO hr rfl mO kO bO .nil pass0 (pa_cons (pv 0) (pa_cons (pv 1) pa_nil)))))), ?_⟩
  refine ⟨⟨_, rfl⟩, _, rfl, k, rfl, by omega, by omega, fun D hD => ?_⟩
  have nd := hd.ne hD
  refine lc_range (lo := 0) (n := k.toNat) (fun i H' => But d H H' ∧ DeckAt H' d ∧ ∃ l : List Nat, l.length = i ∧ (∀ c ∈ l, c ∈ m) ∧ H' D = some (.lst (ones l)))
    ⟨But.refl.new hD _, hd.but nd _, [], rfl, (by intro c hc; cases hc), upd_same⟩ ?_ ?_
  · rintro i H' hi ⟨b, hd', l, rfl, hl, h1⟩
    refine ⟨rfl, turn_yes ⟨_, rfl, _, rfl, d, m, rfl, m0, m1, hd', fun c H2 hc b2 hd2 => ?_⟩⟩
    have h2 := b2 D _ (Ne.symm nd) h1
    refine ⟨_, h2, ?_, ?_, hd2.but nd _, l ++ [c], by rw [List.length_append]; rfl, fun x hx => ?_, ?_⟩
    · rw [ones_length]
      exact Nat.lt_of_lt_of_le (by omega : _ < 1000) (small_line (Nat.le_refl _))
    · intro x o nx hx
      have e : x ≠ D := ne_of_none hx hD
      rw [upd_ne e]
      exact b2 x o nx (b x o nx hx)
    · rcases List.mem_append.mp hx with z | z
      · exact hl x z
      · rw [List.mem_singleton.mp z]
        exact hc
    · rw [upd_same, ones_add]
      rfl
  · rintro H' ⟨b, hd', l, ll, hl, h1⟩
    refine ⟨"", D, one l, rfl, rfl, .inl (SqL.of h1), one_small (by omega), ?_⟩
    rw [TL.join_eq, join_one]
    exact q l H' (by omega) hl b hd'
end
end R5

namespace R5
open PySem PySem.Spec PyProof.Rows L2 Hx Rw
theorem if_join {c : TT} {t u w : TS} {D : Ends} {σ : L2.St} {H : Hp} (P : L2.St → Hp → Prop)
    (h : ∀ N : L2.St → Hp → Prop, (∀ σ' H', P σ' H' → N σ' H') → tIfS c t u { D with nx := N } σ H) (hq : ∀ σ' H', P σ' H' → w D σ' H') : tSeq (tIfS c t u) w D σ H := h _ hq
theorem cut_head (l : List Nat) (n : Nat) : cutV (ones l) none (some (n : Int)) = ones (l.take n) := by
  unfold cutV
  rw [ones_length, HT.sIx_none, HT.sIx_nat, List.drop_zero, Nat.sub_zero, ones_take]
  by_cases c : n ≤ l.length
  · rw [Nat.min_eq_left c]
  · rw [Nat.min_eq_right (by omega), List.take_length, List.take_of_length_le (by omega)]
theorem cut_mid (l : List Nat) {a b : Nat} (ha : a ≤ b) (hb : b ≤ l.length) : cutV (ones l) (some (a : Int)) (some (b : Int)) = ones ((l.drop a).take (b - a)) := by
  unfold cutV
  rw [ones_length, HT.sIx_nat, HT.sIx_nat, Nat.min_eq_left (show a ≤ l.length by omega), Nat.min_eq_left hb, ones_drop, ones_take]
def spSign : Sp := fun vs H Q _ => ∃ (h l : List Nat) (n : Nat), vs = [.str (T h), .str (T l), .int (n : Nat)] ∧ h.length ≤ 1000 ∧ l.length ≤ 1000 ∧ 0 < l.length ∧ Q (.str (T [sg h l n])) H
def spLeast : Sp := fun vs H Q _ => ∃ (h l f g : List Nat), vs = [.str (T h), .str (T l)] ∧ h.length ≤ 1000 ∧ l.length ≤ 1000 ∧ 0 < l.length ∧ Norm f g ∧ f.length ≤ 8 ∧ g.length ≤ 4 ∧ (∀ n, sg h l n = sg f g n) ∧
  ∀ p H', Same H H' → H p = none → H' p = some (.tup [.str (T f), .str (T g)]) → Q (.ref p) H'
section
variable {P : Program} {w : World} {K : PySem.W.Frag} {mg : Str → Option Value} {base : Heap} {f C f1 f2 f3 : Addr} {fd fd1 fd2 fd3 : FuncData}
theorem scSign : FnScope ["_law_start", "_law_cycle", "_law_spot"] ["_law_start", "_law_cycle", "_law_spot"] (defScope s_law_sign) := ⟨rfl, rfl, rfl, by decide +kernel, rfl, by decide +kernel, by decide +kernel⟩
theorem ok_sign (F : Fun K "_law_sign" "_law_sign" s_law_sign f fd) (Z : Bl mg) : FnOk P w K mg base CX0 1 f fd ["_law_start", "_law_cycle", "_law_spot"] spSign := by
  refine F.ok scSign (fun vs H Q E h => ?_) (fun cdv A outer s H vs Q E hr h => ?_)
  · obtain ⟨h, l, n, rfl, _⟩ := h
    rfl
  obtain ⟨h, l, n, rfl, fh, fl, pos, q⟩ := h
  have sh := good_line fh
  have sl := good_line fl
  refine ⟨_, pss_one (ps_ret (pe_ifExp (pt_cmpR op_lt (pv 2) (pe_callB call_len_str (by rfl) Z.len PySem.boot_len (pa_cons (pv 0) pa_nil)) (nomark _)) (pe_ix ix_str (pv 0) (pv 2) (fun _ _ => rfl))
    (pe_ix ix_str (pv 1) (pe_op op_mod (pe_callTy call_int1 (by rfl) Z.int PyProof.Rows.boot_int (pa_cons (pe_op op_sub (pv 2) (pe_callB call_len_str (by rfl) Z.len PySem.boot_len (pa_cons (pv 0) pa_nil))) pa_nil))
      (pe_callB call_len_str (by rfl) Z.len PySem.boot_len (pa_cons (pv 1) pa_nil))) (fun _ _ => rfl)))), ?_⟩
  refine ⟨_, rfl, _, rfl, _, rfl, sh, _, _, rfl, rfl, _, rfl, ?_⟩
  rw [T_len]
  refine ite2 (fun c => ?_) (fun c => ?_)
  · have c' : n < h.length := by
      have := of_decide_eq_true c
      omega
    refine ⟨_, rfl, _, rfl, _, _, h.getD n 0, rfl, rfl, sh, atI_at c', ?_⟩
    have e : sg h l n = h.getD n 0 := by
      unfold sg
      rw [if_pos c']
    rw [e] at q
    exact q
  · have c' : h.length ≤ n := by
      have : ¬ (n : Int) < (h.length : Int) := fun z => c (decide_eq_true z)
      omega
    refine ⟨_, rfl, _, rfl, _, rfl, _, rfl, sh, _, _, rfl, rfl, .inl ⟨_, rfl, ?_⟩⟩
    refine ⟨_, rfl, _, rfl, sl, _, _, rfl, rfl, (by show (0 : Int) < ((T l).length : Int); rw [T_len]; omega), ?_⟩
    have hm := Nat.mod_lt (n - h.length) pos
    refine ⟨_, _, l.getD ((n - h.length) % l.length) 0, rfl, rfl, sl, ?_, ?_⟩
    · have e : ((n : Int) - ((T h).length : Int)) % ((T l).length : Int) = (((n - h.length) % l.length : Nat) : Int) := by
        rw [T_len, T_len, show (n : Int) - (h.length : Int) = ((n - h.length : Nat) : Int) by omega]
        exact (Int.natCast_emod _ _).symm
      show atI (T l).cps.toList (((n : Int) - ((T h).length : Int)) % ((T l).length : Int)) = _
      rw [e]
      exact atI_at hm
    · rw [sg_far c'] at q
      exact q
theorem scLeast : FnScope ["_law_start", "_law_cycle", "_law_line", "_law_size", "_law_length", "_law_spot", "_law_k"] ["_law_start", "_law_cycle"] (defScope s_law_least) := ⟨rfl, rfl, rfl, by decide +kernel, rfl, by decide +kernel, by decide +kernel⟩
theorem ok_least (F : Fun K "_law_least" "_law_least" s_law_least f fd) (Z : Bl mg)
    (GS : FnOk P w K mg base CX0 1 f1 fd1 ["_law_start", "_law_cycle", "_law_spot"] spSign) (bS : Binds K fd1 ["_law_start", "_law_cycle", "_law_spot"] []) (kS : PySem.W.keepIn K (.ref f1) = true) (mS : mg "_law_sign" = some (.ref f1)) :
    FnOk P w K mg base CX0 2 f fd ["_law_start", "_law_cycle"] spLeast := by
  refine F.ok scLeast (fun vs H Q E h => ?_) (fun cdv A outer s H vs Q E hr h => ?_)
  · obtain ⟨h, l, f, g, rfl, _⟩ := h
    rfl
  obtain ⟨h, l, f, g, rfl, fh, fl, pos, N, f8, g4, same, q⟩ := h
  refine ⟨_, pss_cons (ps_set (i := 2) scLeast.nd rfl (Or.inr rfl) (pe_lc (te := tCall spSign [] E0 (tCons (tVar 0) (tCons (tVar 1) (tCons (tVar 5) tNil)))) (own := [("_law_spot", 5)]) (g := gName 5) (tt := tYes) rfl scLeast.nd (pi_range1 rfl Z.range (pa_cons pe_int pa_nil))
      (blkOk_by (N := ["_law_start", "_law_cycle", "_law_line", "_law_size", "_law_length", "_law_spot", "_law_k"]) (sc := defScope s_law_least) (by decide +kernel)) (fun _ _ _ _ _ => pg_name (i := 5) scLeast.nd rfl (Or.inl rfl)) (fun _ _ _ _ _ => pts_nil)
      (fun _ _ _ _ _ => pe_call GS hr rfl mS kS bS .nil pass0 (pa_cons (pv 0) (pa_cons (pv 1) (pa_cons (pv 5) pa_nil))))))
    (pss_cons (ps_for PassesOwn.never rfl (pi_range1 rfl Z.range (pa_cons pe_int pa_nil)) (pg_name (i := 3) scLeast.nd rfl (Or.inl rfl))
      (pss_one (ps_for PassesOwn.never rfl (pi_range2 rfl Z.range (pa_cons pe_int (pa_cons pe_int pa_nil))) (pg_name (i := 4) scLeast.nd rfl (Or.inr rfl))
        (pss_one (ps_if (pt_val (pe_callB (cr_all rfl) (by rfl) Z.all PyProof.Rows.boot_all (pa_cons (pe_lc (te := tOp rEq (tOp (rIxL K) (tVar 2) (tVar 6)) (tOp (rIxL K) (tVar 2) (tOp (rI0 fun i j => .int (i + j)) (tVar 6) (tVar 4)))) (own := [("_law_k", 6)]) (g := gName 6) (tt := tYes) rfl scLeast.nd
            (pi_range2 rfl Z.range (pa_cons (pv 3) (pa_cons (pe_op op_sub pe_int (pv 4)) pa_nil)))
            (blkOk_by (N := ["_law_start", "_law_cycle", "_law_line", "_law_size", "_law_length", "_law_spot", "_law_k"]) (sc := defScope s_law_least) (by decide +kernel)) (fun _ _ _ _ _ => pg_name (i := 6) scLeast.nd rfl (Or.inl rfl)) (fun _ _ _ _ _ => pts_nil)
            (fun _ _ _ _ _ => pe_cmpR op_eq (pe_ix ix_list (pv 2) (pv 6) (fun _ _ => rfl)) (pe_ix ix_list (pv 2) (pe_op op_add (pv 6) (pv 4)) (fun _ _ => rfl)) (nomark _))) pa_nil)))
          (pss_one (ps_ret (pe_tup (pa_cons (pe_join pe_str (pe_slice sl_list (pv 2) po_none (po_some (pv 3)))) (pa_cons (pe_join pe_str (pe_slice sl_list (pv 2) (po_some (pv 3)) (po_some (pe_op op_add (pv 3) (pv 4))))) pa_nil))))) pss_nil)))))
    (pss_one (ps_ret (pe_tup (pa_cons pe_str (pa_cons pe_str pa_nil)))))), ?_⟩
  let s : Nat → Nat := sg f g
  let L : List Nat := (List.range 40).map s
  have Ll : L.length = 40 := by
    show ((List.range 40).map s).length = 40
    rw [List.length_map, List.length_range]
  have Lg : ∀ k, k < 40 → L.getD k 0 = s k := fun k hk => by
    show ((List.range 40).map s).getD k 0 = s k
    rw [List.getD_eq_getElem?_getD, List.getElem?_map, List.getElem?_range hk]
    rfl
  refine ⟨40, rfl, by decide, by decide, fun D hD => ?_⟩
  refine lc_range (lo := 0) (n := 40) (fun i H' => Same H H' ∧ H' D = some (.lst (ones (L.take i)))) ⟨same_new hD _, upd_same⟩ ?_ ?_
  · rintro i H' hi ⟨s1, h1⟩
    have hi' : i < 40 := hi
    refine ⟨rfl, turn_yes ⟨_, rfl, _, rfl, _, rfl, h, l, i, ?_, fh, fl, pos, ?_⟩⟩
    · show [V.str (T h), V.str (T l), V.int (0 + (i : Int))] = _
      rw [Int.zero_add]
    refine ⟨_, h1, ?_, fun b o hb => ?_, ?_⟩
    · rw [ones_length, List.length_take]
      exact Nat.lt_of_lt_of_le (by omega : _ < 1000) (small_line (Nat.le_refl _))
    · rw [upd_ne (ne_of_none hb hD)]
      exact s1 b o hb
    · rw [upd_same, List.take_add_one, List.getElem?_eq_getElem (by omega), ones_add, same i]
      have e : L[i]'(by omega) = s i := by rw [← getD_get, Lg i hi']
      rw [e]
      rfl
  rintro H1 ⟨s1, h1⟩
  rw [List.take_of_length_le (by omega)] at h1
  refine ⟨9, rfl, by decide, by decide, ?_⟩
  refine for_range (lo := 0) (n := 9) (fun i σ H' => Same H H' ∧ H' D = some (.lst (ones L)) ∧ i ≤ f.length ∧ ∃ v1 v2 v3 v4, σ = [some (.str (T h)), some (.str (T l)), some (.ref D), v1, v2, v3, v4]) ⟨s1, h1, Nat.zero_le _, _, _, _, _, rfl⟩ ?_ ?_
  · rintro size σ H2 hsz ⟨s2, h2, hle, v1, v2, v3, v4, rfl⟩
    refine ⟨1, 9, rfl, by decide, ?_⟩
    refine for_range (lo := 1) (n := 8) (fun j σ H' => Same H H' ∧ H' D = some (.lst (ones L)) ∧ (size = f.length → 1 + j ≤ g.length) ∧ ∃ v2 v3 v4, σ = [some (.str (T h)), some (.str (T l)), some (.ref D), some (.int (0 + (size : Int))), v2, v3, v4])
      ⟨s2, h2, fun _ => N.pos, _, _, _, rfl⟩ ?_ ?_
    · rintro j σ H3 hj ⟨s3, h3, hlen, w2, w3, w4, rfl⟩
      have size8 : size ≤ 8 := by omega
      have hj' : j < 8 := hj
      refine ⟨_, rfl, _, rfl, _, _, rfl, rfl, ?_⟩
      refine ⟨_, _, rfl, ⟨by omega, by omega, by omega, by omega⟩, fun D2 hD2 => ?_⟩
      have ok : ∀ k : Nat, k < 40 → atI (ones L) (k : Int) = some (V.str (T [s k])) := fun k hk => by
        have z := ones_get (l := L) (n := k) (by omega)
        rw [Lg k hk] at z
        exact atI_nat z
      refine lc_range (lo := 0 + (size : Int)) (n := (40 - (1 + (j : Int)) - (0 + (size : Int))).toNat)
        (fun i H' => Same H H' ∧ H' D = some (.lst (ones L)) ∧ H' D2 = some (.lst (((List.range i).map fun t => decide (s (size + t) = s (size + t + (1 + j)))).map V.bl)))
        ⟨s3.trans (same_new hD2 _), (same_new hD2 _) _ _ h3, upd_same⟩ ?_ ?_
      · rintro i H4 hi ⟨s4, h4, h5⟩
        have e1 : atI (ones L) (0 + (size : Int) + (i : Int)) = some (V.str (T [s (size + i)])) := by
          rw [show 0 + (size : Int) + (i : Int) = ((size + i : Nat) : Int) by omega]
          exact ok _ (by omega)
        have e2 : atI (ones L) (0 + (size : Int) + (i : Int) + (1 + (j : Int))) = some (V.str (T [s (size + i + (1 + j))])) := by
          rw [show 0 + (size : Int) + (i : Int) + (1 + (j : Int)) = ((size + i + (1 + j) : Nat) : Int) by omega]
          exact ok _ (by omega)
        refine ⟨rfl, turn_yes ?_⟩
        refine ⟨_, rfl, _, rfl, D, _, _, _, rfl, rfl, SqL.of h4, e1, _, rfl, _, rfl, _, rfl, _, _, rfl, rfl, D, _, _, _, rfl, rfl, SqL.of h4, e2, rfl, ?_⟩
        have nD : D ≠ D2 := ne_of_none h3 hD2
        refine ⟨_, h5, ?_, fun b o hb => ?_, ?_, ?_⟩
        · rw [List.length_map, List.length_map, List.length_range]
          exact Nat.lt_of_lt_of_le (by omega : _ < 1000) (small_line (Nat.le_refl _))
        · rw [upd_ne (ne_of_none (s3 _ _ hb) hD2)]
          exact s4 b o hb
        · rw [upd_ne nD]
          exact h4
        · rw [upd_same, List.range_succ, List.map_append, List.map_append]
          have e : decide (V.str (T [s (size + i)]) = V.str (T [s (size + i + (1 + j))])) = decide (s (size + i) = s (size + i + (1 + j))) := by
            by_cases c : s (size + i) = s (size + i + (1 + j))
            · rw [c, decide_eq_true rfl, decide_eq_true rfl]
            · rw [decide_eq_false fun z => c (List.head_eq_of_cons_eq (T_inj (V.str.inj z))), decide_eq_false c]
          rw [e]
          rfl
      · rintro H4 ⟨s4, h4, h5⟩
        refine ⟨D2, _, rfl, SqL.of h5, _, rfl, ?_⟩
        rw [List.all_map]
        refine ite2 (fun c => ?_) (fun c => ?_)
        · have w : ∀ k, size ≤ k → k < 40 - (1 + j) → s k = s (k + (1 + j)) := by
            intro k k0 k1
            have z := List.all_eq_true.mp c (k - size) (List.mem_range.mpr (by omega))
            have z2 := of_decide_eq_true (show decide (s (size + (k - size)) = s (size + (k - size) + (1 + j))) = true from z)
            rw [show size + (k - size) = k by omega] at z2
            exact z2
          have hsize : size = f.length := by
            rcases Nat.lt_or_ge size f.length with z | z
            · exact (no_head N f8 g4 z (by omega) (by omega) w).elim
            · omega
          have hj2 : 1 + j = g.length := by
            have := hlen hsize
            rcases Nat.lt_or_ge (1 + j) g.length with z | z
            · exact (no_loop N f8 g4 (by omega) z fun k k0 k1 => w k (by omega) k1).elim
            · omega
          have hp1 : (ones L).length = 40 := by rw [ones_length, Ll]
          refine ⟨⟨_, rfl⟩, _, rfl, _, rfl, _, rfl, D, _, rfl, SqL.of h4, fun p1 n1 => ?_⟩
          have c1 : cutV (ones L) none (some (0 + (size : Int))) = ones f := by
            rw [Int.zero_add, cut_head, hsize]
            congr 1
            exact head_piece (by omega)
          have c2 : cutV (ones L) (some (0 + (size : Int))) (some (0 + (size : Int) + (1 + (j : Int)))) = ones g := by
            rw [Int.zero_add, show (size : Int) + (1 + (j : Int)) = ((size + (1 + j) : Nat) : Int) by omega, cut_mid _ (by omega) (by omega), show size + (1 + j) - size = g.length by omega, hsize]
            congr 1
            exact loop_piece (by omega)
          refine ⟨"", p1, one f, rfl, rfl, .inl (SqL.of (by rw [upd_same, c1]; rfl)), one_small (by omega), ?_⟩
          have h6 := (same_new n1 (.lst (cutV (ones L) none (some (0 + (size : Int)))))) _ _ h4
          refine ⟨⟨_, rfl⟩, _, rfl, _, rfl, _, rfl, _, rfl, _, rfl, _, _, rfl, rfl, _, rfl, D, _, rfl, SqL.of h6, fun p2 n2 => ?_⟩
          refine ⟨"", p2, one g, rfl, rfl, .inl (SqL.of (by rw [upd_same, c2]; rfl)), one_small (by omega), ?_⟩
          refine ⟨(by show 2 ≤ sizeLine; decide), fun p np => ?_⟩
          rw [TL.join_eq, TL.join_eq, join_one, join_one]
          have sp := (s4.trans ((same_new n1 (.lst (cutV (ones L) none (some (0 + (size : Int)))))).trans (same_new n2 (.lst (cutV (ones L) (some (0 + (size : Int))) (some (0 + (size : Int) + (1 + (j : Int)))))))))
          exact q p _ (sp.trans (same_new np _)) (sp.free np) upd_same
        · refine ⟨s4, h4, fun z => ?_, _, _, _, rfl⟩
          have := hlen z
          rcases Nat.lt_or_ge (1 + j) g.length with y | y
          · omega
          · refine (c (List.all_eq_true.mpr fun t ht => ?_)).elim
            have e : 1 + j = g.length := by omega
            show decide (s (size + t) = s (size + t + (1 + j))) = true
            rw [e]
            exact decide_eq_true (hits (by omega))
    · rintro σ H3 ⟨s3, h3, hlen, w2, w3, w4, rfl⟩
      refine ⟨s3, h3, ?_, _, _, _, _, rfl⟩
      rcases Nat.lt_or_ge size f.length with z | z
      · exact z
      · have := hlen (by omega)
        omega
  · rintro σ H2 ⟨s2, h2, hle, _⟩
    omega
end
end R5

namespace R5
open PySem PySem.Spec PyProof.Rows L2 Hx Rw
/-- what is drawn: a head and a loop -/
structure Drawn (h l c : List Nat) (k : Nat) : Prop where
  hl : h.length ≤ 8
  hg : h.all letter = true
  cg : c.all letter = true
  c1 : 1 ≤ c.length
  c4 : c.length ≤ 4
  k1 : 1 ≤ k
  k2 : k ≤ 2
  e : l = rep k c
theorem rep_all {c : List Nat} (h : c.all letter = true) : ∀ n, (rep n c).all letter = true
  | 0 => rfl
  | n + 1 => by rw [rep_succ, List.all_append, h, rep_all h n]; rfl
theorem Drawn.llen {h l c : List Nat} {k : Nat} (d : Drawn h l c k) : l.length = k * c.length := by rw [d.e, rep_length]
theorem Drawn.lpos {h l c : List Nat} {k : Nat} (d : Drawn h l c k) : 0 < l.length := by
  rw [d.llen]
  exact Nat.mul_pos d.k1 d.c1
theorem Drawn.l8 {h l c : List Nat} {k : Nat} (d : Drawn h l c k) : l.length ≤ 8 := by
  rw [d.llen]
  exact Nat.mul_le_mul d.k2 d.c4
theorem Drawn.lg {h l c : List Nat} {k : Nat} (d : Drawn h l c k) : l.all letter = true := by
  rw [d.e]
  exact rep_all d.cg k
def spDrawn : Sp := fun vs H Q _ => ∃ (d : Addr) (m : List Nat), vs = [.ref d, .str (T m)] ∧ 0 < m.length ∧ m.length ≤ 1000 ∧ m.all letter = true ∧ DeckAt H d ∧
  ∀ (h l c : List Nat) (k : Nat) (p : Addr) H', Drawn h l c k → But d H H' → DeckAt H' d → H p = none → H' p = some (.tup [.str (T h), .str (T l)]) → Q (.ref p) H'
section
variable {P : Program} {w : World} {K : PySem.W.Frag} {mg : Str → Option Value} {base : Heap} {f C f1 f2 f3 : Addr} {fd fd1 fd2 fd3 : FuncData}
theorem all_mem {l m : List Nat} (h : m.all letter = true) (hl : ∀ c ∈ l, c ∈ m) : l.all letter = true :=
  List.all_eq_true.mpr fun c hc => List.all_eq_true.mp h c (hl c hc)
theorem but_free {H H' : Hp} {d p : Addr} (b : But d H H') (hd : DeckAt H' d) (hp : H' p = none) : H p = none := by
  cases e : H p with
  | none => rfl
  | some o =>
    obtain ⟨x, y, k, _, _, g⟩ := hd
    by_cases n : p = d
    · rw [← n, hp] at g
      cases g
    · have z := b p o n e
      rw [hp] at z
      cases z
theorem scDrawn : FnScope ["_law_deck_here", "_law_letters", "_law_start", "_law_cycle"] ["_law_deck_here", "_law_letters"] (defScope s_law_drawn) := ⟨rfl, rfl, rfl, by decide +kernel, rfl, by decide +kernel, by decide +kernel⟩
theorem ok_drawn (F : Fun K "_law_drawn" "_law_drawn" s_law_drawn f fd)
    (GC : FnOk P w K mg base CX0 1 f1 fd1 ["_law_deck_here", "_law_top"] spCard) (bC : Binds K fd1 ["_law_deck_here", "_law_top"] []) (kC : PySem.W.keepIn K (.ref f1) = true) (mC : mg "_law_card" = some (.ref f1))
    (GS : FnOk P w K mg base CX0 3 f2 fd2 ["_law_deck_here", "_law_letters", "_law_size"] spString) (bS : Binds K fd2 ["_law_deck_here", "_law_letters", "_law_size"] []) (kS : PySem.W.keepIn K (.ref f2) = true) (mS : mg "_law_string" = some (.ref f2)) :
    FnOk P w K mg base CX0 4 f fd ["_law_deck_here", "_law_letters"] spDrawn := by
  refine F.ok scDrawn (fun vs H Q E h => ?_) (fun cdv A outer s H vs Q E hr h => ?_)
  · obtain ⟨d, m, rfl, _⟩ := h
    rfl
  obtain ⟨d, m, rfl, m0, m1, mg', hd, q⟩ := h
  have r1 := hr.mono (by decide : 1 ≤ 3)
  refine ⟨_, pss_cons (ps_set (i := 2) scDrawn.nd rfl (Or.inl rfl) (pe_call GS hr rfl mS kS bS .nil pass0 (pa_cons (pv 0) (pa_cons (pv 1) (pa_cons (pe_call GC r1 rfl mC kC bC .nil pass0 (pa_cons (pv 0) (pa_cons pe_int pa_nil))) pa_nil)))))
    (pss_cons (ps_set (i := 3) scDrawn.nd rfl (Or.inl rfl) (pe_call GS hr rfl mS kS bS .nil pass0 (pa_cons (pv 0) (pa_cons (pv 1) (pa_cons (pe_op op_add pe_int (pe_call GC r1 rfl mC kC bC .nil pass0 (pa_cons (pv 0) (pa_cons pe_int pa_nil)))) pa_nil)))))
    (pss_cons (ps_if (pt_cmpR op_eq (pe_call GC r1 rfl mC kC bC .nil pass0 (pa_cons (pv 0) (pa_cons pe_int pa_nil))) pe_int (nomark _)) (pss_one (ps_set (i := 3) scDrawn.nd rfl (Or.inl rfl) (pe_op op_add_str (pv 3) (pv 3)))) pss_nil)
    (pss_cons (ps_if (pt_cmpR op_eq (pe_call GC r1 rfl mC kC bC .nil pass0 (pa_cons (pv 0) (pa_cons pe_int pa_nil))) pe_int (nomark _))
      (pss_one (ps_set (i := 2) scDrawn.nd rfl (Or.inl rfl) (pe_slice sl_str (pe_op op_add_str (pe_slice sl_str (pv 2) po_none (po_some pe_int)) (pv 3)) (po_some (pe_un un_neg pe_int)) po_none))) pss_nil)
    (pss_one (ps_ret (pe_tup (pa_cons (pv 2) (pa_cons (pv 3) pa_nil)))))))), ?_⟩
  refine seq_set ?_
  refine ⟨_, rfl, _, rfl, _, rfl, d, 9, rfl, by decide, by decide, hd, fun r H1 x0 x1 b1 hd1 => ?_⟩
  refine ⟨d, m, r, rfl, m0, m1, x0, by omega, hd1, fun h H2 hlen hin b2 hd2 => ?_⟩
  refine seq_set ?_
  refine ⟨_, rfl, _, rfl, _, rfl, d, 4, rfl, by decide, by decide, hd2, fun r2 H3 y0 y1 b3 hd3 => ⟨_, _, rfl, rfl, ?_⟩⟩
  refine ⟨d, m, 1 + r2, rfl, m0, m1, by omega, by omega, hd3, fun c H4 clen cin b4 hd4 => ?_⟩
  have b := ((b1.trans b2).trans b3).trans b4
  have dr : Drawn h c c 1 := ⟨by omega, all_mem mg' hin, all_mem mg' cin, by omega, by omega, Nat.le_refl _, by decide, by rw [rep_succ, rep_zero, List.append_nil]⟩
  clear b1 b2 b3 b4 hd1 hd2 hd3
  have line : (100 : Nat) ≤ sizeLine := by decide
  refine if_join (fun σ' H' => But d H H' ∧ DeckAt H' d ∧ ∃ (l : List Nat) (k : Nat), Drawn h l c k ∧ σ' = [some (.ref d), some (.str (T m)), some (.str (T h)), some (.str (T l))]) (fun N hN => ?_) ?_
  · refine ⟨_, rfl, d, 2, rfl, by decide, by decide, hd4, fun r3 H5 _ _ b5 hd5 => ⟨rfl, _, rfl, ?_⟩⟩
    refine ite2 (fun _ => ?_) (fun _ => ?_)
    · refine ⟨_, rfl, _, rfl, _, _, rfl, rfl, ?_, ?_⟩
      · rw [T_len]
        have := dr.c4
        omega
      · rw [T_add]
        refine hN _ _ ⟨b.trans b5, hd5, c ++ c, 2, ⟨dr.hl, dr.hg, dr.cg, dr.c1, dr.c4, by decide, Nat.le_refl _, ?_⟩, rfl⟩
        rw [rep_succ, rep_succ, rep_zero, List.append_nil]
    · exact hN _ _ ⟨b.trans b5, hd5, c, 1, dr, rfl⟩
  rintro σ' H5 ⟨b5, hd5, l, k, dl, rfl⟩
  refine if_join (fun σ' H' => But d H H' ∧ DeckAt H' d ∧ ∃ (h : List Nat), Drawn h l c k ∧ σ' = [some (.ref d), some (.str (T m)), some (.str (T h)), some (.str (T l))]) (fun N hN => ?_) ?_
  · refine ⟨_, rfl, d, 2, rfl, by decide, by decide, hd5, fun r3 H6 _ _ b6 hd6 => ⟨rfl, _, rfl, ?_⟩⟩
    refine ite2 (fun _ => ?_) (fun _ => ?_)
    · have l8 := dl.l8
      have h8 := dl.hl
      refine ⟨_, rfl, _, rfl, T h, rfl, by rw [T_len]; omega, _, rfl, ?_⟩
      rw [T_cutN _ (by decide)]
      refine ⟨_, _, rfl, rfl, ?_, ?_⟩
      · rw [T_len, T_len, List.length_take]
        omega
      rw [T_add]
      refine ⟨_, rfl, _, rfl, T _, rfl, by rw [T_len, List.length_append, List.length_take]; omega, ?_⟩
      rw [T_cutB _ (by decide)]
      refine hN _ _ ⟨b5.trans b6, hd6, _, ⟨?_, ?_, dl.cg, dl.c1, dl.c4, dl.k1, dl.k2, dl.e⟩, rfl⟩
      · rw [List.length_drop]
        have : (- -(8 : Int)).toNat = 8 := rfl
        omega
      · refine List.all_eq_true.mpr fun x hx => ?_
        have hx2 := List.mem_of_mem_drop hx
        rcases List.mem_append.mp hx2 with z | z
        · exact List.all_eq_true.mp dl.hg x (List.mem_of_mem_take z)
        · exact List.all_eq_true.mp dl.lg x z
    · exact hN _ _ ⟨b5.trans b6, hd6, h, dl, rfl⟩
  rintro σ' H6 ⟨b6, hd6, h', dl', rfl⟩
  refine ⟨_, rfl, _, rfl, (by show 2 ≤ sizeLine; decide), fun p np => ?_⟩
  have nd := hd6.ne np
  exact q h' l c k p _ dl' (b6.new np _) (hd6.but nd _) (but_free b6 hd6 np) upd_same
end
end R5

namespace R5
open PySem PySem.Spec PyProof.Rows L2 Hx Rw
/-! ### more of rows -/
theorem norm_unique {f g f2 g2 : List Nat} (N : Norm f g) (N2 : Norm f2 g2) (e : ∀ n, sg f g n = sg f2 g2 n) : f = f2 ∧ g = g2 := by
  have hf : f.length = f2.length := Nat.le_antisymm (head_le N N2.pos e) (head_le N2 N.pos fun n => (e n).symm)
  have el : ∀ i, lp g i = lp g2 i := fun i => by
    have := e (f.length + i)
    rw [sg_far (by omega), sg_far (by omega), show f.length + i - f.length = i by omega, show f.length + i - f2.length = i by omega] at this
    exact this
  have no : ∀ {a b : List Nat}, (∀ i, lp a i = lp b i) → 0 < a.length → Prim b → ¬ a.length < b.length := fun {a b} h ha pb c => by
    obtain ⟨i, hi⟩ := pb _ ha c
    refine hi ?_
    rw [← h, ← h, lp_add1]
  have hg : g.length = g2.length := by
    have h1 := no el N.pos N2.prim
    have h2 := no (fun i => (el i).symm) N2.pos N.prim
    omega
  constructor
  · refine ext_getD hf fun i hi => ?_
    have := e i
    unfold sg at this
    rw [if_pos hi, if_pos (by omega)] at this
    exact this
  · refine ext_getD hg fun i hi => ?_
    have := el i
    rw [lp_lt hi, lp_lt (by omega)] at this
    exact this
theorem least_short {a c : List Nat} {k : Nat} (L : Least a (rep k c)) (hc : 0 < c.length) : a.length ≤ c.length := by
  refine Nat.le_of_not_lt fun z => ?_
  exact L.min c.length hc z c rfl k rfl
theorem back_le (many p : Nat) (hp : 0 < p) : back many p ≤ p := Nat.le_of_lt (back_lt hp)
theorem all_take {l : List Nat} (h : l.all letter = true) (n : Nat) : (l.take n).all letter = true :=
  List.all_eq_true.mpr fun c hc => List.all_eq_true.mp h c (List.mem_of_mem_take hc)
theorem all_drop {l : List Nat} (h : l.all letter = true) (n : Nat) : (l.drop n).all letter = true :=
  List.all_eq_true.mpr fun c hc => List.all_eq_true.mp h c (List.mem_of_mem_drop hc)
theorem all_turned {l : List Nat} (h : l.all letter = true) (n : Nat) : (turned n l).all letter = true := by
  unfold turned
  rw [List.all_append, all_drop h, all_take h]
  rfl
theorem letter_getD {l : List Nat} (h : l.all letter = true) {n : Nat} (hn : n < l.length) : letter (l.getD n 0) = true := by
  rw [getD_get hn]
  exact List.all_eq_true.mp h _ (List.getElem_mem hn)
theorem letter_sg {f g : List Nat} (hf : f.all letter = true) (hg : g.all letter = true) (p : 0 < g.length) (n : Nat) : letter (sg f g n) = true := by
  unfold sg
  split
  · rename_i c
    exact letter_getD hf c
  · exact letter_getD hg (Nat.mod_lt _ p)
theorem letter_low {c : Nat} (h : letter c = true) : c < 1114112 := by
  have z : c ∈ abc.cps.toList := of_decide_eq_true h
  have all : ∀ x ∈ abc.cps.toList, x < 1114112 := by decide +kernel
  exact all c z
theorem strOk_T {l : List Nat} (h : ∀ c ∈ l, c < 1114112) : PyData.strOk (T l) = true := by
  unfold PyData.strOk
  rw [← Array.all_toList]
  exact List.all_eq_true.mpr fun c hc => decide_eq_true (h c hc)
theorem strOk_good {l : List Nat} (h : l.all letter = true) : PyData.strOk (T l) = true := strOk_T fun c hc => letter_low (List.all_eq_true.mp h c hc)
theorem shaped_strs : ∀ {ls : List Str}, (∀ x ∈ ls, PyData.strOk x = true) → PyData.canLayAll0 (ls.map PyData.str) = true ∧ PyData.depthAll (ls.map PyData.str) = 0
  | [], _ => ⟨rfl, rfl⟩
  | n :: ns, h => by
    obtain ⟨h1, h2⟩ := shaped_strs (ls := ns) fun x hx => h x (List.mem_cons_of_mem _ hx)
    constructor
    · show (PyData.strOk n && PyData.canLayAll0 (ns.map PyData.str)) = true
      rw [h n List.mem_cons_self, h1]
      rfl
    · show max 0 (PyData.depthAll (ns.map PyData.str)) = 0
      rw [h2]
      rfl
theorem shaped_list {ls : List Str} (h : ∀ x ∈ ls, PyData.strOk x = true) : SeqAt.shaped (.list (ls.map PyData.str)) = true := by
  obtain ⟨h1, h2⟩ := shaped_strs h
  unfold SeqAt.shaped
  rw [show (PyData.list (ls.map PyData.str)).canLay0 = PyData.canLayAll0 (ls.map PyData.str) from rfl, h1]
  rw [show (PyData.list (ls.map PyData.str)).depth = PyData.depthAll (ls.map PyData.str) + 1 from rfl, h2]
  rfl
theorem shaped_tup {ls : List Str} (h : ∀ x ∈ ls, PyData.strOk x = true) : SeqAt.shaped (.tuple (ls.map PyData.str)) = true := by
  obtain ⟨h1, h2⟩ := shaped_strs h
  unfold SeqAt.shaped
  rw [show (PyData.tuple (ls.map PyData.str)).canLay0 = PyData.canLayAll0 (ls.map PyData.str) from rfl, h1]
  rw [show (PyData.tuple (ls.map PyData.str)).depth = PyData.depthAll (ls.map PyData.str) + 1 from rfl, h2]
  rfl
theorem dp_strs {K : PySem.W.Frag} {H : Hp} : ∀ ls : List Str, DpAll K H (ls.map V.str) (ls.map PyData.str)
  | [] => .nil
  | x :: r => .cons (.str x) (dp_strs r)
theorem eqv_tup (a b c d : Str) : PyData.eqv (.tuple [.str a, .str b]) (.tuple [.str c, .str d]) = decide (a = c ∧ b = d) := by
  show (decide (a = c) && (decide (b = d) && true)) = _
  by_cases h1 : a = c <;> by_cases h2 : b = d <;> simp [h1, h2]
end R5

namespace R5
open PySem PySem.Spec PyProof.Rows L2 Hx Rw
theorem eqv_self {d : PyData} (h : SeqAt.shaped d = true) : PyData.eqv d d = true := SeqAt.eqv_refl_plain d (PyData.plain_of_canLay0 d (SeqAt.canLay_of_shaped h))
/-- the def x of the module keeps its promise -/
structure Has (P : Program) (w : World) (K : PySem.W.Frag) (mg : Str → Option Value) (base : Heap) (k : Nat) (x : Str) (ps : List Str) (sp : Sp) : Prop where
  go : ∃ (f : Addr) (fd : FuncData), FnOk P w K mg base CX0 k f fd ps sp ∧ Binds K fd ps [] ∧ PySem.W.keepIn K (.ref f) = true ∧ mg x = some (.ref f)
def gMk (us ws : List Value) : List Value := match us, ws with
  | [a], [l, h] => [a, h, l]
  | _, _ => []
def gMkV (us ws : List V) : List V := match us, ws with
  | [a], [l, h] => [a, h, l]
  | _, _ => []
def gF (us ws : List Value) : List Value := match us, ws with
  | [a], [m] => [a, m]
  | _, _ => []
def gFV (us ws : List V) : List V := match us, ws with
  | [a], [m] => [a, m]
  | _, _ => []
structure Defs (P : Program) (w : World) (K : PySem.W.Frag) (mg : Str → Option Value) (base : Heap) (C : Addr) : Prop where
  rd : Rd K mg C
  bl : Bl mg
  card : Has P w K mg base 1 "_law_card" ["_law_deck_here", "_law_top"] spCard
  far : Has P w K mg base 2 "_law_far" ["_law_deck_here", "_law_groups"] spFar
  sign : Has P w K mg base 1 "_law_sign" ["_law_start", "_law_cycle", "_law_spot"] spSign
  least : Has P w K mg base 2 "_law_least" ["_law_start", "_law_cycle"] spLeast
  drawn : Has P w K mg base 4 "_law_drawn" ["_law_deck_here", "_law_letters"] spDrawn
  make : ∃ (f : Addr) (fd : FuncData), Mk K C f ∧ FnOk P w K mg base CX0 2 f fd ["self", "head", "loop"] (spInit C) ∧ Binds K fd ["self", "head", "loop"] [] ∧ KBn K fd ["self", "head", "loop"] 1 ["loop", "head"] gMk gMkV
  first : ∃ (f : Addr) (fd : FuncData), Meth K C "first" f ∧ FnOk P w K mg base CX0 4 f fd ["self", "many"] (spFirst C) ∧ Binds K fd ["self", "many"] [] ∧ KBinds K fd ["self", "many"] ["many"] gF gFV
  item : ItemBy P w K mg base 4 C ["self", "at"] (spItem C)
  eq : EqBy P w K mg base 1 C ["self", "other"] (spEq C)
  str : TellsBy P w K mg base 1 C (spStr C)
  rep : ShowsBy P w K mg base 1 C (spRepr C)
  head : ∃ (p g : Addr) (fd : FuncData), PropOf K C "head" p g ∧ FnOk P w K mg base CX0 1 g fd ["self"] (getSp C "front") ∧ Binds K fd ["self"] []
  loop : ∃ (p g : Addr) (fd : FuncData), PropOf K C "loop" p g ∧ FnOk P w K mg base CX0 1 g fd ["self"] (getSp C "again") ∧ Binds K fd ["self"] []
section
variable {P : Program} {w : World} {K : PySem.W.Frag} {mg : Str → Option Value} {base : Heap} {f C : Addr} {fd : FuncData}
theorem scHead : FnScope ["self"] ["self"] (defScope s_Round_head) := ⟨rfl, rfl, rfl, by decide +kernel, rfl, by decide +kernel, by decide +kernel⟩
theorem scLoop : FnScope ["self"] ["self"] (defScope s_Round_loop) := ⟨rfl, rfl, rfl, by decide +kernel, rfl, by decide +kernel, by decide +kernel⟩
theorem ok_head (F : Fun K "head" "Round.head" s_Round_head f fd) (R : Rd K mg C) : FnOk P w K mg base CX0 1 f fd ["self"] (getSp C "front") := by
  refine F.ok scHead (fun vs H Q E h => ?_) (fun cdv A outer s H vs Q E hr h => ?_)
  · obtain ⟨a, dx, fs, v, rfl, _⟩ := h
    rfl
  obtain ⟨a, dx, fs, v, rfl, ha, l, q⟩ := h
  exact ⟨_, pss_one (ps_ret (pe_fld (pv 0) rfl)), _, rfl, a, C, dx, _, _, rfl, ha, R.cl, R.nF, l, q⟩
theorem ok_loop (F : Fun K "loop" "Round.loop" s_Round_loop f fd) (R : Rd K mg C) : FnOk P w K mg base CX0 1 f fd ["self"] (getSp C "again") := by
  refine F.ok scLoop (fun vs H Q E h => ?_) (fun cdv A outer s H vs Q E hr h => ?_)
  · obtain ⟨a, dx, fs, v, rfl, _⟩ := h
    rfl
  obtain ⟨a, dx, fs, v, rfl, ha, l, q⟩ := h
  exact ⟨_, pss_one (ps_ret (pe_fld (pv 0) rfl)), _, rfl, a, C, dx, _, _, rfl, ha, R.cl, R.nA, l, q⟩
theorem nx_go {u : Ends → L2.St → Hp → Prop} {D D' : Ends} {σ : L2.St} {H : Hp} (h : u D σ H) : Ends.nx { D' with nx := u D } σ H := h
def spRight : Sp := fun vs H Q _ => ∃ d, vs = [.ref d] ∧ DeckAt H d ∧ ∀ H', But d H H' → Q (.bl true) H'
theorem RoundAt.but {H H' : Hp} {a d : Addr} {f g : List Nat} (r : RoundAt C H a f g) (hd : DeckAt H d) (b : But d H H') : RoundAt C H' a f g := by
  obtain ⟨dx, h⟩ := r
  refine ⟨dx, b _ _ (fun z => ?_) h⟩
  obtain ⟨x, y, k, _, _, e⟩ := hd
  rw [z, e] at h
  cases h
theorem tup_but {H H' : Hp} {p d : Addr} {xs : List V} (h : H p = some (.tup xs)) (hd : DeckAt H d) (b : But d H H') : H' p = some (.tup xs) := by
  refine b _ _ (fun z => ?_) h
  obtain ⟨x, y, k, _, _, e⟩ := hd
  rw [z, e] at h
  cases h
theorem DeckAt.same {H H' : Hp} {d : Addr} (h : DeckAt H d) (s : Same H H') : DeckAt H' d := by
  obtain ⟨x, y, z, e1, e2, e3⟩ := h
  exact ⟨x, y, z, e1, e2, s _ _ e3⟩
/-- the names of the law's main def -/
def NR : List Str := ["_law_deck_here", "_law_letters", "_law_start", "_law_cycle", "_law_mine", "_law_least_here", "_law_line", "_law_brief", "_law_size", "_law_spot", "_law_begin", "_law_again", "_law_mate", "_law_is_same"]
theorem scRight : FnScope NR ["_law_deck_here"] (defScope s_law_right) := ⟨rfl, rfl, rfl, by decide +kernel, rfl, by decide +kernel, by decide +kernel⟩
/-- the row of a Round that is made: its head and its loop -/
theorem made_row {h l c : List Nat} {k : Nat} (el : l = rep k c) (c1 : 1 ≤ c.length) (c4 : c.length ≤ 4) {a : List Nat} {many : Nat} (L : Least a l) (B : Back many h a) :
    Norm (h.take (h.length - many)) (turned (back many a.length) a) ∧ (∀ n, sg (h.take (h.length - many)) (turned (back many a.length) a) n = sg h l n) ∧ (turned (back many a.length) a).length ≤ 4 := by
  have a4 : a.length ≤ 4 := by
    rw [el] at L
    have := least_short L c1
    omega
  obtain ⟨n1, n2⟩ := norm_made L a4 B
  exact ⟨n1, n2, by rw [turned_length (back_le _ _ L.pos)]; exact a4⟩
/-- the parts of the mate -/
structure Mate (h l c : List Nat) (k : Nat) : Prop where
  gh : Good h
  gl : Good l
  e : l = rep k c
  c1 : 1 ≤ c.length
  c4 : c.length ≤ 4
  lpos : 0 < l.length
  near : ∃ h0 l0 : List Nat, h0.length ≤ 8 ∧ 0 < l0.length ∧ ∀ n, sg h l n = sg h0 l0 n
theorem Drawn.mate {h l c : List Nat} {k : Nat} (d : Drawn h l c k) : Mate h l c k :=
  ⟨⟨by have := d.hl; omega, d.hg⟩, ⟨by have := d.l8; omega, d.lg⟩, d.e, d.c1, d.c4, d.lpos, h, l, d.hl, d.lpos, fun _ => rfl⟩
theorem Drawn.longer {h l c : List Nat} {k : Nat} (d : Drawn h l c k) : Mate (h ++ l) (rep 2 l) c (2 * k) := by
  have l8 := d.l8
  have h8 := d.hl
  have lp := d.lpos
  refine ⟨⟨by rw [List.length_append]; omega, by rw [List.all_append, d.hg, d.lg]; rfl⟩, ⟨by rw [rep_length]; omega, rep_all d.lg 2⟩, by rw [d.e, rep_rep], d.c1, d.c4, by rw [rep_length]; omega, h, l, h8, lp, sg_longer lp (by decide)⟩
theorem ok_right (D : Defs P w K mg base C) (F : Fun K "_law_right" "_law_right" s_law_right f fd) : FnOk P w K mg base CX0 6 f fd ["_law_deck_here"] spRight := by
  refine F.ok scRight (fun vs H Q E h => ?_) (fun cdv A outer s H vs Q E hr h => ?_)
  · obtain ⟨d, rfl, _⟩ := h
    rfl
  obtain ⟨d, rfl, hd, q⟩ := h
  have Z := D.bl
  obtain ⟨fC, fdC, GC, bC, kC, mC⟩ := D.card.go
  obtain ⟨fF, fdF, GF, bF, kF, mF⟩ := D.far.go
  obtain ⟨fS, fdS, GS, bS, kS, mS⟩ := D.sign.go
  obtain ⟨fL, fdL, GL, bL, kL, mL⟩ := D.least.go
  obtain ⟨fD, fdD, GD, bD, kD, mD⟩ := D.drawn.go
  obtain ⟨fM, fdM, M, GM, bM, kbM⟩ := D.make
  obtain ⟨f1, fd1, mt1, G1, b1, kb1⟩ := D.first
  obtain ⟨pH, gH, fdH, poH, GH, bH⟩ := D.head
  obtain ⟨pO, gO, fdO, poO, GO, bO⟩ := D.loop
  have R := D.rd
  have r1 := hr.mono (by decide : 1 ≤ 5)
  have r2 := hr.mono (by decide : 2 ≤ 5)
  have r3 := hr.mono (by decide : 3 ≤ 5)
  have r4 := hr.mono (by decide : 4 ≤ 5)
  refine ⟨_, pss_cons (ps_set (i := 1) scRight.nd rfl (Or.inl rfl) (pe_ix ix_list (pe_lst (pa_cons pe_str (pa_cons pe_str (pa_cons pe_str pa_nil)))) (pe_call GC r1 rfl mC kC bC .nil pass0 (pa_cons (pv 0) (pa_cons pe_int pa_nil))) (fun _ _ => rfl)))
    (pss_cons (ps_asg (pe_call GD r4 rfl mD kD bD .nil pass0 (pa_cons (pv 0) (pa_cons (pv 1) pa_nil))) (pg_tup (by rfl) (pgs_cons (pg_name (i := 2) scRight.nd rfl (Or.inr rfl)) (pgs_cons (pg_name (i := 3) scRight.nd rfl (Or.inr rfl)) pgs_nil))))
    (pss_cons (ps_par (i := 4) (j := 5) rfl scRight.nd rfl rfl (by decide) rfl rfl (pa_cons (pe_make M GM r3 rfl R.gC bM .nil pass0 (pa_cons (pv 2) (pa_cons (pv 3) pa_nil))) (pa_cons (pe_call GL r2 rfl mL kL bL .nil pass0 (pa_cons (pv 2) (pa_cons (pv 3) pa_nil))) pa_nil)) rfl)
    (pss_cons (ps_set (i := 6) scRight.nd rfl (Or.inl rfl) (pe_join pe_str (pe_lc (te := tCall spSign [] E0 (tCons (tVar 2) (tCons (tVar 3) (tCons (tVar 9) tNil)))) (own := [("_law_spot", 9)]) (g := gName 9) (tt := tYes) rfl scRight.nd (pi_range1 rfl Z.range (pa_cons pe_int pa_nil))
      (blkOk_by (N := NR) (sc := defScope s_law_right) (by decide +kernel)) (fun _ _ _ _ _ => pg_name (i := 9) scRight.nd rfl (Or.inl rfl)) (fun _ _ _ _ _ => pts_nil)
      (fun _ _ _ _ _ => pe_call GS r1 rfl mS kS bS .nil pass0 (pa_cons (pv 2) (pa_cons (pv 3) (pa_cons (pv 9) pa_nil)))))))
    (pss_cons (ps_set (i := 7) scRight.nd rfl (Or.inl rfl) (pe_op op_add_str (pe_op op_add_str (pe_op op_add_str (pe_ix ix_tup (pv 5) pe_int (fun _ _ => rfl)) pe_str) (pe_ix ix_tup (pv 5) pe_int (fun _ _ => rfl))) pe_str))
    (pss_cons (ps_if (pt_cmpR (op_neD hr.units) (pe_lst (pa_cons (pe_prop (pv 4) R.cl poH GH r2 bH .nil pass0 rfl) (pa_cons (pe_prop (pv 4) R.cl poO GO r2 bO .nil pass0 rfl) (pa_cons (pe_callTy (call_tell (k := 1) r3) (by rfl) Z.str (by decide +kernel) (pa_cons (pv 4) pa_nil))
        (pa_cons (pe_callB (call_show D.rep r2) (by rfl) Z.repr PyProof.Rows.boot_repr (pa_cons (pv 4) pa_nil)) pa_nil)))))
        (pe_lst (pa_cons (pe_ix ix_tup (pv 5) pe_int (fun _ _ => rfl)) (pa_cons (pe_ix ix_tup (pv 5) pe_int (fun _ _ => rfl)) (pa_cons (pv 7) (pa_cons (pe_op op_add_str (pe_op op_add_str pe_str (pv 7)) pe_str) pa_nil))))) (nomark _)) (pss_one (ps_ret pe_bl)) pss_nil)
    (pss_cons (ps_set (i := 8) scRight.nd rfl (Or.inl rfl) (pe_call GC r1 rfl mC kC bC .nil pass0 (pa_cons (pv 0) (pa_cons pe_int pa_nil))))
    (pss_cons (ps_if (pt_cmpR (op_neD hr.units) (pe_lst (pa_cons (pe_meth (pv 4) R.cl mt1 G1 r4 b1 .nil pass0 (pa_cons (pv 8) pa_nil)) (pa_cons (pe_methK (pv 4) R.cl mt1 G1 r4 kb1 pass0 (pk_cons pe_int pk_nil)) (pa_cons (pe_meth (pv 4) R.cl mt1 G1 r4 b1 .nil pass0 (pa_cons pe_int pa_nil)) pa_nil))))
        (pe_lst (pa_cons (pe_slice sl_str (pv 6) po_none (po_some (pv 8))) (pa_cons (pv 6) (pa_cons pe_str pa_nil)))) (nomark _)) (pss_one (ps_ret pe_bl)) pss_nil)
    (pss_cons (ps_for PassesOwn.never rfl (pi_list (pe_op op_cat (pe_listRg rfl rfl Z.list (prg_1 rfl Z.range pe_int)) (pe_lst (pa_cons (pe_call GF r2 rfl mF kF bF .nil pass0 (pa_cons (pv 0) (pa_cons pe_int pa_nil))) (pa_cons (pe_call GF r2 rfl mF kF bF .nil pass0 (pa_cons (pv 0) (pa_cons pe_int pa_nil))) pa_nil)))))
        (pg_name (i := 9) scRight.nd rfl (Or.inl rfl))
        (pss_one (ps_if (pt_cmpR op_ne (pe_ixO D.item hr (pv 4) (pv 9) (fun _ _ => rfl)) (pe_call GS r1 rfl mS kS bS .nil pass0 (pa_cons (pv 2) (pa_cons (pv 3) (pa_cons (pv 9) pa_nil)))) (nomark _)) (pss_one (ps_ret pe_bl)) pss_nil)))
    (pss_cons (ps_par (i := 10) (j := 11) rfl scRight.nd rfl rfl (by decide) rfl rfl (pa_cons (pe_op op_add_str (pv 2) (pv 3)) (pa_cons (pe_op op_mul_str (pv 3) pe_int) pa_nil)) rfl)
    (pss_cons (ps_if (pt_cmpR op_eq (pe_call GC r1 rfl mC kC bC .nil pass0 (pa_cons (pv 0) (pa_cons pe_int pa_nil))) pe_int (nomark _))
        (pss_one (ps_asg (pe_call GD r4 rfl mD kD bD .nil pass0 (pa_cons (pv 0) (pa_cons (pv 1) pa_nil))) (pg_tup (by rfl) (pgs_cons (pg_name (i := 10) scRight.nd rfl (Or.inl rfl)) (pgs_cons (pg_name (i := 11) scRight.nd rfl (Or.inl rfl)) pgs_nil))))) pss_nil)
    (pss_cons (ps_set (i := 12) scRight.nd rfl (Or.inl rfl) (pe_makeK0 M GM r3 rfl R.gC kbM pass0 (pk_cons (pv 11) (pk_cons (pv 10) pk_nil))))
    (pss_cons (ps_set (i := 13) scRight.nd rfl (Or.inl rfl) (pe_cmpR (op_eqD hr.units) (pe_call GL r2 rfl mL kL bL .nil pass0 (pa_cons (pv 10) (pa_cons (pv 11) pa_nil))) (pv 5) (nomark _)))
    (pss_cons (ps_if (pt_cmpR (op_neD hr.units) (pe_lst (pa_cons (pe_cmpR (op_eqO D.eq r1) (pv 4) (pv 12) (nomark _)) (pa_cons (pe_cmpR (op_eqO D.eq r1) (pv 12) (pv 4) (nomark _)) (pa_cons (pe_cmpR (op_neO D.eq r2) (pv 4) (pv 12) (nomark _)) pa_nil))))
        (pe_lst (pa_cons (pv 13) (pa_cons (pv 13) (pa_cons (pe_not (pv 13)) pa_nil)))) (nomark _)) (pss_one (ps_ret pe_bl)) pss_nil)
    (pss_one (ps_ret (pe_and (pe_cmpR (op_neO D.eq r2) (pv 4) (pe_callTy (call_tell (k := 1) r3) (by rfl) Z.str (by decide +kernel) (pa_cons (pv 4) pa_nil)) (nomark _))
      (pe_and (pe_cmpR (op_neO D.eq r2) (pv 4) (pe_tup (pa_cons (pv 2) (pa_cons (pv 3) pa_nil))) (nomark _))
        (pe_one (pe_cmpR (op_eqO D.eq r1) (pv 4) (pe_make M GM r3 rfl R.gC bM .nil pass0 (pa_cons (pe_prop (pv 4) R.cl poH GH r2 bH .nil pass0 rfl) (pa_cons (pe_prop (pv 4) R.cl poO GO r2 bO .nil pass0 rfl) pa_nil))) (nomark _)))))))))))))))))))), ?_⟩
  -- letters
  refine seq_set ?_
  refine ⟨(by show 3 ≤ sizeLine; decide), fun p1 n1 => ?_⟩
  refine ⟨_, rfl, d, 3, rfl, by decide, by decide, hd.but (hd.ne n1) _, fun r H1 x0 x1 b1 hd1 => ?_⟩
  have nd1 : p1 ≠ d := Ne.symm (hd.ne n1)
  obtain ⟨v, hv, ev⟩ := atI_in (xs := [V.str "a", .str "ab", .str "xyz"]) x0 x1
  refine ⟨p1, _, _, v, rfl, rfl, b1.seq nd1 (SqL.of upd_same), ev, ?_⟩
  obtain ⟨m, rfl, m0, m1, am⟩ : ∃ m : List Nat, v = .str (T m) ∧ 0 < m.length ∧ m.length ≤ 1000 ∧ m.all letter = true := by
    simp only [List.mem_cons, List.not_mem_nil, or_false] at hv
    rcases hv with rfl | rfl | rfl
    · exact ⟨[97], congrArg V.str (by decide +kernel), by decide, by decide, by decide +kernel⟩
    · exact ⟨[97, 98], congrArg V.str (by decide +kernel), by decide, by decide, by decide +kernel⟩
    · exact ⟨[120, 121, 122], congrArg V.str (by decide +kernel), by decide, by decide, by decide +kernel⟩
  have b1' : But d H H1 := (But.refl.new n1 _).trans b1
  clear ev hv x0 x1 b1
  -- start, cycle
  refine ⟨_, rfl, _, rfl, d, m, rfl, m0, m1, am, hd1, fun h l c k pt H2 dr b2 hd2 npt hpt => ?_⟩
  refine ⟨pt, _, rfl, SqT.of hpt, rfl, _, _, rfl, _, _, rfl, rfl, ?_⟩
  have bH2 := b1'.trans b2
  clear b1' b2
  have lpos := dr.lpos
  have l8 := dr.l8
  have h8 := dr.hl
  have gh : Good h := ⟨by omega, dr.hg⟩
  have gl : Good l := ⟨by omega, dr.lg⟩
  -- mine, least
  refine ⟨_, rfl, _, rfl, fun a dx ha0 hdx0 ne => ?_⟩
  refine ⟨a, dx, h, l, rfl, upd_same, gh, gl, lpos, fun least many H3 L B le bt ha => ⟨rfl, ?_⟩⟩
  obtain ⟨N, same, g4⟩ := made_row dr.e dr.c1 dr.c4 L B
  have ag : (turned (back many least.length) least).all letter = true := by
    obtain ⟨n, _, e⟩ := L.k
    have : least.all letter = true := List.all_eq_true.mpr fun c hc => List.all_eq_true.mp gl.2 c (by
      rw [e]
      obtain ⟨n', rfl⟩ : ∃ n', n = n' + 1 := ⟨n - 1, by omega⟩
      rw [rep_succ]
      exact List.mem_append_left _ hc)
    exact all_turned this _
  have af : (h.take (h.length - many)).all letter = true := all_take gh.2 _
  have f8 : (h.take (h.length - many)).length ≤ 8 := by
    rw [List.length_take]
    omega
  generalize h.take (h.length - many) = f at *
  generalize turned (back many least.length) least = g at *
  have s3 : Same H2 H3 := fun b o hb => by
    have n1 := ne_of_none hb ha0
    have n2 := ne_of_none hb hdx0
    refine bt b o n1 ?_
    rw [upd_ne n1, upd_ne n2]
    exact hb
  have gpos := N.pos
  clear bt L B le
  refine ⟨_, rfl, _, rfl, h, l, f, g, rfl, gh.1, gl.1, lpos, N, f8, g4, fun n => (same n).symm, fun p H4 s4 np hp => ?_⟩
  refine ⟨_, _, rfl, ?_⟩
  have ha4 := s4 _ _ ha
  have bH4 := bH2.trans (But.of (s3.trans s4))
  have hd4 : DeckAt H4 d := by
    obtain ⟨x, y, z, e1, e2, e3⟩ := hd2
    exact ⟨x, y, z, e1, e2, s4 _ _ (s3 _ _ e3)⟩
  clear ha s3 s4 hd2 bH2 hd1
  -- line
  let L : List Nat := (List.range 30).map (sg f g)
  have Ll : L.length = 30 := by
    show ((List.range 30).map (sg f g)).length = 30
    rw [List.length_map, List.length_range]
  have Lg : ∀ k, k < 30 → L.getD k 0 = sg f g k := fun k hk => by
    show ((List.range 30).map (sg f g)).getD k 0 = sg f g k
    rw [List.getD_eq_getElem?_getD, List.getElem?_map, List.getElem?_range hk]
    rfl
  have La : L.all letter = true := List.all_eq_true.mpr fun c hc => by
    obtain ⟨i, _, rfl⟩ := List.mem_map.mp hc
    exact letter_sg af ag gpos i
  refine nx_go (seq_set ?_)
  refine ⟨⟨_, rfl⟩, 30, rfl, by decide, by decide, fun D1 hD1 => ?_⟩
  refine lc_range (lo := 0) (n := 30) (fun i H' => Same H4 H' ∧ H' D1 = some (.lst (ones (L.take i)))) ⟨same_new hD1 _, upd_same⟩ ?_ ?_
  · rintro i H' hi ⟨s1, h1⟩
    have hi' : i < 30 := hi
    refine ⟨rfl, turn_yes ⟨_, rfl, _, rfl, _, rfl, h, l, i, ?_, gh.1, gl.1, lpos, ?_⟩⟩
    · show [V.str (T h), V.str (T l), V.int (0 + (i : Int))] = _
      rw [Int.zero_add]
    refine ⟨_, h1, ?_, fun b o hb => ?_, ?_⟩
    · rw [ones_length, List.length_take]
      exact Nat.lt_of_lt_of_le (by omega : _ < 1000) (small_line (Nat.le_refl _))
    · rw [upd_ne (ne_of_none hb hD1)]
      exact s1 b o hb
    · rw [upd_same, List.take_add_one, List.getElem?_eq_getElem (by omega), ones_add, ← same i]
      have e : L[i]'(by omega) = sg f g i := by rw [← getD_get, Lg i hi']
      rw [e]
      rfl
  rintro H5 ⟨s5, h5⟩
  rw [List.take_of_length_le (by omega)] at h5
  refine ⟨"", D1, one L, rfl, rfl, .inl (SqL.of h5), one_small (by omega), ?_⟩
  rw [TL.join_eq, join_one]
  have ha5 := s5 _ _ ha4
  have hp5 := s5 _ _ hp
  have bH5 := bH4.trans (But.of s5)
  have hd5 : DeckAt H5 d := by
    obtain ⟨x, y, z, e1, e2, e3⟩ := hd4
    exact ⟨x, y, z, e1, e2, s5 _ _ e3⟩
  clear h5 s5 hp hd4 ha4 bH4
  -- brief
  have line : (3000 : Nat) ≤ sizeLine := by decide
  have fit : ∀ m : List Nat, m.length ≤ 3000 → (T m).length ≤ sizeLine := fun m hm => by
    rw [T_len]
    exact Nat.le_trans hm line
  have fit2 : ∀ x y : List Nat, x.length + y.length ≤ 3000 → (T x).length + (T y).length ≤ sizeLine := fun x y hm => by
    rw [T_len, T_len]
    exact Nat.le_trans hm line
  have e1 : ("(" : Str) = T [40] := by decide +kernel
  have e2 : (")" : Str) = T [41] := by decide +kernel
  have e3 : ("Round(" : Str) = T word := by decide +kernel
  have wl : word.length = 6 := rfl
  have f9 : f.length ≤ 1000 := by omega
  have g9 : g.length ≤ 1000 := by omega
  refine seq_set ?_
  refine ⟨_, rfl, p, _, _, .str (T f), rfl, rfl, SqT.of hp5, rfl, _, _, rfl, rfl, ?_, ?_⟩
  · rw [e1]
    exact fit2 _ _ (by simp; omega)
  rw [e1, T_add]
  refine ⟨_, rfl, p, _, _, .str (T g), rfl, rfl, SqT.of hp5, rfl, _, _, rfl, rfl, fit2 _ _ (by simp; omega), ?_⟩
  rw [T_add]
  refine ⟨_, _, rfl, rfl, ?_, ?_⟩
  · rw [e2]
    exact fit2 _ _ (by simp; omega)
  rw [e2, T_add]
  -- head, loop, str, repr
  refine seq_if_op ?_
  refine ⟨_, rfl, a, dx, _, rfl, ha5, a, dx, _, _, rfl, ha5, rfl, ?_⟩
  refine ⟨_, rfl, a, dx, _, rfl, ha5, a, dx, _, _, rfl, ha5, rfl, ?_⟩
  refine ⟨_, rfl, _, rfl, .inr (.inr ⟨a, C, dx, _, spStr C, rfl, ha5, D.str, a, f, g, rfl, ⟨dx, ha5⟩, f9, g9, _, rfl, ?_⟩)⟩
  refine ⟨_, rfl, a, dx, _, rfl, ha5, a, f, g, rfl, ⟨dx, ha5⟩, f9, g9, _, rfl, ?_⟩
  refine ⟨(by show 4 ≤ sizeLine; decide), fun p3 n3 => ?_⟩
  have hp6 := same_new n3 (.lst [V.str (T f), .str (T g), .str (T (f ++ [40] ++ g ++ [41])), .str (T (word ++ f ++ [40] ++ g ++ [41, 41]))]) _ _ hp5
  refine ⟨_, rfl, p, _, _, .str (T f), rfl, rfl, SqT.of hp6, rfl, ?_⟩
  refine ⟨_, rfl, p, _, _, .str (T g), rfl, rfl, SqT.of hp6, rfl, ?_⟩
  refine ⟨_, rfl, _, rfl, _, _, rfl, rfl, ?_, ?_⟩
  · rw [e3]
    exact fit2 _ _ (by simp [wl]; omega)
  rw [e3, T_add]
  refine ⟨_, _, rfl, rfl, ?_, ?_⟩
  · exact fit2 _ _ (by simp [wl]; omega)
  rw [T_add]
  refine ⟨(by show 4 ≤ sizeLine; decide), fun p4 n4 => ?_⟩
  have ew : word ++ (f ++ [40] ++ g ++ [41]) ++ [41] = word ++ f ++ [40] ++ g ++ [41, 41] := by simp
  rw [ew]
  have ok4 : ∀ x ∈ [T f, T g, T (f ++ [40] ++ g ++ [41]), T (word ++ f ++ [40] ++ g ++ [41, 41])], PyData.strOk x = true := by
    have low : ∀ {m : List Nat}, m.all letter = true → ∀ c ∈ m, c < 1114112 := fun hm c hc => letter_low (List.all_eq_true.mp hm c hc)
    have lowf := low af
    have lowg := low ag
    have lw : ∀ c ∈ word, c < 1114112 := by decide
    intro x hx
    simp only [List.mem_cons, List.not_mem_nil, or_false] at hx
    rcases hx with rfl | rfl | rfl | rfl
    · exact strOk_T lowf
    · exact strOk_T lowg
    · refine strOk_T fun c hc => ?_
      simp only [List.mem_append, List.mem_cons, List.not_mem_nil, or_false] at hc
      rcases hc with ((hc | rfl) | hc) | rfl
      · exact lowf c hc
      · decide
      · exact lowg c hc
      · decide
    · refine strOk_T fun c hc => ?_
      simp only [List.mem_append, List.mem_cons, List.not_mem_nil, or_false] at hc
      rcases hc with (((hc | hc) | rfl) | hc) | (rfl | rfl)
      · exact lw c hc
      · exact lowf c hc
      · decide
      · exact lowg c hc
      · decide
      · decide
  refine ⟨.list ([T f, T g, T (f ++ [40] ++ g ++ [41]), T (word ++ f ++ [40] ++ g ++ [41, 41])].map PyData.str), .list ([T f, T g, T (f ++ [40] ++ g ++ [41]), T (word ++ f ++ [40] ++ g ++ [41, 41])].map PyData.str),
    .lst (SqL.of (upd_other upd_same n4)) (dp_strs [T f, T g, T (f ++ [40] ++ g ++ [41]), T (word ++ f ++ [40] ++ g ++ [41, 41])]), .lst (SqL.of upd_same) (dp_strs [T f, T g, T (f ++ [40] ++ g ++ [41]), T (word ++ f ++ [40] ++ g ++ [41, 41])]), shaped_list ok4, shaped_list ok4, _, rfl, ?_⟩
  rw [eqv_self (shaped_list ok4)]
  refine iteF (next_go ?_)
  have s6 := (same_new n3 (.lst [V.str (T f), .str (T g), .str (T (f ++ [40] ++ g ++ [41])), .str (T (word ++ f ++ [40] ++ g ++ [41, 41]))])).trans (same_new n4 (.lst [V.str (T f), .str (T g), .str (T (f ++ [40] ++ g ++ [41])), .str (T (word ++ f ++ [40] ++ g ++ [41, 41]))]))
  have ha7 := s6 _ _ ha5
  have hp7 := s6 _ _ hp5
  have bH7 := bH5.trans (But.of s6)
  have hd7 := hd5.same s6
  clear hp6 ok4 ew s6 ha5 hp5 bH5 hd5
  generalize (upd (upd H5 p3 _) p4 _) = H7 at *
  clear n3 n4
  -- size
  refine seq_set ?_
  refine ⟨_, rfl, d, 31, rfl, by decide, by decide, hd7, fun r8 H8 y0 y1 b8 hd8 => ?_⟩
  have ha8 := RoundAt.but (f := f) (g := g) ⟨dx, ha7⟩ hd7 b8
  have hp8 := tup_but hp7 hd7 b8
  have bH8 := bH7.trans b8
  clear ha7 hp7 bH7 b8 hd7
  obtain ⟨dx, ha8⟩ := ha8
  obtain ⟨size, rfl⟩ : ∃ size : Nat, r8 = (size : Int) := ⟨r8.toNat, by omega⟩
  -- first
  refine seq_if_op ?_
  refine ⟨_, rfl, a, dx, _, rfl, ha8, rfl, _, rfl, a, size, f, g, rfl, ⟨dx, ha8⟩, f9, g9, gpos, by omega, ?_⟩
  refine ⟨_, rfl, a, dx, _, rfl, ha8, rfl, a, 30, f, g, rfl, ⟨dx, ha8⟩, f9, g9, gpos, by decide, ?_⟩
  refine ⟨_, rfl, a, dx, _, rfl, ha8, rfl, a, 0, f, g, rfl, ⟨dx, ha8⟩, f9, g9, gpos, by decide, ?_⟩
  refine ⟨(by show 3 ≤ sizeLine; decide), fun p3 n3 => ?_⟩
  refine ⟨_, rfl, _, rfl, _, rfl, T L, rfl, fit _ (by omega), _, rfl, ?_⟩
  rw [T_cutN _ (Int.natCast_nonneg _), Int.toNat_natCast, map_range_take _ (by omega : size ≤ 30)]
  refine ⟨(by show 3 ≤ sizeLine; decide), fun p4 n4 => ?_⟩
  have e0 : ("" : Str) = T [] := by decide +kernel
  rw [e0]
  have ok3 : ∀ x ∈ [T ((List.range size).map (sg f g)), T L, T []], PyData.strOk x = true := by
    intro x hx
    simp only [List.mem_cons, List.not_mem_nil, or_false] at hx
    rcases hx with rfl | rfl | rfl
    · refine strOk_good (List.all_eq_true.mpr fun c hc => ?_)
      obtain ⟨i, _, rfl⟩ := List.mem_map.mp hc
      exact letter_sg af ag gpos i
    · exact strOk_good La
    · decide +kernel
  refine ⟨.list ([T ((List.range size).map (sg f g)), T L, T []].map PyData.str), .list ([T ((List.range size).map (sg f g)), T L, T []].map PyData.str),
    .lst (SqL.of (upd_other upd_same n4)) (dp_strs [T ((List.range size).map (sg f g)), T L, T []]), .lst (SqL.of upd_same) (dp_strs [T ((List.range size).map (sg f g)), T L, T []]), shaped_list ok3, shaped_list ok3, _, rfl, ?_⟩
  rw [eqv_self (shaped_list ok3)]
  refine iteF (next_go ?_)
  have s9 := (same_new n3 (.lst [V.str (T ((List.range size).map (sg f g))), .str (T L), .str (T [])])).trans (same_new n4 (.lst [V.str (T ((List.range size).map (sg f g))), .str (T L), .str (T [])]))
  have ha9 := s9 _ _ ha8
  have hp9 := s9 _ _ hp8
  have bH9 := bH8.trans (But.of s9)
  have hd9 := hd8.same s9
  clear ok3 s9 ha8 hp8 bH8 hd8
  generalize (upd (upd H8 p3 _) p4 _) = H9 at *
  clear n3 n4
  -- the places
  refine ⟨30, rfl, RgOk.of_le (by decide) (by decide) (by decide) (by decide), fun p5 n5 => ?_⟩
  have nd5 : p5 ≠ d := Ne.symm (hd9.ne n5)
  have s10 := same_new n5 (.lst (rgV 0 30))
  have ha10 := s10 _ _ ha9
  have hp10 := s10 _ _ hp9
  have hd10 := hd9.same s10
  have bH10 := bH9.trans (But.of s10)
  clear ha9 hp9 hd9 bH9 s10
  refine ⟨_, rfl, d, 13, rfl, by decide, by decide, hd10, fun far1 H11 b11 hd11 => ?_⟩
  have h5 := b11 p5 _ nd5 upd_same
  have ha11 := RoundAt.but (f := f) (g := g) ⟨dx, ha10⟩ hd10 b11
  have hp11 := tup_but hp10 hd10 b11
  have bH11 := bH10.trans b11
  clear ha10 hp10 hd10 bH10 b11 n5
  refine ⟨_, rfl, d, 5, rfl, by decide, by decide, hd11, fun far2 H12 b12 hd12 => ?_⟩
  have h5' := b12 p5 _ nd5 h5
  have ha12 := ha11.but hd11 b12
  have hp12 := tup_but hp11 hd11 b12
  have bH12 := bH11.trans b12
  clear ha11 hp11 hd11 bH11 b12 h5
  refine ⟨(by show 2 ≤ sizeLine; decide), fun p6 n6 => ?_⟩
  have rl : (rgV 0 30).length = 30 := rgV_length 0 30
  refine ⟨p5, p6, _, _, rfl, rfl, upd_other h5' n6, upd_same, (by rw [rl]; show 30 + 2 ≤ sizeLine; decide), fun p7 n7 => ?_⟩
  have s13 := (same_new n6 (.lst [V.int (far1 : Nat), .int (far2 : Nat)])).trans (same_new n7 (.lst (rgV 0 30 ++ [V.int (far1 : Nat), .int (far2 : Nat)])))
  have h7 : (upd (upd H12 p6 (.lst [V.int (far1 : Nat), .int (far2 : Nat)])) p7 (.lst (rgV 0 30 ++ [V.int (far1 : Nat), .int (far2 : Nat)]))) p7 = some (.lst (rgV 0 30 ++ [V.int (far1 : Nat), .int (far2 : Nat)])) := upd_same
  have ha13 := ha12.same s13
  have hp13 := s13 _ _ hp12
  have hd13 := hd12.same s13
  have bH13 := bH12.trans (But.of s13)
  clear ha12 hp12 hd12 bH12 s13 h5'
  have nums : ∀ x ∈ rgV 0 30 ++ [V.int (far1 : Nat), .int (far2 : Nat)], ∃ n : Nat, x = V.int (n : Nat) := by
    intro x hx
    rcases List.mem_append.mp hx with hx | hx
    · obtain ⟨i, _, rfl⟩ := List.mem_map.mp hx
      exact ⟨i, by rw [Int.zero_add]⟩
    · simp only [List.mem_cons, List.not_mem_nil, or_false] at hx
      rcases hx with rfl | rfl
      · exact ⟨far1, rfl⟩
      · exact ⟨far2, rfl⟩
  generalize (upd (upd H12 p6 _) p7 _) = H13 at *
  generalize rgV 0 30 ++ [V.int (far1 : Nat), .int (far2 : Nat)] = xs at *
  clear n6 n7
  obtain ⟨dx, ha13⟩ := ha13
  refine ⟨p7, rfl, ⟨_, SqL.of h7⟩, for_list (K := K) (a := p7) (xs := xs)
    (fun _ σ H' => Same H13 H' ∧ ∃ v9, σ = [some (.ref d), some (.str (T m)), some (.str (T h)), some (.str (T l)), some (.ref a), some (.ref p), some (.str (T L)), some (.str (T (f ++ [40] ++ g ++ [41]))), some (.int (size : Nat)), v9, none, none, none, none])
    ⟨Same.refl _, none, rfl⟩ (fun _ _ _ _ z => SqL.of (z.1 _ _ h7)) ?_ ?_⟩
  · rintro i x σ H' hx ⟨s14, v9, rfl⟩
    obtain ⟨n, rfl⟩ := nums x (List.mem_of_getElem? hx)
    have ha14 := s14 _ _ ha13
    refine ⟨_, rfl, _, rfl, a, dx, _, rfl, ha14, a, n, f, g, rfl, ⟨dx, ha14⟩, f9, g9, gpos, ?_⟩
    refine ⟨_, rfl, _, rfl, _, rfl, h, l, n, rfl, gh.1, gl.1, lpos, rfl, _, rfl, iteNS ?_ ?_⟩
    · rw [same n]
    · exact ⟨s14, _, rfl⟩
  rintro σ H14 ⟨s14, v9, rfl⟩
  have ha14 := s14 _ _ ha13
  have hp14 := s14 _ _ hp13
  have hd14 := hd13.same s14
  have bH14 := bH13.trans (But.of s14)
  clear s14 h7 nums hp13 ha13 hd13 bH13
  -- begin, again
  dsimp only
  refine ⟨_, rfl, _, rfl, _, _, rfl, rfl, fit2 _ _ (by omega), _, rfl, _, _, rfl, rfl, mulOk (by decide) (by decide) gl.1, _, _, rfl, ?_⟩
  rw [T_add, T_mul _ (by decide)]
  refine nx_go (if_join (fun σ' H' => But d H14 H' ∧ DeckAt H' d ∧ ∃ (h2 l2 c2 : List Nat) (k2 : Nat), Mate h2 l2 c2 k2 ∧
      σ' = [some (.ref d), some (.str (T m)), some (.str (T h)), some (.str (T l)), some (.ref a), some (.ref p), some (.str (T L)), some (.str (T (f ++ [40] ++ g ++ [41]))), some (.int (size : Nat)), v9, some (.str (T h2)), some (.str (T l2)), none, none]) (fun Nx hN => ?_) ?_)
  · refine ⟨_, rfl, d, 2, rfl, by decide, by decide, hd14, fun r15 H15 _ _ b15 hd15 => ⟨rfl, _, rfl, ?_⟩⟩
    refine ite2 (fun _ => ?_) (fun _ => ?_)
    · refine ⟨_, rfl, _, rfl, d, m, rfl, m0, m1, am, hd15, fun h2 l2 c2 k2 pt2 H16 dr2 b16 hd16 _ hpt2 => ?_⟩
      exact ⟨pt2, _, rfl, SqT.of hpt2, rfl, _, _, rfl, _, _, rfl, rfl, hN _ _ ⟨b15.trans b16, hd16, h2, l2, c2, k2, dr2.mate, rfl⟩⟩
    · exact hN _ _ ⟨b15, hd15, _, _, c, 2 * k, dr.longer, rfl⟩
  rintro σ' H16 ⟨b16, hd16, h2, l2, c2, k2, ma, rfl⟩
  obtain ⟨dx, ha16⟩ := RoundAt.but (f := f) (g := g) ⟨dx, ha14⟩ hd14 b16
  have hp16 := tup_but hp14 hd14 b16
  have bH16 := bH14.trans b16
  clear ha14 hp14 hd14 bH14 b16
  -- mate
  refine seq_set ?_
  refine ⟨_, rfl, _, rfl, rfl, rfl, fun a2 dx2 ha0 hdx0 ne => ?_⟩
  refine ⟨a2, dx2, h2, l2, rfl, upd_same, ma.gh, ma.gl, ma.lpos, fun least2 many2 H17 L2 B2 le2 bt hm => ⟨rfl, ?_⟩⟩
  obtain ⟨N2, same2, g24⟩ := made_row ma.e ma.c1 ma.c4 L2 B2
  have ag2 : (turned (back many2 least2.length) least2).all letter = true := by
    obtain ⟨n, _, e⟩ := L2.k
    have : least2.all letter = true := List.all_eq_true.mpr fun c hc => List.all_eq_true.mp ma.gl.2 c (by
      rw [e]
      have lp := ma.lpos
      obtain ⟨n', rfl⟩ : ∃ n', n = n' + 1 := ⟨n - 1, by omega⟩
      rw [rep_succ]
      exact List.mem_append_left _ hc)
    exact all_turned this _
  have af2 : (h2.take (h2.length - many2)).all letter = true := all_take ma.gh.2 _
  generalize h2.take (h2.length - many2) = f2 at *
  generalize turned (back many2 least2.length) least2 = g2 at *
  have f28 : f2.length ≤ 8 := by
    obtain ⟨h0, l0, z8, zp, zs⟩ := ma.near
    exact Nat.le_trans (head_le N2 zp fun n => (same2 n).trans (zs n)) z8
  have s17 : Same H16 H17 := fun b o hb => by
    have n1 := ne_of_none hb ha0
    have n2 := ne_of_none hb hdx0
    refine bt b o n1 ?_
    rw [upd_ne n1, upd_ne n2]
    exact hb
  clear bt L2 B2 le2
  have ha17 := s17 _ _ ha16
  have hp17 := s17 _ _ hp16
  have hd17 := hd16.same s17
  have bH17 := bH16.trans (But.of s17)
  clear s17 ha16 hp16 hd16 bH16 ha0 hdx0 ne
  -- is_same
  refine seq_set ?_
  refine ⟨_, rfl, _, rfl, h2, l2, f2, g2, rfl, ma.gh.1, ma.gl.1, ma.lpos, N2, f28, g24, fun n => (same2 n).symm, fun p18 H18 s18 np18 hp18 => ?_⟩
  have ok2 : ∀ {x y : List Nat}, x.all letter = true → y.all letter = true → ∀ z ∈ [T x, T y], PyData.strOk z = true := by
    intro x y hx hy z hz
    simp only [List.mem_cons, List.not_mem_nil, or_false] at hz
    rcases hz with rfl | rfl
    · exact strOk_good hx
    · exact strOk_good hy
  refine ⟨_, rfl, .tuple ([T f2, T g2].map PyData.str), .tuple ([T f, T g].map PyData.str), .tup (SqT.of hp18) (dp_strs [T f2, T g2]), .tup (SqT.of (s18 _ _ hp17)) (dp_strs [T f, T g]), shaped_tup (ok2 af2 ag2), shaped_tup (ok2 af ag), ?_⟩
  have ha18 := s18 _ _ ha17
  have hm18 := s18 _ _ hm
  have bH18 := bH17.trans (But.of s18)
  clear hp18 hp17 ha17 hm hd17 bH17 s18 np18
  have es : PyData.eqv (.tuple ([T f2, T g2].map PyData.str)) (.tuple ([T f, T g].map PyData.str)) = decide (f = f2 ∧ g = g2) := by
    show PyData.eqv (.tuple [.str (T f2), .str (T g2)]) (.tuple [.str (T f), .str (T g)]) = _
    rw [eqv_tup]
    by_cases c1 : f = f2 ∧ g = g2
    · rw [decide_eq_true c1, decide_eq_true ⟨by rw [c1.1], by rw [c1.2]⟩]
    · rw [decide_eq_false c1, decide_eq_false fun z => c1 ⟨(T_inj z.1).symm, (T_inj z.2).symm⟩]
  rw [es]
  -- the comparisons
  refine seq_if_op ?_
  refine ⟨_, rfl, _, rfl, a, dx, _, rfl, ha18, .inr (.inr ⟨a2, dx2, _, rfl, hm18⟩), a, _, f, g, rfl, ⟨dx, ha18⟩, .inr (.inr ⟨a2, f2, g2, rfl, ⟨dx2, hm18⟩, _, rfl, ?_⟩)⟩
  refine ⟨_, rfl, _, rfl, a2, dx2, _, rfl, hm18, .inr (.inr ⟨a, dx, _, rfl, ha18⟩), a2, _, f2, g2, rfl, ⟨dx2, hm18⟩, .inr (.inr ⟨a, f, g, rfl, ⟨dx, ha18⟩, _, rfl, ?_⟩)⟩
  refine ⟨_, rfl, _, rfl, a, dx, _, rfl, ha18, .inr (.inr ⟨a2, dx2, _, rfl, hm18⟩), a, _, f, g, rfl, ⟨dx, ha18⟩, .inr (.inr ⟨a2, f2, g2, rfl, ⟨dx2, hm18⟩, _, rfl, ?_⟩)⟩
  have sy : decide (f2 = f ∧ g2 = g) = decide (f = f2 ∧ g = g2) := by
    by_cases c1 : f = f2 ∧ g = g2
    · rw [decide_eq_true c1, decide_eq_true ⟨c1.1.symm, c1.2.symm⟩]
    · rw [decide_eq_false c1, decide_eq_false fun z => c1 ⟨z.1.symm, z.2.symm⟩]
  rw [sy]
  generalize decide (f = f2 ∧ g = g2) = bb
  refine ⟨(by show 3 ≤ sizeLine; decide), fun p3 n3 => ?_⟩
  refine ⟨_, rfl, _, rfl, _, rfl, _, rfl, (by show 3 ≤ sizeLine; decide), fun p4 n4 => ?_⟩
  have shb : SeqAt.shaped (.list [.bool bb, .bool bb, .bool (!bb)]) = true := by cases bb <;> decide +kernel
  refine ⟨.list [.bool bb, .bool bb, .bool (!bb)], .list [.bool bb, .bool bb, .bool (!bb)], .lst (SqL.of (upd_other upd_same n4)) (.cons (.bl _) (.cons (.bl _) (.cons (.bl _) .nil))), .lst (SqL.of upd_same) (.cons (.bl _) (.cons (.bl _) (.cons (.bl _) .nil))), shb, shb, _, rfl, ?_⟩
  rw [eqv_self shb]
  refine iteF (next_go ?_)
  have s19 := (same_new n3 (.lst [V.bl bb, .bl bb, .bl (!bb)])).trans (same_new n4 (.lst [V.bl bb, .bl bb, .bl (!bb)]))
  have ha19 := s19 _ _ ha18
  have bH19 := bH18.trans (But.of s19)
  clear ha18 hm18 bH18 s19
  generalize (upd (upd H18 p3 _) p4 _) = H19 at *
  clear n3 n4
  -- the end
  refine ⟨_, rfl, _, rfl, _, rfl, .inr (.inr ⟨a, C, dx, _, spStr C, rfl, ha19, D.str, a, f, g, rfl, ⟨dx, ha19⟩, f9, g9, _, rfl, ?_⟩)⟩
  refine ⟨a, dx, _, rfl, ha19, .inl ⟨_, rfl⟩, a, _, f, g, rfl, ⟨dx, ha19⟩, .inl ⟨⟨_, rfl⟩, _, rfl, _, rfl, iteT ?_⟩⟩
  refine ⟨_, rfl, _, rfl, _, rfl, (by show 2 ≤ sizeLine; decide), fun pt2 nt2 => ?_⟩
  have s20 := same_new nt2 (.tup [V.str (T h), .str (T l)])
  have ha20 := s20 _ _ ha19
  have bH20 := bH19.trans (But.of s20)
  refine ⟨a, dx, _, rfl, ha20, .inr (.inl ⟨pt2, _, rfl, upd_same⟩), a, _, f, g, rfl, ⟨dx, ha20⟩, .inr (.inl ⟨⟨pt2, _, rfl, upd_same⟩, _, rfl, _, rfl, iteT ?_⟩)⟩
  refine ⟨_, rfl, _, rfl, a, dx, _, rfl, ha20, a, dx, _, _, rfl, ha20, rfl, _, rfl, a, dx, _, rfl, ha20, a, dx, _, _, rfl, ha20, rfl, fun a3 dx3 ha0 hdx0 ne => ?_⟩
  refine ⟨a3, dx3, f, g, rfl, upd_same, ⟨f9, af⟩, ⟨g9, ag⟩, gpos, fun least3 many3 H21 L3 B3 le3 bt hm3 => ⟨rfl, ?_⟩⟩
  have e1g : g = rep 1 g := by rw [rep_succ, rep_zero, List.append_nil]
  obtain ⟨N3, same3, _⟩ := made_row e1g gpos g4 L3 B3
  obtain ⟨u1, u2⟩ := norm_unique N N3 fun n => (same3 n).symm
  have s21 : Same (upd H19 pt2 (.tup [V.str (T h), .str (T l)])) H21 := fun b o hb => by
    have n1 := ne_of_none hb ha0
    have n2 := ne_of_none hb hdx0
    refine bt b o n1 ?_
    rw [upd_ne n1, upd_ne n2]
    exact hb
  have ha21 := s21 _ _ ha20
  refine ⟨a, dx, _, rfl, ha21, .inr (.inr ⟨a3, dx3, _, rfl, hm3⟩), a, _, f, g, rfl, ⟨dx, ha21⟩, .inr (.inr ⟨a3, _, _, rfl, ⟨dx3, hm3⟩, _, rfl, ?_⟩)⟩
  rw [decide_eq_true ⟨u1, u2⟩]
  exact q H21 (bH20.trans (But.of s21))
end
end R5

namespace R5
open PySem PySem.Spec PyProof.Rows L2 Hx Rw
def spLaw (K : PySem.W.Frag) : Sp := fun vs H Q _ => ∃ (a : Addr) (ns : List Int), vs = [.ref a] ∧ SqL K H a (ns.map V.int) ∧ ns.length ≤ 63 ∧ ∀ H', Q (.bl true) H'
theorem scLaw : FnScope ["_law_cells", "_law_turn"] ["_law_cells"] (defScope s_law) := ⟨rfl, rfl, rfl, by decide +kernel, rfl, by decide +kernel, by decide +kernel⟩
section
variable {P : Program} {w : World} {K : PySem.W.Frag} {mg : Str → Option Value} {base : Heap}
theorem ok_law {f fD fR : Addr} {fd fdD fdR : FuncData} (F : Fun K "law" "law" s_law f fd) (Z : Bl mg)
    (GD : FnOk P w K mg base CX0 1 fD fdD ["_law_cells", "_law_turn"] (spDeck K)) (bD : Binds K fdD ["_law_cells", "_law_turn"] []) (kD : PySem.W.keepIn K (.ref fD) = true) (mD : mg "_law_deck" = some (.ref fD))
    (GR : FnOk P w K mg base CX0 6 fR fdR ["_law_deck_here"] spRight) (bR : Binds K fdR ["_law_deck_here"] []) (kR : PySem.W.keepIn K (.ref fR) = true) (mR : mg "_law_right" = some (.ref fR)) :
    FnOk P w K mg base CX0 7 f fd ["_law_cells"] (spLaw K) := by
  refine F.ok scLaw (fun vs H Q E h => ?_) (fun cdv A outer s H vs Q E hr h => ?_)
  · obtain ⟨a, ns, rfl, _⟩ := h
    rfl
  obtain ⟨a, ns, rfl, hS, h63, q⟩ := h
  have r1 := hr.mono (by decide : 1 ≤ 6)
  refine ⟨_, pss_one (ps_ret (pe_callB (cr_all rfl) (by rfl) Z.all PyProof.Rows.boot_all (pa_cons
      (pe_lc (te := tCall spRight [] E0 (tCons (tCall (spDeck K) [] E0 (tCons (tVar 0) (tCons (tVar 1) tNil))) tNil)) (own := [("_law_turn", 1)]) (g := gName 1) (tt := tYes) rfl scLaw.nd
        (pi_range1 rfl Z.range (pa_cons (pe_callB (call_max2 rfl) (by rfl) Z.max PyProof.Rows.boot_max (pa_cons pe_int (pa_cons
          (pe_callB (call_min2 rfl) (by rfl) Z.min PyProof.Rows.boot_min (pa_cons (pe_callB call_len_seq (by rfl) Z.len PySem.boot_len (pa_cons (pv 0) pa_nil)) (pa_cons pe_int pa_nil))) pa_nil))) pa_nil))
        (blkOk_by (N := ["_law_cells", "_law_turn"]) (sc := defScope s_law) (by decide +kernel))
        (fun _ _ _ _ _ => pg_name (i := 1) scLaw.nd rfl (Or.inl rfl)) (fun _ _ _ _ _ => pts_nil)
        (fun _ _ _ _ _ => pe_call GR hr rfl mR kR bR .nil pass0 (pa_cons (pe_call GD r1 rfl mD kD bD .nil pass0 (pa_cons (pv 0) (pa_cons (pv 1) pa_nil))) pa_nil))) pa_nil))), ?_⟩
  have hl : (ns.map V.int).length = ns.length := List.length_map _
  refine ⟨_, rfl, a, _, rfl, .inl hS, _, _, rfl, _, _, rfl, ?_⟩
  generalize hnum : (if (if (10 : Int) < (((ns.map V.int).length : Nat) : Int) then (10 : Int) else (((ns.map V.int).length : Nat) : Int)) > 2 then (if (10 : Int) < (((ns.map V.int).length : Nat) : Int) then (10 : Int) else (((ns.map V.int).length : Nat) : Int)) else 2) = z
  have hz : 2 ≤ z ∧ z ≤ 10 := by
    rw [← hnum]
    split <;> split <;> omega
  refine ⟨z, rfl, by omega, by omega, fun D hD => ?_⟩
  refine lc_range (lo := 0) (n := z.toNat) (fun i H' => Same H H' ∧ H' D = some (.lst ((List.replicate i true).map V.bl))) ⟨same_new hD _, upd_same⟩ ?_ ?_
  · rintro i H' hi ⟨s5, h5⟩
    refine ⟨rfl, turn_yes ?_⟩
    refine ⟨_, rfl, _, rfl, a, ns, i, ?_, s5.seq hS, h63, fun p H2 s6 np dk => ?_⟩
    · show [V.ref a, V.int (0 + (i : Int))] = _
      rw [Int.zero_add]
    refine ⟨p, rfl, dk, fun H3 b => ?_⟩
    have npD : D ≠ p := ne_of_none h5 np
    refine ⟨_, b _ _ npD (s6 _ _ h5), ?_, ?_, ?_⟩
    · rw [List.length_map, List.length_replicate]
      exact Nat.lt_of_lt_of_le (by omega : i < 1000) (small_line (Nat.le_refl _))
    · intro c o hc
      have nD : c ≠ D := ne_of_none hc hD
      rw [upd_ne nD]
      exact b c o (ne_of_none (s5 c o hc) np) (s6 c o (s5 c o hc))
    · rw [upd_same, List.replicate_succ', List.map_append]
      rfl
  · rintro H' ⟨s5, h5⟩
    refine ⟨D, List.replicate z.toNat true, rfl, SqL.of h5, ?_⟩
    have e : (List.replicate z.toNat true).all id = true := by
      rw [List.all_eq_true]
      intro x hx
      exact (List.eq_of_mem_replicate hx)
    rw [e]
    exact q H'
end
/-- what is seen of a def -/
structure DF (K : PySem.W.Frag) (x : Str) (st : Stmt) (f : Addr) : Prop where
  g : PySem.W.nsIn K mainGlobals x = some (some (.ref f))
  fn : ∃ fd, Fun K x x st f fd
/-- of a method -/
structure MF (K : PySem.W.Frag) (C : Addr) (m qual : Str) (st : Stmt) (f : Addr) : Prop where
  at_ : PySem.W.findIn K (.ref C) m = some (some (.ref f))
  isf : PySem.W.isFn K (.ref f) = true
  fn : ∃ fd, Fun K m qual st f fd
/-- of a property -/
structure PF (K : PySem.W.Frag) (C : Addr) (m qual : Str) (st : Stmt) (p g : Addr) : Prop where
  at_ : PySem.W.findIn K (.ref C) m = some (some (.ref p))
  get : PySem.W.specialIn K (.ref p) "__get__" = some (some (.builtin "property.__get__"))
  tak : PySem.W.takesIn K (.ref p) = some true
  rec_ : ∃ rest, PySem.W.recIn K p "property" = some (.ref g :: rest)
  fn : ∃ fd, Fun K m qual st g fd
theorem PF.prop {K : PySem.W.Frag} {C p g : Addr} {m qual : Str} {st : Stmt} (F : PF K C m qual st p g) : PropOf K C m p g := ⟨F.at_, F.get, F.tak, F.rec_⟩
section
variable {l : PySem.W.OpenLaw} {w : World} {K : PySem.W.Frag} {h : Heap} {mg : Str → Option Value} {fa : Addr}
variable {C d0 d1 d2 d3 d4 d5 d6 d7 d8 d9 d10 d11 d12 d13 d14 d15 m_init m_getitem m_first m_eq m_str m_repr p_head g_head p_loop g_loop : Addr} {tL : Tok} {y_head y_loop : List Value}
theorem all_mk (X : K.In h) (G : h.Ns mainGlobals mg) (hfa : mg "law" = some (.ref fa))
    (gC : PySem.W.nsIn K mainGlobals "Round" = some (some (.ref C)))
    (pg : PySem.W.plainGet K C Str.empty = true)
    (hd : PySem.W.hasDictIn K C = true)
    (po : PySem.W.plainOver K C = true)
    (sa : PySem.W.findIn K (.ref C) "__setattr__" = some (some (.builtin "object.__setattr__")))
    (mk : PySem.W.makesIn K C = true)
    (kc : PySem.W.keepIn K (.ref C) = true)
    (nF : PySem.W.findIn K (.ref C) "front" = some none)
    (nA : PySem.W.findIn K (.ref C) "again" = some none)
    (kS : PySem.W.kitOne K (.type "str") (.ref C) = some false)
    (kT : PySem.W.kitOne K (.type "tuple") (.ref C) = some false)
    (kC : PySem.W.kitOne K (.ref C) (.ref C) = some true)
    (ha : PySem.W.findIn K (.ref C) "__class__" = some (some (.builtin "object.__class__")))
    (hn : PySem.W.specialIn K (.builtin "object.__class__") "__get__" = some (some (.builtin "getset_descriptor.__get__")))
    (htk : PySem.W.takesIn K (.builtin "object.__class__") = some true)
    (hm : PySem.W.mroIn K C (.type "object") = some true)
    (hne : PySem.W.findIn K (.ref C) "__ne__" = some (some (.builtin "object.__ne__")))
    (fS : PySem.W.notFirst K C (.type "str") = true)
    (fT : PySem.W.notFirst K C (.type "tuple") = true)
    (M_init : MF K C "__init__" "Round.__init__" s_Round_init m_init)
    (M_getitem : MF K C "__getitem__" "Round.__getitem__" s_Round_getitem m_getitem)
    (M_first : MF K C "first" "Round.first" s_Round_first m_first)
    (M_eq : MF K C "__eq__" "Round.__eq__" s_Round_eq m_eq)
    (M_str : MF K C "__str__" "Round.__str__" s_Round_str m_str)
    (M_repr : MF K C "__repr__" "Round.__repr__" s_Round_repr m_repr)
    (fI : PySem.W.fnIn K m_getitem = true)
    (Pa_head : PySem.W.findIn K (.ref C) "head" = some (some (.ref p_head)))
    (Pg_head : PySem.W.specialIn K (.ref p_head) "__get__" = some (some (.builtin "property.__get__")))
    (Pt_head : PySem.W.takesIn K (.ref p_head) = some true)
    (Pr_head : PySem.W.recIn K p_head "property" = some (.ref g_head :: y_head))
    (Pf_head : ∃ fd, Fun K "head" "Round.head" s_Round_head g_head fd)
    (Pa_loop : PySem.W.findIn K (.ref C) "loop" = some (some (.ref p_loop)))
    (Pg_loop : PySem.W.specialIn K (.ref p_loop) "__get__" = some (some (.builtin "property.__get__")))
    (Pt_loop : PySem.W.takesIn K (.ref p_loop) = some true)
    (Pr_loop : PySem.W.recIn K p_loop "property" = some (.ref g_loop :: y_loop))
    (Pf_loop : ∃ fd, Fun K "loop" "Round.loop" s_Round_loop g_loop fd)
    (lL : PySem.W.nsIn K mainGlobals "LETTERS" = some (some (.str abc tL)))
    (zisinstance : PySem.W.nsIn K mainGlobals "isinstance" = some none)
    (zlen : PySem.W.nsIn K mainGlobals "len" = some none)
    (zall : PySem.W.nsIn K mainGlobals "all" = some none)
    (zstr : PySem.W.nsIn K mainGlobals "str" = some none)
    (zint : PySem.W.nsIn K mainGlobals "int" = some none)
    (zbool : PySem.W.nsIn K mainGlobals "bool" = some none)
    (zrange : PySem.W.nsIn K mainGlobals "range" = some none)
    (zmin : PySem.W.nsIn K mainGlobals "min" = some none)
    (zmax : PySem.W.nsIn K mainGlobals "max" = some none)
    (zabs : PySem.W.nsIn K mainGlobals "abs" = some none)
    (zdivmod : PySem.W.nsIn K mainGlobals "divmod" = some none)
    (zrepr : PySem.W.nsIn K mainGlobals "repr" = some none)
    (zlist : PySem.W.nsIn K mainGlobals "list" = some none)
    (D0 : DF K "is_integer" s_is_integer d0)
    (D1 : DF K "check_count" s_check_count d1)
    (D2 : DF K "check_lettered" s_check_lettered d2)
    (D3 : DF K "shortest_loop" s_shortest_loop d3)
    (D4 : DF K "turned_back" s_turned_back d4)
    (D5 : DF K "_law_deck" s_law_deck d5)
    (D6 : DF K "_law_card" s_law_card d6)
    (D7 : DF K "_law_of" s_law_of d7)
    (D8 : DF K "_law_far" s_law_far d8)
    (D9 : DF K "_law_string" s_law_string d9)
    (D10 : DF K "_law_sign" s_law_sign d10)
    (D11 : DF K "_law_least" s_law_least d11)
    (D12 : DF K "_law_drawn" s_law_drawn d12)
    (D13 : DF K "_law_right" s_law_right d13)
    (D14 : DF K "law" s_law d14)
    (D15 : DF K "is_count" s_is_count d15) :
    ∃ fd : FuncData, (∀ (s : Shared) (u : Value), BindsTo s fd ⟨[u], []⟩ [("_law_cells", u)]) ∧
      ∀ base : Heap, K.In base → base.Ns mainGlobals mg → Mods base → GOk l.prog w K mg base CX0 7 fa fd ["_law_cells"] (spLaw K) := by
  cases (hfa.symm.trans (PySem.W.mg_of X G D14.g))
  obtain ⟨fd0, F0⟩ := D0.fn
  obtain ⟨fd1, F1⟩ := D1.fn
  obtain ⟨fd2, F2⟩ := D2.fn
  obtain ⟨fd3, F3⟩ := D3.fn
  obtain ⟨fd4, F4⟩ := D4.fn
  obtain ⟨fd5, F5⟩ := D5.fn
  obtain ⟨fd6, F6⟩ := D6.fn
  obtain ⟨fd7, F7⟩ := D7.fn
  obtain ⟨fd8, F8⟩ := D8.fn
  obtain ⟨fd9, F9⟩ := D9.fn
  obtain ⟨fd10, F10⟩ := D10.fn
  obtain ⟨fd11, F11⟩ := D11.fn
  obtain ⟨fd12, F12⟩ := D12.fn
  obtain ⟨fd13, F13⟩ := D13.fn
  obtain ⟨fd14, F14⟩ := D14.fn
  obtain ⟨fd15, F15⟩ := D15.fn
  obtain ⟨fm_init, N_init⟩ := M_init.fn
  obtain ⟨fm_getitem, N_getitem⟩ := M_getitem.fn
  obtain ⟨fm_first, N_first⟩ := M_first.fn
  obtain ⟨fm_eq, N_eq⟩ := M_eq.fn
  obtain ⟨fm_str, N_str⟩ := M_str.fn
  obtain ⟨fm_repr, N_repr⟩ := M_repr.fn
  have P_head : PF K C "head" "Round.head" s_Round_head p_head g_head := ⟨Pa_head, Pg_head, Pt_head, ⟨_, Pr_head⟩, Pf_head⟩
  obtain ⟨fp_head, O_head⟩ := Pf_head
  have P_loop : PF K C "loop" "Round.loop" s_Round_loop p_loop g_loop := ⟨Pa_loop, Pg_loop, Pt_loop, ⟨_, Pr_loop⟩, Pf_loop⟩
  obtain ⟨fp_loop, O_loop⟩ := Pf_loop
  have b0 := F0.binds (ps := ["value"]) fun _ _ _ _ _ _ us hl => match us, hl with | [_], _ => rfl
  have b1 := F1.binds (ps := ["given"]) fun _ _ _ _ _ _ us hl => match us, hl with | [_], _ => rfl
  have b2 := F2.binds (ps := ["given", "least"]) fun _ _ _ _ _ _ us hl => match us, hl with | [_, _], _ => rfl
  have b3 := F3.binds (ps := ["loop"]) fun _ _ _ _ _ _ us hl => match us, hl with | [_], _ => rfl
  have b4 := F4.binds (ps := ["head", "loop"]) fun _ _ _ _ _ _ us hl => match us, hl with | [_, _], _ => rfl
  have b5 := F5.binds (ps := ["_law_cells", "_law_turn"]) fun _ _ _ _ _ _ us hl => match us, hl with | [_, _], _ => rfl
  have b6 := F6.binds (ps := ["_law_deck_here", "_law_top"]) fun _ _ _ _ _ _ us hl => match us, hl with | [_, _], _ => rfl
  have b7 := F7.binds (ps := ["_law_deck_here", "_law_menu"]) fun _ _ _ _ _ _ us hl => match us, hl with | [_, _], _ => rfl
  have b8 := F8.binds (ps := ["_law_deck_here", "_law_groups"]) fun _ _ _ _ _ _ us hl => match us, hl with | [_, _], _ => rfl
  have b9 := F9.binds (ps := ["_law_deck_here", "_law_letters", "_law_size"]) fun _ _ _ _ _ _ us hl => match us, hl with | [_, _, _], _ => rfl
  have b10 := F10.binds (ps := ["_law_start", "_law_cycle", "_law_spot"]) fun _ _ _ _ _ _ us hl => match us, hl with | [_, _, _], _ => rfl
  have b11 := F11.binds (ps := ["_law_start", "_law_cycle"]) fun _ _ _ _ _ _ us hl => match us, hl with | [_, _], _ => rfl
  have b12 := F12.binds (ps := ["_law_deck_here", "_law_letters"]) fun _ _ _ _ _ _ us hl => match us, hl with | [_, _], _ => rfl
  have b13 := F13.binds (ps := ["_law_deck_here"]) fun _ _ _ _ _ _ us hl => match us, hl with | [_], _ => rfl
  have b15 := F15.binds (ps := ["value"]) fun _ _ _ _ _ _ us hl => match us, hl with | [_], _ => rfl
  have bm_init := N_init.binds (ps := ["self", "head", "loop"]) fun _ _ _ _ _ _ us hl => match us, hl with | [_, _, _], _ => rfl
  have bm_getitem := N_getitem.binds (ps := ["self", "at"]) fun _ _ _ _ _ _ us hl => match us, hl with | [_, _], _ => rfl
  have bm_first := N_first.binds (ps := ["self", "many"]) fun _ _ _ _ _ _ us hl => match us, hl with | [_, _], _ => rfl
  have bm_eq := N_eq.binds (ps := ["self", "other"]) fun _ _ _ _ _ _ us hl => match us, hl with | [_, _], _ => rfl
  have bm_str := N_str.binds (ps := ["self"]) fun _ _ _ _ _ _ us hl => match us, hl with | [_], _ => rfl
  have bm_repr := N_repr.binds (ps := ["self"]) fun _ _ _ _ _ _ us hl => match us, hl with | [_], _ => rfl
  have bp_head := O_head.binds (ps := ["self"]) fun _ _ _ _ _ _ us hl => match us, hl with | [_], _ => rfl
  have bp_loop := O_loop.binds (ps := ["self"]) fun _ _ _ _ _ _ us hl => match us, hl with | [_], _ => rfl
  have Z : Bl mg := ⟨PySem.W.mg_none_of X G zisinstance, PySem.W.mg_none_of X G zlen, PySem.W.mg_none_of X G zall, PySem.W.mg_none_of X G zstr, PySem.W.mg_none_of X G zint, PySem.W.mg_none_of X G zbool, PySem.W.mg_none_of X G zrange, PySem.W.mg_none_of X G zmin, PySem.W.mg_none_of X G zmax, PySem.W.mg_none_of X G zabs, PySem.W.mg_none_of X G zdivmod, PySem.W.mg_none_of X G zrepr, PySem.W.mg_none_of X G zlist⟩
  have R : Rd K mg C := ⟨⟨pg, hd, po, sa⟩, nF, nA, PySem.W.mg_of X G gC, kS, kT, kC, ha, hn, htk, hm⟩
  have m0 := PySem.W.mg_of X G D0.g
  have m1 := PySem.W.mg_of X G D1.g
  have m2 := PySem.W.mg_of X G D2.g
  have m3 := PySem.W.mg_of X G D3.g
  have m4 := PySem.W.mg_of X G D4.g
  have m5 := PySem.W.mg_of X G D5.g
  have m6 := PySem.W.mg_of X G D6.g
  have m7 := PySem.W.mg_of X G D7.g
  have m8 := PySem.W.mg_of X G D8.g
  have m9 := PySem.W.mg_of X G D9.g
  have m10 := PySem.W.mg_of X G D10.g
  have m11 := PySem.W.mg_of X G D11.g
  have m12 := PySem.W.mg_of X G D12.g
  have m13 := PySem.W.mg_of X G D13.g
  have m15 := PySem.W.mg_of X G D15.g
  have kbI : KBn K fm_init ["self", "head", "loop"] 1 ["loop", "head"] gMk gMkV := by
    obtain ⟨oc, od, kV, doc, pm, an, cdv, ct, osl, rfl, lk, hcd⟩ := N_init.ex
    refine ⟨fun s us ws _ h1 h2 => ?_, fun r rz => ?_⟩
    · match us, ws, h1, h2 with
      | [u], [x, y], _, _ => exact .of_eq rfl
    · cases r with
      | nil => exact .nil
      | cons a r2 =>
        cases r2 with
        | cons _ _ => exact .nil
        | nil =>
          cases rz with
          | nil => exact .nil
          | cons b rz2 =>
            cases rz2 with
            | nil => exact .nil
            | cons c rz3 =>
              cases rz3 with
              | nil => exact .cons a (.cons c (.cons b .nil))
              | cons _ _ => exact .nil
  have kbF : KBinds K fm_first ["self", "many"] ["many"] gF gFV := by
    obtain ⟨oc, od, kV, doc, pm, an, cdv, ct, osl, rfl, lk, hcd⟩ := N_first.ex
    refine ⟨fun s us ws _ h1 => ?_, fun r rz => ?_⟩
    · match us, ws, h1 with
      | [u], [x], _ => exact .of_eq rfl
      | [], [], h => cases h
      | [], _ :: _, h => cases h
      | _ :: _ :: _, _, h => cases h
      | [_], [], h => cases h
      | [_], _ :: _ :: _, h => cases h
    · cases r with
      | nil => exact .nil
      | cons a r2 =>
        cases r2 with
        | cons _ _ => exact .nil
        | nil =>
          cases rz with
          | nil => exact .nil
          | cons b rz2 =>
            cases rz2 with
            | nil => exact .cons a (.cons b .nil)
            | cons _ _ => exact .nil
  have G0 : ∀ base, FnOk l.prog w K mg base CX0 1 d0 fd0 _ _ := fun base => ok_isint F0 Z
  have G15 : ∀ base, FnOk l.prog w K mg base CX0 2 d15 fd15 _ _ := fun base => ok_iscount F15 (G0 base) b0 F0.kp m0
  have G1 : ∀ base, FnOk l.prog w K mg base CX0 3 d1 fd1 _ _ := fun base => ok_count F1 (G15 base) b15 F15.kp m15
  have G2 : ∀ base, FnOk l.prog w K mg base CX0 1 d2 fd2 _ _ := fun base => ok_chk F2 Z ⟨_, PySem.W.mg_of X G lL⟩
  have G3 : ∀ base, FnOk l.prog w K mg base CX0 1 d3 fd3 _ _ := fun base => ok_short F3 Z
  have G4 : ∀ base, FnOk l.prog w K mg base CX0 1 d4 fd4 _ _ := fun base => ok_back F4 Z
  have G5 : ∀ base, FnOk l.prog w K mg base CX0 1 d5 fd5 _ _ := fun base => ok_deck F5 Z.len Z.int Z.abs
  have G6 : ∀ base, FnOk l.prog w K mg base CX0 1 d6 fd6 _ _ := fun base => ok_card F6 Z.int Z.divmod
  have G7 : ∀ base, FnOk l.prog w K mg base CX0 2 d7 fd7 _ _ := fun base => ok_ofS F7 (G6 base) b6 F6.kp m6 Z.len
  have G8 : ∀ base, FnOk l.prog w K mg base CX0 2 d8 fd8 _ _ := fun base => ok_far F8 Z (G6 base) b6 F6.kp m6
  have G9 : ∀ base, FnOk l.prog w K mg base CX0 3 d9 fd9 _ _ := fun base => ok_string F9 Z (G7 base) b7 F7.kp m7
  have G10 : ∀ base, FnOk l.prog w K mg base CX0 1 d10 fd10 _ _ := fun base => ok_sign F10 Z
  have G11 : ∀ base, FnOk l.prog w K mg base CX0 2 d11 fd11 _ _ := fun base => ok_least F11 Z (G10 base) b10 F10.kp m10
  have G12 : ∀ base, FnOk l.prog w K mg base CX0 4 d12 fd12 _ _ := fun base => ok_drawn F12 (G6 base) b6 F6.kp m6 (G9 base) b9 F9.kp m9
  have MI : ∀ base, FnOk l.prog w K mg base CX0 2 m_init fm_init _ _ := fun base => ok_init N_init R Z (G2 base) b2 F2.kp m2 (G3 base) b3 F3.kp m3 (G4 base) b4 F4.kp m4
  have D : ∀ base, Defs l.prog w K mg base C := fun base =>
    { rd := R, bl := Z
      card := ⟨_, _, G6 base, b6, F6.kp, m6⟩
      far := ⟨_, _, G8 base, b8, F8.kp, m8⟩
      sign := ⟨_, _, G10 base, b10, F10.kp, m10⟩
      least := ⟨_, _, G11 base, b11, F11.kp, m11⟩
      drawn := ⟨_, _, G12 base, b12, F12.kp, m12⟩
      make := ⟨_, _, ⟨mk, M_init.at_, M_init.isf, kc⟩, MI base, bm_init, kbI⟩
      first := ⟨_, _, ⟨M_first.at_, M_first.isf, N_first.kp⟩, ok_first N_first R Z (G1 base) b1 F1.kp m1, bm_first, kbF⟩
      item := ⟨_, _, M_getitem.at_, fI, M_getitem.isf, ok_item N_getitem R Z (G1 base) b1 F1.kp m1, bm_getitem⟩
      eq := ⟨⟨_, _, M_eq.at_, M_eq.isf, ok_eq N_eq R Z, bm_eq⟩, hne, hm, fS, fT⟩
      str := ⟨R.cl, _, _, M_str.at_, M_str.isf, ok_str N_str R, bm_str⟩
      rep := ⟨_, _, M_repr.at_, M_repr.isf, ok_repr N_repr R, bm_repr⟩
      head := ⟨_, _, _, P_head.prop, ok_head O_head R, bp_head⟩
      loop := ⟨_, _, _, P_loop.prop, ok_loop O_loop R, bp_loop⟩ }
  have G13 : ∀ base, FnOk l.prog w K mg base CX0 6 d13 fd13 _ _ := fun base => ok_right (D base) F13
  refine ⟨fd14, ?_, fun base _ _ _ => GOk.of (ok_law F14 Z (G5 base) b5 F5.kp m5 (G13 base) b13 F13.kp m13)⟩
  obtain ⟨oc, od, kV, doc, pm, an, cdv, ct, osl, rfl, lk, hcd⟩ := F14.ex
  exact fun s u => .of_eq rfl
end
end R5

open PySem PySem.W PyProof.Rows in
set_option maxRecDepth 100000 in
set_option maxHeartbeats 0 in
theorem PySem.Challenge.cw_wovenplaces_k25_rows_that_come_round_holds : PySem.Challenge.rw_wovenplaces_k25_rows_that_come_round.Holds := by
  w_on; o_law; k_head; (case hw => w_witness2)
  k_fill
  refine Hx.walk_G (n := 63) (k := 7) (x := "_law_cells") (sp := fun K => R5.spLaw K) rfl (by decide) rfl ⟨rfl, by decide, by decide⟩ rfl (fun w h Y => PySem.W.kIn_of Y) ?F (fun K H a ns hl hS => ⟨a, ns, rfl, hS, hl, fun _ => rfl⟩)
  case F =>
    intro w mg fa h KX G hmg
    refine' R5.all_mk (l := PySem.Challenge.rw_wovenplaces_k25_rows_that_come_round) KX G hmg ?r5gC ?r5pg ?r5hd ?r5po ?r5sa ?r5mk ?r5kc ?r5nF ?r5nA ?r5kS ?r5kT ?r5kC ?r5ha ?r5hn ?r5htk ?r5hm ?r5hne ?r5fS ?r5fT ?r5M_init ?r5M_getitem ?r5M_first ?r5M_eq ?r5M_str ?r5M_repr ?r5fI ?r5Pa_head ?r5Pg_head ?r5Pt_head ?r5Pr_head ?r5Pf_head ?r5Pa_loop ?r5Pg_loop ?r5Pt_loop ?r5Pr_loop ?r5Pf_loop ?r5lL ?r5zisinstance ?r5zlen ?r5zall ?r5zstr ?r5zint ?r5zbool ?r5zrange ?r5zmin ?r5zmax ?r5zabs ?r5zdivmod ?r5zrepr ?r5zlist ?r5D0 ?r5D1 ?r5D2 ?r5D3 ?r5D4 ?r5D5 ?r5D6 ?r5D7 ?r5D8 ?r5D9 ?r5D10 ?r5D11 ?r5D12 ?r5D13 ?r5D14 ?r5D15
    (case r5gC => k_is)
    (case r5pg => k_is)
    (case r5hd => k_is)
    (case r5po => k_is)
    (case r5sa => k_is)
    (case r5mk => k_is)
    (case r5kc => k_is)
    (case r5nF => k_is)
    (case r5nA => k_is)
    (case r5kS => kernel_rfl)
    (case r5kT => kernel_rfl)
    (case r5kC => kernel_rfl)
    (case r5ha => k_is)
    (case r5hn => k_is)
    (case r5htk => k_is)
    (case r5hm => k_is)
    (case r5hne => k_is)
    (case r5fS => k_is)
    (case r5fT => k_is)
    case r5M_init =>
      refine' ⟨?a, ?i, ⟨_, L2.fun_mk ?l ?c ?k⟩⟩
      (case a => k_is)
      (case i => k_is)
      (case l => k_is)
      (case c => k_is)
      (case k => k_is)
    case r5M_getitem =>
      refine' ⟨?a, ?i, ⟨_, L2.fun_mk ?l ?c ?k⟩⟩
      (case a => k_is)
      (case i => k_is)
      (case l => k_is)
      (case c => k_is)
      (case k => k_is)
    case r5M_first =>
      refine' ⟨?a, ?i, ⟨_, L2.fun_mk ?l ?c ?k⟩⟩
      (case a => k_is)
      (case i => k_is)
      (case l => k_is)
      (case c => k_is)
      (case k => k_is)
    case r5M_eq =>
      refine' ⟨?a, ?i, ⟨_, L2.fun_mk ?l ?c ?k⟩⟩
      (case a => k_is)
      (case i => k_is)
      (case l => k_is)
      (case c => k_is)
      (case k => k_is)
    case r5M_str =>
      refine' ⟨?a, ?i, ⟨_, L2.fun_mk ?l ?c ?k⟩⟩
      (case a => k_is)
      (case i => k_is)
      (case l => k_is)
      (case c => k_is)
      (case k => k_is)
    case r5M_repr =>
      refine' ⟨?a, ?i, ⟨_, L2.fun_mk ?l ?c ?k⟩⟩
      (case a => k_is)
      (case i => k_is)
      (case l => k_is)
      (case c => k_is)
      (case k => k_is)
    (case r5fI => k_is)
    (case r5Pa_head => k_is)
    (case r5Pg_head => k_is)
    (case r5Pt_head => k_is)
    (case r5Pr_head => k_is)
    case r5Pf_head =>
      refine' ⟨_, L2.fun_mk ?l ?c ?k⟩
      (case l => k_is)
      (case c => k_is)
      (case k => k_is)
    (case r5Pa_loop => k_is)
    (case r5Pg_loop => k_is)
    (case r5Pt_loop => k_is)
    (case r5Pr_loop => k_is)
    case r5Pf_loop =>
      refine' ⟨_, L2.fun_mk ?l ?c ?k⟩
      (case l => k_is)
      (case c => k_is)
      (case k => k_is)
    (case r5lL => k_is)
    (case r5zisinstance => k_is)
    (case r5zlen => k_is)
    (case r5zall => k_is)
    (case r5zstr => k_is)
    (case r5zint => k_is)
    (case r5zbool => k_is)
    (case r5zrange => k_is)
    (case r5zmin => k_is)
    (case r5zmax => k_is)
    (case r5zabs => k_is)
    (case r5zdivmod => k_is)
    (case r5zrepr => k_is)
    (case r5zlist => k_is)
    case r5D0 =>
      refine' ⟨?g, ⟨_, L2.fun_mk ?l ?c ?k⟩⟩
      (case g => k_is)
      (case l => k_is)
      (case c => k_is)
      (case k => k_is)
    case r5D1 =>
      refine' ⟨?g, ⟨_, L2.fun_mk ?l ?c ?k⟩⟩
      (case g => k_is)
      (case l => k_is)
      (case c => k_is)
      (case k => k_is)
    case r5D2 =>
      refine' ⟨?g, ⟨_, L2.fun_mk ?l ?c ?k⟩⟩
      (case g => k_is)
      (case l => k_is)
      (case c => k_is)
      (case k => k_is)
    case r5D3 =>
      refine' ⟨?g, ⟨_, L2.fun_mk ?l ?c ?k⟩⟩
      (case g => k_is)
      (case l => k_is)
      (case c => k_is)
      (case k => k_is)
    case r5D4 =>
      refine' ⟨?g, ⟨_, L2.fun_mk ?l ?c ?k⟩⟩
      (case g => k_is)
      (case l => k_is)
      (case c => k_is)
      (case k => k_is)
    case r5D5 =>
      refine' ⟨?g, ⟨_, L2.fun_mk ?l ?c ?k⟩⟩
      (case g => k_is)
      (case l => k_is)
      (case c => k_is)
      (case k => k_is)
    case r5D6 =>
      refine' ⟨?g, ⟨_, L2.fun_mk ?l ?c ?k⟩⟩
      (case g => k_is)
      (case l => k_is)
      (case c => k_is)
      (case k => k_is)
    case r5D7 =>
      refine' ⟨?g, ⟨_, L2.fun_mk ?l ?c ?k⟩⟩
      (case g => k_is)
      (case l => k_is)
      (case c => k_is)
      (case k => k_is)
    case r5D8 =>
      refine' ⟨?g, ⟨_, L2.fun_mk ?l ?c ?k⟩⟩
      (case g => k_is)
      (case l => k_is)
      (case c => k_is)
      (case k => k_is)
    case r5D9 =>
      refine' ⟨?g, ⟨_, L2.fun_mk ?l ?c ?k⟩⟩
      (case g => k_is)
      (case l => k_is)
      (case c => k_is)
      (case k => k_is)
    case r5D10 =>
      refine' ⟨?g, ⟨_, L2.fun_mk ?l ?c ?k⟩⟩
      (case g => k_is)
      (case l => k_is)
      (case c => k_is)
      (case k => k_is)
    case r5D11 =>
      refine' ⟨?g, ⟨_, L2.fun_mk ?l ?c ?k⟩⟩
      (case g => k_is)
      (case l => k_is)
      (case c => k_is)
      (case k => k_is)
    case r5D12 =>
      refine' ⟨?g, ⟨_, L2.fun_mk ?l ?c ?k⟩⟩
      (case g => k_is)
      (case l => k_is)
      (case c => k_is)
      (case k => k_is)
    case r5D13 =>
      refine' ⟨?g, ⟨_, L2.fun_mk ?l ?c ?k⟩⟩
      (case g => k_is)
      (case l => k_is)
      (case c => k_is)
      (case k => k_is)
    case r5D14 =>
      refine' ⟨?g, ⟨_, L2.fun_mk ?l ?c ?k⟩⟩
      (case g => k_is)
      (case l => k_is)
      (case c => k_is)
      (case k => k_is)
    case r5D15 =>
      refine' ⟨?g, ⟨_, L2.fun_mk ?l ?c ?k⟩⟩
      (case g => k_is)
      (case l => k_is)
      (case c => k_is)
      (case k => k_is)

import PyProof.Rows.All
import Wide.All
import OpenK.AllK
import Wide.FinOn
import PyProof.EqAt
import PyProof.EqKinds
import PyProof.TupleCall
import PyProof.ReprRoads
import HandS.Base
import HandS.Call
import HandS.List
import HandS.Comp
import HandS.Ends
import HandS.Dict
import HandS.Iter
import HandS.Words
import HandS.WordsList
import KE.KExcInit
import HandS.Exc
import HandS.ExcInit
import HandS.IsInst
import KE.KExcIs
import HandS.ExcValue
import HandS.ListEq
import HandS.More
import KE.DataEq
import PySem.Challenge.RW_wovenplaces_k08_errors_and_limits
set_option Elab.async false
set_option linter.all false
set_option maxRecDepth 100000
set_option maxHeartbeats 4000000
namespace Hx
open PySem PySem.Spec PyProof.Rows L2

/-! a def's promise where no guard (a repr that runs) stands below -/
structure GOk (P : Program) (w : World) (K : PySem.W.Frag) (mg : Str → Option Value) (base : Heap) (CX : CXT) (k : Nat)
    (f : Addr) (fd : FuncData) (ps : List Str) (sp : Sp) : Prop where
  long : ∀ vs H Q E, sp vs H Q E → vs.length = ps.length
  goes : ∀ (A : Around) (outer : List Env) (s : Shared) (H : Hp) (args : Args) (us : List Value) (vs : List V) (Q : VK) (E : XK),
    Room k A → A.guards = some [] → Env0 P w K mg base A outer s H → BindsTo s fd args (ps.zip us) → Vals vs us → sp vs H Q E →
    codeAny (model P w) A (.call (.ref f) args) (CR CX outer P w H s Q E) s

section
variable {P : Program} {w : World} {K : PySem.W.Frag} {mg : Str → Option Value} {base : Heap} {CX : CXT} {k j : Nat}
  {f : Addr} {fd : FuncData} {ps : List Str} {sp : Sp}
theorem GOk.of (F : FnOk P w K mg base CX k f fd ps sp) : GOk P w K mg base CX k f fd ps sp :=
  ⟨F.len, fun A outer s H args us vs Q E room _ => F.run A outer s H args us vs Q E room⟩
theorem GOk.more (F : GOk P w K mg base CX j f fd ps sp) (h : j ≤ k) : GOk P w K mg base CX k f fd ps sp :=
  ⟨F.long, fun A outer s H args us vs Q E room => F.goes A outer s H args us vs Q E (room.mono h)⟩

/-- a def of the text keeps its promise, by its body, no guard below -/
theorem gok {x qual : Str} {st : Stmt} {N : List Str} (F : Fun K x qual st f fd) (S : FnScope N ps (defScope st))
    (long : ∀ vs H Q E, sp vs H Q E → vs.length = ps.length)
    (body : ∀ (cdv : Value) (A : Around) (outer : List Env) (s : Shared) (H : Hp) (vs : List V) (Q : VK) (E : XK),
      Room k (A.deeper (envOfC qual (defScope st) s.heap.objs.size f cdv)) → A.guards = some [] → sp vs H Q E →
      ∃ t, PSs (cxOf CX P w K mg base N qual (defScope st) f cdv A outer s H E) (defBody st) t ∧
        t { nx := fun _ H' => Q .non H', rt := Q } (start N vs) H) :
    GOk P w K mg base CX (k + 1) f fd ps sp := by
  obtain ⟨oc, od, kV, doc, pm, an, cdv, ct, osl, efd, hlook, hcode⟩ := F.ex
  subst efd
  constructor
  · exact long
  · intro A outer s H args us vs Q E room gd e0 hbind rel hsp
    have inK : K.In s.heap := e0.mod.kin.keeps fun b o h => (e0.bs b o h).1
    have noLim : s.heap.NoLimit := e0.mod.nolimit.keeps fun b o h => (e0.bs b o h).1
    refine codeAny_call_function room.depth (inK _ _ hlook) rfl S.co S.gen rfl (PySem.W.codeRec_of inK hcode) (hbind _ _ _ _ ?_)
    refine wpAny_newFunctionEnv_cells S.kind ?kinds fun env henv s1 inside => ?_
    case kinds =>
      rintro ⟨nm, val⟩ hm
      have hp := (List.of_mem_zip hm).1
      cases S.par nm hp with
      | inl hl => exact .inl hl
      | inr hc => exact .inr ⟨hc, PySem.W.cellsFrom_some _ _ _ (.inl hc)⟩
    subst henv
    refine ⟨noLim.keeps inside.toInCall.keep, codeAny_func ?_⟩
    obtain ⟨t, ht, hq⟩ := body cdv A outer s H vs Q E (room.deeper _) gd hsp
    have I0 := inv_start (CX := CX) (E := E) S room.hd e0 (long _ _ _ _ hsp) rel inside
    refine wpAny_mono (ht.run [] s1 (start N vs) H _ I0 hq) ?_ (fun _ _ z => z)
    intro fl s' hfl
    cases fl with
    | ret u =>
      obtain ⟨v, _, H', J, rv, q⟩ := hfl
      exact ⟨v, H', J.os, J.bare, J.base, J.hok, rv, q⟩
    | next =>
      obtain ⟨_, H', J, q⟩ := hfl
      exact ⟨V.non, H', J.os, J.bare, J.base, J.hok, rfl, q⟩
    | brk => exact hfl.elim fun _ z => z.elim fun _ z => z.2.elim
    | cont => exact hfl.elim fun _ z => z.elim fun _ z => z.2.elim
end

section
variable {X : Cx} {CX : CXT} {k : Nat} {f : Addr} {fd : FuncData} {ps : List Str} {sp : Sp} {dvs : List V} {ds : List Value} {E : XK}
theorem run_g {pins : List (Addr × Obj)} {σ : L2.St} {H : Hp} {s : Shared} {Q : VK} {us : List Value} {vs : List V}
    (F : GOk X.prog X.w X.K X.mg X.base CX k f fd ps sp) (room : Room k X.A) (gd : X.A.guards = some []) (hb : Binds X.K fd ps ds)
    (hd : Vals dvs ds) (pass : Passes CX X E) (I : Inv X pins σ H s) (r : Vals vs us) (h : sp (vs ++ dvs) H Q E) :
    wpAny (model X.prog X.w) X.A (call (.ref f) us) (EP X pins σ Q) X.xe s := by
  have rr := r.append hd
  have hlen : (us ++ ds).length = ps.length := rr.length.symm.trans (F.long _ _ _ _ h)
  have go := F.goes X.A X.stack s H ⟨us, []⟩ (us ++ ds) (vs ++ dvs) Q E room gd I.env0 (hb s us I.kIn hlen) rr h
  refine wpAny_call (codeAny_mono go ?_)
  intro r s' hr
  cases r with
  | error e => exact pass pins σ H s e s' I hr
  | ok fl =>
    cases fl with
    | ret u => exact I.after hr
    | next => exact hr.elim
    | brk => exact hr.elim
    | cont => exact hr.elim

theorem pe_callG {x : Str} {p pos : Pos} {e : Expr} {es : List Expr} {t : TA} (F : GOk X.prog X.w X.K X.mg X.base CX k f fd ps sp)
    (room : Room k X.A) (gd : X.A.guards = some []) (hg : Gl X x) (hm : X.mg x = some (.ref f)) (hk : PySem.W.keepIn X.K (.ref f) = true)
    (hb : Binds X.K fd ps ds) (hd : Vals dvs ds) (pass : Passes CX X E) (ha : PA X (e :: es) t)
    (hdb : (x == ("__debug__" : Str)) = false := by decide)
    (he : starEach (e :: es) X.env = (false, eval e X.env) :: starEach es X.env := by rfl)
    (hpl : (backTo pos (starEach es X.env)).any (·.1) = false := by rfl) :
    PE X (.Call (.Name x p) (e :: es) [] pos) (tCall sp dvs E t) := by
  constructor
  intro pins s σ H Q I h
  refine wpAny_Call_Name_kw (ld_glob I hg hm ?_ hdb)
  refine PySem.W.callWith_K (h₀ := X.base) I.ok.mod.kin hk ?_ he hpl
  refine thn (ha.run pos pins s σ H _ I h) ?_
  rintro us s1 ⟨vs, H1, J, r, q⟩
  exact ⟨J.kIn, run_g F room gd hb hd pass J r q⟩
end
end Hx
namespace Hx
open PySem PySem.Spec PyProof.Rows L2
section
variable {P : Program} {w : World} {K : PySem.W.Frag} {mg : Str → Option Value} {base : Heap} {k : Nat}
  {f : Addr} {fd : FuncData} {ps : List Str} {sp : Sp}
/-- the same where no exception leaves the def -/
theorem gok0 {x qual : Str} {st : Stmt} {N : List Str} (F : Fun K x qual st f fd) (S : FnScope N ps (defScope st))
    (long : ∀ vs H Q E, sp vs H Q E → vs.length = ps.length)
    (body : ∀ (cdv : Value) (A : Around) (outer : List Env) (s : Shared) (H : Hp) (vs : List V) (Q : VK) (E : XK),
      Room k (A.deeper (envOfC qual (defScope st) s.heap.objs.size f cdv)) → A.guards = some [] → sp vs H Q E →
      ∃ t, PSs (cxOf CX0 P w K mg base N qual (defScope st) f cdv A outer s H E).nox (defBody st) t ∧
        t { nx := fun _ H' => Q .non H', rt := Q } (start N vs) H) :
    GOk P w K mg base CX0 (k + 1) f fd ps sp :=
  gok F S long fun cdv A outer s H vs Q E room gd hsp => by
    obtain ⟨t, h, q⟩ := body cdv A outer s H vs Q E room gd hsp
    exact ⟨t, h.nox, q⟩
end
/-! joining ways: what is known of a value, for any wish -/
theorem asg_join {te : TE} {g : TG} {D : Ends} {σ : L2.St} {H : Hp} (R : V → Hp → Prop)
    (h : ∀ Q : VK, (∀ v H', R v H' → Q v H') → te σ H Q) (hq : ∀ v H', R v H' → g v σ H' D.nx) : tAsg te g D σ H := h _ hq
theorem te_join {te : TE} {Q : VK} {σ : L2.St} {H : Hp} (R : V → Hp → Prop)
    (h : ∀ Q : VK, (∀ v H', R v H' → Q v H') → te σ H Q) (hq : ∀ v H', R v H' → Q v H') : te σ H Q := h _ hq
theorem seq_set {te : TE} {i : Nat} {u : TS} {D : Ends} {σ : L2.St} {H : Hp} (h : te σ H fun x H1 => u D (σ.set i (some x)) H1) : tSeq (tAsg te (gName i)) u D σ H := h
theorem seq_if_op {r : R2} {ta tb : TE} {t u w : TS} {D : Ends} {σ : L2.St} {H : Hp}
    (h : ta σ H fun x H1 => tb σ H1 fun y H2 => r x y H2 fun z H3 => ∃ k, z = .bl k ∧ if k = true then t { D with nx := w D } σ H3 else u { D with nx := w D } σ H3) :
    tSeq (tIfS (tTest (tOp r ta tb)) t u) w D σ H := h
theorem ret_op {r : R2} {ta tb : TE} {D : Ends} {σ : L2.St} {H : Hp} (h : ta σ H fun x H1 => tb σ H1 fun y H2 => r x y H2 D.rt) : tRet (tOp r ta tb) D σ H := h
theorem next_go {w : Ends → L2.St → Hp → Prop} {D : Ends} {σ : L2.St} {H : Hp} (h : w D σ H) : tNext { D with nx := w D } σ H := h
theorem ret_go {te : TE} {D : Ends} {σ : L2.St} {H : Hp} (h : te σ H D.rt) : tRet te D σ H := h
theorem ret_join {te : TE} {D : Ends} {σ : L2.St} {H : Hp} (R : V → Hp → Prop)
    (h : ∀ Q : VK, (∀ v H', R v H' → Q v H') → te σ H Q) (hq : ∀ v H', R v H' → D.rt v H') : tRet te D σ H := h _ hq
theorem cons_join {te : TE} {tr : TA} {Q : List V → Hp → Prop} {σ : L2.St} {H : Hp} (R : V → Hp → Prop)
    (h : ∀ Q : VK, (∀ v H', R v H' → Q v H') → te σ H Q) (hq : ∀ v H', R v H' → tr σ H' fun xs H2 => Q (v :: xs) H2) : tCons te tr σ H Q := h _ hq
theorem ret_lst_join {te : TE} {tr : TA} {D : Ends} {σ : L2.St} {H : Hp} (R : V → Hp → Prop)
    (h : ∀ Q : VK, (∀ v H', R v H' → Q v H') → te σ H Q)
    (hq : ∀ v H', R v H' → tr σ H' fun xs H2 => (v :: xs).length ≤ sizeLine ∧ ∀ p, H2 p = none → D.rt (.ref p) (upd H2 p (.lst (v :: xs)))) :
    tRet (tLst (tCons te tr)) D σ H := h _ hq
theorem same_new {H : Hp} {p : Addr} (h : H p = none) (o : HO) : Same H (upd H p o) := fun b u q => by
  rw [upd_ne (ne_of_none q h)]
  exact q
theorem upd_other {H : Hp} {p q : Addr} {o u : HO} (h : H q = some u) (n : H p = none) : upd H p o q = some u := by
  rw [upd_ne (ne_of_none h n)]
  exact h
/-- all stands but what is at d -/
def But (d : Addr) (H H' : Hp) : Prop := ∀ b o, b ≠ d → H b = some o → H' b = some o
theorem But.of {d : Addr} {H H' : Hp} (s : Same H H') : But d H H' := fun b o _ h => s b o h
theorem But.refl {d : Addr} {H : Hp} : But d H H := fun _ _ _ h => h
theorem But.trans {d : Addr} {H H1 H2 : Hp} (a : But d H H1) (b : But d H1 H2) : But d H H2 := fun c o n h => b c o n (a c o n h)
theorem But.upd {d : Addr} {H H' : Hp} (a : But d H H') (o : HO) : But d H (L2.upd H' d o) := fun c u n h => by
  rw [upd_ne n]
  exact a c u n h
theorem But.new {d p : Addr} {H H' : Hp} (a : But d H H') (hp : H' p = none) (o : HO) : But d H (L2.upd H' p o) := fun c u n h => by
  have z := a c u n h
  rw [upd_ne (ne_of_none z hp)]
  exact z
theorem But.seq {K : PySem.W.Frag} {d a : Addr} {H H' : Hp} {xs : List V} (e : But d H H') (n : a ≠ d) (h : SqL K H a xs) : SqL K H' a xs := by
  rcases h with (h | ⟨o, h⟩) | h
  · exact .inl (.inl (e _ _ n h))
  · exact .inl (.inr ⟨o, e _ _ n h⟩)
  · exact .inr h
theorem atI_in {α : Type} {xs : List α} {r : Int} (r0 : 0 ≤ r) (r1 : r < (xs.length : Int)) : ∃ v, v ∈ xs ∧ atI xs r = some v := by
  have hr : r.toNat < xs.length := by omega
  have er : ((r.toNat : Nat) : Int) = r := by omega
  have z := atI_nat (List.getElem?_eq_getElem hr)
  rw [er] at z
  exact ⟨_, List.getElem_mem hr, z⟩
theorem small_line {n : Nat} (h : n ≤ 1000) : n ≤ sizeLine := Nat.le_trans h (by decide)
end Hx

namespace Hx
open PySem PySem.Spec PyProof.Rows L2
/-- the data of a key -/
def keyD : Key → PyData
  | .inl i => .int i
  | .inr x => .str x
mutual
/-- at v stands the data d, in objects that are tracked -/
inductive Dq (H : Hp) : V → PyData → Prop
  | non : Dq H .non .none
  | bl (b : Bool) : Dq H (.bl b) (.bool b)
  | int (i : Int) : Dq H (.int i) (.int i)
  | str (x : Str) : Dq H (.str x) (.str x)
  | lst {a : Addr} {xs : List V} {ds : List PyData} : H a = some (.lst xs) → DqAll H xs ds → Dq H (.ref a) (.list ds)
  | tup {a : Addr} {xs : List V} {ds : List PyData} : H a = some (.tup xs) → DqAll H xs ds → Dq H (.ref a) (.tuple ds)
  | dct {a : Addr} {ks : List (Key × V)} {es : List (PyData × PyData)} : H a = some (.dK ks) → DqKv H ks es → Dq H (.ref a) (.dict es)
inductive DqAll (H : Hp) : List V → List PyData → Prop
  | nil : DqAll H [] []
  | cons {v : V} {vs : List V} {d : PyData} {ds : List PyData} : Dq H v d → DqAll H vs ds → DqAll H (v :: vs) (d :: ds)
inductive DqKv (H : Hp) : List (Key × V) → List (PyData × PyData) → Prop
  | nil : DqKv H [] []
  | cons {k : Key} {v : V} {d : PyData} {r : List (Key × V)} {es : List (PyData × PyData)} : Dq H v d → DqKv H r es → DqKv H ((k, v) :: r) ((keyD k, d) :: es)
end
mutual
theorem Dq.same {H H' : Hp} (s : Same H H') : ∀ (d : PyData) (v : V), Dq H v d → Dq H' v d
  | .none, _, h => by cases h; exact .non
  | .bool b, _, h => by cases h; exact .bl b
  | .int i, _, h => by cases h; exact .int i
  | .str x, _, h => by cases h; exact .str x
  | .list ds, _, h => by cases h with | lst e r => exact .lst (s _ _ e) (DqAll.same s ds _ r)
  | .tuple ds, _, h => by cases h with | tup e r => exact .tup (s _ _ e) (DqAll.same s ds _ r)
  | .dict es, _, h => by cases h with | dct e r => exact .dct (s _ _ e) (DqKv.same s es _ r)
theorem DqAll.same {H H' : Hp} (s : Same H H') : ∀ (ds : List PyData) (vs : List V), DqAll H vs ds → DqAll H' vs ds
  | [], _, h => by cases h; exact .nil
  | d :: ds, _, h => by cases h with | cons e r => exact .cons (Dq.same s d _ e) (DqAll.same s ds _ r)
theorem DqKv.same {H H' : Hp} (s : Same H H') : ∀ (es : List (PyData × PyData)) (ks : List (Key × V)), DqKv H ks es → DqKv H' ks es
  | [], _, h => by cases h; exact .nil
  | (_, d) :: es, _, h => by cases h with | cons e r => exact .cons (Dq.same s d _ e) (DqKv.same s es _ r)
end
section
variable {X : Cx} {pins : List (Addr × Obj)} {σ : L2.St} {H : Hp} {s : Shared}
theorem reads_key {w : World} {P : Program} {h : Heap} {k : Key} {u : Value} (e : (mixKind P w).is k u = true) : Reads h u (keyD k) [] := by
  rw [mixKind_is] at e
  rcases keyIs_shape e with ⟨i, t, rfl, rfl⟩ | ⟨x, t, rfl, rfl⟩
  · exact .int i t
  · exact .str x t
mutual
theorem Dq.reads (I : Inv X pins σ H s) : ∀ (d : PyData) (v : V) (u : Value), Dq H v d → RelV v u → ∃ as, Reads s.heap u d as ∧ ∀ b ∈ as, ∃ o, H b = some o
  | .none, _, _, h, r => by
    cases h; cases r
    exact ⟨_, Reads.none, by simp⟩
  | .bool b, _, _, h, r => by
    cases h; cases r
    exact ⟨_, Reads.bool b, by simp⟩
  | .int i, _, _, h, r => by
    cases h; obtain ⟨t, rfl⟩ := r
    exact ⟨_, Reads.int i t, by simp⟩
  | .str x, _, _, h, r => by
    cases h; obtain ⟨t, rfl⟩ := r
    exact ⟨_, Reads.str x t, by simp⟩
  | .list ds, _, _, h, r => by
    cases h with
    | @lst a xs _ e ra =>
      cases r
      obtain ⟨_, its, n, rv, hg⟩ := (show ObjOk X.prog X.w H s.heap a (.lst xs) from I.hok a _ e)
      obtain ⟨as, hr, ha⟩ := DqAll.reads I ds _ its ra rv
      refine ⟨_, Reads.list hg rfl rfl hr, fun b hb => ?_⟩
      rcases List.mem_cons.mp hb with rfl | hb
      · exact ⟨_, e⟩
      · exact ha b hb
  | .tuple ds, _, _, h, r => by
    cases h with
    | @tup a xs _ e ra =>
      cases r
      obtain ⟨_, its, rv, o, hg, hc, n, hd⟩ := (show ObjOk X.prog X.w H s.heap a (.tup xs) from I.hok a _ e)
      obtain ⟨as, hr, ha⟩ := DqAll.reads I ds _ its ra rv
      exact ⟨_, Reads.tuple hg hc hd hr, ha⟩
  | .dict es, _, _, h, r => by
    cases h with
    | @dct a ks _ e ra =>
      cases r
      obtain ⟨_, _, vs, rk, o, des, ep, hg, hx, hd, _, hp, _⟩ := (show ObjOk X.prog X.w H s.heap a (.dK ks) from I.hok a _ e)
      obtain ⟨as, bs, h1, h2, h3⟩ := DqKv.reads I es ks vs _ ra rk hp
      refine ⟨_, Reads.dict hg hx.1 hd h1 h2, fun b hb => ?_⟩
      rcases List.mem_append.mp hb with hb | hb
      · rcases List.mem_cons.mp hb with rfl | hb
        · exact ⟨_, e⟩
        · exact h3 b (List.mem_append_left _ hb)
      · exact h3 b (List.mem_append_right _ hb)
theorem DqAll.reads (I : Inv X pins σ H s) : ∀ (ds : List PyData) (vs : List V) (us : List Value), DqAll H vs ds → Vals vs us → ∃ as, ReadsAll s.heap us ds as ∧ ∀ b ∈ as, ∃ o, H b = some o
  | [], _, _, h, r => by
    cases h; cases r
    exact ⟨_, ReadsAll.nil, by simp⟩
  | d :: ds, _, _, h, r => by
    cases h with
    | cons h1 h2 =>
      cases r with
      | cons r1 r2 =>
        obtain ⟨as, q1, m1⟩ := Dq.reads I d _ _ h1 r1
        obtain ⟨bs, q2, m2⟩ := DqAll.reads I ds _ _ h2 r2
        exact ⟨_, ReadsAll.cons q1 q2, fun b hb => (List.mem_append.mp hb).elim (m1 b) (m2 b)⟩
theorem DqKv.reads (I : Inv X pins σ H s) : ∀ (es : List (PyData × PyData)) (ks : List (Key × V)) (vs : List (Key × Value)) (des : List DictEntry), DqKv H ks es → KV ks vs → Pairs (mixKind X.prog X.w) des vs →
    ∃ as bs, ReadsAll s.heap (des.map (·.key)) (es.map (·.1)) as ∧ ReadsAll s.heap (des.map (·.val)) (es.map (·.2)) bs ∧ ∀ b ∈ as ++ bs, ∃ o, H b = some o
  | [], _, _, _, h, r, p => by
    cases h; cases r; cases p
    exact ⟨_, _, ReadsAll.nil, ReadsAll.nil, by simp⟩
  | (_, d) :: es, _, _, _, h, r, p => by
    cases h with
    | cons h1 h2 =>
      cases r with
      | cons r1 r2 =>
        cases p with
        | cons p1 p2 p3 =>
          obtain ⟨as, bs, q1, q2, m⟩ := DqKv.reads I es _ _ _ h2 r2 p3
          obtain ⟨cs, q3, m3⟩ := Dq.reads I d _ _ h1 r1.2
          rw [← r1.1] at p1
          refine ⟨_, _, ReadsAll.cons (reads_key p1) q1, ReadsAll.cons (by dsimp only; rw [p2]; exact q3) q2, fun b hb => ?_⟩
          rcases List.mem_append.mp hb with hb | hb
          · exact m b (List.mem_append_left _ hb)
          · rcases List.mem_append.mp hb with hb | hb
            · exact m3 b hb
            · exact m b (List.mem_append_right _ hb)
end
end
/-- the base has sys.modules -/
def Mods (base : Heap) : Prop := ∃ o, base.get? sysModules = some o
/-- a datum that a repr may be asked of -/
def Small (d : PyData) : Prop := d.showable = true ∧ d.depth ≤ 20 ∧ d.shown.length ≤ 100000
def rRepr : List V → Hp → VK → Prop := fun xs H Q => ∃ v d, xs = [v] ∧ Dq H v d ∧ Small d ∧ Q (.str d.shown) H
section
variable {X : Cx}
theorem call_reprD (gd : X.A.guards = some []) (hu : X.A.units + 64 < cLine) (hm : Mods X.base) : CallR X (.builtin "repr") rRepr := by
  intro pins s σ H xs us Q I r h
  obtain ⟨v, d, rfl, hd, ⟨h1, h2, h3⟩, q⟩ := h
  obtain ⟨u, rfl, ru⟩ := vals1 r
  have hz : d.shown.length ≤ sizeLine := Nat.le_trans h3 (by decide)
  obtain ⟨as, hr, ha⟩ := Dq.reads I d v u hd ru
  have hno : sysModules ∉ as := fun z => by
    obtain ⟨o, e⟩ := ha _ z
    obtain ⟨b, eb⟩ := hm
    have n := (I.bs _ _ eb).2
    rw [n] at e
    cases e
  have fin : ∀ (h' : Heap) (tu : Tok) (tk : Nat), (∀ b o, s.heap.get? b = some o → h'.get? b = some o) → EP X pins σ Q (.str d.shown tu) { s with heap := h', toks := tk } :=
    fun h' tu tk k => ⟨.str d.shown, H, I.kept (t' := tk) k, ⟨_, rfl⟩, q⟩
  cases hd with
  | non => cases ru; exact P.repr_of_none (fin _ _ _ fun _ _ z => z)
  | bl b => cases ru; exact P.repr_of_bool (fin _ _ _ fun _ _ z => z)
  | int i =>
    obtain ⟨t, rfl⟩ := ru
    exact P.repr_of_int (of_decide_eq_true h1) (fin _ _ _ fun _ _ z => z)
  | str x =>
    obtain ⟨t, rfl⟩ := ru
    exact P.repr_of_str (fin _ _ _ fun _ _ z => z) hz
  | lst _ _ => cases ru; exact repr_of_reads' hr h1 (fun _ => hno) gd (by omega) (fun _ _ z => z) fin hz
  | tup _ _ => cases ru; exact repr_of_reads' hr h1 (fun _ => hno) gd (by omega) (fun _ _ z => z) fin hz
  | dct _ _ => cases ru; exact repr_of_reads' hr h1 (fun _ => hno) gd (by omega) (fun _ _ z => z) fin hz
end
end Hx

namespace Hx
open PySem PySem.Spec PyProof.Rows L2
/-- a number of the module -/
theorem pe_gint {X : Cx} {x : Str} {i : Int} {t : Tok} {pos : Pos} (hg : Gl X x) (hm : X.mg x = some (.int i t))
    (hd : (x == ("__debug__" : Str)) = false := by decide) : PE X (.Name x pos) (tC (.int i)) := pe_glob hg hm ⟨_, rfl⟩ hd
/-- a class or def of the module; a built-in class, as a value -/
theorem pe_gref {X : Cx} {x : Str} {a : Addr} {pos : Pos} (hg : Gl X x) (hm : X.mg x = some (.ref a))
    (hd : (x == ("__debug__" : Str)) = false := by decide) : PE X (.Name x pos) (tC (.ref a)) := pe_glob hg hm (show RelV (.ref a) (.ref a) from rfl) hd
theorem pe_bty {X : Cx} {x : Str} {T : String} {pos : Pos} (hg : Gl X x) (hm : X.mg x = none) (hv : bootBuiltins x = some (.type T))
    (hn : x ≠ "__name__" := by decide) (hd : (x == ("__debug__" : Str)) = false := by decide) : PE X (.Name x pos) (tC (.ty T)) :=
  pe_bltn hg hm hv (show RelV (.ty T) (.type T) from rfl) hn hd
/-- a comprehension without an if: the turn is taken -/
theorem turn_yes {σ : L2.St} {H : Hp} {R S : Hp → Prop} (h : R H) : tYes σ H fun b H3 => if b = true then R H3 else S H3 := by
  show (if true = true then R H else S H)
  rw [if_pos rfl]
  exact h
/-- the script as an object that is only read -/
def scriptO (vs : List Value) (ns : List Int) : HO := .frz { cls := .type "list", data := .seq vs.toArray } (.lst (ns.map V.int))
section
variable {P : Program} {w : World} {K : PySem.W.Frag} {mg mb : Str → Option Value} {k : Nat} {fa a : Addr} {fd : FuncData} {x : Str} {sp : Sp}
  {s1 : Shared} {vs : List Value} {ns : List Int}
theorem enter_with (H : Hp) (KX : K.In s1.heap) (hglob : s1.heap.Ns mainGlobals mg) (hblt : s1.heap.Ns builtinsNs mb)
    (hboot : ∀ x : Str, x ≠ "__name__" → mb x = bootBuiltins x) (hlim : s1.heap.NoLimit) (hmods : ∃ mm, s1.heap.Ns sysModules mm) (hgen : s1.gens = #[])
    (ha : s1.heap.get? a = some { cls := .type "list", data := .seq vs.toArray }) (room : Room k callerA)
    (F : ∀ base : Heap, K.In base → base.Ns mainGlobals mg → Mods base → GOk P w K mg base CX0 k fa fd [x] sp)
    (hbind : ∀ (s : Shared) (u : Value), BindsTo s fd ⟨[u], []⟩ [(x, u)])
    (hH : ∀ b u, H b = some u → b = a ∧ u = scriptO vs ns) (hK : ∀ u, H a = some u → K.lookup a = none) (hok : HOk P w H s1.heap)
    (hsp : sp [.ref a] H (fun v _ => v = .bl true) E0) :
    codeAny (model P w) callerA (.call (.ref fa) ⟨[.ref a], []⟩) (fun r s' => r = .ok (.ret (.bool true)) ∧ OldK s1.heap s'.heap ∧ s'.os = s1.os ∧ AllBare s'.gens) s1 := by
  have untracked : ∀ {b : Addr} {o : Obj} {es : Array DictEntry} {ep : Nat}, s1.heap.get? b = some o → o.data = .dict es ep → H b = none := by
    intro b o es ep e d
    cases hb : H b with
    | none => rfl
    | some u =>
      obtain ⟨rfl, _⟩ := hH b u hb
      rw [ha] at e
      cases e
      cases (show Data.seq vs.toArray _ = Data.dict es ep from d)
  have nsBase : ∀ {b : Addr} {m : Str → Option Value}, s1.heap.Ns b m → (hidT s1.heap H).Ns b m := fun {b m} ⟨o, es, ep, e, d, r⟩ =>
    ⟨o, es, ep, hidT_get e (untracked e d), d, r⟩
  have inBase : K.In (hidT s1.heap H) := by
    intro b o e
    refine hidT_get (KX b o e) ?_
    cases hb : H b with
    | none => rfl
    | some u =>
      obtain ⟨rfl, _⟩ := hH b u hb
      rw [hK u hb] at e
      cases e
  have modOk : Mod K mg (hidT s1.heap H) := by
    refine ⟨inBase, nsBase hglob, ⟨mb, nsBase hblt, hboot⟩, ?_⟩
    obtain ⟨mc, l1, l2⟩ := hlim
    exact ⟨mc, nsBase l1, l2⟩
  have modsOk : Mods (hidT s1.heap H) := by
    obtain ⟨mm, hm⟩ := hmods
    obtain ⟨o, es, ep, e, _⟩ := nsBase hm
    exact ⟨o, e⟩
  have start0 : Env0 P w K mg (hidT s1.heap H) callerA [] s1 H :=
    { frames := rfl, mod := modOk, bs := fun b o e => of_hidT e, bsz := Nat.le_of_eq (hidT_size _ _), funs := trivial,
      frf := fun b hb => absurd (show b ∈ ([] : List Addr) from hb) (by simp), hok := hok, bare := .of_eq hgen }
  have run := (F _ inBase (nsBase hglob) modsOk).goes callerA [] s1 H ⟨[.ref a], []⟩ [.ref a] [.ref a] _ _ room rfl start0 (hbind s1 (.ref a)) (.cons rfl .nil) hsp
  refine codeAny_mono run ?_
  intro r s' hr
  cases r with
  | error e => exact (show False from hr).elim
  | ok fl =>
    cases fl with
    | next => exact hr.elim
    | brk => exact hr.elim
    | cont => exact hr.elim
    | ret u =>
      obtain ⟨v, H', osEq, bare, un, hok', rel, rfl⟩ := hr
      cases (show u = Value.bool true from rel)
      refine ⟨rfl, OldK.of_keep ?_, osEq, bare⟩
      intro b o e
      cases hb : H b with
      | none => exact un.keep b o e hb (fun z => absurd (show b ∈ ([] : List Addr) from z) (by simp)) (by simp)
      | some u =>
        obtain ⟨rfl, rfl⟩ := hH b u hb
        have stay := un.frzs b _ _ hb
        obtain ⟨e1, _⟩ := hok b _ hb
        obtain ⟨e2, _⟩ := hok' b _ stay
        rw [e] at e1
        rw [e2, ← Option.some.inj e1]

theorem law_enter (KX : K.In s1.heap) (hglob : s1.heap.Ns mainGlobals mg) (hblt : s1.heap.Ns builtinsNs mb)
    (hboot : ∀ x : Str, x ≠ "__name__" → mb x = bootBuiltins x) (hlim : s1.heap.NoLimit) (hmods : ∃ mm, s1.heap.Ns sysModules mm) (hgen : s1.gens = #[])
    (ha : s1.heap.get? a = some { cls := .type "list", data := .seq vs.toArray }) (hi : IntsAre vs ns) (hl : ns.length ≤ sizeLine) (room : Room k callerA)
    (F : ∀ base : Heap, K.In base → base.Ns mainGlobals mg → Mods base → GOk P w K mg base CX0 k fa fd [x] sp)
    (hbind : ∀ (s : Shared) (u : Value), BindsTo s fd ⟨[u], []⟩ [(x, u)])
    (hsp : ∀ H : Hp, SqL K H a (ns.map V.int) → sp [.ref a] H (fun v _ => v = .bl true) E0) :
    codeAny (model P w) callerA (.call (.ref fa) ⟨[.ref a], []⟩) (fun r s' => r = .ok (.ret (.bool true)) ∧ OldK s1.heap s'.heap ∧ s'.os = s1.os ∧ AllBare s'.gens) s1 := by
  have rel := vals_ints hi
  cases hk : K.lookup a with
  | some o =>
    have e := KX a o hk
    rw [ha] at e
    cases e
    refine enter_with (ns := ns) (fun _ => none) KX hglob hblt hboot hlim hmods hgen ha room F hbind (fun _ _ z => by cases z) (fun _ z => by cases z) (fun _ _ z => by cases z) ?_
    refine hsp _ (.inr ⟨_, vs.toArray, _, hk, rfl, rfl, rfl, ?_, by simpa using rel⟩)
    rw [List.size_toArray, hi.length]
    exact hl
  | none =>
    have at_a : (fun b => if b = a then some (scriptO vs ns) else none : Hp) a = some (scriptO vs ns) := if_pos rfl
    refine enter_with (ns := ns) (fun b => if b = a then some (scriptO vs ns) else none) KX hglob hblt hboot hlim hmods hgen ha room F hbind ?_ (fun _ _ => hk) ?_ (hsp _ (.inl (.inr ⟨_, at_a⟩)))
    · intro b u z
      by_cases hb : b = a
      · exact ⟨hb, (Option.some.inj ((if_pos hb).symm.trans z)).symm⟩
      · cases (if_neg hb).symm.trans z
    · intro b u z
      by_cases hb : b = a
      · have e := Option.some.inj ((if_pos hb).symm.trans z)
        subst hb
        subst e
        exact ⟨ha, by rw [List.length_map]; exact hl, vs, _, rel, ha⟩
      · cases (if_neg hb).symm.trans z
end
/-- the goal that k_head leaves, for a law whose defs ask that no guard stands below -/
theorem walk_G {l : PySem.W.OpenLaw} {n k : Nat} {q : Program} {loose : List Str} {XP : (Str → Option Value) → Heap → Prop} {YP : World → Heap → Prop} {d : DefRec}
    {K : Params → PySem.W.Frag} {sp : PySem.W.Frag → Sp} {x : Str} (hn : l.most = some n) (hn2 : n ≤ sizeLine) (hdf : d.params.defaults = []) (room : Room k callerA)
    (himp : importsNone q = true) (hY : ∀ (w : World) (h : Heap), YP w h → (K w.params).In h)
    (F : ∀ (w : World) (mg : Str → Option Value) (fa : Addr) (h : Heap), (K w.params).In h → h.Ns mainGlobals mg → mg d.name = some (.ref fa) →
      ∃ fd : FuncData, (∀ (s : Shared) (u : Value), BindsTo s fd ⟨[u], []⟩ [(x, u)]) ∧
        ∀ base : Heap, (K w.params).In base → base.Ns mainGlobals mg → Mods base → GOk l.prog w (K w.params) mg base CX0 k fa fd [x] (sp (K w.params)))
    (hsp : ∀ (K : PySem.W.Frag) (H : Hp) (a : Addr) (ns : List Int), ns.length ≤ n → SqL K H a (ns.map V.int) → sp K [.ref a] H (fun v _ => v = .bl true) E0) :
    PySem.W.WalkO q loose XP YP l.row.toRowW d [] (fun f vs => PySem.call f vs) := by
  refine Att.attach_call hn hdf ?_
  intro w s0 s1 mg mb fa o pm cd doc a vs ns G Y ho hd hcd hmg hobj hints hlen hgen
  have KX := hY w _ Y
  obtain ⟨fd, hb, hF⟩ := F w mg fa _ KX G.T.g hmg
  obtain ⟨mm, hmm, _⟩ := (G.T.seer himp).mods
  exact law_enter KX G.T.g G.T.b G.T.builtins G.T.nolimit ⟨mm, hmm⟩ hgen hobj hints (Nat.le_trans hlen hn2) room hF hb fun H hS => hsp _ H a ns hlen hS
end Hx

/-! own exception classes made with keywords -/
namespace PySem
namespace EK
open PySem.W PySem.Calls PyProof.Rows PySem.PX
section
variable {M : Model} {A : Around} {E : Value → Shared → Prop} {h : Heap} {g : Array GenState} {d : Drawn} {t : Nat} {os : OsState}
variable {nm q : Str} {C N : Addr} {bs bm bmB : List Value} {hdct : Bool} {sn : List Str} {sub : List Value} {ab : Bool} {col : Option Bool}
  {dd : Option Addr} {k0 k1 k2 k3 k5 : Option Value} {B newId initId : String} {kw : List (Str × Value)} {us : List Value}
theorem look_new (F : ExcBaseFacts B newId initId bmB) (same : ∀ X : String, bm.contains (.type X) = bmB.contains (.type X)) {Q : Unit → Shared → Prop}
    (hC : h.get? C = some (excClassObj nm q C N bs bm hdct sn sub ab col dd k0 k1 k2 k3 k5 newId)) (hq : Q () ⟨h, g, d, t, os⟩) :
    wpAny M A (checkBuiltinCall newId ⟨.ref C :: us, kw⟩) Q E ⟨h, g, d, t, os⟩ := by
  have inB : (Value.ref C :: bm).contains (.type B) = true := by
    rw [List.contains_cons, same, F.hasB, Bool.or_true]
  have star := F.noStar
  simp only [checkBuiltinCall, F.newKind, F.newSplit, F.newRow]
  repeat (first
    | refine wpAny_loadPart_at hC ?_
    | (refine wpAny_isSubtype_exc hC ?_; rw [inB])
    | refine wpAny_staticBase_exc hC ?_
    | refine wpAny_madeBy_exc hC ?_
    | simp only [bne_self_eq_false, Bool.false_eq_true, if_false]
    | wp_step)
  exact hq
end
section
variable {prog : Program} {w : World} {A : Around} {E : Value → Shared → Prop} {R : Result → Shared → Prop} {h : Heap} {g : Array GenState} {d : Drawn} {t : Nat} {os : OsState}
variable {nm q : Str} {C N : Addr} {bs bm bmB : List Value} {hdct : Bool} {sn : List Str} {sub : List Value} {ab : Bool} {col : Option Bool}
  {dd : Option Addr} {k0 k1 k2 k3 k5 : Option Value} {B newId initId : String} {kw : List (Str × Value)} {us : List Value} {fI : Addr}
/-- the heap behind the making -/
abbrev madeHeap (h : Heap) (C : Addr) (us : List Value) : Heap := (h.push (kdv_tup us)).push (excO C h.objs.size)
theorem made_keep (b : Addr) (o : Obj) (e : h.get? b = some o) : (madeHeap h C us).get? b = some o :=
  Heap.get?_push_of_some _ (Heap.get?_push_of_some _ e)
theorem made_at : (madeHeap h C us).get? (h.objs.size + 1) = some (excO C h.objs.size) := by heap_get
theorem run_new (F : ExcBaseFacts B newId initId bmB) (same : ∀ X : String, bm.contains (.type X) = bmB.contains (.type X))
    (hC : h.get? C = some (excClassObj nm q C N bs bm hdct sn sub ab col dd k0 k1 k2 k3 k5 newId)) (small : us.length ≤ sizeLine)
    (hq : R (.ok (.ret (.ref (h.objs.size + 1)))) ⟨madeHeap h C us, g, d, t, os⟩) :
    codeAny (model prog w) A (.builtin newId ⟨.ref C :: us, kw⟩) R ⟨h, g, d, t, os⟩ := by
  have ends := F.ends
  have inB : (Value.ref C :: bm).contains (.type B) = true := by
    rw [List.contains_cons, same, F.hasB, Bool.or_true]
  have noA : (Value.ref C :: bm).contains (.type "AttributeError") = false := by
    rw [List.contains_cons, same, F.noAttr]
    rfl
  have noN : (Value.ref C :: bm).contains (.type "NameError") = false := by
    rw [List.contains_cons, same, F.noName]
    rfl
  refine codeAny_builtinAt F.entry ?_
  unfold Builtin.«BaseException.__new__»
  refine wpAt_bind ?_
  show wpAt _ _ _ (stack >>= _) _ _ _
  refine wpAt_bind (wpAt_stack fun p under => wpAt_of_wpAny ?_)
  wp_walk
  refine wpAt_of_wpAny ?_
  rw [F.owner]
  repeat (first
    | with_reducible refine wpAny_madeHere_exc F.canon hC ?_
    | with_reducible refine wpAny_loadPart_at hC ?_
    | (with_reducible refine wpAny_isSubtype_exc hC ?_
       first | rw [inB] | rw [noA] | rw [noN])
    | wp_step)
  show R _ _
  rw [Heap.size_push]
  exact hq
theorem run_type (F : ExcBaseFacts B newId initId bmB) (same : ∀ X : String, bm.contains (.type X) = bmB.contains (.type X))
    (hC : h.get? C = some (excClassObj nm q C N bs bm hdct sn sub ab col dd k0 k1 k2 k3 k5 newId)) {Q : Fin → Shared → Prop}
    (li : Looks (model prog w) h (typeLookup (.ref C) "__init__") (some (.ref fI)))
    (lb : ∀ self, Looks (model prog w) h (bindSpecial (.ref fI) self) (.ref fI, [self])) (small : us.length ≤ sizeLine)
    (hq : codeAny (model prog w) A (.call (.ref fI) ⟨.ref (h.objs.size + 1) :: us, kw⟩)
      (fun r s' => match r with
        | .ok (.ret v) => v = .none ∧ Q (.done (.ret (.ref (h.objs.size + 1)))) s'
        | .ok _ => False
        | .error e => E e s') ⟨madeHeap h C us, g, d, t, os⟩) :
    wpAny (model prog w) A (Builtin.«type.__call__» ⟨.ref C :: us, kw⟩) Q E ⟨h, g, d, t, os⟩ := by
  repeat (first
    | with_reducible refine wpAny_loadPart_at hC ?_
    | with_reducible refine wpAny_madeBy_exc hC ?_
    | wp_step)
  refine codeAny_call_builtin_code (Code.quiet_builtin _ F.quiet) (look_new F same hC ?_)
  refine run_new F same hC small ?_
  show wpAny _ _ _ _ _ _
  have hC1 := made_keep (C := C) (us := us) _ _ hC
  have own : (Value.ref C :: bm).contains (.ref C) = true := by simp
  have li1 := li.keeps (made_keep (C := C) (us := us))
  have lb1 := (lb (.ref (h.objs.size + 1))).keeps (made_keep (C := C) (us := us))
  unfold isInstance
  repeat (first
    | with_reducible refine wpAny_loadPart_at made_at ?_
    | (with_reducible refine wpAny_isSubtype_exc hC1 ?_
       rw [own])
    | wp_step)
  show wpAny _ _ (typeLookup (.ref C) _) _ _ _
  refine li1.at ?_
  refine wpAny_holding (wpAny_bind (lb1.at ?_))
  refine wpAny_bind (wpAny_call (codeAny_mono hq ?_))
  intro r s' z
  cases r with
  | error e => exact z
  | ok fl =>
    cases fl with
    | ret v =>
      obtain ⟨rfl, z⟩ := z
      first
        | exact wpAny_pure (wpAny_pure z)
        | (wp_walk; exact z)
    | next => exact z.elim
    | brk => exact z.elim
    | cont => exact z.elim
end
section
variable {prog : Program} {w : World} {A : Around} {E : Value → Shared → Prop} {R : Result → Shared → Prop} {h : Heap} {g : Array GenState} {d : Drawn} {t : Nat} {os : OsState}
variable {nm q : Str} {C N : Addr} {bs bm bmB : List Value} {hdct : Bool} {sn : List Str} {sub : List Value} {ab : Bool} {col : Option Bool}
  {dd : Option Addr} {k0 k1 k2 k3 k5 : Option Value} {B newId initId : String} {kw : List (Str × Value)} {us : List Value} {fI : Addr}
theorem look_type {M : Model} {Q : Unit → Shared → Prop} (hC : h.get? C = some (excClassObj nm q C N bs bm hdct sn sub ab col dd k0 k1 k2 k3 k5 newId))
    (hq : Q () ⟨h, g, d, t, os⟩) : wpAny M A (checkBuiltinCall "type.__call__" ⟨.ref C :: us, kw⟩) Q E ⟨h, g, d, t, os⟩ := by
  have f0 := tc_sub
  have ofType : (⟨h, g, d, t, os⟩ : Shared).TypeIs (.ref C) "type" := ⟨_, hC, rfl⟩
  simp only [checkBuiltinCall, tc_kind, tc_split]
  repeat (any_goals (first
    | assumption
    | with_reducible refine wpAny_loadPart_at hC ?_
    | with_reducible refine wpAny_onRaise ?_
    | with_reducible refine wpAny_map ?_
    | wp_step))
/-- C(us, kw): the object is laid, then __init__ -/
theorem run_call (F : ExcBaseFacts B newId initId bmB) (same : ∀ X : String, bm.contains (.type X) = bmB.contains (.type X))
    (hC : h.get? C = some (excClassObj nm q C N bs bm hdct sn sub ab col dd k0 k1 k2 k3 k5 newId))
    (li : Looks (model prog w) h (typeLookup (.ref C) "__init__") (some (.ref fI)))
    (lb : ∀ self, Looks (model prog w) h (bindSpecial (.ref fI) self) (.ref fI, [self])) (small : us.length ≤ sizeLine)
    (hq : codeAny (model prog w) (A.under (.builtin "type.__call__" ⟨.ref C :: us, kw⟩)) (.call (.ref fI) ⟨.ref (h.objs.size + 1) :: us, kw⟩)
      (InitBack (h.objs.size + 1) R) ⟨madeHeap h C us, g, d, t, os⟩) :
    codeAny (model prog w) A (.call (.ref C) ⟨us, kw⟩) R ⟨h, g, d, t, os⟩ := by
  have f1 := tc_lookup
  have f2 := tc_bind (.ref C)
  have ofType : (⟨h, g, d, t, os⟩ : Shared).TypeIs (.ref C) "type" := ⟨_, hC, rfl⟩
  refine codeAny_of_tree ?_
  show wpAny _ _ (callAny (.ref C) _) _ _ _
  repeat (any_goals (first
    | assumption
    | with_reducible refine wpAny_loadPart_at hC ?_
    | wp_step))
  refine ⟨rfl, ?_⟩
  refine codeAny_call_builtin_at (Code.quiet_builtin _ (by decide +kernel)) entry_typeCall (look_type hC ?_)
  refine run_type F same hC li lb small (codeAny_mono hq ?_)
  intro r s' z
  rcases r with e | (v | _ | _ | _) <;> exact z
end
/-! storing into an exception -/
section
open Builtin Builtin.ObjectAttr
variable {prog : Program} {w : World} {A : Around} {R : Result → Shared → Prop} {hp : Heap} {g : Array GenState} {d : Drawn} {t : Nat} {os : OsState}
  {K : Frag} {C x : Addr} {B : String} {bmB : List Value} {name : Str} {tk : Tok} {v : Value} {fv : Array Value}
theorem first_field (SF : StoreFacts B bmB "object.__setattr__" "object") (X : K.In hp) (hx : hp.get? x = some { cls := .ref C, data := .fields fv })
    (over : excOver K C bmB = true) (free : takerIn K C name = some none) (dct : hasDictIn K C = true)
    (hq : ∀ h' tk' dx, (∀ b o, b ≠ x → hp.get? b = some o → h'.get? b = some o) → hp.objs.size ≤ dx → dx ≠ x →
      h'.get? x = some { cls := .ref C, dict := some dx, data := .fields fv } → h'.Ns1 dx (fun y => if y = name then some v else none) →
      R (.ok (.ret .none)) ⟨h', g, d, tk', os⟩) :
    codeAny (model prog w) A (.call (.builtin "object.__setattr__") ⟨[.ref x, .str name tk, v], []⟩) R ⟨hp, g, d, t, os⟩ := by
  have I : InstAt hp x { cls := .ref C, data := .fields fv } C none := ⟨hx, rfl, rfl, trivial⟩
  refine osa_openX (s := ⟨hp, g, d, t, os⟩) SF X I over free fun b => ?_
  show wpAny _ _ (storeInOwnDict (.ref x) (.ref C) (.str name tk) name v b) _ _ _
  obtain ⟨cd, hcd, hd⟩ := any_some dct
  have lc : Looks (model prog w) hp (classData C) cd := looks_clsIn X hcd
  obtain ⟨nm, bs, mro, ns, qn, hdd, sn, sb, ab, col, del⟩ := cd
  dsimp only at hd
  subst hd
  have apart : x ≠ hp.objs.size := Nat.ne_of_lt (Heap.lt_size hx)
  unfold storeInOwnDict ownDictForStores
  repeat (first
    | with_reducible refine PX.store_in_new ?_ ?_
    | with_reducible refine wpAny_loadPart_at hx ?_
    | with_reducible refine lc.at ?_
    | wp_step)
  · exact ⟨_, #[], _, (Heap.get?_update_ne _ _ _ _ apart.symm).trans (Heap.get?_push_at rfl rfl), rfl, fun e he => absurd he (by simp), fun _ => rfl⟩
  · intro h' tk' hn' but
    have hx1 : (hp.push { cls := .type "dict", data := .dict #[] }).get? x = some { cls := .ref C, data := .fields fv } := Heap.get?_push_of_some _ hx
    refine hq h' tk' hp.objs.size ?_ (Nat.le_refl _) apart.symm ?_ hn'
    · intro b o hb ho
      have z := but.2 b (Nat.ne_of_lt (Heap.lt_size ho))
      rw [z, Heap.get?_update_ne _ _ _ _ hb]
      exact Heap.get?_push_of_some _ ho
    · rw [but.2 x apart]
      exact Heap.get?_update_self _ hx1 rfl
theorem next_field (SF : StoreFacts B bmB "object.__setattr__" "object") (X : K.In hp) {dx : Addr} {m0 : Str → Option Value} {nl : List Str}
    (hx : hp.get? x = some { cls := .ref C, dict := some dx, data := .fields fv }) (hn : hp.Ns1 dx m0) (within : Within m0 nl) (few : nl.length ≤ 1000)
    (over : excOver K C bmB = true) (free : takerIn K C name = some none) (dct : hasDictIn K C = true)
    (hq : ∀ h' tk', (∀ b o, b ≠ dx → hp.get? b = some o → h'.get? b = some o) → h'.Ns1 dx (fun y => if y = name then some v else m0 y) →
      R (.ok (.ret .none)) ⟨h', g, d, tk', os⟩) :
    codeAny (model prog w) A (.call (.builtin "object.__setattr__") ⟨[.ref x, .str name tk, v], []⟩) R ⟨hp, g, d, t, os⟩ := by
  obtain ⟨oD, _, _, hoD, _, _⟩ := hn.count within
  have I : InstAt hp x { cls := .ref C, dict := some dx, data := .fields fv } C (some oD) := ⟨hx, rfl, rfl, hoD⟩
  refine osa_openX (s := ⟨hp, g, d, t, os⟩) SF X I over free fun b => ?_
  show wpAny _ _ (storeInOwnDict (.ref x) (.ref C) (.str name tk) name v b) _ _ _
  obtain ⟨cd, hcd, hd⟩ := any_some dct
  have lc : Looks (model prog w) hp (classData C) cd := looks_clsIn X hcd
  obtain ⟨nm, bs, mro, ns, qn, hdd, sn, sb, ab, col, del⟩ := cd
  dsimp only at hd
  subst hd
  unfold storeInOwnDict ownDictForStores
  repeat (first
    | with_reducible refine PX.store_in_old hn within few ?_
    | with_reducible refine wpAny_loadPart_at hx ?_
    | with_reducible refine lc.at ?_
    | wp_step)
  intro h' tk' hn' but
  exact hq h' tk' (fun b o hb ho => (but.2 b hb).trans ho) hn'
end
end EK
end PySem

namespace Hx
open PySem PySem.Spec PyProof.Rows L2
/-- what the written part says of an own exception class at C, over the built-in B -/
structure ExK (K : PySem.W.Frag) (C : Addr) (B newId initId : String) (bmB : List Value) : Prop where
  facts : ExcBaseFacts B newId initId bmB
  store : StoreFacts B bmB "object.__setattr__" "object"
  made : PySem.W.excInitIn K C bmB newId = true
  over : PySem.W.excOver K C bmB = true
  dct : PySem.W.hasDictIn K C = true
  sa : PySem.W.findIn K (.ref C) "__setattr__" = some (some (.builtin "object.__setattr__"))
  ga : PySem.W.findIn K (.ref C) "__getattribute__" = some (some (.builtin "BaseException.__getattribute__"))
  gt : PySem.W.findIn K (.ref C) "__getattr__" = some none
  sub : PySem.W.subIn K (.ref C) (.type "BaseException") = some true
  keep : PySem.W.keepIn K (.ref C) = true
  cl : PySem.W.findIn K (.ref C) "__class__" = some (some (.builtin "object.__class__"))
  gg : PySem.W.specialIn K (.builtin "object.__class__") "__get__" = some (some (.builtin "getset_descriptor.__get__"))
  tk : PySem.W.takesIn K (.builtin "object.__class__") = some true
  mo : PySem.W.mroIn K C (.type "object") = some true
section
variable {X : Cx} {pins : List (Addr × Obj)} {σ : L2.St} {H : Hp} {s : Shared} {a C dx : Addr} {f : Str} {y : V} {u : Value} {fs : List (Str × V)}
  {B newId initId : String} {bmB : List Value} {A : Around} {E : Value → Shared → Prop}
/-- self.f = y, the first field: the exception gets its dict -/
theorem put_first {Q : Unit → Shared → Prop} (T : ExK X.K C B newId initId bmB) (I : Inv X pins σ H s) (e : H a = some (exo a C none))
    (free : PySem.W.takerIn X.K C f = some none) (ry : RelV y u)
    (h : ∀ dx s', H dx = none → dx ≠ a → Inv X pins σ (upd (upd H dx (exd dx [(f, y)])) a (exo a C (some dx))) s' → Q () s') :
    wpAny (model X.prog X.w) A (setAttr (.ref a) f u) Q E s := by
  obtain ⟨t1, ho⟩ := exo_at I.hok e
  obtain ⟨hp, g, d, t, os⟩ := s
  refine PySem.W.set_plain I.kIn (ox := { cls := .ref C, dict := none, data := .fields #[.ref t1, .none, .none, .none, .bool false, .none] }) (od := none) ⟨ho, rfl, rfl, trivial⟩ T.sa ?_
  refine PySem.EK.first_field T.store I.kIn ho T.over free T.dct ?_
  intro h' tk' dx keeps new apart at_a ns
  have n0 : H dx = none := I.hok.fresh new
  have old : ∀ {b : Addr} {o : Obj}, hp.get? b = some o → b ≠ dx := fun {b o} z => Nat.ne_of_lt (Nat.lt_of_lt_of_le (Heap.lt_size z) new)
  have other : ∀ {b : Addr}, H b = none → b ≠ a := fun {b} n z => by
    rw [z, e] at n
    cases n
  have un : Un X.fs [] H (upd (upd H dx (exd dx [(f, y)])) a (exo a C (some dx))) hp h' :=
    { keep := fun b o z n _ _ => keeps b o (other n) z
      slot := fun b o z n _ _ => ⟨o.slots, keeps b o (other n) z⟩
      free := fun b o z n _ => by
        rw [upd_ne (other n), upd_ne (old z)]
        exact n
      there := fun b o z _ => by
        by_cases hb : b = a
        · exact ⟨_, by rw [hb]; exact at_a⟩
        · exact ⟨o, keeps b o hb z⟩
      tups := fun b xs z => by
        rw [upd_ne (at_ne e z exo_tup), upd_ne (ne_of_none z n0)]
        exact z
      frzs := fun b o v z => by
        rw [upd_ne (at_ne e z exo_frz), upd_ne (ne_of_none z n0)]
        exact z
      tbls := fun b ps z => ⟨#[], by
        rw [upd_ne (at_ne e z exo_tbl), upd_ne (ne_of_none z n0), z]
        simp⟩ }
  refine h dx _ n0 apart (I.un (t' := tk') un ?_)
  intro b o z
  by_cases hb : b = a
  · subst hb
    rw [upd_same] at z
    cases z
    exact exo_ok at_a
  rw [upd_ne hb] at z
  by_cases hd : b = dx
  · subst hd
    rw [upd_same] at z
    cases z
    exact exd_ok ns (relO_put (fs := []) ry fun _ => True.intro)
  rw [upd_ne hd] at z
  refine (I.hok b o z).stay ?_ ?_ ?_
  · intro c v hc r
    refine keeps c v ?_ r
    rcases hc with hc | hc
    · rw [hc]
      exact hb
    · exact at_ne e hc exo_own
  · intro c hc
    rw [upd_ne (at_ne e hc exo_own), upd_ne (ne_of_none hc n0)]
    exact hc
  · intro c xs hc
    rw [upd_ne (at_ne e hc exo_tup), upd_ne (ne_of_none hc n0)]
    exact hc
/-- self.f = y, a further field -/
theorem put_next {Q : Unit → Shared → Prop} (T : ExK X.K C B newId initId bmB) (I : Inv X pins σ H s) (e : H a = some (exo a C (some dx))) (ed : H dx = some (exd dx fs))
    (few : fs.length ≤ 900) (free : PySem.W.takerIn X.K C f = some none) (ry : RelV y u)
    (h : ∀ s', Inv X pins σ (upd H dx (exd dx ((f, y) :: fs))) s' → Q () s') : wpAny (model X.prog X.w) A (setAttr (.ref a) f u) Q E s := by
  obtain ⟨t1, ho⟩ := exo_at I.hok e
  obtain ⟨mA, ns, rel⟩ := exd_at I.hok ed
  have within := within_of rel
  obtain ⟨hp, g, d, t, os⟩ := s
  obtain ⟨oD, _, _, hoD, _, _⟩ := ns.count within
  refine PySem.W.set_plain I.kIn (ox := { cls := .ref C, dict := some dx, data := .fields #[.ref t1, .none, .none, .none, .bool false, .none] }) (od := some oD) ⟨ho, rfl, rfl, hoD⟩ T.sa ?_
  refine PySem.EK.next_field T.store I.kIn ho ns within (by rw [List.length_map]; omega) T.over free T.dct ?_
  intro h' tk' keeps ns'
  obtain ⟨o', _, _, there, _⟩ := id ns'
  exact h _ (I.write (t' := tk') (x := dx) (e := dx) (o := exd dx ((f, y) :: fs)) (by rw [ed]; exact True.intro) (.inl rfl) keeps ⟨o', there⟩ (exd_ok ns' (relO_put ry rel)))
end
/-- self.f = e, self an exception of the class at C -/
def tPut (f : Str) (C : Addr) (to te : TE) : TS := fun D σ H => te σ H fun y H1 => to σ H1 fun x H2 => ∃ a : Addr, x = .ref a ∧
  ((H2 a = some (exo a C none) ∧ ∀ dx, H2 dx = none → dx ≠ a → D.nx σ (upd (upd H2 dx (exd dx [(f, y)])) a (exo a C (some dx)))) ∨
    ∃ (dx : Addr) (fs : List (Str × V)), H2 a = some (exo a C (some dx)) ∧ H2 dx = some (exd dx fs) ∧ fs.length ≤ 900 ∧ D.nx σ (upd H2 dx (exd dx ((f, y) :: fs))))
section
variable {X : Cx} {o e : Expr} {es : List Expr} {to te : TE} {ta : TA} {f : Str} {p p' p1 p2 pos : Pos} {C : Addr} {B newId initId : String} {bmB : List Value}
theorem ps_put (T : ExK X.K C B newId initId bmB) (free : PySem.W.takerIn X.K C f = some none) (ho : PE X o to) (he : PE X e te)
    (hs : swapsWith e (some (.Attribute o f p')) pos.line X.env = pure false := by rfl) : PS X (.Assign [.Attribute o f p'] e pos) (tPut f C to te) := by
  constructor
  intro pins s σ H D I h
  refine plainObj_wpAny_Assign_Attribute (thn (he.run pins s σ H _ I h) ?_) hs
  rintro v s1 ⟨y, H1, I1, r1, q1⟩
  refine thn (ho.run pins s1 σ H1 _ I1 q1) ?_
  rintro u s2 ⟨x, H2, I2, r2, a, ex, q⟩
  subst ex
  cases (show u = Value.ref a from r2)
  rcases q with ⟨ea, q⟩ | ⟨dx, fs, ea, ed, few, q⟩
  · exact put_first T I2 ea free r1 fun dx s' n ne J => ⟨σ, _, J, q dx n ne⟩
  · exact put_next T I2 ea ed few free r1 fun s' J => ⟨σ, _, J, q⟩
end
/-- a fresh exception -/
def spIn1 (C : Addr) (f : Str) : Sp := fun vs H Q _ => ∃ (a : Addr) (v : V), vs = [.ref a, v] ∧ H a = some (exo a C none) ∧
  ∀ d, H d = none → d ≠ a → Q .non (upd (upd H d (exd d [(f, v)])) a (exo a C (some d)))
def spIn2 (C : Addr) (f g : Str) : Sp := fun vs H Q _ => ∃ (a : Addr) (v u : V), vs = [.ref a, v, u] ∧ H a = some (exo a C none) ∧
  ∀ d, H d = none → d ≠ a → Q .non (upd (upd (upd H d (exd d [(f, v)])) a (exo a C (some d))) d (exd d [(g, u), (f, v)]))
section
variable {P : Program} {w : World} {K : PySem.W.Frag} {mg : Str → Option Value} {base : Heap} {fI C : Addr} {fd : FuncData} {st : Stmt} {qual f g : Str}
  {B newId initId : String} {bmB : List Value} {q1 q2 q3 q4 q5 q6 q7 q8 : Pos}
theorem ok_in1 (F : Fun K "__init__" qual st fI fd) (S : FnScope ["self", f] ["self", f] (defScope st))
    (hb : defBody st = [.Assign [.Attribute (.Name "self" q1) f q2] (.Name f q3) q4]) (v1 : Vis (defScope st) "self") (v2 : Vis (defScope st) f)
    (hd : (f == ("__debug__" : Str)) = false) (hc : (f == ("__classdict__" : Str)) = false) (T : ExK K C B newId initId bmB) (free : PySem.W.takerIn K C f = some none) :
    FnOk P w K mg base CX0 1 fI fd ["self", f] (spIn1 C f) := by
  refine F.ok S (fun vs H Q E h => ?_) (fun cdv A outer s H vs Q E hr h => ?_)
  · obtain ⟨a, v, rfl, _⟩ := h
    rfl
  obtain ⟨a, v, rfl, ha, q⟩ := h
  rw [hb]
  refine ⟨_, pss_one (ps_put T free (pe_var (i := 0) rfl v1) (pe_var (i := 1) rfl v2 hd hc)), ?_⟩
  exact ⟨_, rfl, _, rfl, a, rfl, .inl ⟨ha, fun d n ne => q d n ne⟩⟩
theorem ok_in2 (F : Fun K "__init__" qual st fI fd) (S : FnScope ["self", f, g] ["self", f, g] (defScope st))
    (hb : defBody st = [.Assign [.Attribute (.Name "self" q1) f q2] (.Name f q3) q4, .Assign [.Attribute (.Name "self" q5) g q6] (.Name g q7) q8])
    (v1 : Vis (defScope st) "self") (v2 : Vis (defScope st) f) (v3 : Vis (defScope st) g)
    (hd : (f == ("__debug__" : Str)) = false) (hc : (f == ("__classdict__" : Str)) = false) (hd2 : (g == ("__debug__" : Str)) = false) (hc2 : (g == ("__classdict__" : Str)) = false)
    (T : ExK K C B newId initId bmB) (free : PySem.W.takerIn K C f = some none) (free2 : PySem.W.takerIn K C g = some none) :
    FnOk P w K mg base CX0 1 fI fd ["self", f, g] (spIn2 C f g) := by
  refine F.ok S (fun vs H Q E h => ?_) (fun cdv A outer s H vs Q E hr h => ?_)
  · obtain ⟨a, v, u, rfl, _⟩ := h
    rfl
  obtain ⟨a, v, u, rfl, ha, q⟩ := h
  rw [hb]
  refine ⟨_, pss_cons (ps_put T free (pe_var (i := 0) rfl v1) (pe_var (i := 1) rfl v2 hd hc)) (pss_one (ps_put T free2 (pe_var (i := 0) rfl v1) (pe_var (i := 2) rfl v3 hd2 hc2))), ?_⟩
  refine ⟨_, rfl, _, rfl, a, rfl, .inl ⟨ha, fun d n ne => ?_⟩⟩
  refine ⟨_, rfl, _, rfl, a, rfl, .inr ⟨d, [(f, v)], upd_same, ?_, (by show 1 ≤ 900; decide), q d n ne⟩⟩
  rw [upd_ne ne]
  exact upd_same
end

/-! C(..) as a value -/
section
variable {X : Cx} {pins : List (Addr × Obj)} {σ : L2.St} {H : Hp} {s : Shared} {C fI : Addr} {fd : FuncData} {ps : List Str} {sp : Sp} {k : Nat}
  {B newId initId : String} {bmB : List Value}
theorem run_mk {Q : VK} {us bs : List Value} {kw : List (Str × Value)} {vs : List V} (T : ExK X.K C B newId initId bmB)
    (hi : PySem.W.findIn X.K (.ref C) "__init__" = some (some (.ref fI))) (tI : PySem.W.typeIn X.K (.ref fI) = some (.type "function"))
    (F : FnOk X.prog X.w X.K X.mg X.base CX0 k fI fd ps sp) (room : Room (k + 1) X.A) (I : Inv X pins σ H s) (rel : Vals vs bs)
    (binds : ∀ (s : Shared) (self : Value), X.K.In s.heap → BindsTo s fd ⟨self :: us, kw⟩ (ps.zip (self :: bs))) (small : us.length ≤ sizeLine)
    (q : ∀ a, H a = none → sp (.ref a :: vs) (upd H a (exo a C none)) (fun v H2 => v = .non ∧ Q (.ref a) H2) E0) :
    wpAny (model X.prog X.w) X.A (call (.ref C) us kw) (EP X pins σ Q) X.xe s := by
  obtain ⟨nm, N, qn, bs0, bm, hdct, sn, sub, ab, col, dd, k0, k1, k2, k3, k5, hC, same⟩ := PySem.W.excInit_of I.kIn T.made
  obtain ⟨hp, g, dr, tk, os⟩ := s
  have above : hp.objs.size ≤ hp.objs.size + 1 := Nat.le_succ _
  have n0 : H (hp.objs.size + 1) = none := I.hok.fresh above
  have q0 := q _ n0
  have J : Inv X pins σ (upd H (hp.objs.size + 1) (exo (hp.objs.size + 1) C none)) ⟨PySem.EK.madeHeap hp C us, g, dr, tk, os⟩ :=
    I.laid (t' := tk) (h' := PySem.EK.madeHeap hp C us) (fun b o e => PySem.EK.made_keep b o e) above (exo_ok PySem.EK.made_at)
  have rel2 : Vals (V.ref (hp.objs.size + 1) :: vs) (Value.ref (hp.objs.size + 1) :: bs) := .cons rfl rel
  refine wpAny_call (PySem.EK.run_call T.facts same hC (PySem.W.looks_findIn I.kIn hi) (fun self => PySem.W.bind_fn I.kIn self tI) small ?_)
  refine codeAny_mono (F.run _ X.stack _ _ ⟨Value.ref (hp.objs.size + 1) :: us, kw⟩ _ _ _ E0 (room.make C us kw) (J.env0.make C us kw) (binds _ _ J.kIn) rel2 q0) ?_
  intro r s' hr
  cases r with
  | error e => exact (show False from hr).elim
  | ok fl =>
    cases fl with
    | ret u =>
      obtain ⟨v, H2, J2, rv, ev, q2⟩ := J.after hr
      subst ev
      exact ⟨rv, ⟨V.ref (hp.objs.size + 1), H2, J2, rfl, q2⟩⟩
    | next => exact hr.elim
    | brk => exact hr.elim
    | cont => exact hr.elim
end
/-- C(e, ..) -/
def tMk (C : Addr) (sp : Sp) (ta : TA) : TE := fun σ H Q => ta σ H fun vs H1 => vs.length ≤ 100 ∧ ∀ a, H1 a = none →
  sp (.ref a :: vs) (upd H1 a (exo a C none)) (fun v H2 => v = .non ∧ Q (.ref a) H2) E0
def tMkK (C : Addr) (sp : Sp) (gV : List V → List V) (tk : TA) : TE := fun σ H Q => tk σ H fun vs H1 => ∀ a, H1 a = none →
  sp (.ref a :: gV vs) (upd H1 a (exo a C none)) (fun v H2 => v = .non ∧ Q (.ref a) H2) E0
section
variable {X : Cx} {C fI : Addr} {fd : FuncData} {ps ks : List Str} {sp : Sp} {k : Nat} {B newId initId : String} {bmB : List Value}
  {x : Str} {p pos : Pos} {e : Expr} {es : List Expr} {t tk : TA} {kws : List Keyword}
theorem pe_mk (T : ExK X.K C B newId initId bmB)
    (hi : PySem.W.findIn X.K (.ref C) "__init__" = some (some (.ref fI))) (tI : PySem.W.typeIn X.K (.ref fI) = some (.type "function"))
    (F : FnOk X.prog X.w X.K X.mg X.base CX0 k fI fd ps sp) (hb : Binds X.K fd ps []) (room : Room (k + 1) X.A) (hg : Gl X x) (hm : X.mg x = some (.ref C)) (ha : PA X (e :: es) t)
    (hdb : (x == ("__debug__" : Str)) = false := by decide) (he : starEach (e :: es) X.env = (false, eval e X.env) :: starEach es X.env := by rfl)
    (hpl : (backTo pos (starEach es X.env)).any (·.1) = false := by rfl) : PE X (.Call (.Name x p) (e :: es) [] pos) (tMk C sp t) := by
  constructor
  intro pins s σ H Q I h
  refine wpAny_Call_Name_kw (ld_glob I hg hm ?_ hdb)
  refine PySem.W.callWith_K (h₀ := X.base) I.ok.mod.kin T.keep ?_ he hpl
  refine thn (ha.run pos pins s σ H _ I h) ?_
  rintro us s1 ⟨vs, H1, J, r, hl, q⟩
  refine ⟨J.kIn, ?_⟩
  have hlen : (Value.none :: us).length = ps.length := by
    have z := F.len _ _ _ _ (q s1.heap.objs.size (J.hok.fresh (Nat.le_refl _)))
    rw [← z, List.length_cons, List.length_cons, r.length]
  refine run_mk (bs := us) (kw := []) T hi tI F room J r (fun s' self hK => ?_) (by show us.length ≤ sizeLine; rw [← r.length]; exact small_line (by omega)) q
  have z := hb s' (self :: us) hK (by rw [List.append_nil]; exact hlen)
  rw [List.append_nil] at z
  exact z
theorem pe_mkK (T : ExK X.K C B newId initId bmB) {g : List Value → List Value} {gV : List V → List V}
    (hi : PySem.W.findIn X.K (.ref C) "__init__" = some (some (.ref fI))) (tI : PySem.W.typeIn X.K (.ref fI) = some (.type "function"))
    (F : FnOk X.prog X.w X.K X.mg X.base CX0 k fI fd ps sp) (hgV : ∀ vs us, Vals vs us → Vals (gV vs) (g us))
    (hb : ∀ (s : Shared) (self : Value) (ws : List Value), ws.length = ks.length → BindsTo s fd ⟨[self], ks.zip ws⟩ (ps.zip (self :: g ws)))
    (room : Room (k + 1) X.A) (hg : Gl X x) (hm : X.mg x = some (.ref C)) (hkw : PK X kws tk) (hn : ∀ σ H Q, tk σ H Q → tk σ H fun vs H1 => vs.length = ks.length ∧ Q vs H1)
    (hall : (backToKw pos (keywordEach kws X.env)).all (·.1.isSome) = true := by rfl) (hks : (backToKw pos (keywordEach kws X.env)).filterMap (·.1) = ks := by rfl)
    (hdb : (x == ("__debug__" : Str)) = false := by decide)
    (hpl : ((backTo pos (starEach [] X.env)).any (·.1) || (backToKw pos (keywordEach kws X.env)).any (·.1.isNone)) = false := by rfl) :
    PE X (.Call (.Name x p) [] kws pos) (tMkK C sp gV tk) := by
  constructor
  intro pins s σ H Q I h
  refine wpAny_Call_Name_kw (ld_glob I hg hm ?_ hdb)
  refine PySem.W.callWith_KW0 (h₀ := X.base) I.ok.mod.kin T.keep hall ?_ hpl
  refine thn (hkw.run pos pins s σ H _ I (hn _ _ _ h)) ?_
  rintro ws s1 ⟨vs, H1, J, r, hl, q⟩
  refine ⟨J.kIn, ?_⟩
  rw [hks]
  exact run_mk (us := []) (bs := g ws) (kw := ks.zip ws) T hi tI F room J (hgV _ _ r) (fun s' self _ => hb s' self ws (by rw [← r.length]; exact hl)) (small_line (by decide)) q
end
/-- o.f of an exception that has its dict -/
def tGet (C : Addr) (f : Str) (to : TE) : TE := fun σ H Q => to σ H fun x H1 => ∃ (a d : Addr) (fs : List (Str × V)) (v : V), x = .ref a ∧ H1 a = some (exo a C (some d)) ∧ H1 d = some (exd d fs) ∧ fs.lookup f = some v ∧ Q v H1
theorem pe_get {X : Cx} {o : Expr} {to : TE} {f : Str} {pos : Pos} {C : Addr} {B newId initId : String} {bmB : List Value} (T : ExK X.K C B newId initId bmB) (hno : PySem.W.findIn X.K (.ref C) f = some none) (ho : PE X o to)
    (hb : attributeBase o f X.env (eval o X.env) = eval o X.env := by rfl) : PE X (.Attribute o f pos) (tGet C f to) := by
  constructor
  intro pins s σ H Q I h
  refine attr_of hb (thn (ho.run pins s σ H _ I h) ?_)
  rintro u s1 ⟨x, H1, J, r, a, d, fs, v, ex, ea, ed, hv, q⟩
  subst ex
  cases (show u = Value.ref a from r)
  obtain ⟨t1, hobj⟩ := exo_at J.hok ea
  obtain ⟨mA, ns, rel⟩ := exd_at J.hok ed
  have rv := rel f
  rw [hv] at rv
  obtain ⟨u', hu, ru⟩ := RelO.some_of rv
  obtain ⟨od, hod, look⟩ := lookIn_ns ns
  have inst : PySem.W.InstAt s1.heap a { cls := .ref C, dict := some d, data := .fields #[.ref t1, .none, .none, .none, .bool false, .none] } C (some od) := ⟨hobj, rfl, rfl, hod⟩
  exact PySem.PX.exc_get J.kIn inst T.ga T.gt T.sub (PySem.W.findObj_own T.dct hno rfl (by rw [look, hu])) (handed_of ru) ⟨v, H1, J.tok _, ru, q⟩
/-- isinstance(e, c), e an exception -/
def rIsX (K : PySem.W.Frag) : List V → Hp → VK → Prop := fun xs H Q => ∃ (a C : Addr) (d : Option Addr) (c : V) (cv : Value) (b : Bool), xs = [.ref a, c] ∧ H a = some (exo a C d) ∧ (∀ x, d = some x → ∃ fs, H x = some (exd x fs)) ∧
  ClsV c cv ∧ PySem.W.kitOne K (.ref C) cv = some b ∧ Q (.bl b) H
/-- the classes that a law's exceptions are of -/
def ExAll (K : PySem.W.Frag) (P : Addr → Prop) : Prop := ∀ C, P C → ∃ B newId initId bmB, ExK K C B newId initId bmB
theorem call_isX {X : Cx} {P : Addr → Prop} (T : ExAll X.K P) : CallR X (.builtin "isinstance") (fun xs H Q => rIsX X.K xs H Q ∧ ∀ a c, xs = [.ref a, c] → ∀ C d, H a = some (exo a C d) → P C) := by
  intro pins s σ H xs us Q I r h
  obtain ⟨⟨a, C, d, c, cv, b, rfl, ha, hd, hc, e, q⟩, hP⟩ := h
  obtain ⟨u1, u2, rfl, r1, r2⟩ := vals2 r
  cases (show u1 = Value.ref a from r1)
  have e2 := hc.eq r2
  subst e2
  obtain ⟨B, newId, initId, bmB, K0⟩ := T C (hP a c rfl C d ha)
  obtain ⟨t1, hobj⟩ := exo_at I.hok ha
  obtain ⟨cd, hcd, _⟩ := PySem.W.any_some K0.dct
  have hcl : (PySem.W.clsIn X.K C).isSome = true := by
    rw [hcd]
    rfl
  cases d with
  | none =>
    have inst : PySem.W.InstAt s.heap a { cls := .ref C, dict := none, data := .fields #[.ref t1, .none, .none, .none, .bool false, .none] } C none := ⟨hobj, rfl, rfl, trivial⟩
    exact PySem.W.kia_one (PySem.W.kitx_exc hcl K0.ga K0.gt K0.sub K0.cl K0.gg K0.tk K0.mo) I.kIn inst e (fun z => nomatch z) fun tk => ⟨.bl b, H, I.tok tk, rfl, q⟩
  | some x =>
    obtain ⟨fs, ex⟩ := hd x rfl
    obtain ⟨mA, ns, rel⟩ := exd_at I.hok ex
    obtain ⟨od, hod, look⟩ := lookIn_ns ns
    have inst : PySem.W.InstAt s.heap a { cls := .ref C, dict := some x, data := .fields #[.ref t1, .none, .none, .none, .bool false, .none] } C (some od) := ⟨hobj, rfl, rfl, hod⟩
    exact PySem.W.kia_one (PySem.W.kitx_exc hcl K0.ga K0.gt K0.sub K0.cl K0.gg K0.tk K0.mo) I.kIn inst e (fun z => nomatch z) fun tk => ⟨.bl b, H, I.tok tk, rfl, q⟩
end Hx

namespace Hx
open PySem PySem.Spec PyProof.Rows L2
/-! comparing data -/
section
variable {X : Cx}
def rNeQ : R2 := fun x y H Q => ∃ d e, Dq H x d ∧ Dq H y e ∧ SeqAt.shaped d = true ∧ SeqAt.shaped e = true ∧ Q (.bl (!PyData.eqv d e)) H
def rEqQ : R2 := fun x y H Q => ∃ d e, Dq H x d ∧ Dq H y e ∧ SeqAt.shaped d = true ∧ SeqAt.shaped e = true ∧ Q (.bl (PyData.eqv d e)) H
theorem op_neQ (hu : X.A.units + 64 < cLine) : OpR X (compareOp .NotEq) rNeQ := by
  intro pins s σ H x y v u Q I rx ry h
  obtain ⟨d, e, hd, he, sd, se, q⟩ := h
  obtain ⟨as, r1, _⟩ := Dq.reads I d x v hd rx
  obtain ⟨bs, r2, _⟩ := Dq.reads I e y u he ry
  exact SeqAt.compareNe_shaped r1 r2 sd se hu ⟨.bl _, H, I, rfl, q⟩
theorem op_eqQ (hu : X.A.units + 64 < cLine) : OpR X (compareOp .Eq) rEqQ := by
  intro pins s σ H x y v u Q I rx ry h
  obtain ⟨d, e, hd, he, sd, se, q⟩ := h
  obtain ⟨as, r1, _⟩ := Dq.reads I d x v hd rx
  obtain ⟨bs, r2, _⟩ := Dq.reads I e y u he ry
  exact SeqAt.compareEq_shaped r1 r2 sd se hu ⟨.bl _, H, I, rfl, q⟩
end
/-! comprehensions that make data -/
def without (D : Addr) (H : Hp) : Hp := fun b => if b = D then none else H b
def newPart (H H' : Hp) : Hp := fun b => if H b = none then H' b else none
theorem without_some {D b : Addr} {H : Hp} {o : HO} (h : without D H b = some o) : b ≠ D ∧ H b = some o := by
  unfold without at h
  split at h
  · cases h
  · exact ⟨by assumption, h⟩
theorem without_at {D b : Addr} {H : Hp} {o : HO} (n : b ≠ D) (h : H b = some o) : without D H b = some o := by
  unfold without
  rw [if_neg n]
  exact h
theorem newPart_some {b : Addr} {H H' : Hp} {o : HO} (h : newPart H H' b = some o) : H b = none ∧ H' b = some o := by
  unfold newPart at h
  split at h
  · exact ⟨by assumption, h⟩
  · cases h
theorem newPart_at {b : Addr} {H H' : Hp} {o : HO} (n : H b = none) (h : H' b = some o) : newPart H H' b = some o := by
  unfold newPart
  rw [if_pos n]
  exact h
theorem without_same {D : Addr} {H : Hp} : Same (without D H) H := fun b o h => (without_some h).2
theorem newPart_same {H H' : Hp} : Same (newPart H H') H' := fun b o h => (newPart_some h).2
theorem without_upd {D : Addr} {H : Hp} {o : HO} : without D (upd H D o) = without D H := by
  funext b
  unfold without
  split
  · rfl
  · rw [upd_ne (by assumption)]
theorem DqAll.snoc {H : Hp} {v : V} {d : PyData} : ∀ {vs : List V} {ds : List PyData}, DqAll H vs ds → Dq H v d → DqAll H (vs ++ [v]) (ds ++ [d])
  | _, _, .nil, h => .cons h .nil
  | _, _, .cons a r, h => .cons a (DqAll.snoc r h)
theorem DqAll.len {H : Hp} : ∀ {vs : List V} {ds : List PyData}, DqAll H vs ds → vs.length = ds.length
  | _, _, .nil => rfl
  | _, _, .cons _ r => congrArg Nat.succ (DqAll.len r)
/-- what a turn's element must do: a new datum, all else as it was -/
def Gives (te : TE) (σ : L2.St) (H : Hp) (d : PyData) : Prop := ∀ Q : VK, (∀ y H', Same H H' → Dq (newPart H H') y d → Q y H') → te σ H Q
def LcAt (H1 : Hp) (D : Addr) (f : Nat → PyData) (i : Nat) (H' : Hp) : Prop :=
  Same H1 H' ∧ ∃ xs, H' D = some (.lst xs) ∧ DqAll (without D H') xs ((List.range i).map f)
theorem LcAt.start {H1 : Hp} {D : Addr} {f : Nat → PyData} (hD : H1 D = none) : LcAt H1 D f 0 (upd H1 D (.lst [])) := ⟨same_new hD _, [], upd_same, .nil⟩
theorem LcAt.turn {H1 H' H2 : Hp} {D : Addr} {f : Nat → PyData} {i : Nat} {y : V} (hD : H1 D = none) (h : LcAt H1 D f i H') (s : Same H' H2) (hy : Dq (newPart H' H2) y (f i)) (hi : i < 100000) :
    ∃ acc, H2 D = some (.lst acc) ∧ acc.length < sizeLine ∧ LcAt H1 D f (i + 1) (upd H2 D (.lst (acc ++ [y]))) := by
  obtain ⟨s1, xs, hx, ha⟩ := h
  have hlen := ha.len
  rw [List.length_map, List.length_range] at hlen
  refine ⟨xs, s _ _ hx, by rw [hlen]; exact Nat.lt_of_lt_of_le hi (by decide), ?_, xs ++ [y], upd_same, ?_⟩
  · intro b o hb
    rw [upd_ne (ne_of_none hb hD)]
    exact s _ _ (s1 _ _ hb)
  · rw [without_upd, List.range_succ, List.map_append]
    refine DqAll.snoc (DqAll.same (fun b o hb => ?_) _ _ ha) (Dq.same (fun b o hb => ?_) _ _ hy)
    · obtain ⟨n, e⟩ := without_some hb
      exact without_at n (s _ _ e)
    · obtain ⟨n, e⟩ := newPart_some hb
      exact without_at (fun z => by rw [z, hx] at n; cases n) e
theorem lc_data_range {n : Nat} {i0 : Nat} {te : TE} {vs : List Nat} {σ : L2.St} {H1 : Hp} {D : Addr} {Qd : Hp → Prop} (f : Nat → PyData) (hD : H1 D = none) (hn : n ≤ 100000)
    (hw : ∀ x : V, wipe ((wipe σ vs).set i0 (some x)) vs = wipe σ vs)
    (hs : ∀ i H', i < n → Same H1 H' → Gives te ((wipe σ vs).set i0 (some (.int (i : Nat)))) H' (f i))
    (hd : ∀ H' xs, Same H1 H' → H' D = some (.lst xs) → DqAll H' xs ((List.range n).map f) → Qd H') :
    ∃ W : Nat → Nat → Hp → Prop, (∃ m, W 0 m (upd H1 D (.lst []))) ∧ ∀ i m H, W i m H →
      ((Itr 0 n).stop i H ∧ Qd H) ∨ ((Itr 0 n).go i H ∧ ∃ Nx : Hp → Prop, (∀ H', Nx H' → ∃ m', m' < m ∧ W (i + 1) m' H') ∧
        ∀ x H', (Itr 0 n).yld i H x H' → gName i0 x (wipe σ vs) H' fun σ2 H2 => wipe σ2 vs = wipe σ vs ∧ tYes σ2 H2 fun b H3 =>
          if b = true then te σ2 H3 fun y H4 => ∃ acc, H4 D = some (.lst acc) ∧ acc.length < sizeLine ∧ Nx (upd H4 D (.lst (acc ++ [y]))) else Nx H3) := by
  refine lc_range (lo := 0) (n := n) (LcAt H1 D f) (LcAt.start hD) ?_ ?_
  · intro i H' hi h
    refine ⟨hw _, turn_yes ?_⟩
    have e : (V.int (0 + (i : Int))) = V.int ((i : Nat) : Int) := by rw [Int.zero_add]
    rw [e]
    exact hs i H' hi h.1 _ fun y H2 s hy => h.turn hD s hy (by omega)
  · rintro H' ⟨s1, xs, hx, ha⟩
    exact hd H' xs s1 hx (DqAll.same without_same _ _ ha)
theorem lc_data_list {K : PySem.W.Frag} {a : Addr} {ws : List V} {i0 : Nat} {te : TE} {vs : List Nat} {σ : L2.St} {H1 : Hp} {D : Addr} {Qd : Hp → Prop} (f : Nat → PyData) (hD : H1 D = none) (hn : ws.length ≤ 100000)
    (hl : SqL K H1 a ws) (hw : ∀ x : V, wipe ((wipe σ vs).set i0 (some x)) vs = wipe σ vs)
    (hs : ∀ i x H', ws[i]? = some x → Same H1 H' → Gives te ((wipe σ vs).set i0 (some x)) H' (f i))
    (hd : ∀ H' xs, Same H1 H' → H' D = some (.lst xs) → DqAll H' xs ((List.range ws.length).map f) → Qd H') :
    ∃ W : Nat → Nat → Hp → Prop, (∃ m, W 0 m (upd H1 D (.lst []))) ∧ ∀ i m H, W i m H →
      ((Itl K a).stop i H ∧ Qd H) ∨ ((Itl K a).go i H ∧ ∃ Nx : Hp → Prop, (∀ H', Nx H' → ∃ m', m' < m ∧ W (i + 1) m' H') ∧
        ∀ x H', (Itl K a).yld i H x H' → gName i0 x (wipe σ vs) H' fun σ2 H2 => wipe σ2 vs = wipe σ vs ∧ tYes σ2 H2 fun b H3 =>
          if b = true then te σ2 H3 fun y H4 => ∃ acc, H4 D = some (.lst acc) ∧ acc.length < sizeLine ∧ Nx (upd H4 D (.lst (acc ++ [y]))) else Nx H3) := by
  refine lc_list (K := K) (a := a) (xs := ws) (LcAt H1 D f) (LcAt.start hD) (fun i H' _ h => h.1.seq hl) ?_ ?_
  · intro i x H' hi h
    have lt : i < ws.length := (List.getElem?_eq_some_iff.mp hi).1
    refine ⟨hw _, turn_yes ?_⟩
    exact hs i x H' hi h.1 _ fun y H2 s hy => h.turn hD s hy (by omega)
  · rintro H' ⟨s1, xs, hx, ha⟩
    exact hd H' xs s1 hx (DqAll.same without_same _ _ ha)
/-! isinstance of an exception -/
/-- at a stands an exception of the class at C -/
def XAt (H : Hp) (a C : Addr) : Prop := ∃ d, H a = some (exo a C d) ∧ ∀ x, d = some x → ∃ fs, H x = some (exd x fs)
theorem XAt.same {H H' : Hp} {a C : Addr} (h : XAt H a C) (s : Same H H') : XAt H' a C := by
  obtain ⟨d, e, k⟩ := h
  refine ⟨d, s _ _ e, fun x hx => ?_⟩
  obtain ⟨fs, z⟩ := k x hx
  exact ⟨fs, s _ _ z⟩
def tIs (i : Nat) (a C : Addr) (b : Bool) : TE := fun σ H Q => σ[i]? = some (some (.ref a)) ∧ XAt H a C ∧ Q (.bl b) H
section
variable {X : Cx} {a C : Addr} {i : Nat} {x : Str} {p p1 pos : Pos} {ce : Expr} {c : V} {cv : Value} {b : Bool} {B newId initId : String} {bmB : List Value}
theorem call_isK (T : ExK X.K C B newId initId bmB) : CallR X (.builtin "isinstance") (fun xs H Q => ∃ (a : Addr) (c : V) (cv : Value) (b : Bool), xs = [.ref a, c] ∧ XAt H a C ∧ ClsV c cv ∧ PySem.W.kitOne X.K (.ref C) cv = some b ∧ Q (.bl b) H) := by
  intro pins s σ H xs us Q I r h
  obtain ⟨a, c, cv, b, rfl, ⟨d, ha, hd⟩, hc, e, q⟩ := h
  obtain ⟨u1, u2, rfl, r1, r2⟩ := vals2 r
  cases (show u1 = Value.ref a from r1)
  have e2 := hc.eq r2
  subst e2
  obtain ⟨t1, hobj⟩ := exo_at I.hok ha
  obtain ⟨cd, hcd, _⟩ := PySem.W.any_some T.dct
  have hcl : (PySem.W.clsIn X.K C).isSome = true := by
    rw [hcd]
    rfl
  cases d with
  | none =>
    have inst : PySem.W.InstAt s.heap a { cls := .ref C, dict := none, data := .fields #[.ref t1, .none, .none, .none, .bool false, .none] } C none := ⟨hobj, rfl, rfl, trivial⟩
    exact PySem.W.kia_one (PySem.W.kitx_exc hcl T.ga T.gt T.sub T.cl T.gg T.tk T.mo) I.kIn inst e (fun z => nomatch z) fun tk => ⟨.bl b, H, I.tok tk, rfl, q⟩
  | some x =>
    obtain ⟨fs, ex⟩ := hd x rfl
    obtain ⟨mA, ns, rel⟩ := exd_at I.hok ex
    obtain ⟨od, hod, look⟩ := lookIn_ns ns
    have inst : PySem.W.InstAt s.heap a { cls := .ref C, dict := some x, data := .fields #[.ref t1, .none, .none, .none, .bool false, .none] } C (some od) := ⟨hobj, rfl, rfl, hod⟩
    exact PySem.W.kia_one (PySem.W.kitx_exc hcl T.ga T.gt T.sub T.cl T.gg T.tk T.mo) I.kIn inst e (fun z => nomatch z) fun tk => ⟨.bl b, H, I.tok tk, rfl, q⟩
theorem pe_is (T : ExK X.K C B newId initId bmB) (hg : Gl X "isinstance") (hm : X.mg "isinstance" = none) (hx : PE X (.Name x p1) (tVar i)) (hc : PE X ce (tC c)) (cl : ClsV c cv)
    (hk : PySem.W.kitOne X.K (.ref C) cv = some b) (he1 : starEach [.Name x p1, ce] X.env = (false, eval (.Name x p1) X.env) :: starEach [ce] X.env := by rfl)
    (he2 : starEach [ce] X.env = (false, eval ce X.env) :: starEach [] X.env := by rfl)
    (hpl : (backTo pos (starEach [ce] X.env)).any (·.1) = false := by rfl) : PE X (.Call (.Name "isinstance" p) [.Name x p1, ce] [] pos) (tIs i a C b) := by
  constructor
  intro pins s σ H Q I h
  obtain ⟨h1, h2, h3⟩ := h
  exact (pe_callB (call_isK T) hg hm PyProof.Rows.boot_isinstance (pa_cons hx (pa_cons hc pa_nil he2) he1) (by decide) (by decide) he1 hpl).run pins s σ H Q I ⟨_, h1, a, c, cv, b, rfl, h2, cl, hk, h3⟩
end
/-- C(), C an own exception class without __init__ -/
theorem pe_mk0 {X : Cx} {C : Addr} {B newId initId : String} {bmB : List Value} {x : Str} {p pos : Pos} (F : ExcBaseFacts B newId initId bmB) (q : PySem.W.excIn X.K C bmB newId = true)
    (gC : X.mg x = some (.ref C)) (kC : PySem.W.keepIn X.K (.ref C) = true) (hg : Gl X x) (hdb : (x == ("__debug__" : Str)) = false := by decide) :
    PE X (.Call (.Name x p) [] [] pos) (fun σ H Q => ∀ a, H a = none → Q (.ref a) (upd H a (exo a C none))) := by
  constructor
  intro pins s σ H Q I h
  refine wpAny_Call_Name_kw (ld_glob I hg gC ?_ hdb)
  refine PySem.W.callWith_K0 I.kIn kC ?_
  show wpAny _ _ (call (.ref C) []) _ _ _
  obtain ⟨bm, N, nm, qn, bs, hdct, sn, sub, ab, col, dd, k0, k1, k2, k3, k5, mN, hC, hN, hni, T⟩ := exc_obj I.kIn q
  refine wpAny_call_exc_subT F T hC hN hni (fun h' a hm => ?_) (by show 0 ≤ sizeLine; exact Nat.zero_le _)
  have hn : H a = none := I.hok.gone hm.new
  obtain ⟨t, ht, _, _⟩ := hm.there
  exact ⟨.ref a, upd H a (exo a C none), I.laidN hm.keeps hm.new hn (exo_ok ht), rfl, h a hn⟩
end Hx

namespace Hx
open PySem PySem.Spec PyProof.Rows L2
/-- at a stands an exception of the class at C with these fields -/
def EAt (H : Hp) (a C : Addr) (fs : List (Str × V)) : Prop := ∃ d, H a = some (exo a C (some d)) ∧ H d = some (exd d fs)
theorem EAt.same {H H' : Hp} {a C : Addr} {fs : List (Str × V)} (h : EAt H a C fs) (s : Same H H') : EAt H' a C fs := by
  obtain ⟨d, h1, h2⟩ := h
  exact ⟨d, s _ _ h1, s _ _ h2⟩
theorem EAt.x {H : Hp} {a C : Addr} {fs : List (Str × V)} (h : EAt H a C fs) : XAt H a C := by
  obtain ⟨d, h1, h2⟩ := h
  refine ⟨some d, h1, fun x hx => ?_⟩
  cases hx
  exact ⟨fs, h2⟩
/-- an own exception class x at C whose __init__ keeps its one parameter f -/
structure MkC (P : Program) (w : World) (K : PySem.W.Frag) (mg : Str → Option Value) (base : Heap) (x : Str) (C : Addr) (f : Str) : Prop where
  go : ∃ (fI : Addr) (fd : FuncData) (B newId initId : String) (bmB : List Value), ExK K C B newId initId bmB ∧ PySem.W.findIn K (.ref C) "__init__" = some (some (.ref fI)) ∧
    PySem.W.typeIn K (.ref fI) = some (.type "function") ∧ FnOk P w K mg base CX0 1 fI fd ["self", f] (spIn1 C f) ∧ Binds K fd ["self", f] [] ∧
    ∀ (s : Shared) (self w1 : Value), BindsTo s fd ⟨[self], [(f, w1)]⟩ [("self", self), (f, w1)]
  m : mg x = some (.ref C)
  no : PySem.W.findIn K (.ref C) f = some none
structure MkC2 (P : Program) (w : World) (K : PySem.W.Frag) (mg : Str → Option Value) (base : Heap) (x : Str) (C : Addr) (f g : Str) : Prop where
  go : ∃ (fI : Addr) (fd : FuncData) (B newId initId : String) (bmB : List Value), ExK K C B newId initId bmB ∧ PySem.W.findIn K (.ref C) "__init__" = some (some (.ref fI)) ∧
    PySem.W.typeIn K (.ref fI) = some (.type "function") ∧ FnOk P w K mg base CX0 1 fI fd ["self", f, g] (spIn2 C f g) ∧ Binds K fd ["self", f, g] [] ∧
    ∀ (s : Shared) (self w1 w2 : Value), BindsTo s fd ⟨[self], [(g, w2), (f, w1)]⟩ [("self", self), (f, w1), (g, w2)]
  m : mg x = some (.ref C)
  no : PySem.W.findIn K (.ref C) f = some none
  no2 : PySem.W.findIn K (.ref C) g = some none
/-- X(y), y in slot i -/
def tNew (i : Nat) (C : Addr) (f : Str) : TE := fun σ H Q => ∃ v, σ[i]? = some (some v) ∧ ∀ a H', H a = none → Same H H' → EAt H' a C [(f, v)] → Q (.ref a) H'
def tNew2 (i j : Nat) (C : Addr) (f g : Str) : TE := fun σ H Q => ∃ v u, σ[i]? = some (some v) ∧ σ[j]? = some (some u) ∧ ∀ a H', H a = none → Same H H' → EAt H' a C [(g, u), (f, v)] → Q (.ref a) H'
theorem made_same {H : Hp} {a d C : Addr} {o o1 o2 : HO} (na : H a = none) (nd : upd H a o d = none) : Same H (upd (upd (upd H a o) d o1) a o2) := fun b u hb => by
  rw [upd_ne (ne_of_none hb na)]
  exact ((same_new na o).trans (same_new nd o1)) b u hb
section
variable {X : Cx} {x y z f g : Str} {C : Addr} {i j : Nat} {p py pz pos kp kq : Pos}
theorem pe_new (M : MkC X.prog X.w X.K X.mg X.base x C f) (room : Room 2 X.A) (hg : Gl X x) (hy : PE X (.Name y py) (tVar i))
    (hdb : (x == ("__debug__" : Str)) = false := by decide) (he : starEach [.Name y py] X.env = (false, eval (.Name y py) X.env) :: starEach [] X.env := by rfl)
    (hpl : (backTo pos (starEach [] X.env)).any (·.1) = false := by rfl) : PE X (.Call (.Name x p) [.Name y py] [] pos) (tNew i C f) := by
  obtain ⟨fI, fd, B, newId, initId, bmB, T, hi, tI, F, hb, _⟩ := M.go
  constructor
  intro pins s σ H Q I h
  obtain ⟨v, hv, q⟩ := h
  refine (pe_mk T hi tI F hb room hg M.m (pa_cons hy pa_nil he) hdb he hpl).run pins s σ H Q I ⟨v, hv, (by show 1 ≤ 100; decide), fun a na => ?_⟩
  refine ⟨a, v, rfl, upd_same, fun d nd ne => ⟨rfl, q a _ na (made_same (C := C) na nd) ⟨d, upd_same, ?_⟩⟩⟩
  rw [upd_ne ne]
  exact upd_same
theorem pe_newK (M : MkC X.prog X.w X.K X.mg X.base x C f) (room : Room 2 X.A) (hg : Gl X x) (hy : PE X (.Name y py) (tVar i))
    (hdb : (x == ("__debug__" : Str)) = false := by decide)
    (hall : (backToKw pos (keywordEach [⟨some f, .Name y py, kp⟩] X.env)).all (·.1.isSome) = true := by rfl)
    (hks : (backToKw pos (keywordEach [⟨some f, .Name y py, kp⟩] X.env)).filterMap (·.1) = [f] := by rfl)
    (hpl : ((backTo pos (starEach [] X.env)).any (·.1) || (backToKw pos (keywordEach [⟨some f, .Name y py, kp⟩] X.env)).any (·.1.isNone)) = false := by rfl) :
    PE X (.Call (.Name x p) [] [⟨some f, .Name y py, kp⟩] pos) (tNew i C f) := by
  obtain ⟨fI, fd, B, newId, initId, bmB, T, hi, tI, F, _, hb⟩ := M.go
  constructor
  intro pins s σ H Q I h
  obtain ⟨v, hv, q⟩ := h
  refine (pe_mkK (g := id) (gV := id) T hi tI F (fun _ _ r => r) (fun s self ws hl => ?_) room hg M.m (pk_cons hy pk_nil) (fun σ H Q ⟨v, e, q⟩ => ⟨v, e, rfl, q⟩) hall hks hdb hpl).run pins s σ H Q I ⟨v, hv, fun a na => ?_⟩
  · match ws, hl with
    | [w1], _ => exact hb s self w1
  refine ⟨a, v, rfl, upd_same, fun d nd ne => ⟨rfl, q a _ na (made_same (C := C) na nd) ⟨d, upd_same, ?_⟩⟩⟩
  rw [upd_ne ne]
  exact upd_same
theorem made_same2 {H : Hp} {a d : Addr} {o o1 o2 o3 : HO} (na : H a = none) (nd : upd H a o d = none) : Same H (upd (upd (upd (upd H a o) d o1) a o2) d o3) := fun b u hb => by
  have n : b ≠ d := ne_of_none (same_new na o b u hb) nd
  rw [upd_ne n]
  exact made_same (C := a) na nd b u hb
theorem pe_new2 (M : MkC2 X.prog X.w X.K X.mg X.base x C f g) (room : Room 2 X.A) (hg : Gl X x) (hy : PE X (.Name y py) (tVar i)) (hz : PE X (.Name z pz) (tVar j))
    (hdb : (x == ("__debug__" : Str)) = false := by decide) (he : starEach [.Name y py, .Name z pz] X.env = (false, eval (.Name y py) X.env) :: starEach [.Name z pz] X.env := by rfl)
    (he2 : starEach [.Name z pz] X.env = (false, eval (.Name z pz) X.env) :: starEach [] X.env := by rfl)
    (hpl : (backTo pos (starEach [.Name z pz] X.env)).any (·.1) = false := by rfl) : PE X (.Call (.Name x p) [.Name y py, .Name z pz] [] pos) (tNew2 i j C f g) := by
  obtain ⟨fI, fd, B, newId, initId, bmB, T, hi, tI, F, hb, _⟩ := M.go
  constructor
  intro pins s σ H Q I h
  obtain ⟨v, u, hv, hu, q⟩ := h
  refine (pe_mk T hi tI F hb room hg M.m (pa_cons hy (pa_cons hz pa_nil he2) he) hdb he hpl).run pins s σ H Q I ⟨v, hv, u, hu, (by show 2 ≤ 100; decide), fun a na => ?_⟩
  refine ⟨a, v, u, rfl, upd_same, fun d nd ne => ⟨rfl, q a _ na (made_same2 na nd) ⟨d, ?_, upd_same⟩⟩⟩
  rw [upd_ne (Ne.symm ne)]
  exact upd_same
/-- X(g = z, f = y) -/
theorem pe_new2K (M : MkC2 X.prog X.w X.K X.mg X.base x C f g) (room : Room 2 X.A) (hg : Gl X x) (hy : PE X (.Name y py) (tVar i)) (hz : PE X (.Name z pz) (tVar j))
    (hdb : (x == ("__debug__" : Str)) = false := by decide)
    (hall : (backToKw pos (keywordEach [⟨some g, .Name z pz, kp⟩, ⟨some f, .Name y py, kq⟩] X.env)).all (·.1.isSome) = true := by rfl)
    (hks : (backToKw pos (keywordEach [⟨some g, .Name z pz, kp⟩, ⟨some f, .Name y py, kq⟩] X.env)).filterMap (·.1) = [g, f] := by rfl)
    (hpl : ((backTo pos (starEach [] X.env)).any (·.1) || (backToKw pos (keywordEach [⟨some g, .Name z pz, kp⟩, ⟨some f, .Name y py, kq⟩] X.env)).any (·.1.isNone)) = false := by rfl) :
    PE X (.Call (.Name x p) [] [⟨some g, .Name z pz, kp⟩, ⟨some f, .Name y py, kq⟩] pos) (tNew2 i j C f g) := by
  obtain ⟨fI, fd, B, newId, initId, bmB, T, hi, tI, F, _, hb⟩ := M.go
  constructor
  intro pins s σ H Q I h
  obtain ⟨v, u, hv, hu, q⟩ := h
  refine (pe_mkK (g := List.reverse) (gV := List.reverse) T hi tI F (fun _ _ r => r.reverse) (fun s self ws hl => ?_) room hg M.m (pk_cons hz (pk_cons hy pk_nil))
    (fun σ H Q ⟨v, e, u, e2, q⟩ => ⟨v, e, u, e2, rfl, q⟩) hall hks hdb hpl).run pins s σ H Q I ⟨u, hu, v, hv, fun a na => ?_⟩
  · match ws, hl with
    | [w2, w1], _ => exact hb s self w1 w2
  refine ⟨a, v, u, rfl, upd_same, fun d nd ne => ⟨rfl, q a _ na (made_same2 na nd) ⟨d, ?_, upd_same⟩⟩⟩
  rw [upd_ne (Ne.symm ne)]
  exact upd_same
/-- o.f, o an exception of some class that is told where it is read -/
def tGetA (K : PySem.W.Frag) (f : Str) (to : TE) : TE := fun σ H Q => to σ H fun x H1 => ∃ (a C : Addr) (fs : List (Str × V)) (v : V), x = .ref a ∧ EAt H1 a C fs ∧
  (∃ B newId initId bmB, ExK K C B newId initId bmB) ∧ PySem.W.findIn K (.ref C) f = some none ∧ fs.lookup f = some v ∧ Q v H1
theorem pe_getA {o : Expr} {to : TE} (ho : PE X o to) (hb : attributeBase o f X.env (eval o X.env) = eval o X.env := by rfl) : PE X (.Attribute o f pos) (tGetA X.K f to) := by
  constructor
  intro pins s σ H Q I h
  refine attr_of hb (thn (ho.run pins s σ H _ I h) ?_)
  rintro u s1 ⟨x, H1, J, r, a, C, fs, v, ex, ⟨d, ea, ed⟩, ⟨B, newId, initId, bmB, T⟩, hno, hv, q⟩
  subst ex
  cases (show u = Value.ref a from r)
  obtain ⟨t1, hobj⟩ := exo_at J.hok ea
  obtain ⟨mA, ns, rel⟩ := exd_at J.hok ed
  have rv := rel f
  rw [hv] at rv
  obtain ⟨u', hu, ru⟩ := RelO.some_of rv
  obtain ⟨od, hod, look⟩ := lookIn_ns ns
  have inst : PySem.W.InstAt s1.heap a { cls := .ref C, dict := some d, data := .fields #[.ref t1, .none, .none, .none, .bool false, .none] } C (some od) := ⟨hobj, rfl, rfl, hod⟩
  exact PySem.PX.exc_get J.kIn inst T.ga T.gt T.sub (PySem.W.findObj_own T.dct hno rfl (by rw [look, hu])) (handed_of ru) ⟨v, H1, J.tok _, ru, q⟩
end
end Hx

namespace K8
open PySem PySem.Spec PyProof.Rows L2 Hx
def top (i : Nat) : Stmt := PySem.Challenge.pw_wovenplaces_k08_errors_and_limits.main.body.getD i (.Pass ⟨0, 0, 0, 0⟩)
abbrev sDeck : Stmt := top 36
abbrev sCard : Stmt := top 37
abbrev sOf : Stmt := top 38

/-- a deck: a list of three ints at d, the first two not negative -/
def DeckAt (H : Hp) (d : Addr) : Prop := ∃ a m c : Int, 0 ≤ a ∧ 0 ≤ m ∧ H d = some (.lst [.int a, .int m, .int c])
def spDeck (K : PySem.W.Frag) : Sp := fun vs H Q _ => ∃ (a : Addr) (ns : List Int) (t : Nat), vs = [.ref a, .int t] ∧
  SqL K H a (ns.map V.int) ∧ ns.length ≤ 63 ∧ ∀ p H', Same H H' → H p = none → DeckAt H' p → Q (.ref p) H'
section
variable {P : Program} {w : World} {K : PySem.W.Frag} {mg : Str → Option Value} {base : Heap}
theorem scDeck : FnScope ["_law_cells", "_law_turn", "_law_cell", "_law_mixed", "_law_each"] ["_law_cells", "_law_turn"] (defScope sDeck) :=
  ⟨rfl, rfl, rfl, by decide +kernel, rfl, by decide +kernel, by decide +kernel⟩
theorem ok_deck {f : Addr} {fd : FuncData} (F : Fun K "_law_deck" "_law_deck" sDeck f fd) (ml : mg "len" = none) (mi : mg "int" = none)
    (ma : mg "abs" = none) : FnOk P w K mg base CX0 1 f fd ["_law_cells", "_law_turn"] (spDeck K) := by
  refine F.ok scDeck (fun vs H Q E h => ?_) (fun cdv A outer s H vs Q E hr h => ?_)
  · obtain ⟨a, ns, t, rfl, _⟩ := h
    rfl
  obtain ⟨a, ns, t, rfl, hS, h63, q⟩ := h
  refine ⟨_, pss_cons (ps_set (i := 2) scDeck.nd rfl (Or.inl rfl)
      (pe_ifExp (pt_cmpR op_lt (pv 1) (pe_callB call_len_seq (by rfl) ml PySem.boot_len (pa_cons (pv 0) pa_nil)) (nomark _))
        (pe_ix ix_list (pv 0) (pv 1) (fun _ _ => rfl)) (pe_op op_add (pe_op op_mul pe_int (pv 1)) pe_int)))
    (pss_cons (ps_set (i := 3) scDeck.nd rfl (Or.inl rfl) (pe_op op_add pe_int (pe_op op_mul pe_int (pv 1))))
    (pss_cons (ps_for PassesOwn.never rfl (pi_list (pe_op op_cat (pe_slice sl_list (pv 0) po_none (po_some pe_int)) (pe_lst (pa_cons (pv 2) pa_nil))))
        (pg_name (i := 4) scDeck.nd rfl (Or.inl rfl))
        (pss_one (ps_set (i := 3) scDeck.nd rfl (Or.inl rfl)
          (pe_op op_mod (pe_callTy call_int1 (by rfl) mi PyProof.Rows.boot_int (pa_cons (pe_op op_add (pe_op op_mul (pv 3) pe_int) (pv 4)) pa_nil)) pe_int))))
    (pss_one (ps_ret (pe_lst (pa_cons
        (pe_ifExp (PW.pt (pw_or (pt_cmpR op_lt (pv 2) pe_int (nomark _)) (pw_or1 (pt_cmpR op_ge (pv 2) (pe_op op_pow pe_int pe_int) (nomark _)))))
          (pe_callB call_abs (by rfl) ma PyProof.Rows.boot_abs (pa_cons (pv 2) pa_nil)) pe_int)
        (pa_cons (pv 3) (pa_cons pe_int pa_nil)))))))), ?_⟩
  have hl : (ns.map V.int).length = ns.length := List.length_map _
  refine asg_join (fun v H' => H = H' ∧ ∃ c : Int, v = .int c) (fun Q' hQ => ?_) ?_
  · refine ⟨_, rfl, _, rfl, a, _, rfl, .inl hS, _, _, rfl, rfl, _, rfl, ?_⟩
    refine ite2 (fun c => ?_) (fun c => ?_)
    · have c' : (t : Int) < (((ns.map V.int).length : Nat) : Int) := of_decide_eq_true c
      have hlt : t < ns.length := by rw [hl] at c'; omega
      refine ⟨_, rfl, _, rfl, a, _, _, _, rfl, rfl, hS, atI_nat (j := t) (v := V.int ns[t]) ?_, hQ _ _ ⟨rfl, _, rfl⟩⟩
      rw [List.getElem?_map, List.getElem?_eq_getElem hlt]
      rfl
    · exact ⟨_, rfl, _, _, rfl, rfl, .inl ⟨by decide, by decide⟩, _, _, rfl, rfl, hQ _ _ ⟨rfl, _, rfl⟩⟩
  rintro _ _ ⟨rfl, c, rfl⟩
  refine ⟨_, rfl, _, _, rfl, rfl, .inl ⟨by decide, by decide⟩, _, _, rfl, rfl, ?_⟩
  refine ⟨_, rfl, _, rfl, a, _, rfl, hS, fun l hl0 => ?_⟩
  refine ⟨_, rfl, (by show 1 ≤ sizeLine; decide), fun l2 hl2 => ?_⟩
  have hcut := cutV_length (ns.map V.int) none (some 4)
  have allInt : ∀ x ∈ cutV (ns.map V.int) none (some 4) ++ [V.int c], ∃ i, x = V.int i := by
    intro x hx
    rcases List.mem_append.mp hx with hx | hx
    · have hx2 : x ∈ ns.map V.int := List.mem_of_mem_drop (List.mem_of_mem_take hx)
      obtain ⟨i, _, rfl⟩ := List.mem_map.mp hx2
      exact ⟨i, rfl⟩
    · exact ⟨c, by simpa using hx⟩
  refine ⟨l, l2, _, _, rfl, rfl, upd_other upd_same hl2, upd_same, small_line ?_, fun l3 hl3 => ?_⟩
  · rw [List.length_singleton]
    omega
  have s3 : Same H (upd (upd (upd H l (.lst (cutV (ns.map V.int) none (some 4)))) l2 (.lst [V.int c])) l3 (.lst (cutV (ns.map V.int) none (some 4) ++ [V.int c]))) :=
    ((same_new hl0 _).trans (same_new hl2 _)).trans (same_new hl3 _)
  refine ⟨l3, rfl, ⟨_, SqL.of upd_same⟩, for_list (K := K) (a := l3) (xs := cutV (ns.map V.int) none (some 4) ++ [V.int c])
    (fun _ σ H' => Same H H' ∧ H' l3 = some (.lst (cutV (ns.map V.int) none (some 4) ++ [V.int c])) ∧
      ∃ (m : Int) (v : Option V), 0 ≤ m ∧ σ = [some (.ref a), some (.int t), some (.int c), some (.int m), v])
    ⟨s3, upd_same, _, none, ?_, rfl⟩ (fun _ _ _ _ h => SqL.of h.2.1) ?_ ?_⟩
  · omega
  · rintro i x σ H' hx ⟨s4, h4, m, v, hm, rfl⟩
    obtain ⟨n, rfl⟩ := allInt x (List.mem_of_getElem? hx)
    refine ⟨_, rfl, _, _, rfl, rfl, .inr ⟨by decide, by decide⟩, _, rfl, _, _, rfl, rfl, .inl ⟨_, rfl, ?_⟩⟩
    exact ⟨_, _, rfl, rfl, (by decide : (0 : Int) < 2147483629), s4, h4, _, some (.int n), Int.emod_nonneg _ (by decide), rfl⟩
  · rintro σ H' ⟨s4, h4, m, v, hm, rfl⟩
    dsimp only
    refine ret_lst_join (fun v H2 => H' = H2 ∧ ∃ b : Int, 0 ≤ b ∧ v = .int b) (fun Q' hQ => ?_) ?_
    · refine ⟨_, rfl, _, _, rfl, rfl, _, rfl, ?_⟩
      refine ite2 (fun c0 => ?_) (fun c0 => ?_)
      · refine iteT ⟨_, rfl, _, rfl, hQ _ _ ⟨rfl, _, ?_, rfl⟩⟩
        split <;> omega
      · refine ⟨_, rfl, _, _, rfl, rfl, ⟨by decide, by decide, by decide⟩, _, _, rfl, rfl, _, rfl, ?_⟩
        refine ite2 (fun c1 => ?_) (fun c1 => ?_)
        · refine ⟨_, rfl, _, rfl, hQ _ _ ⟨rfl, _, ?_, rfl⟩⟩
          split <;> omega
        · exact hQ _ _ ⟨rfl, 0, Int.le_refl 0, rfl⟩
    rintro _ _ ⟨rfl, b, hb, rfl⟩
    refine ⟨_, rfl, (by show 3 ≤ sizeLine; decide), fun p hp => ?_⟩
    exact q p _ (s4.trans (same_new hp _)) (s4.free hp) ⟨b, m, 0, hb, hm, upd_same⟩
def spCard : Sp := fun vs H Q _ => ∃ (d : Addr) (t : Int), vs = [.ref d, .int t] ∧ 0 < t ∧ t < 1073741824 ∧ DeckAt H d ∧
  ∀ r H', 0 ≤ r → r < t → But d H H' → DeckAt H' d → Q (.int r) H'
theorem scCard : FnScope ["_law_deck_here", "_law_top", "_law_figure"] ["_law_deck_here", "_law_top"] (defScope sCard) :=
  ⟨rfl, rfl, rfl, by decide +kernel, rfl, by decide +kernel, by decide +kernel⟩
theorem ok_card {f : Addr} {fd : FuncData} (F : Fun K "_law_card" "_law_card" sCard f fd) (mi : mg "int" = none) (md : mg "divmod" = none) :
    FnOk P w K mg base CX0 1 f fd ["_law_deck_here", "_law_top"] spCard := by
  refine F.ok scCard (fun vs H Q E h => ?_) (fun cdv A outer s H vs Q E hr h => ?_)
  · obtain ⟨d, t, rfl, _⟩ := h
    rfl
  obtain ⟨d, t, rfl, t0, t1, ⟨a, m, c, a0, m0, hd⟩, q⟩ := h
  refine ⟨_, pss_cons (ps_asg (pe_op op_add (pe_ix ix_list (pv 0) pe_int (fun _ _ => rfl)) pe_int) (pg_sub (pv 0) pe_int set_list))
    (pss_cons (ps_if (pt_cmpR op_gt (pe_ix ix_list (pv 0) pe_int (fun _ _ => rfl)) pe_int (nomark _))
      (pss_cons (ps_asg (pe_callB call_divmod (by rfl) md PyProof.Rows.boot_divmod (pa_cons (pe_ix ix_list (pv 0) pe_int (fun _ _ => rfl)) (pa_cons (pv 1) pa_nil)))
          (pg_tup (by rfl) (pgs_cons (pg_sub (pv 0) pe_int set_list) (pgs_cons (pg_name (i := 2) scCard.nd rfl (Or.inl rfl)) pgs_nil))))
        (pss_one (ps_ret (pv 2)))) pss_nil)
    (pss_cons (ps_asg (pe_op op_mod (pe_callTy call_int1 (by rfl) mi PyProof.Rows.boot_int (pa_cons
        (pe_op op_add (pe_op op_mul (pe_ix ix_list (pv 0) pe_int (fun _ _ => rfl)) pe_int) (pe_op op_mul pe_int (pe_ix ix_list (pv 0) pe_int (fun _ _ => rfl)))) pa_nil)) pe_int)
        (pg_sub (pv 0) pe_int set_list))
    (pss_one (ps_ret (pe_op op_mod (pe_callTy call_int1 (by rfl) mi PyProof.Rows.boot_int (pa_cons
        (pe_op op_fdiv (pe_ix ix_list (pv 0) pe_int (fun _ _ => rfl)) pe_int) pa_nil)) (pv 1)))))), ?_⟩
  refine ⟨_, rfl, d, _, _, _, rfl, rfl, SqL.of hd, rfl, _, _, rfl, rfl, _, rfl, d, _, _, _, rfl, rfl, hd, rfl, ?_⟩
  refine ⟨_, rfl, d, _, _, _, rfl, rfl, SqL.of upd_same, rfl, _, _, rfl, rfl, _, rfl, ?_⟩
  refine ite2 (fun c0 => ?_) (fun c0 => ?_)
  · refine ⟨_, rfl, d, _, _, _, rfl, rfl, SqL.of upd_same, rfl, _, rfl, _, _, rfl, ⟨t0, t1⟩, fun p hp => ?_⟩
    have npd : d ≠ p := ne_of_none upd_same hp
    refine ⟨p, _, rfl, SqT.of upd_same, rfl, _, _, rfl, ?_⟩
    refine ⟨_, rfl, d, _, _, _, rfl, rfl, by rw [upd_ne npd]; exact upd_same, rfl, ?_⟩
    refine ⟨_, _, rfl, rfl, _, rfl, ?_⟩
    refine q _ _ (Int.emod_nonneg _ (by omega)) (Int.emod_lt_of_pos _ t0) (((But.refl.upd _).new hp _).upd _) ⟨_, _, _, ?_, m0, upd_same⟩
    exact Int.ediv_nonneg a0 (by omega)
  · refine ⟨_, rfl, d, _, _, _, rfl, rfl, SqL.of upd_same, rfl, _, _, rfl, rfl, .inr ⟨by decide, by decide⟩, ?_⟩
    refine ⟨_, rfl, d, _, _, _, rfl, rfl, SqL.of upd_same, rfl, _, _, rfl, rfl, .inl ⟨by decide, by decide⟩, _, _, rfl, rfl, .inl ⟨_, rfl, ?_⟩⟩
    refine ⟨_, _, rfl, rfl, (by decide : (0 : Int) < 2147483629), ?_⟩
    refine ⟨_, rfl, d, _, _, _, rfl, rfl, upd_same, rfl, ?_⟩
    refine ⟨_, rfl, d, _, _, _, rfl, rfl, SqL.of upd_same, rfl, _, _, rfl, rfl, ⟨by decide, by decide⟩, .inl ⟨_, rfl, ?_⟩⟩
    refine ⟨_, rfl, _, _, rfl, rfl, t0, ?_⟩
    refine q _ _ (Int.emod_nonneg _ (by omega)) (Int.emod_lt_of_pos _ t0) ((But.refl.upd _).upd _) ⟨_, _, _, a0, Int.emod_nonneg _ (by decide), upd_same⟩
/-- _law_of, over a list -/
def spOf (K : PySem.W.Frag) : Sp := fun vs H Q _ => ∃ (d l : Addr) (xs : List V), vs = [.ref d, .ref l] ∧ d ≠ l ∧ SqL K H l xs ∧ 0 < xs.length ∧ xs.length ≤ 1000 ∧ DeckAt H d ∧
  ∀ v H', v ∈ xs → But d H H' → DeckAt H' d → Q v H'
theorem scOf : FnScope ["_law_deck_here", "_law_menu"] ["_law_deck_here", "_law_menu"] (defScope sOf) :=
  ⟨rfl, rfl, rfl, by decide +kernel, rfl, by decide +kernel, by decide +kernel⟩
theorem ok_of {f fC : Addr} {fd fdC : FuncData} (F : Fun K "_law_of" "_law_of" sOf f fd)
    (GC : FnOk P w K mg base CX0 1 fC fdC ["_law_deck_here", "_law_top"] spCard) (bC : Binds K fdC ["_law_deck_here", "_law_top"] [])
    (kC : PySem.W.keepIn K (.ref fC) = true) (mC : mg "_law_card" = some (.ref fC)) (ml : mg "len" = none) :
    FnOk P w K mg base CX0 2 f fd ["_law_deck_here", "_law_menu"] (spOf K) := by
  refine F.ok scOf (fun vs H Q E h => ?_) (fun cdv A outer s H vs Q E hr h => ?_)
  · obtain ⟨d, l, xs, rfl, _⟩ := h
    rfl
  obtain ⟨d, l, xs, rfl, ndl, hl, l0, l1, hd, q⟩ := h
  refine ⟨_, pss_one (ps_ret (pe_ix ix_list (pv 1) (pe_call GC hr rfl mC kC bC .nil pass0 (pa_cons (pv 0) (pa_cons
    (pe_callB call_len_seq (by rfl) ml PySem.boot_len (pa_cons (pv 1) pa_nil)) pa_nil))) (fun _ _ => rfl))), ?_⟩
  refine ⟨_, rfl, _, rfl, _, rfl, l, _, rfl, .inl hl, d, _, rfl, by omega, by omega, hd, fun r H' r0 r1 b hd' => ?_⟩
  obtain ⟨v, hv, ev⟩ := atI_in r0 r1
  exact ⟨l, _, _, _, rfl, rfl, b.seq (Ne.symm ndl) hl, ev, q v H' hv b hd'⟩
end
end K8

namespace K8
open PySem PySem.Spec PyProof.Rows L2 Hx
abbrev sLaw : Stmt := top 44
def spRight : Sp := fun vs H Q _ => ∃ d, vs = [.ref d] ∧ DeckAt H d ∧ ∀ H', But d H H' → Q (.bl true) H'
def spLaw (K : PySem.W.Frag) : Sp := fun vs H Q _ => ∃ (a : Addr) (ns : List Int), vs = [.ref a] ∧ SqL K H a (ns.map V.int) ∧ ns.length ≤ 63 ∧ ∀ H', Q (.bl true) H'
theorem scLaw : FnScope ["_law_cells", "_law_sizes", "_law_turn"] ["_law_cells"] (defScope sLaw) :=
  ⟨rfl, rfl, rfl, by decide +kernel, rfl, by decide +kernel, by decide +kernel⟩
/-- the module's ten numbers -/
structure Limits (mg : Str → Option Value) : Prop where
  base : ∃ t, mg "MOST_BASE" = some (.int 4 t)
  signs : ∃ t, mg "MOST_SIGNS" = some (.int 4 t)
  handed : ∃ t, mg "MOST_HANDED" = some (.int 3 t)
  rows : ∃ t, mg "MOST_ROWS" = some (.int 4 t)
  knots : ∃ t, mg "MOST_KNOTS" = some (.int 8 t)
  parts : ∃ t, mg "MOST_PARTS" = some (.int 3 t)
  drop : ∃ t, mg "MOST_DROP" = some (.int 9 t)
  exch : ∃ t, mg "MOST_EXCHANGES" = some (.int 6 t)
  member : ∃ t, mg "MOST_MEMBER" = some (.int 1000 t)
  step : ∃ t, mg "MOST_STEP" = some (.int 12 t)
/-- the built-ins that the law calls -/
structure Free (mg : Str → Option Value) : Prop where
  len : mg "len" = none
  int : mg "int" = none
  abs : mg "abs" = none
  divmod : mg "divmod" = none
  repr : mg "repr" = none
  all : mg "all" = none
  range : mg "range" = none
  max : mg "max" = none
  min : mg "min" = none
  isinstance : mg "isinstance" = none
section
variable {P : Program} {w : World} {K : PySem.W.Frag} {mg : Str → Option Value} {base : Heap}
def limD : PyData := .list [.int 4, .int 4, .int 3, .int 4, .int 8, .int 3, .int 9, .int 6, .int 1000, .int 12]
theorem limSmall : Small limD := ⟨by decide +kernel, by decide +kernel, by decide +kernel⟩
theorem ok_law {k : Nat} {f fD fR : Addr} {fd fdD fdR : FuncData} (F : Fun K "law" "law" sLaw f fd) (M : Mods base) (L : Limits mg) (B : Free mg)
    (GD : FnOk P w K mg base CX0 1 fD fdD ["_law_cells", "_law_turn"] (spDeck K)) (bD : Binds K fdD ["_law_cells", "_law_turn"] [])
    (kD : PySem.W.keepIn K (.ref fD) = true) (mD : mg "_law_deck" = some (.ref fD)) (hk : 1 ≤ k)
    (GR : GOk P w K mg base CX0 k fR fdR ["_law_deck_here"] spRight) (bR : Binds K fdR ["_law_deck_here"] [])
    (kR : PySem.W.keepIn K (.ref fR) = true) (mR : mg "_law_right" = some (.ref fR)) :
    GOk P w K mg base CX0 (k + 1) f fd ["_law_cells"] (spLaw K) := by
  refine gok0 F scLaw (fun vs H Q E h => ?_) (fun cdv A outer s H vs Q E hr gd h => ?_)
  · obtain ⟨a, ns, rfl, _⟩ := h
    rfl
  obtain ⟨a, ns, rfl, hS, h63, q⟩ := h
  obtain ⟨⟨t1, m1⟩, ⟨t2, m2⟩, ⟨t3, m3⟩, ⟨t4, m4⟩, ⟨t5, m5⟩, ⟨t6, m6⟩, ⟨t7, m7⟩, ⟨t8, m8⟩, ⟨t9, m9⟩, ⟨t10, m10⟩⟩ := L
  refine ⟨_, pss_cons (ps_set (i := 1) scLaw.nd rfl (Or.inl rfl) (pe_lst (pa_cons (pe_gint rfl m1) (pa_cons (pe_gint rfl m2)
      (pa_cons (pe_gint rfl m3) (pa_cons (pe_gint rfl m4) (pa_cons (pe_gint rfl m5) (pa_cons (pe_gint rfl m6)
      (pa_cons (pe_gint rfl m7) pa_nil)))))))))
    (pss_cons (ps_if (pt_cmpR op_ne
        (pe_callB (call_reprD gd hr.units M) (by rfl) B.repr PyProof.Rows.boot_repr (pa_cons (pe_op op_cat (pv 1)
          (pe_lst (pa_cons (pe_gint rfl m8) (pa_cons (pe_gint rfl m9) (pa_cons (pe_gint rfl m10) pa_nil))))) pa_nil))
        (pe_callB (call_reprD gd hr.units M) (by rfl) B.repr PyProof.Rows.boot_repr (pa_cons (pe_lst (pa_cons pe_int (pa_cons pe_int (pa_cons pe_int
          (pa_cons pe_int (pa_cons pe_int (pa_cons pe_int (pa_cons pe_int (pa_cons pe_int (pa_cons pe_int (pa_cons pe_int pa_nil))))))))))) pa_nil)) (nomark _))
      (pss_one (ps_ret pe_bl)) pss_nil)
    (pss_one (ps_ret (pe_callB (cr_all rfl) (by rfl) B.all PyProof.Rows.boot_all (pa_cons
      (pe_lc (own := [("_law_turn", 2)]) (g := gName 2) (tt := tYes) rfl scLaw.nd
        (pi_range1 rfl B.range (pa_cons (pe_callB (call_max2 rfl) (by rfl) B.max PyProof.Rows.boot_max (pa_cons pe_int (pa_cons
          (pe_callB (call_min2 rfl) (by rfl) B.min PyProof.Rows.boot_min (pa_cons (pe_callB call_len_seq (by rfl) B.len PySem.boot_len (pa_cons (pv 0) pa_nil)) (pa_cons pe_int pa_nil))) pa_nil))) pa_nil))
        (blkOk_by (N := ["_law_cells", "_law_sizes", "_law_turn"]) (sc := defScope sLaw) (by decide +kernel))
        (fun _ _ _ _ _ => pg_name (i := 2) scLaw.nd rfl (Or.inl rfl)) (fun _ _ _ _ _ => pts_nil)
        (fun _ _ _ _ _ => pe_callG GR hr gd rfl mR kR bR .nil pass0 (pa_cons (pe_call GD (hr.mono hk) rfl mD kD bD .nil pass0 (pa_cons (pv 0) (pa_cons (pv 2) pa_nil))) pa_nil))) pa_nil))))), ?_⟩
  refine ⟨(by show 7 ≤ sizeLine; decide), fun p1 n1 => ?_⟩
  refine ⟨_, rfl, (by show 3 ≤ sizeLine; decide), fun p2 n2 => ?_⟩
  refine ⟨p1, p2, _, _, rfl, rfl, upd_other upd_same n2, upd_same, (by show 7 + 3 ≤ sizeLine; decide), fun p3 n3 => ?_⟩
  have s3 := ((same_new n1 (.lst [V.int 4, .int 4, .int 3, .int 4, .int 8, .int 3, .int 9])).trans (same_new n2 (.lst [V.int 6, .int 1000, .int 12]))).trans (same_new n3 (.lst ([V.int 4, .int 4, .int 3, .int 4, .int 8, .int 3, .int 9] ++ [V.int 6, .int 1000, .int 12])))
  refine ⟨_, limD, rfl, .lst upd_same (.cons (.int _) (.cons (.int _) (.cons (.int _) (.cons (.int _) (.cons (.int _) (.cons (.int _) (.cons (.int _) (.cons (.int _) (.cons (.int _) (.cons (.int _) .nil)))))))))), limSmall, ?_⟩
  refine ⟨(by show 10 ≤ sizeLine; decide), fun p4 n4 => ?_⟩
  refine ⟨_, limD, rfl, .lst upd_same (.cons (.int _) (.cons (.int _) (.cons (.int _) (.cons (.int _) (.cons (.int _) (.cons (.int _) (.cons (.int _) (.cons (.int _) (.cons (.int _) (.cons (.int _) .nil)))))))))), limSmall, ?_⟩
  have s4 := s3.trans (same_new n4 (.lst [V.int 4, .int 4, .int 3, .int 4, .int 8, .int 3, .int 9, .int 6, .int 1000, .int 12]))
  refine ⟨rfl, _, rfl, ?_⟩
  refine iteNS rfl ?_
  have hl : (ns.map V.int).length = ns.length := List.length_map _
  refine ⟨_, rfl, a, _, rfl, .inl (s4.seq hS), _, _, rfl, _, _, rfl, ?_⟩
  generalize hnum : (if (if (6 : Int) < (((ns.map V.int).length : Nat) : Int) then (6 : Int) else (((ns.map V.int).length : Nat) : Int)) > 2 then (if (6 : Int) < (((ns.map V.int).length : Nat) : Int) then (6 : Int) else (((ns.map V.int).length : Nat) : Int)) else 2) = z
  have hz : 2 ≤ z ∧ z ≤ 6 := by
    rw [← hnum]
    split <;> split <;> omega
  refine ⟨z, rfl, by omega, by omega, fun D hD => ?_⟩
  refine lc_range (lo := 0) (n := z.toNat) (fun i H' => Same H H' ∧ H' D = some (.lst ((List.replicate i true).map V.bl))) ⟨s4.trans (same_new hD _), upd_same⟩ ?_ ?_
  · rintro i H' hi ⟨s5, h5⟩
    refine ⟨rfl, turn_yes ?_⟩
    refine ⟨_, rfl, _, by show _ = some (some (V.int ((i : Nat) : Int))); rw [Int.zero_add]; rfl, ?_⟩
    refine ⟨a, ns, i, rfl, s5.seq hS, h63, fun p H2 s6 np dk => ?_⟩
    refine ⟨p, rfl, dk, fun H3 b => ?_⟩
    have npD : D ≠ p := ne_of_none h5 np
    refine ⟨_, b _ _ npD (s6 _ _ h5), ?_, ?_, ?_⟩
    · rw [List.length_map, List.length_replicate]
      exact Nat.lt_of_lt_of_le (by omega : i < 1000) (small_line (Nat.le_refl _))
    · intro c o hc
      have nD : c ≠ D := ne_of_none hc (s4.free hD)
      rw [upd_ne nD]
      exact b c o (ne_of_none (s5 c o hc) np) (s6 c o (s5 c o hc))
    · rw [upd_same, List.replicate_succ', List.map_append]
      rfl
  · rintro H' ⟨s5, h5⟩
    refine ⟨D, List.replicate z.toNat true, rfl, SqL.of h5, ?_⟩
    have e : (List.replicate z.toNat true).all id = true := by
      rw [List.all_eq_true]
      intro x hx
      exact (List.eq_of_mem_replicate hx)
    rw [e]
    exact q H'
end
end K8

namespace K8
open PySem PySem.Spec PyProof.Rows L2 Hx
abbrev sMarks : Stmt := top 39
abbrev sDue : Stmt := top 40
/-- the base's number of an own class, and whether the i-th class of the law is one of its bases -/
def baseOf (own : Nat) : Nat := if own < 20 then 0 else if own < 22 then 1 else 2
def dueB (base own i : Nat) : Bool := i == base || i == base + 3 || i == own
def dueL (base own : Nat) : List Bool := (List.range 27).map (dueB base own)
def cvOf (c : Nat → Addr) (i : Nat) : Value := if i = 3 then .type "ValueError" else if i = 4 then .type "LookupError" else if i = 5 then .type "ArithmeticError" else .ref (c i)
structure ClsTxt (mg : Str → Option Value) (c : Nat → Addr) : Prop where
  m0 : mg "WrongValue" = some (.ref (c 0))
  m1 : mg "WrongState" = some (.ref (c 1))
  m2 : mg "NoAnswer" = some (.ref (c 2))
  m3 : mg "ValueError" = none
  m4 : mg "LookupError" = none
  m5 : mg "ArithmeticError" = none
  m6 : mg "InvalidNumber" = some (.ref (c 6))
  m7 : mg "InvalidName" = some (.ref (c 7))
  m8 : mg "InvalidSign" = some (.ref (c 8))
  m9 : mg "InvalidWord" = some (.ref (c 9))
  m10 : mg "InvalidText" = some (.ref (c 10))
  m11 : mg "InvalidExpression" = some (.ref (c 11))
  m12 : mg "InvalidWish" = some (.ref (c 12))
  m13 : mg "InvalidRounds" = some (.ref (c 13))
  m14 : mg "NotABook" = some (.ref (c 14))
  m15 : mg "NotPlaces" = some (.ref (c 15))
  m16 : mg "InvalidHanded" = some (.ref (c 16))
  m17 : mg "InvalidRows" = some (.ref (c 17))
  m18 : mg "InvalidExchanges" = some (.ref (c 18))
  m19 : mg "InvalidWishes" = some (.ref (c 19))
  m20 : mg "UnknownName" = some (.ref (c 20))
  m21 : mg "NothingToUndo" = some (.ref (c 21))
  m22 : mg "OpenRing" = some (.ref (c 22))
  m23 : mg "PartRing" = some (.ref (c 23))
  m24 : mg "TooManyParts" = some (.ref (c 24))
  m25 : mg "NotKept" = some (.ref (c 25))
  m26 : mg "Broken" = some (.ref (c 26))
def Marks (K : PySem.W.Frag) (c : Nat → Addr) : Prop := ∀ own i, 6 ≤ own → own < 27 → i < 27 → PySem.W.kitOne K (.ref (c own)) (cvOf c i) = some (dueB (baseOf own) own i)
def Excs (K : PySem.W.Frag) (c : Nat → Addr) : Prop := ∀ own, 6 ≤ own → own < 27 → ∃ B newId initId bmB, ExK K (c own) B newId initId bmB
/-- _law_due -/
def spDue : Sp := fun vs H Q _ => ∃ base own : Nat, vs = [.int base, .int own] ∧ ∀ p H', Same H H' → H p = none → H' p = some (.lst ((dueL base own).map V.bl)) → Q (.ref p) H'
def spMarks (c : Nat → Addr) : Sp := fun vs H Q _ => ∃ (a : Addr) (own : Nat), vs = [.ref a] ∧ 6 ≤ own ∧ own < 27 ∧ XAt H a (c own) ∧
  ∀ p H', Same H H' → H p = none → H' p = some (.lst ((dueL (baseOf own) own).map V.bl)) → Q (.ref p) H'
theorem eqV_int (a b : Int) : eqV (.int a) (.int b) = (a == b) := rfl
theorem due_is (base own i : Nat) : inV (.int (i : Nat)) [.int (base : Nat), .int ((base : Nat) + 3), .int (own : Nat)] = dueB base own i := by
  unfold inV dueB
  simp only [List.any_cons, List.any_nil, eqV_int, Bool.or_false]
  have e1 : ((base : Int) == (i : Int)) = (i == base) := by
    rw [Bool.eq_iff_iff, beq_iff_eq, beq_iff_eq]
    omega
  have e2 : ((base : Int) + 3 == (i : Int)) = (i == base + 3) := by
    rw [Bool.eq_iff_iff, beq_iff_eq, beq_iff_eq]
    omega
  have e3 : ((own : Int) == (i : Int)) = (i == own) := by
    rw [Bool.eq_iff_iff, beq_iff_eq, beq_iff_eq]
    omega
  rw [e1, e2, e3, Bool.or_assoc]
theorem dq_bools {H : Hp} : ∀ {xs : List V} {bs : List Bool}, DqAll H xs (bs.map PyData.bool) → xs = bs.map V.bl
  | _, [], h => by cases h; rfl
  | _, b :: bs, h => by
    cases h with
    | cons h1 h2 =>
      cases h1
      rw [dq_bools h2]
      rfl
theorem bools_dq {H : Hp} : ∀ bs : List Bool, DqAll H (bs.map V.bl) (bs.map PyData.bool)
  | [] => .nil
  | b :: bs => .cons (.bl b) (bools_dq bs)
section
variable {P : Program} {w : World} {K : PySem.W.Frag} {mg : Str → Option Value} {base : Heap}
theorem scDue : FnScope ["_law_base", "_law_own", "_law_k"] ["_law_base", "_law_own"] (defScope sDue) :=
  ⟨rfl, rfl, rfl, by decide +kernel, rfl, by decide +kernel, by decide +kernel⟩
theorem ok_due {f : Addr} {fd : FuncData} (F : Fun K "_law_due" "_law_due" sDue f fd) (B : Free mg) :
    FnOk P w K mg base CX0 1 f fd ["_law_base", "_law_own"] spDue := by
  refine F.ok scDue (fun vs H Q E h => ?_) (fun cdv A outer s H vs Q E hr h => ?_)
  · obtain ⟨b, o, rfl, _⟩ := h
    rfl
  obtain ⟨b, o, rfl, q⟩ := h
  refine ⟨_, pss_one (ps_ret (pe_lc (own := [("_law_k", 2)]) (g := gName 2) (tt := tYes) rfl scDue.nd (pi_range1 rfl B.range (pa_cons pe_int pa_nil))
    (blkOk_by (N := ["_law_base", "_law_own", "_law_k"]) (sc := defScope sDue) (by decide +kernel)) (fun _ _ _ _ _ => pg_name (i := 2) scDue.nd rfl (Or.inl rfl)) (fun _ _ _ _ _ => pts_nil)
    (fun _ _ _ _ _ => pe_cmpR (r := rIn K false) op_in_seq (pv 2) (pe_lst (pa_cons (pv 0) (pa_cons (pe_op op_add (pv 0) pe_int) (pa_cons (pv 1) pa_nil)))) (by rfl)))), ?_⟩
  refine ⟨27, rfl, by decide, by decide, fun D hD => ?_⟩
  refine lc_data_range (n := 27) (fun i => .bool (dueB b o i)) hD (by decide) (fun _ => rfl) ?_ ?_
  · intro i H' hi s1 Q' hQ
    refine ⟨_, rfl, _, rfl, _, rfl, _, _, rfl, rfl, _, rfl, (by show 3 ≤ sizeLine; decide), fun p hp => ?_⟩
    refine ⟨p, _, rfl, .inl (SqL.of upd_same), rfl, rfl, hQ _ _ (same_new hp _) ?_⟩
    have e := due_is b o i
    show Dq _ (V.bl (if false = true then !inV (V.int (i : Nat)) [V.int (b : Nat), V.int ((b : Nat) + 3), V.int (o : Nat)] else inV (V.int (i : Nat)) [V.int (b : Nat), V.int ((b : Nat) + 3), V.int (o : Nat)])) _
    rw [if_neg Bool.false_ne_true, e]
    exact .bl _
  · intro H' xs s1 hx ha
    have e : (List.range 27).map (fun i => PyData.bool (dueB b o i)) = (dueL b o).map PyData.bool := by
      unfold dueL
      rw [List.map_map]
      rfl
    rw [e] at ha
    have ex := dq_bools ha
    subst ex
    exact q D H' s1 hD hx
theorem scMarks : FnScope ["_law_e", "_law_marks_here"] ["_law_e"] (defScope sMarks) :=
  ⟨rfl, rfl, rfl, by decide +kernel, rfl, by decide +kernel, by decide +kernel⟩
theorem three {a C : Addr} {b1 b2 b3 : Bool} {σ : L2.St} {H : Hp} {Q : VK} (h0 : σ[0]? = some (some (.ref a))) (hx : XAt H a C)
    (q : ∀ p, H p = none → Q (.ref p) (upd H p (.lst [.bl b1, .bl b2, .bl b3]))) : tLst (tCons (tIs 0 a C b1) (tCons (tIs 0 a C b2) (tCons (tIs 0 a C b3) tNil))) σ H Q :=
  ⟨h0, hx, h0, hx, h0, hx, (by show 3 ≤ sizeLine; decide), q⟩
theorem three_more {a C p : Addr} {xs : List V} {b1 b2 b3 : Bool} {σ : L2.St} {H : Hp} {Q : VK} (h0 : σ[0]? = some (some (.ref a))) (h1 : σ[1]? = some (some (.ref p))) (hx : XAt H a C)
    (hp : H p = some (.lst xs)) (few : xs.length ≤ 100) (q : ∀ p' H', Same H H' → H' p' = some (.lst (xs ++ [.bl b1, .bl b2, .bl b3])) → H p' = none → Q (.ref p') H') :
    tOp rCat (tVar 1) (tLst (tCons (tIs 0 a C b1) (tCons (tIs 0 a C b2) (tCons (tIs 0 a C b3) tNil)))) σ H Q := by
  refine ⟨_, h1, three h0 hx fun p2 n2 => ?_⟩
  refine ⟨p, p2, _, _, rfl, rfl, upd_other hp n2, upd_same, ?_, fun p3 n3 => ?_⟩
  · show xs.length + 3 ≤ sizeLine
    exact small_line (by omega)
  · exact q p3 _ ((same_new n2 _).trans (same_new n3 _)) upd_same ((same_new n2 _).free n3)

theorem ok_marks {c : Nat → Addr} {f : Addr} {fd : FuncData} (F : Fun K "_law_marks" "_law_marks" sMarks f fd) (B : Free mg) (T : ClsTxt mg c) (MK : Marks K c) (EX : Excs K c) :
    FnOk P w K mg base CX0 1 f fd ["_law_e"] (spMarks c) := by
  refine F.ok scMarks (fun vs H Q E h => ?_) (fun cdv A outer s H vs Q E hr h => ?_)
  · obtain ⟨a, o, rfl, _⟩ := h
    rfl
  obtain ⟨a, o, rfl, h6, h27, hx, q⟩ := h
  obtain ⟨_, _, _, _, X⟩ := EX o h6 h27
  have hk : ∀ i, i < 27 → PySem.W.kitOne K (.ref (c o)) (cvOf c i) = some (dueB (baseOf o) o i) := fun i => MK o i h6 h27
  refine ⟨_, pss_cons (ps_set (i := 1) scMarks.nd rfl (Or.inl rfl) (pe_lst (pa_cons (pe_is (a := a) (i := 0) X rfl B.isinstance (pv 0) (pe_gref rfl T.m0) (.own (c 0)) (hk 0 (by decide)))
        (pa_cons (pe_is (a := a) (i := 0) X rfl B.isinstance (pv 0) (pe_gref rfl T.m1) (.own (c 1)) (hk 1 (by decide)))
        (pa_cons (pe_is (a := a) (i := 0) X rfl B.isinstance (pv 0) (pe_gref rfl T.m2) (.own (c 2)) (hk 2 (by decide))) pa_nil)))))
    (pss_cons (ps_set (i := 1) scMarks.nd rfl (Or.inl rfl) (pe_op op_cat (pv 1) (pe_lst (pa_cons (pe_is (a := a) (i := 0) X rfl B.isinstance (pv 0) (pe_bty rfl T.m3 (by decide +kernel)) (.ty "ValueError") (hk 3 (by decide)))
        (pa_cons (pe_is (a := a) (i := 0) X rfl B.isinstance (pv 0) (pe_bty rfl T.m4 (by decide +kernel)) (.ty "LookupError") (hk 4 (by decide)))
        (pa_cons (pe_is (a := a) (i := 0) X rfl B.isinstance (pv 0) (pe_bty rfl T.m5 (by decide +kernel)) (.ty "ArithmeticError") (hk 5 (by decide))) pa_nil))))))
    (pss_cons (ps_set (i := 1) scMarks.nd rfl (Or.inl rfl) (pe_op op_cat (pv 1) (pe_lst (pa_cons (pe_is (a := a) (i := 0) X rfl B.isinstance (pv 0) (pe_gref rfl T.m6) (.own (c 6)) (hk 6 (by decide)))
        (pa_cons (pe_is (a := a) (i := 0) X rfl B.isinstance (pv 0) (pe_gref rfl T.m7) (.own (c 7)) (hk 7 (by decide)))
        (pa_cons (pe_is (a := a) (i := 0) X rfl B.isinstance (pv 0) (pe_gref rfl T.m8) (.own (c 8)) (hk 8 (by decide))) pa_nil))))))
    (pss_cons (ps_set (i := 1) scMarks.nd rfl (Or.inl rfl) (pe_op op_cat (pv 1) (pe_lst (pa_cons (pe_is (a := a) (i := 0) X rfl B.isinstance (pv 0) (pe_gref rfl T.m9) (.own (c 9)) (hk 9 (by decide)))
        (pa_cons (pe_is (a := a) (i := 0) X rfl B.isinstance (pv 0) (pe_gref rfl T.m10) (.own (c 10)) (hk 10 (by decide)))
        (pa_cons (pe_is (a := a) (i := 0) X rfl B.isinstance (pv 0) (pe_gref rfl T.m11) (.own (c 11)) (hk 11 (by decide))) pa_nil))))))
    (pss_cons (ps_set (i := 1) scMarks.nd rfl (Or.inl rfl) (pe_op op_cat (pv 1) (pe_lst (pa_cons (pe_is (a := a) (i := 0) X rfl B.isinstance (pv 0) (pe_gref rfl T.m12) (.own (c 12)) (hk 12 (by decide)))
        (pa_cons (pe_is (a := a) (i := 0) X rfl B.isinstance (pv 0) (pe_gref rfl T.m13) (.own (c 13)) (hk 13 (by decide)))
        (pa_cons (pe_is (a := a) (i := 0) X rfl B.isinstance (pv 0) (pe_gref rfl T.m14) (.own (c 14)) (hk 14 (by decide))) pa_nil))))))
    (pss_cons (ps_set (i := 1) scMarks.nd rfl (Or.inl rfl) (pe_op op_cat (pv 1) (pe_lst (pa_cons (pe_is (a := a) (i := 0) X rfl B.isinstance (pv 0) (pe_gref rfl T.m15) (.own (c 15)) (hk 15 (by decide)))
        (pa_cons (pe_is (a := a) (i := 0) X rfl B.isinstance (pv 0) (pe_gref rfl T.m16) (.own (c 16)) (hk 16 (by decide)))
        (pa_cons (pe_is (a := a) (i := 0) X rfl B.isinstance (pv 0) (pe_gref rfl T.m17) (.own (c 17)) (hk 17 (by decide))) pa_nil))))))
    (pss_cons (ps_set (i := 1) scMarks.nd rfl (Or.inl rfl) (pe_op op_cat (pv 1) (pe_lst (pa_cons (pe_is (a := a) (i := 0) X rfl B.isinstance (pv 0) (pe_gref rfl T.m18) (.own (c 18)) (hk 18 (by decide)))
        (pa_cons (pe_is (a := a) (i := 0) X rfl B.isinstance (pv 0) (pe_gref rfl T.m19) (.own (c 19)) (hk 19 (by decide)))
        (pa_cons (pe_is (a := a) (i := 0) X rfl B.isinstance (pv 0) (pe_gref rfl T.m20) (.own (c 20)) (hk 20 (by decide))) pa_nil))))))
    (pss_cons (ps_set (i := 1) scMarks.nd rfl (Or.inl rfl) (pe_op op_cat (pv 1) (pe_lst (pa_cons (pe_is (a := a) (i := 0) X rfl B.isinstance (pv 0) (pe_gref rfl T.m21) (.own (c 21)) (hk 21 (by decide)))
        (pa_cons (pe_is (a := a) (i := 0) X rfl B.isinstance (pv 0) (pe_gref rfl T.m22) (.own (c 22)) (hk 22 (by decide)))
        (pa_cons (pe_is (a := a) (i := 0) X rfl B.isinstance (pv 0) (pe_gref rfl T.m23) (.own (c 23)) (hk 23 (by decide))) pa_nil))))))
    (pss_one (ps_ret (pe_op op_cat (pv 1) (pe_lst (pa_cons (pe_is (a := a) (i := 0) X rfl B.isinstance (pv 0) (pe_gref rfl T.m24) (.own (c 24)) (hk 24 (by decide)))
        (pa_cons (pe_is (a := a) (i := 0) X rfl B.isinstance (pv 0) (pe_gref rfl T.m25) (.own (c 25)) (hk 25 (by decide)))
        (pa_cons (pe_is (a := a) (i := 0) X rfl B.isinstance (pv 0) (pe_gref rfl T.m26) (.own (c 26)) (hk 26 (by decide))) pa_nil)))))))))))))), ?_⟩
  refine seq_set (three rfl hx fun p0 n0 => ?_)
  have s0 := same_new n0 (.lst [V.bl (dueB (baseOf o) o 0), .bl (dueB (baseOf o) o 1), .bl (dueB (baseOf o) o 2)])
  refine seq_set (three_more rfl rfl (hx.same s0) upd_same (by show 3 ≤ 100; decide) fun p1 H1 s1 e1 _ => ?_)
  refine seq_set (three_more rfl rfl (hx.same (s0.trans s1)) e1 (by show 6 ≤ 100; decide) fun p2 H2 t2 e2 _ => ?_)
  have s2 := s1.trans t2
  refine seq_set (three_more rfl rfl (hx.same (s0.trans s2)) e2 (by show 9 ≤ 100; decide) fun p3 H3 t3 e3 _ => ?_)
  have s3 := s2.trans t3
  refine seq_set (three_more rfl rfl (hx.same (s0.trans s3)) e3 (by show 12 ≤ 100; decide) fun p4 H4 t4 e4 _ => ?_)
  have s4 := s3.trans t4
  refine seq_set (three_more rfl rfl (hx.same (s0.trans s4)) e4 (by show 15 ≤ 100; decide) fun p5 H5 t5 e5 _ => ?_)
  have s5 := s4.trans t5
  refine seq_set (three_more rfl rfl (hx.same (s0.trans s5)) e5 (by show 18 ≤ 100; decide) fun p6 H6 t6 e6 _ => ?_)
  have s6 := s5.trans t6
  refine seq_set (three_more rfl rfl (hx.same (s0.trans s6)) e6 (by show 21 ≤ 100; decide) fun p7 H7 t7 e7 _ => ?_)
  have s7 := s6.trans t7
  refine ret_go (three_more rfl rfl (hx.same (s0.trans s7)) e7 (by show 24 ≤ 100; decide) fun p8 H8 t8 e8 n8 => ?_)
  exact q p8 H8 (s0.trans (s7.trans t8)) ((s0.trans s7).free n8) e8
end
end K8

namespace K8
open PySem PySem.Spec PyProof.Rows L2 Hx
abbrev sValues : Stmt := top 41
/-- a datum whose repr may be compared -/
def Good (d : PyData) : Prop := Small d ∧ PyData.strOk d.shown = true
theorem lay_strs {z : Str} (h : PyData.strOk z = true) : ∀ n, PyData.canLayAll0 (List.replicate n (.str z)) = true ∧ PyData.depthAll (List.replicate n (.str z)) = 0
  | 0 => ⟨rfl, rfl⟩
  | n + 1 => by
    obtain ⟨h1, h2⟩ := lay_strs h n
    constructor
    · show (PyData.strOk z && PyData.canLayAll0 (List.replicate n (.str z))) = true
      rw [h, h1]
      rfl
    · show max 0 (PyData.depthAll (List.replicate n (.str z))) = 0
      rw [h2]
      rfl
theorem shaped_strs {z : Str} (h : PyData.strOk z = true) (n : Nat) : SeqAt.shaped (.list (List.replicate n (.str z))) = true := by
  obtain ⟨h1, h2⟩ := lay_strs h n
  show (PyData.canLayAll0 (List.replicate n (.str z)) && decide (PyData.depthAll (List.replicate n (.str z)) + 1 ≤ 64)) = true
  rw [h1, h2]
  rfl
theorem eqv_self {d : PyData} (h : SeqAt.shaped d = true) : PyData.eqv d d = true := SeqAt.eqv_refl_plain d (PyData.plain_of_canLay0 d (SeqAt.canLay_of_shaped h))
theorem dq_strs {H : Hp} {z : Str} : ∀ n, DqAll H (List.replicate n (V.str z)) (List.replicate n (.str z))
  | 0 => .nil
  | n + 1 => .cons (.str z) (dq_strs n)
/-- a list of new errors of the classes from the o-th on -/
inductive RowsI (H : Hp) (c : Nat → Addr) (f : Str) (v : V) : Nat → List V → Prop
  | nil {o : Nat} : RowsI H c f v o []
  | cons {o : Nat} {a : Addr} {r : List V} : EAt H a (c o) [(f, v)] → RowsI H c f v (o + 1) r → RowsI H c f v o (.ref a :: r)
theorem RowsI.same {H H' : Hp} {c : Nat → Addr} {f : Str} {v : V} (s : Same H H') : ∀ {o : Nat} {r : List V}, RowsI H c f v o r → RowsI H' c f v o r
  | _, _, .nil => .nil
  | _, _, .cons e r => .cons (e.same s) (RowsI.same s r)
theorem RowsI.get {H : Hp} {c : Nat → Addr} {f : Str} {v : V} : ∀ {o : Nat} {r : List V} {j : Nat} {x : V}, RowsI H c f v o r → r[j]? = some x → ∃ a, x = .ref a ∧ EAt H a (c (o + j)) [(f, v)]
  | _, _, 0, x, .cons (a := a) e r, h => ⟨a, (Option.some.inj h).symm, e⟩
  | o, _, j + 1, x, .cons e r, h => by
    obtain ⟨a, h1, h2⟩ := RowsI.get (j := j) (x := x) r h
    exact ⟨a, h1, by rw [show o + (j + 1) = o + 1 + j by omega]; exact h2⟩
theorem RowsI.app {H : Hp} {c : Nat → Addr} {f : Str} {v : V} {n : Nat} : ∀ {o : Nat} {r : List V} {t : List V}, RowsI H c f v o r → r.length = n → RowsI H c f v (o + n) t → RowsI H c f v o (r ++ t)
  | o, _, _, .nil, e, h => by
    subst e
    exact h
  | o, _, _, .cons (r := r) e q, l, h => by
    subst l
    exact .cons e (RowsI.app (n := r.length) q rfl (by
      rw [show o + 1 + r.length = o + (r.length + 1) by omega]
      exact h))
section
variable {K : PySem.W.Frag} {c : Nat → Addr} {f : Str} {v : V} {p : Addr} {rows : List V} {n o : Nat} {σ : L2.St} {H : Hp} {Q : VK}
theorem more3 (h0 : σ[0]? = some (some v)) (h1 : σ[1]? = some (some (.ref p))) (hp : H p = some (.lst rows)) (R : RowsI H c f v o rows) (len : rows.length = n) (few : n ≤ 100)
    (q : ∀ p' H' rows', Same H H' → H p' = none → H' p' = some (.lst rows') → RowsI H' c f v o rows' → rows'.length = n + 3 → Q (.ref p') H') :
    tOp rCat (tVar 1) (tLst (tCons (tNew 0 (c (o + n)) f) (tCons (tNew 0 (c (o + n + 1)) f) (tCons (tNew 0 (c (o + n + 2)) f) tNil)))) σ H Q := by
  refine ⟨_, h1, _, h0, fun a1 H1 n1 s1 e1 => ⟨_, h0, fun a2 H2 n2 s2 e2 => ⟨_, h0, fun a3 H3 n3 s3 e3 => ⟨(by show 3 ≤ sizeLine; decide), fun p2 np2 => ?_⟩⟩⟩⟩
  have t3 : Same H H3 := (s1.trans s2).trans s3
  have t4 := t3.trans (same_new np2 (.lst [V.ref a1, .ref a2, .ref a3]))
  refine ⟨p, p2, _, _, rfl, rfl, upd_other (t3 _ _ hp) np2, upd_same, ?_, fun p3 np3 => ?_⟩
  · show rows.length + 3 ≤ sizeLine
    exact small_line (by omega)
  have t5 := t4.trans (same_new np3 (.lst (rows ++ [V.ref a1, .ref a2, .ref a3])))
  have u5 := (same_new np2 (.lst [V.ref a1, .ref a2, .ref a3])).trans (same_new np3 (.lst (rows ++ [V.ref a1, .ref a2, .ref a3])))
  refine q p3 _ _ t5 (t4.free np3) upd_same ?_ ?_
  · exact RowsI.app (R.same t5) len (.cons (e1.same ((s2.trans s3).trans u5)) (.cons (e2.same (s3.trans u5)) (.cons (e3.same u5) .nil)))
  · rw [List.length_append, len]
    rfl
/-- the reprs of a field of all rows are those of the value -/
theorem reprs {i0 : Nat} {vs : List Nat} {d : PyData} (h1 : σ[1]? = some (some (.ref p))) (hp : H p = some (.lst rows)) (R : RowsI H c f v o rows) (few : rows.length ≤ 100)
    (hw : ∀ x : V, wipe ((wipe σ vs).set i0 (some x)) vs = wipe σ vs) (hi : ∀ x : V, ((wipe σ vs).set i0 (some x))[i0]? = some (some x))
    (hv : Dq H v d) (g : Good d) (hE : ∀ j, j < rows.length → ∃ B newId initId bmB, ExK K (c (o + j)) B newId initId bmB) (hN : ∀ j, j < rows.length → PySem.W.findIn K (.ref (c (o + j))) f = some none)
    (q : ∀ D H', Same H H' → H D = none → Dq H' (.ref D) (.list (List.replicate rows.length (.str d.shown))) → Q (.ref D) H') :
    tLc (iList K (tVar 1)) (gName i0) tYes (tCB rRepr (tCons (tGetA K f (tVar i0)) tNil)) vs σ H Q := by
  refine ⟨_, h1, p, rfl, ⟨_, SqL.of hp⟩, fun D hD => ?_⟩
  refine lc_data_list (K := K) (ws := rows) (fun _ => .str d.shown) hD (by omega) (SqL.of hp) hw ?_ ?_
  · intro i x H' hx s Q' hQ
    obtain ⟨a, rfl, e⟩ := R.get hx
    have lt := (List.getElem?_eq_some_iff.mp hx).1
    refine ⟨_, hi _, a, _, _, v, rfl, e.same s, hE i lt, hN i lt, (by simp [List.lookup]), v, d, rfl, hv.same s, g.1, hQ _ _ (Same.refl _) (.str _)⟩
  · intro H' xs s hx ha
    refine q D H' s hD (.lst hx ?_)
    have e : (List.range rows.length).map (fun _ => PyData.str d.shown) = List.replicate rows.length (.str d.shown) := by
      rw [List.map_const', List.length_range]
    rw [← e]
    exact ha
theorem rep_one {d : PyData} {m : Nat} (h0 : σ[0]? = some (some v)) (hv : Dq H v d) (g : Good d) (hm : m ≤ 100)
    (q : ∀ D H', Same H H' → Dq H' (.ref D) (.list (List.replicate m (.str d.shown))) → Q (.ref D) H') :
    tOp rRep (tLst (tCons (tCB rRepr (tCons (tVar 0) tNil)) tNil)) (tC (.int (m : Nat))) σ H Q := by
  refine ⟨_, h0, v, d, rfl, hv, g.1, (by show 1 ≤ sizeLine; decide), fun l nl => ?_⟩
  refine ⟨l, _, _, rfl, rfl, upd_same, by omega, by omega, ?_, fun p2 np2 => ?_⟩
  · show 1 * (((m : Nat) : Int)).toNat ≤ sizeLine
    exact small_line (by omega)
  refine q p2 _ ((same_new nl _).trans (same_new np2 _)) (.lst upd_same ?_)
  have e : (List.replicate (((m : Nat) : Int)).toNat [V.str d.shown]).flatten = List.replicate m (V.str d.shown) := by
    rw [Int.toNat_natCast, List.flatten_replicate_singleton]
  rw [e]
  exact dq_strs m
end
end K8

namespace K8
open PySem PySem.Spec PyProof.Rows L2 Hx
structure Mks (P : Program) (w : World) (K : PySem.W.Frag) (mg : Str → Option Value) (base : Heap) (c : Nat → Addr) : Prop where
  m6 : MkC P w K mg base "InvalidNumber" (c 6) "given"
  m7 : MkC P w K mg base "InvalidName" (c 7) "given"
  m8 : MkC P w K mg base "InvalidSign" (c 8) "given"
  m9 : MkC P w K mg base "InvalidWord" (c 9) "given"
  m10 : MkC P w K mg base "InvalidText" (c 10) "given"
  m11 : MkC P w K mg base "InvalidExpression" (c 11) "given"
  m12 : MkC P w K mg base "InvalidWish" (c 12) "given"
  m13 : MkC P w K mg base "InvalidRounds" (c 13) "given"
  m14 : MkC P w K mg base "NotABook" (c 14) "given"
  m15 : MkC P w K mg base "NotPlaces" (c 15) "given"
  m16 : MkC P w K mg base "InvalidHanded" (c 16) "index"
  m17 : MkC P w K mg base "InvalidRows" (c 17) "index"
  m18 : MkC P w K mg base "InvalidExchanges" (c 18) "index"
  m19 : MkC P w K mg base "InvalidWishes" (c 19) "index"
  m20 : MkC P w K mg base "UnknownName" (c 20) "given"
  m22 : MkC P w K mg base "OpenRing" (c 22) "name"
  m23 : MkC P w K mg base "PartRing" (c 23) "name"
  m24 : MkC P w K mg base "TooManyParts" (c 24) "many"
  m25 : MkC P w K mg base "NotKept" (c 25) "given"
  m26 : MkC2 P w K mg base "Broken" (c 26) "index" "shown"
def duesD (b o m : Nat) : PyData := .list ((List.range m).map fun k => .list ((dueL b (o + k)).map PyData.bool))
def marksD (o m : Nat) : PyData := .list ((List.range m).map fun k => .list ((dueL (baseOf (o + k)) (o + k)).map PyData.bool))
section
variable {K : PySem.W.Frag} {c : Nat → Addr} {f : Str} {v : V} {p : Addr} {rows : List V} {n o b m : Nat} {σ : L2.St} {H : Hp} {Q : VK} {i0 : Nat} {vs : List Nat}
theorem marksL {i1 : Nat} (hp : H p = some (.lst rows)) (R : RowsI H c f v o rows) (hm : m ≤ rows.length) (few : m ≤ 1000) (h6 : 6 ≤ o) (h27 : o + m ≤ 27)
    (hw : ∀ x : V, wipe ((wipe σ vs).set i0 (some x)) vs = wipe σ vs) (hi : ∀ x : V, ((wipe σ vs).set i0 (some x))[i0]? = some (some x)) (h1 : ∀ x : V, ((wipe σ vs).set i0 (some x))[i1]? = some (some (.ref p)))
    (q : ∀ D H', Same H H' → Dq H' (.ref D) (marksD o m) → Q (.ref D) H') :
    tLc (iRng1 (tCons (tC (.int (m : Nat))) tNil)) (gName i0) tYes (tCall (spMarks c) [] E0 (tCons (tOp (rIxL K) (tVar i1) (tVar i0)) tNil)) vs σ H Q := by
  refine ⟨_, rfl, by omega, by omega, fun D hD => ?_⟩
  rw [Int.toNat_natCast]
  refine lc_data_range (n := m) (fun k => .list ((dueL (baseOf (o + k)) (o + k)).map PyData.bool)) hD (by omega) hw ?_ ?_
  · intro i H' hlt s Q' hQ
    obtain ⟨x, hx⟩ : ∃ x, rows[i]? = some x := ⟨_, List.getElem?_eq_getElem (by omega)⟩
    obtain ⟨a, rfl, e⟩ := R.get hx
    refine ⟨_, h1 _, _, hi _, p, rows, _, _, rfl, rfl, SqL.of (s _ _ hp), atI_nat hx, a, o + i, rfl, by omega, by omega, (e.same s).x, fun p2 H2 s2 n2 e2 => ?_⟩
    exact hQ _ _ s2 (.lst (newPart_at n2 e2) (bools_dq _))
  · intro H' xs s hx ha
    exact q D H' s (.lst hx ha)
theorem duesL (few : m ≤ 1000)
    (hw : ∀ x : V, wipe ((wipe σ vs).set i0 (some x)) vs = wipe σ vs) (hi : ∀ x : V, ((wipe σ vs).set i0 (some x))[i0]? = some (some x))
    (q : ∀ D H', Same H H' → Dq H' (.ref D) (duesD b o m) → Q (.ref D) H') :
    tLc (iRng1 (tCons (tC (.int (m : Nat))) tNil)) (gName i0) tYes (tCall spDue [] E0 (tCons (tC (.int (b : Nat))) (tCons (tOp (rI0 fun i j => .int (i + j)) (tC (.int (o : Nat))) (tVar i0)) tNil))) vs σ H Q := by
  refine ⟨_, rfl, by omega, by omega, fun D hD => ?_⟩
  rw [Int.toNat_natCast]
  refine lc_data_range (n := m) (fun k => .list ((dueL b (o + k)).map PyData.bool)) hD (by omega) hw ?_ ?_
  · intro i H' hlt s Q' hQ
    refine ⟨_, hi _, _, _, rfl, rfl, b, o + i, rfl, fun p2 H2 s2 n2 e2 => ?_⟩
    exact hQ _ _ s2 (.lst (newPart_at n2 e2) (bools_dq _))
  · intro H' xs s hx ha
    exact q D H' s (.lst hx ha)
end
def spValues : Sp := fun vs H Q _ => ∃ (v : V) (d : PyData), vs = [v] ∧ Dq H v d ∧ Good d ∧ ∀ H', Same H H' → Q (.bl true) H'
section
variable {P : Program} {w : World} {K : PySem.W.Frag} {mg : Str → Option Value} {base : Heap} {c : Nat → Addr}
theorem scValues : FnScope ["_law_thing", "_law_rows", "_law_e", "_law_k"] ["_law_thing"] (defScope sValues) :=
  ⟨rfl, rfl, rfl, by decide +kernel, rfl, by decide +kernel, by decide +kernel⟩
theorem marks10 : marksD 6 10 = duesD 0 6 10 := by rfl
theorem marks4 : marksD 16 4 = duesD 0 16 4 := by rfl
theorem shaped10 : SeqAt.shaped (duesD 0 6 10) = true := by decide +kernel
theorem shaped4 : SeqAt.shaped (duesD 0 16 4) = true := by decide +kernel
theorem ok_values {f fM fD : Addr} {fd fdM fdD : FuncData} (F : Fun K "_law_values" "_law_values" sValues f fd) (BM : Mods base) (B : Free mg) (M : Mks P w K mg base c) (EX : Excs K c)
    (GM : FnOk P w K mg base CX0 1 fM fdM ["_law_e"] (spMarks c)) (bM : Binds K fdM ["_law_e"] []) (kM : PySem.W.keepIn K (.ref fM) = true) (mM : mg "_law_marks" = some (.ref fM))
    (GD : FnOk P w K mg base CX0 1 fD fdD ["_law_base", "_law_own"] spDue) (bD : Binds K fdD ["_law_base", "_law_own"] []) (kD : PySem.W.keepIn K (.ref fD) = true) (mD : mg "_law_due" = some (.ref fD)) :
    GOk P w K mg base CX0 3 f fd ["_law_thing"] spValues := by
  refine gok0 F scValues (fun vs H Q E h => ?_) (fun cdv A outer s H vs Q E hr gd h => ?_)
  · obtain ⟨v, d, rfl, _⟩ := h
    rfl
  obtain ⟨v, d, rfl, hv, good, q⟩ := h
  refine ⟨_, pss_cons (ps_set (i := 1) scValues.nd rfl (Or.inr rfl) (pe_lst (pa_cons (pe_new M.m6 hr rfl (pv 0)) (pa_cons (pe_newK M.m7 hr rfl (pv 0)) (pa_cons (pe_new M.m8 hr rfl (pv 0)) (pa_cons (pe_newK M.m9 hr rfl (pv 0)) pa_nil))))))
    (pss_cons (ps_set (i := 1) scValues.nd rfl (Or.inr rfl) (pe_op op_cat (pv 1) (pe_lst (pa_cons (pe_new M.m10 hr rfl (pv 0)) (pa_cons (pe_newK M.m11 hr rfl (pv 0)) (pa_cons (pe_new M.m12 hr rfl (pv 0)) pa_nil))))))
    (pss_cons (ps_set (i := 1) scValues.nd rfl (Or.inr rfl) (pe_op op_cat (pv 1) (pe_lst (pa_cons (pe_newK M.m13 hr rfl (pv 0)) (pa_cons (pe_new M.m14 hr rfl (pv 0)) (pa_cons (pe_newK M.m15 hr rfl (pv 0)) pa_nil))))))
    (pss_cons (ps_if (pt_cmpR (op_neQ hr.units) (pe_lc (te := tCB rRepr (tCons (tGetA K "given" (tVar 2)) tNil)) (own := [("_law_e", 2)]) (g := gName 2) (tt := tYes) rfl scValues.nd (pi_list (pv 1)) (blkOk_by (N := ["_law_thing", "_law_rows", "_law_e", "_law_k"]) (sc := defScope sValues) (by decide +kernel))
        (fun _ _ _ _ _ => pg_name (i := 2) scValues.nd rfl (Or.inl rfl)) (fun _ _ _ _ _ => pts_nil) (fun _ _ _ _ _ => (pe_callB (call_reprD gd hr.units BM) (by rfl) B.repr PyProof.Rows.boot_repr (pa_cons (pe_getA (pv 2)) pa_nil)))) (pe_op op_rep (pe_lst (pa_cons (pe_callB (call_reprD gd hr.units BM) (by rfl) B.repr PyProof.Rows.boot_repr (pa_cons (pv 0) pa_nil)) pa_nil)) pe_int) (nomark _)) (pss_one (ps_ret pe_bl)) pss_nil)
    (pss_cons (ps_if (pt_cmpR (op_neQ hr.units) (pe_lc (te := tCall (spMarks c) [] E0 (tCons (tOp (rIxL K) (tVar 1) (tVar 3)) tNil)) (own := [("_law_k", 3)]) (g := gName 3) (tt := tYes) rfl scValues.nd (pi_range1 rfl B.range (pa_cons pe_int pa_nil)) (blkOk_by (N := ["_law_thing", "_law_rows", "_law_e", "_law_k"]) (sc := defScope sValues) (by decide +kernel))
        (fun _ _ _ _ _ => pg_name (i := 3) scValues.nd rfl (Or.inl rfl)) (fun _ _ _ _ _ => pts_nil)
        (fun _ _ _ _ _ => pe_call GM (hr.mono (by decide)) rfl mM kM bM .nil pass0 (pa_cons (pe_ix ix_list (pv 1) (pv 3) (fun _ _ => rfl)) pa_nil))) (pe_lc (own := [("_law_k", 3)]) (g := gName 3) (tt := tYes) rfl scValues.nd (pi_range1 rfl B.range (pa_cons pe_int pa_nil)) (blkOk_by (N := ["_law_thing", "_law_rows", "_law_e", "_law_k"]) (sc := defScope sValues) (by decide +kernel))
        (fun _ _ _ _ _ => pg_name (i := 3) scValues.nd rfl (Or.inl rfl)) (fun _ _ _ _ _ => pts_nil)
        (fun _ _ _ _ _ => pe_call GD (hr.mono (by decide)) rfl mD kD bD .nil pass0 (pa_cons pe_int (pa_cons (pe_op op_add pe_int (pv 3)) pa_nil)))) (nomark _)) (pss_one (ps_ret pe_bl)) pss_nil)
    (pss_cons (ps_set (i := 1) scValues.nd rfl (Or.inr rfl) (pe_lst (pa_cons (pe_new M.m16 hr rfl (pv 0)) (pa_cons (pe_newK M.m17 hr rfl (pv 0)) (pa_cons (pe_new M.m18 hr rfl (pv 0)) (pa_cons (pe_newK M.m19 hr rfl (pv 0)) pa_nil))))))
    (pss_cons (ps_if (pt_cmpR (op_neQ hr.units) (pe_lc (te := tCB rRepr (tCons (tGetA K "index" (tVar 2)) tNil)) (own := [("_law_e", 2)]) (g := gName 2) (tt := tYes) rfl scValues.nd (pi_list (pv 1)) (blkOk_by (N := ["_law_thing", "_law_rows", "_law_e", "_law_k"]) (sc := defScope sValues) (by decide +kernel))
        (fun _ _ _ _ _ => pg_name (i := 2) scValues.nd rfl (Or.inl rfl)) (fun _ _ _ _ _ => pts_nil) (fun _ _ _ _ _ => (pe_callB (call_reprD gd hr.units BM) (by rfl) B.repr PyProof.Rows.boot_repr (pa_cons (pe_getA (pv 2)) pa_nil)))) (pe_op op_rep (pe_lst (pa_cons (pe_callB (call_reprD gd hr.units BM) (by rfl) B.repr PyProof.Rows.boot_repr (pa_cons (pv 0) pa_nil)) pa_nil)) pe_int) (nomark _)) (pss_one (ps_ret pe_bl)) pss_nil)
    (pss_one (ps_ret (pe_cmpR (op_eqQ hr.units) (pe_lc (te := tCall (spMarks c) [] E0 (tCons (tOp (rIxL K) (tVar 1) (tVar 3)) tNil)) (own := [("_law_k", 3)]) (g := gName 3) (tt := tYes) rfl scValues.nd (pi_range1 rfl B.range (pa_cons pe_int pa_nil)) (blkOk_by (N := ["_law_thing", "_law_rows", "_law_e", "_law_k"]) (sc := defScope sValues) (by decide +kernel))
        (fun _ _ _ _ _ => pg_name (i := 3) scValues.nd rfl (Or.inl rfl)) (fun _ _ _ _ _ => pts_nil)
        (fun _ _ _ _ _ => pe_call GM (hr.mono (by decide)) rfl mM kM bM .nil pass0 (pa_cons (pe_ix ix_list (pv 1) (pv 3) (fun _ _ => rfl)) pa_nil))) (pe_lc (own := [("_law_k", 3)]) (g := gName 3) (tt := tYes) rfl scValues.nd (pi_range1 rfl B.range (pa_cons pe_int pa_nil)) (blkOk_by (N := ["_law_thing", "_law_rows", "_law_e", "_law_k"]) (sc := defScope sValues) (by decide +kernel))
        (fun _ _ _ _ _ => pg_name (i := 3) scValues.nd rfl (Or.inl rfl)) (fun _ _ _ _ _ => pts_nil)
        (fun _ _ _ _ _ => pe_call GD (hr.mono (by decide)) rfl mD kD bD .nil pass0 (pa_cons pe_int (pa_cons (pe_op op_add pe_int (pv 3)) pa_nil)))) (nomark _)))))))))), ?_⟩
  refine seq_set ⟨_, rfl, fun a1 H1 n1 s1 e1 => ⟨_, rfl, fun a2 H2 n2 s2 e2 => ⟨_, rfl, fun a3 H3 n3 s3 e3 => ⟨_, rfl, fun a4 H4 n4 s4 e4 => ⟨(by show 4 ≤ sizeLine; decide), fun p0 np0 => ?_⟩⟩⟩⟩⟩
  have u0 := same_new np0 (.lst [V.ref a1, .ref a2, .ref a3, .ref a4])
  have t0 := (((s1.trans s2).trans s3).trans s4).trans u0
  have R0 : RowsI (upd H4 p0 (.lst [V.ref a1, .ref a2, .ref a3, .ref a4])) c "given" v 6 [V.ref a1, .ref a2, .ref a3, .ref a4] :=
    .cons (e1.same (((s2.trans s3).trans s4).trans u0)) (.cons (e2.same ((s3.trans s4).trans u0)) (.cons (e3.same (s4.trans u0)) (.cons (e4.same u0) .nil)))
  refine seq_set (more3 (n := 4) (o := 6) rfl rfl upd_same R0 rfl (by decide) fun p1 G1 rows1 v1 _ h1 R1 l1 => ?_)
  refine seq_set (more3 (n := 7) (o := 6) rfl rfl h1 R1 l1 (by decide) fun p2 G2 rows2 v2 _ h2 R2 l2 => ?_)
  have l10 : rows2.length = 10 := l2
  have hE : ∀ j, j < 21 → 6 + j ≠ 21 → ∃ B newId initId bmB, ExK K (c (6 + j)) B newId initId bmB := fun j hj _ => EX (6 + j) (by omega) (by omega)
  have hN10 : ∀ j, j < 10 → PySem.W.findIn K (.ref (c (6 + j))) "given" = some none := fun j hj => by
    match j, hj with
    | 0, _ => exact M.m6.no
    | 1, _ => exact M.m7.no
    | 2, _ => exact M.m8.no
    | 3, _ => exact M.m9.no
    | 4, _ => exact M.m10.no
    | 5, _ => exact M.m11.no
    | 6, _ => exact M.m12.no
    | 7, _ => exact M.m13.no
    | 8, _ => exact M.m14.no
    | 9, _ => exact M.m15.no
  have hN4 : ∀ j, j < 4 → PySem.W.findIn K (.ref (c (16 + j))) "index" = some none := fun j hj => by
    match j, hj with
    | 0, _ => exact M.m16.no
    | 1, _ => exact M.m17.no
    | 2, _ => exact M.m18.no
    | 3, _ => exact M.m19.no
  have t2 := (t0.trans v1).trans v2
  refine seq_if_op (reprs rfl h2 R2 (by omega) (fun _ => rfl) (fun _ => rfl) (Dq.same t2 _ _ hv) good (fun j hj => hE j (by omega) (by omega)) (fun j hj => hN10 j (by omega)) ?_)
  intro D1 G3 v3 _ d3
  rw [l10] at d3
  refine rep_one (m := 10) rfl (Dq.same (t2.trans v3) _ _ hv) good (by decide) ?_
  intro D2 G4 v4 d4
  refine ⟨_, _, Dq.same v4 _ _ d3, d4, shaped_strs good.2 10, shaped_strs good.2 10, _, rfl, ?_⟩
  rw [eqv_self (shaped_strs good.2 10)]
  refine iteF (next_go ?_)
  have t4 := (t2.trans v3).trans v4
  have R4 := R2.same (v3.trans v4)
  refine seq_if_op (marksL (m := 10) (o := 6) (i1 := 1) (v4 _ _ (v3 _ _ h2)) R4 (by omega) (by decide) (by decide) (by decide) (fun _ => rfl) (fun _ => rfl) (fun _ => rfl) ?_)
  intro D3 G5 v5 d5
  refine duesL (m := 10) (o := 6) (b := 0) (by decide) (fun _ => rfl) (fun _ => rfl) ?_
  intro D4 G6 v6 d6
  rw [marks10] at d5
  refine ⟨_, _, Dq.same v6 _ _ d5, d6, shaped10, shaped10, _, rfl, ?_⟩
  rw [eqv_self shaped10]
  refine iteF (next_go ?_)
  have t6 := (t4.trans v5).trans v6
  refine seq_set ⟨_, rfl, fun b1 I1 m1 w1 f1 => ⟨_, rfl, fun b2 I2 m2 w2 f2 => ⟨_, rfl, fun b3 I3 m3 w3 f3 => ⟨_, rfl, fun b4 I4 m4 w4 f4 => ⟨(by show 4 ≤ sizeLine; decide), fun p5 np5 => ?_⟩⟩⟩⟩⟩
  have u5 := same_new np5 (.lst [V.ref b1, .ref b2, .ref b3, .ref b4])
  have t7 := t6.trans ((((w1.trans w2).trans w3).trans w4).trans u5)
  have R5 : RowsI (upd I4 p5 (.lst [V.ref b1, .ref b2, .ref b3, .ref b4])) c "index" v 16 [V.ref b1, .ref b2, .ref b3, .ref b4] :=
    .cons (f1.same (((w2.trans w3).trans w4).trans u5)) (.cons (f2.same ((w3.trans w4).trans u5)) (.cons (f3.same (w4.trans u5)) (.cons (f4.same u5) .nil)))
  refine seq_if_op (reprs rfl upd_same R5 (by show 4 ≤ 100; decide) (fun _ => rfl) (fun _ => rfl) (Dq.same t7 _ _ hv) good (fun j hj => EX (16 + j) (by omega) (by have z : j < 4 := hj; omega)) (fun j hj => hN4 j hj) ?_)
  intro D5 G7 v7 _ d7'
  have d7 : Dq G7 (.ref D5) (.list (List.replicate 4 (.str d.shown))) := d7'
  refine rep_one (m := 4) rfl (Dq.same (t7.trans v7) _ _ hv) good (by decide) ?_
  intro D6 G8 v8 d8
  refine ⟨_, _, Dq.same v8 _ _ d7, d8, shaped_strs good.2 4, shaped_strs good.2 4, _, rfl, ?_⟩
  rw [eqv_self (shaped_strs good.2 4)]
  refine iteF (next_go ?_)
  refine ret_op (marksL (m := 4) (o := 16) (i1 := 1) (v8 _ _ (v7 _ _ upd_same)) (R5.same (v7.trans v8)) (by show 4 ≤ 4; decide) (by decide) (by decide) (by decide) (fun _ => rfl) (fun _ => rfl) (fun _ => rfl) ?_)
  intro D7 G9 v9 d9
  refine duesL (m := 4) (o := 16) (b := 0) (by decide) (fun _ => rfl) (fun _ => rfl) ?_
  intro D8 G10 v10 d10
  rw [marks4] at d9
  refine ⟨_, _, Dq.same v10 _ _ d9, d10, shaped4, shaped4, ?_⟩
  rw [eqv_self shaped4]
  exact q G10 ((((t7.trans v7).trans v8).trans v9).trans v10)
end
end K8

namespace K8
open PySem PySem.Spec PyProof.Rows L2 Hx
abbrev sOthers : Stmt := top 42
/-- the lists of two told things of which a repr is asked -/
def Pair2 (d e : PyData) : Prop := Small (.list [d, e]) ∧ Small (.list [d, d, d, d]) ∧ Small (.list [d, e, e, d])
def spOthers : Sp := fun vs H Q _ => ∃ (v u : V) (d e : PyData), vs = [v, u] ∧ Dq H v d ∧ Dq H u e ∧ Pair2 d e ∧ ∀ H', Same H H' → Q (.bl true) H'
/-- a list of new errors, each of the next class -/
inductive RowsX (H : Hp) (c : Nat → Addr) : Nat → List V → Prop
  | nil {o : Nat} : RowsX H c o []
  | cons {o : Nat} {a : Addr} {r : List V} : XAt H a (c o) → RowsX H c (o + 1) r → RowsX H c o (.ref a :: r)
theorem RowsX.get {H : Hp} {c : Nat → Addr} : ∀ {o : Nat} {r : List V} {j : Nat} {x : V}, RowsX H c o r → r[j]? = some x → ∃ a, x = .ref a ∧ XAt H a (c (o + j))
  | _, _, 0, x, .cons (a := a) e r, h => ⟨a, (Option.some.inj h).symm, e⟩
  | o, _, j + 1, x, .cons e r, h => by
    obtain ⟨a, h1, h2⟩ := RowsX.get (j := j) (x := x) r h
    exact ⟨a, h1, by rw [show o + (j + 1) = o + 1 + j by omega]; exact h2⟩
section
variable {K : PySem.W.Frag} {c : Nat → Addr} {p : Addr} {rows : List V} {o m : Nat} {σ : L2.St} {H : Hp} {Q : VK} {i0 : Nat} {vs : List Nat}
theorem marksX {i1 : Nat} (hp : H p = some (.lst rows)) (R : RowsX H c o rows) (hm : m ≤ rows.length) (few : m ≤ 1000) (h6 : 6 ≤ o) (h27 : o + m ≤ 27)
    (hw : ∀ x : V, wipe ((wipe σ vs).set i0 (some x)) vs = wipe σ vs) (hi : ∀ x : V, ((wipe σ vs).set i0 (some x))[i0]? = some (some x)) (h1 : ∀ x : V, ((wipe σ vs).set i0 (some x))[i1]? = some (some (.ref p)))
    (q : ∀ D H', Same H H' → Dq H' (.ref D) (marksD o m) → Q (.ref D) H') :
    tLc (iRng1 (tCons (tC (.int (m : Nat))) tNil)) (gName i0) tYes (tCall (spMarks c) [] E0 (tCons (tOp (rIxL K) (tVar i1) (tVar i0)) tNil)) vs σ H Q := by
  refine ⟨_, rfl, by omega, by omega, fun D hD => ?_⟩
  rw [Int.toNat_natCast]
  refine lc_data_range (n := m) (fun k => .list ((dueL (baseOf (o + k)) (o + k)).map PyData.bool)) hD (by omega) hw ?_ ?_
  · intro i H' hlt s Q' hQ
    obtain ⟨x, hx⟩ : ∃ x, rows[i]? = some x := ⟨_, List.getElem?_eq_getElem (by omega)⟩
    obtain ⟨a, rfl, e⟩ := R.get hx
    refine ⟨_, h1 _, _, hi _, p, rows, _, _, rfl, rfl, SqL.of (s _ _ hp), atI_nat hx, a, o + i, rfl, by omega, by omega, e.same s, fun p2 H2 s2 n2 e2 => ?_⟩
    exact hQ _ _ s2 (.lst (newPart_at n2 e2) (bools_dq _))
  · intro H' xs s hx ha
    exact q D H' s (.lst hx ha)
end
theorem marks5 : marksD 22 5 = duesD 2 22 5 := by rfl
theorem shaped5 : SeqAt.shaped (duesD 2 22 5) = true := by decide +kernel
def boolsD (b o : Nat) : PyData := .list ((dueL b o).map PyData.bool)
theorem shaped20 : SeqAt.shaped (boolsD 1 20) = true := by decide +kernel
theorem shaped21 : SeqAt.shaped (boolsD 1 21) = true := by decide +kernel
section
variable {P : Program} {w : World} {K : PySem.W.Frag} {mg : Str → Option Value} {base : Heap} {c : Nat → Addr}
theorem scOthers : FnScope ["_law_thing", "_law_other", "_law_told", "_law_rows", "_law_broken", "_law_named", "_law_k"] ["_law_thing", "_law_other"] (defScope sOthers) :=
  ⟨rfl, rfl, rfl, by decide +kernel, rfl, by decide +kernel, by decide +kernel⟩
theorem ok_others {f fM fD : Addr} {fd fdM fdD : FuncData} (F : Fun K "_law_others" "_law_others" sOthers f fd) (BM : Mods base) (B : Free mg) (M : Mks P w K mg base c) (EX : Excs K c)
    {B21 new21 init21 : String} {bm21 : List Value} (F21 : ExcBaseFacts B21 new21 init21 bm21) (q21 : PySem.W.excIn K (c 21) bm21 new21 = true) (m21 : mg "NothingToUndo" = some (.ref (c 21))) (k21 : PySem.W.keepIn K (.ref (c 21)) = true)
    (GM : FnOk P w K mg base CX0 1 fM fdM ["_law_e"] (spMarks c)) (bM : Binds K fdM ["_law_e"] []) (kM : PySem.W.keepIn K (.ref fM) = true) (mM : mg "_law_marks" = some (.ref fM))
    (GD : FnOk P w K mg base CX0 1 fD fdD ["_law_base", "_law_own"] spDue) (bD : Binds K fdD ["_law_base", "_law_own"] []) (kD : PySem.W.keepIn K (.ref fD) = true) (mD : mg "_law_due" = some (.ref fD)) :
    GOk P w K mg base CX0 3 f fd ["_law_thing", "_law_other"] spOthers := by
  refine gok0 F scOthers (fun vs H Q E h => ?_) (fun cdv A outer s H vs Q E hr gd h => ?_)
  · obtain ⟨v, u, d, e, rfl, _⟩ := h
    rfl
  obtain ⟨v, u, d, e, rfl, hv, hu, ⟨good1, good2, good3⟩, q⟩ := h
  refine ⟨_, pss_cons (ps_if (pt_cmpR op_ne (pe_callB (call_reprD gd hr.units BM) (by rfl) B.repr PyProof.Rows.boot_repr (pa_cons (pe_lst (pa_cons (pe_getA (pe_new M.m20 hr rfl (pv 0))) (pa_cons (pe_getA (pe_newK M.m20 hr rfl (pv 1))) pa_nil))) pa_nil)) (pe_callB (call_reprD gd hr.units BM) (by rfl) B.repr PyProof.Rows.boot_repr (pa_cons (pe_lst (pa_cons (pv 0) (pa_cons (pv 1) pa_nil))) pa_nil)) (nomark _)) (pss_one (ps_ret pe_bl)) pss_nil)
    (pss_cons (ps_if (PW.pt (pw_or (pt_cmpR (op_neQ hr.units) (pe_call GM (hr.mono (by decide)) rfl mM kM bM .nil pass0 (pa_cons (pe_new M.m20 hr rfl (pv 0)) pa_nil)) (pe_call GD (hr.mono (by decide)) rfl mD kD bD .nil pass0 (pa_cons pe_int (pa_cons pe_int pa_nil))) (nomark _))
        (pw_or1 (pt_cmpR (op_neQ hr.units) (pe_call GM (hr.mono (by decide)) rfl mM kM bM .nil pass0 (pa_cons (pe_mk0 F21 q21 m21 k21 rfl) pa_nil)) (pe_call GD (hr.mono (by decide)) rfl mD kD bD .nil pass0 (pa_cons pe_int (pa_cons pe_int pa_nil))) (nomark _))))) (pss_one (ps_ret pe_bl)) pss_nil)
    (pss_cons (ps_set (i := 2) scOthers.nd rfl (Or.inl rfl) (pe_lst (pa_cons (pe_getA (pe_new M.m22 hr rfl (pv 0))) (pa_cons (pe_getA (pe_newK M.m23 hr rfl (pv 0))) (pa_cons (pe_getA (pe_new M.m24 hr rfl (pv 0))) pa_nil)))))
    (pss_cons (ps_expr (pe_bm PySem.F.plainAttrs_list PySem.F.slot_list_append PySem.F.type_list_append mt_append (pv 2) (pa_cons (pe_getA (pe_newK M.m25 hr rfl (pv 0))) pa_nil)))
    (pss_cons (ps_if (pt_cmpR op_ne (pe_callB (call_reprD gd hr.units BM) (by rfl) B.repr PyProof.Rows.boot_repr (pa_cons (pv 2) pa_nil)) (pe_callB (call_reprD gd hr.units BM) (by rfl) B.repr PyProof.Rows.boot_repr (pa_cons (pe_op op_rep (pe_lst (pa_cons (pv 0) pa_nil)) pe_int) pa_nil)) (nomark _)) (pss_one (ps_ret pe_bl)) pss_nil)
    (pss_cons (ps_set (i := 3) scOthers.nd rfl (Or.inr rfl) (pe_lst (pa_cons (pe_newK M.m22 hr rfl (pv 0)) (pa_cons (pe_new M.m23 hr rfl (pv 0)) (pa_cons (pe_newK M.m24 hr rfl (pv 0)) (pa_cons (pe_new M.m25 hr rfl (pv 0)) (pa_cons (pe_new2 M.m26 hr rfl (pv 0) (pv 1)) pa_nil)))))))
    (pss_cons (ps_if (pt_cmpR (op_neQ hr.units) (pe_lc (te := tCall (spMarks c) [] E0 (tCons (tOp (rIxL K) (tVar 3) (tVar 6)) tNil)) (own := [("_law_k", 6)]) (g := gName 6) (tt := tYes) rfl scOthers.nd (pi_range1 rfl B.range (pa_cons pe_int pa_nil)) (blkOk_by (N := ["_law_thing", "_law_other", "_law_told", "_law_rows", "_law_broken", "_law_named", "_law_k"]) (sc := defScope sOthers) (by decide +kernel))
        (fun _ _ _ _ _ => pg_name (i := 6) scOthers.nd rfl (Or.inl rfl)) (fun _ _ _ _ _ => pts_nil)
        (fun _ _ _ _ _ => (pe_call GM (hr.mono (by decide)) rfl mM kM bM .nil pass0 (pa_cons (pe_ix ix_list (pv 3) (pv 6) (fun _ _ => rfl)) pa_nil)))) (pe_lc (own := [("_law_k", 6)]) (g := gName 6) (tt := tYes) rfl scOthers.nd (pi_range1 rfl B.range (pa_cons pe_int pa_nil)) (blkOk_by (N := ["_law_thing", "_law_other", "_law_told", "_law_rows", "_law_broken", "_law_named", "_law_k"]) (sc := defScope sOthers) (by decide +kernel))
        (fun _ _ _ _ _ => pg_name (i := 6) scOthers.nd rfl (Or.inl rfl)) (fun _ _ _ _ _ => pts_nil)
        (fun _ _ _ _ _ => (pe_call GD (hr.mono (by decide)) rfl mD kD bD .nil pass0 (pa_cons pe_int (pa_cons (pe_op op_add pe_int (pv 6)) pa_nil))))) (nomark _)) (pss_one (ps_ret pe_bl)) pss_nil)
    (pss_cons (ps_par (i := 4) (j := 5) rfl scOthers.nd rfl rfl (by decide) rfl rfl (pa_cons (pe_new2 M.m26 hr rfl (pv 0) (pv 1)) (pa_cons (pe_new2K M.m26 hr rfl (pv 1) (pv 0)) pa_nil)) rfl)
    (pss_one (ps_ret (pe_cmpR op_eq (pe_callB (call_reprD gd hr.units BM) (by rfl) B.repr PyProof.Rows.boot_repr (pa_cons (pe_lst (pa_cons (pe_getA (pv 4)) (pa_cons (pe_getA (pv 4)) (pa_cons (pe_getA (pv 5)) (pa_cons (pe_getA (pv 5)) pa_nil))))) pa_nil))
      (pe_callB (call_reprD gd hr.units BM) (by rfl) B.repr PyProof.Rows.boot_repr (pa_cons (pe_lst (pa_cons (pv 0) (pa_cons (pv 1) (pa_cons (pv 1) (pa_cons (pv 0) pa_nil))))) pa_nil)) (nomark _))))))))))), ?_⟩

  refine seq_if_op ?_
  refine ⟨_, rfl, fun a1 H1 n1 s1 e1 => ⟨a1, c 20, _, _, rfl, e1, EX 20 (by decide) (by decide), M.m20.no, (by first | rfl | simp [List.lookup]), ?_⟩⟩
  refine ⟨_, rfl, fun a2 H2 n2 s2 e2 => ⟨a2, c 20, _, _, rfl, e2, EX 20 (by decide) (by decide), M.m20.no, (by first | rfl | simp [List.lookup]), ?_⟩⟩
  refine ⟨(by show 2 ≤ sizeLine; decide), fun p3 n3 => ?_⟩
  have t3 := (s1.trans s2).trans (same_new n3 (.lst [v, u]))
  refine ⟨_, .list [d, e], rfl, .lst upd_same (.cons (Dq.same t3 _ _ hv) (.cons (Dq.same t3 _ _ hu) .nil)), good1, ?_⟩
  refine ⟨_, rfl, _, rfl, (by show 2 ≤ sizeLine; decide), fun p4 n4 => ?_⟩
  have t4 := t3.trans (same_new n4 (.lst [v, u]))
  refine ⟨_, .list [d, e], rfl, .lst upd_same (.cons (Dq.same t4 _ _ hv) (.cons (Dq.same t4 _ _ hu) .nil)), good1, ?_⟩
  refine ⟨rfl, _, rfl, iteNS rfl (next_go ?_)⟩
  refine ⟨_, rfl, fun a5 H5 n5 s5 e5 => ⟨a5, 20, rfl, by decide, by decide, e5.x, fun p6 H6 s6 n6 e6 => ?_⟩⟩
  refine ⟨1, 20, rfl, fun p7 H7 s7 n7 e7 => ?_⟩
  have d6 : Dq H7 (.ref p6) (boolsD 1 20) := .lst (s7 _ _ e6) (bools_dq _)
  have d7 : Dq H7 (.ref p7) (boolsD 1 20) := .lst e7 (bools_dq _)
  refine ⟨_, _, d6, d7, shaped20, shaped20, _, rfl, ?_⟩
  rw [eqv_self shaped20]
  refine iteF ?_
  refine fun a8 n8 => ⟨a8, 21, rfl, by decide, by decide, ⟨none, upd_same, fun x h => nomatch h⟩, fun p9 H9 s9 n9 e9 => ?_⟩
  refine ⟨1, 21, rfl, fun p10 H10 s10 n10 e10 => ?_⟩
  have d9 : Dq H10 (.ref p9) (boolsD 1 21) := .lst (s10 _ _ e9) (bools_dq _)
  have d10 : Dq H10 (.ref p10) (boolsD 1 21) := .lst e10 (bools_dq _)
  refine ⟨_, _, d9, d10, shaped21, shaped21, _, rfl, ?_⟩
  rw [eqv_self shaped21]
  refine iteF (next_go ?_)
  have t10 := ((((t4.trans s5).trans s6).trans s7).trans (same_new n8 _)).trans (s9.trans s10)
  refine seq_set ?_
  refine ⟨_, rfl, fun a11 H11 n11 s11 e11 => ⟨a11, c 22, _, _, rfl, e11, EX 22 (by decide) (by decide), M.m22.no, (by first | rfl | simp [List.lookup]), ?_⟩⟩
  refine ⟨_, rfl, fun a12 H12 n12 s12 e12 => ⟨a12, c 23, _, _, rfl, e12, EX 23 (by decide) (by decide), M.m23.no, (by first | rfl | simp [List.lookup]), ?_⟩⟩
  refine ⟨_, rfl, fun a13 H13 n13 s13 e13 => ⟨a13, c 24, _, _, rfl, e13, EX 24 (by decide) (by decide), M.m24.no, (by first | rfl | simp [List.lookup]), ?_⟩⟩
  refine ⟨(by show 3 ≤ sizeLine; decide), fun p14 n14 => ?_⟩
  have t13 := t10.trans ((s11.trans s12).trans s13)
  refine ⟨_, rfl, .inl ⟨rfl, _, SqL.of upd_same⟩, ?_⟩
  refine ⟨_, rfl, fun a15 H15 n15 s15 e15 => ⟨a15, c 25, _, _, rfl, e15, EX 25 (by decide) (by decide), M.m25.no, (by first | rfl | simp [List.lookup]), ?_⟩⟩
  refine ⟨p14, _, _, rfl, rfl, s15 _ _ upd_same, (by show 3 < sizeLine; decide), ?_⟩
  have t15 : Same H (upd H15 p14 (.lst ([v, v, v] ++ [v]))) := fun b o hb => by
    have z := t13 _ _ hb
    rw [upd_ne (ne_of_none z n14)]
    exact s15 _ _ (upd_other z n14)
  refine ⟨_, rfl, _, .list [d, d, d, d], rfl, .lst upd_same (.cons (Dq.same t15 _ _ hv) (.cons (Dq.same t15 _ _ hv) (.cons (Dq.same t15 _ _ hv) (.cons (Dq.same t15 _ _ hv) .nil)))), good2, ?_⟩
  refine ⟨_, rfl, (by show 1 ≤ sizeLine; decide), fun p16 n16 => ?_⟩
  refine ⟨p16, _, _, rfl, rfl, upd_same, by decide, by decide, (by show 1 * 4 ≤ sizeLine; decide), fun p17 n17 => ?_⟩
  have t17 := (t15.trans (same_new n16 (.lst [v]))).trans (same_new n17 (.lst (List.replicate (4 : Int).toNat [v]).flatten))
  refine ⟨_, .list [d, d, d, d], rfl, .lst upd_same (show DqAll _ [v, v, v, v] _ from (.cons (Dq.same t17 _ _ hv) (.cons (Dq.same t17 _ _ hv) (.cons (Dq.same t17 _ _ hv) (.cons (Dq.same t17 _ _ hv) .nil))))), good2, ?_⟩
  refine ⟨rfl, _, rfl, iteNS rfl (next_go ?_)⟩
  refine seq_set ⟨_, rfl, fun b1 I1 m1 w1 f1 => ⟨_, rfl, fun b2 I2 m2 w2 f2 => ⟨_, rfl, fun b3 I3 m3 w3 f3 => ⟨_, rfl, fun b4 I4 m4 w4 f4 => ⟨_, _, rfl, rfl, fun b5 I5 m5 w5 f5 => ⟨(by show 5 ≤ sizeLine; decide), fun p18 n18 => ?_⟩⟩⟩⟩⟩⟩
  have u18 := same_new n18 (.lst [V.ref b1, .ref b2, .ref b3, .ref b4, .ref b5])
  have t18 := t17.trans (((((w1.trans w2).trans w3).trans w4).trans w5).trans u18)
  have R : RowsX (upd I5 p18 (.lst [V.ref b1, .ref b2, .ref b3, .ref b4, .ref b5])) c 22 [V.ref b1, .ref b2, .ref b3, .ref b4, .ref b5] :=
    .cons (f1.x.same ((((w2.trans w3).trans w4).trans w5).trans u18)) (.cons (f2.x.same (((w3.trans w4).trans w5).trans u18)) (.cons (f3.x.same ((w4.trans w5).trans u18)) (.cons (f4.x.same (w5.trans u18)) (.cons (f5.x.same u18) .nil))))
  refine seq_if_op (marksX (m := 5) (o := 22) (i1 := 3) upd_same R (by show 5 ≤ 5; decide) (by decide) (by decide) (by decide) (fun _ => rfl) (fun _ => rfl) (fun _ => rfl) ?_)
  intro D3 G5 v5 d5
  refine duesL (m := 5) (o := 22) (b := 2) (by decide) (fun _ => rfl) (fun _ => rfl) ?_
  intro D4 G6 v6 d6x
  rw [marks5] at d5
  refine ⟨_, _, Dq.same v6 _ _ d5, d6x, shaped5, shaped5, _, rfl, ?_⟩
  rw [eqv_self shaped5]
  refine iteF (next_go ?_)
  have t19 := (t18.trans v5).trans v6
  refine ⟨_, _, rfl, rfl, fun x1 J1 y1 z1 g1 => ⟨_, _, rfl, rfl, fun x2 J2 y2 z2 g2 => ⟨_, _, rfl, ?_⟩⟩⟩
  refine ⟨_, rfl, x1, c 26, _, _, rfl, g1.same z2, EX 26 (by decide) (by decide), M.m26.no, (by first | rfl | simp [List.lookup]), ?_⟩
  refine ⟨_, rfl, x1, c 26, _, _, rfl, g1.same z2, EX 26 (by decide) (by decide), M.m26.no2, (by first | rfl | simp [List.lookup]), ?_⟩
  refine ⟨_, rfl, x2, c 26, _, _, rfl, g2, EX 26 (by decide) (by decide), M.m26.no, (by first | rfl | simp [List.lookup]), ?_⟩
  refine ⟨_, rfl, x2, c 26, _, _, rfl, g2, EX 26 (by decide) (by decide), M.m26.no2, (by first | rfl | simp [List.lookup]), ?_⟩
  have t20 := (t19.trans z1).trans z2
  refine ⟨(by show 4 ≤ sizeLine; decide), fun p21 n21 => ?_⟩
  have t21 := t20.trans (same_new n21 (.lst [v, u, u, v]))
  refine ⟨_, .list [d, e, e, d], rfl, .lst upd_same (.cons (Dq.same t21 _ _ hv) (.cons (Dq.same t21 _ _ hu) (.cons (Dq.same t21 _ _ hu) (.cons (Dq.same t21 _ _ hv) .nil)))), good3, ?_⟩
  refine ⟨_, rfl, _, rfl, _, rfl, _, rfl, (by show 4 ≤ sizeLine; decide), fun p22 n22 => ?_⟩
  have t22 := t21.trans (same_new n22 (.lst [v, u, u, v]))
  refine ⟨_, .list [d, e, e, d], rfl, .lst upd_same (.cons (Dq.same t22 _ _ hv) (.cons (Dq.same t22 _ _ hu) (.cons (Dq.same t22 _ _ hu) (.cons (Dq.same t22 _ _ hv) .nil)))), good3, ?_⟩
  refine ⟨rfl, ?_⟩
  rw [decide_eq_true rfl]
  exact q _ t22
end
end K8

namespace K8
open PySem PySem.Spec PyProof.Rows L2 Hx
abbrev sRight : Stmt := top 43
def menuD : List PyData := [.none, .bool true, .int 0, .int (-1), .str "x", .str "", .tuple [], .tuple [.str "a", .int 1], .list [], .list [.str "x"], .dict [], .dict [(.str "a", .int 1)], .int 1000000000000000000000000000000]
instance (d : PyData) : Decidable (Small d) := by unfold Small; infer_instance
instance (d : PyData) : Decidable (Good d) := by unfold Good; infer_instance
instance (d e : PyData) : Decidable (Pair2 d e) := by unfold Pair2; infer_instance
theorem menu_good : ∀ d ∈ menuD, Good d := by decide +kernel
theorem menu_pair : ∀ d ∈ menuD, ∀ e ∈ menuD, Pair2 d e := by decide +kernel
theorem But.without {d : Addr} {H H' : Hp} (b : But d H H') : Same (without d H) (without d H') := fun a o h => by
  obtain ⟨n, e⟩ := without_some h
  exact without_at n (b a o n e)
theorem DqAll.mem {H : Hp} {v : V} : ∀ {vs : List V} {ds : List PyData}, DqAll H vs ds → v ∈ vs → ∃ d, d ∈ ds ∧ Dq H v d
  | _, _, .nil, h => nomatch h
  | _, _, .cons (d := d) a r, h => by
    rcases List.mem_cons.mp h with rfl | h
    · exact ⟨d, List.mem_cons_self .., a⟩
    · obtain ⟨e, m, q⟩ := DqAll.mem r h
      exact ⟨e, List.mem_cons_of_mem _ m, q⟩
section
variable {P : Program} {w : World} {K : PySem.W.Frag} {mg : Str → Option Value} {base : Heap}
theorem scRight : FnScope ["_law_deck_here", "_law_things", "_law_thing", "_law_other"] ["_law_deck_here"] (defScope sRight) :=
  ⟨rfl, rfl, rfl, by decide +kernel, rfl, by decide +kernel, by decide +kernel⟩
theorem ok_right {f fO fV fT : Addr} {fd fdO fdV fdT : FuncData} (F : Fun K "_law_right" "_law_right" sRight f fd)
    (GO : FnOk P w K mg base CX0 2 fO fdO ["_law_deck_here", "_law_menu"] (spOf K)) (bO : Binds K fdO ["_law_deck_here", "_law_menu"] []) (kO : PySem.W.keepIn K (.ref fO) = true) (mO : mg "_law_of" = some (.ref fO))
    (GV : GOk P w K mg base CX0 3 fV fdV ["_law_thing"] spValues) (bV : Binds K fdV ["_law_thing"] []) (kV : PySem.W.keepIn K (.ref fV) = true) (mV : mg "_law_values" = some (.ref fV))
    (GT : GOk P w K mg base CX0 3 fT fdT ["_law_thing", "_law_other"] spOthers) (bT : Binds K fdT ["_law_thing", "_law_other"] []) (kT : PySem.W.keepIn K (.ref fT) = true) (mT : mg "_law_others" = some (.ref fT)) :
    GOk P w K mg base CX0 4 f fd ["_law_deck_here"] spRight := by
  refine gok0 F scRight (fun vs H Q E h => ?_) (fun cdv A outer s H vs Q E hr gd h => ?_)
  · obtain ⟨d, rfl, _⟩ := h
    rfl
  obtain ⟨d, rfl, hd, q⟩ := h
  refine ⟨_, pss_cons (ps_set (i := 1) scRight.nd rfl (Or.inl rfl) (pe_lst (pa_cons pe_non (pa_cons pe_bl (pa_cons pe_int (pa_cons (pe_un un_neg pe_int) (pa_cons pe_str (pa_cons pe_str (pa_cons (pe_tup pa_nil) (pa_cons (pe_tup (pa_cons pe_str (pa_cons pe_int pa_nil))) (pa_cons (pe_lst pa_nil) (pa_cons (pe_lst (pa_cons pe_str pa_nil)) (pa_cons pe_dnewK (pa_cons (pe_disp (pps_cons pe_str pe_int pps_nil) rfl rfl (by simp) (by decide)) (pa_cons (pe_op op_pow pe_int pe_int) pa_nil)))))))))))))))
    (pss_cons (ps_par (i := 2) (j := 3) rfl scRight.nd rfl rfl (by decide) rfl rfl (pa_cons (pe_call GO (hr.mono (by decide)) rfl mO kO bO .nil pass0 (pa_cons (pv 0) (pa_cons (pv 1) pa_nil))) (pa_cons (pe_call GO (hr.mono (by decide)) rfl mO kO bO .nil pass0 (pa_cons (pv 0) (pa_cons (pv 1) pa_nil))) pa_nil)) rfl)
    (pss_one (ps_ret (pe_and (pe_callG GV hr gd rfl mV kV bV .nil pass0 (pa_cons (pv 2) pa_nil)) (pe_one (pe_callG GT hr gd rfl mT kT bT .nil pass0 (pa_cons (pv 2) (pa_cons (pv 3) pa_nil)))))))), ?_⟩
  obtain ⟨hd0, hdk⟩ : (∃ o, H d = some o) ∧ True := by
    obtain ⟨a, m, c, _, _, e⟩ := hd
    exact ⟨⟨_, e⟩, trivial⟩
  obtain ⟨od, hdo⟩ := hd0
  refine seq_set ?_
  refine ⟨_, rfl, (by show 0 ≤ sizeLine; decide), fun a1 n1 => ?_⟩
  refine ⟨(by show 2 ≤ sizeLine; decide), fun a2 n2 => ?_⟩
  refine ⟨(by show 0 ≤ sizeLine; decide), fun a3 n3 => ?_⟩
  refine ⟨(by show 1 ≤ sizeLine; decide), fun a4 n4 => ?_⟩
  refine fun a5 n5 => ?_
  refine fun a6 n6 => ?_
  refine ⟨upd_same, [(.inr "a", .int 1)], rfl, (by decide), ?_⟩
  refine ⟨_, _, rfl, rfl, ⟨by decide, by decide, by decide⟩, ?_⟩
  refine ⟨(by show 13 ≤ sizeLine; decide), fun p n7 => ?_⟩
  have g1 := same_new n1 (.tup [])
  have g2 := same_new n2 (.tup [V.str "a", .int 1])
  have g3 := same_new n3 (.lst [])
  have g4 := same_new n4 (.lst [V.str "x"])
  have g5 := same_new n5 (.dK [])
  have d1 := g1 _ _ hdo
  have d2 := g2 _ _ d1
  have d3 := g3 _ _ d2
  have d4 := g4 _ _ d3
  have d5 := g5 _ _ d4
  have x1 := ne_of_none hdo n1
  have x2 := ne_of_none d1 n2
  have x3 := ne_of_none d2 n3
  have x4 := ne_of_none d3 n4
  have x5 := ne_of_none d4 n5
  have x6 := ne_of_none d5 n6
  have g6 : ∀ o, Same _ (upd (upd _ a6 (.dK [])) a6 o) := fun o b u hb => by
    rw [upd_ne (ne_of_none hb n6), upd_ne (ne_of_none hb n6)]
    exact hb
  have g7 := same_new n7 (.lst [V.non, .bl true, .int 0, .int (-1), .str "x", .str "", .ref a1, .ref a2, .ref a3, .ref a4, .ref a5, .ref a6, .int ((10 : Int) ^ (30 : Int).toNat)])
  have d6 := g6 (.dK (mergeK [] [(.inr "a", .int 1)])) _ _ d5
  have x7 := ne_of_none d6 n7
  have e5 := (g6 (.dK (mergeK [] [(.inr "a", .int 1)]))).trans g7
  have e4 := g5.trans e5
  have e3 := g4.trans e4
  have e2 := g3.trans e3
  have e1 := g2.trans e2
  have e0 := g1.trans e1
  have pw : (10 : Int) ^ (30 : Int).toNat = 1000000000000000000000000000000 := by decide +kernel
  have menu : DqAll (without d _) [V.non, .bl true, .int 0, .int (-1), .str "x", .str "", .ref a1, .ref a2, .ref a3, .ref a4, .ref a5, .ref a6, .int ((10 : Int) ^ (30 : Int).toNat)] menuD :=
    .cons .non (.cons (.bl _) (.cons (.int _) (.cons (.int _) (.cons (.str _) (.cons (.str _)
      (.cons (.tup (without_at (Ne.symm x1) (e1 _ _ upd_same)) .nil) (.cons (.tup (without_at (Ne.symm x2) (e2 _ _ upd_same)) (.cons (.str _) (.cons (.int _) .nil)))
      (.cons (.lst (without_at (Ne.symm x3) (e3 _ _ upd_same)) .nil) (.cons (.lst (without_at (Ne.symm x4) (e4 _ _ upd_same)) (.cons (.str _) .nil))
      (.cons (.dct (without_at (Ne.symm x5) (e5 _ _ upd_same)) .nil) (.cons (.dct (without_at (Ne.symm x6) (g7 _ _ upd_same)) (.cons (k := .inr "a") (.int 1) .nil))
      (.cons (by rw [pw]; exact .int _) .nil))))))))))))
  refine ⟨_, rfl, _, rfl, d, p, _, rfl, x7, SqL.of upd_same, (by show 0 < 13; decide), (by show 13 ≤ 1000; decide), ?_, fun v H8 hv b8 hd8 => ?_⟩
  · obtain ⟨a, m, k, h1, h2, e⟩ := hd
    exact ⟨a, m, k, h1, h2, e0 _ _ e⟩
  refine ⟨_, rfl, _, rfl, d, p, _, rfl, x7, b8.seq (Ne.symm x7) (SqL.of upd_same), (by show 0 < 13; decide), (by show 13 ≤ 1000; decide), hd8, fun u H9 hu b9 hd9 => ?_⟩
  obtain ⟨dv, mv, qv⟩ := DqAll.mem menu hv
  obtain ⟨du, mu, qu⟩ := DqAll.mem menu hu
  have s9 := (K8.But.without (b8.trans b9)).trans (without_same (D := d))
  refine ⟨_, _, rfl, ?_⟩
  refine ⟨_, rfl, v, dv, rfl, Dq.same s9 _ _ qv, menu_good _ mv, fun H10 s10 => ⟨true, rfl, iteT ?_⟩⟩
  refine ⟨_, rfl, _, rfl, v, u, dv, du, rfl, Dq.same (s9.trans s10) _ _ qv, Dq.same (s9.trans s10) _ _ qu, menu_pair _ mv _ mu, fun H11 s11 => ?_⟩
  exact q H11 ((((But.of e0).trans b8).trans b9).trans (But.of (s10.trans s11)))
end
end K8

namespace K8
open PySem PySem.Spec PyProof.Rows L2 Hx
abbrev mroOf (B : String) : List Value := [Value.type B, Value.type "Exception", Value.type "BaseException", Value.type "object"]
abbrev Exk (K : PySem.W.Frag) (C : Addr) (B : String) : Prop := ExK K C B (B ++ ".__new__") (B ++ ".__init__") (mroOf B)
/-- what is seen of an own class of errors with an __init__ -/
structure EF (K : PySem.W.Frag) (x qual f : Str) (st : Stmt) (B n i : String) (C fI : Addr) : Prop where
  g : PySem.W.nsIn K mainGlobals x = some (some (.ref C))
  ex : ExK K C B n i (mroOf B)
  hi : PySem.W.findIn K (.ref C) "__init__" = some (some (.ref fI))
  tI : PySem.W.typeIn K (.ref fI) = some (.type "function")
  fn : ∃ fd, Fun K "__init__" qual st fI fd
  free : PySem.W.takerIn K C f = some none
  no : PySem.W.findIn K (.ref C) f = some none
/-- what is seen of a def of the law -/
structure DF (K : PySem.W.Frag) (x : Str) (st : Stmt) (f : Addr) : Prop where
  g : PySem.W.nsIn K mainGlobals x = some (some (.ref f))
  fn : ∃ fd, Fun K x x st f fd
abbrev st6 : Stmt := inClass (top 2) 0
abbrev st7 : Stmt := inClass (top 3) 0
abbrev st8 : Stmt := inClass (top 4) 0
abbrev st9 : Stmt := inClass (top 5) 0
abbrev st10 : Stmt := inClass (top 6) 0
abbrev st11 : Stmt := inClass (top 7) 0
abbrev st12 : Stmt := inClass (top 8) 0
abbrev st13 : Stmt := inClass (top 9) 0
abbrev st14 : Stmt := inClass (top 10) 0
abbrev st15 : Stmt := inClass (top 11) 0
abbrev st16 : Stmt := inClass (top 12) 0
abbrev st17 : Stmt := inClass (top 13) 0
abbrev st18 : Stmt := inClass (top 14) 0
abbrev st19 : Stmt := inClass (top 15) 0
abbrev st20 : Stmt := inClass (top 17) 0
abbrev st22 : Stmt := inClass (top 20) 0
abbrev st23 : Stmt := inClass (top 21) 0
abbrev st24 : Stmt := inClass (top 22) 0
abbrev st25 : Stmt := inClass (top 23) 0
abbrev st26 : Stmt := inClass (top 24) 0
section
variable {P : Program} {w : World} {K : PySem.W.Frag} {mg : Str → Option Value} {base h : Heap} {C fI : Addr} {B n i : String}
theorem sc6 : FnScope ["self", "given"] ["self", "given"] (defScope st6) := ⟨rfl, rfl, rfl, by decide +kernel, rfl, by decide +kernel, by decide +kernel⟩
theorem mk6 (X : K.In h) (G : h.Ns mainGlobals mg) (E : EF K "InvalidNumber" "InvalidNumber.__init__" "given" st6 B n i C fI) : MkC P w K mg base "InvalidNumber" C "given" := by
  obtain ⟨fd, F⟩ := E.fn
  have b := F.binds (ps := ["self", "given"]) fun _ _ _ _ _ _ us hl => match us, hl with | [_, _], _ => rfl
  have ok := ok_in1 (P := P) (w := w) (mg := mg) (base := base) F sc6 rfl (Or.inl rfl) (Or.inl rfl) (by decide) (by decide) E.ex E.free
  obtain ⟨oc, od, kV, doc, pm, an, cdv, ct, osl, rfl, lk, hcd⟩ := F.ex
  exact ⟨⟨fI, _, B, n, i, _, E.ex, E.hi, E.tI, ok, b, fun s self w1 => .of_eq rfl⟩, PySem.W.mg_of X G E.g, E.no⟩
theorem sc7 : FnScope ["self", "given"] ["self", "given"] (defScope st7) := ⟨rfl, rfl, rfl, by decide +kernel, rfl, by decide +kernel, by decide +kernel⟩
theorem mk7 (X : K.In h) (G : h.Ns mainGlobals mg) (E : EF K "InvalidName" "InvalidName.__init__" "given" st7 B n i C fI) : MkC P w K mg base "InvalidName" C "given" := by
  obtain ⟨fd, F⟩ := E.fn
  have b := F.binds (ps := ["self", "given"]) fun _ _ _ _ _ _ us hl => match us, hl with | [_, _], _ => rfl
  have ok := ok_in1 (P := P) (w := w) (mg := mg) (base := base) F sc7 rfl (Or.inl rfl) (Or.inl rfl) (by decide) (by decide) E.ex E.free
  obtain ⟨oc, od, kV, doc, pm, an, cdv, ct, osl, rfl, lk, hcd⟩ := F.ex
  exact ⟨⟨fI, _, B, n, i, _, E.ex, E.hi, E.tI, ok, b, fun s self w1 => .of_eq rfl⟩, PySem.W.mg_of X G E.g, E.no⟩
theorem sc8 : FnScope ["self", "given"] ["self", "given"] (defScope st8) := ⟨rfl, rfl, rfl, by decide +kernel, rfl, by decide +kernel, by decide +kernel⟩
theorem mk8 (X : K.In h) (G : h.Ns mainGlobals mg) (E : EF K "InvalidSign" "InvalidSign.__init__" "given" st8 B n i C fI) : MkC P w K mg base "InvalidSign" C "given" := by
  obtain ⟨fd, F⟩ := E.fn
  have b := F.binds (ps := ["self", "given"]) fun _ _ _ _ _ _ us hl => match us, hl with | [_, _], _ => rfl
  have ok := ok_in1 (P := P) (w := w) (mg := mg) (base := base) F sc8 rfl (Or.inl rfl) (Or.inl rfl) (by decide) (by decide) E.ex E.free
  obtain ⟨oc, od, kV, doc, pm, an, cdv, ct, osl, rfl, lk, hcd⟩ := F.ex
  exact ⟨⟨fI, _, B, n, i, _, E.ex, E.hi, E.tI, ok, b, fun s self w1 => .of_eq rfl⟩, PySem.W.mg_of X G E.g, E.no⟩
theorem sc9 : FnScope ["self", "given"] ["self", "given"] (defScope st9) := ⟨rfl, rfl, rfl, by decide +kernel, rfl, by decide +kernel, by decide +kernel⟩
theorem mk9 (X : K.In h) (G : h.Ns mainGlobals mg) (E : EF K "InvalidWord" "InvalidWord.__init__" "given" st9 B n i C fI) : MkC P w K mg base "InvalidWord" C "given" := by
  obtain ⟨fd, F⟩ := E.fn
  have b := F.binds (ps := ["self", "given"]) fun _ _ _ _ _ _ us hl => match us, hl with | [_, _], _ => rfl
  have ok := ok_in1 (P := P) (w := w) (mg := mg) (base := base) F sc9 rfl (Or.inl rfl) (Or.inl rfl) (by decide) (by decide) E.ex E.free
  obtain ⟨oc, od, kV, doc, pm, an, cdv, ct, osl, rfl, lk, hcd⟩ := F.ex
  exact ⟨⟨fI, _, B, n, i, _, E.ex, E.hi, E.tI, ok, b, fun s self w1 => .of_eq rfl⟩, PySem.W.mg_of X G E.g, E.no⟩
theorem sc10 : FnScope ["self", "given"] ["self", "given"] (defScope st10) := ⟨rfl, rfl, rfl, by decide +kernel, rfl, by decide +kernel, by decide +kernel⟩
theorem mk10 (X : K.In h) (G : h.Ns mainGlobals mg) (E : EF K "InvalidText" "InvalidText.__init__" "given" st10 B n i C fI) : MkC P w K mg base "InvalidText" C "given" := by
  obtain ⟨fd, F⟩ := E.fn
  have b := F.binds (ps := ["self", "given"]) fun _ _ _ _ _ _ us hl => match us, hl with | [_, _], _ => rfl
  have ok := ok_in1 (P := P) (w := w) (mg := mg) (base := base) F sc10 rfl (Or.inl rfl) (Or.inl rfl) (by decide) (by decide) E.ex E.free
  obtain ⟨oc, od, kV, doc, pm, an, cdv, ct, osl, rfl, lk, hcd⟩ := F.ex
  exact ⟨⟨fI, _, B, n, i, _, E.ex, E.hi, E.tI, ok, b, fun s self w1 => .of_eq rfl⟩, PySem.W.mg_of X G E.g, E.no⟩
theorem sc11 : FnScope ["self", "given"] ["self", "given"] (defScope st11) := ⟨rfl, rfl, rfl, by decide +kernel, rfl, by decide +kernel, by decide +kernel⟩
theorem mk11 (X : K.In h) (G : h.Ns mainGlobals mg) (E : EF K "InvalidExpression" "InvalidExpression.__init__" "given" st11 B n i C fI) : MkC P w K mg base "InvalidExpression" C "given" := by
  obtain ⟨fd, F⟩ := E.fn
  have b := F.binds (ps := ["self", "given"]) fun _ _ _ _ _ _ us hl => match us, hl with | [_, _], _ => rfl
  have ok := ok_in1 (P := P) (w := w) (mg := mg) (base := base) F sc11 rfl (Or.inl rfl) (Or.inl rfl) (by decide) (by decide) E.ex E.free
  obtain ⟨oc, od, kV, doc, pm, an, cdv, ct, osl, rfl, lk, hcd⟩ := F.ex
  exact ⟨⟨fI, _, B, n, i, _, E.ex, E.hi, E.tI, ok, b, fun s self w1 => .of_eq rfl⟩, PySem.W.mg_of X G E.g, E.no⟩
theorem sc12 : FnScope ["self", "given"] ["self", "given"] (defScope st12) := ⟨rfl, rfl, rfl, by decide +kernel, rfl, by decide +kernel, by decide +kernel⟩
theorem mk12 (X : K.In h) (G : h.Ns mainGlobals mg) (E : EF K "InvalidWish" "InvalidWish.__init__" "given" st12 B n i C fI) : MkC P w K mg base "InvalidWish" C "given" := by
  obtain ⟨fd, F⟩ := E.fn
  have b := F.binds (ps := ["self", "given"]) fun _ _ _ _ _ _ us hl => match us, hl with | [_, _], _ => rfl
  have ok := ok_in1 (P := P) (w := w) (mg := mg) (base := base) F sc12 rfl (Or.inl rfl) (Or.inl rfl) (by decide) (by decide) E.ex E.free
  obtain ⟨oc, od, kV, doc, pm, an, cdv, ct, osl, rfl, lk, hcd⟩ := F.ex
  exact ⟨⟨fI, _, B, n, i, _, E.ex, E.hi, E.tI, ok, b, fun s self w1 => .of_eq rfl⟩, PySem.W.mg_of X G E.g, E.no⟩
theorem sc13 : FnScope ["self", "given"] ["self", "given"] (defScope st13) := ⟨rfl, rfl, rfl, by decide +kernel, rfl, by decide +kernel, by decide +kernel⟩
theorem mk13 (X : K.In h) (G : h.Ns mainGlobals mg) (E : EF K "InvalidRounds" "InvalidRounds.__init__" "given" st13 B n i C fI) : MkC P w K mg base "InvalidRounds" C "given" := by
  obtain ⟨fd, F⟩ := E.fn
  have b := F.binds (ps := ["self", "given"]) fun _ _ _ _ _ _ us hl => match us, hl with | [_, _], _ => rfl
  have ok := ok_in1 (P := P) (w := w) (mg := mg) (base := base) F sc13 rfl (Or.inl rfl) (Or.inl rfl) (by decide) (by decide) E.ex E.free
  obtain ⟨oc, od, kV, doc, pm, an, cdv, ct, osl, rfl, lk, hcd⟩ := F.ex
  exact ⟨⟨fI, _, B, n, i, _, E.ex, E.hi, E.tI, ok, b, fun s self w1 => .of_eq rfl⟩, PySem.W.mg_of X G E.g, E.no⟩
theorem sc14 : FnScope ["self", "given"] ["self", "given"] (defScope st14) := ⟨rfl, rfl, rfl, by decide +kernel, rfl, by decide +kernel, by decide +kernel⟩
theorem mk14 (X : K.In h) (G : h.Ns mainGlobals mg) (E : EF K "NotABook" "NotABook.__init__" "given" st14 B n i C fI) : MkC P w K mg base "NotABook" C "given" := by
  obtain ⟨fd, F⟩ := E.fn
  have b := F.binds (ps := ["self", "given"]) fun _ _ _ _ _ _ us hl => match us, hl with | [_, _], _ => rfl
  have ok := ok_in1 (P := P) (w := w) (mg := mg) (base := base) F sc14 rfl (Or.inl rfl) (Or.inl rfl) (by decide) (by decide) E.ex E.free
  obtain ⟨oc, od, kV, doc, pm, an, cdv, ct, osl, rfl, lk, hcd⟩ := F.ex
  exact ⟨⟨fI, _, B, n, i, _, E.ex, E.hi, E.tI, ok, b, fun s self w1 => .of_eq rfl⟩, PySem.W.mg_of X G E.g, E.no⟩
theorem sc15 : FnScope ["self", "given"] ["self", "given"] (defScope st15) := ⟨rfl, rfl, rfl, by decide +kernel, rfl, by decide +kernel, by decide +kernel⟩
theorem mk15 (X : K.In h) (G : h.Ns mainGlobals mg) (E : EF K "NotPlaces" "NotPlaces.__init__" "given" st15 B n i C fI) : MkC P w K mg base "NotPlaces" C "given" := by
  obtain ⟨fd, F⟩ := E.fn
  have b := F.binds (ps := ["self", "given"]) fun _ _ _ _ _ _ us hl => match us, hl with | [_, _], _ => rfl
  have ok := ok_in1 (P := P) (w := w) (mg := mg) (base := base) F sc15 rfl (Or.inl rfl) (Or.inl rfl) (by decide) (by decide) E.ex E.free
  obtain ⟨oc, od, kV, doc, pm, an, cdv, ct, osl, rfl, lk, hcd⟩ := F.ex
  exact ⟨⟨fI, _, B, n, i, _, E.ex, E.hi, E.tI, ok, b, fun s self w1 => .of_eq rfl⟩, PySem.W.mg_of X G E.g, E.no⟩
theorem sc16 : FnScope ["self", "index"] ["self", "index"] (defScope st16) := ⟨rfl, rfl, rfl, by decide +kernel, rfl, by decide +kernel, by decide +kernel⟩
theorem mk16 (X : K.In h) (G : h.Ns mainGlobals mg) (E : EF K "InvalidHanded" "InvalidHanded.__init__" "index" st16 B n i C fI) : MkC P w K mg base "InvalidHanded" C "index" := by
  obtain ⟨fd, F⟩ := E.fn
  have b := F.binds (ps := ["self", "index"]) fun _ _ _ _ _ _ us hl => match us, hl with | [_, _], _ => rfl
  have ok := ok_in1 (P := P) (w := w) (mg := mg) (base := base) F sc16 rfl (Or.inl rfl) (Or.inl rfl) (by decide) (by decide) E.ex E.free
  obtain ⟨oc, od, kV, doc, pm, an, cdv, ct, osl, rfl, lk, hcd⟩ := F.ex
  exact ⟨⟨fI, _, B, n, i, _, E.ex, E.hi, E.tI, ok, b, fun s self w1 => .of_eq rfl⟩, PySem.W.mg_of X G E.g, E.no⟩
theorem sc17 : FnScope ["self", "index"] ["self", "index"] (defScope st17) := ⟨rfl, rfl, rfl, by decide +kernel, rfl, by decide +kernel, by decide +kernel⟩
theorem mk17 (X : K.In h) (G : h.Ns mainGlobals mg) (E : EF K "InvalidRows" "InvalidRows.__init__" "index" st17 B n i C fI) : MkC P w K mg base "InvalidRows" C "index" := by
  obtain ⟨fd, F⟩ := E.fn
  have b := F.binds (ps := ["self", "index"]) fun _ _ _ _ _ _ us hl => match us, hl with | [_, _], _ => rfl
  have ok := ok_in1 (P := P) (w := w) (mg := mg) (base := base) F sc17 rfl (Or.inl rfl) (Or.inl rfl) (by decide) (by decide) E.ex E.free
  obtain ⟨oc, od, kV, doc, pm, an, cdv, ct, osl, rfl, lk, hcd⟩ := F.ex
  exact ⟨⟨fI, _, B, n, i, _, E.ex, E.hi, E.tI, ok, b, fun s self w1 => .of_eq rfl⟩, PySem.W.mg_of X G E.g, E.no⟩
theorem sc18 : FnScope ["self", "index"] ["self", "index"] (defScope st18) := ⟨rfl, rfl, rfl, by decide +kernel, rfl, by decide +kernel, by decide +kernel⟩
theorem mk18 (X : K.In h) (G : h.Ns mainGlobals mg) (E : EF K "InvalidExchanges" "InvalidExchanges.__init__" "index" st18 B n i C fI) : MkC P w K mg base "InvalidExchanges" C "index" := by
  obtain ⟨fd, F⟩ := E.fn
  have b := F.binds (ps := ["self", "index"]) fun _ _ _ _ _ _ us hl => match us, hl with | [_, _], _ => rfl
  have ok := ok_in1 (P := P) (w := w) (mg := mg) (base := base) F sc18 rfl (Or.inl rfl) (Or.inl rfl) (by decide) (by decide) E.ex E.free
  obtain ⟨oc, od, kV, doc, pm, an, cdv, ct, osl, rfl, lk, hcd⟩ := F.ex
  exact ⟨⟨fI, _, B, n, i, _, E.ex, E.hi, E.tI, ok, b, fun s self w1 => .of_eq rfl⟩, PySem.W.mg_of X G E.g, E.no⟩
theorem sc19 : FnScope ["self", "index"] ["self", "index"] (defScope st19) := ⟨rfl, rfl, rfl, by decide +kernel, rfl, by decide +kernel, by decide +kernel⟩
theorem mk19 (X : K.In h) (G : h.Ns mainGlobals mg) (E : EF K "InvalidWishes" "InvalidWishes.__init__" "index" st19 B n i C fI) : MkC P w K mg base "InvalidWishes" C "index" := by
  obtain ⟨fd, F⟩ := E.fn
  have b := F.binds (ps := ["self", "index"]) fun _ _ _ _ _ _ us hl => match us, hl with | [_, _], _ => rfl
  have ok := ok_in1 (P := P) (w := w) (mg := mg) (base := base) F sc19 rfl (Or.inl rfl) (Or.inl rfl) (by decide) (by decide) E.ex E.free
  obtain ⟨oc, od, kV, doc, pm, an, cdv, ct, osl, rfl, lk, hcd⟩ := F.ex
  exact ⟨⟨fI, _, B, n, i, _, E.ex, E.hi, E.tI, ok, b, fun s self w1 => .of_eq rfl⟩, PySem.W.mg_of X G E.g, E.no⟩
theorem sc20 : FnScope ["self", "given"] ["self", "given"] (defScope st20) := ⟨rfl, rfl, rfl, by decide +kernel, rfl, by decide +kernel, by decide +kernel⟩
theorem mk20 (X : K.In h) (G : h.Ns mainGlobals mg) (E : EF K "UnknownName" "UnknownName.__init__" "given" st20 B n i C fI) : MkC P w K mg base "UnknownName" C "given" := by
  obtain ⟨fd, F⟩ := E.fn
  have b := F.binds (ps := ["self", "given"]) fun _ _ _ _ _ _ us hl => match us, hl with | [_, _], _ => rfl
  have ok := ok_in1 (P := P) (w := w) (mg := mg) (base := base) F sc20 rfl (Or.inl rfl) (Or.inl rfl) (by decide) (by decide) E.ex E.free
  obtain ⟨oc, od, kV, doc, pm, an, cdv, ct, osl, rfl, lk, hcd⟩ := F.ex
  exact ⟨⟨fI, _, B, n, i, _, E.ex, E.hi, E.tI, ok, b, fun s self w1 => .of_eq rfl⟩, PySem.W.mg_of X G E.g, E.no⟩
theorem sc22 : FnScope ["self", "name"] ["self", "name"] (defScope st22) := ⟨rfl, rfl, rfl, by decide +kernel, rfl, by decide +kernel, by decide +kernel⟩
theorem mk22 (X : K.In h) (G : h.Ns mainGlobals mg) (E : EF K "OpenRing" "OpenRing.__init__" "name" st22 B n i C fI) : MkC P w K mg base "OpenRing" C "name" := by
  obtain ⟨fd, F⟩ := E.fn
  have b := F.binds (ps := ["self", "name"]) fun _ _ _ _ _ _ us hl => match us, hl with | [_, _], _ => rfl
  have ok := ok_in1 (P := P) (w := w) (mg := mg) (base := base) F sc22 rfl (Or.inl rfl) (Or.inl rfl) (by decide) (by decide) E.ex E.free
  obtain ⟨oc, od, kV, doc, pm, an, cdv, ct, osl, rfl, lk, hcd⟩ := F.ex
  exact ⟨⟨fI, _, B, n, i, _, E.ex, E.hi, E.tI, ok, b, fun s self w1 => .of_eq rfl⟩, PySem.W.mg_of X G E.g, E.no⟩
theorem sc23 : FnScope ["self", "name"] ["self", "name"] (defScope st23) := ⟨rfl, rfl, rfl, by decide +kernel, rfl, by decide +kernel, by decide +kernel⟩
theorem mk23 (X : K.In h) (G : h.Ns mainGlobals mg) (E : EF K "PartRing" "PartRing.__init__" "name" st23 B n i C fI) : MkC P w K mg base "PartRing" C "name" := by
  obtain ⟨fd, F⟩ := E.fn
  have b := F.binds (ps := ["self", "name"]) fun _ _ _ _ _ _ us hl => match us, hl with | [_, _], _ => rfl
  have ok := ok_in1 (P := P) (w := w) (mg := mg) (base := base) F sc23 rfl (Or.inl rfl) (Or.inl rfl) (by decide) (by decide) E.ex E.free
  obtain ⟨oc, od, kV, doc, pm, an, cdv, ct, osl, rfl, lk, hcd⟩ := F.ex
  exact ⟨⟨fI, _, B, n, i, _, E.ex, E.hi, E.tI, ok, b, fun s self w1 => .of_eq rfl⟩, PySem.W.mg_of X G E.g, E.no⟩
theorem sc24 : FnScope ["self", "many"] ["self", "many"] (defScope st24) := ⟨rfl, rfl, rfl, by decide +kernel, rfl, by decide +kernel, by decide +kernel⟩
theorem mk24 (X : K.In h) (G : h.Ns mainGlobals mg) (E : EF K "TooManyParts" "TooManyParts.__init__" "many" st24 B n i C fI) : MkC P w K mg base "TooManyParts" C "many" := by
  obtain ⟨fd, F⟩ := E.fn
  have b := F.binds (ps := ["self", "many"]) fun _ _ _ _ _ _ us hl => match us, hl with | [_, _], _ => rfl
  have ok := ok_in1 (P := P) (w := w) (mg := mg) (base := base) F sc24 rfl (Or.inl rfl) (Or.inl rfl) (by decide) (by decide) E.ex E.free
  obtain ⟨oc, od, kV, doc, pm, an, cdv, ct, osl, rfl, lk, hcd⟩ := F.ex
  exact ⟨⟨fI, _, B, n, i, _, E.ex, E.hi, E.tI, ok, b, fun s self w1 => .of_eq rfl⟩, PySem.W.mg_of X G E.g, E.no⟩
theorem sc25 : FnScope ["self", "given"] ["self", "given"] (defScope st25) := ⟨rfl, rfl, rfl, by decide +kernel, rfl, by decide +kernel, by decide +kernel⟩
theorem mk25 (X : K.In h) (G : h.Ns mainGlobals mg) (E : EF K "NotKept" "NotKept.__init__" "given" st25 B n i C fI) : MkC P w K mg base "NotKept" C "given" := by
  obtain ⟨fd, F⟩ := E.fn
  have b := F.binds (ps := ["self", "given"]) fun _ _ _ _ _ _ us hl => match us, hl with | [_, _], _ => rfl
  have ok := ok_in1 (P := P) (w := w) (mg := mg) (base := base) F sc25 rfl (Or.inl rfl) (Or.inl rfl) (by decide) (by decide) E.ex E.free
  obtain ⟨oc, od, kV, doc, pm, an, cdv, ct, osl, rfl, lk, hcd⟩ := F.ex
  exact ⟨⟨fI, _, B, n, i, _, E.ex, E.hi, E.tI, ok, b, fun s self w1 => .of_eq rfl⟩, PySem.W.mg_of X G E.g, E.no⟩
theorem sc26 : FnScope ["self", "index", "shown"] ["self", "index", "shown"] (defScope st26) := ⟨rfl, rfl, rfl, by decide +kernel, rfl, by decide +kernel, by decide +kernel⟩
theorem mk26 (X : K.In h) (G : h.Ns mainGlobals mg) (E : EF K "Broken" "Broken.__init__" "index" st26 B n i C fI) (free2 : PySem.W.takerIn K C "shown" = some none) (no2 : PySem.W.findIn K (.ref C) "shown" = some none) :
    MkC2 P w K mg base "Broken" C "index" "shown" := by
  obtain ⟨fd, F⟩ := E.fn
  have b := F.binds (ps := ["self", "index", "shown"]) fun _ _ _ _ _ _ us hl => match us, hl with | [_, _, _], _ => rfl
  have ok := ok_in2 (P := P) (w := w) (mg := mg) (base := base) F sc26 rfl (Or.inl rfl) (Or.inl rfl) (Or.inl rfl) (by decide) (by decide) (by decide) (by decide) E.ex E.free free2
  obtain ⟨oc, od, kV, doc, pm, an, cdv, ct, osl, rfl, lk, hcd⟩ := F.ex
  exact ⟨⟨fI, _, B, n, i, _, E.ex, E.hi, E.tI, ok, b, fun s self w1 w2 => .of_eq rfl⟩, PySem.W.mg_of X G E.g, E.no, no2⟩
end
def cOf (as : List Addr) : Nat → Addr := fun i => as.getD i 0
def marksB (K : PySem.W.Frag) (as : List Addr) : Bool := (List.range 21).all fun o => (List.range 27).all fun i => PySem.W.kitOne K (.ref (cOf as (o + 6))) (cvOf (cOf as) i) == some (dueB (baseOf (o + 6)) (o + 6) i)
theorem marks_of {K : PySem.W.Frag} {as : List Addr} (e : marksB K as = true) : Marks K (cOf as) := by
  intro own i h1 h2 h3
  have a := List.all_eq_true.mp e (own - 6) (List.mem_range.mpr (by omega))
  have b := List.all_eq_true.mp a i (List.mem_range.mpr h3)
  rw [show own - 6 + 6 = own by omega] at b
  exact eq_of_beq b
section
variable {l : PySem.W.OpenLaw} {w : World} {K : PySem.W.Frag} {h : Heap} {mg : Str → Option Value} {fa : Addr}
variable {a0 a1 a2 a6 a7 a8 a9 a10 a11 a12 a13 a14 a15 a16 a17 a18 a19 a20 a21 a22 a23 a24 a25 a26 i6 i7 i8 i9 i10 i11 i12 i13 i14 i15 i16 i17 i18 i19 i20 i22 i23 i24 i25 i26 d36 d37 d38 d39 d40 d41 d42 d43 d44 : Addr} {t_base t_signs t_handed t_rows t_knots t_parts t_drop t_exch t_member t_step : Tok}
theorem all_mk (X : K.In h) (G : h.Ns mainGlobals mg) (hfa : mg "law" = some (.ref fa))
    (E6 : EF K "InvalidNumber" "InvalidNumber.__init__" "given" st6 "ValueError" "ValueError.__new__" "ValueError.__init__" a6 i6)
    (E7 : EF K "InvalidName" "InvalidName.__init__" "given" st7 "ValueError" "ValueError.__new__" "ValueError.__init__" a7 i7)
    (E8 : EF K "InvalidSign" "InvalidSign.__init__" "given" st8 "ValueError" "ValueError.__new__" "ValueError.__init__" a8 i8)
    (E9 : EF K "InvalidWord" "InvalidWord.__init__" "given" st9 "ValueError" "ValueError.__new__" "ValueError.__init__" a9 i9)
    (E10 : EF K "InvalidText" "InvalidText.__init__" "given" st10 "ValueError" "ValueError.__new__" "ValueError.__init__" a10 i10)
    (E11 : EF K "InvalidExpression" "InvalidExpression.__init__" "given" st11 "ValueError" "ValueError.__new__" "ValueError.__init__" a11 i11)
    (E12 : EF K "InvalidWish" "InvalidWish.__init__" "given" st12 "ValueError" "ValueError.__new__" "ValueError.__init__" a12 i12)
    (E13 : EF K "InvalidRounds" "InvalidRounds.__init__" "given" st13 "ValueError" "ValueError.__new__" "ValueError.__init__" a13 i13)
    (E14 : EF K "NotABook" "NotABook.__init__" "given" st14 "ValueError" "ValueError.__new__" "ValueError.__init__" a14 i14)
    (E15 : EF K "NotPlaces" "NotPlaces.__init__" "given" st15 "ValueError" "ValueError.__new__" "ValueError.__init__" a15 i15)
    (E16 : EF K "InvalidHanded" "InvalidHanded.__init__" "index" st16 "ValueError" "ValueError.__new__" "ValueError.__init__" a16 i16)
    (E17 : EF K "InvalidRows" "InvalidRows.__init__" "index" st17 "ValueError" "ValueError.__new__" "ValueError.__init__" a17 i17)
    (E18 : EF K "InvalidExchanges" "InvalidExchanges.__init__" "index" st18 "ValueError" "ValueError.__new__" "ValueError.__init__" a18 i18)
    (E19 : EF K "InvalidWishes" "InvalidWishes.__init__" "index" st19 "ValueError" "ValueError.__new__" "ValueError.__init__" a19 i19)
    (E20 : EF K "UnknownName" "UnknownName.__init__" "given" st20 "LookupError" "LookupError.__new__" "LookupError.__init__" a20 i20)
    (E22 : EF K "OpenRing" "OpenRing.__init__" "name" st22 "ArithmeticError" "ArithmeticError.__new__" "ArithmeticError.__init__" a22 i22)
    (E23 : EF K "PartRing" "PartRing.__init__" "name" st23 "ArithmeticError" "ArithmeticError.__new__" "ArithmeticError.__init__" a23 i23)
    (E24 : EF K "TooManyParts" "TooManyParts.__init__" "many" st24 "ArithmeticError" "ArithmeticError.__new__" "ArithmeticError.__init__" a24 i24)
    (E25 : EF K "NotKept" "NotKept.__init__" "given" st25 "ArithmeticError" "ArithmeticError.__new__" "ArithmeticError.__init__" a25 i25)
    (E26 : EF K "Broken" "Broken.__init__" "index" st26 "ArithmeticError" "ArithmeticError.__new__" "ArithmeticError.__init__" a26 i26)
    (free2 : PySem.W.takerIn K a26 "shown" = some none) (no2 : PySem.W.findIn K (.ref a26) "shown" = some none)
    (g0 : PySem.W.nsIn K mainGlobals "WrongValue" = some (some (.ref a0))) (g1 : PySem.W.nsIn K mainGlobals "WrongState" = some (some (.ref a1))) (g2 : PySem.W.nsIn K mainGlobals "NoAnswer" = some (some (.ref a2)))
    (g21 : PySem.W.nsIn K mainGlobals "NothingToUndo" = some (some (.ref a21))) (q21 : PySem.W.excIn K a21 (mroOf "LookupError") "LookupError.__new__" = true) (k21 : PySem.W.keepIn K (.ref a21) = true) (x21 : ExK K a21 "LookupError" "LookupError.__new__" "LookupError.__init__" (mroOf "LookupError"))
    (mk : marksB K [a0, a1, a2, 0, 0, 0, a6, a7, a8, a9, a10, a11, a12, a13, a14, a15, a16, a17, a18, a19, a20, a21, a22, a23, a24, a25, a26] = true)
    (zlen : PySem.W.nsIn K mainGlobals "len" = some none)
    (zint : PySem.W.nsIn K mainGlobals "int" = some none)
    (zabs : PySem.W.nsIn K mainGlobals "abs" = some none)
    (zdivmod : PySem.W.nsIn K mainGlobals "divmod" = some none)
    (zrepr : PySem.W.nsIn K mainGlobals "repr" = some none)
    (zall : PySem.W.nsIn K mainGlobals "all" = some none)
    (zrange : PySem.W.nsIn K mainGlobals "range" = some none)
    (zmax : PySem.W.nsIn K mainGlobals "max" = some none)
    (zmin : PySem.W.nsIn K mainGlobals "min" = some none)
    (zisinstance : PySem.W.nsIn K mainGlobals "isinstance" = some none)
    (zValueError : PySem.W.nsIn K mainGlobals "ValueError" = some none)
    (zLookupError : PySem.W.nsIn K mainGlobals "LookupError" = some none)
    (zArithmeticError : PySem.W.nsIn K mainGlobals "ArithmeticError" = some none)
    (l_base : PySem.W.nsIn K mainGlobals "MOST_BASE" = some (some (.int 4 t_base)))
    (l_signs : PySem.W.nsIn K mainGlobals "MOST_SIGNS" = some (some (.int 4 t_signs)))
    (l_handed : PySem.W.nsIn K mainGlobals "MOST_HANDED" = some (some (.int 3 t_handed)))
    (l_rows : PySem.W.nsIn K mainGlobals "MOST_ROWS" = some (some (.int 4 t_rows)))
    (l_knots : PySem.W.nsIn K mainGlobals "MOST_KNOTS" = some (some (.int 8 t_knots)))
    (l_parts : PySem.W.nsIn K mainGlobals "MOST_PARTS" = some (some (.int 3 t_parts)))
    (l_drop : PySem.W.nsIn K mainGlobals "MOST_DROP" = some (some (.int 9 t_drop)))
    (l_exch : PySem.W.nsIn K mainGlobals "MOST_EXCHANGES" = some (some (.int 6 t_exch)))
    (l_member : PySem.W.nsIn K mainGlobals "MOST_MEMBER" = some (some (.int 1000 t_member)))
    (l_step : PySem.W.nsIn K mainGlobals "MOST_STEP" = some (some (.int 12 t_step)))
    (D36 : DF K "_law_deck" (top 36) d36)
    (D37 : DF K "_law_card" (top 37) d37)
    (D38 : DF K "_law_of" (top 38) d38)
    (D39 : DF K "_law_marks" (top 39) d39)
    (D40 : DF K "_law_due" (top 40) d40)
    (D41 : DF K "_law_values" (top 41) d41)
    (D42 : DF K "_law_others" (top 42) d42)
    (D43 : DF K "_law_right" (top 43) d43)
    (D44 : DF K "law" (top 44) d44) :
    ∃ fd : FuncData, (∀ (s : Shared) (u : Value), BindsTo s fd ⟨[u], []⟩ [("_law_cells", u)]) ∧
      ∀ base : Heap, K.In base → base.Ns mainGlobals mg → Mods base → GOk l.prog w K mg base CX0 5 fa fd ["_law_cells"] (spLaw K) := by
  cases (hfa.symm.trans (PySem.W.mg_of X G D44.g))
  obtain ⟨fd36, F36⟩ := D36.fn
  obtain ⟨fd37, F37⟩ := D37.fn
  obtain ⟨fd38, F38⟩ := D38.fn
  obtain ⟨fd39, F39⟩ := D39.fn
  obtain ⟨fd40, F40⟩ := D40.fn
  obtain ⟨fd41, F41⟩ := D41.fn
  obtain ⟨fd42, F42⟩ := D42.fn
  obtain ⟨fd43, F43⟩ := D43.fn
  obtain ⟨fd44, F44⟩ := D44.fn
  have b36 := F36.binds (ps := ["_law_cells", "_law_turn"]) fun _ _ _ _ _ _ us hl => match us, hl with | [_, _], _ => rfl
  have b37 := F37.binds (ps := ["_law_deck_here", "_law_top"]) fun _ _ _ _ _ _ us hl => match us, hl with | [_, _], _ => rfl
  have b38 := F38.binds (ps := ["_law_deck_here", "_law_menu"]) fun _ _ _ _ _ _ us hl => match us, hl with | [_, _], _ => rfl
  have b39 := F39.binds (ps := ["_law_e"]) fun _ _ _ _ _ _ us hl => match us, hl with | [_], _ => rfl
  have b40 := F40.binds (ps := ["_law_base", "_law_own"]) fun _ _ _ _ _ _ us hl => match us, hl with | [_, _], _ => rfl
  have b41 := F41.binds (ps := ["_law_thing"]) fun _ _ _ _ _ _ us hl => match us, hl with | [_], _ => rfl
  have b42 := F42.binds (ps := ["_law_thing", "_law_other"]) fun _ _ _ _ _ _ us hl => match us, hl with | [_, _], _ => rfl
  have b43 := F43.binds (ps := ["_law_deck_here"]) fun _ _ _ _ _ _ us hl => match us, hl with | [_], _ => rfl
  have Z : Free mg := ⟨PySem.W.mg_none_of X G zlen, PySem.W.mg_none_of X G zint, PySem.W.mg_none_of X G zabs, PySem.W.mg_none_of X G zdivmod, PySem.W.mg_none_of X G zrepr, PySem.W.mg_none_of X G zall, PySem.W.mg_none_of X G zrange, PySem.W.mg_none_of X G zmax, PySem.W.mg_none_of X G zmin, PySem.W.mg_none_of X G zisinstance⟩
  have L : Limits mg := ⟨⟨_, PySem.W.mg_of X G l_base⟩, ⟨_, PySem.W.mg_of X G l_signs⟩, ⟨_, PySem.W.mg_of X G l_handed⟩, ⟨_, PySem.W.mg_of X G l_rows⟩, ⟨_, PySem.W.mg_of X G l_knots⟩, ⟨_, PySem.W.mg_of X G l_parts⟩, ⟨_, PySem.W.mg_of X G l_drop⟩, ⟨_, PySem.W.mg_of X G l_exch⟩, ⟨_, PySem.W.mg_of X G l_member⟩, ⟨_, PySem.W.mg_of X G l_step⟩⟩
  have T : ClsTxt mg (cOf [a0, a1, a2, 0, 0, 0, a6, a7, a8, a9, a10, a11, a12, a13, a14, a15, a16, a17, a18, a19, a20, a21, a22, a23, a24, a25, a26]) := ⟨PySem.W.mg_of X G g0, PySem.W.mg_of X G g1, PySem.W.mg_of X G g2, PySem.W.mg_none_of X G zValueError, PySem.W.mg_none_of X G zLookupError, PySem.W.mg_none_of X G zArithmeticError, PySem.W.mg_of X G E6.g, PySem.W.mg_of X G E7.g, PySem.W.mg_of X G E8.g, PySem.W.mg_of X G E9.g, PySem.W.mg_of X G E10.g, PySem.W.mg_of X G E11.g, PySem.W.mg_of X G E12.g, PySem.W.mg_of X G E13.g, PySem.W.mg_of X G E14.g, PySem.W.mg_of X G E15.g, PySem.W.mg_of X G E16.g, PySem.W.mg_of X G E17.g, PySem.W.mg_of X G E18.g, PySem.W.mg_of X G E19.g, PySem.W.mg_of X G E20.g, PySem.W.mg_of X G g21, PySem.W.mg_of X G E22.g, PySem.W.mg_of X G E23.g, PySem.W.mg_of X G E24.g, PySem.W.mg_of X G E25.g, PySem.W.mg_of X G E26.g⟩
  have MK := marks_of mk
  have EX : Excs K (cOf [a0, a1, a2, 0, 0, 0, a6, a7, a8, a9, a10, a11, a12, a13, a14, a15, a16, a17, a18, a19, a20, a21, a22, a23, a24, a25, a26]) := fun own h6 h27 => match own, h6, h27 with
    | 6, _, _ => ⟨_, _, _, _, E6.ex⟩
    | 7, _, _ => ⟨_, _, _, _, E7.ex⟩
    | 8, _, _ => ⟨_, _, _, _, E8.ex⟩
    | 9, _, _ => ⟨_, _, _, _, E9.ex⟩
    | 10, _, _ => ⟨_, _, _, _, E10.ex⟩
    | 11, _, _ => ⟨_, _, _, _, E11.ex⟩
    | 12, _, _ => ⟨_, _, _, _, E12.ex⟩
    | 13, _, _ => ⟨_, _, _, _, E13.ex⟩
    | 14, _, _ => ⟨_, _, _, _, E14.ex⟩
    | 15, _, _ => ⟨_, _, _, _, E15.ex⟩
    | 16, _, _ => ⟨_, _, _, _, E16.ex⟩
    | 17, _, _ => ⟨_, _, _, _, E17.ex⟩
    | 18, _, _ => ⟨_, _, _, _, E18.ex⟩
    | 19, _, _ => ⟨_, _, _, _, E19.ex⟩
    | 20, _, _ => ⟨_, _, _, _, E20.ex⟩
    | 21, _, _ => ⟨_, _, _, _, x21⟩
    | 22, _, _ => ⟨_, _, _, _, E22.ex⟩
    | 23, _, _ => ⟨_, _, _, _, E23.ex⟩
    | 24, _, _ => ⟨_, _, _, _, E24.ex⟩
    | 25, _, _ => ⟨_, _, _, _, E25.ex⟩
    | 26, _, _ => ⟨_, _, _, _, E26.ex⟩
    | n + 27, _, h => absurd h (by omega)
  have M : ∀ base, Mks l.prog w K mg base (cOf [a0, a1, a2, 0, 0, 0, a6, a7, a8, a9, a10, a11, a12, a13, a14, a15, a16, a17, a18, a19, a20, a21, a22, a23, a24, a25, a26]) := fun base => ⟨mk6 X G E6, mk7 X G E7, mk8 X G E8, mk9 X G E9, mk10 X G E10, mk11 X G E11, mk12 X G E12, mk13 X G E13, mk14 X G E14, mk15 X G E15, mk16 X G E16, mk17 X G E17, mk18 X G E18, mk19 X G E19, mk20 X G E20, mk22 X G E22, mk23 X G E23, mk24 X G E24, mk25 X G E25, mk26 X G E26 free2 no2⟩
  have m36 := PySem.W.mg_of X G D36.g
  have m37 := PySem.W.mg_of X G D37.g
  have m38 := PySem.W.mg_of X G D38.g
  have m39 := PySem.W.mg_of X G D39.g
  have m40 := PySem.W.mg_of X G D40.g
  have m41 := PySem.W.mg_of X G D41.g
  have m42 := PySem.W.mg_of X G D42.g
  have m43 := PySem.W.mg_of X G D43.g
  have G36 : ∀ base, FnOk l.prog w K mg base CX0 1 d36 fd36 _ _ := fun base => ok_deck F36 Z.len Z.int Z.abs
  have G37 : ∀ base, FnOk l.prog w K mg base CX0 1 d37 fd37 _ _ := fun base => ok_card F37 Z.int Z.divmod
  have G38 : ∀ base, FnOk l.prog w K mg base CX0 2 d38 fd38 _ _ := fun base => ok_of F38 (G37 base) b37 F37.kp m37 Z.len
  have G39 : ∀ base, FnOk l.prog w K mg base CX0 1 d39 fd39 _ _ := fun base => ok_marks F39 Z T MK EX
  have G40 : ∀ base, FnOk l.prog w K mg base CX0 1 d40 fd40 _ _ := fun base => ok_due F40 Z
  have G41 : ∀ base, Mods base → GOk l.prog w K mg base CX0 3 d41 fd41 _ _ := fun base BM => ok_values F41 BM Z (M base) EX (G39 base) b39 F39.kp m39 (G40 base) b40 F40.kp m40
  have G42 : ∀ base, Mods base → GOk l.prog w K mg base CX0 3 d42 fd42 _ _ := fun base BM =>
    ok_others F42 BM Z (M base) EX PySem.F.excBase_LookupError q21 (PySem.W.mg_of X G g21) k21 (G39 base) b39 F39.kp m39 (G40 base) b40 F40.kp m40
  have G43 : ∀ base, Mods base → GOk l.prog w K mg base CX0 4 d43 fd43 _ _ := fun base BM => ok_right F43 (G38 base) b38 F38.kp m38 (G41 base BM) b41 F41.kp m41 (G42 base BM) b42 F42.kp m42
  refine ⟨fd44, ?_, fun base _ _ BM => ok_law F44 BM L Z (G36 base) b36 F36.kp m36 (by decide) (G43 base BM) b43 F43.kp m43⟩
  obtain ⟨oc, od, kV, doc, pm, an, cdv, ct, osl, rfl, lk, hcd⟩ := F44.ex
  exact fun s u => .of_eq rfl
end
end K8

open PySem PySem.W PyProof.Rows in
set_option maxRecDepth 100000 in
set_option maxHeartbeats 0 in
theorem PySem.Challenge.cw_wovenplaces_k08_errors_and_limits_holds : PySem.Challenge.rw_wovenplaces_k08_errors_and_limits.Holds := by
  w_on; o_law; k_head; (case hw => w_witness2)
  k_fill
  refine Hx.walk_G (n := 63) (k := 5) (x := "_law_cells") (sp := fun K => K8.spLaw K) rfl (by decide) rfl ⟨rfl, by decide, by decide⟩ rfl (fun w h Y => PySem.W.kIn_of Y) ?F (fun K H a ns hl hS => ⟨a, ns, rfl, hS, hl, fun _ => rfl⟩)
  case F =>
    intro w mg fa h KX G hmg
    refine' K8.all_mk (l := PySem.Challenge.rw_wovenplaces_k08_errors_and_limits) KX G hmg ?k8E6 ?k8E7 ?k8E8 ?k8E9 ?k8E10 ?k8E11 ?k8E12 ?k8E13 ?k8E14 ?k8E15 ?k8E16 ?k8E17 ?k8E18 ?k8E19 ?k8E20 ?k8E22 ?k8E23 ?k8E24 ?k8E25 ?k8E26 ?k8free2 ?k8no2 ?k8g0 ?k8g1 ?k8g2 ?k8g21 ?k8q21 ?k8k21 ?k8x21 ?k8mk ?k8zlen ?k8zint ?k8zabs ?k8zdivmod ?k8zrepr ?k8zall ?k8zrange ?k8zmax ?k8zmin ?k8zisinstance ?k8zValueError ?k8zLookupError ?k8zArithmeticError ?k8l_base ?k8l_signs ?k8l_handed ?k8l_rows ?k8l_knots ?k8l_parts ?k8l_drop ?k8l_exch ?k8l_member ?k8l_step ?k8D36 ?k8D37 ?k8D38 ?k8D39 ?k8D40 ?k8D41 ?k8D42 ?k8D43 ?k8D44
    case k8E6 =>
      refine' ⟨?g, ⟨PySem.F.excBase_ValueError, PySem.F.store_ValueError, ?made, ?over, ?dct, ?sa, ?ga, ?gt, ?sub, ?keep, ?cl, ?gg, ?tk, ?mo⟩, ?hi, ?tI, ⟨_, L2.fun_mk ?l ?c ?k⟩, ?free, ?no⟩
      (case g => k_is)
      (case made => kernel_rfl)
      (case over => kernel_rfl)
      (case dct => k_is)
      (case sa => k_is)
      (case ga => k_is)
      (case gt => k_is)
      (case sub => k_is)
      (case keep => k_is)
      (case cl => k_is)
      (case gg => k_is)
      (case tk => k_is)
      (case mo => k_is)
      (case hi => k_is)
      (case tI => k_is)
      (case l => k_is)
      (case c => k_is)
      (case k => k_is)
      (case free => k_is)
      (case no => k_is)
    case k8E7 =>
      refine' ⟨?g, ⟨PySem.F.excBase_ValueError, PySem.F.store_ValueError, ?made, ?over, ?dct, ?sa, ?ga, ?gt, ?sub, ?keep, ?cl, ?gg, ?tk, ?mo⟩, ?hi, ?tI, ⟨_, L2.fun_mk ?l ?c ?k⟩, ?free, ?no⟩
      (case g => k_is)
      (case made => kernel_rfl)
      (case over => kernel_rfl)
      (case dct => k_is)
      (case sa => k_is)
      (case ga => k_is)
      (case gt => k_is)
      (case sub => k_is)
      (case keep => k_is)
      (case cl => k_is)
      (case gg => k_is)
      (case tk => k_is)
      (case mo => k_is)
      (case hi => k_is)
      (case tI => k_is)
      (case l => k_is)
      (case c => k_is)
      (case k => k_is)
      (case free => k_is)
      (case no => k_is)
    case k8E8 =>
      refine' ⟨?g, ⟨PySem.F.excBase_ValueError, PySem.F.store_ValueError, ?made, ?over, ?dct, ?sa, ?ga, ?gt, ?sub, ?keep, ?cl, ?gg, ?tk, ?mo⟩, ?hi, ?tI, ⟨_, L2.fun_mk ?l ?c ?k⟩, ?free, ?no⟩
      (case g => k_is)
      (case made => kernel_rfl)
      (case over => kernel_rfl)
      (case dct => k_is)
      (case sa => k_is)
      (case ga => k_is)
      (case gt => k_is)
      (case sub => k_is)
      (case keep => k_is)
      (case cl => k_is)
      (case gg => k_is)
      (case tk => k_is)
      (case mo => k_is)
      (case hi => k_is)
      (case tI => k_is)
      (case l => k_is)
      (case c => k_is)
      (case k => k_is)
      (case free => k_is)
      (case no => k_is)
    case k8E9 =>
      refine' ⟨?g, ⟨PySem.F.excBase_ValueError, PySem.F.store_ValueError, ?made, ?over, ?dct, ?sa, ?ga, ?gt, ?sub, ?keep, ?cl, ?gg, ?tk, ?mo⟩, ?hi, ?tI, ⟨_, L2.fun_mk ?l ?c ?k⟩, ?free, ?no⟩
      (case g => k_is)
      (case made => kernel_rfl)
      (case over => kernel_rfl)
      (case dct => k_is)
      (case sa => k_is)
      (case ga => k_is)
      (case gt => k_is)
      (case sub => k_is)
      (case keep => k_is)
      (case cl => k_is)
      (case gg => k_is)
      (case tk => k_is)
      (case mo => k_is)
      (case hi => k_is)
      (case tI => k_is)
      (case l => k_is)
      (case c => k_is)
      (case k => k_is)
      (case free => k_is)
      (case no => k_is)
    case k8E10 =>
      refine' ⟨?g, ⟨PySem.F.excBase_ValueError, PySem.F.store_ValueError, ?made, ?over, ?dct, ?sa, ?ga, ?gt, ?sub, ?keep, ?cl, ?gg, ?tk, ?mo⟩, ?hi, ?tI, ⟨_, L2.fun_mk ?l ?c ?k⟩, ?free, ?no⟩
      (case g => k_is)
      (case made => kernel_rfl)
      (case over => kernel_rfl)
      (case dct => k_is)
      (case sa => k_is)
      (case ga => k_is)
      (case gt => k_is)
      (case sub => k_is)
      (case keep => k_is)
      (case cl => k_is)
      (case gg => k_is)
      (case tk => k_is)
      (case mo => k_is)
      (case hi => k_is)
      (case tI => k_is)
      (case l => k_is)
      (case c => k_is)
      (case k => k_is)
      (case free => k_is)
      (case no => k_is)
    case k8E11 =>
      refine' ⟨?g, ⟨PySem.F.excBase_ValueError, PySem.F.store_ValueError, ?made, ?over, ?dct, ?sa, ?ga, ?gt, ?sub, ?keep, ?cl, ?gg, ?tk, ?mo⟩, ?hi, ?tI, ⟨_, L2.fun_mk ?l ?c ?k⟩, ?free, ?no⟩
      (case g => k_is)
      (case made => kernel_rfl)
      (case over => kernel_rfl)
      (case dct => k_is)
      (case sa => k_is)
      (case ga => k_is)
      (case gt => k_is)
      (case sub => k_is)
      (case keep => k_is)
      (case cl => k_is)
      (case gg => k_is)
      (case tk => k_is)
      (case mo => k_is)
      (case hi => k_is)
      (case tI => k_is)
      (case l => k_is)
      (case c => k_is)
      (case k => k_is)
      (case free => k_is)
      (case no => k_is)
    case k8E12 =>
      refine' ⟨?g, ⟨PySem.F.excBase_ValueError, PySem.F.store_ValueError, ?made, ?over, ?dct, ?sa, ?ga, ?gt, ?sub, ?keep, ?cl, ?gg, ?tk, ?mo⟩, ?hi, ?tI, ⟨_, L2.fun_mk ?l ?c ?k⟩, ?free, ?no⟩
      (case g => k_is)
      (case made => kernel_rfl)
      (case over => kernel_rfl)
      (case dct => k_is)
      (case sa => k_is)
      (case ga => k_is)
      (case gt => k_is)
      (case sub => k_is)
      (case keep => k_is)
      (case cl => k_is)
      (case gg => k_is)
      (case tk => k_is)
      (case mo => k_is)
      (case hi => k_is)
      (case tI => k_is)
      (case l => k_is)
      (case c => k_is)
      (case k => k_is)
      (case free => k_is)
      (case no => k_is)
    case k8E13 =>
      refine' ⟨?g, ⟨PySem.F.excBase_ValueError, PySem.F.store_ValueError, ?made, ?over, ?dct, ?sa, ?ga, ?gt, ?sub, ?keep, ?cl, ?gg, ?tk, ?mo⟩, ?hi, ?tI, ⟨_, L2.fun_mk ?l ?c ?k⟩, ?free, ?no⟩
      (case g => k_is)
      (case made => kernel_rfl)
      (case over => kernel_rfl)
      (case dct => k_is)
      (case sa => k_is)
      (case ga => k_is)
      (case gt => k_is)
      (case sub => k_is)
      (case keep => k_is)
      (case cl => k_is)
      (case gg => k_is)
      (case tk => k_is)
      (case mo => k_is)
      (case hi => k_is)
      (case tI => k_is)
      (case l => k_is)
      (case c => k_is)
      (case k => k_is)
      (case free => k_is)
      (case no => k_is)
    case k8E14 =>
      refine' ⟨?g, ⟨PySem.F.excBase_ValueError, PySem.F.store_ValueError, ?made, ?over, ?dct, ?sa, ?ga, ?gt, ?sub, ?keep, ?cl, ?gg, ?tk, ?mo⟩, ?hi, ?tI, ⟨_, L2.fun_mk ?l ?c ?k⟩, ?free, ?no⟩
      (case g => k_is)
      (case made => kernel_rfl)
      (case over => kernel_rfl)
      (case dct => k_is)
      (case sa => k_is)
      (case ga => k_is)
      (case gt => k_is)
      (case sub => k_is)
      (case keep => k_is)
      (case cl => k_is)
      (case gg => k_is)
      (case tk => k_is)
      (case mo => k_is)
      (case hi => k_is)
      (case tI => k_is)
      (case l => k_is)
      (case c => k_is)
      (case k => k_is)
      (case free => k_is)
      (case no => k_is)
    case k8E15 =>
      refine' ⟨?g, ⟨PySem.F.excBase_ValueError, PySem.F.store_ValueError, ?made, ?over, ?dct, ?sa, ?ga, ?gt, ?sub, ?keep, ?cl, ?gg, ?tk, ?mo⟩, ?hi, ?tI, ⟨_, L2.fun_mk ?l ?c ?k⟩, ?free, ?no⟩
      (case g => k_is)
      (case made => kernel_rfl)
      (case over => kernel_rfl)
      (case dct => k_is)
      (case sa => k_is)
      (case ga => k_is)
      (case gt => k_is)
      (case sub => k_is)
      (case keep => k_is)
      (case cl => k_is)
      (case gg => k_is)
      (case tk => k_is)
      (case mo => k_is)
      (case hi => k_is)
      (case tI => k_is)
      (case l => k_is)
      (case c => k_is)
      (case k => k_is)
      (case free => k_is)
      (case no => k_is)
    case k8E16 =>
      refine' ⟨?g, ⟨PySem.F.excBase_ValueError, PySem.F.store_ValueError, ?made, ?over, ?dct, ?sa, ?ga, ?gt, ?sub, ?keep, ?cl, ?gg, ?tk, ?mo⟩, ?hi, ?tI, ⟨_, L2.fun_mk ?l ?c ?k⟩, ?free, ?no⟩
      (case g => k_is)
      (case made => kernel_rfl)
      (case over => kernel_rfl)
      (case dct => k_is)
      (case sa => k_is)
      (case ga => k_is)
      (case gt => k_is)
      (case sub => k_is)
      (case keep => k_is)
      (case cl => k_is)
      (case gg => k_is)
      (case tk => k_is)
      (case mo => k_is)
      (case hi => k_is)
      (case tI => k_is)
      (case l => k_is)
      (case c => k_is)
      (case k => k_is)
      (case free => k_is)
      (case no => k_is)
    case k8E17 =>
      refine' ⟨?g, ⟨PySem.F.excBase_ValueError, PySem.F.store_ValueError, ?made, ?over, ?dct, ?sa, ?ga, ?gt, ?sub, ?keep, ?cl, ?gg, ?tk, ?mo⟩, ?hi, ?tI, ⟨_, L2.fun_mk ?l ?c ?k⟩, ?free, ?no⟩
      (case g => k_is)
      (case made => kernel_rfl)
      (case over => kernel_rfl)
      (case dct => k_is)
      (case sa => k_is)
      (case ga => k_is)
      (case gt => k_is)
      (case sub => k_is)
      (case keep => k_is)
      (case cl => k_is)
      (case gg => k_is)
      (case tk => k_is)
      (case mo => k_is)
      (case hi => k_is)
      (case tI => k_is)
      (case l => k_is)
      (case c => k_is)
      (case k => k_is)
      (case free => k_is)
      (case no => k_is)
    case k8E18 =>
      refine' ⟨?g, ⟨PySem.F.excBase_ValueError, PySem.F.store_ValueError, ?made, ?over, ?dct, ?sa, ?ga, ?gt, ?sub, ?keep, ?cl, ?gg, ?tk, ?mo⟩, ?hi, ?tI, ⟨_, L2.fun_mk ?l ?c ?k⟩, ?free, ?no⟩
      (case g => k_is)
      (case made => kernel_rfl)
      (case over => kernel_rfl)
      (case dct => k_is)
      (case sa => k_is)
      (case ga => k_is)
      (case gt => k_is)
      (case sub => k_is)
      (case keep => k_is)
      (case cl => k_is)
      (case gg => k_is)
      (case tk => k_is)
      (case mo => k_is)
      (case hi => k_is)
      (case tI => k_is)
      (case l => k_is)
      (case c => k_is)
      (case k => k_is)
      (case free => k_is)
      (case no => k_is)
    case k8E19 =>
      refine' ⟨?g, ⟨PySem.F.excBase_ValueError, PySem.F.store_ValueError, ?made, ?over, ?dct, ?sa, ?ga, ?gt, ?sub, ?keep, ?cl, ?gg, ?tk, ?mo⟩, ?hi, ?tI, ⟨_, L2.fun_mk ?l ?c ?k⟩, ?free, ?no⟩
      (case g => k_is)
      (case made => kernel_rfl)
      (case over => kernel_rfl)
      (case dct => k_is)
      (case sa => k_is)
      (case ga => k_is)
      (case gt => k_is)
      (case sub => k_is)
      (case keep => k_is)
      (case cl => k_is)
      (case gg => k_is)
      (case tk => k_is)
      (case mo => k_is)
      (case hi => k_is)
      (case tI => k_is)
      (case l => k_is)
      (case c => k_is)
      (case k => k_is)
      (case free => k_is)
      (case no => k_is)
    case k8E20 =>
      refine' ⟨?g, ⟨PySem.F.excBase_LookupError, PySem.F.store_LookupError, ?made, ?over, ?dct, ?sa, ?ga, ?gt, ?sub, ?keep, ?cl, ?gg, ?tk, ?mo⟩, ?hi, ?tI, ⟨_, L2.fun_mk ?l ?c ?k⟩, ?free, ?no⟩
      (case g => k_is)
      (case made => kernel_rfl)
      (case over => kernel_rfl)
      (case dct => k_is)
      (case sa => k_is)
      (case ga => k_is)
      (case gt => k_is)
      (case sub => k_is)
      (case keep => k_is)
      (case cl => k_is)
      (case gg => k_is)
      (case tk => k_is)
      (case mo => k_is)
      (case hi => k_is)
      (case tI => k_is)
      (case l => k_is)
      (case c => k_is)
      (case k => k_is)
      (case free => k_is)
      (case no => k_is)
    case k8E22 =>
      refine' ⟨?g, ⟨PySem.F.excBase_ArithmeticError, PySem.F.store_ArithmeticError, ?made, ?over, ?dct, ?sa, ?ga, ?gt, ?sub, ?keep, ?cl, ?gg, ?tk, ?mo⟩, ?hi, ?tI, ⟨_, L2.fun_mk ?l ?c ?k⟩, ?free, ?no⟩
      (case g => k_is)
      (case made => kernel_rfl)
      (case over => kernel_rfl)
      (case dct => k_is)
      (case sa => k_is)
      (case ga => k_is)
      (case gt => k_is)
      (case sub => k_is)
      (case keep => k_is)
      (case cl => k_is)
      (case gg => k_is)
      (case tk => k_is)
      (case mo => k_is)
      (case hi => k_is)
      (case tI => k_is)
      (case l => k_is)
      (case c => k_is)
      (case k => k_is)
      (case free => k_is)
      (case no => k_is)
    case k8E23 =>
      refine' ⟨?g, ⟨PySem.F.excBase_ArithmeticError, PySem.F.store_ArithmeticError, ?made, ?over, ?dct, ?sa, ?ga, ?gt, ?sub, ?keep, ?cl, ?gg, ?tk, ?mo⟩, ?hi, ?tI, ⟨_, L2.fun_mk ?l ?c ?k⟩, ?free, ?no⟩
      (case g => k_is)
      (case made => kernel_rfl)
      (case over => kernel_rfl)
      (case dct => k_is)
      (case sa => k_is)
      (case ga => k_is)
      (case gt => k_is)
      (case sub => k_is)
      (case keep => k_is)
      (case cl => k_is)
      (case gg => k_is)
      (case tk => k_is)
      (case mo => k_is)
      (case hi => k_is)
      (case tI => k_is)
      (case l => k_is)
      (case c => k_is)
      (case k => k_is)
      (case free => k_is)
      (case no => k_is)
    case k8E24 =>
      refine' ⟨?g, ⟨PySem.F.excBase_ArithmeticError, PySem.F.store_ArithmeticError, ?made, ?over, ?dct, ?sa, ?ga, ?gt, ?sub, ?keep, ?cl, ?gg, ?tk, ?mo⟩, ?hi, ?tI, ⟨_, L2.fun_mk ?l ?c ?k⟩, ?free, ?no⟩
      (case g => k_is)
      (case made => kernel_rfl)
      (case over => kernel_rfl)
      (case dct => k_is)
      (case sa => k_is)
      (case ga => k_is)
      (case gt => k_is)
      (case sub => k_is)
      (case keep => k_is)
      (case cl => k_is)
      (case gg => k_is)
      (case tk => k_is)
      (case mo => k_is)
      (case hi => k_is)
      (case tI => k_is)
      (case l => k_is)
      (case c => k_is)
      (case k => k_is)
      (case free => k_is)
      (case no => k_is)
    case k8E25 =>
      refine' ⟨?g, ⟨PySem.F.excBase_ArithmeticError, PySem.F.store_ArithmeticError, ?made, ?over, ?dct, ?sa, ?ga, ?gt, ?sub, ?keep, ?cl, ?gg, ?tk, ?mo⟩, ?hi, ?tI, ⟨_, L2.fun_mk ?l ?c ?k⟩, ?free, ?no⟩
      (case g => k_is)
      (case made => kernel_rfl)
      (case over => kernel_rfl)
      (case dct => k_is)
      (case sa => k_is)
      (case ga => k_is)
      (case gt => k_is)
      (case sub => k_is)
      (case keep => k_is)
      (case cl => k_is)
      (case gg => k_is)
      (case tk => k_is)
      (case mo => k_is)
      (case hi => k_is)
      (case tI => k_is)
      (case l => k_is)
      (case c => k_is)
      (case k => k_is)
      (case free => k_is)
      (case no => k_is)
    case k8E26 =>
      refine' ⟨?g, ⟨PySem.F.excBase_ArithmeticError, PySem.F.store_ArithmeticError, ?made, ?over, ?dct, ?sa, ?ga, ?gt, ?sub, ?keep, ?cl, ?gg, ?tk, ?mo⟩, ?hi, ?tI, ⟨_, L2.fun_mk ?l ?c ?k⟩, ?free, ?no⟩
      (case g => k_is)
      (case made => kernel_rfl)
      (case over => kernel_rfl)
      (case dct => k_is)
      (case sa => k_is)
      (case ga => k_is)
      (case gt => k_is)
      (case sub => k_is)
      (case keep => k_is)
      (case cl => k_is)
      (case gg => k_is)
      (case tk => k_is)
      (case mo => k_is)
      (case hi => k_is)
      (case tI => k_is)
      (case l => k_is)
      (case c => k_is)
      (case k => k_is)
      (case free => k_is)
      (case no => k_is)
    (case k8free2 => k_is)
    (case k8no2 => k_is)
    (case k8g0 => k_is)
    (case k8g1 => k_is)
    (case k8g2 => k_is)
    (case k8g21 => k_is)
    (case k8q21 => kernel_rfl)
    (case k8k21 => k_is)
    case k8x21 =>
      refine' ⟨PySem.F.excBase_LookupError, PySem.F.store_LookupError, ?made, ?over, ?dct, ?sa, ?ga, ?gt, ?sub, ?keep, ?cl, ?gg, ?tk, ?mo⟩
      (case made => kernel_rfl)
      (case over => kernel_rfl)
      (case dct => k_is)
      (case sa => k_is)
      (case ga => k_is)
      (case gt => k_is)
      (case sub => k_is)
      (case keep => k_is)
      (case cl => k_is)
      (case gg => k_is)
      (case tk => k_is)
      (case mo => k_is)
    (case k8mk => kernel_rfl)
    (case k8zlen => k_is)
    (case k8zint => k_is)
    (case k8zabs => k_is)
    (case k8zdivmod => k_is)
    (case k8zrepr => k_is)
    (case k8zall => k_is)
    (case k8zrange => k_is)
    (case k8zmax => k_is)
    (case k8zmin => k_is)
    (case k8zisinstance => k_is)
    (case k8zValueError => k_is)
    (case k8zLookupError => k_is)
    (case k8zArithmeticError => k_is)
    (case k8l_base => k_is)
    (case k8l_signs => k_is)
    (case k8l_handed => k_is)
    (case k8l_rows => k_is)
    (case k8l_knots => k_is)
    (case k8l_parts => k_is)
    (case k8l_drop => k_is)
    (case k8l_exch => k_is)
    (case k8l_member => k_is)
    (case k8l_step => k_is)
    case k8D36 =>
      refine' ⟨?g, ⟨_, L2.fun_mk ?l ?c ?k⟩⟩
      (case g => k_is)
      (case l => k_is)
      (case c => k_is)
      (case k => k_is)
    case k8D37 =>
      refine' ⟨?g, ⟨_, L2.fun_mk ?l ?c ?k⟩⟩
      (case g => k_is)
      (case l => k_is)
      (case c => k_is)
      (case k => k_is)
    case k8D38 =>
      refine' ⟨?g, ⟨_, L2.fun_mk ?l ?c ?k⟩⟩
      (case g => k_is)
      (case l => k_is)
      (case c => k_is)
      (case k => k_is)
    case k8D39 =>
      refine' ⟨?g, ⟨_, L2.fun_mk ?l ?c ?k⟩⟩
      (case g => k_is)
      (case l => k_is)
      (case c => k_is)
      (case k => k_is)
    case k8D40 =>
      refine' ⟨?g, ⟨_, L2.fun_mk ?l ?c ?k⟩⟩
      (case g => k_is)
      (case l => k_is)
      (case c => k_is)
      (case k => k_is)
    case k8D41 =>
      refine' ⟨?g, ⟨_, L2.fun_mk ?l ?c ?k⟩⟩
      (case g => k_is)
      (case l => k_is)
      (case c => k_is)
      (case k => k_is)
    case k8D42 =>
      refine' ⟨?g, ⟨_, L2.fun_mk ?l ?c ?k⟩⟩
      (case g => k_is)
      (case l => k_is)
      (case c => k_is)
      (case k => k_is)
    case k8D43 =>
      refine' ⟨?g, ⟨_, L2.fun_mk ?l ?c ?k⟩⟩
      (case g => k_is)
      (case l => k_is)
      (case c => k_is)
      (case k => k_is)
    case k8D44 =>
      refine' ⟨?g, ⟨_, L2.fun_mk ?l ?c ?k⟩⟩
      (case g => k_is)
      (case l => k_is)
      (case c => k_is)
      (case k => k_is)

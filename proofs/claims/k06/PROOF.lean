import PyProof.Rows.All
import Wide.All
import OpenK.AllK
import Wide.FinOn
import HandS.ForMost
import HandS.ForExc
import HandS.DictComp
import KE.KExcIs
import HandS.ExcInit
import HandS.ExcField
import HandS.IsInst
import HandS.SetFor
import HandS.Flow
import HandS.Walk
import HandS.Evl
import HandS.Conv
import HandS.OwnEq
import HandS.FStr
import HandS.Star
import KE.GoesEnumKw
import KE.SortData
import HandS.TupLe
import Flt.Ops
import HandS.Zip
import HandS.TupAny
import HandS.StrMore
import HandS.Style
import HandS.More
import HandS.WordsDict
import HandS.Lambda
import HandS.ExcCtx
import HandS.HotCalls
import HandS.Comp
import HandS.Iter
import HandS.ExcIs
import HandS.Dict
import HandS.EndTab
import PyProof.NeKinds
import PyProof.CollectIter
import KE.DataMinMax
import KE.KTupSum
import HandS.Deep
import HandS.Call
import HandS.MakeKw
import PySem.Challenge.RW_healedwebs_k06_lines_of_no_history
set_option Elab.async false
set_option linter.all false
set_option maxRecDepth 100000
set_option maxHeartbeats 2000000
namespace Hw
open PySem L2 PyProof.Rows

/-! generic: powers of great ints, heaps but one place -/
def CPowW (i j : Int) : Prop := 0 ≤ j ∧ (Builtin.Int.intBits i : Int) * j ≤ 2 ^ 27
theorem op_powW {X : Cx} : OpR X (binaryOp .Pow) (rI CPowW fun i j => .int (i ^ j.toNat)) :=
  opI fun _ _ _ _ _ _ _ hc q => pow_int hc.1 hc.2 q
/-- all that is tracked but at a stays -/
def SameX (a : Addr) (H H' : Hp) : Prop := ∀ b o, b ≠ a → H b = some o → H' b = some o
theorem SameX.refl (a : Addr) (H : Hp) : SameX a H H := fun _ _ _ h => h
theorem SameX.trans {a : Addr} {H H1 H2 : Hp} (x : SameX a H H1) (y : SameX a H1 H2) : SameX a H H2 := fun b o hb h => y b o hb (x b o hb h)
theorem SameX.of {a : Addr} {H H' : Hp} (s : Same H H') : SameX a H H' := fun b o _ h => s b o h
theorem SameX.put {a : Addr} {H H' : Hp} {o : HO} (s : SameX a H H') : SameX a H (upd H' a o) := fun b u hb h => by
  rw [upd_ne hb]; exact s b u hb h
theorem SameX.free {a b : Addr} {H H' : Hp} (s : SameX a H H') (ha : H' a ≠ none) (h : H' b = none) : H b = none := by
  cases q : H b with
  | none => rfl
  | some o =>
    have hb : b ≠ a := fun e => ha (e ▸ h)
    rw [s b o hb q] at h; cases h
theorem same_upd {H : Hp} {p : Addr} {o : HO} (h : H p = none) : Same H (upd H p o) := fun b x e => by
  rw [upd_ne (ne_of_none e h)]; exact e
theorem sql_of {K : PySem.W.Frag} {H : Hp} {a : Addr} {xs : List V} (h : H a = some (.lst xs)) : SqL K H a xs := .inl (.inl h)
theorem sqt_of {K : PySem.W.Frag} {H : Hp} {a : Addr} {xs : List V} (h : H a = some (.tup xs)) : SqT K H a xs := .inl (.inl h)

/-! a pot: three ints, the third at most N -/
structure Pot (H : Hp) (a : Addr) (N : Nat) : Prop where
  ex : ∃ x y z : Int, H a = some (.lst [.int x, .int y, .int z]) ∧ 0 ≤ x ∧ 0 ≤ y ∧ y < 2 ^ 61 ∧ 0 ≤ z ∧ z ≤ N
theorem Pot.mono {H : Hp} {a : Addr} {N M : Nat} (p : Pot H a N) (h : N ≤ M) : Pot H a M := by
  obtain ⟨x, y, z, e, h1, h2, h3, h4, h5⟩ := p.ex
  exact ⟨x, y, z, e, h1, h2, h3, h4, by omega⟩
theorem Pot.same {H H' : Hp} {a : Addr} {N : Nat} (p : Pot H a N) (s : Same H H') : Pot H' a N := by
  obtain ⟨x, y, z, e, h⟩ := p.ex
  exact ⟨x, y, z, s _ _ e, h⟩
theorem Pot.some {H : Hp} {a : Addr} {N : Nat} (p : Pot H a N) : H a ≠ none := by
  obtain ⟨x, y, z, e, _⟩ := p.ex
  rw [e]; exact fun q => nomatch q
/-- what a place of the script is worth to a draw: any int -/
def spPot (K : PySem.W.Frag) : Sp := fun vs H Q _ => ∃ (a : Addr) (ns : List Int) (i : Int), vs = [.ref a, .int i] ∧ SqL K H a (ns.map V.int) ∧ ns.length ≤ 63 ∧ 0 ≤ i ∧ i < 1000 ∧
  ∀ p H', Same H H' → H p = none → Pot H' p 0 → Q (.ref p) H'
/-- a draw below u -/
def spTake : Sp := fun vs H Q _ => ∃ (a : Addr) (u : Int) (N : Nat), vs = [.ref a, .int u] ∧ Pot H a N ∧ N < 1000000000 ∧ 0 < u ∧ u < 1000000000 ∧
  ∀ r H', 0 ≤ r → r < u → SameX a H H' → Pot H' a (N + 1) → Q (.int r) H'
/-- one of the items of a list -/
def spOf (K : PySem.W.Frag) : Sp := fun vs H Q _ => ∃ (a b : Addr) (xs : List V) (N : Nat), vs = [.ref a, .ref b] ∧ Pot H a N ∧ N < 1000000000 ∧ SqL K H b xs ∧ a ≠ b ∧ 0 < xs.length ∧ xs.length < 1000000000 ∧
  ∀ (i : Nat) v H', xs[i]? = some v → SameX a H H' → Pot H' a (N + 1) → Q v H'
/-- the places of the script that are looked at -/
def spCells (K : PySem.W.Frag) : Sp := fun vs H Q _ => ∃ (a : Addr) (xs : List V) (m : Int), vs = [.ref a, .int m] ∧ SqL K H a xs ∧ xs.length ≤ 63 ∧ 0 < m ∧ m < 1000 ∧
  ∀ (n : Nat) p H', 0 < n → (n : Int) ≤ m → Same H H' → H p = none → H' p = some (.lst ((List.range n).map fun i : Nat => V.int (i : Int))) → Q (.ref p) H'
theorem bits_nat {i : Int} {n : Nat} (h : i.natAbs < 2 ^ n) : Builtin.Int.intBits i ≤ n := intBits_le h
end Hw

set_option Elab.async false
set_option linter.all false
set_option maxRecDepth 100000
set_option maxHeartbeats 4000000
namespace Hw
open PySem L2 PyProof.Rows
/-! defs that know that no repr runs around them -/
structure RoomG (k : Nat) (A : Around) : Prop where
  r : Room k A
  g : A.guards = some []
theorem RoomG.mono {j k : Nat} {A : Around} (r : RoomG k A) (h : j ≤ k) : RoomG j A := ⟨r.r.mono h, r.g⟩
theorem RoomG.deeper {k : Nat} {A : Around} (r : RoomG (k + 1) A) (env : Env) : RoomG k (A.deeper env) := ⟨r.r.deeper env, r.g⟩
theorem RoomG.make {k : Nat} {A : Around} (r : RoomG (k + 1) A) (C : Addr) (us : List Value) (kw : List (Str × Value)) : RoomG k (A.under (.builtin "type.__call__" ⟨.ref C :: us, kw⟩)) :=
  ⟨r.r.make C us kw, by
    have e : (A.under (.builtin "type.__call__" ⟨.ref C :: us, kw⟩)).guards = A.guards := by
      first | rfl | simp [Around.under, Code.guards, pushGuards, Code.isGuard, guardIds]
    rw [e]; exact r.g⟩
section
variable (P : Program) (w : World) (K : PySem.W.Frag) (mg : Str → Option Value) (base : Heap)
structure FnG (CX : CXT) (k : Nat) (f : Addr) (fd : FuncData) (ps : List Str) (sp : Sp) : Prop where
  len : ∀ vs H Q E, sp vs H Q E → vs.length = ps.length
  run : ∀ (A : Around) (outer : List Env) (s : Shared) (H : Hp) (args : Args) (us : List Value) (vs : List V) (Q : VK) (E : XK), RoomG k A → Env0 P w K mg base A outer s H →
    BindsTo s fd args (ps.zip us) → Vals vs us → sp vs H Q E → codeAny (model P w) A (.call (.ref f) args) (CR CX outer P w H s Q E) s
end
section
variable {P : Program} {w : World} {K : PySem.W.Frag} {mg : Str → Option Value} {base : Heap} {CX : CXT} {k : Nat} {f : Addr} {fd : FuncData} {ps : List Str} {sp sp' : Sp}
theorem toG (F : FnOk P w K mg base CX k f fd ps sp) : FnG P w K mg base CX k f fd ps sp := ⟨F.len, fun A o s H a us vs Q E hr => F.run A o s H a us vs Q E hr.r⟩
theorem FnG.mono {j : Nat} (F : FnG P w K mg base CX j f fd ps sp) (h : j ≤ k) : FnG P w K mg base CX k f fd ps sp := ⟨F.len, fun A o s H a us vs Q E hr => F.run A o s H a us vs Q E (hr.mono h)⟩
theorem FnG.imp (F : FnG P w K mg base CX k f fd ps sp) (h : ∀ vs H Q E, sp' vs H Q E → sp vs H Q E) : FnG P w K mg base CX k f fd ps sp' :=
  ⟨fun vs H Q E q => F.len vs H Q E (h _ _ _ _ q), fun A o s H a us vs Q E hr he hb hv hs => F.run A o s H a us vs Q E hr he hb hv (h _ _ _ _ hs)⟩
end
section
variable {X : Cx} {CX : CXT} {k : Nat} {f C : Addr} {fd : FuncData} {ps : List Str} {sp : Sp} {dvs : List V} {ds : List Value} {E : XK} {x m : Str} {p pos apos : Pos} {e o : Expr} {es : List Expr} {ta : TE} {t : TA}
theorem runG {pins : List (Addr × Obj)} {σ : L2.St} {H : Hp} {s : Shared} {Q : VK} {us : List Value} {vs : List V} (F : FnG X.prog X.w X.K X.mg X.base CX k f fd ps sp) (hr : RoomG k X.A) (hb : Binds X.K fd ps ds) (hd : Vals dvs ds)
    (hx : Passes CX X E) (I : Inv X pins σ H s) (r : Vals vs us) (h : sp (vs ++ dvs) H Q E) : wpAny (model X.prog X.w) X.A (call (.ref f) us) (EP X pins σ Q) X.xe s := by
  have rr : Vals (vs ++ dvs) (us ++ ds) := r.append hd
  have ll : (us ++ ds).length = ps.length := rr.length.symm.trans (F.len _ _ _ _ h)
  refine wpAny_call (codeAny_mono (F.run X.A X.stack s H ⟨us, []⟩ (us ++ ds) (vs ++ dvs) Q E hr I.env0 (hb s us I.kIn ll) rr h) fun r' s' hq => ?_)
  match r', hq with
  | .error er, hq => exact hx pins σ H s er s' I hq
  | .ok (.ret u), hq => exact I.after hq
  | .ok .next, hq => exact False.elim hq
  | .ok .brk, hq => exact False.elim hq
  | .ok .cont, hq => exact False.elim hq
theorem pe_callG (F : FnG X.prog X.w X.K X.mg X.base CX k f fd ps sp) (hr : RoomG k X.A) (hg : Gl X x) (hm : X.mg x = some (.ref f)) (hk : PySem.W.keepIn X.K (.ref f) = true) (hb : Binds X.K fd ps ds) (hd : Vals dvs ds)
    (hx : Passes CX X E) (ha : PA X (e :: es) t) (hdb : (x == ("__debug__" : Str)) = false := by decide) (he : starEach (e :: es) X.env = (false, eval e X.env) :: starEach es X.env := by rfl)
    (hpl : (backTo pos (starEach es X.env)).any (·.1) = false := by rfl) : PE X (.Call (.Name x p) (e :: es) [] pos) (tCall sp dvs E t) :=
  ⟨fun pins s σ H Q I h => wpAny_Call_Name_kw (ld_glob I hg hm (PySem.W.callWith_K (h₀ := X.base) I.ok.mod.kin hk (thn (ha.run pos pins s σ H _ I h) fun us s1 ⟨vs, H1, I1, r, q⟩ => ⟨I1.kIn, runG F hr hb hd hx I1 r q⟩) he hpl) hdb)⟩
theorem pe_call0G (F : FnG X.prog X.w X.K X.mg X.base CX k f fd ps sp) (hr : RoomG k X.A) (hg : Gl X x) (hm : X.mg x = some (.ref f)) (hk : PySem.W.keepIn X.K (.ref f) = true) (hb : Binds X.K fd ps ds) (hd : Vals dvs ds)
    (hx : Passes CX X E) (hdb : (x == ("__debug__" : Str)) = false := by decide) : PE X (.Call (.Name x p) [] [] pos) (tCall sp dvs E tNil) :=
  ⟨fun pins s σ H Q I h => wpAny_Call_Name_kw (ld_glob I hg hm (PySem.W.callWith_K0 I.kIn hk (runG (us := []) F hr hb hd hx I .nil h)) hdb)⟩
end
/-- a def by its body -/
theorem fnG_of {CX : CXT} {P : Program} {w : World} {K : PySem.W.Frag} {mg : Str → Option Value} {base : Heap} {k : Nat} {f : Addr} {name qual : Str} {params : Arguments} {body : List Stmt} {scope : Scope} {dV kV doc pm cdv ct oc : Value} {an od : Option Addr}
    {osl : Array (Option Value)} {N ps : List Str} {sp : Sp} (lk : K.lookup f = some ⟨oc, od, .func (PySem.W.fnOf name qual params body scope dV kV doc pm an cdv ct), osl⟩) (hcd : PySem.W.codeIn K cdv qual = true)
    (S : FnScope N ps scope) (len : ∀ vs H Q E, sp vs H Q E → vs.length = ps.length)
    (hbody : ∀ (A : Around) (outer : List Env) (s : Shared) (H : Hp) (vs : List V) (Q : VK) (E : XK), RoomG k (A.deeper (envOfC qual scope s.heap.objs.size f cdv)) → sp vs H Q E →
      ∃ t, PSs (cxOf CX P w K mg base N qual scope f cdv A outer s H E) body t ∧ t { nx := fun _ H' => Q .non H', rt := Q } (start N vs) H) :
    FnG P w K mg base CX (k + 1) f (PySem.W.fnOf name qual params body scope dV kV doc pm an cdv ct) ps sp := by
  refine ⟨len, fun A outer s H args us vs Q E hr e0 hb r hsp => ?_⟩
  have nl := len _ _ _ _ hsp
  have kin : K.In s.heap := e0.mod.kin.keeps fun b o e => (e0.bs b o e).1
  have nolim : s.heap.NoLimit := e0.mod.nolimit.keeps fun b o e => (e0.bs b o e).1
  have kinds : ∀ y ∈ ps.zip us, scope.names.lookup y.1 = some .local ∨ (scope.names.lookup y.1 = some .cell ∧ ((cellsFrom (s.heap.objs.size + 1) scope.names []).lookup y.1).isSome = true) := by
    rintro ⟨n, v⟩ hy
    rcases S.par n (List.of_mem_zip hy).1 with q | q
    · left; exact q
    · right; exact ⟨q, PySem.W.cellsFrom_some _ _ _ (.inl q)⟩
  refine codeAny_call_function hr.r.depth (kin _ _ lk) rfl S.co S.gen rfl (PySem.W.codeRec_of kin hcd) (hb _ _ _ _ ?_)
  refine wpAny_newFunctionEnv_cells S.kind kinds fun env he s1 x => ?_
  subst he
  refine ⟨nolim.keeps x.toInCall.keep, codeAny_func ?_⟩
  obtain ⟨t, ht, hq⟩ := hbody A outer s H vs Q E (hr.deeper _) hsp
  have I0 : Inv (cxOf CX P w K mg base N qual scope f cdv A outer s H E) [] (start N vs) H s1 := inv_start S hr.r.hd e0 nl r x
  refine wpAny_mono (ht.run [] s1 (start N vs) H _ I0 hq) (fun fl s' hs => ?_) fun _ _ hs => hs
  have done : ∀ {σ' : L2.St} {H' : Hp} {v : V} {u : Value}, Inv (cxOf CX P w K mg base N qual scope f cdv A outer s H E) [] σ' H' s' → RelV v u → Q v H' → CE outer P w H s Q u s' :=
    fun {_ H' v _} J rv q => ⟨v, H', J.os, J.bare, J.base, J.hok, rv, q⟩
  match fl, hs with
  | .ret u, ⟨v, σ', H', J, rv, q⟩ => exact done J rv q
  | .next, ⟨σ', H', J, q⟩ => exact done (v := V.non) (u := Value.none) J rfl q
  | .brk, ⟨_, _, _, q⟩ => exact False.elim q
  | .cont, ⟨_, _, _, q⟩ => exact False.elim q
section
variable {P : Program} {w : World} {K : PySem.W.Frag} {mg : Str → Option Value} {base : Heap}
theorem funG {x qual : Str} {st : Stmt} {f : Addr} {fd : FuncData} {N ps : List Str} {k : Nat} {sp : Sp} (F : Fun K x qual st f fd) (S : FnScope N ps (defScope st)) (len : ∀ vs H Q E, sp vs H Q E → vs.length = ps.length)
    (hbody : ∀ (cdv : Value) (A : Around) (outer : List Env) (s : Shared) (H : Hp) (vs : List V) (Q : VK) (E : XK), RoomG k (A.deeper (envOfC qual (defScope st) s.heap.objs.size f cdv)) → sp vs H Q E →
      ∃ t, PSs (cxOf CX0 P w K mg base N qual (defScope st) f cdv A outer s H E).nox (defBody st) t ∧ t { nx := fun _ H' => Q .non H', rt := Q } (start N vs) H) : FnG P w K mg base CX0 (k + 1) f fd ps sp := by
  obtain ⟨oc, od, kV, doc, pm, an, cdv, ct, osl, rfl, lk, hcd⟩ := F.ex
  exact fnG_of lk hcd S len fun A outer s H vs Q E hr hsp => by
    obtain ⟨t, h, q⟩ := hbody cdv A outer s H vs Q E hr hsp
    exact ⟨t, h.nox, q⟩
theorem funGX {x qual : Str} {st : Stmt} {f : Addr} {fd : FuncData} {N ps : List Str} {k : Nat} {sp : Sp} (F : Fun K x qual st f fd) (S : FnScope N ps (defScope st)) (len : ∀ vs H Q E, sp vs H Q E → vs.length = ps.length)
    (hbody : ∀ (cdv : Value) (A : Around) (outer : List Env) (s : Shared) (H : Hp) (vs : List V) (Q : VK) (E : XK), RoomG k (A.deeper (envOfC qual (defScope st) s.heap.objs.size f cdv)) → sp vs H Q E →
      ∃ t, PSs (cxOf (L2.CX P w) P w K mg base N qual (defScope st) f cdv A outer s H E) (defBody st) t ∧ t { nx := fun _ H' => Q .non H', rt := Q } (start N vs) H) : FnG P w K mg base (L2.CX P w) (k + 1) f fd ps sp := by
  obtain ⟨oc, od, kV, doc, pm, an, cdv, ct, osl, rfl, lk, hcd⟩ := F.ex
  exact fnG_of lk hcd S len fun A outer s H vs Q E hr hsp => hbody cdv A outer s H vs Q E hr hsp
end
/-- the law's call -/
theorem lawG {P : Program} {w : World} {K : PySem.W.Frag} {mg mb : Str → Option Value} {k : Nat} {fa a : Addr} {fd : FuncData} {x : Str} {sp : Sp} {s1 : Shared} {vs : List Value} {ns : List Int}
    (KX : K.In s1.heap) (hns : s1.heap.Ns mainGlobals mg) (hb : s1.heap.Ns builtinsNs mb) (hbb : ∀ x : Str, x ≠ "__name__" → mb x = bootBuiltins x) (hlim : s1.heap.NoLimit) (hgen : s1.gens = #[])
    (ha : s1.heap.get? a = some { cls := .type "list", data := .seq vs.toArray }) (hi : IntsAre vs ns) (hl : ns.length ≤ sizeLine) (hr : Room k callerA)
    (F : ∀ base : Heap, K.In base → base.Ns mainGlobals mg → FnG P w K mg base CX0 k fa fd [x] sp) (hbind : ∀ (s : Shared) (u : Value), BindsTo s fd ⟨[u], []⟩ [(x, u)])
    (hsp : ∀ H : Hp, Only H → SqL K H a (ns.map V.int) → sp [.ref a] H (fun v _ => v = .bl true) E0) :
    codeAny (model P w) callerA (.call (.ref fa) ⟨[.ref a], []⟩) (fun r s' => r = .ok (.ret (.bool true)) ∧ OldK s1.heap s'.heap ∧ s'.os = s1.os ∧ AllBare s'.gens) s1 := by
  have rv := vals_ints hi
  have core : ∀ H : Hp, Only H → SqL K H a (ns.map V.int) → HOk P w H s1.heap → (∀ b, H b ≠ none → b = a) → (H a ≠ none → K.lookup a = none) →
      codeAny (model P w) callerA (.call (.ref fa) ⟨[.ref a], []⟩) (fun r s' => r = .ok (.ret (.bool true)) ∧ OldK s1.heap s'.heap ∧ s'.os = s1.os ∧ AllBare s'.gens) s1 := by
    intro H hO hS hok onlyA notK
    have hid : ∀ {b : Addr} {o : Obj}, s1.heap.get? b = some o → H b = none → (hidT s1.heap H).get? b = some o := fun e n => hidT_get e n
    have free : ∀ {b : Addr}, (b = a → False) → H b = none := fun {b} h => by
      cases q : H b with
      | none => rfl
      | some u => exact (h (onlyA b (by rw [q]; simp))).elim
    have nsH : ∀ {b : Addr} {m : Str → Option Value}, s1.heap.Ns b m → (hidT s1.heap H).Ns b m := fun {b m} ⟨o, es, ep, e, d, r⟩ => by
      refine ⟨o, es, ep, hid e (free fun z => ?_), d, r⟩
      subst z
      rw [ha] at e
      have e' := Option.some.inj e
      rw [← e'] at d
      cases d
    have kinH : K.In (hidT s1.heap H) := fun b o e => by
      refine hid (KX b o e) ?_
      by_cases hba : b = a
      · subst hba
        cases q : H b with
        | none => rfl
        | some u =>
          have z := notK (by rw [q]; simp)
          rw [e] at z; cases z
      · exact free hba
    have modH : Mod K mg (hidT s1.heap H) := ⟨kinH, nsH hns, ⟨mb, nsH hb, hbb⟩, let ⟨mc, h1, h2⟩ := hlim; ⟨mc, nsH h1, h2⟩⟩
    have env0 : Env0 P w K mg (hidT s1.heap H) callerA [] s1 H := ⟨rfl, modH, fun b o e => of_hidT e, Nat.le_of_eq (hidT_size _ _), trivial, fun b hb => (by cases hb), hok, .of_eq hgen⟩
    refine codeAny_mono ((F _ kinH (nsH hns)).run callerA [] s1 H ⟨[.ref a], []⟩ [.ref a] [.ref a] _ _ ⟨hr, rfl⟩ env0 (hbind s1 (.ref a)) (.cons rfl .nil) (hsp H hO hS)) fun r s' h => ?_
    match r, h with
    | .error e, h => exact False.elim h
    | .ok .next, h => exact False.elim h
    | .ok .brk, h => exact False.elim h
    | .ok .cont, h => exact False.elim h
    | .ok (.ret u), h =>
      obtain ⟨v, H', os, bare, un, hok', r', q⟩ := h
      obtain rfl : v = .bl true := q
      obtain rfl : u = Value.bool true := r'
      refine ⟨rfl, OldK.of_keep fun b o e => ?_, os, bare⟩
      cases q : H b with
      | none => exact un.keep b o e q (by intro z; cases z) (by intro z; cases z)
      | some u =>
        obtain ⟨ob, xs, z⟩ : ∃ o xs, H b = some (.frz o (.lst xs)) := (hO b).resolve_left (by rw [q]; simp)
        have e1 := (hok b _ z).1
        have e2 := (hok' b _ (un.frzs b ob _ z)).1
        rw [e] at e1
        cases e1
        exact e2
  cases hk : K.lookup a with
  | some o =>
    have e := KX a o hk
    rw [ha] at e
    cases e
    exact core (fun _ => none) (fun _ => .inl rfl) (.inr ⟨_, vs.toArray, _, hk, rfl, rfl, rfl, by rw [List.size_toArray, hi.length]; exact hl, by simpa using rv⟩) (fun b u z => by cases (show (none : Option HO) = some u from z)) (fun b z => absurd rfl z) fun z => absurd rfl z
  | none =>
    have at_ : ∀ {b : Addr}, b ≠ a → (if b = a then some (HO.frz { cls := .type "list", data := .seq vs.toArray } (.lst (ns.map V.int))) else none) = none := fun h => if_neg h
    refine core (fun b => if b = a then some (.frz { cls := .type "list", data := .seq vs.toArray } (.lst (ns.map V.int))) else none) (fun b => ?_) (.inl (.inr ⟨{ cls := .type "list", data := .seq vs.toArray }, if_pos rfl⟩)) (fun b u z => ?_) (fun b z => ?_) fun _ => hk
    · by_cases hba : b = a
      · exact .inr ⟨_, _, if_pos hba⟩
      · exact .inl (at_ hba)
    · by_cases hba : b = a
      · subst hba
        have z' := (if_pos rfl).symm.trans z
        cases z'
        exact ⟨ha, by rw [List.length_map]; exact hl, vs, _, rv, ha⟩
      · have z' := (at_ hba).symm.trans z
        cases z'
    · by_cases hba : b = a
      · exact hba
      · exact absurd (at_ hba) z
theorem walkG {l : PySem.W.OpenLaw} {n k : Nat} {q : Program} {loose : List Str} {XP : (Str → Option Value) → Heap → Prop} {YP : World → Heap → Prop} {d : DefRec} {K : Params → PySem.W.Frag} {sp : World → Sp} {x : Str}
    (hn : l.most = some n) (hn2 : n ≤ sizeLine) (hdf : d.params.defaults = []) (hr : Room k callerA) (hY : ∀ (w : World) (h : Heap), YP w h → (K w.params).In h)
    (F : ∀ (w : World) (mg : Str → Option Value) (fa : Addr) (h : Heap), (K w.params).In h → h.Ns mainGlobals mg → mg d.name = some (.ref fa) →
      ∃ fd : FuncData, (∀ (s : Shared) (u : Value), BindsTo s fd ⟨[u], []⟩ [(x, u)]) ∧ ∀ base : Heap, (K w.params).In base → base.Ns mainGlobals mg → FnG l.prog w (K w.params) mg base CX0 k fa fd [x] (sp w))
    (hsp : ∀ (w : World) (H : Hp) (a : Addr) (ns : List Int), ns.length ≤ n → Only H → SqL (K w.params) H a (ns.map V.int) → sp w [.ref a] H (fun v _ => v = .bl true) E0) :
    PySem.W.WalkO q loose XP YP l.row.toRowW d [] (fun f vs => PySem.call f vs) := by
  refine Att.attach_call hn hdf fun w s0 s1 mg mb fa o pm cd doc a vs ns G Y ho hd hcd hmg hobj hints hlen hgen => ?_
  have KX := hY w _ Y
  obtain ⟨fd, hb, hF⟩ := F w mg fa _ KX G.T.g hmg
  exact lawG KX G.T.g G.T.b G.T.builtins G.T.nolimit hgen hobj hints (Nat.le_trans hlen hn2) hr hF hb (fun H hO hS => hsp w H a ns hlen hO hS)
end Hw

set_option Elab.async false
set_option linter.all false
set_option maxRecDepth 100000
set_option maxHeartbeats 4000000
namespace Hw
open PySem L2 PyProof.Rows
/-! repr of data -/
mutual
theorem Dp_noDict {K : PySem.W.Frag} {H : Hp} : ∀ (d : PyData) (v : V), Dp K H v d → d.hasDict = false
  | .none, _, _ => by simp only [PyData.hasDict]
  | .bool _, _, _ => by simp only [PyData.hasDict]
  | .int _, _, _ => by simp only [PyData.hasDict]
  | .str _, _, _ => by simp only [PyData.hasDict]
  | .list ds, _, h => by
    cases h with
    | lst _ ha => simp only [PyData.hasDict]; exact DpAll_noDict ds _ ha
  | .tuple ds, _, h => by
    cases h with
    | tup _ ha => simp only [PyData.hasDict]; exact DpAll_noDict ds _ ha
  | .dict _, _, h => nomatch h
theorem DpAll_noDict {K : PySem.W.Frag} {H : Hp} : ∀ (ds : List PyData) (vs : List V), DpAll K H vs ds → PyData.hasDictAll ds = false
  | [], _, _ => by simp only [PyData.hasDictAll]
  | d :: ds, _, h => by
    cases h with
    | cons h1 h2 =>
      simp only [PyData.hasDictAll]
      rw [Dp_noDict d _ h1, DpAll_noDict ds _ h2]; rfl
end
/-- what is flat, as data -/
def flatPD : V → Option PyData
  | .non => some .none
  | .bl b => some (.bool b)
  | .int i => some (.int i)
  | .str x => some (.str x)
  | _ => none
def keyPD : Key → PyData
  | .inl i => .int i
  | .inr x => .str x
/-- a dict with flat values, as data -/
def DpK (H : Hp) (v : V) (d : PyData) : Prop := ∃ (a : Addr) (kvs : List (Key × V)) (ds : List (PyData × PyData)), v = .ref a ∧ H a = some (.dK kvs) ∧ d = .dict ds ∧
  Paired (fun p q => q.1 = keyPD p.1 ∧ flatPD p.2 = some q.2) kvs ds
def rRepr (K : PySem.W.Frag) : List V → Hp → VK → Prop := fun xs H Q => ∃ (x : V) (d : PyData), xs = [x] ∧ (Dp K H x d ∨ DpK H x d) ∧ d.showable = true ∧ d.depth ≤ 60 ∧ d.shown.length ≤ sizeLine ∧ Q (.str d.shown) H
theorem flat_reads {h : Heap} {v : V} {d : PyData} {u : Value} (e : flatPD v = some d) (r : RelV v u) : Reads h u d [] := by
  cases v with
  | non => cases e; cases r; exact .none
  | bl b => cases e; cases r; exact .bool b
  | int i => cases e; obtain ⟨t, rfl⟩ := r; exact .int i t
  | str x => cases e; obtain ⟨t, rfl⟩ := r; exact .str x t
  | byt b => cases e
  | flt b => cases e
  | ref a => cases e
  | ty n => cases e
theorem key_reads {P : Program} {w : World} {h : Heap} {k : Key} {u : Value} (e : (mixKind P w).is k u = true) : Reads h u (keyPD k) [] := by
  rcases keyIs_shape e with ⟨i, t, rfl, rfl⟩ | ⟨x, t, rfl, rfl⟩
  · exact .int i t
  · exact .str x t
theorem dict_reads {P : Program} {w : World} {h : Heap} : ∀ {kvs : List (Key × V)} {ds : List (PyData × PyData)} {vs : List (Key × Value)} {es : List DictEntry}, Paired (fun p q => q.1 = keyPD p.1 ∧ flatPD p.2 = some q.2) kvs ds → KV kvs vs → PySem.Pairs (mixKind P w) es vs →
    ReadsAll h (es.map (·.key)) (ds.map (·.1)) [] ∧ ReadsAll h (es.map (·.val)) (ds.map (·.2)) []
  | [], _, _, _, .nil, kv, pr => by cases kv; cases pr; exact ⟨.nil, .nil⟩
  | p :: kvs, q :: ds, _, _, .cons a t, kv, pr => by
    cases kv with
    | cons k1 k2 =>
      cases pr with
      | cons p1 p2 p3 =>
        obtain ⟨r1, r2⟩ := dict_reads t k2 p3
        obtain ⟨e1, e2⟩ := a
        refine ⟨?_, ?_⟩
        · have z : ReadsAll h _ _ ([] ++ []) := .cons (key_reads (h := h) p1) r1
          rw [← k1.1, ← e1] at z
          exact z
        · have y := flat_reads (h := h) e2 k1.2
          rw [← p2] at y
          exact (ReadsAll.cons y r2 : ReadsAll h _ _ ([] ++ []))
section
variable {X : Cx}
theorem call_repr (hg : X.A.guards = some []) (hu : X.A.units + 100 < cLine) : CallR X (.builtin "repr") (rRepr X.K) := by
  intro pins s σ H xs us Q I r h
  obtain ⟨x, d, rfl, hd, hs, hdp, hz, q⟩ := h
  obtain ⟨u, w', rfl, ru, rw'⟩ : ∃ u w', us = [u] ∧ RelV x u ∧ w' = us := by
    cases r with
    | cons a t => cases t; exact ⟨_, _, rfl, a, rfl⟩
  have fin : ∀ h' (tk : Tok) (tk' : Nat), (∀ b o, s.heap.get? b = some o → h'.get? b = some o) → EP X pins σ Q (.str d.shown tk) { s with heap := h', toks := tk' } := fun h' tk tk' k => ⟨.str d.shown, H, I.kept (t' := tk') k, ⟨tk, rfl⟩, q⟩
  have big : ∀ {a : Addr} {as : List Addr}, Reads s.heap (.ref a) d as → (d.hasDict = true → sysModules ∉ as) → wpAny (model X.prog X.w) X.A (call (.builtin "repr") [.ref a]) (EP X pins σ Q) X.xe s := fun {a as} r1 hm =>
    repr_of_reads' (h₀ := s.heap) r1 hs hm hg (by omega) (fun _ _ e => e) (fun h' u tk k => fin h' u tk k) hz
  rcases hd with hd | ⟨a, kvs, ds, rfl, ha, rfl, hp⟩
  · have nd := Dp_noDict d x hd
    obtain ⟨as, r1⟩ := Dp.reads I d x u hd ru
    cases hd with
    | non => cases ru; exact P.repr_of_none (fin s.heap _ _ fun _ _ e => e)
    | bl b =>
      cases ru
      refine P.repr_of_bool ?_
      have z := fin s.heap s.toks (s.toks + 1) fun _ _ e => e
      simpa only [PyData.shown] using z
    | int i =>
      obtain ⟨t, rfl⟩ := ru
      refine P.repr_of_int (by simpa only [PyData.showable, decide_eq_true_eq] using hs) ?_
      have z := fin s.heap s.toks (s.toks + 1) fun _ _ e => e
      simpa only [PyData.shown] using z
    | str y =>
      obtain ⟨t, rfl⟩ := ru
      refine P.repr_of_str ?_ (by simpa only [PyData.shown] using hz)
      have z := fin s.heap s.toks (s.toks + 1) fun _ _ e => e
      simpa only [PyData.shown] using z
    | lst h1 h2 => cases ru; exact big r1 (by rw [nd]; exact fun z => nomatch z)
    | tup h1 h2 => cases ru; exact big r1 (by rw [nd]; exact fun z => nomatch z)
  · cases ru
    obtain ⟨hl, hsys, vs, kv, o, es, ep, ho, hex, hdat, _, hpr, _⟩ := dk_of I.hok ha
    obtain ⟨r1, r2⟩ := dict_reads (h := s.heap) hp kv hpr
    refine big (.dict ho hex.1 hdat r1 r2) fun _ hm => ?_
    have e : sysModules = a := by simpa using hm
    rw [← e] at hsys
    simp at hsys
end
end Hw

set_option Elab.async false
set_option linter.all false
set_option maxRecDepth 100000
set_option maxHeartbeats 4000000
namespace Hw
open PySem L2 PyProof.Rows
/-! an exception held as a value: the object at a, its own dict at d -/
def XAt (H : Hp) (a C d : Addr) (v : V) : Prop := H a = some (exo a C (some d)) ∧ H d = some (exd d [("value", v)])
theorem XAt.same {H H' : Hp} {a C d : Addr} {v : V} (x : XAt H a C d v) (s : Same H H') : XAt H' a C d v := ⟨s _ _ x.1, s _ _ x.2⟩
theorem XAt.sameX {H H' : Hp} {a C d p : Addr} {v : V} (x : XAt H a C d v) (s : SameX p H H') (ha : a ≠ p) (hd : d ≠ p) : XAt H' a C d v := ⟨s _ _ ha x.1, s _ _ hd x.2⟩
/-- what the written part says of such a class -/
structure XCls (K : PySem.W.Frag) (fI C : Addr) : Prop where
  o : OexC K C
  x : XfC K C
  noV : PySem.W.findIn K (.ref C) "value" = some none
  ini : PySem.W.findIn K (.ref C) "__init__" = some (some (.ref fI))
  tI : PySem.W.typeIn K (.ref fI) = some (.type "function")
  cl : (PySem.W.clsIn K C).isSome = true
  ha : PySem.W.findIn K (.ref C) "__class__" = some (some (.builtin "object.__class__"))
  hn : PySem.W.specialIn K (.builtin "object.__class__") "__get__" = some (some (.builtin "getset_descriptor.__get__"))
  ht : PySem.W.takesIn K (.builtin "object.__class__") = some true
  hm : PySem.W.mroIn K C (.type "object") = some true
def oexB (K : PySem.W.Frag) (C : Addr) : Bool := match K.lookup C with
  | some ⟨.type "type", _, .cls cd, sl⟩ => (match cd.mro, sl.toList with
    | .ref C' :: bm, [_, _, _, _, some (.builtin n), _] => C' == C && (n == "ValueError.__new__" && (!cd.hasDel && (cd.hasDict && PySem.HandSPX.refsVE bm)))
    | _, _ => false)
  | _ => false
theorem oexB_ok {K : PySem.W.Frag} {C : Addr} (q : oexB K C = true) :
    ∃ nm q N bs bm sn sub ab col dd k0 k1 k2 k3 k5, K.lookup C = some (excClassObj nm q C N bs bm true sn sub ab col dd k0 k1 k2 k3 k5 "ValueError.__new__") ∧ PySem.HandSPX.refsVE bm = true := by
  unfold oexB at q
  split at q
  · rename_i dd cd sl ho
    split at q
    · rename_i C' bm k0 k1 k2 k3 n k5 hm hs
      simp only [Bool.and_eq_true, beq_iff_eq, Bool.not_eq_true'] at q
      obtain ⟨rfl, rfl, hdel, hdi, hve⟩ := q
      obtain ⟨nm, bs, mro, ns, qn, hd, sn, sub, ab, col, del⟩ := cd
      dsimp only at hm hdel hdi
      subst hm hdel hdi
      have hsl : sl = #[k0, k1, k2, k3, some (.builtin "ValueError.__new__"), k5] := by
        obtain ⟨l⟩ := sl
        simp only at hs
        rw [hs]
      subst hsl
      exact ⟨nm, qn, ns, bs, bm, sn, sub, ab, col, dd, k0, k1, k2, k3, k5, ho, hve⟩
    · cases q
  · cases q
def xclsB (K : PySem.W.Frag) (fI C : Addr) : Bool :=
  oexB K C && (decide (PySem.W.findIn K (.ref C) "__setattr__" = some (some (.builtin "object.__setattr__"))) && (decide (PySem.W.subIn K (.ref C) (.type "BaseException") = some true) && (decide (PySem.W.typeIn K (.ref C) = some (.type "type")) && (PySem.W.keepIn K (.ref C) &&
  (xfB K C && (decide (PySem.W.findIn K (.ref C) "value" = some none) && (decide (PySem.W.findIn K (.ref C) "__init__" = some (some (.ref fI))) && (decide (PySem.W.typeIn K (.ref fI) = some (.type "function")) && ((PySem.W.clsIn K C).isSome &&
  (decide (PySem.W.findIn K (.ref C) "__class__" = some (some (.builtin "object.__class__"))) && (decide (PySem.W.specialIn K (.builtin "object.__class__") "__get__" = some (some (.builtin "getset_descriptor.__get__"))) &&
  (decide (PySem.W.takesIn K (.builtin "object.__class__") = some true) && decide (PySem.W.mroIn K C (.type "object") = some true)))))))))))))
theorem xclsB_ok {K : PySem.W.Frag} {fI C : Addr} (h : xclsB K fI C = true) : XCls K fI C := by
  unfold xclsB at h
  simp only [Bool.and_eq_true, decide_eq_true_eq] at h
  obtain ⟨a1, a2, a3, a4, a5, a6, a7, a8, a9, b1, b2, b3, b4, b5⟩ := h
  exact ⟨⟨oexB_ok a1, a2, a3, a4, a5⟩, xfB_ok a6, a7, a8, a9, b1, b2, b3, b4, b5⟩
/-- the promise of __init__(self, value) -/
def spIniX (K : PySem.W.Frag) : Sp := fun vs H Q _ => ∃ (a C fI : Addr) (v : V), vs = [.ref a, v] ∧ XCls K fI C ∧ H a = some (exo a C none) ∧
  ∀ dx, H dx = none → dx ≠ a → Q .non (upd (upd H dx (exd dx [("value", v)])) a (exo a C (some dx)))
/-- C(e): a new exception -/
def tMkX (C : Addr) (ta : TA) : TE := fun σ H Q => ta σ H fun vs H1 => ∃ v, vs = [v] ∧ ∀ a d, H1 a = none → H1 d = none → d ≠ a → Q (.ref a) (upd (upd H1 d (exd d [("value", v)])) a (exo a C (some d)))
/-- x.value of a held exception -/
def tXv (K : PySem.W.Frag) (n : Str) (te : TE) : TE := fun σ H Q => te σ H fun x H1 => ∃ (a C d fI : Addr) (v : V), x = .ref a ∧ n = "value" ∧ XCls K fI C ∧ XAt H1 a C d v ∧ Q v H1
/-- isinstance(x, c) of a held exception -/
def rIsX (K : PySem.W.Frag) : List V → Hp → VK → Prop := fun xs H Q => ∃ (a C d fI : Addr) (v c : V) (u : Value) (b : Bool), xs = [.ref a, c] ∧ ClsV c u ∧ XCls K fI C ∧ XAt H a C d v ∧ PySem.W.kitOne K (.ref C) u = some b ∧ Q (.bl b) H
section
variable {X : Cx}
theorem pe_mkX {x : Str} {C fI : Addr} {k : Nat} {fd : FuncData} {e : Expr} {es : List Expr} {ta : TA} {p pos : Pos} (T : XCls X.K fI C) (F1 : FnOk X.prog X.w X.K X.mg X.base CX0 k fI fd ["self", "value"] (spIniX X.K)) (hr : Room (k + 1) X.A) (hb : Binds X.K fd ["self", "value"] [])
    (hg : Gl X x) (hm : X.mg x = some (.ref C)) (ha : PA X (e :: es) ta) (hdb : (x == ("__debug__" : Str)) = false := by decide) (hs : starEach (e :: es) X.env = (false, eval e X.env) :: starEach es X.env := by rfl) (hpl : (backTo pos (starEach es X.env)).any (·.1) = false := by rfl) :
    PE X (.Call (.Name x p) (e :: es) [] pos) (tMkX C ta) := by
  refine ⟨fun pins s σ H Q I h => ?_⟩
  obtain ⟨nm, q, N, bs, bm, sn, sub, ab, col, dd, k0, k1, k2, k3, k5, hC, hbm⟩ := T.o.cls
  refine wpAny_Call_Name_kw (ld_glob I hg hm ?_ hdb)
  refine PySem.W.callWith_K (h₀ := X.base) I.ok.mod.kin T.o.kC (thn (ha.run pos pins s σ H _ I h) fun us s1 ⟨vs, H1, I1, r1, v, ev, q1⟩ => ⟨I1.kIn, ?_⟩) hs hpl
  subst ev
  show wpAny _ _ (call (.ref C) us) _ _ _
  obtain ⟨hp, g, dr, tk, os⟩ := s1
  have hsz : hp.objs.size ≤ hp.objs.size + 1 := Nat.le_succ _
  have hn : H1 (hp.objs.size + 1) = none := I1.hok.fresh hsz
  have keeps : ∀ b o, hp.get? b = some o → ((hp.push (PySem.W.kdv_tup us)).push (PySem.HandSPX.excO C hp.objs.size)).get? b = some o := fun b o e => Heap.get?_push_of_some _ (Heap.get?_push_of_some _ e)
  have made : ((hp.push (PySem.W.kdv_tup us)).push (PySem.HandSPX.excO C hp.objs.size)).get? (hp.objs.size + 1) = some (PySem.HandSPX.excO C hp.objs.size) := by heap_get
  have I2 : Inv X pins σ (upd H1 (hp.objs.size + 1) (exo (hp.objs.size + 1) C none)) ⟨(hp.push (PySem.W.kdv_tup us)).push (PySem.HandSPX.excO C hp.objs.size), g, dr, tk, os⟩ :=
    I1.laid (t' := tk) keeps hsz (exo_ok made)
  have r2 : Vals (V.ref (hp.objs.size + 1) :: [v]) (Value.ref (hp.objs.size + 1) :: us) := .cons rfl r1
  have hl : (Value.ref (hp.objs.size + 1) :: us).length = (["self", "value"] : List Str).length := by
    rw [← r2.length]; rfl
  have hus : us.length ≤ sizeLine := by
    rw [← Paired.length r1, sizeLine_eq]; show 1 ≤ 16777216; decide
  have hsp : spIniX X.K (V.ref (hp.objs.size + 1) :: [v]) (upd H1 (hp.objs.size + 1) (exo (hp.objs.size + 1) C none)) (fun v' H2 => v' = .non ∧ ∃ d, H1 d = none ∧ d ≠ hp.objs.size + 1 ∧ H2 = upd (upd H1 d (exd d [("value", v)])) (hp.objs.size + 1) (exo (hp.objs.size + 1) C (some d))) E0 := by
    refine ⟨_, C, fI, v, rfl, T, upd_same, fun dx n1 n2 => ⟨rfl, dx, ?_, n2, ?_⟩⟩
    · rw [upd_ne n2] at n1; exact n1
    · funext b
      by_cases hb : b = hp.objs.size + 1
      · rw [hb, upd_same, upd_same]
      · rw [upd_ne hb, upd_ne hb]
        by_cases hd : b = dx
        · rw [hd, upd_same, upd_same]
        · rw [upd_ne hd, upd_ne hd, upd_ne hb]
  refine wpAny_call (PySem.HandSPX.call_own F.excBase_ValueError (fun Y => PySem.HandSPX.refsVE_contains Y bm hbm) (I1.kIn _ _ hC) (PySem.W.looks_findIn I1.kIn T.ini) (fun self => PySem.W.bind_fn I1.kIn self T.tI) hus
    (codeAny_mono (F1.run _ X.stack _ _ ⟨Value.ref (hp.objs.size + 1) :: us, []⟩ (Value.ref (hp.objs.size + 1) :: us) _ _ E0 (hr.make C us []) (I2.env0.make C us []) (by have z := hb _ (Value.ref (hp.objs.size + 1) :: us) I2.kIn (by simpa using hl); simpa using z) r2 hsp) fun r s' hq' => ?_))
  cases r with
  | error er => exact hq'.elim
  | ok fl =>
    cases fl with
    | ret u =>
      obtain ⟨v', H2, os2, bare2, un2, hok2, rv, ev, d, nd, nda, rfl⟩ := hq'
      subst ev
      exact ⟨rv, .ref _, _, I2.call' (ch := []) os2 un2 hok2 bare2 (fun b z => absurd z (by simp)), rfl, q1 _ d hn nd nda⟩
    | next => exact False.elim hq'
    | brk => exact False.elim hq'
    | cont => exact False.elim hq'
theorem xinst {pins : List (Addr × Obj)} {σ : L2.St} {H : Hp} {s : Shared} {a C d : Addr} {v : V} (I : Inv X pins σ H s) (x : XAt H a C d v) :
    ∃ ox od mA, PySem.W.InstAt s.heap a ox C (some od) ∧ s.heap.Ns1 d mA ∧ (∀ f, RelO (List.lookup f [(("value" : Str), v)]) (mA f)) ∧ s.heap.get? d = some od := by
  obtain ⟨t1, e1⟩ := exo_at I.hok x.1
  obtain ⟨mA, hns, rel⟩ := exd_at I.hok x.2
  obtain ⟨od, es, ep, ho, rest⟩ := id hns
  exact ⟨_, od, mA, ⟨e1, rfl, rfl, ho⟩, hns, rel, ho⟩
theorem pe_xv {e : Expr} {te : TE} {pos : Pos} {n : Str} (he : PE X e te) (hb : attributeBase e n X.env (eval e X.env) = eval e X.env := by rfl) : PE X (.Attribute e n pos) (tXv X.K n te) := by
  refine ⟨fun pins s σ H Q I h => ?_⟩
  refine attr_of hb (thn (he.run pins s σ H _ I h) fun u s1 ⟨x, H1, I1, rx, a, C, d, fI, v, ex, en, T, xa, q⟩ => ?_)
  subst ex en
  obtain rfl : u = Value.ref a := rx
  obtain ⟨mA, hns, rel⟩ := exd_at I1.hok xa.2
  obtain ⟨t1, e1⟩ := exo_at I1.hok xa.1
  obtain ⟨od, ho, hl⟩ := lookIn_ns hns
  obtain ⟨u, hu, ru⟩ := RelO.some_of (v := v) (o := mA ("value" : Str)) (by have z := rel ("value" : Str); rwa [lookup_put, if_pos rfl] at z)
  have J : PySem.W.InstAt s1.heap a _ C (some od) := ⟨e1, rfl, rfl, ho⟩
  exact HandSPX.exc_get I1.kIn J T.x.ga T.x.gg T.x.exC (PySem.W.findObj_own T.x.hdC T.noV rfl (by rw [hl, hu])) (handed_of ru) ⟨v, H1, I1.tok _, ru, q⟩
theorem call_isX : CallR X (.builtin "isinstance") (rIsX X.K) := by
  intro pins s σ H xs us Q I r h
  obtain ⟨a, C, d, fI, v, c, u, b, rfl, hc, T, xa, e, q⟩ := h
  obtain ⟨u1, u2, rfl, r1, r2⟩ := vals2 r
  cases (show u1 = Value.ref a from r1)
  have e2 := hc.eq r2
  subst e2
  obtain ⟨ox, od, mA, J, _⟩ := xinst I xa
  exact PySem.W.kia_one (PySem.W.kitx_exc T.cl T.x.ga T.x.gg T.x.exC T.ha T.hn T.ht T.hm) I.kIn J e (fun z => nomatch z) fun tk => ⟨.bl b, H, I.tok tk, rfl, q⟩
end
end Hw

set_option Elab.async false
set_option linter.all false
set_option maxRecDepth 100000
set_option maxHeartbeats 4000000
namespace Hw
open PySem L2 PyProof.Rows
/-! written data, laid beside a place a -/
mutual
inductive Dx (a : Addr) (H : Hp) : V → PyData → Prop
  | flat {v : V} {d : PyData} : flatPD v = some d → Dx a H v d
  | lst {p : Addr} {xs : List V} {ds : List PyData} : H p = some (.lst xs) → p ≠ a → DxAll a H xs ds → Dx a H (.ref p) (.list ds)
  | tup {p : Addr} {xs : List V} {ds : List PyData} : H p = some (.tup xs) → p ≠ a → DxAll a H xs ds → Dx a H (.ref p) (.tuple ds)
  | dct {p : Addr} {kvs : List (Key × V)} {ds : List (PyData × PyData)} : H p = some (.dK kvs) → p ≠ a → (∀ q ∈ kvs, valV kvs q.1 = some q.2 ∧ flatB q.2 = true) → Paired (fun q e => e.1 = keyPD q.1 ∧ flatPD q.2 = some e.2) kvs ds → Dx a H (.ref p) (.dict ds)
inductive DxAll (a : Addr) (H : Hp) : List V → List PyData → Prop
  | nil : DxAll a H [] []
  | cons {v : V} {vs : List V} {d : PyData} {ds : List PyData} : Dx a H v d → DxAll a H vs ds → DxAll a H (v :: vs) (d :: ds)
end
section
variable {a : Addr} {H H' : Hp}
mutual
theorem Dx.keep (s : SameX a H H') : ∀ (v : V) (d : PyData), Dx a H v d → Dx a H' v d
  | _, .list ds, h => by
    cases h with
    | flat e => exact .flat e
    | lst h1 h2 h3 => exact .lst (s _ _ h2 h1) h2 (DxAll.keep s _ ds h3)
  | _, .tuple ds, h => by
    cases h with
    | flat e => exact .flat e
    | tup h1 h2 h3 => exact .tup (s _ _ h2 h1) h2 (DxAll.keep s _ ds h3)
  | _, .dict ds, h => by
    cases h with
    | flat e => exact .flat e
    | dct h1 h2 h3 h4 => exact .dct (s _ _ h2 h1) h2 h3 h4
  | _, .none, h => by cases h with | flat e => exact .flat e
  | _, .bool _, h => by cases h with | flat e => exact .flat e
  | _, .int _, h => by cases h with | flat e => exact .flat e
  | _, .str _, h => by cases h with | flat e => exact .flat e
theorem DxAll.keep (s : SameX a H H') : ∀ (vs : List V) (ds : List PyData), DxAll a H vs ds → DxAll a H' vs ds
  | _, [], h => by cases h; exact .nil
  | _, d :: ds, h => by
    cases h with
    | cons h1 h2 => exact .cons (Dx.keep s _ d h1) (DxAll.keep s _ ds h2)
end
theorem DxAll.length : ∀ {vs : List V} {ds : List PyData}, DxAll a H vs ds → vs.length = ds.length
  | _, _, .nil => rfl
  | _, _, .cons _ t => congrArg (· + 1) (DxAll.length t)
theorem DxAll.append : ∀ {vs ws : List V} {ds es : List PyData}, DxAll a H vs ds → DxAll a H ws es → DxAll a H (vs ++ ws) (ds ++ es)
  | _, _, _, _, .nil, t => t
  | _, _, _, _, .cons x y, t => .cons x (DxAll.append y t)
theorem DxAll.at : ∀ {vs : List V} {ds : List PyData} {i : Nat} {v : V}, DxAll a H vs ds → vs[i]? = some v → ∃ d, d ∈ ds ∧ Dx a H v d
  | _, _, _, _, .nil, e => by simp at e
  | _, _, 0, _, .cons x _, e => by
    simp at e; subst e
    exact ⟨_, List.mem_cons_self, x⟩
  | _, _, i + 1, v, .cons _ t, e => by
    obtain ⟨d, h1, h2⟩ := DxAll.at (i := i) t (by simpa using e)
    exact ⟨d, List.mem_cons_of_mem _ h1, h2⟩
theorem Dp_flat {K : PySem.W.Frag} {v : V} {d : PyData} (e : flatPD v = some d) : Dp K H v d := by
  cases v with
  | non => cases e; exact .non
  | bl b => cases e; exact .bl b
  | int i => cases e; exact .int i
  | str x => cases e; exact .str x
  | byt b => cases e
  | flt b => cases e
  | ref a => cases e
  | ty n => cases e
mutual
theorem Dx.dp (K : PySem.W.Frag) : ∀ (v : V) (d : PyData), d.hasDict = false → Dx a H v d → Dp K H v d
  | _, .list ds, n, h => by
    cases h with
    | flat e => exact Dp_flat e
    | lst h1 h2 h3 => exact .lst (sql_of h1) (DxAll.dp K _ ds (by simpa only [PyData.hasDict] using n) h3)
  | _, .tuple ds, n, h => by
    cases h with
    | flat e => exact Dp_flat e
    | tup h1 h2 h3 => exact .tup (sqt_of h1) (DxAll.dp K _ ds (by simpa only [PyData.hasDict] using n) h3)
  | _, .dict ds, n, h => by simp [PyData.hasDict] at n
  | _, .none, _, h => by cases h with | flat e => exact Dp_flat e
  | _, .bool _, _, h => by cases h with | flat e => exact Dp_flat e
  | _, .int _, _, h => by cases h with | flat e => exact Dp_flat e
  | _, .str _, _, h => by cases h with | flat e => exact Dp_flat e
theorem DxAll.dp (K : PySem.W.Frag) : ∀ (vs : List V) (ds : List PyData), PyData.hasDictAll ds = false → DxAll a H vs ds → DpAll K H vs ds
  | _, [], _, h => by cases h; exact .nil
  | _, d :: ds, n, h => by
    simp only [PyData.hasDictAll, Bool.or_eq_false_iff] at n
    cases h with
    | cons h1 h2 => exact .cons (Dx.dp K _ d n.1 h1) (DxAll.dp K _ ds n.2 h2)
end
end
/-! displays that lay data -/
def MkD (te : TE) (d : PyData) : Prop := ∀ (a : Addr) (σ : L2.St) (H : Hp) (Q : VK), H a ≠ none → (∀ v H', Same H H' → Dx a H' v d → Q v H') → te σ H Q
def MkA (ta : TA) (ds : List PyData) : Prop := ∀ (a : Addr) (σ : L2.St) (H : Hp) (Q : List V → Hp → Prop), H a ≠ none → (∀ vs H', Same H H' → DxAll a H' vs ds → Q vs H') → ta σ H Q
theorem same_some {a : Addr} {H H' : Hp} (s : Same H H') (h : H a ≠ none) : H' a ≠ none := by
  cases e : H a with
  | none => exact absurd e h
  | some o => rw [s _ _ e]; exact fun z => nomatch z
theorem mkA_nil : MkA tNil [] := fun _ _ H _ _ q => q [] H (Same.refl H) .nil
theorem mkA_cons {te : TE} {ta : TA} {d : PyData} {ds : List PyData} (h1 : MkD te d) (h2 : MkA ta ds) : MkA (tCons te ta) (d :: ds) := fun a σ H Q ha q =>
  h1 a σ H _ ha fun v H1 s1 x1 => h2 a σ H1 _ (same_some s1 ha) fun vs H2 s2 x2 => q (v :: vs) H2 (s1.trans s2) (.cons (Dx.keep (.of s2) _ _ x1) x2)
theorem mk_c {v : V} {d : PyData} (h : flatPD v = some d) : MkD (tC v) d := fun a σ H Q _ q => q v H (Same.refl H) (.flat h)
theorem mk_neg {i : Int} : MkD (tUn (rU fun i => .int (-i)) (tC (.int i))) (.int (-i)) := fun a σ H Q _ q => ⟨i, rfl, q _ H (Same.refl H) (.flat rfl)⟩
theorem mk_tup {ta : TA} {ds : List PyData} (h : MkA ta ds) (hl : ds.length ≤ 1000) : MkD (tTup ta) (.tuple ds) := fun a σ H Q ha q => h a σ H _ ha fun vs H1 s1 x1 =>
  ⟨Nat.le_of_lt (small1000 (by rw [x1.length]; exact hl)), fun p hp => q _ _ (s1.trans (same_upd hp)) (.tup upd_same (fun e => same_some s1 ha (e ▸ hp)) (DxAll.keep (.of (same_upd hp)) _ _ x1))⟩
theorem mk_lst {ta : TA} {ds : List PyData} (h : MkA ta ds) (hl : ds.length ≤ 1000) : MkD (tLst ta) (.list ds) := fun a σ H Q ha q => h a σ H _ ha fun vs H1 s1 x1 =>
  ⟨Nat.le_of_lt (small1000 (by rw [x1.length]; exact hl)), fun p hp => q _ _ (s1.trans (same_upd hp)) (.lst upd_same (fun e => same_some s1 ha (e ▸ hp)) (DxAll.keep (.of (same_upd hp)) _ _ x1))⟩
theorem mk_dnew : MkD tDNewK (.dict []) := fun a σ H Q ha q p hp => q _ _ (same_upd hp) (.dct upd_same (fun e => ha (e ▸ hp)) (fun _ z => nomatch z) .nil)
theorem mk_dict1 {k : Str} {i : Int} : MkD (tDisp [(tC (.str k), tC (.int i))]) (.dict [(.str k, .int i)]) := fun a σ H Q ha q p hp => by
  refine ⟨upd_same, [(Sum.inr k, .int i)], rfl, by show 1 ≤ 15; decide, ?_⟩
  refine q _ _ (fun b o e => ?_) (.dct upd_same (fun e => ha (e ▸ hp)) (kvs := [(Sum.inr k, .int i)]) ?_ (.cons ⟨rfl, rfl⟩ .nil))
  · have hb := ne_of_none e hp
    rw [upd_ne hb, upd_ne hb]; exact e
  · intro z hz
    rcases List.mem_cons.mp hz with rfl | hz
    · exact ⟨valV_pos (p := ((Sum.inr k : Key), V.int i)) (r := []) rfl, rfl⟩
    · cases hz
/-- what is shown of such data, and is equal to itself -/
def fineD (d : PyData) : Bool := d.showable && (decide (d.depth ≤ 60) && (decide (d.shown.length ≤ 1000) && (match d with | .dict _ => true | d => !d.hasDict && (SeqAt.shaped d && PyData.eqv d d))))
section
variable {X : Cx}
def rNeO (K : PySem.W.Frag) : R2 := fun x y H Q => ∃ (a : Addr) (d : PyData), y = x ∧ Dx a H x d ∧ fineD d = true ∧ Q (.bl false) H
theorem op_neO (hu : X.A.units + 64 < cLine) : OpR X (compareOp .NotEq) (rNeO X.K) := by
  intro pins s σ H x y v u Q I rx ry h
  obtain ⟨a, d, rfl, hd, hf, q⟩ := h
  unfold fineD at hf
  simp only [Bool.and_eq_true] at hf
  obtain ⟨_, _, _, hf⟩ := hf
  by_cases hdict : ∃ ds, d = .dict ds
  · obtain ⟨ds, rfl⟩ := hdict
    cases hd with
    | flat e => cases y <;> cases e
    | dct h1 h2 h3 h4 => exact op_ne_dictA (by omega) pins s σ H _ _ v u Q I rx ry ⟨_, _, _, _, rfl, rfl, h1, h1, rfl, h3, q⟩
  · have hf' : (!d.hasDict && (SeqAt.shaped d && PyData.eqv d d)) = true := by
      revert hf
      cases d with
      | dict ds => exact absurd ⟨ds, rfl⟩ hdict
      | _ => exact fun z => z
    simp only [Bool.and_eq_true, Bool.not_eq_true'] at hf'
    have z := Dx.dp X.K _ d hf'.1 hd
    exact op_neD hu pins s σ H _ _ v u Q I rx ry ⟨d, d, z, z, hf'.2.1, hf'.2.1, by rw [hf'.2.2]; exact q⟩
def rReprO : List V → Hp → VK → Prop := fun xs H Q => ∃ (x : V) (a : Addr) (d : PyData), xs = [x] ∧ Dx a H x d ∧ fineD d = true ∧ Q (.str d.shown) H
theorem call_reprO (hg : X.A.guards = some []) (hu : X.A.units + 100 < cLine) : CallR X (.builtin "repr") rReprO := by
  intro pins s σ H xs us Q I r h
  obtain ⟨x, a, d, rfl, hd, hf, q⟩ := h
  unfold fineD at hf
  simp only [Bool.and_eq_true, decide_eq_true_eq] at hf
  obtain ⟨h1, h2, h3, hf⟩ := hf
  refine call_repr hg hu pins s σ H _ us Q I r ⟨x, d, rfl, ?_, h1, h2, Nat.le_of_lt (small1000 h3), q⟩
  by_cases hdict : ∃ ds, d = .dict ds
  · obtain ⟨ds, rfl⟩ := hdict
    cases hd with
    | flat e => cases x <;> cases e
    | dct k1 k2 k3 k4 => exact .inr ⟨_, _, ds, rfl, k1, rfl, k4⟩
  · have hf' : (!d.hasDict && (SeqAt.shaped d && PyData.eqv d d)) = true := by
      revert hf
      cases d with
      | dict ds => exact absurd ⟨ds, rfl⟩ hdict
      | _ => exact fun z => z
    simp only [Bool.and_eq_true, Bool.not_eq_true'] at hf'
    exact .inl (Dx.dp X.K _ d hf'.1 hd)
/-- count(True) of bools -/
def isT : Value → Bool
  | .bool b => b
  | _ => false
def rCntT (K : PySem.W.Frag) : V → List V → Hp → VK → Prop := fun x xs H Q => ∃ (p : Addr) (bs : List Bool), x = .ref p ∧ xs = [.bl true] ∧ SqL K H p (bs.map V.bl) ∧ Q (.int (bs.count true : Nat)) H
theorem cnt_isT : ∀ {bs : List Bool} {us : List Value}, Vals (bs.map V.bl) us → us.countP isT = bs.count true
  | [], _, r => by cases r; rfl
  | b :: bs, _, r => by
    cases r with
    | cons r1 r2 =>
      have ih := cnt_isT r2
      rename_i u us'
      obtain rfl : u = Value.bool b := r1
      rw [List.countP_cons, ih, List.count_cons]
      cases b <;> rfl
theorem mem_vals : ∀ {bs : List Bool} {us : List Value}, Vals (bs.map V.bl) us → ∀ y ∈ us, ∃ b, y = Value.bool b
  | [], _, r, y, hy => by cases r; cases hy
  | b :: bs, _, r, y, hy => by
    cases r with
    | cons r1 r2 =>
      rcases List.mem_cons.mp hy with rfl | hy
      · exact ⟨b, r1⟩
      · exact mem_vals r2 y hy
theorem mt_cntT : MtR X "list.count" (rCntT X.K) := by
  intro pins s σ H x xs v us Q I rx rxs h
  obtain ⟨p, bs, rfl, rfl, hs, q⟩ := h
  cases rx
  obtain ⟨u, rfl, ru⟩ := rxs.one
  obtain rfl : u = Value.bool true := ru
  obtain ⟨its, rv, ⟨⟨cls, dd, data, sl⟩, n, ho, hc, hdn, hd⟩, hlen⟩ := I.list hs
  simp only at hc hd
  subst hc hd
  refine call_meets PySem.F.slot_list_count ⟨_, ho, rfl⟩ PySem.F.entry_list_count (PySem.F.args_list_count_2 _ _)
    (SeqAt.list_countAt p its.toArray n dd sl (.bool true) isT) ⟨ho, fun y hy => ?_, ?_⟩
  · obtain ⟨b, rfl⟩ := mem_vals rv y (by simpa using hy)
    have z := eqAt_V (A := X.A.in1) (s := s) (y := .bl b) (x := .bl true) (u := .bool b) (v := .bool true) rfl rfl rfl rfl
    have e : eqV (.bl b) (.bl true) = isT (.bool b) := by cases b <;> rfl
    rw [e] at z
    exact z
  · refine ⟨.int (bs.count true : Nat), H, I.tok _, ⟨s.toks, ?_⟩, q⟩
    have ec : its.toArray.toList.countP isT = bs.count true := cnt_isT rv
    rw [ec]
end
end Hw

set_option Elab.async false
set_option linter.all false
set_option maxRecDepth 100000
set_option maxHeartbeats 4000000
namespace Hw
open PySem L2 PyProof.Rows
section
variable {t u : TS} {te ta tb : TE} {g : TG} {D : Ends} {σ : L2.St} {H : Hp} {Q : VK} {tl tr : TA} {r : R2} {QA : List V → Hp → Prop} {sp : Sp} {dvs : List V} {E : XK}
theorem r_seq (h : t { D with nx := u D } σ H) : tSeq t u D σ H := h
theorem r_asg (h : te σ H fun x H1 => g x σ H1 D.nx) : tAsg te g D σ H := h
theorem r_ret (h : te σ H D.rt) : tRet te D σ H := h
theorem r_cons (h : te σ H fun x H1 => tr σ H1 fun xs H2 => QA (x :: xs) H2) : tCons te tr σ H QA := h
theorem r_op (h : ta σ H fun x H1 => tb σ H1 fun y H2 => r x y H2 Q) : tOp r ta tb σ H Q := h
theorem r_call (h : tl σ H fun vs H1 => sp (vs ++ dvs) H1 Q E) : tCall sp dvs E tl σ H Q := h
theorem r_var {i : Nat} {v : V} (e : σ[i]? = some (some v)) (h : Q v H) : tVar i σ H Q := ⟨v, e, h⟩
end
theorem lst_use {ta : TA} {ds : List PyData} {a : Addr} {σ : L2.St} {H : Hp} {Q : VK} (ha : H a ≠ none) (q : ∀ p xs H', Same H H' → H' p = some (.lst xs) → p ≠ a → DxAll a H' xs ds → Q (.ref p) H') (m : MkA ta ds) (hl : ds.length ≤ 1000) : tLst ta σ H Q :=
  mk_lst m hl a σ H Q ha fun v H' s x => by
    cases x with
    | flat e => cases v <;> cases e
    | lst h1 n1 x1 => exact q _ _ H' s h1 n1 x1
section
variable {t u : TS} {te to : TE} {D : Ends} {σ : L2.St} {H : Hp} {i : Nat} {c : TT} {ta : TA} {K : PySem.W.Frag} {T : String} {r : V → List V → Hp → VK → Prop}
theorem rs_set (h : te σ H fun x H1 => u D (σ.set i (some x)) H1) : tSeq (tAsg te (gName i)) u D σ H := h
theorem rs_bm (h : to σ H fun x H1 => tyV K T x H1 ∧ ta σ H1 fun xs H2 => r x xs H2 fun _ H3 => u D σ H3) : tSeq (tDrop (tBM K T r to ta)) u D σ H := h
theorem rs_ifR (h : c σ H fun b H1 => if b = true then te σ H1 D.rt else u D σ H1) : tSeq (tIfS c (tRet te) tNext) u D σ H := h
theorem r1_ifR (h : c σ H fun b H1 => if b = true then te σ H1 D.rt else D.nx σ H1) : tIfS c (tRet te) tNext D σ H := h
end
/-! tests that come out false, new objects apart -/
def AnsF (t : TT) (σ : L2.St) (H : Hp) : Prop := ∀ Q : Bool → Hp → Prop, (∀ H', Same H H' → Q false H') → t σ H Q
section
variable {t u : TT} {σ : L2.St} {H : Hp} {te : TE} {us : TS} {D : Ends}
theorem ansF_or (h1 : AnsF t σ H) (h2 : ∀ H', Same H H' → AnsF u σ H') : AnsF (tOr t u) σ H := fun Q q =>
  h1 _ fun H1 s1 => by
    show if false = true then Q true H1 else u σ H1 Q
    rw [if_neg Bool.false_ne_true]
    exact h2 H1 s1 Q fun H2 s2 => q H2 (s1.trans s2)
theorem rs_skip (h1 : AnsF t σ H) (h : ∀ H', Same H H' → us D σ H') : tSeq (tIfS t (tRet te) tNext) us D σ H := h1 _ fun H1 s1 => by
  show if false = true then _ else _
  rw [if_neg Bool.false_ne_true]
  exact h H1 s1
theorem r1_skip (h1 : AnsF t σ H) (h : ∀ H', Same H H' → D.nx σ H') : tIfS t (tRet te) tNext D σ H := h1 _ fun H1 s1 => by
  show if false = true then _ else _
  rw [if_neg Bool.false_ne_true]
  exact h H1 s1
end
section
variable {u : TS} {D : Ends} {σ : L2.St} {H : Hp} {i j : Nat} {ta : TA} {v : V} {Q : L2.St → Hp → Prop}
theorem rs_par (h : ta σ H fun vs H1 => ∃ v w, vs = [v, w] ∧ u D ((σ.set i (some v)).set j (some w)) H1) : tSeq (tPar i j ta) u D σ H := h
theorem r_gname (h : Q (σ.set i (some v)) H) : gName i v σ H Q := h
end
theorem rs_enum {K : PySem.W.Frag} {u tb : TS} {g : TG} {D : Ends} {σ : L2.St} {H : Hp} {i : Nat} {p : Addr} {xs : List V} (e : σ[i]? = some (some (.ref p))) (hs : SqL K H p xs) (Pv : Nat → L2.St → Hp → Prop) (h0 : Pv 0 σ H)
    (hG : ∀ j σ H, j ≤ xs.length → Pv j σ H → SqL K H p xs)
    (turn : ∀ j x σ H T, j < xs.length → Pv j σ H → H T = none → xs[j]? = some x → g (.ref T) σ (upd H T (.tup [.int (j : Int), x])) fun σ2 H2 => tb { D with nx := Pv (j + 1), ct := Pv (j + 1), bk := u D } σ2 H2)
    (done : ∀ σ H, Pv xs.length σ H → u D σ H) : tSeq (tFor (iEnum K (tCons (tVar i) tNil)) g tb) u D σ H :=
  ⟨.ref p, e, p, xs, rfl, hs, for_it walk_enum Pv h0 hG (fun j x σ H H' hj hp ⟨T, xa, ya, ex, nT, eH, e1, e2⟩ => by
    subst ex eH
    obtain rfl : V.int (j : Int) = xa := Option.some.inj e1
    exact turn j ya σ H T hj hp nT e2) done⟩
theorem paired_at {α β : Type} {F : α → β → Prop} : ∀ {xs : List α} {ys : List β} {i : Nat} {y : β}, Paired F xs ys → ys[i]? = some y → ∃ x, xs[i]? = some x ∧ F x y
  | _, _, _, _, .nil, e => by simp at e
  | _, _, 0, _, .cons a _, e => by simp at e; subst e; exact ⟨_, rfl, a⟩
  | _, _, i + 1, y, .cons _ t, e => by
    obtain ⟨x, h1, h2⟩ := paired_at (i := i) t (by simpa using e)
    exact ⟨x, by simpa using h1, h2⟩
theorem r_yes {σ : L2.St} {H : Hp} {te : TE} {Q1 : VK} {B : Prop} (h : te σ H Q1) : tYes σ H fun b H3 => if b = true then te σ H3 Q1 else B := by
  show if true = true then te σ H Q1 else B
  rw [if_pos rfl]
  exact h
end Hw

set_option Elab.async false
set_option linter.all false
set_option maxRecDepth 100000
set_option maxHeartbeats 4000000
namespace HN
open PySem PySem.Spec PyProof.Rows PySem.SeqAt
section
variable {prog : Program} {w : World} {A : Around} {E : Value → Shared → Prop} {s : Shared} {K : PySem.W.Frag} {x C f : Addr} {ox : Obj} {od : Option Obj} {b tb : Value}
/-- how an answer is turned about -/
def NotBack (Q : Value → Shared → Prop) (v : Value) (s' : Shared) : Prop := ∃ r, v = .bool r ∧ Q (.bool (!r)) s'
theorem ne_entry {Q : Fin → Shared → Prop} (hu : A.units < cLine) (X : K.In s.heap) (I : PySem.W.InstAt s.heap x ox C od) (hs : PySem.W.findIn K (.ref C) "__eq__" = some (some (.ref f))) (hf : PySem.W.isFn K (.ref f) = true)
    (h : wpAny (model prog w) A (call (.ref f) [.ref x, b]) (NotBack fun v s' => Q (.done (.ret v)) s') E s) : wpAny (model prog w) A (Builtin.«object.__ne__» ⟨[.ref x, b], []⟩) Q E s := by
  have one : wpAny (model prog w) A (callSpecialIfBound? (.ref x) "__eq__" [b]) (fun r s' => ∃ q, r = some (.bool q) ∧ Q (.done (.ret (.bool (!q)))) s') E s :=
    PySem.W.ifBound_K X I hs hf (wpAny_mono h (fun v s' z => by
      obtain ⟨r, e, q⟩ := z
      exact ⟨r, by rw [e], q⟩) fun _ _ e => e)
  unfold Builtin.«object.__ne__»
  repeat (first
    | with_reducible refine wpAny_cRoomFor hu ?_
    | (refine wpAny_bind (m := callSpecialIfBound? (.ref x) (Str.ofString "__eq__") [b]) (wpAny_mono one (fun r s' z => by
        obtain ⟨q, e, hq⟩ := z
        subst e
        repeat (first | exact hq | exact wpAny_pure hq | exact wpAny_truthy_bool hq | (refine wpAny_bind (m := truthy (.bool _)) (wpAny_truthy_bool ?_)) | wp_step)) fun _ _ e => e))
    | wp_step)
theorem ifBound_objNe {M : Model} {args : List Value} {Q : Option Value → Shared → Prop} (X : K.In s.heap) (I : PySem.W.InstAt s.heap x ox C od) (hs : PySem.W.findIn K (.ref C) "__ne__" = some (some (.builtin "object.__ne__")))
    (h : wpAny M A (call (.builtin "object.__ne__") (.ref x :: args)) (fun v => Q (some v)) E s) : wpAny M A (callSpecialIfBound? (.ref x) "__ne__" args) Q E s := by
  simp only [callSpecialIfBound?, bindSpecialIfBound?]
  refine wpAny_holding (wpAny_bind (wpAny_bind (wpAny_bind (I.type.here ((PySem.W.looks_findIn X hs).here ?_)))))
  refine wpAny_bind (wpAny_askSetting (wpAny_ite ?_))
  have last : wpAny M A (call (.builtin "object.__ne__") ([.ref x] ++ args) >>= fun v => pure (some v)) Q E s := wpAny_bind (wpAny_mono h (fun v s' z => wpAny_pure z) fun _ _ z => z)
  have nb := F.cmp_object.ne.bind
  split
  · exact wpAny_bind (wpAny_of_eq (nb _) (wpAny_pure (by exact last)))
  · exact wpAny_tryCatch (wpAny_bind (wpAny_of_eq (nb _) (wpAny_pure (by exact last))))
theorem rich_ne {Q : Value → Shared → Prop} (hu : A.units + 1 < cLine) (X : K.In s.heap) (I : PySem.W.InstAt s.heap x ox C od) (hb : PySem.W.Looks (model prog w) s.heap (typeOf b) tb) (hn : PySem.W.notFirst K C tb = true)
    (hm : PySem.W.mroIn K C (.type "object") = some true) (hs : PySem.W.findIn K (.ref C) "__eq__" = some (some (.ref f))) (hf : PySem.W.isFn K (.ref f) = true) (hne : PySem.W.findIn K (.ref C) "__ne__" = some (some (.builtin "object.__ne__")))
    (h : wpAny (model prog w) A.in1 (call (.ref f) [.ref x, b]) (NotBack Q) E s) : wpAny (model prog w) A (richCompare .NotEq (.ref x) b) Q E s := by
  have one : wpAny (model prog w) A (tryCompare (.ref x) "__ne__" b) (fun r s' => ∃ v, r = some v ∧ Q v s') E s := by
    unfold tryCompare
    refine wpAny_bind (ifBound_objNe X I hne (wpAny_call (codeAny_call_builtin F.cmp_object.ne.plain F.cmpEntry_ne (PySem.W.check_slot F.cmpKind_ne F.cmpSplit_ne (I.type.andThen (PySem.W.looks_mroIn X hm)) (F.cmpArgs_ne _ _) (ne_entry (A := A.in1) hu X I hs hf (wpAny_mono h (fun v s' z => ?_) fun _ _ e => e))))))
    obtain ⟨r, e, q⟩ := z
    refine ⟨r, e, ?_⟩
    exact wpAny_pure ⟨_, rfl, q⟩
  simp only [richCompare, cmpInfo_NotEq, oneThing_ref]
  refine wpAny_holding (wpAny_bind (wpAny_cRoomFor (Nat.lt_of_succ_lt hu) ?_))
  refine wpAny_bind (I.type.here (wpAny_bind (hb.here ?_)))
  split
  · rename_i q
    have e : PySem.W.subIn K tb (.ref C) = some false := by
      have hn' := hn
      unfold PySem.W.notFirst at hn'
      rcases Bool.or_eq_true_iff.mp hn' with e | e
      · rw [beq_iff_eq.mp e] at q; simp at q
      · exact beq_iff_eq.mp e
    refine wpAny_bind ((PySem.W.looks_subIn X e).here ?_)
    simp only [Bool.false_eq_true, if_false]
    refine wpAny_bind (wpAny_mono one (fun r s' z => ?_) fun _ _ z => z)
    obtain ⟨v, e, hq⟩ := z
    subst e
    exact wpAny_pure hq
  · refine wpAny_bind (wpAny_pure ?_)
    simp only [Bool.false_eq_true, if_false]
    refine wpAny_bind (wpAny_mono one (fun r s' z => ?_) fun _ _ z => z)
    obtain ⟨v, e, hq⟩ := z
    subst e
    exact wpAny_pure hq
end
end HN
namespace Hw
open PySem L2 PyProof.Rows
/-- x == y (or !=) where x has a class of the text with its own == -/
def rEqU (K : PySem.W.Frag) (C : Addr) (sp : Sp) (E : XK) (neg : Bool) : R2 := fun x y H Q => ∃ a dx fs t, x = .ref a ∧ H a = some (.ins C dx fs) ∧ TyX K H y t ∧ PySem.W.notFirst K C t = true ∧ sp [.ref a, y] H (fun v H' => ∃ b, v = .bl b ∧ Q (.bl (b != neg)) H') E
/-- the class's own comparison -/
structure EqM (K : PySem.W.Frag) (C f : Addr) : Prop where
  eq : PySem.W.findIn K (.ref C) "__eq__" = some (some (.ref f))
  fn : PySem.W.isFn K (.ref f) = true
  ne : PySem.W.findIn K (.ref C) "__ne__" = some (some (.builtin "object.__ne__"))
  obj : PySem.W.mroIn K C (.type "object") = some true
section
variable {X : Cx} {n : Nat} {CX : CXT} {C f : Addr} {fd : FuncData} {ps : List Str} {sp : Sp} {E : XK}
theorem own_run (F : FnOk X.prog X.w X.K X.mg X.base CX n f fd ps sp) (hb : Binds X.K fd ps []) (hx : Passes CX X E) {A : Around} (hr : Room n A) (hfr : A.frames = X.A.frames) {pins : List (Addr × Obj)} {σ : L2.St} {H : Hp} {s : Shared} {vs : List V} {us : List Value} (I : Inv X pins σ H s) (r2 : Vals vs us) {R : VK}
    (hsp : sp vs H R E) {QQ : Value → Shared → Prop} (hq : ∀ z u H' s', Inv X pins σ H' s' → RelV z u → R z H' → QQ u s') : wpAny (model X.prog X.w) A (call (.ref f) us) QQ X.xe s := by
  have e0 : Env0 X.prog X.w X.K X.mg X.base A X.stack s H := by
    have e := I.env0
    exact ⟨by rw [hfr]; exact e.frames, e.mod, e.bs, e.bsz, e.funs, e.frf, e.hok, e.bare⟩
  have hl := F.len _ _ _ _ hsp
  have hl2 : us.length = vs.length := (Vals.length r2).symm
  refine wpAny_call (codeAny_mono (F.run A X.stack s H ⟨us, []⟩ us vs _ E hr e0 (by
    have := hb s us I.kIn (by simpa [hl2] using hl)
    simpa using this) r2 hsp) fun r s' z => ?_)
  cases r with
  | error e => exact hx pins σ H s e s' I z
  | ok fl =>
    cases fl with
    | ret u =>
      obtain ⟨z, H', I', rz, q⟩ := I.after z
      exact hq z u H' s' I' rz q
    | next => exact False.elim z
    | brk => exact False.elim z
    | cont => exact False.elim z
theorem eqU_run (F : FnOk X.prog X.w X.K X.mg X.base CX n f fd ps sp) (hb : Binds X.K fd ps []) (hx : Passes CX X E) {A : Around} (hr : Room n A) (hfr : A.frames = X.A.frames) {pins : List (Addr × Obj)} {σ : L2.St} {H : Hp} {s : Shared} {a : Addr} {y : V} {v : Value} (I : Inv X pins σ H s) (ry : RelV y v) {R : Bool → Hp → Prop}
    (hsp : sp [.ref a, y] H (fun z H' => ∃ b, z = .bl b ∧ R b H') E) {QQ : Value → Shared → Prop} (hq : ∀ b H' s', Inv X pins σ H' s' → R b H' → QQ (.bool b) s') : wpAny (model X.prog X.w) A (call (.ref f) [.ref a, v]) QQ X.xe s :=
  own_run F hb hx hr hfr I (.cons (show RelV (V.ref a) (Value.ref a) from rfl) (.cons ry .nil)) hsp fun z u H' s' I' rz ⟨b, ez, q⟩ => by
    subst ez
    cases rz
    exact hq b H' s' I' q
/-- len of an object with its own __len__ -/
theorem call_lenU (F : FnOk X.prog X.w X.K X.mg X.base CX n f fd ps sp) (hb : Binds X.K fd ps []) (hx : Passes CX X E) (hs : PySem.W.findIn X.K (.ref C) "__len__" = some (some (.ref f))) (hf : PySem.W.isFn X.K (.ref f) = true) (hr : Room (n + 1) X.A) :
    CallR X (.builtin "len") (fun xs H Q => ∃ a dx fs, xs = [V.ref a] ∧ H a = some (.ins C dx fs) ∧ sp [.ref a] H (fun v H' => ∃ k : Nat, v = .int k ∧ k ≤ 1000000 ∧ Q (.int k) H') E) := by
  intro pins s σ H xs us Q I r h
  obtain ⟨a, dx, fs, rfl, ha, hsp⟩ := h
  obtain ⟨u, rfl, ru⟩ := vals1 r
  cases ru
  obtain ⟨m1, J, _⟩ := ins_get I.hok ha
  obtain ⟨od, J, _⟩ := J.look
  obtain ⟨m, hF⟩ := I.fr
  refine PySem.W.len_K hF I.ok.mod.kin J hs hf ?_
  refine own_run F hb hx hr.in1 rfl I (.cons (show RelV (V.ref a) (Value.ref a) from rfl) .nil) hsp fun z u H' s' I' rz q => ?_
  obtain ⟨k, ez, hk, q⟩ := q
  subst ez
  obtain ⟨t, rfl⟩ := rz
  exact ⟨⟨by omega, by have : (2 : Int) ^ 63 = 9223372036854775808 := by decide
                       omega⟩, .int k, H', I'.tok _, ⟨_, rfl⟩, q⟩
theorem op_eqU (F : FnOk X.prog X.w X.K X.mg X.base CX n f fd ps sp) (hb : Binds X.K fd ps []) (hx : Passes CX X E) (M : EqM X.K C f) (hr : Room n X.A) : OpR X (compareOp .Eq) (rEqU X.K C sp E false) := by
  intro pins s σ H x y v u Q I rx ry hq
  obtain ⟨a, dx, fs, t, rfl, ha, ty, nf, hsp⟩ := hq
  cases rx
  obtain ⟨m1, J, _⟩ := ins_get I.hok ha
  obtain ⟨od, J, _⟩ := J.look
  obtain ⟨m, hF⟩ := I.fr
  obtain ⟨Pk, Z, pk, _⟩ := kit_of I ry ty
  refine PySem.W.cmp_K (op := .Eq) (tb := t) hr.units0 hF I.ok.mod.kin J (Z.ty _ _ I.kIn pk) nf M.eq M.fn ?_
  exact eqU_run F hb hx hr rfl I ry hsp fun b H' s' I' q => ⟨.bl b, H', I', rfl, by simpa using q⟩
theorem op_neU (F : FnOk X.prog X.w X.K X.mg X.base CX n f fd ps sp) (hb : Binds X.K fd ps []) (hx : Passes CX X E) (M : EqM X.K C f) (hr : Room (n + 1) X.A) : OpR X (compareOp .NotEq) (rEqU X.K C sp E true) := by
  intro pins s σ H x y v u Q I rx ry hq
  obtain ⟨a, dx, fs, t, rfl, ha, ty, nf, hsp⟩ := hq
  cases rx
  obtain ⟨m1, J, _⟩ := ins_get I.hok ha
  obtain ⟨od, J, _⟩ := J.look
  obtain ⟨Pk, Z, pk, _⟩ := kit_of I ry ty
  refine HN.rich_ne (tb := t) (by have := hr.units; omega) I.kIn J (Z.ty _ _ I.kIn pk) nf M.obj M.eq M.fn M.ne ?_
  exact eqU_run F hb hx hr.in1 rfl I ry hsp fun b H' s' I' q => ⟨b, rfl, ⟨.bl (!b), H', I', rfl, by cases b <;> simpa using q⟩⟩
end
end Hw

set_option Elab.async false
set_option linter.all false
set_option maxRecDepth 100000
set_option maxHeartbeats 4000000
namespace Hw
open PySem L2 PyProof.Rows
/-! a built-in class called with keywords -/
theorem callWith_tyK {M : Model} {A : Around} {E : Value → Shared → Prop} {s : Shared} {pos : Pos} {T : String} {first : List Value} {args : List (Bool × Sem Value)} {keywords : List (Option Str × Sem Value)} {Q : Value → Shared → Prop}
    (hp : args.any (·.1) = false) (hk : keywords.any (·.1.isNone) = false) (h : wpAny M A (evalArgs (.type T) true args keywords) (fun a s1 => wpAny M A (call (.type T) (first ++ a.pos) a.kw) Q E s1) E s) :
    wpAny M A (callWith pos (.type T) first args keywords) Q E s := by
  unfold callWith
  refine wpAny_bind (wpAny_holding (wpAny_mono h (fun a s1 h1 => wpAny_bind (wpAny_standAt ?_)) fun _ _ z => z))
  simp only [hp, hk, Bool.or_false]
  refine wpAny_bind (wpAny_pure ?_)
  exact wpAny_bind (wpAny_mono h1 (fun r s2 hr => wpAny_bind (wpAny_holding (wpAny_point (wpAny_pure hr)))) fun _ _ z => z)
/-! enumerate(list, start=k) -/
def IteK (K : PySem.W.Frag) (a : Addr) (k0 : Int) : It :=
  ⟨fun i H => ∃ (xs : List V) (x : V), SqL K H a xs ∧ xs[i]? = some x, fun i H v H' => ∃ T x, v = .ref T ∧ H T = none ∧ H' = upd H T (.tup [.int (k0 + (i : Nat)), x]) ∧ ∀ xs, SqL K H a xs → xs[i]? = some x, fun i H => ∃ xs : List V, SqL K H a xs ∧ xs.length = i⟩
theorem turn_enumK {P : Program} {w : World} {K : PySem.W.Frag} {elts : List Expr} {kk : Nat} {tpos : Pos} (k0 : Int) (a e it : Addr) :
    Turn P w K (.Tuple elts kk tpos) (IteK K a k0) [e, it] e (fun i h => (∃ old, IsEnum h e it (k0 + (i : Nat)) old) ∧ h.IsListIter it a i ∧ e ≠ it) where
  mem := by simp
  obj := fun i h st b hb => by
    obtain ⟨⟨old, he⟩, ⟨o, ho, hc, hd⟩, _⟩ := st
    rcases (show b = e ∨ b = it by simpa using hb) with z | z
    · subst z; exact ⟨_, he, fun v q => nomatch q⟩
    · subst z; exact ⟨o, ho, fun v q => by rw [hd] at q; cases q⟩
  keep := fun i h h' st k => by
    obtain ⟨⟨old, he⟩, hi, hne⟩ := st
    exact ⟨⟨old, k e (by simp) _ he⟩, hi.at fun o q => k it (by simp) o q, hne⟩
  item := by
    intro X hP hw hK hc i pins s σ H E I hf st hg
    subst hP hw hK
    obtain ⟨⟨old, he⟩, hit, hne⟩ := st
    obtain ⟨xs, x, hq, hx⟩ := hg
    obtain ⟨its, rv, p, hz⟩ := I.list hq
    obtain ⟨u, hu, ru⟩ := rv.get hx
    have hel : e < s.heap.objs.size := Heap.lt_size he
    have hil : it < s.heap.objs.size := by
      obtain ⟨_, q, _⟩ := hit
      exact Heap.lt_size q
    have hae : a ≠ e := fun z => by
      obtain ⟨o1, q1, q2, _⟩ := p.isList
      subst z
      rw [show s.heap.get? a = _ from he] at q1
      obtain rfl := Option.some.inj q1
      injection q2 with q2
      exact absurd q2 (by decide)
    have hai : a ≠ it := fun z => by
      obtain ⟨o1, q1, q2, _⟩ := p.isList
      obtain ⟨o2, q3, q4, _⟩ := hit
      subst z
      rw [q3] at q1
      obtain rfl := Option.some.inj q1
      rw [q4] at q2
      injection q2 with q2
      exact absurd q2 (by decide)
    have hlt : i < its.toArray.size := by
      have := (List.getElem?_eq_some_iff.mp hu).1
      simpa using this
    refine wpAny_pyNext_enum_itemC (Draws.list (A := X.A.in1) (I.ok.hd hc) it a hai its.toArray) he ⟨hit, p.isList⟩ hlt hne (by simp [Ne.symm hae, hne]) fun x' h' tk hx' ho hst' hT hsz hk => ⟨_, rfl, wpAny_letOwnedTupleGo_enum (s := { s with heap := h', toks := tk + 1 }) ho fun h2 he' sb => ?_⟩
    obtain ⟨hit', hl'⟩ := hst'
    obtain rfl : u = x' := by
      rw [show its.toArray[i]? = its[i]? by simp] at hx'
      rw [hu] at hx'
      exact Option.some.inj hx'
    have hT2 : h2.get? s.heap.objs.size = some { cls := .type "tuple", data := .seq #[.int (k0 + (i : Nat)) tk, u] } := (sb.2 _ (Nat.ne_of_gt hel)).trans hT
    have new : ObjOk X.prog X.w (upd H s.heap.objs.size (.tup [.int (k0 + (i : Nat)), x])) h2 s.heap.objs.size (.tup [.int (k0 + (i : Nat)), x]) :=
      ⟨by show 2 ≤ sizeLine; decide, [.int (k0 + (i : Nat)) tk, u], .cons ⟨_, rfl⟩ (.cons ru .nil), ⟨_, hT2, rfl, _, rfl⟩⟩
    have I1 : Inv X pins σ (upd H s.heap.objs.size (.tup [.int (k0 + (i : Nat)), x])) { s with heap := h2, toks := tk + 1 } :=
      I.turnedNew (ch := [e, it]) (fun b ob hb q => (sb.2 b (fun z => hb (by simp [z]))).trans (hk b ob (fun z => hb (by simp [z])) (fun z => hb (by simp [z])) q)) hf (Nat.le_refl _) new
    refine ⟨.ref s.heap.objs.size, _, I1, rfl, ⟨_, x, rfl, I.hok.fresh (Nat.le_refl _), rfl, fun ys hy => by rw [I.list_inj hy hq]; exact hx⟩, ⟨⟨u, ?_⟩, hit'.at fun o q => (sb.2 it (Ne.symm hne)).trans q, hne⟩, fun b hb => ?_⟩
    · have e1 : k0 + ((i + 1 : Nat) : Int) = k0 + (i : Nat) + 1 := by omega
      rw [e1]; exact he'
    · have hb' : b < s.heap.objs.size := by
        rcases (show b = e ∨ b = it by simpa using hb) with z | z
        · rw [z]; exact hel
        · rw [z]; exact hil
      rw [upd_ne (Nat.ne_of_lt hb')]
      exact (hf b hb).1
  done := by
    intro X hP hw hK hc i pins s σ H E I hf st hg
    subst hP hw hK
    obtain ⟨⟨old, he⟩, hit, hne⟩ := st
    obtain ⟨xs, hq, hx⟩ := hg
    obtain ⟨its, rv, p, hz⟩ := I.list hq
    obtain ⟨f0, f1, f2, f3, f4, f5⟩ := hf it (by simp)
    have hl := rv.length
    have hai : a ≠ it := fun z => by
      obtain ⟨o1, q1, q2, _⟩ := p.isList
      obtain ⟨o2, q3, q4, _⟩ := hit
      subst z
      rw [q3] at q1
      obtain rfl := Option.some.inj q1
      rw [q4] at q2
      injection q2 with q2
      exact absurd q2 (by decide)
    have ei : its.toArray.size = i := by simp; omega
    refine wpAny_pyNext_enum_endD (Draws.list (A := X.A.in1) (I.ok.hd hc) it a hai its.toArray) he ⟨by rw [ei]; exact hit, p.isList⟩ fun h' eb => ⟨rfl, I.turned (t' := s.toks) (fun b o hb q => eb b o hb q) f0 f1 f3 f4 f5⟩
  self := fun A i s Q E st h => by
    obtain ⟨⟨_, he⟩, _⟩ := st
    exact wpAny_pyIter_enum he h
def iEnumK (K : PySem.W.Frag) (ta tk : TA) : TI := fun σ H R => ta σ H fun vs H1 => tk σ H1 fun zs H2 => ∃ a xs k, vs = [.ref a] ∧ zs = [.int k] ∧ -(2 ^ 62) ≤ k ∧ k < 2 ^ 62 ∧ SqL K H2 a xs ∧ R (IteK K a k) H2
theorem pi_enumK {X : Cx} {e ke : Expr} {ta tk : TA} {p pos tpos kp : Pos} {elts : List Expr} {kk : Nat} (hg : Gl X "enumerate") (hm : X.mg "enumerate" = none) (ha : PA X [e] ta) (hk : PK X [⟨some (Str.ofString "start"), ke, kp⟩] tk)
    (he : backTo pos (starEach [e] X.env) = (false, eval e X.env) :: backTo pos (starEach [] X.env) := by rfl) (hpl : (backTo pos (starEach [e] X.env)).any (·.1) = false := by rfl)
    (hall : (backToKw pos (keywordEach [⟨some (Str.ofString "start"), ke, kp⟩] X.env)).all (·.1.isSome) = true := by rfl) (hnone : (backToKw pos (keywordEach [⟨some (Str.ofString "start"), ke, kp⟩] X.env)).any (·.1.isNone) = false := by rfl)
    (hks : (backToKw pos (keywordEach [⟨some (Str.ofString "start"), ke, kp⟩] X.env)).filterMap (·.1) = [Str.ofString "start"] := by rfl) :
    PI X (.Tuple elts kk tpos) (.Call (.Name "enumerate" p) [e] [⟨some (Str.ofString "start"), ke, kp⟩] pos) (iEnumK X.K ta tk) := by
  refine ⟨fun pins s σ H R I h => ?_⟩
  refine wpAny_Call_Name_kw (ld_blt I hg hm boot_enumerate ?_ (by decide) (by decide))
  refine callWith_tyK hpl hnone ?_
  rw [he]
  refine evalArgs_kwB hall ?_
  rw [← he]
  refine thn (ha.run pos pins s σ H _ I h) fun us s1 ⟨vs, H1, I1, r1, q1⟩ => thn (hk.run pos pins s1 σ H1 _ I1 q1) fun ws s2 ⟨zs, H2, I2, r2, a, xs, k, ex, ez, k0, k1, hq, q⟩ => ?_
  subst ex ez
  rw [hks]
  obtain ⟨u, rfl, ru⟩ := r1.one
  obtain ⟨v, rfl, rv⟩ := r2.one
  obtain rfl : u = Value.ref a := ru
  obtain ⟨t, rfl⟩ := rv
  obtain ⟨its, rvs, p', hz⟩ := I2.list hq
  refine enum_begins_start (begins_list a its.toArray) p'.isList (by omega) (by omega) fun h' hen hit hsz hkp => ?_
  refine wpAny_pyIter_enum hen ?_
  have I3 : Inv X pins σ H2 { s2 with heap := h' } := I2.kept (t' := s2.toks) hkp
  have li : h'.IsListIter s2.heap.objs.size a 0 := ⟨_, hit, rfl, rfl⟩
  refine ⟨s2.heap.objs.size + 1, [s2.heap.objs.size + 1, s2.heap.objs.size], _, _, H2, rfl, I3, turn_enumK k a (s2.heap.objs.size + 1) s2.heap.objs.size, ⟨⟨.none, by rw [show k + ((0 : Nat) : Int) = k by omega]; exact hen⟩, li, Nat.succ_ne_self _⟩, fun b hb => ?_, q⟩
  have hle : s2.heap.objs.size ≤ b := by
    rcases (show b = s2.heap.objs.size + 1 ∨ b = s2.heap.objs.size by simpa using hb) with z | z
    · rw [z]; exact Nat.le_add_right _ _
    · rw [z]; exact Nat.le_refl _
  exact I2.fpOk hle (I2.hok.fresh hle)
theorem walk_enumK {K : PySem.W.Frag} {a : Addr} {xs : List V} {k : Int} : Walk (IteK K a k) xs.length (fun H => SqL K H a xs) (YPair (fun i => some (.int (k + (i : Nat)))) (fun i => xs[i]?)) := by
  refine ⟨fun i _ hi q => ⟨xs, xs[i], q, by simp [hi]⟩, fun _ q => ⟨xs, q, rfl⟩, fun i H v H' _ q y => ?_⟩
  obtain ⟨T, x, h1, h2, h3, h4⟩ := y
  exact ⟨T, .int (k + (i : Nat)), x, h1, h2, h3, rfl, h4 xs q⟩
/-! a def called with keywords alone -/
section
variable {X : Cx} {CX : CXT} {k : Nat} {f : Addr} {fd : FuncData} {ps ks : List Str} {sp : Sp} {E : XK} {x : Str} {p pos : Pos} {kws : List Keyword} {tk : TA} {g : List Value → List Value → List Value} {gV : List V → List V → List V}
def tCallK0 (sp : Sp) (gV : List V → List V → List V) (E : XK) (tk : TA) : TE := fun σ H Q => tk σ H fun zs H2 => sp (gV [] zs) H2 Q E
theorem pe_callK0 (F : FnOk X.prog X.w X.K X.mg X.base CX k f fd ps sp) (hr : Room k X.A) (hg : Gl X x) (hm : X.mg x = some (.ref f)) (hk : PySem.W.keepIn X.K (.ref f) = true) (hb : KBinds X.K fd ps ks g gV) (hx : Passes CX X E) (hkw : PK X kws tk)
    (hall : (backToKw pos (keywordEach kws X.env)).all (·.1.isSome) = true := by rfl) (hks : (backToKw pos (keywordEach kws X.env)).filterMap (·.1) = ks := by rfl) (hdb : (x == ("__debug__" : Str)) = false := by decide)
    (hpl : ((backTo pos (starEach [] X.env)).any (·.1) || (backToKw pos (keywordEach kws X.env)).any (·.1.isNone)) = false := by rfl) : PE X (.Call (.Name x p) [] kws pos) (tCallK0 sp gV E tk) := by
  refine ⟨fun pins s σ H Q I h => ?_⟩
  refine wpAny_Call_Name_kw (ld_glob I hg hm ?_ hdb)
  refine PySem.W.callWith_KW0 (h₀ := X.base) I.ok.mod.kin hk hall (thn (hkw.run pos pins s σ H _ I h) fun ws s2 ⟨zs, H2, I2, rz, q2⟩ => ⟨I2.kIn, ?_⟩) hpl
  rw [hks]
  exact run_fnk F hr hb hx I2 .nil rz q2
end
end Hw

set_option Elab.async false
set_option linter.all false
set_option maxRecDepth 100000
set_option maxHeartbeats 4000000
namespace Hw
open PySem L2 PyProof.Rows
/-! the less and the greater of two texts -/
def strLt (a b : Str) : Bool := decide (a.cps.toList < b.cps.toList)
def txtV : Value → Str
  | .str x _ => x
  | _ => Str.ofString ""
def IsS (v : Value) : Prop := ∃ x t, v = .str x t
theorem cmpS_lt {prog : Program} {w : World} {A : Around} (vs : Array Value) (hn : ∀ v ∈ vs, IsS v) :
    CmpOf prog w A .Lt (fun i v => vs[i]? = some v) (fun i j => strLt (txtV (vs.getD i .none)) (txtV (vs.getD j .none))) := fun i j vi vj s Q E hi hj h => by
  have e1 : vs.getD i .none = vi := by simp [Array.getD_eq_getD_getElem?, hi]
  have e2 : vs.getD j .none = vj := by simp [Array.getD_eq_getD_getElem?, hj]
  simp only [e1, e2] at h
  obtain ⟨x, t, rfl⟩ := hn _ (Array.mem_of_getElem? hi)
  obtain ⟨y, u, rfl⟩ := hn _ (Array.mem_of_getElem? hj)
  exact PyProof.Rows.lt_str h
theorem cmpS_gt {prog : Program} {w : World} {A : Around} (vs : Array Value) (hn : ∀ v ∈ vs, IsS v) :
    CmpOf prog w A .Gt (fun i v => vs[i]? = some v) (fun i j => strLt (txtV (vs.getD j .none)) (txtV (vs.getD i .none))) := fun i j vi vj s Q E hi hj h => by
  have e1 : vs.getD i .none = vi := by simp [Array.getD_eq_getD_getElem?, hi]
  have e2 : vs.getD j .none = vj := by simp [Array.getD_eq_getD_getElem?, hj]
  simp only [e1, e2] at h
  obtain ⟨x, t, rfl⟩ := hn _ (Array.mem_of_getElem? hi)
  obtain ⟨y, u, rfl⟩ := hn _ (Array.mem_of_getElem? hj)
  exact PySem.P.gt_str h
theorem max_two_S {prog : Program} {w : World} {A : Around} {E : Value → Shared → Prop} {s : Shared} {Q : Value → Shared → Prop} {a b : Value} (hh : A.handled = none) (ha : IsS a) (hb : IsS b)
    (h : ∀ h' tk, (∀ c o, s.heap.get? c = some o → h'.get? c = some o) → Q (if strLt (txtV a) (txtV b) then b else a) { s with heap := h', toks := tk }) :
    wpAny (model prog w) A (call (.builtin "max") [a, b]) Q E s := by
  have hT : (s.heap.push { cls := .type "tuple", data := .seq #[a, b] }).IsTuple s.heap.objs.size #[a, b] := ⟨_, Heap.get?_push_size _ rfl, rfl, 0, rfl⟩
  refine call_max_two (wpAny_pyIter_tuple hT ?_)
  have hsz : (s.heap.push { cls := .type "tuple", data := .seq #[a, b] }).objs.size = s.heap.objs.size + 1 := Heap.size_push ..
  refine ⟨_, [_, s.heap.objs.size], [_], _, _, _, _, rfl, Walks.tuple (A := A.in1) hh _ s.heap.objs.size (by rw [hsz]; exact Nat.ne_of_lt (Nat.lt_succ_self _)) #[a, b],
    ⟨⟨_, Heap.get?_push_size _ rfl, rfl, rfl⟩, hT.push _⟩, fun c hc => ?_, by simp, cmpS_gt #[a, b] (by simp [ha, hb]), fun v h' tk hP hk => ?_⟩
  · show c < ((s.heap.push _).push _).objs.size
    rw [Heap.size_push, hsz]
    rcases List.mem_cons.mp hc with rfl | hc
    · rw [hsz]; exact Nat.lt_succ_self _
    · rcases List.mem_cons.mp hc with rfl | hc
      · exact Nat.lt_succ_of_lt (Nat.lt_succ_self _)
      · cases hc
  · have hold : ∀ c o, s.heap.get? c = some o → h'.get? c = some o := fun c o e => by
      refine hk c o (fun hm => ?_) (Heap.get?_push_of_some _ (Heap.get?_push_of_some _ e))
      rcases List.mem_cons.mp hm with e1 | hm
      · have := Heap.lt_size e; rw [e1, hsz] at this; exact Nat.lt_irrefl _ (Nat.lt_of_succ_lt this)
      · cases hm
    have := h h' tk hold
    have hv : v = if strLt (txtV a) (txtV b) then b else a := by
      cases hc : strLt (txtV a) (txtV b) <;> simp [argBest, hc] at hP <;> simp [hP]
    rw [hv]; exact this
theorem min_two_S {prog : Program} {w : World} {A : Around} {E : Value → Shared → Prop} {s : Shared} {Q : Value → Shared → Prop} {a b : Value} (hh : A.handled = none) (ha : IsS a) (hb : IsS b)
    (h : ∀ h' tk, (∀ c o, s.heap.get? c = some o → h'.get? c = some o) → Q (if strLt (txtV b) (txtV a) then b else a) { s with heap := h', toks := tk }) :
    wpAny (model prog w) A (call (.builtin "min") [a, b]) Q E s := by
  have hT : (s.heap.push { cls := .type "tuple", data := .seq #[a, b] }).IsTuple s.heap.objs.size #[a, b] := ⟨_, Heap.get?_push_size _ rfl, rfl, 0, rfl⟩
  refine call_min_two (wpAny_pyIter_tuple hT ?_)
  have hsz : (s.heap.push { cls := .type "tuple", data := .seq #[a, b] }).objs.size = s.heap.objs.size + 1 := Heap.size_push ..
  refine ⟨_, [_, s.heap.objs.size], [_], _, _, _, _, rfl, Walks.tuple (A := A.in1) hh _ s.heap.objs.size (by rw [hsz]; exact Nat.ne_of_lt (Nat.lt_succ_self _)) #[a, b],
    ⟨⟨_, Heap.get?_push_size _ rfl, rfl, rfl⟩, hT.push _⟩, fun c hc => ?_, by simp, cmpS_lt #[a, b] (by simp [ha, hb]), fun v h' tk hP hk => ?_⟩
  · show c < ((s.heap.push _).push _).objs.size
    rw [Heap.size_push, hsz]
    rcases List.mem_cons.mp hc with rfl | hc
    · rw [hsz]; exact Nat.lt_succ_self _
    · rcases List.mem_cons.mp hc with rfl | hc
      · exact Nat.lt_succ_of_lt (Nat.lt_succ_self _)
      · cases hc
  · have hold : ∀ c o, s.heap.get? c = some o → h'.get? c = some o := fun c o e => by
      refine hk c o (fun hm => ?_) (Heap.get?_push_of_some _ (Heap.get?_push_of_some _ e))
      rcases List.mem_cons.mp hm with e1 | hm
      · have := Heap.lt_size e; rw [e1, hsz] at this; exact Nat.lt_irrefl _ (Nat.lt_of_succ_lt this)
      · cases hm
    have := h h' tk hold
    have hv : v = if strLt (txtV b) (txtV a) then b else a := by
      cases hc : strLt (txtV b) (txtV a) <;> simp [argBest, hc] at hP <;> simp [hP]
    rw [hv]; exact this
section
variable {X : Cx}
theorem call_maxS (hc : X.calm = true) : CallR X (.builtin "max") (fun xs H Q => ∃ a b, xs = [.str a, .str b] ∧ Q (.str (if strLt a b = true then b else a)) H) := by
  intro pins s σ H xs us Q I r h
  obtain ⟨i, j, rfl, q⟩ := h
  obtain ⟨u, w', rfl, ⟨t, rfl⟩, ⟨t', rfl⟩⟩ := vals2 r
  refine max_two_S (I.ok.hd hc) ⟨_, _, rfl⟩ ⟨_, _, rfl⟩ fun h' tk k => ⟨_, H, I.kept k, ?_, q⟩
  show RelV _ (if strLt i j = true then _ else _)
  by_cases hj : strLt i j = true
  · rw [if_pos hj, if_pos hj]; exact ⟨_, rfl⟩
  · rw [if_neg hj, if_neg hj]; exact ⟨_, rfl⟩
theorem call_minS (hc : X.calm = true) : CallR X (.builtin "min") (fun xs H Q => ∃ a b, xs = [.str a, .str b] ∧ Q (.str (if strLt b a = true then b else a)) H) := by
  intro pins s σ H xs us Q I r h
  obtain ⟨i, j, rfl, q⟩ := h
  obtain ⟨u, w', rfl, ⟨t, rfl⟩, ⟨t', rfl⟩⟩ := vals2 r
  refine min_two_S (I.ok.hd hc) ⟨_, _, rfl⟩ ⟨_, _, rfl⟩ fun h' tk k => ⟨_, H, I.kept k, ?_, q⟩
  show RelV _ (if strLt j i = true then _ else _)
  by_cases hj : strLt j i = true
  · rw [if_pos hj, if_pos hj]; exact ⟨_, rfl⟩
  · rw [if_neg hj, if_neg hj]; exact ⟨_, rfl⟩
/-! sorted over data, any number -/
def rSortB (K : PySem.W.Frag) : List V → Hp → VK → Prop := fun vs H Q => ∃ (a : Addr) (bs : List (V × PyData)), vs = [V.ref a] ∧ SqL K H a (bs.map (·.1)) ∧ (∀ b ∈ bs, Dp K H b.1 b.2 ∧ b.2.depth ≤ 50) ∧ PySem.W.AllAlike (bs.map (·.2)) ∧ PySem.W.Sortable (bs.map (·.2)) ∧ bs.length ≤ sizeLine ∧
  ∀ p, H p = none → Q (.ref p) (upd H p (.lst ((bs.mergeSort (PySem.W.dataLe false (·.2))).map (·.1))))
theorem each_of_vals {K : PySem.W.Frag} {P : Program} : ∀ {bs : List (V × PyData)} {us : List Value}, Vals (bs.map (·.1)) us → PySem.W.EachIs (fun (v : Value) (b : V × PyData) => RelV b.1 v) us bs
  | [], _, r => by cases r; exact .nil
  | b :: bs, _, r => by
    cases r with
    | cons r1 r2 => exact .cons r1 (each_of_vals (K := K) (P := P) r2)
theorem vals_of_each : ∀ {bs : List (V × PyData)} {us : List Value}, PySem.W.EachIs (fun (v : Value) (b : V × PyData) => RelV b.1 v) us bs → Vals (bs.map (·.1)) us
  | _, _, .nil => .nil
  | _, _, .cons r t => .cons r (vals_of_each t)
theorem reads_each {X : Cx} {pins : List (Addr × Obj)} {s : Shared} {σ : L2.St} {H : Hp} (I : Inv X pins σ H s) : ∀ {bs : List (V × PyData)} {us : List Value}, (∀ b ∈ bs, Dp X.K H b.1 b.2) → Vals (bs.map (·.1)) us → PySem.W.EachIs (fun (v : Value) (b : V × PyData) => ∃ as, Reads s.heap v b.2 as) us bs
  | [], _, _, r => by cases r; exact .nil
  | b :: bs, _, h, r => by
    cases r with
    | cons r1 r2 => exact .cons (Dp.reads I b.2 b.1 _ (h b List.mem_cons_self) r1) (reads_each I (fun b hb => h b (List.mem_cons_of_mem _ hb)) r2)
theorem cr_sortB (hu : X.A.units + 64 < cLine) : CallR X (.builtin "sorted") (rSortB X.K) := by
  intro pins s σ H vs us Q I r h
  obtain ⟨a, bs, rfl, hs, hd, hal, hk, hL, q⟩ := h
  obtain ⟨its, rv, hl, _⟩ := I.list hs
  rw [Vals.ref1 r]
  refine PySem.W.sorted_data (β := V × PyData) (vs := its) (bs := bs) (enc := (·.2)) (R := fun v b => RelV b.1 v) hl.isList (each_of_vals (K := X.K) (P := X.prog) rv) (reads_each I (fun b hb => (hd b hb).1) rv) hal hk hL (fun b hb => by have := (hd b hb).2; omega) fun out ho he => ?_
  have hv := vals_of_each he
  obtain ⟨ep, he'⟩ := PyProof.Rows.sortedAll_at s.heap its out.toArray
  have hlen : ((bs.mergeSort (PySem.W.dataLe false (·.2))).map (·.1)).length ≤ sizeLine := by rw [List.length_map, List.length_mergeSort]; exact hL
  exact ⟨.ref _, upd H (s.heap.objs.size + 1) (.lst ((bs.mergeSort (PySem.W.dataLe false (·.2))).map (·.1))), I.laid (t' := s.toks) (fun _ _ => PyProof.Rows.sortedAll_old) (Nat.le_succ _) ⟨hlen, out, ep, hv, he'⟩, rfl, q _ (I.hok.fresh (Nat.le_succ _))⟩
end

theorem walk_zipT {K : PySem.W.Frag} {a b : Addr} {xs ys : List V} {n : Nat} (hn : n = min xs.length ys.length) : Walk (RZ.ItzT K a b) n (fun H => SqT K H a xs ∧ SqT K H b ys) (YPair (fun i => xs[i]?) (fun i => ys[i]?)) := by
  subst hn
  refine ⟨fun i _ hi q => ?_, fun _ q => ⟨xs, ys, q.1, q.2, by omega⟩, fun i H v H' _ q y => ?_⟩
  · have h1 : i < xs.length := by omega
    have h2 : i < ys.length := by omega
    exact ⟨xs, ys, xs[i], ys[i], q.1, q.2, by simp [h1], by simp [h2]⟩
  · obtain ⟨T, x, z, h1, h2, h3, h4, h5⟩ := y
    exact ⟨T, x, z, h1, h2, h3, h4 xs q.1, h5 ys q.2⟩
/-! `<=` of two tuples of texts -/
theorem RcOp.le_str {A : Around} {s : Shared} (a b : Str) (t u : Tok) : Ob.RcOp .LtE A s (.str a t) (.str b u) (!strLt b a) := fun _ _ _ _ h => PySem.P.le_str h
def rLeS (K : PySem.W.Frag) : R2 := fun x y H Q => ∃ (a b : Addr) (ns ms : List Str), x = .ref a ∧ y = .ref b ∧ SqT K H a (ns.map V.str) ∧ SqT K H b (ms.map V.str) ∧
  Q (.bl (Ob.lexAt (fun j => ns.getD j (Str.ofString "") == ms.getD j (Str.ofString "")) (fun j => !strLt (ms.getD j (Str.ofString "")) (ns.getD j (Str.ofString ""))) (decide (ns.length ≤ ms.length)) 0 (min ns.length ms.length))) H
theorem str_item {us : List Value} {xs : List Str} (r : Vals (xs.map V.str) us) (j : Nat) (h : j < us.toArray.size) : ∃ t, us.toArray[j] = .str (xs.getD j (Str.ofString "")) t := by
  have h' : j < us.length := by simpa using h
  have hl := r.length
  rw [List.length_map] at hl
  obtain ⟨u, hu, ru⟩ := r.get (i := j) (x := V.str (xs.getD j (Str.ofString ""))) (by
    rw [List.getElem?_map, List.getElem?_eq_getElem (by omega : j < xs.length), List.getD_eq_getElem?_getD, List.getElem?_eq_getElem (by omega : j < xs.length)]; rfl)
  obtain ⟨t, rfl⟩ := ru
  refine ⟨t, ?_⟩
  rw [List.getElem?_eq_getElem h'] at hu
  simpa using Option.some.inj hu
theorem op_leS {X : Cx} (hu : X.A.units < cLine) : OpR X (compareOp .LtE) (rLeS X.K) := by
  intro pins s σ H x y v u Q I rx ry h
  obtain ⟨a, b, ns, ms, rfl, rfl, ha, hb, q⟩ := h
  cases rx
  cases ry
  obtain ⟨its, r1, p1, _⟩ := I.tuple ha
  obtain ⟨its2, r2, p2, _⟩ := I.tuple hb
  have e1 : its.toArray.size = ns.length := by rw [List.size_toArray, ← r1.length, List.length_map]
  have e2 : its2.toArray.size = ms.length := by rw [List.size_toArray, ← r2.length, List.length_map]
  have R := Ob.RcOp.tuples_le (A := X.A) (s := s) (e := fun j => ns.getD j (Str.ofString "") == ms.getD j (Str.ofString "")) (r := fun j => !strLt (ms.getD j (Str.ofString "")) (ns.getD j (Str.ofString ""))) p1 p2 hu (fun j h1 h2 => by
    obtain ⟨t, et⟩ := str_item r1 j h1
    obtain ⟨t', et'⟩ := str_item r2 j h2
    rw [et, et']
    exact SeqAt.EqAt.str_str _ _ _ _) (fun j h1 h2 _ => by
    obtain ⟨t, et⟩ := str_item r1 j h1
    obtain ⟨t', et'⟩ := str_item r2 j h2
    rw [et, et']
    exact RcOp.le_str _ _ _ _)
  rw [e1, e2] at R
  have z : wpAny (model X.prog X.w) X.A (compareOp .LtE (.ref a) (.ref b)) (EP X pins σ Q) X.xe s := R X.prog X.w X.xe (EP X pins σ Q) ⟨.bl _, H, I, rfl, q⟩
  exact z

/-! `v in x`, `v not in x` by the class's own `__contains__` -/
section
variable {X : Cx} {CX : CXT} {k : Nat} {f C : Addr} {fd : FuncData} {ps : List Str} {sp : Sp} {dvs : List V} {ds : List Value} {E : XK}
def rInM (C : Addr) (sp : Sp) (dvs : List V) (E : XK) (neg : Bool) : R2 := fun x y H Q => ∃ p dx fs, y = .ref p ∧ H p = some (.ins C dx fs) ∧ sp ([.ref p, x] ++ dvs) H (fun r H' => ∃ b, r = .bl b ∧ Q (.bl (if neg = true then !b else b)) H') E
theorem has_M {pins : List (Addr × Obj)} {s : Shared} {σ : L2.St} {H : Hp} {x : V} {v : Value} {p dx : Addr} {fs : List (Str × V)} {Qb : Bool → Shared → Prop} {Q' : VK} (I : Inv X pins σ H s) (rx : RelV x v) (hp : H p = some (.ins C dx fs)) (hm : Meth X.K C "__contains__" f) (F : FnOk X.prog X.w X.K X.mg X.base CX k f fd ps sp) (hr : Room k X.A) (hb : Binds X.K fd ps ds) (hd : Vals dvs ds) (hx : Passes CX X E)
    (h : sp ([.ref p, x] ++ dvs) H Q' E) (hq : ∀ u s1, EP X pins σ Q' u s1 → ∃ b, u = .bool b ∧ Qb b s1) : wpAny (model X.prog X.w) X.A (contains (.ref p) v) Qb X.xe s := by
  obtain ⟨mA, O, r, _⟩ := ins_get I.hok hp
  obtain ⟨od, J, hl⟩ := O.look
  unfold contains
  refine wpAny_holding (wpAny_bind (wpAny_bind (J.type.here ((PySem.W.looks_findIn I.kIn hm.at_).here ?_))))
  rw [if_neg (by simp)]
  refine wpAny_bind (PySem.W.unlessNone_K I.kIn J hm.at_ hm.fn ?_)
  refine thn (run_fn (us := [.ref p, v]) (vs := [.ref p, x]) F hr hb hd hx I (.cons rfl (.cons rx .nil)) h) fun u s1 hu => ?_
  obtain ⟨b, rfl, q⟩ := hq u s1 hu
  exact wpAny_truthy_bool q
theorem op_inM (hm : Meth X.K C "__contains__" f) (F : FnOk X.prog X.w X.K X.mg X.base CX k f fd ps sp) (hr : Room k X.A) (hb : Binds X.K fd ps ds) (hd : Vals dvs ds) (hx : Passes CX X E) : OpR X (compareOp .In) (rInM C sp dvs E false) := by
  intro pins s σ H x y v u Q I rx ry h
  obtain ⟨p, dx, fs, rfl, hp, h⟩ := h
  obtain rfl : u = Value.ref p := ry
  refine wpAny_bind (has_M (Qb := fun b s1 => wpAny (model X.prog X.w) X.A (pure (Value.bool b)) (EP X pins σ Q) X.xe s1) I rx hp hm F hr hb hd hx h fun u s1 hu => ?_)
  obtain ⟨z, H', I', rz, b, rfl, q⟩ := hu
  cases rz
  exact ⟨b, rfl, wpAny_pure ⟨.bl b, H', I', rfl, q⟩⟩
theorem op_notInM (hm : Meth X.K C "__contains__" f) (F : FnOk X.prog X.w X.K X.mg X.base CX k f fd ps sp) (hr : Room k X.A) (hb : Binds X.K fd ps ds) (hd : Vals dvs ds) (hx : Passes CX X E) : OpR X (compareOp .NotIn) (rInM C sp dvs E true) := by
  intro pins s σ H x y v u Q I rx ry h
  obtain ⟨p, dx, fs, rfl, hp, h⟩ := h
  obtain rfl : u = Value.ref p := ry
  refine wpAny_bind (has_M (Qb := fun b s1 => wpAny (model X.prog X.w) X.A (pure (Value.bool (!b))) (EP X pins σ Q) X.xe s1) I rx hp hm F hr hb hd hx h fun u s1 hu => ?_)
  obtain ⟨z, H', I', rz, b, rfl, q⟩ := hu
  cases rz
  exact ⟨b, rfl, wpAny_pure ⟨.bl (!b), H', I', rfl, q⟩⟩
end
end Hw

set_option Elab.async false
set_option linter.all false
set_option maxRecDepth 100000
namespace Hw
open PySem L2 PyProof.Rows
/-! texts as lists of codes -/
def SL (l : List Nat) : Str := ⟨l.toArray⟩
theorem SL_cps (l : List Nat) : (SL l).cps.toList = l := rfl
theorem SL_of (z : Str) : SL z.cps.toList = z := by obtain ⟨a⟩ := z; rfl
theorem str_ext {x y : Str} (h : x.cps.toList = y.cps.toList) : x = y := by rw [← SL_of x, ← SL_of y, h]
theorem SL_len (l : List Nat) : (SL l).length = l.length := by show l.toArray.size = l.length; simp
theorem len_cps (z : Str) : z.length = z.cps.toList.length := by obtain ⟨a⟩ := z; simp [Str.length]
theorem app_cps (x y : Str) : (x ++ y).cps.toList = x.cps.toList ++ y.cps.toList := by
  show (x.cps ++ y.cps).toList = _
  simp
theorem app_len (x y : Str) : (x ++ y).length = x.length + y.length := by rw [len_cps, len_cps, len_cps, app_cps, List.length_append]
theorem sjoin_cps0 : ∀ (cs : List Str), (Str.join (Str.ofString "") cs).cps.toList = cs.flatMap fun z => z.cps.toList
  | [] => rfl
  | [x] => by simp [Str.join]
  | x :: y :: r => by
    have ih := sjoin_cps0 (y :: r)
    have e : Str.join (Str.ofString "") (x :: y :: r) = x ++ Str.ofString "" ++ Str.join (Str.ofString "") (y :: r) := rfl
    rw [e, app_cps, app_cps, ih]
    show x.cps.toList ++ [] ++ _ = _
    rw [List.append_nil]; rfl
theorem join_cps0 (cs : List Str) : (Txt.join (Str.ofString "") cs).cps.toList = cs.flatMap fun z => z.cps.toList := by rw [TL.join_eq]; exact sjoin_cps0 cs
/-- a name: one to eight letters -/
def Nm (z : Str) : Prop := 1 ≤ z.length ∧ z.length ≤ 8 ∧ ∀ c ∈ z.cps.toList, 97 ≤ c ∧ c ≤ 122
instance (z : Str) : Decidable (Nm z) := by unfold Nm; exact inferInstance
/-- the words that are tried in the place of a word that is known -/
def cand (w : Str) : Nat → Str
  | 0 => w
  | k + 1 => SL ([97 + k / 26, 97 + k % 26] ++ w.cps.toList.drop 2)
theorem cand_drop (w : Str) : ∀ k, (cand w k).cps.toList.drop 2 = w.cps.toList.drop 2
  | 0 => rfl
  | k + 1 => by
    show (SL ([97 + k / 26, 97 + k % 26] ++ w.cps.toList.drop 2)).cps.toList.drop 2 = _
    rw [SL_cps]; rfl
theorem cand_nm {w : Str} (h : Nm w) {k : Nat} (hk : k ≤ 676) : Nm (cand w k) := by
  cases k with
  | zero => exact h
  | succ k =>
    obtain ⟨h1, h2, h3⟩ := h
    have e : (cand w (k + 1)).cps.toList = [97 + k / 26, 97 + k % 26] ++ w.cps.toList.drop 2 := SL_cps _
    have l : (cand w (k + 1)).length = 2 + (w.length - 2) := by
      rw [len_cps, e, List.length_append, List.length_drop, ← len_cps]; rfl
    refine ⟨by omega, by omega, fun c hc => ?_⟩
    rw [e] at hc
    rcases List.mem_append.mp hc with hc | hc
    · simp only [List.mem_cons, List.not_mem_nil, or_false] at hc
      rcases hc with rfl | rfl <;> omega
    · exact h3 c (List.mem_of_mem_drop hc)
theorem cand_inj {w : Str} {i j : Nat} (h : cand w (i + 1) = cand w (j + 1)) : i = j := by
  have e : ([97 + i / 26, 97 + i % 26] ++ w.cps.toList.drop 2) = ([97 + j / 26, 97 + j % 26] ++ w.cps.toList.drop 2) := by
    have z := congrArg (fun s : Str => s.cps.toList) h
    exact z
  injection e with e1 e2
  injection e2 with e2 e3
  omega
theorem sub_len {α : Type} [DecidableEq α] : ∀ {l m : List α}, l.Nodup → (∀ x ∈ l, x ∈ m) → l.length ≤ m.length
  | [], _, _, _ => Nat.zero_le _
  | a :: l, m, hn, hs => by
    obtain ⟨ha, hl⟩ := List.nodup_cons.mp hn
    have hm : a ∈ m := hs a List.mem_cons_self
    have ih := sub_len (m := m.erase a) hl fun x hx => by
      refine (List.mem_erase_of_ne ?_).mpr (hs x (List.mem_cons_of_mem _ hx))
      rintro rfl; exact ha hx
    have e := List.length_erase_of_mem hm
    have p : 0 < m.length := List.length_pos_of_mem hm
    rw [List.length_cons]; omega
theorem cand_few {w : Str} {ks : List Str} {k : Nat} (h : ∀ j, j < k → cand w j ∈ ks) : k ≤ ks.length + 1 := by
  cases k with
  | zero => omega
  | succ k =>
    have z := sub_len (l := (List.range k).map fun j => cand w (j + 1)) (m := ks) ?_ ?_
    · rw [List.length_map, List.length_range] at z; omega
    · rw [List.Nodup, List.pairwise_map]
      exact List.Pairwise.imp (fun {i j} hij e => hij (cand_inj e)) (List.nodup_range (n := k))
    · intro x hx
      obtain ⟨j, hj, rfl⟩ := List.mem_map.mp hx
      exact h (j + 1) (by have := List.mem_range.mp hj; omega)
def alpha : Str := Str.ofString "abcdefghijklmnopqrstuvwxyz"
theorem alpha_at : ∀ k, k < 26 → alpha.cps.toList[k]? = some (97 + k) := by decide +kernel
theorem alpha_mem : ∀ c ∈ alpha.cps.toList, 97 ≤ c ∧ c ≤ 122 := by decide +kernel
theorem alpha_len : alpha.length = 26 := by decide +kernel
theorem ones_join (cs : List Nat) : (Txt.join (Str.ofString "") (cs.map fun c => SL [c])).cps.toList = cs := by
  rw [join_cps0, List.flatMap_map]
  induction cs with
  | nil => rfl
  | cons c cs ih =>
    rw [List.flatMap_cons, ih]; rfl
end Hw

set_option Elab.async false
set_option linter.all false
set_option maxRecDepth 100000
set_option maxHeartbeats 4000000
namespace Hw
open PySem PySem.Spec L2 PyProof.Rows
/-! the order of texts and of pairs of texts -/
theorem strLt_irr (a : Str) : strLt a a = false := decide_eq_false (List.lt_irrefl _)
theorem strLt_tr {a b c : Str} (h : strLt a b = true) (h' : strLt b c = true) : strLt a c = true := decide_eq_true (List.lt_trans (of_decide_eq_true h) (of_decide_eq_true h'))
theorem strLt_as {a b : Str} (h : strLt a b = true) : strLt b a = false := by
  cases e : strLt b a with
  | false => rfl
  | true => have := strLt_tr h e; rw [strLt_irr] at this; cases this
theorem strLt_tri {a b : Str} (h : strLt a b = false) (h' : strLt b a = false) : a = b := by
  refine str_ext (List.le_antisymm ?_ ?_)
  · exact List.not_lt.mp (of_decide_eq_false h')
  · exact List.not_lt.mp (of_decide_eq_false h)
theorem strLt_ne {a b : Str} (h : strLt a b = true) : a ≠ b := fun e => by rw [e, strLt_irr] at h; cases h
def leS (a b : Str) : Bool := !strLt b a
theorem leS_tr (a b c : Str) (h : leS a b = true) (h' : leS b c = true) : leS a c = true := by
  unfold leS at *
  cases e : strLt c a with
  | false => rfl
  | true =>
    cases e1 : strLt b a with
    | true => rw [e1] at h; cases h
    | false =>
      cases e2 : strLt a b with
      | true => rw [strLt_tr e e2] at h'; cases h'
      | false => rw [strLt_tri e1 e2, e] at h'; cases h'
theorem leS_tot (a b : Str) : (leS a b || leS b a) = true := by
  unfold leS
  cases e : strLt b a with
  | false => rfl
  | true => rw [strLt_as e]; rfl
theorem leS_anti {a b : Str} (h : leS a b = true) (h' : leS b a = true) : a = b := by
  unfold leS at h h'
  exact strLt_tri (by simpa using h') (by simpa using h)
def sortS (l : List Str) : List Str := l.mergeSort leS
def Asc (l : List Str) : Prop := l.Pairwise fun a b => strLt a b = true
theorem sortS_perm (l : List Str) : (sortS l).Perm l := List.mergeSort_perm l leS
theorem sortS_le (l : List Str) : (sortS l).Pairwise fun a b => leS a b = true := List.pairwise_mergeSort leS_tr leS_tot l
theorem asc_of_le {l : List Str} (h : l.Pairwise fun a b => leS a b = true) (hn : l.Nodup) : Asc l := by
  refine (h.and hn).imp ?_
  rintro a b ⟨h1, h2⟩
  cases e : strLt a b with
  | true => rfl
  | false => exact absurd (strLt_tri e (by simpa [leS] using h1)) h2
theorem sortS_asc {l : List Str} (h : l.Nodup) : Asc (sortS l) := asc_of_le (sortS_le l) ((sortS_perm l).nodup_iff.mpr h)
theorem Asc.nodup {l : List Str} (h : Asc l) : l.Nodup := h.imp fun q => strLt_ne q
theorem Asc.le {l : List Str} (h : Asc l) : l.Pairwise fun a b => leS a b = true := h.imp fun q => by unfold leS; rw [strLt_as q]; rfl
theorem sortS_eq {l m : List Str} (h : m.Perm l) (hm : m.Pairwise fun a b => leS a b = true) : m = sortS l :=
  List.Perm.eq_of_pairwise (le := fun a b => leS a b = true) (fun a b _ _ h1 h2 => leS_anti h1 h2) hm (sortS_le l) (h.trans (sortS_perm l).symm)
theorem sortS_asc_id {l : List Str} (h : Asc l) : sortS l = l := (sortS_eq (.refl _) h.le).symm
theorem sortS_of_perm {l m : List Str} (h : l.Perm m) : sortS l = sortS m := sortS_eq ((sortS_perm l).trans h) (sortS_le l)
theorem risingS_le : ∀ (l : List Str) (p : Str), risingS p l = true → (p :: l).Pairwise fun a b => leS a b = true
  | [], _, _ => List.pairwise_singleton _ _
  | x :: r, p, h => by
    have h' : (!ltCps x.cps.toList p.cps.toList && risingS x r) = true := h
    rw [Bool.and_eq_true] at h'
    have ih := risingS_le r x h'.2
    have hpx : leS p x = true := by
      have := h'.1
      rw [PyProof.Rows.ltCps_eq] at this
      exact this
    refine List.pairwise_cons.mpr ⟨fun y hy => ?_, ih⟩
    rcases List.mem_cons.mp hy with rfl | hy
    · exact hpx
    · exact leS_tr _ _ _ hpx ((List.pairwise_cons.mp ih).1 y hy)
theorem sortedS_le : ∀ {l : List Str}, sortedS l = true → l.Pairwise fun a b => leS a b = true
  | [], _ => .nil
  | x :: r, h => risingS_le r x h
theorem sortedS_eq {l m : List Str} (h : m.Perm l) (hm : sortedS m = true) : m = sortS l := sortS_eq h (sortedS_le hm)
abbrev Tie := Str × Str
def ltP (p q : Tie) : Bool := if p.1 == q.1 then strLt p.2 q.2 else strLt p.1 q.1
def leP (p q : Tie) : Bool := !ltP q p
theorem ltP_irr (p : Tie) : ltP p p = false := by unfold ltP; rw [if_pos (beq_self_eq_true _), strLt_irr]
theorem ltP_iff {p q : Tie} : ltP p q = true ↔ strLt p.1 q.1 = true ∨ p.1 = q.1 ∧ strLt p.2 q.2 = true := by
  unfold ltP
  by_cases h : p.1 = q.1
  · rw [if_pos (beq_iff_eq.mpr h), h, strLt_irr]; simp
  · rw [if_neg (by simpa using h)]; simp [h]
theorem ltP_tr {p q r : Tie} (h : ltP p q = true) (h' : ltP q r = true) : ltP p r = true := by
  rw [ltP_iff] at *
  rcases h with h | ⟨e, h⟩ <;> rcases h' with h' | ⟨e', h'⟩
  · exact .inl (strLt_tr h h')
  · exact .inl (e' ▸ h)
  · exact .inl (e ▸ h')
  · exact .inr ⟨e.trans e', strLt_tr h h'⟩
theorem ltP_tri {p q : Tie} (h : ltP p q = false) (h' : ltP q p = false) : p = q := by
  have a : ¬ (ltP p q = true) := by rw [h]; exact Bool.false_ne_true
  have b : ¬ (ltP q p = true) := by rw [h']; exact Bool.false_ne_true
  rw [ltP_iff] at a b
  have e : p.1 = q.1 := strLt_tri (by simpa using fun z => a (.inl z)) (by simpa using fun z => b (.inl z))
  have e2 : p.2 = q.2 := strLt_tri (by simpa using fun z => a (.inr ⟨e, z⟩)) (by simpa using fun z => b (.inr ⟨e.symm, z⟩))
  exact Prod.ext e e2
theorem ltP_as {p q : Tie} (h : ltP p q = true) : ltP q p = false := by
  cases e : ltP q p with
  | false => rfl
  | true => have := ltP_tr h e; rw [ltP_irr] at this; cases this
theorem leP_tr (a b c : Tie) (h : leP a b = true) (h' : leP b c = true) : leP a c = true := by
  unfold leP at *
  cases e : ltP c a with
  | false => rfl
  | true =>
    cases e1 : ltP b a with
    | true => rw [e1] at h; cases h
    | false =>
      cases e2 : ltP a b with
      | true => rw [ltP_tr e e2] at h'; cases h'
      | false => rw [ltP_tri e1 e2, e] at h'; cases h'
theorem leP_tot (a b : Tie) : (leP a b || leP b a) = true := by
  unfold leP
  cases e : ltP b a with
  | false => rfl
  | true => rw [ltP_as e]; rfl
def sortP (l : List Tie) : List Tie := l.mergeSort leP
def AscP (l : List Tie) : Prop := l.Pairwise fun a b => ltP a b = true
theorem sortP_perm (l : List Tie) : (sortP l).Perm l := List.mergeSort_perm l leP
theorem sortP_le (l : List Tie) : (sortP l).Pairwise fun a b => leP a b = true := List.pairwise_mergeSort leP_tr leP_tot l
theorem sortP_asc {l : List Tie} (hn : l.Nodup) : AscP (sortP l) := by
  refine ((sortP_le l).and ((sortP_perm l).nodup_iff.mpr hn)).imp ?_
  rintro a b ⟨h1, h2⟩
  cases e : ltP a b with
  | true => rfl
  | false => exact absurd (ltP_tri e (by simpa [leP] using h1)) h2
/-! sorted of texts, of pairs of texts -/
def tieD (p : Tie) : PyData := .tuple [.str p.1, .str p.2]
theorem dataLe_tie (p q : Tie) : PySem.W.dataLe false id (tieD p) (tieD q) = leP p q := by
  rw [PySem.W.dataLe_eq]
  show (!PySem.W.dataLt (tieD q) (tieD p)) = _
  unfold tieD leP ltP
  rw [PySem.W.dataLt_pair (by simp [PySem.W.alike]) (by simp [PySem.W.alike]), PySem.W.dataLt_str, PySem.W.dataLt_str]
  simp only [PyData.eqv]
  by_cases h1 : q.1 = p.1
  · by_cases h2 : q.2 = p.2
    · simp [h1, h2, strLt]
    · simp [h1, h2, strLt]
  · simp [h1, strLt]
section
variable {X : Cx}
def rSortT (K : PySem.W.Frag) : List V → Hp → VK → Prop := fun vs H Q => ∃ (a : Addr) (zs : List Str), vs = [V.ref a] ∧ SqL K H a (zs.map V.str) ∧ zs.length ≤ sizeLine ∧ ∀ p, H p = none → Q (.ref p) (upd H p (.lst ((sortS zs).map V.str)))
theorem cr_sortT (hu : X.A.units + 64 < cLine) : CallR X (.builtin "sorted") (rSortT X.K) := by
  intro pins s σ H vs us Q I r h
  obtain ⟨a, zs, rfl, hs, hz, q⟩ := h
  have e1 : (zs.map fun z => (V.str z, PyData.str z)).map (·.1) = zs.map V.str := by rw [List.map_map]; rfl
  have e2 : (zs.map fun z => (V.str z, PyData.str z)).map (·.2) = zs.map PyData.str := by rw [List.map_map]; rfl
  refine cr_sortB hu pins s σ H _ us Q I r ⟨a, zs.map fun z => (V.str z, PyData.str z), rfl, by rw [e1]; exact hs, fun b hb => ?_, ?_, ?_, by rw [List.length_map]; exact hz, fun p hp => ?_⟩
  · obtain ⟨z, _, rfl⟩ := List.mem_map.mp hb
    exact ⟨Dp_flat rfl, by show PyData.depth (.str z) ≤ 50; rw [PyData.depth]; decide⟩
  · rw [e2]; exact PySem.W.AllAlike.of fun _ _ => by simp [PySem.W.alike]
  · rw [e2]; exact PySem.W.Sortable.others (enc := PyData.str) fun z => ⟨(fun e => nomatch e), fun xs e => nomatch e⟩
  · have e : (zs.map fun z => (V.str z, PyData.str z)).mergeSort (PySem.W.dataLe false (·.2)) = (sortS zs).map fun z => (V.str z, PyData.str z) := by
      refine (List.map_mergeSort fun a _ b _ => ?_).symm
      rw [PySem.W.dataLe_eq]
      show leS a b = !PySem.W.dataLt (.str b) (.str a)
      rw [PySem.W.dataLt_str]; rfl
    rw [e, List.map_map]
    exact q p hp

def TieAt (K : PySem.W.Frag) (H : Hp) (q : Addr) (p : Tie) : Prop := SqT K H q [.str p.1, .str p.2]
theorem zip_of {α β : Type} {F : α → β → Prop} : ∀ {xs : List α} {ys : List β}, Paired F xs ys → ∃ l : List (α × β), l.map (·.1) = xs ∧ l.map (·.2) = ys ∧ ∀ p ∈ l, F p.1 p.2
  | _, _, .nil => ⟨[], rfl, rfl, fun _ z => nomatch z⟩
  | _, _, .cons (a := a) (b := b) h t => by
    obtain ⟨l, rfl, rfl, h3⟩ := zip_of t
    refine ⟨(a, b) :: l, rfl, rfl, fun p hp => ?_⟩
    rcases List.mem_cons.mp hp with rfl | hp
    · exact h
    · exact h3 p hp
theorem paired_of {α β : Type} {F : α → β → Prop} : ∀ {l : List (α × β)}, (∀ p ∈ l, F p.1 p.2) → Paired F (l.map (·.1)) (l.map (·.2))
  | [], _ => .nil
  | p :: l, h => .cons (h p List.mem_cons_self) (paired_of fun q hq => h q (List.mem_cons_of_mem _ hq))
theorem paired_mem {α β : Type} {F : α → β → Prop} : ∀ {l : List (α × β)}, Paired F (l.map (·.1)) (l.map (·.2)) → ∀ p ∈ l, F p.1 p.2
  | [], _, _, z => nomatch z
  | q :: l, h, p, hp => by
    cases h with
    | cons h1 h2 =>
      rcases List.mem_cons.mp hp with rfl | hp
      · exact h1
      · exact paired_mem h2 p hp
def rSortTP (K : PySem.W.Frag) : List V → Hp → VK → Prop := fun vs H Q => ∃ (a : Addr) (qs : List Addr) (ps : List Tie), vs = [V.ref a] ∧ SqL K H a (qs.map V.ref) ∧ Paired (TieAt K H) qs ps ∧ ps.length ≤ sizeLine ∧
  ∀ p qs', H p = none → (∀ R : Addr → Tie → Prop, Paired R qs ps → Paired R qs' (sortP ps)) → Q (.ref p) (upd H p (.lst (qs'.map V.ref)))
theorem cr_sortTP (hu : X.A.units + 64 < cLine) : CallR X (.builtin "sorted") (rSortTP X.K) := by
  intro pins s σ H vs us Q I r h
  obtain ⟨a, qs, ps, rfl, hs, hp, hz, q⟩ := h
  obtain ⟨l, rfl, rfl, hl⟩ := zip_of hp
  have e1 : (l.map fun x => (V.ref x.1, tieD x.2)).map (·.1) = (l.map (·.1)).map V.ref := by rw [List.map_map, List.map_map]; rfl
  have e2 : (l.map fun x => (V.ref x.1, tieD x.2)).map (·.2) = (l.map (·.2)).map tieD := by rw [List.map_map, List.map_map]; rfl
  rw [List.length_map] at hz
  refine cr_sortB hu pins s σ H _ us Q I r ⟨a, l.map fun x => (V.ref x.1, tieD x.2), rfl, by rw [e1]; exact hs, fun b hb => ?_, ?_, ?_, by rw [List.length_map]; exact hz, fun p hp => ?_⟩
  · obtain ⟨z, hz, rfl⟩ := List.mem_map.mp hb
    refine ⟨.tup (hl z hz) (.cons (Dp_flat rfl) (.cons (Dp_flat rfl) .nil)), ?_⟩
    show PyData.depth (tieD z.2) ≤ 50
    unfold tieD
    simp [PyData.depth, PyData.depthAll]
  · rw [e2]; exact PySem.W.AllAlike.of fun _ _ => by simp [PySem.W.alike, PySem.W.alikeAll, tieD]
  · rw [e2]; exact PySem.W.Sortable.tuples (enc := tieD) fun z => ⟨_, _, rfl⟩
  · have e : (l.map fun x => (V.ref x.1, tieD x.2)).mergeSort (PySem.W.dataLe false (·.2)) = (l.mergeSort fun x y => leP x.2 y.2).map fun x => (V.ref x.1, tieD x.2) := by
      refine (List.map_mergeSort fun a _ b _ => ?_).symm
      exact (dataLe_tie a.2 b.2).symm
    have e3 : (l.mergeSort fun x y => leP x.2 y.2).map (·.2) = sortP (l.map (·.2)) := List.map_mergeSort fun a _ b _ => rfl
    rw [e, List.map_map]
    have := q p ((l.mergeSort fun x y => leP x.2 y.2).map (·.1)) hp (fun R hR => by
      rw [← e3]
      exact paired_of fun x hx => paired_mem hR x (List.mem_mergeSort.mp hx))
    rw [List.map_map] at this
    exact this
end
end Hw

set_option Elab.async false
set_option linter.all false
set_option maxRecDepth 100000
set_option maxHeartbeats 4000000
namespace Hw
open PySem L2 PyProof.Rows
def topS (i : Nat) : Stmt := PySem.Challenge.pw_healedwebs_k06_lines_of_no_history.main.body.getD i (.Pass ⟨0, 0, 0, 0⟩)
abbrev sPot : Stmt := topS 20
abbrev sTake : Stmt := topS 21
abbrev sOf : Stmt := topS 22
abbrev sCells : Stmt := topS 24
section
variable {P : Program} {w : World} {K : PySem.W.Frag} {mg : Str → Option Value} {base : Heap}
theorem scPot : FnScope ["script", "place", "cell", "own", "small"] ["script", "place"] (defScope sPot) := ⟨rfl, rfl, rfl, by decide +kernel, rfl, by decide +kernel, by decide +kernel⟩
theorem scTake : FnScope ["pot", "upto", "digit", "prime", "blend"] ["pot", "upto"] (defScope sTake) := ⟨rfl, rfl, rfl, by decide +kernel, rfl, by decide +kernel, by decide +kernel⟩
theorem scOf : FnScope ["pot", "some"] ["pot", "some"] (defScope sOf) := ⟨rfl, rfl, rfl, by decide +kernel, rfl, by decide +kernel, by decide +kernel⟩
theorem scCells : FnScope ["script", "most"] ["script", "most"] (defScope sCells) := ⟨rfl, rfl, rfl, by decide +kernel, rfl, by decide +kernel, by decide +kernel⟩
theorem b01 (b : Prop) [Decidable b] : -(2 ^ 64) < (if b then (1 : Int) else 0) ∧ (if b then (1 : Int) else 0) < 2 ^ 64 := by
  split <;> exact ⟨by decide, by decide⟩
/-- names of the built-ins -/
structure Blt (mg : Str → Option Value) : Prop where
  len : mg "len" = none
  sum : mg "sum" = none
  int : mg "int" = none
  abs : mg "abs" = none
  list : mg "list" = none
  range : mg "range" = none
  max : mg "max" = none
  min : mg "min" = none
theorem ok_pot {f : Addr} {fd : FuncData} {k : Nat} (F : Fun K "_law_pot" "_law_pot" sPot f fd) (B : Blt mg) : FnOk P w K mg base CX0 (k + 1) f fd ["script", "place"] (spPot K) := by
  refine F.ok scPot (fun vs H Q E h => ?_) (fun cdv A outer s H vs Q E hr h => ?_)
  · obtain ⟨a, ns, i, rfl, _⟩ := h
    rfl
  · obtain ⟨a, ns, i, rfl, hS, hlen, h0, h1, q⟩ := h
    refine ⟨_, Evl.pss_cut (ps_set (i := 2) scPot.nd rfl (.inl rfl) (pe_ifExp (pt_cmpR op_lt (pv 1) (pe_callB call_len_seq (by rfl) B.len PySem.boot_len (pa_cons (pv 0) pa_nil)) (nomark _))
        (pe_ix ix_list (pv 0) (pv 1) (fun _ _ => rfl))
        (pe_op op_add (pe_op op_add (pe_op op_mod (pe_callB (cr_sum rfl) (by rfl) B.sum PyProof.Rows.boot_sum (pa_cons (pe_slice sl_list (pv 0) po_none (po_some pe_int)) pa_nil)) pe_int) (pe_op op_mul pe_int (pv 1))) pe_int)))
      (pss_cons (ps_set (i := 3) scPot.nd rfl (.inl rfl) (pe_op op_mul (pe_op op_mod (pe_callTy call_int1 (by rfl) B.int PyProof.Rows.boot_int (pa_cons (pe_callB call_abs (by rfl) B.abs PyProof.Rows.boot_abs (pa_cons (pv 2) pa_nil)) pa_nil))
          (pe_op op_powW (pe_op op_powW pe_int pe_int) pe_int))
          (pe_callTy call_int1 (by rfl) B.int PyProof.Rows.boot_int (pa_cons (pe_cmpR op_ge (pe_callB call_abs (by rfl) B.abs PyProof.Rows.boot_abs (pa_cons (pv 2) pa_nil)) (pe_op op_powW pe_int pe_int) (nomark _)) pa_nil))))
      (pss_cons (ps_set (i := 4) scPot.nd rfl (.inl rfl) (pe_op op_mod (pe_callTy call_int1 (by rfl) B.int PyProof.Rows.boot_int (pa_cons (pv 2) pa_nil)) pe_int))
      (pss_one (ps_ret (pe_lst (pa_cons (pv 3) (pa_cons (pe_op op_mod (pe_callTy call_int1 (by rfl) B.int PyProof.Rows.boot_int (pa_cons
        (pe_op op_add (pe_op op_add (pe_op op_mul (pv 4) pe_int) (pe_op op_mul (pe_op op_mul pe_int (pv 1)) (pv 1))) pe_int) pa_nil)) pe_int) (pa_cons pe_int pa_nil)))))))), ?_⟩
    -- the cell: any int, whatever the way
    refine ⟨fun σ' H' => ∃ c : Int, σ' = [some (.ref a), some (.int i), some (.int c), none, none] ∧ Same H H', ?_, ?_⟩
    · refine ⟨_, rfl, .ref a, rfl, a, ns.map V.int, rfl, .inl hS, _, _, rfl, rfl, _, rfl, ite2 (fun e => ?_) (fun e => ?_)⟩
      · have e' : i < (ns.map V.int).length := of_decide_eq_true e
        obtain ⟨j, rfl⟩ : ∃ j : Nat, i = (j : Int) := ⟨i.toNat, by omega⟩
        have hj : j < ns.length := by rw [List.length_map] at e'; omega
        refine ⟨.ref a, rfl, .int (j : Int), rfl, a, _, _, .int ns[j], rfl, rfl, hS, atI_nat (j := j) ?_, ns[j], rfl, Same.refl H⟩
        rw [List.getElem?_map, List.getElem?_eq_getElem hj]; rfl
      · refine ⟨.ref a, rfl, 1, rfl, a, _, rfl, hS, fun c nc => ?_⟩
        have s1 : Same H (upd H c (.lst (cutV (ns.map V.int) none (some 1)))) := same_upd nc
        have ec : cutV (ns.map V.int) none (some 1) = (ns.take 1).map V.int := by
          unfold cutV
          rw [show HT.sIx (ns.map V.int).length (ns.map V.int).length (some 1) = min 1 (ns.map V.int).length from HT.sIx_nat _ _ 1, HT.sIx_none]
          rw [List.length_map, List.drop_zero, Nat.sub_zero, List.map_take]
          rw [List.take_eq_take_iff, List.length_map]; omega
        refine ⟨c, ns.take 1, rfl, sql_of (by rw [upd_same, ec]), ?_⟩
        refine ⟨_, _, rfl, rfl, (by show (0 : Int) < 1000003; decide), .int i, rfl, _, _, rfl, rfl, .inl ⟨by decide, by decide⟩, _, _, rfl, rfl, _, _, rfl, rfl, _, rfl, s1⟩
    · rintro σ' H1 ⟨c, rfl, s1⟩
      refine ⟨.int c, rfl, c, rfl, .inl ⟨_, rfl, _, _, rfl, rfl, ⟨by decide, by decide +kernel⟩, _, _, rfl, rfl, ⟨by decide, by decide +kernel⟩, _, _, rfl, rfl, (by show (0 : Int) < ((10 : Int) ^ Int.toNat 60) ^ Int.toNat 5; decide +kernel), ?_⟩⟩
      refine ⟨.int c, rfl, c, rfl, _, _, rfl, rfl, ⟨by decide, by decide +kernel⟩, _, _, rfl, rfl, .inr ⟨_, rfl, _, _, rfl, rfl, .inr ?_, ?_⟩⟩
      · exact b01 _
      have own0 : ∀ (x m : Int) (b : Prop) [Decidable b], m ≠ 0 → 0 ≤ x % m * (if b then 1 else 0) := fun x m b _ hm => Int.mul_nonneg (Int.emod_nonneg _ hm) (by split <;> decide)
      refine ⟨.int c, rfl, .inl ⟨_, rfl, _, _, rfl, rfl, (by show (0 : Int) < 2305843009213693951; decide), ?_⟩⟩
      have e0 := Int.emod_nonneg c (show (2305843009213693951 : Int) ≠ 0 by decide)
      have e1 := Int.emod_lt_of_pos c (show (0 : Int) < 2305843009213693951 by decide)
      refine ⟨_, rfl, .int (c % 2305843009213693951), rfl, _, _, rfl, rfl, .inl ⟨by omega, by omega⟩, .int i, rfl, _, _, rfl, rfl, .inl ⟨by decide, by decide⟩, .int i, rfl, _, _, rfl, rfl, .inr ⟨by omega, by omega⟩,
        _, _, rfl, rfl, _, _, rfl, rfl, .inl ⟨_, rfl, _, _, rfl, rfl, (by show (0 : Int) < 2305843009213693921; decide), by show 3 ≤ sizeLine; decide, fun p hp => ?_⟩⟩
      refine q p _ (s1.trans (same_upd hp)) (s1.free hp) ⟨⟨_, _, _, upd_same, own0 _ _ _ (by decide +kernel), Int.emod_nonneg _ (by decide), ?_, by decide, by decide⟩⟩
      exact Int.lt_of_lt_of_le (Int.emod_lt_of_pos _ (by decide)) (by decide)
theorem ok_take {f : Addr} {fd : FuncData} {k : Nat} (F : Fun K "_law_take" "_law_take" sTake f fd) (B : Blt mg) : FnOk P w K mg base CX0 (k + 1) f fd ["pot", "upto"] spTake := by
  refine F.ok scTake (fun vs H Q E h => ?_) (fun cdv A outer s H vs Q E hr h => ?_)
  · obtain ⟨a, u, N, rfl, _⟩ := h
    rfl
  · obtain ⟨a, u, N, rfl, hP, hN, hu0, hu1, q⟩ := h
    refine ⟨_, pss_cons (ps_if (pt_cmpR op_gt (pe_ix ix_list (pv 0) pe_int (fun _ _ => rfl)) pe_int (nomark _))
        (pss_cons (ps_set (i := 2) scTake.nd rfl (.inl rfl) (pe_op op_mod (pe_callTy call_int1 (by rfl) B.int PyProof.Rows.boot_int (pa_cons (pe_ix ix_list (pv 0) pe_int (fun _ _ => rfl)) pa_nil)) (pv 1)))
        (pss_cons (ps_asg (pe_op op_fdiv (pe_ix ix_list (pv 0) pe_int (fun _ _ => rfl)) (pv 1)) (pg_sub (pv 0) pe_int set_list))
        (pss_one (ps_ret (pv 2))))) pss_nil)
      (pss_cons (ps_asg (pe_op op_add (pe_ix ix_list (pv 0) pe_int (fun _ _ => rfl)) pe_int) (pg_sub (pv 0) pe_int set_list))
      (pss_cons (ps_set (i := 3) scTake.nd rfl (.inl rfl) (pe_ix ix_list (pe_lst (pa_cons pe_int (pa_cons pe_int (pa_cons pe_int (pa_cons pe_int (pa_cons pe_int pa_nil))))))
          (pe_op op_mod (pe_callTy call_int1 (by rfl) B.int PyProof.Rows.boot_int (pa_cons (pe_ix ix_list (pv 0) pe_int (fun _ _ => rfl)) pa_nil)) pe_int) (fun _ _ => rfl)))
      (pss_cons (ps_set (i := 4) scTake.nd rfl (.inl rfl) (pe_op op_mod (pe_callTy call_int1 (by rfl) B.int PyProof.Rows.boot_int (pa_cons (pe_op op_powW (pe_callTy call_int1 (by rfl) B.int PyProof.Rows.boot_int (pa_cons
          (pe_op op_add (pe_op op_add (pe_ix ix_list (pv 0) pe_int (fun _ _ => rfl)) (pe_op op_mul (pe_op op_mul pe_int (pe_ix ix_list (pv 0) pe_int (fun _ _ => rfl))) (pe_ix ix_list (pv 0) pe_int (fun _ _ => rfl)))) pe_int) pa_nil)) pe_int) pa_nil)) (pv 3)))
      (pss_cons (ps_set (i := 4) scTake.nd rfl (.inl rfl) (pe_op op_mod (pe_callTy call_int1 (by rfl) B.int PyProof.Rows.boot_int (pa_cons (pe_op op_mul (pv 4) (pe_op op_add (pe_op op_mod (pe_callTy call_int1 (by rfl) B.int PyProof.Rows.boot_int (pa_cons (pv 4) pa_nil)) pe_int)
          (pe_op op_mul pe_int (pe_ix ix_list (pv 0) pe_int (fun _ _ => rfl))))) pa_nil)) pe_int))
      (pss_one (ps_ret (pe_op op_mod (pe_callTy call_int1 (by rfl) B.int PyProof.Rows.boot_int (pa_cons (pe_op op_fdiv (pv 4) pe_int) pa_nil)) (pv 1)))))))), ?_⟩
    obtain ⟨x, y, z, e, hx, hy, hy1, hz, hz1⟩ := hP.ex
    have hS : SqL K H a [.int x, .int y, .int z] := sql_of e
    refine ⟨.ref a, rfl, a, _, 0, .int x, rfl, rfl, hS, rfl, _, _, rfl, rfl, _, rfl, ite2 (fun c => ?_) (fun c => ?_)⟩
    · have c' : 0 < x := of_decide_eq_true c
      refine ⟨.ref a, rfl, a, _, 0, .int x, rfl, rfl, hS, rfl, .inl ⟨x, rfl, .int u, rfl, _, _, rfl, rfl, hu0, ?_⟩⟩
      refine ⟨.ref a, rfl, a, _, 0, .int x, rfl, rfl, hS, rfl, .int u, rfl, _, _, rfl, rfl, ⟨hu0, by omega⟩, .ref a, rfl, a, _, 0, 0, rfl, rfl, e, rfl, ?_⟩
      refine ⟨.int (x % u), rfl, ?_⟩
      exact q _ _ (Int.emod_nonneg _ (by omega)) (Int.emod_lt_of_pos _ hu0) ((SameX.refl a H).put) ⟨⟨_, y, z, upd_same, Int.ediv_nonneg hx (by omega), hy, hy1, hz, by omega⟩⟩
    · refine ⟨.ref a, rfl, a, _, 2, .int z, rfl, rfl, hS, rfl, _, _, rfl, rfl, .ref a, rfl, a, _, 2, 2, rfl, rfl, e, rfl, ?_⟩
      have e2 : upd H a (.lst ([V.int x, .int y, .int z].set 2 (.int (z + 1)))) a = some (.lst [.int x, .int y, .int (z + 1)]) := upd_same
      generalize hH2 : upd H a (.lst ([V.int x, .int y, .int z].set 2 (.int (z + 1)))) = H2 at e2 ⊢
      have s2 : SameX a H H2 := by rw [← hH2]; exact (SameX.refl a H).put
      refine ⟨by show 5 ≤ sizeLine; decide, fun p hp => ?_⟩
      have s3 : Same H2 (upd H2 p (.lst [.int 2147483647, .int 2147483629, .int 2147483587, .int 2147483579, .int 2147483563])) := same_upd hp
      have hp1 : (upd H2 p (.lst [.int 2147483647, .int 2147483629, .int 2147483587, .int 2147483579, .int 2147483563])) p = some (.lst [.int 2147483647, .int 2147483629, .int 2147483587, .int 2147483579, .int 2147483563]) := upd_same
      have e3 := s3 _ _ e2
      have s4 := s2.trans (.of s3)
      generalize (upd H2 p (.lst [.int 2147483647, .int 2147483629, .int 2147483587, .int 2147483579, .int 2147483563])) = H3 at s3 hp1 e3 s4 ⊢
      have hS3 : SqL K H3 a [.int x, .int y, .int (z + 1)] := sql_of e3
      refine ⟨.ref a, rfl, a, _, 2, .int (z + 1), rfl, rfl, hS3, rfl, .inl ⟨_, rfl, _, _, rfl, rfl, (by show (0 : Int) < 5; decide), ?_⟩⟩
      have m0 := Int.emod_nonneg (z + 1) (show (5 : Int) ≠ 0 by decide)
      have m1 := Int.emod_lt_of_pos (z + 1) (show (0 : Int) < 5 by decide)
      obtain ⟨pr, hpr, hp0, hp2⟩ : ∃ pr : Int, atI [V.int 2147483647, .int 2147483629, .int 2147483587, .int 2147483579, .int 2147483563] ((z + 1) % 5) = some (.int pr) ∧ 0 < pr ∧ pr < 2 ^ 31 := by
        generalize (z + 1) % 5 = m at m0 m1
        obtain h | h | h | h | h : m = 0 ∨ m = 1 ∨ m = 2 ∨ m = 3 ∨ m = 4 := by omega
        all_goals (subst h; exact ⟨_, rfl, by decide, by decide⟩)
      refine ⟨p, _, _, .int pr, rfl, rfl, sql_of hp1, hpr, ?_⟩
      -- blend
      refine ⟨.ref a, rfl, a, _, 1, .int y, rfl, rfl, hS3, rfl, .ref a, rfl, a, _, 2, .int (z + 1), rfl, rfl, hS3, rfl, _, _, rfl, rfl, .inl ⟨by decide, by decide⟩,
        .ref a, rfl, a, _, 2, .int (z + 1), rfl, rfl, hS3, rfl, _, _, rfl, rfl, .inr ⟨by omega, by omega⟩, _, _, rfl, rfl, _, _, rfl, rfl, .inl ⟨_, rfl, _, _, rfl, rfl, ⟨by decide, ?_⟩, .inl ⟨_, rfl, .int pr, rfl, _, _, rfl, rfl, hp0, ?_⟩⟩⟩
      · have w0 : 0 ≤ (z + 1) * (z + 1) := Int.mul_nonneg (by omega) (by omega)
        have w1 : (z + 1) * (z + 1) ≤ 1073741824 * 1073741824 := Int.mul_le_mul (by omega) (by omega) (by omega) (by omega)
        have hb : Builtin.Int.intBits (y + 98269 * (z + 1) * (z + 1) + 439) ≤ 100 := by
          refine bits_nat ?_
          rw [Int.mul_assoc]
          generalize (z + 1) * (z + 1) = ww at w0 w1
          omega
        omega
      generalize ((y + 98269 * (z + 1) * (z + 1) + 439) ^ Int.toNat 3) = big
      have b0 := Int.emod_nonneg big (show pr ≠ 0 by omega)
      have b1 := Int.emod_lt_of_pos big hp0
      refine ⟨.int (big % pr), rfl, .int (big % pr), rfl, .inl ⟨_, rfl, _, _, rfl, rfl, (by show (0 : Int) < 10039; decide), .ref a, rfl, a, _, 2, .int (z + 1), rfl, rfl, hS3, rfl, _, _, rfl, rfl, .inl ⟨by decide, by decide⟩, _, _, rfl, rfl,
        _, _, rfl, rfl, .inl ⟨by omega, by omega⟩, .inl ⟨_, rfl, _, _, rfl, rfl, (by show (0 : Int) < 2305843009213693907; decide), ?_⟩⟩⟩
      refine ⟨_, rfl, _, _, rfl, rfl, ⟨by decide, by decide⟩, .inl ⟨_, rfl, .int u, rfl, _, _, rfl, rfl, hu0, ?_⟩⟩
      exact q _ _ (Int.emod_nonneg _ (by omega)) (Int.emod_lt_of_pos _ hu0) s4 ⟨⟨x, y, z + 1, e3, hx, hy, hy1, by omega, by omega⟩⟩
theorem ok_of {f fT : Addr} {fd fdT : FuncData} {k : Nat} (F : Fun K "_law_of" "_law_of" sOf f fd) (B : Blt mg) (GT : FnOk P w K mg base CX0 k fT fdT ["pot", "upto"] spTake) (gT : mg "_law_take" = some (.ref fT)) (kT : PySem.W.keepIn K (.ref fT) = true) (bT : Binds K fdT ["pot", "upto"] []) :
    FnOk P w K mg base CX0 (k + 1) f fd ["pot", "some"] (spOf K) := by
  refine F.ok scOf (fun vs H Q E h => ?_) (fun cdv A outer s H vs Q E hr h => ?_)
  · obtain ⟨a, b, xs, N, rfl, _⟩ := h
    rfl
  · obtain ⟨a, b, xs, N, rfl, hP, hN, hS, hab, h0, h1, q⟩ := h
    refine ⟨_, pss_one (ps_ret (pe_ix ix_list (pv 1) (pe_call GT hr (by rfl) gT kT bT .nil pass0 (pa_cons (pv 0) (pa_cons (pe_callB call_len_seq (by rfl) B.len PySem.boot_len (pa_cons (pv 1) pa_nil)) pa_nil))) (fun _ _ => rfl))), ?_⟩
    refine ⟨.ref b, rfl, .ref a, rfl, .ref b, rfl, b, xs, rfl, .inl hS, a, (xs.length : Int), N, rfl, hP, hN, by omega, by omega, fun r H' r0 r1 sx hP' => ?_⟩
    have hj : r.toNat < xs.length := by omega
    have hS' : SqL K H' b xs := by
      rcases hS with (h | ⟨o, h⟩) | h
      · exact .inl (.inl (sx _ _ (Ne.symm hab) h))
      · exact .inl (.inr ⟨o, sx _ _ (Ne.symm hab) h⟩)
      · exact .inr h
    refine ⟨b, xs, r, xs[r.toNat], rfl, rfl, hS', ?_, q r.toNat _ H' (List.getElem?_eq_getElem hj) sx hP'⟩
    exact at_of (j := r.toNat) (by omega) (List.getElem?_eq_getElem hj)
theorem ok_cells {f : Addr} {fd : FuncData} {k : Nat} (F : Fun K "_law_cells" "_law_cells" sCells f fd) (B : Blt mg) : FnOk P w K mg base CX0 (k + 1) f fd ["script", "most"] (spCells K) := by
  refine F.ok scCells (fun vs H Q E h => ?_) (fun cdv A outer s H vs Q E hr h => ?_)
  · obtain ⟨a, xs, m, rfl, _⟩ := h
    rfl
  · obtain ⟨a, xs, m, rfl, hS, hl, h0, h1, q⟩ := h
    refine ⟨_, pss_one (ps_ret (pe_listRg rfl (by rfl) B.list (prg_1 (by rfl) B.range (pe_callB (call_max2 rfl) (by rfl) B.max PyProof.Rows.boot_max (pa_cons pe_int (pa_cons
      (pe_callB (call_min2 rfl) (by rfl) B.min PyProof.Rows.boot_min (pa_cons (pv 1) (pa_cons (pe_callB call_len_seq (by rfl) B.len PySem.boot_len (pa_cons (pv 0) pa_nil)) pa_nil))) pa_nil)))))), ?_⟩
    refine ⟨.int m, rfl, .ref a, rfl, a, xs, rfl, .inl hS, _, _, rfl, _, _, rfl, _, rfl, ?_⟩
    have key : ∀ v : Int, 0 < v → v ≤ m → v ≤ 1000 → RgOk 0 v ∧ ∀ p, H p = none → Q (.ref p) (upd H p (.lst (rgV 0 v))) := fun v v0 v1 v2 => ⟨.of_le (by omega) (by omega) (by omega) (by omega), fun p hp => by
      refine q v.toNat p _ (by omega) (by omega) (same_upd hp) hp ?_
      rw [upd_same]
      unfold rgV
      rw [Int.sub_zero]
      refine congrArg (fun l => some (HO.lst l)) (List.map_congr_left fun i _ => ?_)
      rw [Int.zero_add]⟩
    refine key _ ?_ ?_ ?_
    all_goals (repeat' split) <;> omega
end
end Hw

set_option Elab.async false
set_option linter.all false
set_option maxRecDepth 100000
namespace Hw
open PySem L2 PyProof.Rows
/-- of six letters only one end is known -/
def six (z : Str) : Prop := z.length = 6 → z.cps.toList.drop 2 = [97, 99, 101, 115]
instance (z : Str) : Decidable (six z) := by unfold six; exact inferInstance
/-- a name as it is drawn -/
def NmX (z : Str) : Prop := (1 ≤ z.length ∧ six z) ∧ z.length ≤ 8 ∧ ∀ c ∈ z.cps.toList, 97 ≤ c ∧ c ≤ 122
instance (z : Str) : Decidable (NmX z) := by unfold NmX; exact inferInstance
theorem cand_nmX {w : Str} (h : NmX w) {k : Nat} (hk : k ≤ 676) : NmX (cand w k) := by
  have h0 := cand_nm (w := w) ⟨h.1.1, h.2.1, h.2.2⟩ hk
  refine ⟨⟨h0.1, fun h6 => ?_⟩, h0.2.1, h0.2.2⟩
  rw [cand_drop]
  refine h.1.2 ?_
  cases k with
  | zero => exact h6
  | succ k =>
    have e : (cand w (k + 1)).cps.toList = [97 + k / 26, 97 + k % 26] ++ w.cps.toList.drop 2 := SL_cps _
    have l : (cand w (k + 1)).length = 2 + (w.length - 2) := by
      rw [len_cps, e, List.length_append, List.length_drop, ← len_cps]; rfl
    omega
end Hw

set_option Elab.async false
set_option linter.all false
set_option maxRecDepth 100000
set_option maxHeartbeats 4000000
namespace Hw
open PySem L2 PyProof.Rows
abbrev sNames : Stmt := topS 25
theorem valV_seen {ns : List Str} (w : Str) : valV (ns.map fun z => ((Sum.inr z : Key), V.bl true)) (Sum.inr w) = if w ∈ ns then some (V.bl true) else none := by
  induction ns with
  | nil => exact valV_nil
  | cons z ns ih =>
    rw [List.map_cons]
    by_cases h : z = w
    · subst h
      rw [valV_pos rfl, if_pos List.mem_cons_self]
    · rw [valV_neg (fun e => h (Sum.inr.inj e)), ih]
      by_cases hm : w ∈ ns
      · rw [if_pos hm, if_pos (List.mem_cons_of_mem _ hm)]
      · rw [if_neg hm, if_neg (fun e => by rcases List.mem_cons.mp e with rfl | e; exact h rfl; exact hm e)]
theorem rs_while {c : TT} {tb u : TS} {D : Ends} {σ : L2.St} {H : Hp} (Pv : L2.St → Hp → Prop) (μ : L2.St → Hp → Nat) (h0 : Pv σ H)
    (hs : ∀ σ H, Pv σ H → ∃ b : Bool, (∀ Q : Bool → Hp → Prop, Q b H → c σ H Q) ∧ (b = true → tb { D with nx := fun σ' H' => Pv σ' H' ∧ μ σ' H' < μ σ H, ct := fun σ' H' => Pv σ' H' ∧ μ σ' H' < μ σ H, bk := u D } σ H) ∧ (b = false → u D σ H)) :
    tSeq (tWhile c tb) u D σ H := by
  refine ⟨fun m σ H => m = μ σ H ∧ Pv σ H, ⟨_, rfl, h0⟩, ?_⟩
  rintro m σ H ⟨rfl, p⟩
  obtain ⟨b, hc, h1, h2⟩ := hs σ H p
  refine hc _ ?_
  cases b with
  | true => exact ⟨_, fun σ' H' ⟨p', l⟩ => ⟨_, l, rfl, p'⟩, h1 rfl⟩
  | false => exact h2 rfl
def at7 (σ : L2.St) : Nat := match σ[7]? with
  | some (some (V.int k)) => (400 - k).toNat
  | _ => 0
theorem cut2 (w : Str) : cutS w (some 2) none = SL (w.cps.toList.drop 2) := by
  unfold cutS SL
  rw [show HT.sIx w.length 0 (some 2) = min 2 w.length from HT.sIx_nat w.length 0 2, HT.sIx_none]
  refine congrArg (fun l : List Nat => (⟨l.toArray⟩ : Str)) ?_
  rw [len_cps]
  have e : w.cps.toList.drop (min 2 w.cps.toList.length) = w.cps.toList.drop 2 := by
    by_cases h : 2 ≤ w.cps.toList.length
    · rw [Nat.min_eq_left h]
    · rw [Nat.min_eq_right (by omega), List.drop_of_length_le (Nat.le_refl _), List.drop_of_length_le (by omega)]
  rw [e]
  refine List.take_of_length_le ?_
  rw [List.length_drop]; omega
theorem cand_succ (w : Str) (k : Nat) : (SL [97 + k / 26] ++ SL [97 + k % 26]) ++ cutS (cand w k) (some 2) none = cand w (k + 1) := by
  refine str_ext ?_
  rw [app_cps, app_cps, cut2, cand_drop]; rfl
def wordsD : List V := [.str "places", .str "tie", .str "come", .str "die", .str "ring", .str "all", .str "least"]
theorem words_nm : ∀ v ∈ wordsD, ∃ z, v = V.str z ∧ NmX z := by
  intro v hv
  simp only [wordsD, List.mem_cons, List.not_mem_nil, or_false] at hv
  rcases hv with rfl | rfl | rfl | rfl | rfl | rfl | rfl <;> exact ⟨_, rfl, by decide +kernel⟩
def fewD : List V := [.int 0, .int 1, .int 1, .int 2, .int 7]
theorem few_int : ∀ v ∈ fewD, ∃ x : Nat, v = V.int (x : Int) ∧ x ≤ 7 ∧ x ≠ 5 := by
  intro v hv
  simp only [fewD, List.mem_cons, List.not_mem_nil, or_false] at hv
  rcases hv with rfl | rfl | rfl | rfl | rfl
  · exact ⟨0, rfl, by decide, by decide⟩
  · exact ⟨1, rfl, by decide, by decide⟩
  · exact ⟨1, rfl, by decide, by decide⟩
  · exact ⟨2, rfl, by decide, by decide⟩
  · exact ⟨7, rfl, by decide, by decide⟩
/-- one of the signs of a text, or of the items of a list -/
def spOfS : Sp := fun vs H Q _ => ∃ (a : Addr) (z : Str) (N : Nat), vs = [.ref a, .str z] ∧ Pot H a N ∧ N < 1000000000 ∧ 0 < z.length ∧ z.length < 1000 ∧ ∀ c H', c ∈ z.cps.toList → SameX a H H' → Pot H' a (N + 1) → Q (.str (SL [c])) H'
def spOf2 (K : PySem.W.Frag) : Sp := fun vs H Q E => spOf K vs H Q E ∨ spOfS vs H Q E
/-- many unlike names -/
def spNames : Sp := fun vs H Q _ => ∃ (a : Addr) (m N : Nat), vs = [.ref a, .int m] ∧ Pot H a N ∧ N + 11 * m < 900000000 ∧ m ≤ 300 ∧
  ∀ p (ns : List Str) H', ns.length = m → ns.Nodup → (∀ z ∈ ns, NmX z) → SameX a H H' → H p = none → H' p = some (.lst (ns.map V.str)) → Pot H' a (N + 11 * m) → Q (.ref p) H'
section
variable {P : Program} {w : World} {K : PySem.W.Frag} {mg : Str → Option Value} {base : Heap}
theorem ok_of2 {f fT : Addr} {fd fdT : FuncData} {k : Nat} (F : Fun K "_law_of" "_law_of" sOf f fd) (B : Blt mg) (GT : FnOk P w K mg base CX0 k fT fdT ["pot", "upto"] spTake) (gT : mg "_law_take" = some (.ref fT)) (kT : PySem.W.keepIn K (.ref fT) = true) (bT : Binds K fdT ["pot", "upto"] []) :
    FnOk P w K mg base CX0 (k + 1) f fd ["pot", "some"] (spOf2 K) := by
  refine F.ok scOf (fun vs H Q E h => ?_) (fun cdv A outer s H vs Q E hr h => ?_)
  · rcases h with h | h
    · obtain ⟨a, b, xs, N, rfl, _⟩ := h
      rfl
    · obtain ⟨a, z, N, rfl, _⟩ := h
      rfl
  · refine ⟨_, pss_one (ps_ret (pe_ix (ix_list.or ix_str) (pv 1) (pe_call GT hr (by rfl) gT kT bT .nil pass0 (pa_cons (pv 0) (pa_cons (pe_callB (call_len_seq.or call_len_str) (by rfl) B.len PySem.boot_len (pa_cons (pv 1) pa_nil)) pa_nil))) (fun _ _ => rfl))), ?_⟩
    rcases h with ⟨a, b, xs, N, rfl, hP, hN, hS, hab, h0, h1, q⟩ | ⟨a, z, N, rfl, hP, hN, h0, h1, q⟩
    · refine ⟨.ref b, rfl, .ref a, rfl, .ref b, rfl, .inl ⟨b, xs, rfl, .inl hS, a, (xs.length : Int), N, rfl, hP, hN, by omega, by omega, fun r H' r0 r1 sx hP' => ?_⟩⟩
      have hj : r.toNat < xs.length := by omega
      have hS' : SqL K H' b xs := by
        rcases hS with (h | ⟨o, h⟩) | h
        · exact .inl (.inl (sx _ _ (Ne.symm hab) h))
        · exact .inl (.inr ⟨o, sx _ _ (Ne.symm hab) h⟩)
        · exact .inr h
      refine .inl ⟨b, xs, r, xs[r.toNat], rfl, rfl, hS', ?_, q r.toNat _ H' (List.getElem?_eq_getElem hj) sx hP'⟩
      exact at_of (j := r.toNat) (by omega) (List.getElem?_eq_getElem hj)
    · refine ⟨.str z, rfl, .ref a, rfl, .str z, rfl, .inr ⟨z, rfl, Nat.le_of_lt (small1000 (by omega)), a, (z.length : Int), N, rfl, hP, hN, by omega, by omega, fun r H' r0 r1 sx hP' => ?_⟩⟩
      have hj : r.toNat < z.cps.toList.length := by rw [← len_cps]; omega
      refine .inr ⟨z, r, z.cps.toList[r.toNat], rfl, rfl, Nat.le_of_lt (small1000 (by omega)), ?_, q _ H' (List.getElem_mem hj) sx hP'⟩
      have hh := atI_nat (List.getElem?_eq_getElem hj)
      rw [Int.toNat_of_nonneg r0] at hh
      exact hh
theorem lc_range {g : TG} {tt : TT} {te : TE} {vs : List Nat} {σ : L2.St} {H1 : Hp} {D : Addr} {Qd : Hp → Prop} (n : Nat) (Pv : Nat → Hp → Prop) (h0 : Pv 0 (upd H1 D (.lst [])))
    (hs : ∀ i H, i < n → Pv i H → g (.int (0 + (i : Int))) (wipe σ vs) H fun σ2 H2 => wipe σ2 vs = wipe σ vs ∧ tt σ2 H2 fun b H3 => if b = true then te σ2 H3 fun y H4 => ∃ acc, H4 D = some (.lst acc) ∧ acc.length < sizeLine ∧ Pv (i + 1) (upd H4 D (.lst (acc ++ [y]))) else Pv (i + 1) H3)
    (hd : ∀ H, Pv n H → Qd H) : ∃ W : Nat → Nat → Hp → Prop, (∃ m, W 0 m (upd H1 D (.lst []))) ∧ ∀ i m H, W i m H →
      ((Itr 0 n).stop i H ∧ Qd H) ∨ ((Itr 0 n).go i H ∧ ∃ Nx : Hp → Prop, (∀ H', Nx H' → ∃ m', m' < m ∧ W (i + 1) m' H') ∧ ∀ x H', (Itr 0 n).yld i H x H' → g x (wipe σ vs) H' fun σ2 H2 => wipe σ2 vs = wipe σ vs ∧ tt σ2 H2 fun b H3 =>
        if b = true then te σ2 H3 fun y H4 => ∃ acc, H4 D = some (.lst acc) ∧ acc.length < sizeLine ∧ Nx (upd H4 D (.lst (acc ++ [y]))) else Nx H3) :=
  lc_it (walk_range (lo := 0) (n := n)) Pv h0 (fun _ _ _ _ => trivial) (fun i x H H' hi hp ⟨e1, e2⟩ => by subst e1 e2; exact hs i _ hi hp) hd
def nN : List Str := ["pot", "many", "signs", "found", "known", "lap", "word", "at", "sign"]
theorem scNames : FnScope ["pot", "many", "signs", "found", "known", "lap", "word", "at", "sign"] ["pot", "many"] (defScope sNames) := ⟨rfl, rfl, rfl, by decide +kernel, rfl, by decide +kernel, by decide +kernel⟩
theorem ok_names {f fT fO : Addr} {fd fdT fdO : FuncData} {k : Nat} (F : Fun K "_law_names" "_law_names" sNames f fd) (B : Blt mg) (GT : FnOk P w K mg base CX0 k fT fdT ["pot", "upto"] spTake) (gT : mg "_law_take" = some (.ref fT)) (kT : PySem.W.keepIn K (.ref fT) = true) (bT : Binds K fdT ["pot", "upto"] [])
    (GO : FnOk P w K mg base CX0 k fO fdO ["pot", "some"] (spOf2 K)) (gO : mg "_law_of" = some (.ref fO)) (kO : PySem.W.keepIn K (.ref fO) = true) (bO : Binds K fdO ["pot", "some"] []) :
    FnOk P w K mg base CX0 (k + 1) f fd ["pot", "many"] spNames := by
  refine F.ok scNames (fun vs H Q E h => ?_) (fun cdv A outer s H vs Q E hr h => ?_)
  · obtain ⟨a, m, N, rfl, _⟩ := h
    rfl
  · obtain ⟨a, m, N, rfl, hP, hN, hm, q⟩ := h
    have hu := hu_of hr
    refine ⟨_, pss_cons (ps_asg (pe_tup (pa_cons pe_str (pa_cons (pe_lst pa_nil) (pa_cons pe_dnewK pa_nil)))) (pg_tup rfl (pgs_cons (pg_name (i := 2) scNames.nd rfl (.inr rfl)) (pgs_cons (pg_name (i := 3) scNames.nd rfl (.inl rfl)) (pgs_cons (pg_name (i := 4) scNames.nd rfl (.inl rfl)) pgs_nil)))))
      (pss_cons (ps_for PassesOwn.never rfl (pi_range1 (by rfl) B.range (pa_cons (pv 1) pa_nil)) (pg_name (i := 5) scNames.nd rfl (.inl rfl))
        (pss_cons (ps_set (i := 6) scNames.nd rfl (.inl rfl) (pe_join pe_str (pe_lc (own := [("sign", 8)]) (g := gName 8) (tt := tYes) rfl scNames.nd
            (pi_range1 (by rfl) B.range (pa_cons (pe_op op_add pe_int (pe_call GO hr (by rfl) gO kO bO .nil pass0 (pa_cons (pv 0) (pa_cons (pe_lst (pa_cons pe_int (pa_cons pe_int (pa_cons pe_int (pa_cons pe_int (pa_cons pe_int pa_nil)))))) pa_nil)))) pa_nil))
            (blkOk_by (N := ["pot", "many", "signs", "found", "known", "lap", "word", "at", "sign"]) (sc := defScope sNames) (by decide +kernel)) (fun _ _ _ _ _ => pg_name (i := 8) scNames.nd rfl (Or.inl rfl)) (fun _ _ _ _ _ => pts_nil)
            (fun _ _ _ _ _ => pe_call GO hr (by rfl) gO kO bO .nil pass0 (pa_cons (pv 0) (pa_cons (pv 2) pa_nil))))))
        (Evl.pss_cut (ps_if (pt_cmpR op_eq (pe_call GT hr (by rfl) gT kT bT .nil pass0 (pa_cons (pv 0) (pa_cons pe_int pa_nil))) pe_int (nomark _))
            (pss_one (ps_set (i := 6) scNames.nd rfl (.inl rfl) (pe_call GO hr (by rfl) gO kO bO .nil pass0 (pa_cons (pv 0) (pa_cons (pe_lst (pa_cons pe_str (pa_cons pe_str (pa_cons pe_str (pa_cons pe_str (pa_cons pe_str (pa_cons pe_str (pa_cons pe_str pa_nil)))))))) pa_nil))))) pss_nil)
        (pss_cons (ps_set (i := 7) scNames.nd rfl (.inl rfl) pe_int)
        (pss_cons (ps_while PassesOwn.never (pt_cmp (pc_din hu (pv 6) (pv 4)))
            (pss_one (ps_par (i := 6) (j := 7) rfl scNames.nd rfl rfl (by decide) rfl rfl (pa_cons (pe_op op_add_str (pe_op op_add_str (pe_ix ix_str (pv 2) (pe_op op_fdiv (pv 7) pe_int) (fun _ _ => rfl)) (pe_ix ix_str (pv 2) (pe_op op_mod (pv 7) pe_int) (fun _ _ => rfl))) (pe_slice sl_str (pv 6) (po_some pe_int) po_none))
              (pa_cons (pe_op op_add (pv 7) pe_int) pa_nil)) rfl)))
        (pss_cons (ps_dput hu (pv 4) (pv 6) pe_bl rfl)
        (pss_one (ps_expr (pe_bm PySem.F.plainAttrs_list PySem.F.slot_list_append PySem.F.type_list_append mt_append (pv 3) (pa_cons (pv 6) pa_nil))))))))))
      (pss_one (ps_ret (pv 3)))), ?_⟩
    have hPn := hP.some
    refine ⟨Nat.zero_le _, fun fo nfo d nd => ⟨by show 3 ≤ sizeLine; decide, fun tp ntp => ?_⟩⟩
    have nfd : fo ≠ d := ne_of_none upd_same nd
    have e1 : (upd (upd (upd H fo (.lst [])) d (.dK [])) tp (.tup [.str (Str.ofString "abcdefghijklmnopqrstuvwxyz"), .ref fo, .ref d])) fo = some (.lst []) := by
      rw [upd_ne (ne_of_none (by rw [upd_ne nfd, upd_same]) ntp), upd_ne nfd, upd_same]
    have e2 : (upd (upd (upd H fo (.lst [])) d (.dK [])) tp (.tup [.str (Str.ofString "abcdefghijklmnopqrstuvwxyz"), .ref fo, .ref d])) d = some (.dK []) := by
      rw [upd_ne (ne_of_none upd_same ntp), upd_same]
    have s1 : Same H (upd (upd (upd H fo (.lst [])) d (.dK [])) tp (.tup [.str (Str.ofString "abcdefghijklmnopqrstuvwxyz"), .ref fo, .ref d])) := ((same_upd nfo).trans (same_upd nd)).trans (same_upd ntp)
    refine ⟨tp, [.str alpha, .ref fo, .ref d], rfl, sqt_of upd_same, rfl, _, [.ref fo, .ref d], rfl, _, [.ref d], rfl, _, [], rfl, rfl, ?_⟩
    generalize (upd (upd (upd H fo (.lst [])) d (.dK [])) tp (.tup [.str (Str.ofString "abcdefghijklmnopqrstuvwxyz"), .ref fo, .ref d])) = H1 at e1 e2 s1
    have nd0 : H d = none := (same_upd nfo).free nd
    -- the laps
    refine ⟨.int m, rfl, m, rfl, by omega, by omega, for_range (n := (m : Int).toNat) (fun i σ' H' => ∃ o5 o6 o7 o8 ns, σ' = [some (.ref a), some (.int m), some (.str alpha), some (.ref fo), some (.ref d), o5, o6, o7, o8] ∧ SameX a H H' ∧ Pot H' a (N + 11 * i) ∧
      H' fo = some (.lst (ns.map V.str)) ∧ H' d = some (.dK (ns.map fun z => ((Sum.inr z : Key), V.bl true))) ∧ ns.length = i ∧ ns.Nodup ∧ ∀ z ∈ ns, NmX z)
      ⟨_, _, _, _, [], rfl, .of s1, hP.same s1, e1, e2, rfl, List.nodup_nil, fun _ z => nomatch z⟩ ?_ ?_⟩
    · rintro i σ1 H2 hi ⟨o5, o6, o7, o8, ns, rfl, sx, hp, hfo, hd, hl, hnd, hnm⟩
      refine r_gname ?_
      have hdn : d ≠ fo := Ne.symm nfd
      have hda : d ≠ a := fun e => hPn (e ▸ nd0)
      have hfa : fo ≠ a := fun e => hPn (e ▸ nfo)
      have hi' : i < m := by omega
      -- ''.join([..])
      refine rs_set ⟨⟨_, rfl⟩, .ref a, rfl, by show 5 ≤ sizeLine; decide, fun l nl => .inl ⟨a, l, fewD, N + 11 * i, rfl, hp.same (same_upd nl), by omega, sql_of upd_same, fun e => hp.some (e ▸ nl), by decide, by decide, fun ix v H3 hv s3 hp3 => ?_⟩⟩
      obtain ⟨x, rfl, hx, hx5⟩ := few_int v (List.mem_of_getElem? hv)
      have sx3 : SameX a H2 H3 := (SameX.of (same_upd nl)).trans s3
      refine ⟨_, _, rfl, rfl, _, rfl, by omega, by omega, fun D hD => ?_⟩
      refine Hw.lc_range (1 + (x : Int)).toNat (fun j H' => ∃ cs : List Nat, cs.length = j ∧ (∀ c ∈ cs, 97 ≤ c ∧ c ≤ 122) ∧ H' D = some (.lst (cs.map fun c => V.str (SL [c]))) ∧ SameX a H3 H' ∧ Pot H' a (N + 11 * i + 1 + j))
        ⟨[], rfl, fun _ z => (by cases z), upd_same, .of (same_upd hD), hp3.same (same_upd hD)⟩ ?_ ?_
      · rintro j H4 hj ⟨cs, rfl, hcs, eD, sx4, hp4⟩
        refine ⟨rfl, r_yes ?_⟩
        refine ⟨.ref a, rfl, .str alpha, rfl, .inr ⟨a, alpha, _, rfl, hp4, by omega, by decide +kernel, by decide +kernel, fun c H5 hc s5 hp5 => ?_⟩⟩
        have hDa : D ≠ a := fun e => hp3.some (e ▸ hD)
        refine ⟨_, s5 _ _ hDa eD, small1000 (by rw [List.length_map]; omega), cs ++ [c], by rw [List.length_append]; rfl, fun z hz => ?_, ?_, fun b o hb e => ?_, ?_⟩
        · rcases List.mem_append.mp hz with hz | hz
          · exact hcs z hz
          · rw [List.mem_singleton.mp hz]; exact alpha_mem c hc
        · rw [upd_same, List.map_append]; rfl
        · rw [upd_ne (ne_of_none e hD)]; exact s5 _ _ hb (sx4 _ _ hb e)
        · obtain ⟨xx, yy, zz, e, hh⟩ := hp5.ex
          exact ⟨xx, yy, zz, by rw [upd_ne (Ne.symm hDa)]; exact e, hh⟩
      rintro H4 ⟨cs, hcl, hcs, eD, sx4, hp4⟩
      have hw0 : NmX (Txt.join (Str.ofString "") (cs.map fun c => SL [c])) := by
        have e := ones_join cs
        have l : (Txt.join (Str.ofString "") (cs.map fun c => SL [c])).length = cs.length := by rw [len_cps, e]
        exact ⟨⟨by omega, fun h6 => absurd h6 (by omega)⟩, by omega, by rw [e]; exact hcs⟩
      refine ⟨Str.ofString "", D, cs.map fun c => SL [c], rfl, rfl, .inl (sql_of (by rw [eD, List.map_map]; rfl)), ?_, ?_⟩
      · have e : ((cs.map fun c => SL [c]).map (·.length)).sum = cs.length := by
          rw [List.map_map]
          clear hcl hcs eD hw0
          induction cs with
          | nil => rfl
          | cons c cs ih => rw [List.map_cons, List.sum_cons, ih, List.length_cons]; show 1 + cs.length = cs.length + 1; omega
        rw [e, List.length_map]
        show cs.length + cs.length * 0 ≤ 16777216
        omega
      generalize (Txt.join (Str.ofString "") (cs.map fun c => SL [c])) = w0 at hw0
      have sx24 : SameX a H2 H4 := sx3.trans sx4
      -- if _law_take(pot, 17) == 0
      refine ⟨fun σ' H' => ∃ w o7 o8, NmX w ∧ σ' = [some (.ref a), some (.int m), some (.str alpha), some (.ref fo), some (.ref d), some (.int (0 + (i : Int))), some (.str w), o7, o8] ∧ SameX a H2 H' ∧ Pot H' a (N + 11 * (i + 1)), ?_, ?_⟩
      · refine ⟨.ref a, rfl, a, 17, _, rfl, hp4, by omega, by decide, by decide, fun r H5 r0 r1 s5 hp5 => ⟨rfl, _, rfl, ite2 (fun _ => ?_) (fun _ => ?_)⟩⟩
        · refine ⟨.ref a, rfl, by show 7 ≤ sizeLine; decide, fun l2 nl2 => .inl ⟨a, l2, wordsD, _, rfl, hp5.same (same_upd nl2), by omega, sql_of upd_same, fun e => hp5.some (e ▸ nl2), by decide, by decide, fun ix2 v2 H6 hv2 s6 hp6 => ?_⟩⟩
          obtain ⟨z, rfl, hz⟩ := words_nm v2 (List.mem_of_getElem? hv2)
          exact ⟨z, _, _, hz, rfl, (sx24.trans s5).trans ((SameX.of (same_upd nl2)).trans s6), hp6.mono (by omega)⟩
        · exact ⟨w0, _, _, hw0, rfl, sx24.trans s5, hp5.mono (by omega)⟩
      rintro σ5 H5 ⟨w, o7', o8', hw, rfl, sx5, hp5⟩
      have hfo5 := sx5 _ _ hfa hfo
      have hd5 := sx5 _ _ hda hd
      -- at = 0; while word in known
      refine rs_set ?_
      refine rs_while (fun σ' H' => H' = H5 ∧ ∃ kk : Nat, σ' = [some (.ref a), some (.int m), some (.str alpha), some (.ref fo), some (.ref d), some (.int (0 + (i : Int))), some (.str (cand w kk)), some (.int kk), o8'] ∧ ∀ j, j < kk → cand w j ∈ ns)
        (fun σ' _ => at7 σ') ⟨rfl, 0, rfl, fun _ z => absurd z (Nat.not_lt_zero _)⟩ ?_
      rintro σ6 H6 ⟨rfl, kk, rfl, hkk⟩
      have hfew := cand_few hkk
      refine ⟨(valV (ns.map fun z => ((Sum.inr z : Key), V.bl true)) (Sum.inr (cand w kk))).isSome, fun Q1 q1 => ⟨_, rfl, _, rfl, d, _, rfl, DGet.k (k := Sum.inr (cand w kk)) hd5, _, rfl, q1⟩, fun hin => ?_, fun hout => ?_⟩
      · have hmem : cand w kk ∈ ns := by
          by_cases h : cand w kk ∈ ns
          · exact h
          · rw [valV_seen, if_neg h] at hin; cases hin
        have a1 := alpha_at (kk / 26) (by omega)
        have a2 := alpha_at (kk % 26) (by omega)
        have lw := (cand_nmX hw (k := kk) (by omega)).2.1
        refine ⟨_, rfl, _, rfl, _, _, rfl, rfl, ⟨by decide, by decide⟩, alpha, _, 97 + kk / 26, rfl, rfl, by decide +kernel, ?_, _, rfl, _, rfl, _, _, rfl, rfl, (by show (0 : Int) < 26; decide), alpha, _, 97 + kk % 26, rfl, rfl, by decide +kernel, ?_, _, _, rfl, rfl, (by show 1 + 1 ≤ sizeLine; decide), ?_⟩
        · have e : ((kk : Int) / 26) = ((kk / 26 : Nat) : Int) := by omega
          rw [e]; exact atI_nat a1
        · have e : ((kk : Int) % 26) = ((kk % 26 : Nat) : Int) := by omega
          rw [e]; exact atI_nat a2
        refine ⟨_, rfl, 2, rfl, cand w kk, rfl, Nat.le_of_lt (small1000 (by omega)), _, _, rfl, rfl, ?_, ?_⟩
        · rw [app_len, cut2, SL_len, List.length_drop, ← len_cps]
          refine Nat.le_of_lt (small1000 ?_)
          show 1 + 1 + _ ≤ 1000
          omega
        · refine ⟨_, rfl, _, _, rfl, rfl, _, _, rfl, ⟨rfl, kk + 1, ?_, ?_⟩, ?_⟩
          · rw [← cand_succ]; rfl
          · intro j hj
            by_cases e : j = kk
            · rw [e]; exact hmem
            · exact hkk j (by omega)
          · show (400 - ((kk : Int) + 1)).toNat < (400 - (kk : Int)).toNat
            omega
      · have hno : cand w kk ∉ ns := fun h => by
          rw [valV_seen, if_pos h] at hout; cases hout
        have hlen : (ns.map fun z => ((Sum.inr z : Key), V.bl true)).length < sizeLine := small1000 (by rw [List.length_map]; omega)
        -- known[word] = True; found.append(word)
        refine ⟨.ref d, rfl, _, rfl, d, _, rfl, DPut.k (k := Sum.inr (cand w kk)) hd5 hlen, ?_⟩
        have hv : valV (ns.map fun z => ((Sum.inr z : Key), V.bl true)) (Sum.inr (cand w kk)) = none := by rw [valV_seen, if_neg hno]
        have efo : (upd H6 d (.dK (putK (ns.map fun z => ((Sum.inr z : Key), V.bl true)) (Sum.inr (cand w kk)) (V.bl true)))) fo = some (.lst (ns.map V.str)) := by rw [upd_ne (Ne.symm hdn)]; exact hfo5
        refine ⟨.ref fo, rfl, .inl ⟨rfl, _, sql_of efo⟩, _, rfl, fo, _, _, rfl, rfl, efo, small1000 (by rw [List.length_map]; omega), ?_⟩
        refine ⟨_, _, _, _, ns ++ [cand w kk], rfl, fun b o hb e => ?_, ?_, ?_, ?_, ?_, ?_, ?_⟩
        · have n1 : b ≠ fo := ne_of_none e nfo
          have n2 : b ≠ d := ne_of_none e nd0
          rw [upd_ne n1, upd_ne n2]
          exact sx5 _ _ hb (sx _ _ hb e)
        · obtain ⟨xx, yy, zz, e, hh⟩ := hp5.ex
          exact ⟨xx, yy, zz, by rw [upd_ne (Ne.symm hfa), upd_ne (Ne.symm hda)]; exact e, hh⟩
        · rw [upd_same, List.map_append]; rfl
        · rw [upd_ne hdn, upd_same, putK_new _ hv, List.map_append]; rfl
        · rw [List.length_append, hl]; rfl
        · rw [List.nodup_append]
          exact ⟨hnd, by simp, fun x hx y hy e => hno (by rw [List.mem_singleton.mp hy] at e; exact e ▸ hx)⟩
        · intro z hz
          rcases List.mem_append.mp hz with hz | hz
          · exact hnm z hz
          · rw [List.mem_singleton.mp hz]; exact cand_nmX hw (by omega)
    · rintro σ1 H2 ⟨o5, o6, o7, o8, ns, rfl, sx, hp, hfo, hd, hl, hnd, hnm⟩
      have em : (m : Int).toNat = m := Int.toNat_natCast m
      rw [em] at hp hl
      exact ⟨_, rfl, q fo ns H2 hl hnd hnm sx nfo hfo hp⟩
end
end Hw

set_option Elab.async false
set_option linter.all false
set_option maxRecDepth 100000
set_option maxHeartbeats 4000000
namespace Hw
open PySem L2 PyProof.Rows
abbrev sTie : Stmt := topS 26
def tieOf (a b : Str) : Tie := (if strLt b a = true then b else a, if strLt a b = true then b else a)
def spTie : Sp := fun vs H Q _ => ∃ a b : Str, vs = [.str a, .str b] ∧ ∀ p, H p = none → Q (.ref p) (upd H p (.tup [.str (tieOf a b).1, .str (tieOf a b).2]))
section
variable {P : Program} {w : World} {K : PySem.W.Frag} {mg : Str → Option Value} {base : Heap}
theorem scTie : FnScope ["one", "other"] ["one", "other"] (defScope sTie) := ⟨rfl, rfl, rfl, by decide +kernel, rfl, by decide +kernel, by decide +kernel⟩
theorem ok_tie {f : Addr} {fd : FuncData} {k : Nat} (F : Fun K "_law_tie" "_law_tie" sTie f fd) (B : Blt mg) : FnOk P w K mg base CX0 (k + 1) f fd ["one", "other"] spTie := by
  refine F.ok scTie (fun vs H Q E h => ?_) (fun cdv A outer s H vs Q E hr h => ?_)
  · obtain ⟨a, b, rfl, _⟩ := h
    rfl
  · obtain ⟨a, b, rfl, q⟩ := h
    refine ⟨_, pss_one (ps_ret (pe_tup (pa_cons (pe_callB (call_minS rfl) (by rfl) B.min PyProof.Rows.boot_min (pa_cons (pv 0) (pa_cons (pv 1) pa_nil))) (pa_cons (pe_callB (call_maxS rfl) (by rfl) B.max PyProof.Rows.boot_max (pa_cons (pv 0) (pa_cons (pv 1) pa_nil))) pa_nil)))), ?_⟩
    exact ⟨.str a, rfl, .str b, rfl, a, b, rfl, .str a, rfl, .str b, rfl, a, b, rfl, by show 2 ≤ sizeLine; decide, fun p hp => q p hp⟩

def encT (ts : List Tie) : List (List Key × V) := ts.map fun t => (([Sum.inr t.1, Sum.inr t.2] : List Key), V.bl true)
theorem encT_any (ts : List Tie) (t : Tie) : ((encT ts).any fun kv => decide (kv.1 = ([Sum.inr t.1, Sum.inr t.2] : List Key))) = decide (t ∈ ts) := by
  rw [encT, List.any_map, Bool.eq_iff_iff, List.any_eq_true, decide_eq_true_iff]
  constructor
  · rintro ⟨u, hu, e⟩
    have e' := of_decide_eq_true e
    injection e' with e1 e2
    injection e2 with e2 _
    injection e1 with e1
    injection e2 with e2
    exact (show u = t from Prod.ext e1 e2) ▸ hu
  · intro h
    exact ⟨t, h, decide_eq_true rfl⟩
theorem putT_tie (ts : List Tie) (t : Tie) : putK (encT ts) ([Sum.inr t.1, Sum.inr t.2] : List Key) (V.bl true) = encT (if t ∈ ts then ts else ts ++ [t]) := by
  unfold putK
  rw [encT_any]
  by_cases h : t ∈ ts
  · rw [if_pos (decide_eq_true h), if_pos h]
    unfold encT
    rw [List.map_map]
    refine List.map_congr_left fun u _ => ?_
    show (if _ then _ else _) = _
    split <;> rfl
  · rw [if_neg (by simpa using h), if_neg h]
    unfold encT
    rw [List.map_append]; rfl
theorem tieOf_lt {u v : Str} (h : u ≠ v) : strLt (tieOf u v).1 (tieOf u v).2 = true ∧ ((tieOf u v).1 = u ∨ (tieOf u v).1 = v) ∧ ((tieOf u v).2 = u ∨ (tieOf u v).2 = v) := by
  unfold tieOf
  cases e1 : strLt v u with
  | true =>
    rw [strLt_as e1]
    exact ⟨by simpa using e1, .inr (by simp), .inl (by simp)⟩
  | false =>
    cases e2 : strLt u v with
    | true => exact ⟨by simpa using e2, .inl (by simp), .inr (by simp)⟩
    | false => exact absurd (strLt_tri e2 e1) h
/-- a drawn web while it is drawn: its places at pl, its ties in the dict at d -/
def WB (a pl d : Addr) (ns : List Str) (H0 : Hp) (N c : Nat) (H : Hp) : Prop := SameX a H0 H ∧ Pot H a N ∧ H pl = some (.lst (ns.map V.str)) ∧ pl ≠ d ∧ pl ≠ a ∧ d ≠ a ∧ ∃ ts : List Tie, H d = some (.dT (encT ts)) ∧ ts.Nodup ∧ (∀ t ∈ ts, t.1 ∈ ns ∧ t.2 ∈ ns ∧ strLt t.1 t.2 = true) ∧ ts.length ≤ c
theorem WB.step {a pl d : Addr} {ns : List Str} {H0 H H' : Hp} {N N' c : Nat} (w : WB a pl d ns H0 N c H) (s : SameX a H H') (p : Pot H' a N') : WB a pl d ns H0 N' c H' := by
  obtain ⟨sx, hp, h1, n1, n2, n3, ts, h2, hr⟩ := w
  exact ⟨sx.trans s, p, s _ _ n2 h1, n1, n2, n3, ts, s _ _ n3 h2, hr⟩
theorem WB.mono {a pl d : Addr} {ns : List Str} {H0 H : Hp} {N N' c c' : Nat} (w : WB a pl d ns H0 N c H) (hN : N ≤ N') (hc : c ≤ c') : WB a pl d ns H0 N' c' H := by
  obtain ⟨sx, hp, h1, n1, n2, n3, ts, h2, h3, h4, h5⟩ := w
  exact ⟨sx, hp.mono hN, h1, n1, n2, n3, ts, h2, h3, h4, Nat.le_trans h5 hc⟩
theorem put_tie {a pl d : Addr} {ns : List Str} {H0 H : Hp} {N c : Nat} {u v : Str} {E : XK} {Q : Hp → Prop} (w : WB a pl d ns H0 N c H) (hd0 : H0 d = none) (hc : c ≤ 1000) (hu : u ∈ ns) (hv : v ∈ ns) (hne : u ≠ v)
    (q : ∀ Hn, WB a pl d ns H0 N (c + 1) Hn → Q Hn) : spTie [.str u, .str v] H (fun k H1 => ∃ d' Hn, V.ref d = .ref d' ∧ DPut H1 d' k (.bl true) Hn ∧ Q Hn) E := by
  obtain ⟨sx, hp, h1, n1, n2, n3, ts, h2, h3, h4, h5⟩ := w
  refine ⟨u, v, rfl, fun p hp0 => ?_⟩
  have npd : d ≠ p := ne_of_none h2 hp0
  have ed : (upd H p (.tup [.str (tieOf u v).1, .str (tieOf u v).2])) d = some (.dT (encT ts)) := by rw [upd_ne npd]; exact h2
  have et : (upd H p (.tup [.str (tieOf u v).1, .str (tieOf u v).2])) p = some (.tup (([Sum.inr (tieOf u v).1, Sum.inr (tieOf u v).2] : List Key).map kV)) := upd_same
  refine ⟨d, _, rfl, DPut.t ed et (by rw [encT, List.length_map]; exact small1000 (by omega)), q _ ?_⟩
  rw [putT_tie]
  obtain ⟨l1, l2, l3⟩ := tieOf_lt hne
  have m1 : (tieOf u v).1 ∈ ns := by rcases l2 with e | e <;> rw [e] <;> assumption
  have m2 : (tieOf u v).2 ∈ ns := by rcases l3 with e | e <;> rw [e] <;> assumption
  refine ⟨fun b o hb e => ?_, ?_, ?_, n1, n2, n3, _, upd_same, ?_, ?_, ?_⟩
  · have e1 : b ≠ d := ne_of_none e hd0
    have e2 := sx _ _ hb e
    rw [upd_ne e1, upd_ne (ne_of_none e2 hp0)]
    exact e2
  · obtain ⟨xx, yy, zz, e, hh⟩ := hp.ex
    exact ⟨xx, yy, zz, by rw [upd_ne (Ne.symm n3), upd_ne (ne_of_none e hp0)]; exact e, hh⟩
  · rw [upd_ne n1, upd_ne (ne_of_none h1 hp0)]; exact h1
  · by_cases hm : tieOf u v ∈ ts
    · rw [if_pos hm]; exact h3
    · rw [if_neg hm, List.nodup_append]
      exact ⟨h3, by simp, fun x hx y hy e => hm (by rw [List.mem_singleton.mp hy] at e; exact e ▸ hx)⟩
  · intro t ht
    by_cases hm : tieOf u v ∈ ts
    · rw [if_pos hm] at ht; exact h4 t ht
    · rw [if_neg hm] at ht
      rcases List.mem_append.mp ht with ht | ht
      · exact h4 t ht
      · rw [List.mem_singleton.mp ht]; exact ⟨m1, m2, l1⟩
  · by_cases hm : tieOf u v ∈ ts
    · rw [if_pos hm]; omega
    · rw [if_neg hm, List.length_append]
      show ts.length + 1 ≤ c + 1
      omega
end
end Hw

set_option Elab.async false
set_option linter.all false
set_option maxRecDepth 100000
set_option maxHeartbeats 4000000
namespace Hw
open PySem L2 PyProof.Rows
structure OwnW (ns : List Str) (ts : List Tie) : Prop where
  asc : Asc ns
  nm : ∀ z ∈ ns, NmX z
  few : ns.length ≤ 200
  tasc : AscP ts
  tie : ∀ t ∈ ts, t.1 ∈ ns ∧ t.2 ∈ ns ∧ strLt t.1 t.2 = true
  tfew : ts.length ≤ 1000
def WebAt (H : Hp) (p : Addr) (ns : List Str) (ts : List Tie) : Prop := ∃ (pl tl : Addr) (qs : List Addr), H p = some (.tup [.ref pl, .ref tl]) ∧ H pl = some (.lst (ns.map V.str)) ∧ H tl = some (.lst (qs.map V.ref)) ∧ Paired (fun q (t : Tie) => H q = some (.tup [.str t.1, .str t.2])) qs ts
theorem at_ns {ns : List Str} {r : Int} {j : Nat} (e : r = (j : Int)) (h : j < ns.length) : atI (ns.map V.str) r = some (.str ns[j]) := by
  subst e
  exact atI_nat (by rw [List.getElem?_map, List.getElem?_eq_getElem h]; rfl)
theorem at_last {ns : List Str} (h : 0 < ns.length) : atI (ns.map V.str) (-1) = some (.str (ns[ns.length - 1]'(by omega))) := by
  have hne : ns ≠ [] := fun e => by rw [e] at h; exact absurd h (by decide)
  have e1 : ns.map V.str = ns.dropLast.map V.str ++ [V.str (ns.getLast hne)] := by
    rw [← List.map_singleton, ← List.map_append, List.dropLast_concat_getLast]
  rw [e1, atI_last, List.getLast_eq_getElem]
theorem paired_mono {α β : Type} {F G : α → β → Prop} (h : ∀ x y, F x y → G x y) : ∀ {xs : List α} {ys : List β}, Paired F xs ys → Paired G xs ys
  | _, _, .nil => .nil
  | _, _, .cons a t => .cons (h _ _ a) (paired_mono h t)
theorem nodup_ne {ns : List Str} (h : ns.Nodup) {i j : Nat} (hi : i < ns.length) (hj : j < ns.length) (hij : i < j) : ns[i] ≠ ns[j] := List.pairwise_iff_getElem.mp h i j hi hj hij
theorem if_any {t : TT} {A B : TS} {D : Ends} {σ : L2.St} {H : Hp} (ht : ∀ Q : Bool → Hp → Prop, Q true H → Q false H → t σ H Q) (h1 : A D σ H) (h2 : B D σ H) : tIfS t A B D σ H :=
  ht _ (show if true = true then A D σ H else B D σ H by rw [if_pos rfl]; exact h1) (show if false = true then A D σ H else B D σ H by rw [if_neg Bool.false_ne_true]; exact h2)
theorem rs_rng {wi : TI} {g : TG} {tb u : TS} {D : Ends} {σ : L2.St} {H : Hp} (lo : Int) (n : Nat) (P0 : Hp → Prop) (Pv : Nat → L2.St → Hp → Prop) (hw : ∀ R : It → Hp → Prop, (∀ H1, P0 H1 → R (Itr lo n) H1) → wi σ H R) (h0 : ∀ H1, P0 H1 → Pv 0 σ H1)
    (hs : ∀ i σ H, i < n → Pv i σ H → g (.int (lo + i)) σ H fun σ2 H2 => tb { D with nx := Pv (i + 1), ct := Pv (i + 1), bk := u D } σ2 H2) (hd : ∀ σ H, Pv n σ H → u D σ H) : tSeq (tFor wi g tb) u D σ H :=
  hw _ fun H1 p => for_range (D := { D with nx := u D }) Pv (h0 H1 p) hs hd
theorem rs_if_put {t : TT} {A B u : TS} {D : Ends} {σ : L2.St} {H : Hp} (P1 : Bool → Hp → Prop) (P2 : Hp → Prop) (ht : ∀ Q : Bool → Hp → Prop, (∀ b H', P1 b H' → Q b H') → t σ H Q) (h3 : ∀ H', P2 H' → u D σ H')
    (h1 : ∀ (D' : Ends) H', (∀ H4, P2 H4 → D'.nx σ H4) → P1 true H' → A D' σ H') (h2 : ∀ (D' : Ends) H', (∀ H4, P2 H4 → D'.nx σ H4) → P1 false H' → B D' σ H') : tSeq (tIfS t A B) u D σ H :=
  ht _ fun b H' p => by
    show if b = true then A { D with nx := u D } σ H' else B { D with nx := u D } σ H'
    cases b with
    | true => rw [if_pos rfl]; exact h1 _ H' h3 p
    | false => rw [if_neg Bool.false_ne_true]; exact h2 _ H' h3 p
def sBl : Str := Str.ofString " "
def sNl : Str := Str.ofString "\n"
theorem paired_get {α β : Type} {F : α → β → Prop} : ∀ {xs : List α} {ys : List β} {i : Nat} {x : α}, Paired F xs ys → xs[i]? = some x → ∃ y, ys[i]? = some y ∧ F x y
  | _, _, _, _, .nil, e => by simp at e
  | _, _, 0, _, .cons a _, e => by simp at e; subst e; exact ⟨_, rfl, a⟩
  | _, _, i + 1, y, .cons _ t, e => by
    obtain ⟨x, h1, h2⟩ := paired_get (i := i) t (by simpa using e)
    exact ⟨x, by simpa using h1, h2⟩
theorem join_len (y : Str) : ∀ ps : List Str, (Txt.join y ps).length ≤ (ps.map (·.length)).sum + ps.length * y.length
  | [] => by rw [TL.join_eq]; exact Nat.zero_le _
  | [p] => by rw [TL.join_eq]; simp [Str.join]
  | p :: q :: r => by
    have ih := join_len y (q :: r)
    rw [TL.join_eq] at ih ⊢
    have e : Str.join y (p :: q :: r) = p ++ y ++ Str.join y (q :: r) := rfl
    rw [e, app_len, app_len]
    simp only [List.map_cons, List.sum_cons, List.length_cons] at ih ⊢
    have : (r.length + 1 + 1) * y.length = (r.length + 1) * y.length + y.length := by rw [Nat.add_mul (r.length + 1) 1, Nat.one_mul]
    omega
theorem sum_le {ps : List Str} {b : Nat} (h : ∀ p ∈ ps, p.length ≤ b) : (ps.map (·.length)).sum ≤ ps.length * b := by
  induction ps with
  | nil => exact Nat.zero_le _
  | cons p ps ih =>
    have h1 := h p List.mem_cons_self
    have h2 := ih fun q hq => h q (List.mem_cons_of_mem _ hq)
    rw [List.map_cons, List.sum_cons, List.length_cons, Nat.add_mul, Nat.one_mul]
    omega
def rJn (K : PySem.W.Frag) : V → List V → Hp → VK → Prop := fun x xs H Q => ∃ a p, ∃ ys : List Str, x = .str a ∧ xs = [.ref p] ∧ (SqL K H p (ys.map V.str) ∨ SqT K H p (ys.map V.str)) ∧ (ys.map (·.length)).sum + ys.length * a.length ≤ 16777216 ∧ Q (.str (Txt.join a ys)) H
theorem valV_names {g : Str → V} {ns : List Str} (w : Str) : valV (ns.map fun z => ((Sum.inr z : Key), g z)) (Sum.inr w) = if w ∈ ns then some (g w) else none := by
  induction ns with
  | nil => exact valV_nil
  | cons z ns ih =>
    rw [List.map_cons]
    by_cases h : z = w
    · subst h
      rw [valV_pos rfl, if_pos List.mem_cons_self]
    · rw [valV_neg (fun e => h (Sum.inr.inj e)), ih]
      by_cases hm : w ∈ ns
      · rw [if_pos hm, if_pos (List.mem_cons_of_mem _ hm)]
      · rw [if_neg hm, if_neg (fun e => by rcases List.mem_cons.mp e with rfl | e; exact h rfl; exact hm e)]
theorem mergeK_new : ∀ {more kvs : List (Key × V)}, ((kvs ++ more).map (·.1)).Nodup → mergeK kvs more = kvs ++ more
  | [], kvs, _ => by simp [mergeK]
  | p :: more, kvs, h => by
    have hn : valV kvs p.1 = none := by
      unfold valV
      rw [List.find?_eq_none.mpr]
      · rfl
      · intro q hq hc
        have e := of_decide_eq_true hc
        rw [List.map_append, List.nodup_append] at h
        exact h.2.2 q.1 (List.mem_map.mpr ⟨q, hq, rfl⟩) p.1 (List.mem_map.mpr ⟨p, List.mem_cons_self, rfl⟩) e
    have ih := mergeK_new (more := more) (kvs := kvs ++ [p]) (by rw [List.append_assoc]; exact h)
    show mergeK (putK kvs p.1 p.2) more = _
    rw [putK_new _ hn]
    exact ih.trans (by simp)
abbrev TieL (H : Hp) (q : Addr) (t : Tie) : Prop := H q = some (.tup [.str t.1, .str t.2])
theorem nodup_take {ns : List Str} (h : ns.Nodup) {i : Nat} {x : Str} (hx : ns[i]? = some x) : x ∉ ns.take i := by
  intro hm
  obtain ⟨j, hj, e⟩ := List.mem_iff_getElem.mp hm
  rw [List.length_take] at hj
  obtain ⟨hi, rfl⟩ := List.getElem?_eq_some_iff.mp hx
  rw [List.getElem_take] at e
  exact nodup_ne h (by omega) hi (by omega) e
theorem rs_list {K : PySem.W.Frag} {te : TE} {g : TG} {tb u : TS} {D : Ends} {σ : L2.St} {H : Hp} (a : Addr) (xs : List V) (ha : ∀ Q : VK, Q (.ref a) H → te σ H Q) (Pv : Nat → L2.St → Hp → Prop) (h0 : Pv 0 σ H) (hl : ∀ i σ H, i ≤ xs.length → Pv i σ H → SqL K H a xs)
    (hs : ∀ i x σ H, xs[i]? = some x → Pv i σ H → g x σ H fun σ2 H2 => tb { D with nx := Pv (i + 1), ct := Pv (i + 1), bk := u D } σ2 H2) (hd : ∀ σ H, Pv xs.length σ H → u D σ H) : tSeq (tFor (iList K te) g tb) u D σ H :=
  ha _ ⟨a, rfl, ⟨xs, hl 0 σ H (Nat.zero_le _) h0⟩, for_list (D := { D with nx := u D }) Pv h0 hl hs hd⟩
theorem rs_tup {K : PySem.W.Frag} {te : TE} {g : TG} {tb u : TS} {D : Ends} {σ : L2.St} {H : Hp} (a : Addr) (xs : List V) (ha : ∀ Q : VK, Q (.ref a) H → te σ H Q) (Pv : Nat → L2.St → Hp → Prop) (h0 : Pv 0 σ H) (hl : ∀ i σ H, i ≤ xs.length → Pv i σ H → SqT K H a xs)
    (hs : ∀ i x σ H, xs[i]? = some x → Pv i σ H → g x σ H fun σ2 H2 => tb { D with nx := Pv (i + 1), ct := Pv (i + 1), bk := u D } σ2 H2) (hd : ∀ σ H, Pv xs.length σ H → u D σ H) : tSeq (tFor (iTup K te) g tb) u D σ H :=
  ha _ ⟨a, rfl, ⟨xs, hl 0 σ H (Nat.zero_le _) h0⟩, for_tup (D := { D with nx := u D }) Pv h0 hl hs hd⟩
theorem map_get {α : Type} {g : α → V} {xs : List α} {i : Nat} {x : V} (h : (xs.map g)[i]? = some x) : ∃ z, xs[i]? = some z ∧ x = g z := by
  rw [List.getElem?_map] at h
  cases hh : xs[i]? with
  | none => rw [hh] at h; cases h
  | some z => rw [hh] at h; exact ⟨z, rfl, (Option.some.inj h).symm⟩
theorem take_snoc {α : Type} {xs : List α} {i : Nat} {x : α} (h : xs[i]? = some x) : xs.take (i + 1) = xs.take i ++ [x] := by rw [List.take_succ, h]; rfl
theorem paired_in {α β : Type} {F G : α → β → Prop} : ∀ {xs : List α} {ys : List β}, (∀ x y, y ∈ ys → F x y → G x y) → Paired F xs ys → Paired G xs ys
  | _, _, _, .nil => .nil
  | _, _, h, .cons a t => .cons (h _ _ List.mem_cons_self a) (paired_in (fun x y hy => h x y (List.mem_cons_of_mem _ hy)) t)
theorem paired_map {α β γ : Type} {F : α → γ → Prop} {g : β → γ} : ∀ {xs : List α} {ys : List β}, Paired (fun x y => F x (g y)) xs ys → Paired F xs (ys.map g)
  | _, _, .nil => .nil
  | _, _, .cons a t => .cons a (paired_map t)
theorem paired_snoc {α β : Type} {F : α → β → Prop} {x : α} {y : β} (f : F x y) : ∀ {xs : List α} {ys : List β}, Paired F xs ys → Paired F (xs ++ [x]) (ys ++ [y])
  | _, _, .nil => .cons f .nil
  | _, _, .cons h t => .cons h (paired_snoc f t)
theorem smallM {n : Nat} (h : n ≤ 100000) : n < sizeLine := by rw [sizeLine_eq]; omega
theorem filter_snoc {α : Type} {p : α → Bool} {xs : List α} {i : Nat} {x : α} (h : xs[i]? = some x) : (xs.take (i + 1)).filter p = (xs.take i).filter p ++ if p x = true then [x] else [] := by
  rw [take_snoc h, List.filter_append]
  congr 1
  by_cases hp : p x = true
  · rw [if_pos hp, List.filter_cons_of_pos hp, List.filter_nil]
  · rw [if_neg hp, List.filter_cons_of_neg hp, List.filter_nil]
theorem inV_str (z : Str) (zs : List Str) : inV (.str z) (zs.map V.str) = decide (z ∈ zs) := by
  unfold inV
  rw [List.any_map, Bool.eq_iff_iff, List.any_eq_true, decide_eq_true_iff]
  constructor
  · rintro ⟨y, hy, e⟩
    have e : (y == z) = true := e
    exact (beq_iff_eq.mp e) ▸ hy
  · intro h
    exact ⟨z, h, by show (z == z) = true; simp⟩
theorem rs_t {te : TE} {g : TG} {u : TS} {D : Ends} {σ : L2.St} {H : Hp} (h : te σ H fun x H1 => g x σ H1 (u D)) : tSeq (tAsg te g) u D σ H := h
theorem g2_of {K : PySem.W.Frag} {σ : L2.St} {H : Hp} {i j : Nat} {p : Addr} {x y : V} {R : L2.St → Hp → Prop} (e : SqT K H p [x, y]) (h : R ((σ.set i (some x)).set j (some y)) H) : gTup K 2 (gCons (gName i) (gCons (gName j) gNil)) (.ref p) σ H R :=
  ⟨p, [x, y], rfl, e, rfl, _, [y], rfl, _, [], rfl, rfl, h⟩
abbrev rLenS (K : PySem.W.Frag) : List V → Hp → VK → Prop := fun xs H Q => ∃ p ys, xs = [.ref p] ∧ (SqL K H p ys ∨ SqT K H p ys) ∧ Q (.int ys.length) H
theorem cps_mem {z : Str} {c : Nat} (h : c ∈ z.cps) : c ∈ z.cps.toList := by simpa using h
theorem nm_ok {z : Str} (h : NmX z) : PyData.strOk z = true := by
  unfold PyData.strOk
  refine Array.all_eq_true_iff_forall_mem.mpr fun c hc => ?_
  have := h.2.2 c (cps_mem hc)
  exact decide_eq_true (by omega)
theorem strs_lay {ns : List Str} (hnm : ∀ n ∈ ns, NmX n) : ∀ {xs : List Str}, (∀ x ∈ xs, x ∈ ns) → SeqAt.shaped (.list (xs.map PyData.str)) = true := by
  intro xs h
  have a : ∀ {xs : List Str}, (∀ x ∈ xs, x ∈ ns) → PyData.canLayAll0 (xs.map PyData.str) = true := by
    intro xs
    induction xs with
    | nil => intro _; rfl
    | cons x xs ih =>
      intro h
      show PyData.canLayAll0 (PyData.str x :: xs.map PyData.str) = true
      rw [PyData.canLayAll0, ih fun y hy => h y (List.mem_cons_of_mem _ hy), PyData.canLay0, nm_ok (hnm x (h x List.mem_cons_self))]; rfl
  have b : ∀ xs : List Str, PyData.depthAll (xs.map PyData.str) = 0 := by
    intro xs
    induction xs with
    | nil => rfl
    | cons x xs ih =>
      show PyData.depthAll (PyData.str x :: xs.map PyData.str) = 0
      rw [PyData.depthAll, ih, PyData.depth]; rfl
  unfold SeqAt.shaped
  rw [PyData.canLay0, a h, PyData.depth, b]; rfl
theorem strs_dp {K : PySem.W.Frag} {H : Hp} : ∀ xs : List Str, DpAll K H (xs.map V.str) (xs.map PyData.str)
  | [] => .nil
  | x :: xs => .cons (.str x) (strs_dp xs)
theorem rs_no {t : TT} {A u : TS} {D : Ends} {σ : L2.St} {H : Hp} (h : t σ H fun b H1 => if b = true then A { D with nx := u D } σ H1 else u D σ H1) : tSeq (tIfS t A tNext) u D σ H := h
theorem rs_no2 {t : TT} {A u : TS} {D : Ends} {σ : L2.St} {H : Hp} (R1 R2 : Hp → Prop) (ht : ∀ Q : Bool → Hp → Prop, (∀ H', R1 H' → Q true H') → (∀ H', R2 H' → Q false H') → t σ H Q) (h1 : ∀ H', R1 H' → A { D with nx := u D } σ H') (h2 : ∀ H', R2 H' → u D σ H') : tSeq (tIfS t A tNext) u D σ H :=
  rs_no (ht _ (fun H' r => by show if true = true then _ else _; rw [if_pos rfl]; exact h1 H' r) (fun H' r => by show if false = true then _ else _; rw [if_neg Bool.false_ne_true]; exact h2 H' r))
theorem rs_unV {K : PySem.W.Frag} {u : TS} {D : Ends} {σ : L2.St} {H : Hp} {k i j : Nat} {p : Addr} {x y : V} (h : σ[k]? = some (some (.ref p))) (e : SqT K H p [x, y]) (hu : u D ((σ.set i (some x)).set j (some y)) H) : tSeq (tAsg (tVar k) (gTup K 2 (gCons (gName i) (gCons (gName j) gNil)))) u D σ H :=
  ⟨.ref p, h, p, [x, y], rfl, e, rfl, _, [y], rfl, _, [], rfl, rfl, hu⟩
theorem r_cb {ta : TA} {r : List V → Hp → VK → Prop} {σ : L2.St} {H : Hp} {Q : VK} (h : ta σ H fun vs H1 => r vs H1 Q) : tCB r ta σ H Q := h
theorem rs_par3 {i j l : Nat} {ta : TA} {u : TS} {D : Ends} {σ : L2.St} {H : Hp} (h : ta σ H fun vs H1 => ∃ x y z, vs = [x, y, z] ∧ u D (((σ.set i (some x)).set j (some y)).set l (some z)) H1) : tSeq (tPar3 i j l ta) u D σ H := h
theorem pot_ne_refs {H : Hp} {a l : Addr} {N : Nat} {qs : List Addr} (h : Pot H a N) (e : H l = some (.lst (qs.map V.ref))) : a ≠ l := by
  rintro rfl
  obtain ⟨x, y, z, e', _⟩ := h.ex
  rw [e] at e'
  cases qs with
  | nil => cases e'
  | cons q qs => cases e'
theorem pot_ne_strs {H : Hp} {a l : Addr} {N : Nat} {zs : List Str} (h : Pot H a N) (e : H l = some (.lst (zs.map V.str))) : a ≠ l := by
  rintro rfl
  obtain ⟨x, y, z, e', _⟩ := h.ex
  rw [e] at e'
  cases zs with
  | nil => cases e'
  | cons q qs => cases e'
theorem pot_tup {H : Hp} {a b : Addr} {N : Nat} {k : List V} (h : Pot H a N) (e : H b = some (.tup k)) : b ≠ a := by
  rintro rfl
  obtain ⟨u, v, w, e1, _⟩ := h.ex
  rw [e1] at e; cases e
theorem TieL.sx {H H' : Hp} {a q : Addr} {N : Nat} {t : Tie} (hP : Pot H a N) (s : SameX a H H') (e : TieL H q t) : TieL H' q t := s _ _ (pot_tup hP e) e
theorem paired_ix2 {α β : Type} {F : α → β → Prop} : ∀ {xs : List α} {ys : List β}, xs.length = ys.length → (∀ (j : Nat) x y, xs[j]? = some x → ys[j]? = some y → F x y) → Paired F xs ys
  | [], [], _, _ => .nil
  | x :: xs, y :: ys, hl, h => .cons (h 0 x y rfl rfl) (paired_ix2 (Nat.succ.inj hl) fun j u v hu hv => h (j + 1) u v hu hv)
theorem paired_app {α β : Type} {F : α → β → Prop} : ∀ {xs : List α} {ys : List β} {us : List α} {vs : List β}, Paired F xs ys → Paired F us vs → Paired F (xs ++ us) (ys ++ vs)
  | _, _, _, _, .nil, h => h
  | _, _, _, _, .cons a t, h => .cons a (paired_app t h)
theorem cut_from1 (xs : List V) : cutV xs (some 1) none = xs.drop 1 := by
  unfold cutV
  have e1 : HT.sIx xs.length xs.length none = xs.length := rfl
  rw [e1]
  cases xs with
  | nil => rfl
  | cons x xs =>
    have e2 : HT.sIx (x :: xs).length 0 (some 1) = 1 := by
      unfold HT.sIx
      simp
      try omega
    rw [e2]
    exact List.take_of_length_le (by simp)
end Hw

set_option Elab.async false
set_option linter.all false
set_option maxRecDepth 100000
set_option maxHeartbeats 4000000
namespace Hw
open PySem L2 PyProof.Rows
/-! deeds -/
inductive Deed
  | come (n : Str) (ts : List Str)
  | die (n : Str)
def Deed.name : Deed → Str
  | .come n _ => n
  | .die n => n
def Deed.isCome : Deed → Bool
  | .come _ _ => true
  | .die _ => false
def Deed.ties : Deed → List Str
  | .come _ ts => ts
  | .die _ => []
def sCome : Str := Str.ofString "come"
def sDie : Str := Str.ofString "die"
def Deed.word : Deed → Str
  | .come _ _ => sCome
  | .die _ => sDie
def cameD (ds : List Deed) : List Str := ds.flatMap fun d => if d.isCome = true then [d.name] else []
def livStep (l : List Str) : Deed → List Str
  | .come n _ => l ++ [n]
  | .die n => l.filter fun z => decide (z ≠ n)
def liv (ds : List Deed) : List Str := ds.foldl livStep []
def deadD (ds : List Deed) : List Str := ds.flatMap fun d => if d.isCome = true then [] else [d.name]
/-- deeds that can stand -/
inductive Hist : List Deed → Prop
  | nil : Hist []
  | come {ds : List Deed} {n : Str} {ts : List Str} (h : Hist ds) (nm : NmX n) (new : n ∉ cameD ds) (asc : Asc ts) (sub : ∀ t ∈ ts, t ∈ liv ds) : Hist (ds ++ [.come n ts])
  | die {ds : List Deed} {n : Str} (h : Hist ds) (lv : n ∈ liv ds) : Hist (ds ++ [.die n])
theorem came_snoc (ds : List Deed) (d : Deed) : cameD (ds ++ [d]) = cameD ds ++ if d.isCome = true then [d.name] else [] := by
  unfold cameD
  rw [List.flatMap_append]; simp
theorem dead_snoc (ds : List Deed) (d : Deed) : deadD (ds ++ [d]) = deadD ds ++ if d.isCome = true then [] else [d.name] := by
  unfold deadD
  rw [List.flatMap_append]; simp
theorem liv_snoc (ds : List Deed) (d : Deed) : liv (ds ++ [d]) = livStep (liv ds) d := by
  unfold liv
  rw [List.foldl_append]; rfl
theorem Hist.liv_came {ds : List Deed} (h : Hist ds) : ∀ z ∈ liv ds, z ∈ cameD ds := by
  induction h with
  | nil => intro z hz; cases hz
  | come h nm new asc sub ih =>
    intro z hz
    rw [liv_snoc] at hz
    rw [came_snoc]
    rcases List.mem_append.mp hz with hz | hz
    · exact List.mem_append_left _ (ih z hz)
    · exact List.mem_append_right _ hz
  | die h lv ih =>
    intro z hz
    rw [liv_snoc] at hz
    rw [came_snoc]
    exact List.mem_append_left _ (ih z (List.mem_filter.mp hz).1)
theorem Hist.came_nodup {ds : List Deed} (h : Hist ds) : (cameD ds).Nodup := by
  induction h with
  | nil => exact List.nodup_nil
  | come h nm new asc sub ih =>
    rw [came_snoc, List.nodup_append]
    exact ⟨ih, by simp [Deed.isCome], fun x hx y hy e => new (by
      have e2 : y = _ := List.mem_singleton.mp (show y ∈ [_] from hy)
      rw [e, e2] at hx
      exact hx)⟩
  | die h lv ih =>
    rw [came_snoc]
    show (cameD _ ++ []).Nodup
    rw [List.append_nil]
    exact ih
theorem Hist.liv_nodup {ds : List Deed} (h : Hist ds) : (liv ds).Nodup := by
  induction h with
  | nil => exact List.nodup_nil
  | come h nm new asc sub ih =>
    rw [liv_snoc]
    show (_ ++ [_]).Nodup
    rw [List.nodup_append]
    exact ⟨ih, by simp, fun x hx y hy e => new (h.liv_came _ (by rw [List.mem_singleton.mp hy] at e; exact e ▸ hx))⟩
  | die h lv ih =>
    rw [liv_snoc]
    exact ih.filter _
theorem Hist.nm {ds : List Deed} (h : Hist ds) : ∀ z ∈ cameD ds, NmX z := by
  induction h with
  | nil => intro z hz; cases hz
  | come h nm new asc sub ih =>
    intro z hz
    rw [came_snoc] at hz
    rcases List.mem_append.mp hz with hz | hz
    · exact ih z hz
    · rw [List.mem_singleton.mp (show z ∈ [_] from hz)]; exact nm
  | die h lv ih =>
    intro z hz
    rw [came_snoc] at hz
    rcases List.mem_append.mp hz with hz | hz
    · exact ih z hz
    · cases hz
theorem came_len (ds : List Deed) : (cameD ds).length ≤ ds.length := by
  unfold cameD
  induction ds with
  | nil => exact Nat.le_refl _
  | cons d ds ih =>
    rw [List.flatMap_cons, List.length_append, List.length_cons]
    have : (if d.isCome = true then [d.name] else []).length ≤ 1 := by split <;> simp
    omega
theorem len_subN {xs ys : List Str} (h : ∀ z ∈ xs, z ∈ ys) (hn : xs.Nodup) : xs.length ≤ ys.length := sub_len hn h
theorem Hist.liv_len {ds : List Deed} (h : Hist ds) : (liv ds).length ≤ ds.length := Nat.le_trans (len_subN h.liv_came h.liv_nodup) (came_len ds)
/-- what each deed keeps -/
theorem Hist.each {ds : List Deed} (h : Hist ds) : ∀ d ∈ ds, NmX d.name ∧ d.ties.length ≤ ds.length ∧ (∀ t ∈ d.ties, NmX t) ∧ Asc d.ties := by
  induction h with
  | nil => intro d hd; cases hd
  | @come ds n ts h nm new asc sub ih =>
    intro d hd
    rw [List.length_append]
    rcases List.mem_append.mp hd with hd | hd
    · obtain ⟨a, b, c, e⟩ := ih d hd
      exact ⟨a, Nat.le_trans b (Nat.le_add_right _ _), c, e⟩
    · rw [List.mem_singleton.mp hd]
      exact ⟨nm, Nat.le_trans (Nat.le_trans (len_subN sub asc.nodup) h.liv_len) (Nat.le_add_right _ _), fun t ht => h.nm t (h.liv_came t (sub t ht)), asc⟩
  | @die ds n h lv ih =>
    intro d hd
    rw [List.length_append]
    rcases List.mem_append.mp hd with hd | hd
    · obtain ⟨a, b, c, e⟩ := ih d hd
      exact ⟨a, Nat.le_trans b (Nat.le_add_right _ _), c, e⟩
    · rw [List.mem_singleton.mp hd]
      exact ⟨h.nm n (h.liv_came n lv), Nat.zero_le _, (fun _ z => nomatch z), .nil⟩
theorem Hist.pre {ds : List Deed} {d : Deed} (h : Hist (ds ++ [d])) : Hist ds := by
  generalize e : ds ++ [d] = es at h
  cases h with
  | nil => simp at e
  | come h _ _ _ _ =>
    obtain ⟨e1, _⟩ := List.append_inj' e rfl
    rw [e1]; exact h
  | die h _ =>
    obtain ⟨e1, _⟩ := List.append_inj' e rfl
    rw [e1]; exact h
theorem Hist.take {ds : List Deed} (h : Hist ds) (i : Nat) : Hist (ds.take i) := by
  induction h with
  | nil => rw [List.take_nil]; exact .nil
  | @come ds n ts h nm new asc sub ih =>
    by_cases hi : i ≤ ds.length
    · rw [List.take_append_of_le_length hi]; exact ih
    · rw [List.take_of_length_le (by rw [List.length_append]; show ds.length + 1 ≤ i; omega)]
      exact .come h nm new asc sub
  | @die ds n h lv ih =>
    by_cases hi : i ≤ ds.length
    · rw [List.take_append_of_le_length hi]; exact ih
    · rw [List.take_of_length_le (by rw [List.length_append]; show ds.length + 1 ≤ i; omega)]
      exact .die h lv
/-- a come in its place -/
theorem Hist.come_at {ds : List Deed} (h : Hist ds) {i : Nat} {n : Str} {ts : List Str} (e : ds[i]? = some (.come n ts)) : NmX n ∧ n ∉ cameD (ds.take i) ∧ Asc ts ∧ ∀ t ∈ ts, t ∈ liv (ds.take i) := by
  have h1 := h.take (i + 1)
  rw [take_snoc e] at h1
  generalize e0 : ds.take i = l at h1 ⊢
  generalize e1 : l ++ [Deed.come n ts] = es at h1
  cases h1 with
  | nil => simp at e1
  | come h nm new asc sub =>
    obtain ⟨e2, e3⟩ := List.append_inj' e1 rfl
    cases e3
    subst e2
    exact ⟨nm, new, asc, sub⟩
  | die h lv =>
    obtain ⟨_, e3⟩ := List.append_inj' e1 rfl
    cases e3
theorem Hist.die_at {ds : List Deed} (h : Hist ds) {i : Nat} {n : Str} (e : ds[i]? = some (.die n)) : n ∈ liv (ds.take i) := by
  have h1 := h.take (i + 1)
  rw [take_snoc e] at h1
  generalize e0 : ds.take i = l at h1 ⊢
  generalize e1 : l ++ [Deed.die n] = es at h1
  cases h1 with
  | nil => simp at e1
  | come h nm new asc sub =>
    obtain ⟨_, e3⟩ := List.append_inj' e1 rfl
    cases e3
  | die h lv =>
    obtain ⟨e2, e3⟩ := List.append_inj' e1 rfl
    cases e3
    subst e2
    exact lv
/-- a deed as it lies -/
def DeedAt (H : Hp) (q : Addr) : Deed → Prop
  | .come n ts => ∃ tq, H q = some (.tup [.str sCome, .str n, .ref tq]) ∧ H tq = some (.tup (ts.map V.str))
  | .die n => H q = some (.tup [.str sDie, .str n])
theorem DeedAt.keep {H H' : Hp} {q : Addr} (s : Same H H') : ∀ {d : Deed}, DeedAt H q d → DeedAt H' q d
  | .come _ _, ⟨tq, h1, h2⟩ => ⟨tq, s _ _ h1, s _ _ h2⟩
  | .die _, h => s _ _ h
theorem DeedAt.sx {H H' : Hp} {a q : Addr} {N : Nat} (hP : Pot H a N) (s : SameX a H H') : ∀ {d : Deed}, DeedAt H q d → DeedAt H' q d
  | .come _ _, ⟨tq, h1, h2⟩ => ⟨tq, s _ _ (pot_tup hP h1) h1, s _ _ (pot_tup hP h2) h2⟩
  | .die _, h => s _ _ (pot_tup hP h) h
/-- the list of deeds as it lies -/
def DeedsAt (H : Hp) (l : Addr) (ds : List Deed) : Prop := ∃ qs : List Addr, H l = some (.lst (qs.map V.ref)) ∧ Paired (DeedAt H) qs ds
theorem DeedsAt.keep {H H' : Hp} {l : Addr} {ds : List Deed} (h : DeedsAt H l ds) (s : Same H H') : DeedsAt H' l ds := by
  obtain ⟨qs, h1, h2⟩ := h
  exact ⟨qs, s _ _ h1, paired_mono (fun q d e => e.keep s) h2⟩
theorem DeedsAt.sx {H H' : Hp} {a l : Addr} {N : Nat} {ds : List Deed} (h : DeedsAt H l ds) (hP : Pot H a N) (s : SameX a H H') : DeedsAt H' l ds := by
  obtain ⟨qs, h1, h2⟩ := h
  exact ⟨qs, s _ _ (Ne.symm (pot_ne_refs hP h1)) h1, paired_mono (fun q d e => e.sx hP s) h2⟩
/-- its first word and its name, whatever it is -/
theorem DeedAt.two {K : PySem.W.Frag} {H : Hp} {q : Addr} : ∀ {d : Deed}, DeedAt H q d → ∃ more : List V, H q = some (.tup (.str d.word :: .str d.name :: more))
  | .come _ _, ⟨tq, h1, _⟩ => ⟨[.ref tq], h1⟩
  | .die _, h => ⟨[], h⟩
theorem word_come (d : Deed) : decide (V.str d.word = V.str (Str.ofString "come")) = d.isCome := by
  cases d with
  | come n ts => exact decide_eq_true rfl
  | die n =>
    refine decide_eq_false fun e => ?_
    injection e with e
    exact absurd (show sDie = Str.ofString "come" from e) (by decide +kernel)
end Hw

set_option Elab.async false
set_option linter.all false
set_option maxRecDepth 100000
set_option maxHeartbeats 4000000
namespace Hw
open PySem L2 PyProof.Rows
abbrev sHText : Stmt := topS 27
def deedLine (d : Deed) : Str := Txt.join sBl (d.word :: d.name :: d.ties)
def histText (ds : List Deed) : Str := Txt.join sNl (ds.map deedLine)
def spHText : Sp := fun vs H Q _ => ∃ (l : Addr) (ds : List Deed), vs = [.ref l] ∧ DeedsAt H l ds ∧ Hist ds ∧ ds.length ≤ 100 ∧ ∀ H', Same H H' → Q (.str (histText ds)) H'
theorem deed_sum {ds : List Deed} {d : Deed} (h : NmX d.name ∧ d.ties.length ≤ ds.length ∧ (∀ t ∈ d.ties, NmX t) ∧ Asc d.ties) (hl : ds.length ≤ 100) : ((d.word :: d.name :: d.ties).map (·.length)).sum + (d.word :: d.name :: d.ties).length * sBl.length ≤ 1000 := by
  obtain ⟨h1, h2, h3, _⟩ := h
  have hw : d.word.length ≤ 8 := by
    cases d with
    | come n ts => exact show sCome.length ≤ 8 by decide +kernel
    | die n => exact show sDie.length ≤ 8 by decide +kernel
  have hs := sum_le (ps := d.word :: d.name :: d.ties) (b := 8) fun p hp => by
    rcases List.mem_cons.mp hp with rfl | hp
    · exact hw
    · rcases List.mem_cons.mp hp with rfl | hp
      · exact h1.2.1
      · exact (h3 p hp).2.1
  have e1 : sBl.length = 1 := by decide +kernel
  have el : (d.word :: d.name :: d.ties).length = d.ties.length + 2 := rfl
  rw [el] at hs ⊢
  rw [e1]
  omega
theorem deedLine_len {ds : List Deed} {d : Deed} (h : NmX d.name ∧ d.ties.length ≤ ds.length ∧ (∀ t ∈ d.ties, NmX t) ∧ Asc d.ties) (hl : ds.length ≤ 100) : (deedLine d).length ≤ 1000 := Nat.le_trans (join_len _ _) (deed_sum h hl)
theorem hist_sum {ds : List Deed} (h : Hist ds) (hl : ds.length ≤ 100) : ((ds.map deedLine).map (·.length)).sum + (ds.map deedLine).length * sNl.length ≤ 200000 := by
  have hs := sum_le (ps := ds.map deedLine) (b := 1000) fun p hp => by
    obtain ⟨d, hd, rfl⟩ := List.mem_map.mp hp
    exact deedLine_len (h.each d hd) hl
  have e1 : sNl.length = 1 := by decide +kernel
  rw [List.length_map] at hs ⊢
  rw [e1]
  omega
section
variable {P : Program} {w : World} {K : PySem.W.Frag} {mg : Str → Option Value} {base : Heap}
theorem scHText : FnScope ["deeds", "rows", "deed"] ["deeds"] (defScope sHText) := ⟨rfl, rfl, rfl, by decide +kernel, rfl, by decide +kernel, by decide +kernel⟩
theorem ok_htext {f : Addr} {fd : FuncData} {k : Nat} (F : Fun K "_law_history_text" "_law_history_text" sHText f fd) (B : Blt mg) : FnOk P w K mg base CX0 (k + 1) f fd ["deeds"] spHText := by
  refine F.ok scHText (fun vs H Q E h => ?_) (fun cdv A outer s H vs Q E hr h => ?_)
  · obtain ⟨l, ds, rfl, _⟩ := h
    rfl
  · obtain ⟨l, ds, rfl, ⟨qs, e1, e2⟩, hH, hl, q⟩ := h
    refine ⟨_, pss_cons (ps_set (i := 1) scHText.nd rfl (.inl rfl) (pe_lst pa_nil))
      (pss_cons (ps_for PassesOwn.never rfl (pi_list (pv 0)) (pg_name (i := 2) scHText.nd rfl (.inl rfl))
        (pss_one (ps_expr (pe_bm PySem.F.plainAttrs_list PySem.F.slot_list_append PySem.F.type_list_append mt_append (pv 1) (pa_cons (pe_join pe_str (pe_op op_cat (pe_lst (pa_cons (pe_ix ix_tup (pv 2) pe_int (fun _ _ => rfl)) (pa_cons (pe_ix ix_tup (pv 2) pe_int (fun _ _ => rfl)) pa_nil)))
          (pe_ifExp (pt_cmpR op_eq (pe_ix ix_tup (pv 2) pe_int (fun _ _ => rfl)) pe_str (nomark _)) (pe_callTy call_list_of (by rfl) B.list PyProof.Rows.boot_list (pa_cons (pe_ix ix_tup (pv 2) pe_int (fun _ _ => rfl)) pa_nil)) (pe_lst pa_nil)))) pa_nil)))))
      (pss_one (ps_ret (pe_join pe_str (pv 1))))), ?_⟩
    refine rs_set ?_
    refine ⟨Nat.zero_le _, fun r nr => ?_⟩
    refine rs_list l (qs.map V.ref) (fun Q1 q1 => ⟨_, rfl, q1⟩) (fun i σ' H' => ∃ o2, σ' = [some (.ref l), some (.ref r), o2] ∧ Same H H' ∧ H' r = some (.lst (((ds.take i).map deedLine).map V.str)))
      ⟨_, rfl, same_upd nr, upd_same⟩ (fun i σ' H' _ ⟨_, _, sx, _⟩ => sql_of (sx _ _ e1)) ?_ ?_
    · rintro i x σ' H' hx ⟨o2, rfl, sx, eR⟩
      obtain ⟨qd, hq, rfl⟩ := map_get hx
      obtain ⟨d, hd, ed⟩ := paired_get e2 hq
      have ed := ed.keep sx
      have he := hH.each d (List.mem_of_getElem? hd)
      have hi : i < ds.length := (List.getElem?_eq_some_iff.mp hd).1
      obtain ⟨more, em⟩ := ed.two (K := K)
      refine r_gname ?_
      refine ⟨.ref r, rfl, .inl ⟨rfl, _, sql_of eR⟩, ?_⟩
      refine ⟨⟨_, rfl⟩, .ref qd, rfl, qd, _, 0, .str d.word, rfl, rfl, sqt_of em, atI_nat (j := 0) rfl, .ref qd, rfl, qd, _, 1, .str d.name, rfl, rfl, sqt_of em, atI_nat (j := 1) rfl, by show 2 ≤ sizeLine; decide, fun l1 n1 => ?_⟩
      have s1 := same_upd (o := .lst [.str d.word, .str d.name]) n1
      refine ⟨.ref qd, rfl, qd, _, 0, .str d.word, rfl, rfl, sqt_of (s1 _ _ em), atI_nat (j := 0) rfl, rfl, _, congrArg V.bl (word_come d), ?_⟩
      -- the third part
      have fin : ∀ (l2 : Addr) (H2 : Hp), Same H' H2 → H2 l1 = some (.lst [.str d.word, .str d.name]) → H2 l2 = some (.lst (d.ties.map V.str)) → rCat (.ref l1) (.ref l2) H2 fun x H3 => rJn K (.str (Str.ofString " ")) [x] H3 fun y H4 => rAppend (.ref r) [y] H4 fun _ H5 => ∃ o2, ([some (.ref l), some (.ref r), some (.ref qd)] : L2.St) = [some (.ref l), some (.ref r), o2] ∧ Same H H5 ∧ H5 r = some (.lst (((ds.take (i + 1)).map deedLine).map V.str)) := by
        intro l2 H2 s2 f1 f2
        refine ⟨l1, l2, _, _, rfl, rfl, f1, f2, Nat.le_of_lt (smallM (by rw [List.length_map]; show 2 + _ ≤ _; have := he.2.1; omega)), fun l3 n3 => ?_⟩
        refine ⟨Str.ofString " ", l3, d.word :: d.name :: d.ties, rfl, rfl, .inl (sql_of upd_same), Nat.le_trans (deed_sum he hl) (by decide), ?_⟩
        have s3 := s2.trans (same_upd (o := .lst ([.str d.word, .str d.name] ++ d.ties.map V.str)) n3)
        refine ⟨r, _, _, rfl, rfl, s3 _ _ eR, smallM (by rw [List.length_map, List.length_map, List.length_take]; omega), _, rfl, fun b o e => ?_, ?_⟩
        · rw [upd_ne (ne_of_none e nr)]; exact s3 _ _ (sx _ _ e)
        · rw [upd_same, take_snoc hd, List.map_append, List.map_append]; rfl
      cases d with
      | come n ts =>
        obtain ⟨tq, g1, g2⟩ := ed
        show if true = true then _ else _
        rw [if_pos rfl]
        refine ⟨.ref qd, rfl, qd, _, 2, .ref tq, rfl, rfl, sqt_of (s1 _ _ g1), rfl, tq, _, rfl, .inr (sqt_of (s1 _ _ g2)), fun l2 n2 => ?_⟩
        exact fin l2 _ (s1.trans (same_upd n2)) ((same_upd n2) _ _ upd_same) upd_same
      | die n =>
        show if false = true then _ else _
        rw [if_neg Bool.false_ne_true]
        refine ⟨Nat.zero_le _, fun l2 n2 => ?_⟩
        exact fin l2 _ (s1.trans (same_upd n2)) ((same_upd n2) _ _ upd_same) upd_same
    · rintro σ' H' ⟨o2, rfl, sx, eR⟩
      rw [List.length_map, Paired.length e2, List.take_length] at eR
      exact ⟨⟨_, rfl⟩, .ref r, rfl, Str.ofString "\n", r, ds.map deedLine, rfl, rfl, .inl (sql_of eR), Nat.le_trans (hist_sum hH hl) (by decide), q H' sx⟩
end
end Hw

set_option Elab.async false
set_option linter.all false
set_option maxRecDepth 100000
set_option maxHeartbeats 4000000
namespace Hw
open PySem L2 PyProof.Rows
abbrev sLiving : Stmt := topS 28
/-- a dict of names, True at each -/
def encL (ns : List Str) : List (Key × V) := ns.map fun n => ((Sum.inr n : Key), V.bl true)
theorem encL_val (ns : List Str) (z : Str) : valV (encL ns) (Sum.inr z) = if z ∈ ns then some (V.bl true) else none := valV_names (g := fun _ => V.bl true) z
theorem encL_new {ns : List Str} {z : Str} (h : z ∉ ns) : putK (encL ns) (Sum.inr z) (V.bl true) = encL (ns ++ [z]) := by
  rw [putK_new _ (by rw [encL_val, if_neg h])]
  unfold encL
  rw [List.map_append]; rfl
theorem encL_drop (ns : List Str) (z : Str) : dropK (encL ns) (Sum.inr z : Key) = encL (ns.filter fun y => decide (y ≠ z)) := by
  unfold dropK encL
  rw [List.filter_map]
  congr 1
  refine List.filter_congr fun y _ => ?_
  show decide ((Sum.inr y : Key) ≠ Sum.inr z) = decide (y ≠ z)
  rw [decide_eq_decide]
  exact ⟨fun h e => h (by rw [e]), fun h e => h (Sum.inr.inj e)⟩
theorem encL_keys (ns : List Str) : (encL ns).map (fun kv => kV kv.1) = ns.map V.str := by
  unfold encL
  rw [List.map_map]; rfl
theorem encL_len (ns : List Str) : (encL ns).length = ns.length := by
  unfold encL
  rw [List.length_map]
def spLiving : Sp := fun vs H Q _ => ∃ (l : Addr) (ds : List Deed), vs = [.ref l] ∧ DeedsAt H l ds ∧ Hist ds ∧ ds.length ≤ 100 ∧ ∀ p H', Same H H' → H p = none → H' p = some (.lst ((sortS (liv ds)).map V.str)) → Q (.ref p) H'
theorem Hist.liv_take {ds : List Deed} (h : Hist ds) (i : Nat) : (liv (ds.take i)).length ≤ ds.length := Nat.le_trans (h.take i).liv_len (by rw [List.length_take]; omega)
section
variable {P : Program} {w : World} {K : PySem.W.Frag} {mg : Str → Option Value} {base : Heap}
theorem scLiving : FnScope ["deeds", "found", "deed"] ["deeds"] (defScope sLiving) := ⟨rfl, rfl, rfl, by decide +kernel, rfl, by decide +kernel, by decide +kernel⟩
theorem ok_living {f : Addr} {fd : FuncData} {k : Nat} (F : Fun K "_law_living" "_law_living" sLiving f fd) (B : Blt mg) (bs : mg "sorted" = none) : FnOk P w K mg base CX0 (k + 1) f fd ["deeds"] spLiving := by
  refine F.ok scLiving (fun vs H Q E h => ?_) (fun cdv A outer s H vs Q E hr h => ?_)
  · obtain ⟨l, ds, rfl, _⟩ := h
    rfl
  · obtain ⟨l, ds, rfl, ⟨qs, e1, e2⟩, hH, hl, q⟩ := h
    have hu := hu_of hr
    have hu64 := hr.units
    refine ⟨_, pss_cons (ps_set (i := 1) scLiving.nd rfl (.inl rfl) pe_dnewK)
      (pss_cons (ps_for PassesOwn.never rfl (pi_list (pv 0)) (pg_name (i := 2) scLiving.nd rfl (.inl rfl))
        (pss_one (ps_if (pt_cmpR op_eq (pe_ix ix_tup (pv 2) pe_int (fun _ _ => rfl)) pe_str (nomark _))
          (pss_one (ps_dput hu (pv 1) (pe_ix ix_tup (pv 2) pe_int (fun _ _ => rfl)) pe_bl rfl))
          (pss_one (ps_expr (pe_dpop1 (pv 1) (pe_ix ix_tup (pv 2) pe_int (fun _ _ => rfl)) ⟨rfl, by rfl, by rfl, by rfl⟩))))))
      (pss_one (ps_ret (pe_callB (cr_sortT hu64) (by rfl) bs (by decide +kernel) (pa_cons (pe_callTy (call_list_dK rfl) (by rfl) B.list PyProof.Rows.boot_list (pa_cons (pv 1) pa_nil)) pa_nil))))), ?_⟩
    refine rs_set ?_
    intro fo nfo
    refine rs_list l (qs.map V.ref) (fun Q1 q1 => ⟨_, rfl, q1⟩) (fun i σ' H' => ∃ o2, σ' = [some (.ref l), some (.ref fo), o2] ∧ Same H H' ∧ H' fo = some (.dK (encL (liv (ds.take i)))))
      ⟨_, rfl, same_upd nfo, upd_same⟩ (fun i σ' H' _ ⟨_, _, sx, _⟩ => sql_of (sx _ _ e1)) ?_ ?_
    · rintro i x σ' H' hx ⟨o2, rfl, sx, eF⟩
      obtain ⟨qd, hq, rfl⟩ := map_get hx
      obtain ⟨d, hd, ed⟩ := paired_get e2 hq
      have ed := ed.keep sx
      have hll := hH.liv_take i
      obtain ⟨more, em⟩ := ed.two (K := K)
      refine r_gname ?_
      refine ⟨.ref qd, rfl, qd, _, 0, .str d.word, rfl, rfl, sqt_of em, atI_nat (j := 0) rfl, rfl, _, congrArg V.bl (word_come d), ?_⟩
      have sput : ∀ o : HO, Same H (upd H' fo o) := fun o b u e => by
        rw [upd_ne (ne_of_none e nfo)]; exact sx _ _ e
      have et : liv (ds.take (i + 1)) = livStep (liv (ds.take i)) d := by rw [take_snoc hd, liv_snoc]
      cases d with
      | come n ts =>
        obtain ⟨hn, hnew, _, _⟩ := hH.come_at hd
        show if true = true then _ else _
        rw [if_pos rfl]
        refine ⟨.ref fo, rfl, .ref qd, rfl, qd, _, 1, .str n, rfl, rfl, sqt_of em, atI_nat (j := 1) rfl, fo, _, rfl, DPut.k (k := Sum.inr n) eF (smallM (by rw [encL_len]; omega)), _, rfl, sput _, ?_⟩
        rw [upd_same, encL_new (fun m => hnew ((hH.take i).liv_came n m)), et]; rfl
      | die n =>
        have hlv := hH.die_at hd
        show if false = true then _ else _
        rw [if_neg Bool.false_ne_true]
        refine ⟨.ref fo, rfl, fo, rfl, .inl ⟨_, .inl eF⟩, .ref qd, rfl, qd, _, 1, .str n, rfl, rfl, sqt_of em, atI_nat (j := 1) rfl, _, Sum.inr n, .bl true, eF, rfl, by rw [encL_val, if_pos hlv], _, rfl, sput _, ?_⟩
        rw [upd_same, encL_drop, et]; rfl
    · rintro σ' H' ⟨o2, rfl, sx, eF⟩
      rw [List.length_map, Paired.length e2, List.take_length] at eF
      have hll := hH.liv_len
      refine ⟨.ref fo, rfl, fo, _, rfl, eF, fun p1 n1 => ?_⟩
      rw [encL_keys]
      refine ⟨p1, liv ds, rfl, sql_of upd_same, Nat.le_of_lt (smallM (by omega)), fun p2 n2 => ?_⟩
      have s2 := (sx.trans (same_upd (o := .lst ((liv ds).map V.str)) n1)).trans (same_upd (o := .lst ((sortS (liv ds)).map V.str)) n2)
      exact q p2 _ s2 ((sx.trans (same_upd n1)).free n2) upd_same
end
end Hw

set_option Elab.async false
set_option linter.all false
set_option maxRecDepth 100000
set_option maxHeartbeats 4000000
namespace Hw
open PySem L2 PyProof.Rows
abbrev sElder : Stmt := topS 29
abbrev sCounts : Stmt := topS 30
/-! counts of elder ties -/
def cntStep (c : Str → Nat) : Deed → Str → Nat
  | .come n ts => fun z => (if z = n then ts.length else c z) + if z ∈ ts then 1 else 0
  | .die _ => c
def cntD (ds : List Deed) : Str → Nat := ds.foldl cntStep fun _ => 0
theorem cnt_snoc (ds : List Deed) (d : Deed) : cntD (ds ++ [d]) = cntStep (cntD ds) d := by
  unfold cntD
  rw [List.foldl_append]; rfl
def encF' (ns : List Str) (g : Str → V) : List (Key × V) := ns.map fun n => ((Sum.inr n : Key), g n)
theorem encF_val (ns : List Str) (g : Str → V) (z : Str) : valV (encF' ns g) (Sum.inr z) = if z ∈ ns then some (g z) else none := valV_names (g := g) z
theorem encF_new {ns : List Str} {g : Str → V} {z : Str} {v : V} (h : z ∉ ns) : putK (encF' ns g) (Sum.inr z) v = encF' (ns ++ [z]) fun y => if y = z then v else g y := by
  rw [putK_new _ (by rw [encF_val, if_neg h])]
  unfold encF'
  rw [List.map_append]
  congr 1
  · exact List.map_congr_left fun n hn => by
      show _ = ((Sum.inr n : Key), if n = z then v else g n)
      rw [if_neg (fun e => h (by rw [← e]; exact hn))]
  · simp
theorem encF_old {ns : List Str} {g : Str → V} {z : Str} {v : V} (h : z ∈ ns) : putK (encF' ns g) (Sum.inr z) v = encF' ns fun y => if y = z then v else g y := by
  unfold putK
  rw [valV_any, encF_val, if_pos h]
  show (if true = true then _ else _) = _
  rw [if_pos rfl]
  unfold encF'
  rw [List.map_map]
  refine List.map_congr_left fun n _ => ?_
  show (if (Sum.inr n : Key) = Sum.inr z then ((Sum.inr n : Key), v) else _) = ((Sum.inr n : Key), if n = z then v else g n)
  by_cases e : n = z
  · rw [if_pos (by rw [e]), if_pos e]
  · rw [if_neg (fun q => e (Sum.inr.inj q)), if_neg e]
theorem encF_congr {ns : List Str} {f g : Str → V} (h : ∀ n ∈ ns, f n = g n) : encF' ns f = encF' ns g := List.map_congr_left fun n hn => by rw [h n hn]
theorem encF_len (ns : List Str) (g : Str → V) : (encF' ns g).length = ns.length := List.length_map _
abbrev natV (c : Str → Nat) : Str → V := fun z => V.int (c z : Nat)
theorem Hist.came_take {ds : List Deed} (h : Hist ds) (i : Nat) : (cameD (ds.take i)).length ≤ ds.length := Nat.le_trans (came_len _) (by rw [List.length_take]; omega)
def spCounts : Sp := fun vs H Q _ => ∃ (l : Addr) (ds : List Deed), vs = [.ref l] ∧ DeedsAt H l ds ∧ Hist ds ∧ ds.length ≤ 100 ∧ ∀ d H', Same H H' → H d = none → H' d = some (.dK (encF' (cameD ds) (natV (cntD ds)))) → Q (.ref d) H'
def spDead : Sp := fun vs H Q _ => ∃ (l : Addr) (ds : List Deed), vs = [.ref l] ∧ DeedsAt H l ds ∧ Hist ds ∧ ds.length ≤ 100 ∧ ∀ p H', Same H H' → H p = none → H' p = some (.lst ((sortS (deadD ds)).map V.str)) → Q (.ref p) H'
def elderT (ds : List Deed) : List Tie := ds.flatMap fun d => d.ties.map fun t => tieOf d.name t
theorem elder_snoc (ds : List Deed) (d : Deed) : elderT (ds ++ [d]) = elderT ds ++ d.ties.map fun t => tieOf d.name t := by
  unfold elderT
  rw [List.flatMap_append]; simp
theorem elder_len {ds : List Deed} (h : Hist ds) (hl : ds.length ≤ 100) : ∀ i, (elderT (ds.take i)).length ≤ 100 * i
  | 0 => Nat.zero_le _
  | i + 1 => by
    have ih := elder_len h hl i
    cases e : ds[i]? with
    | none =>
      rw [List.take_of_length_le (Nat.le_succ_of_le (List.getElem?_eq_none_iff.mp e)), ← List.take_of_length_le (i := i) (List.getElem?_eq_none_iff.mp e)]
      omega
    | some d =>
      rw [take_snoc e, elder_snoc, List.length_append, List.length_map]
      have := (h.each d (List.mem_of_getElem? e)).2.1
      omega
theorem dead_len {ds : List Deed} : (deadD ds).length ≤ ds.length := by
  unfold deadD
  induction ds with
  | nil => exact Nat.le_refl _
  | cons d ds ih =>
    rw [List.flatMap_cons, List.length_append, List.length_cons]
    have : (if d.isCome = true then [] else [d.name]).length ≤ 1 := by split <;> simp
    omega
def spElder : Sp := fun vs H Q _ => ∃ (l : Addr) (ds : List Deed), vs = [.ref l] ∧ DeedsAt H l ds ∧ Hist ds ∧ ds.length ≤ 100 ∧ ∀ p H', Same H H' → H p = none → WebAt H' p (sortS (cameD ds)) (sortP (elderT ds)) → Q (.ref p) H'
section
variable {P : Program} {w : World} {K : PySem.W.Frag} {mg : Str → Option Value} {base : Heap}
theorem scCounts : FnScope ["deeds", "found", "deed", "other"] ["deeds"] (defScope sCounts) := ⟨rfl, rfl, rfl, by decide +kernel, rfl, by decide +kernel, by decide +kernel⟩
theorem ok_counts {f : Addr} {fd : FuncData} {k : Nat} (F : Fun K "_law_counts" "_law_counts" sCounts f fd) (B : Blt mg) : FnOk P w K mg base CX0 (k + 1) f fd ["deeds"] spCounts := by
  refine F.ok scCounts (fun vs H Q E h => ?_) (fun cdv A outer s H vs Q E hr h => ?_)
  · obtain ⟨l, ds, rfl, _⟩ := h
    rfl
  · obtain ⟨l, ds, rfl, ⟨qs, e1, e2⟩, hH, hl, q⟩ := h
    have hu := hu_of hr
    refine ⟨_, pss_cons (ps_set (i := 1) scCounts.nd rfl (.inl rfl) pe_dnewK)
      (pss_cons (ps_for PassesOwn.never rfl (pi_list (pv 0)) (pg_name (i := 2) scCounts.nd rfl (.inl rfl))
        (pss_one (ps_if (pt_cmpR op_eq (pe_ix ix_tup (pv 2) pe_int (fun _ _ => rfl)) pe_str (nomark _))
          (pss_cons (ps_dput hu (pv 1) (pe_ix ix_tup (pv 2) pe_int (fun _ _ => rfl)) (pe_callB call_len_seq (by rfl) B.len PySem.boot_len (pa_cons (pe_ix ix_tup (pv 2) pe_int (fun _ _ => rfl)) pa_nil)) rfl)
          (pss_one (ps_for PassesOwn.never rfl (pi_tup (pe_ix ix_tup (pv 2) pe_int (fun _ _ => rfl))) (pg_name (i := 3) scCounts.nd rfl (.inl rfl))
            (pss_one (ps_dput hu (pv 1) (pv 3) (pe_op op_add (pe_dget hu (pv 1) (pv 3) (fun _ _ => rfl)) pe_int) rfl))))) pss_nil)))
      (pss_one (ps_ret (pv 1)))), ?_⟩
    refine rs_set ?_
    intro fo nfo
    refine rs_list l (qs.map V.ref) (fun Q1 q1 => ⟨_, rfl, q1⟩) (fun i σ' H' => ∃ o2 o3, σ' = [some (.ref l), some (.ref fo), o2, o3] ∧ Same H H' ∧ H' fo = some (.dK (encF' (cameD (ds.take i)) (natV (cntD (ds.take i))))))
      ⟨_, _, rfl, same_upd nfo, upd_same⟩ (fun i σ' H' _ ⟨_, _, _, sx, _⟩ => sql_of (sx _ _ e1)) ?_ ?_
    · rintro i x σ' H' hx ⟨o2, o3, rfl, sx, eF⟩
      obtain ⟨qd, hq, rfl⟩ := map_get hx
      obtain ⟨d, hd, ed⟩ := paired_get e2 hq
      have hcl := hH.came_take i
      obtain ⟨more, em⟩ := (ed.keep sx).two (K := K)
      refine r_gname ?_
      refine ⟨.ref qd, rfl, qd, _, 0, .str d.word, rfl, rfl, sqt_of em, atI_nat (j := 0) rfl, rfl, _, congrArg V.bl (word_come d), ?_⟩
      have ec : cameD (ds.take (i + 1)) = cameD (ds.take i) ++ if d.isCome = true then [d.name] else [] := by rw [take_snoc hd, came_snoc]
      have eg : cntD (ds.take (i + 1)) = cntStep (cntD (ds.take i)) d := by rw [take_snoc hd, cnt_snoc]
      cases d with
      | come n ts =>
        obtain ⟨hn, hnew, hasc, hsub⟩ := hH.come_at hd
        obtain ⟨tq, g1, g2⟩ := ed
        have ec : cameD (ds.take (i + 1)) = cameD (ds.take i) ++ [n] := ec
        show if true = true then _ else _
        rw [if_pos rfl]
        refine ⟨.ref qd, rfl, qd, _, 2, .ref tq, rfl, rfl, sqt_of (sx _ _ g1), rfl, tq, _, rfl, .inr (sqt_of (sx _ _ g2)), .ref fo, rfl, .ref qd, rfl, qd, _, 1, .str n, rfl, rfl, sqt_of (sx _ _ g1), rfl, fo, _, rfl, DPut.k (k := Sum.inr n) eF (smallM (by rw [encF_len]; omega)), ?_⟩
        rw [encF_new hnew, ← ec, List.length_map]
        have sput : Same H (upd H' fo (.dK (encF' (cameD (ds.take (i + 1))) fun y => if y = n then V.int ↑ts.length else natV (cntD (ds.take i)) y))) := fun b u e => by
          rw [upd_ne (ne_of_none e nfo)]; exact sx _ _ e
        refine ⟨.ref qd, rfl, qd, _, 2, .ref tq, rfl, rfl, sqt_of (sput _ _ g1), rfl, tq, rfl, ⟨_, sqt_of (sput _ _ g2)⟩, for_tup (xs := ts.map V.str) (fun j σ' H' => ∃ o3, σ' = [some (.ref l), some (.ref fo), some (.ref qd), o3] ∧ Same H H' ∧ H' fo = some (.dK (encF' (cameD (ds.take (i + 1))) (natV fun z => (if z = n then ts.length else cntD (ds.take i) z) + if z ∈ ts.take j then 1 else 0))))
          ⟨_, rfl, sput, ?_⟩ (fun j σ' H' _ ⟨_, _, sx, _⟩ => sqt_of (sx _ _ g2)) ?_ ?_⟩
        · rw [upd_same]
          refine congrArg (fun z => some (HO.dK z)) (encF_congr fun y _ => ?_)
          by_cases hy : y = n
          · simp [hy]
          · simp [hy]
        · rintro j v σ2 H2 hv ⟨o3', rfl, sx2, eF2⟩
          obtain ⟨t, ht, rfl⟩ := map_get hv
          have htm := List.mem_of_getElem? ht
          have hmem : t ∈ cameD (ds.take (i + 1)) := by rw [ec]; exact List.mem_append_left _ ((hH.take i).liv_came t (hsub t htm))
          have hcl2 := hH.came_take (i + 1)
          refine r_gname ?_
          have hnd := hasc.nodup
          have g0 : DGet H2 fo (.str t) (some (natV (fun z => (if z = n then ts.length else cntD (ds.take i) z) + if z ∈ ts.take j then 1 else 0) t)) := by
            have := DGet.k (k := Sum.inr t) eF2
            rw [encF_val, if_pos hmem] at this
            exact this
          refine ⟨.ref fo, rfl, .str t, rfl, fo, _, rfl, g0, _, _, rfl, rfl, .ref fo, rfl, .str t, rfl, fo, _, rfl, DPut.k (k := Sum.inr t) eF2 (smallM (by rw [encF_len]; omega)), _, rfl, fun b u e => ?_, ?_⟩
          · rw [upd_ne (ne_of_none e nfo)]; exact sx2 _ _ e
          · rw [upd_same, encF_old hmem]
            refine congrArg (fun z => some (HO.dK z)) (encF_congr fun y _ => ?_)
            have htk : ts.take (j + 1) = ts.take j ++ [t] := take_snoc ht
            have hnt : t ∉ ts.take j := nodup_take hnd ht
            by_cases hy : y = t
            · subst hy
              simp [htk, hnt]
            · have : (y ∈ ts.take (j + 1)) ↔ (y ∈ ts.take j) := by rw [htk, List.mem_append, List.mem_singleton]; simp [hy]
              simp [hy, this]
        · rintro σ2 H2 ⟨o3', rfl, sx2, eF2⟩
          rw [List.length_map, List.take_length] at eF2
          refine ⟨_, _, rfl, sx2, ?_⟩
          rw [eF2, eg]; rfl
      | die n =>
        show if false = true then _ else _
        rw [if_neg Bool.false_ne_true]
        refine ⟨_, _, rfl, sx, ?_⟩
        rw [eF, ec, eg]
        show _ = some (HO.dK (encF' (_ ++ []) _))
        rw [List.append_nil]; rfl
    · rintro σ' H' ⟨o2, o3, rfl, sx, eF⟩
      rw [List.length_map, Paired.length e2, List.take_length] at eF
      exact ⟨.ref fo, rfl, q fo H' sx nfo eF⟩
end
end Hw

set_option Elab.async false
set_option linter.all false
set_option maxRecDepth 100000
set_option maxHeartbeats 4000000
namespace Hw
open PySem L2 PyProof.Rows
section
variable {P : Program} {w : World} {K : PySem.W.Frag} {mg : Str → Option Value} {base : Heap}
theorem word_die (d : Deed) : decide (V.str d.word = V.str (Str.ofString "die")) = !d.isCome := by
  cases d with
  | come n ts =>
    refine decide_eq_false fun e => ?_
    injection e with e
    exact absurd (show sCome = Str.ofString "die" from e) (by decide +kernel)
  | die n => exact decide_eq_true rfl
theorem scElder : FnScope ["deeds", "places", "ties", "deed", "other"] ["deeds"] (defScope sElder) := ⟨rfl, rfl, rfl, by decide +kernel, rfl, by decide +kernel, by decide +kernel⟩
theorem ok_elder {f fE : Addr} {fd fdE : FuncData} {k : Nat} (F : Fun K "_law_elder" "_law_elder" sElder f fd) (B : Blt mg) (bs : mg "sorted" = none)
    (GE : FnOk P w K mg base CX0 k fE fdE ["one", "other"] spTie) (gE : mg "_law_tie" = some (.ref fE)) (kE : PySem.W.keepIn K (.ref fE) = true) (bE : Binds K fdE ["one", "other"] []) : FnOk P w K mg base CX0 (k + 1) f fd ["deeds"] spElder := by
  refine F.ok scElder (fun vs H Q E h => ?_) (fun cdv A outer s H vs Q E hr h => ?_)
  · obtain ⟨l, ds, rfl, _⟩ := h
    rfl
  · obtain ⟨l, ds, rfl, ⟨qs, e1, e2⟩, hH, hl, q⟩ := h
    have hu := hu_of hr
    have hu64 := hr.units
    refine ⟨_, pss_cons (ps_par (i := 1) (j := 2) rfl scElder.nd rfl rfl (by decide) rfl rfl (pa_cons (pe_lst pa_nil) (pa_cons (pe_lst pa_nil) pa_nil)) rfl)
      (pss_cons (ps_for PassesOwn.never rfl (pi_list (pv 0)) (pg_name (i := 3) scElder.nd rfl (.inr rfl))
        (pss_one (ps_if (pt_cmpR op_eq (pe_ix ix_tup (pv 3) pe_int (fun _ _ => rfl)) pe_str (nomark _))
          (pss_cons (ps_expr (pe_bm PySem.F.plainAttrs_list PySem.F.slot_list_append PySem.F.type_list_append mt_append (pv 1) (pa_cons (pe_ix ix_tup (pv 3) pe_int (fun _ _ => rfl)) pa_nil)))
          (pss_one (ps_expr (pe_bm PySem.F.plainAttrs_list PySem.F.slot_list_extend PySem.F.type_list_extend mt_extend (pv 2) (pa_cons
            (pe_lc (own := [("other", 4)]) (g := gName 4) (tt := tYes) (te := tCall spTie [] E0 (tCons (tOp (rIxT K) (tVar 3) (tC (.int 1))) (tCons (tVar 4) tNil))) rfl scElder.nd (pi_tup (pe_ix ix_tup (pv 3) pe_int (fun _ _ => rfl)))
              (blkOk_by (N := ["deeds", "places", "ties", "deed", "other"]) (sc := defScope sElder) (by decide +kernel)) (fun _ _ _ _ _ => pg_name (i := 4) scElder.nd rfl (Or.inl rfl)) (fun _ _ _ _ _ => pts_nil)
              (fun _ _ _ _ _ => pe_call GE hr (by rfl) gE kE bE .nil pass0 (pa_cons (pe_ix ix_tup (pv 3) pe_int (fun _ _ => rfl)) (pa_cons (pv 4) pa_nil)))) pa_nil))))) pss_nil)))
      (pss_one (ps_ret (pe_tup (pa_cons (pe_callB (cr_sortT hu64) (by rfl) bs (by decide +kernel) (pa_cons (pv 1) pa_nil)) (pa_cons (pe_callB (cr_sortTP hu64) (by rfl) bs (by decide +kernel) (pa_cons (pv 2) pa_nil)) pa_nil)))))), ?_⟩
    refine rs_par ?_
    refine ⟨Nat.zero_le _, fun pl npl => ⟨Nat.zero_le _, fun tl ntl => ⟨_, _, rfl, ?_⟩⟩⟩
    have npt : pl ≠ tl := ne_of_none upd_same ntl
    have ntl0 : H tl = none := (same_upd npl).free ntl
    have s0 := (same_upd (o := .lst []) npl).trans (same_upd (o := .lst []) ntl)
    have e0p : (upd (upd H pl (.lst [])) tl (.lst [])) pl = some (.lst []) := (same_upd ntl) _ _ upd_same
    have e0t : (upd (upd H pl (.lst [])) tl (.lst [])) tl = some (.lst []) := upd_same
    generalize (upd (upd H pl (.lst [])) tl (.lst [])) = H0 at s0 e0p e0t ⊢
    refine rs_list l (qs.map V.ref) (fun Q1 q1 => ⟨_, rfl, q1⟩) (fun i σ' H' => ∃ o3 ts, σ' = [some (.ref l), some (.ref pl), some (.ref tl), o3, none] ∧ Same H H' ∧ H' pl = some (.lst ((cameD (ds.take i)).map V.str)) ∧ H' tl = some (.lst (ts.map V.ref)) ∧ Paired (TieL H') ts (elderT (ds.take i)))
      ⟨_, [], rfl, s0, e0p, e0t, .nil⟩ (fun i σ' H' _ ⟨_, _, _, sx, _⟩ => sql_of (sx _ _ e1)) ?_ ?_
    · rintro i x σ' H' hx ⟨o3, ts0, rfl, sx, ep, et, ht⟩
      obtain ⟨qd, hq, rfl⟩ := map_get hx
      obtain ⟨d, hd, ed⟩ := paired_get e2 hq
      have hi := (List.getElem?_eq_some_iff.mp hd).1
      have hcl := hH.came_take i
      have hel := elder_len hH hl i
      obtain ⟨more, em⟩ := (ed.keep sx).two (K := K)
      refine r_gname ?_
      refine ⟨.ref qd, rfl, qd, _, 0, .str d.word, rfl, rfl, sqt_of em, atI_nat (j := 0) rfl, rfl, _, congrArg V.bl (word_come d), ?_⟩
      have ec : cameD (ds.take (i + 1)) = cameD (ds.take i) ++ if d.isCome = true then [d.name] else [] := by rw [take_snoc hd, came_snoc]
      have ee : elderT (ds.take (i + 1)) = elderT (ds.take i) ++ d.ties.map fun t => tieOf d.name t := by rw [take_snoc hd, elder_snoc]
      have hev := hH.each d (List.mem_of_getElem? hd)
      cases d with
      | come n ts =>
        obtain ⟨tq, g1, g2⟩ := ed
        have ec : cameD (ds.take (i + 1)) = cameD (ds.take i) ++ [n] := ec
        have ee : elderT (ds.take (i + 1)) = elderT (ds.take i) ++ ts.map fun t => tieOf n t := ee
        have hts : ts.length ≤ ds.length := hev.2.1
        show if true = true then _ else _
        rw [if_pos rfl]
        refine rs_bm ?_
        refine ⟨.ref pl, rfl, .inl ⟨rfl, _, sql_of ep⟩, .ref qd, rfl, qd, _, 1, .str n, rfl, rfl, sqt_of (sx _ _ g1), rfl, pl, _, _, rfl, rfl, ep, smallM (by rw [List.length_map]; omega), ?_⟩
        have ep1 : (upd H' pl (.lst ((cameD (ds.take i)).map V.str ++ [.str n]))) pl = some (.lst ((cameD (ds.take (i + 1))).map V.str)) := by rw [upd_same, ec, List.map_append]; rfl
        have k1 : ∀ {b : Addr} {o : HO}, b ≠ pl → H' b = some o → (upd H' pl (.lst ((cameD (ds.take i)).map V.str ++ [.str n]))) b = some o := fun {b o} hb e => by rw [upd_ne hb]; exact e
        have sx1 : Same H (upd H' pl (.lst ((cameD (ds.take i)).map V.str ++ [.str n]))) := fun b o e => k1 (ne_of_none e npl) (sx _ _ e)
        have et1 := k1 (Ne.symm npt) et
        have ht1 : Paired (TieL (upd H' pl (.lst ((cameD (ds.take i)).map V.str ++ [.str n])))) ts0 (elderT (ds.take i)) := paired_mono (fun q t e => k1 (fun z => by
          have e : H' q = _ := e
          rw [z, ep] at e
          cases e) e) ht
        generalize (upd H' pl (.lst ((cameD (ds.take i)).map V.str ++ [.str n]))) = H1 at ep1 sx1 et1 ht1 ⊢
        clear em ep et ht k1
        refine ⟨.ref tl, rfl, .inl ⟨rfl, _, sql_of et1⟩, .ref qd, rfl, qd, _, 2, .ref tq, rfl, rfl, sqt_of (sx1 _ _ g1), rfl, tq, rfl, ⟨_, sqt_of (sx1 _ _ g2)⟩, fun D nD => lc_tup (xs := ts.map V.str) (fun j H' => ∃ us, Same H1 H' ∧ H' D = some (.lst (us.map V.ref)) ∧ Paired (TieL H') us ((ts.take j).map fun t => tieOf n t)) ⟨[], same_upd nD, upd_same, .nil⟩ (fun j H' _ ⟨_, s, _⟩ => sqt_of (s _ _ (sx1 _ _ g2))) ?_ ?_⟩
        · rintro j v H2 hv ⟨us, s2, eD, hu2⟩
          obtain ⟨t, htj, rfl⟩ := map_get hv
          have hul : us.length ≤ 100 := by
            rw [Paired.length hu2, List.length_map, List.length_take]
            omega
          refine ⟨rfl, r_yes ?_⟩
          refine ⟨.ref qd, rfl, qd, _, 1, .str n, rfl, rfl, sqt_of (s2 _ _ (sx1 _ _ g1)), rfl, .str t, rfl, n, t, rfl, fun p np => ?_⟩
          have s3 := same_upd (o := .tup [.str (tieOf n t).1, .str (tieOf n t).2]) np
          have npD : p ≠ D := fun z => by rw [z, eD] at np; cases np
          refine ⟨_, s3 _ _ eD, smallM (by rw [List.length_map]; omega), us ++ [p], fun b o e => ?_, by rw [upd_same, List.map_append]; rfl, ?_⟩
          · rw [upd_ne (ne_of_none e nD)]; exact s3 _ _ (s2 _ _ e)
          · rw [take_snoc htj, List.map_append]
            refine paired_snoc ?_ (paired_mono (fun q t e => ?_) hu2)
            · show (upd _ D _) p = _
              rw [upd_ne npD, upd_same]
            · have e : H2 q = _ := e
              show (upd _ D _) q = _
              rw [upd_ne (fun z => by rw [z, eD] at e; cases e)]
              exact s3 _ _ e
        · rintro H2 ⟨us, s2, eD, hu2⟩
          rw [List.length_map, List.take_length] at hu2
          have hul : us.length ≤ 100 := by
            rw [Paired.length hu2, List.length_map]
            omega
          have htl : ts0.length = (elderT (ds.take i)).length := Paired.length ht1
          have et2 := s2 _ _ et1
          refine ⟨tl, D, _, _, rfl, rfl, et2, eD, Nat.le_of_lt (smallM (by rw [List.length_map, List.length_map]; omega)), _, ts0 ++ us, rfl, fun b o e => ?_, ?_, by rw [upd_same, List.map_append], ?_⟩
          · rw [upd_ne (ne_of_none e ntl0)]; exact s2 _ _ (sx1 _ _ e)
          · rw [upd_ne npt]; exact s2 _ _ ep1
          · have kt : ∀ (q : Addr) (t : Tie), TieL H2 q t → TieL (upd H2 tl (.lst (ts0.map V.ref ++ us.map V.ref))) q t := fun q t e => by
              have e : H2 q = _ := e
              show (upd _ tl _) q = _
              rw [upd_ne (fun z => by rw [z, et2] at e; cases e)]
              exact e
            rw [ee]
            exact paired_app (paired_mono (fun q t e => kt q t (s2 _ _ e)) ht1) (paired_mono kt hu2)
      | die n =>
        show if false = true then _ else _
        rw [if_neg Bool.false_ne_true]
        refine ⟨_, ts0, rfl, sx, ?_, et, ?_⟩
        · rw [ep, ec]
          show _ = some (HO.lst ((_ ++ []).map V.str))
          rw [List.append_nil]
        · rw [ee]
          show Paired _ _ (_ ++ [])
          rw [List.append_nil]
          exact ht
    · rintro σ' H' ⟨o3, ts0, rfl, sx, ep, et, ht⟩
      have el : (qs.map V.ref).length = ds.length := by rw [List.length_map]; exact Paired.length e2
      have hel := elder_len hH hl ds.length
      have hcl := came_len ds
      rw [el] at ep ht
      rw [List.take_length] at ep ht hel
      refine ⟨.ref pl, rfl, pl, cameD ds, rfl, sql_of ep, Nat.le_of_lt (smallM (by omega)), fun p1 n1 => ?_⟩
      have s1 := same_upd (o := .lst ((sortS (cameD ds)).map V.str)) n1
      refine ⟨.ref tl, rfl, tl, ts0, elderT ds, rfl, sql_of (s1 _ _ et), paired_mono (fun q t e => sqt_of (s1 _ _ e)) ht, Nat.le_of_lt (smallM (by omega)), fun p2 qs' n2 hq => ⟨by show 2 ≤ sizeLine; decide, fun p3 n3 => ?_⟩⟩
      have s2 := same_upd (o := .lst (qs'.map V.ref)) n2
      have s3 := same_upd (o := .tup [.ref p1, .ref p2]) n3
      refine q p3 _ (((sx.trans s1).trans s2).trans s3) (((sx.trans s1).trans s2).free n3) ⟨p1, p2, qs', upd_same, s3 _ _ (s2 _ _ upd_same), s3 _ _ upd_same, hq _ (paired_mono (fun q t e => s3 _ _ (s2 _ _ (s1 _ _ e))) ht)⟩
end
end Hw

set_option Elab.async false
set_option linter.all false
set_option maxRecDepth 100000
set_option maxHeartbeats 4000000
namespace Hw
open PySem L2 PyProof.Rows
abbrev sSome : Stmt := topS 23
theorem erase_map {α β : Type} (g : α → β) : ∀ (l : List α) (i : Nat), (l.map g).eraseIdx i = (l.eraseIdx i).map g
  | [], _ => rfl
  | _ :: _, 0 => rfl
  | x :: l, i + 1 => congrArg (g x :: ·) (erase_map g l i)
theorem erase_perm {α : Type} : ∀ (l : List α) (i : Nat) (h : i < l.length), (l[i] :: l.eraseIdx i).Perm l
  | x :: l, 0, _ => .refl _
  | x :: l, i + 1, h => by
    have h' : i < l.length := by rw [List.length_cons] at h; omega
    have e1 : (x :: l)[i + 1] = l[i] := rfl
    have e2 : (x :: l).eraseIdx (i + 1) = x :: l.eraseIdx i := rfl
    rw [e1, e2]
    exact (List.Perm.swap _ _ _).trans ((erase_perm l i h').cons x)
def spSome : Sp := fun vs H Q _ => ∃ (a b : Addr) (ns : List Str) (m N : Nat), vs = [.ref a, .ref b, .int m] ∧ Pot H a N ∧ H b = some (.lst (ns.map V.str)) ∧ N < 900000000 ∧ m ≤ ns.length ∧ ns.length ≤ 1000 ∧
  ∀ p (zs : List Str) H', (∀ z ∈ zs, z ∈ ns) → zs.length = m → (ns.Nodup → zs.Nodup) → H p = none → H' p = some (.lst (zs.map V.str)) → SameX a H H' → Pot H' a (N + m) → Q (.ref p) H'
section
variable {P : Program} {w : World} {K : PySem.W.Frag} {mg : Str → Option Value} {base : Heap}
theorem scSome : FnScope ["pot", "pool", "many", "left", "found", "lap"] ["pot", "pool", "many"] (defScope sSome) := ⟨rfl, rfl, rfl, by decide +kernel, rfl, by decide +kernel, by decide +kernel⟩
theorem ok_some {f fT : Addr} {fd fdT : FuncData} {k : Nat} (F : Fun K "_law_some" "_law_some" sSome f fd) (B : Blt mg) (GT : FnOk P w K mg base CX0 k fT fdT ["pot", "upto"] spTake) (gT : mg "_law_take" = some (.ref fT)) (kT : PySem.W.keepIn K (.ref fT) = true) (bT : Binds K fdT ["pot", "upto"] []) :
    FnOk P w K mg base CX0 (k + 1) f fd ["pot", "pool", "many"] spSome := by
  refine F.ok scSome (fun vs H Q E h => ?_) (fun cdv A outer s H vs Q E hr h => ?_)
  · obtain ⟨a, b, ns, m, N, rfl, _⟩ := h
    rfl
  · obtain ⟨a, b, ns, m, N, rfl, hP, hb, hN, hm, hl, q⟩ := h
    refine ⟨_, pss_cons (ps_par (i := 3) (j := 4) rfl scSome.nd rfl rfl (by decide) rfl rfl (pa_cons (pe_callTy call_list_of (by rfl) B.list PyProof.Rows.boot_list (pa_cons (pv 1) pa_nil)) (pa_cons (pe_lst pa_nil) pa_nil)) rfl)
      (pss_cons (ps_for PassesOwn.never rfl (pi_range1 (by rfl) B.range (pa_cons (pv 2) pa_nil)) (pg_name (i := 5) scSome.nd rfl (.inl rfl))
        (pss_one (ps_expr (pe_bm PySem.F.plainAttrs_list PySem.F.slot_list_append PySem.F.type_list_append mt_append (pv 4)
          (pa_cons (pe_bm PySem.F.plainAttrs_list PySem.F.slot_list_pop PySem.F.type_list_pop mt_popAt (pv 3) (pa_cons (pe_call GT hr (by rfl) gT kT bT .nil pass0 (pa_cons (pv 0) (pa_cons (pe_callB call_len_seq (by rfl) B.len PySem.boot_len (pa_cons (pv 3) pa_nil)) pa_nil))) pa_nil)) pa_nil)))))
      (pss_one (ps_ret (pv 4)))), ?_⟩
    refine rs_par ?_
    refine ⟨.ref b, rfl, b, ns.map V.str, rfl, .inl (sql_of hb), fun l nl => ⟨Nat.zero_le _, fun fo nfo => ⟨_, _, rfl, ?_⟩⟩⟩
    have s1 : Same H (upd (upd H l (.lst (ns.map V.str))) fo (.lst [])) := (same_upd nl).trans (same_upd nfo)
    have el : (upd (upd H l (.lst (ns.map V.str))) fo (.lst [])) l = some (.lst (ns.map V.str)) := (same_upd nfo) _ _ upd_same
    have efo : (upd (upd H l (.lst (ns.map V.str))) fo (.lst [])) fo = some (.lst []) := upd_same
    have nfl : fo ≠ l := fun e => by rw [e, upd_same] at nfo; cases nfo
    have hfo0 : H fo = none := (same_upd nl).free nfo
    have hla : l ≠ a := fun e => hP.some (e ▸ nl)
    have hfa : fo ≠ a := fun e => hP.some (e ▸ hfo0)
    generalize (upd (upd H l (.lst (ns.map V.str))) fo (.lst [])) = H1 at s1 el efo ⊢
    refine rs_rng 0 (m : Int).toNat (fun H2 => H2 = H1) (fun i σ' H' => ∃ (o5 : Option V) (ls zs : List Str), σ' = [some (.ref a), some (.ref b), some (.int m), some (.ref l), some (.ref fo), o5] ∧ SameX a H H' ∧ Pot H' a (N + i) ∧ H' l = some (.lst (ls.map V.str)) ∧ ls.length + i = ns.length ∧ (∀ z ∈ ls, z ∈ ns) ∧ H' fo = some (.lst (zs.map V.str)) ∧ zs.length = i ∧ (∀ z ∈ zs, z ∈ ns) ∧ (ls ++ zs).Perm ns)
      (fun R hR => ⟨.int m, rfl, m, rfl, by omega, by omega, hR H1 rfl⟩) (fun H2 e => by subst e; exact ⟨_, ns, [], rfl, .of s1, hP.same s1, el, rfl, (fun z h => h), efo, rfl, (fun _ h => nomatch h), by rw [List.append_nil]⟩) ?_ ?_
    · rintro i σ' H' hi ⟨o5, ls, zs, rfl, sx, hp, el', hll, hls, ef', hzl, hzs, hpm⟩
      refine r_gname ?_
      refine ⟨.ref fo, rfl, .inl ⟨rfl, _, sql_of ef'⟩, .ref l, rfl, .inl ⟨rfl, _, sql_of el'⟩, .ref a, rfl, .ref l, rfl, l, ls.map V.str, rfl, .inl (sql_of el'), a, ((ls.map V.str).length : Int), N + i, rfl, hp, by omega, by rw [List.length_map]; omega, by rw [List.length_map]; omega, fun r H2 r0 r1 s2 hp2 => ?_⟩
      rw [List.length_map] at r1
      have hj : r.toNat < ls.length := by omega
      have el2 := s2 _ _ hla el'
      have ef2 := s2 _ _ hfa ef'
      refine ⟨l, ls.map V.str, r, r.toNat, .str ls[r.toNat], rfl, rfl, el2, by omega, by omega, ?_, by rw [List.getElem?_map, List.getElem?_eq_getElem hj]; rfl, ?_⟩
      · rw [List.length_map]; exact PySem.StrLaws.seqIndex_nonneg r0 (by omega)
      have hez : (ls.map V.str).eraseIdx r.toNat = (ls.eraseIdx r.toNat).map V.str := erase_map V.str ls r.toNat
      rw [hez]
      refine ⟨fo, _, _, rfl, rfl, by rw [upd_ne nfl]; exact ef2, small1000 (by rw [List.length_map]; omega), ?_⟩
      refine ⟨_, ls.eraseIdx r.toNat, zs ++ [ls[r.toNat]], rfl, fun c o hc e => ?_, ?_, ?_, ?_, fun z hz => hls z (List.mem_of_mem_eraseIdx hz), ?_, ?_, ?_, ?_⟩
      · have n1 : c ≠ fo := ne_of_none e hfo0
        have n2 : c ≠ l := ne_of_none e nl
        rw [upd_ne n1, upd_ne n2]
        exact s2 _ _ hc (sx _ _ hc e)
      · obtain ⟨xx, yy, zz, e, hh⟩ := hp2.ex
        exact ⟨⟨xx, yy, zz, by rw [upd_ne (Ne.symm hfa), upd_ne (Ne.symm hla)]; exact e, hh⟩⟩
      · rw [upd_ne (Ne.symm nfl), upd_same]
      · rw [List.length_eraseIdx_of_lt hj]; omega
      · rw [upd_same, List.map_append]; rfl
      · rw [List.length_append, hzl]; rfl
      · intro z hz
        rcases List.mem_append.mp hz with hz | hz
        · exact hzs z hz
        · rw [List.mem_singleton.mp hz]; exact hls _ (List.getElem_mem _)
      · refine .trans ?_ hpm
        have e1 : (ls[r.toNat] :: ls.eraseIdx r.toNat).Perm ls := erase_perm ls _ hj
        have e2 : (ls.eraseIdx r.toNat ++ (zs ++ [ls[r.toNat]])).Perm ((ls[r.toNat] :: ls.eraseIdx r.toNat) ++ zs) := by
          rw [← List.append_assoc]
          exact List.perm_append_comm.trans (by simp)
        exact e2.trans (e1.append_right zs)
    · rintro σ' H' ⟨o5, ls, zs, rfl, sx, hp, el', hll, hls, ef', hzl, hzs, hpm⟩
      have em : (m : Int).toNat = m := Int.toNat_natCast m
      rw [em] at hp hzl
      exact ⟨.ref fo, rfl, q fo zs H' hzs hzl (fun hn => ((hpm.nodup_iff.mpr hn) |> fun h => (List.nodup_append.mp h).2.1)) hfo0 ef' sx hp⟩
end
end Hw

set_option Elab.async false
set_option linter.all false
set_option maxRecDepth 100000
set_option maxHeartbeats 4000000
namespace Hw
open PySem L2 PyProof.Rows
abbrev sComeT : Stmt := topS 31
def spComeT : Sp := fun vs H Q _ => ∃ (a l : Addr) (ns : List Str) (wd : Bool) (N : Nat), vs = [.ref a, .ref l, .bl wd] ∧ Pot H a N ∧ N < 400000000 ∧ H l = some (.lst (ns.map V.str)) ∧ ns.Nodup ∧ (∀ z ∈ ns, NmX z) ∧ ns.length ≤ 100 ∧
  ∀ tq ts H', (∀ t ∈ ts, t ∈ ns) → Asc ts → (wd = true → ts.length ≤ 1) → H' tq = some (.tup (ts.map V.str)) → SameX a H H' → Pot H' a (N + 10) → Q (.ref tq) H'
theorem eqv_strs_nil (ns : List Str) : PyData.eqv (.list (ns.map PyData.str)) (.list []) = decide (ns = []) := by
  rw [PyData.eqv]
  cases ns with
  | nil => rfl
  | cons x xs => rfl
section
variable {P : Program} {w : World} {K : PySem.W.Frag} {mg : Str → Option Value} {base : Heap}
theorem scComeT : FnScope ["pot", "living", "wood"] ["pot", "living", "wood"] (defScope sComeT) := ⟨rfl, rfl, rfl, by decide +kernel, rfl, by decide +kernel, by decide +kernel⟩
theorem ok_comeT {f fT fO fS : Addr} {fd fdT fdO fdS : FuncData} {k : Nat} (F : Fun K "_law_come_ties" "_law_come_ties" sComeT f fd) (B : Blt mg) (bs : mg "sorted" = none) (bt : mg "tuple" = none)
    (GT : FnOk P w K mg base CX0 k fT fdT ["pot", "upto"] spTake) (gT : mg "_law_take" = some (.ref fT)) (kT : PySem.W.keepIn K (.ref fT) = true) (bT : Binds K fdT ["pot", "upto"] [])
    (GO : FnOk P w K mg base CX0 k fO fdO ["pot", "some"] (spOf2 K)) (gO : mg "_law_of" = some (.ref fO)) (kO : PySem.W.keepIn K (.ref fO) = true) (bO : Binds K fdO ["pot", "some"] [])
    (GS : FnOk P w K mg base CX0 k fS fdS ["pot", "pool", "many"] spSome) (gS : mg "_law_some" = some (.ref fS)) (kS : PySem.W.keepIn K (.ref fS) = true) (bS : Binds K fdS ["pot", "pool", "many"] []) :
    FnOk P w K mg base CX0 (k + 1) f fd ["pot", "living", "wood"] spComeT := by
  refine F.ok scComeT (fun vs H Q E h => ?_) (fun cdv A outer s H vs Q E hr h => ?_)
  · obtain ⟨a, l, ns, wd, N, rfl, _⟩ := h
    rfl
  · obtain ⟨a, l, ns, wd, N, rfl, hP, hN, el, hnd, hnm, hlen, q⟩ := h
    have hu := hu_of hr
    have hu64 := hr.units
    refine ⟨_, pss_cons (ps_if (PW.pt (pw_or (pt_cmpR (op_eqD hu64) (pv 1) (pe_lst pa_nil) (nomark _)) (pw_or1 (pt_cmpR op_eq (pe_call GT hr (by rfl) gT kT bT .nil pass0 (pa_cons (pv 0) (pa_cons pe_int pa_nil))) pe_int (nomark _))))) (pss_one (ps_ret (pe_tup pa_nil))) pss_nil)
      (pss_cons (ps_if (PW.pt (pw_or (pt_val (pv 2)) (pw_or1 (pt_cmpR op_gt (pe_call GT hr (by rfl) gT kT bT .nil pass0 (pa_cons (pv 0) (pa_cons pe_int pa_nil))) pe_int (nomark _))))) (pss_one (ps_ret (pe_tup (pa_cons (pe_call GO hr (by rfl) gO kO bO .nil pass0 (pa_cons (pv 0) (pa_cons (pv 1) pa_nil))) pa_nil)))) pss_nil)
      (pss_one (ps_ret (pe_callTy call_tuple_of (by rfl) bt PyProof.Rows.boot_tuple (pa_cons (pe_callB (cr_sortT hu64) (by rfl) bs (by decide +kernel) (pa_cons (pe_call GS hr (by rfl) gS kS bS .nil pass0 (pa_cons (pv 0) (pa_cons (pv 1) (pa_cons
        (pe_callB (call_min2 rfl) (by rfl) B.min PyProof.Rows.boot_min (pa_cons (pe_callB call_len_seq (by rfl) B.len PySem.boot_len (pa_cons (pv 1) pa_nil)) (pa_cons (pe_op op_add pe_int (pe_call GT hr (by rfl) gT kT bT .nil pass0 (pa_cons (pv 0) (pa_cons pe_int pa_nil)))) pa_nil))) pa_nil)))) pa_nil)) pa_nil))))), ?_⟩
    have nla := pot_ne_strs hP el
    have ret0 : ∀ H', SameX a H H' → Pot H' a (N + 1) → ∀ p, H' p = none → Q (.ref p) (upd H' p (.tup [])) := fun H' sx hp p np =>
      q p [] _ (fun _ z => nomatch z) .nil (fun _ => Nat.zero_le _) upd_same (sx.trans (.of (same_upd np))) ((hp.same (same_upd np)).mono (by omega))
    have l2 : ∀ {b : Addr} {H' : Hp}, SameX a H H' → H' l = some (.lst (ns.map V.str)) := fun {b H'} sx => sx _ _ (Ne.symm nla) el
    refine rs_no2 (fun H' => SameX a H H' ∧ Pot H' a (N + 1)) (fun H' => SameX a H H' ∧ Pot H' a (N + 1) ∧ 0 < ns.length) (fun Q1 qt qf => ?_) (fun H1 ⟨sx, hp⟩ => ?_) (fun H1 ⟨sx, hp, hne⟩ => ?_)
    · refine ⟨.ref l, rfl, Nat.zero_le _, fun l0 n0 => ⟨.list (ns.map PyData.str), .list [], .lst (sql_of ((same_upd n0) _ _ el)) (strs_dp _), .lst (sql_of upd_same) .nil, strs_lay hnm (fun x hx => hx), by decide +kernel, _, rfl, ?_⟩⟩
      rw [eqv_strs_nil]
      have s0 := same_upd (o := .lst []) n0
      have hp0 := hP.same s0
      refine ite2 (fun c0 => qt _ ⟨.of s0, hp0.mono (by omega)⟩) (fun c0 => ?_)
      refine ⟨.ref a, rfl, a, 12, N, rfl, hp0, by omega, by decide, by decide, fun r H2 r0 r1 s2 hp2 => ⟨rfl, _, rfl, ?_⟩⟩
      cases hb : decide (V.int r = V.int 0) with
      | true => exact qt _ ⟨(SameX.of s0).trans s2, hp2⟩
      | false => exact qf _ ⟨(SameX.of s0).trans s2, hp2, List.length_pos_iff.mpr (fun e => c0 (decide_eq_true e))⟩
    · exact ⟨Nat.zero_le _, ret0 H1 sx hp⟩
    have el1 := l2 (b := l) sx
    refine rs_no2 (fun H' => SameX a H H' ∧ Pot H' a (N + 2)) (fun H' => SameX a H H' ∧ Pot H' a (N + 2) ∧ wd = false) (fun Q1 qt qf => ?_) (fun H2 ⟨sx2, hp2⟩ => ?_) (fun H2 ⟨sx2, hp2, hw⟩ => ?_)
    · refine ⟨.bl wd, rfl, wd, rfl, ?_⟩
      cases wd with
      | true => exact qt _ ⟨sx, hp.mono (by omega)⟩
      | false =>
        refine ⟨.ref a, rfl, a, 3, N + 1, rfl, hp, by omega, by decide, by decide, fun r H3 r0 r1 s3 hp3 => ⟨_, _, rfl, rfl, _, rfl, ?_⟩⟩
        cases hb : decide ((0 : Int) < r) with
        | true => exact qt _ ⟨sx.trans s3, hp3⟩
        | false => exact qf _ ⟨sx.trans s3, hp3, rfl⟩
    · have el2 := l2 (b := l) sx2
      refine ⟨.ref a, rfl, .ref l, rfl, .inl ⟨a, l, ns.map V.str, N + 2, rfl, hp2, by omega, sql_of el2, nla, by rw [List.length_map]; exact hne, by rw [List.length_map]; omega, fun ix v H3 hv s3 hp3 => ⟨by show 1 ≤ sizeLine; decide, fun p np => ?_⟩⟩⟩
      obtain ⟨z, hz, rfl⟩ := map_get hv
      have s4 := same_upd (o := .tup [.str z]) np
      exact q p [z] _ (fun t ht => by rw [List.mem_singleton.mp ht]; exact List.mem_of_getElem? hz) (List.pairwise_singleton _ _) (fun _ => Nat.le_refl _) upd_same ((sx2.trans s3).trans (.of s4)) ((hp3.same s4).mono (by omega))
    · have el2 := l2 (b := l) sx2
      refine r_ret ?_
      refine ⟨.ref a, rfl, .ref l, rfl, .ref l, rfl, l, ns.map V.str, rfl, .inl (sql_of el2), .ref a, rfl, a, 3, N + 2, rfl, hp2, by omega, by decide, by decide, fun r H3 r0 r1 s3 hp3 => ?_⟩
      refine ⟨_, _, rfl, rfl, _, _, rfl, ?_⟩
      have el3 := l2 (b := l) (sx2.trans s3)
      rw [List.length_map]
      obtain ⟨m, hm, hml, hm2⟩ : ∃ m : Nat, (if (2 : Int) + r < (ns.length : Nat) then 2 + r else ((ns.length : Nat) : Int)) = (m : Int) ∧ m ≤ ns.length ∧ m ≤ 4 := by
        by_cases h : (2 : Int) + r < (ns.length : Nat)
        · rw [if_pos h]; exact ⟨(2 + r).toNat, by omega, by omega, by omega⟩
        · rw [if_neg h]; exact ⟨ns.length, rfl, Nat.le_refl _, by omega⟩
      rw [hm]
      refine ⟨a, l, ns, m, N + 3, rfl, hp3, el3, by omega, hml, by omega, fun p zs H4 hz hzl hzn np ep s4 hp4 => ?_⟩
      refine ⟨p, zs, rfl, sql_of ep, Nat.le_of_lt (smallM (by omega)), fun p2 n2 => ?_⟩
      have s5 := same_upd (o := .lst ((sortS zs).map V.str)) n2
      refine ⟨p2, (sortS zs).map V.str, rfl, .inl ⟨sql_of upd_same, fun p3 n3 => ?_⟩⟩
      have s6 := same_upd (o := .tup ((sortS zs).map V.str)) n3
      exact q p3 (sortS zs) _ (fun t ht => hz t ((sortS_perm zs).mem_iff.mp ht)) (sortS_asc (hzn hnd)) (fun e => by rw [hw] at e; cases e) upd_same (((sx2.trans s3).trans s4).trans (.of (s5.trans s6))) ((hp4.same (s5.trans s6)).mono (by omega))
end
end Hw

set_option Elab.async false
set_option linter.all false
set_option maxRecDepth 100000
set_option maxHeartbeats 4000000
namespace Hw
open PySem L2 PyProof.Rows
abbrev sShape : Stmt := topS 32
def spShape : Sp := fun vs H Q _ => ∃ (a l : Addr) (ns : List Str) (sh wi : Nat) (wd : Bool) (N : Nat), vs = [.ref a, .ref l, .int sh, .int wi, .bl wd] ∧ Pot H a N ∧ N < 400000000 ∧ H l = some (.lst (ns.map V.str)) ∧ ns.Nodup ∧ (∀ z ∈ ns, NmX z) ∧ ns.length ≤ 100 ∧ 2 ≤ wi ∧ wi ≤ 100 ∧
  ∀ tq ts H', (∀ t ∈ ts, t ∈ ns) → Asc ts → (wd = true → ts.length ≤ 1) → H' tq = some (.tup (ts.map V.str)) → SameX a H H' → Pot H' a (N + 10) → Q (.ref tq) H'
section
variable {P : Program} {w : World} {K : PySem.W.Frag} {mg : Str → Option Value} {base : Heap}
theorem scShape : FnScope ["pot", "here", "shape", "wide", "wood", "at"] ["pot", "here", "shape", "wide", "wood"] (defScope sShape) := ⟨rfl, rfl, rfl, by decide +kernel, rfl, by decide +kernel, by decide +kernel⟩
theorem ok_shape {f fC : Addr} {fd fdC : FuncData} {k : Nat} (F : Fun K "_law_shape_ties" "_law_shape_ties" sShape f fd) (B : Blt mg) (bs : mg "sorted" = none) (bt : mg "tuple" = none)
    (GC : FnOk P w K mg base CX0 k fC fdC ["pot", "living", "wood"] spComeT) (gC : mg "_law_come_ties" = some (.ref fC)) (kC : PySem.W.keepIn K (.ref fC) = true) (bC : Binds K fdC ["pot", "living", "wood"] []) :
    FnOk P w K mg base CX0 (k + 1) f fd ["pot", "here", "shape", "wide", "wood"] spShape := by
  refine F.ok scShape (fun vs H Q E h => ?_) (fun cdv A outer s H vs Q E hr h => ?_)
  · obtain ⟨a, l, ns, sh, wi, wd, N, rfl, _⟩ := h
    rfl
  · obtain ⟨a, l, ns, sh, wi, wd, N, rfl, hP, hN, el, hnd, hnm, hlen, hw1, hw2, q⟩ := h
    have hu := hu_of hr
    have hu64 := hr.units
    refine ⟨_, pss_cons (ps_set (i := 5) scShape.nd rfl (.inl rfl) (pe_callB call_len_seq (by rfl) B.len PySem.boot_len (pa_cons (pv 1) pa_nil)))
      (pss_cons (ps_if (PW.pt (pw_or (pt_cmpR op_eq (pv 5) pe_int (nomark _)) (pw_or1 (pt_cmpR op_eq (pv 2) pe_int (nomark _))))) (pss_one (ps_ret (pe_call GC hr (by rfl) gC kC bC .nil pass0 (pa_cons (pv 0) (pa_cons (pv 1) (pa_cons (pv 4) pa_nil)))))) pss_nil)
      (pss_cons (ps_if (pt_cmpR op_eq (pv 2) pe_int (nomark _)) (pss_one (ps_ret (pe_tup (pa_cons (pe_ix ix_list (pv 1) pe_int (fun _ _ => rfl)) pa_nil)))) pss_nil)
      (pss_cons (ps_if (pt_cmpR op_eq (pv 2) pe_int (nomark _)) (pss_one (ps_ret (pe_tup (pa_cons (pe_ifExp (PW.pt (pw_or (pt_cmpR op_eq (pe_op op_mod (pv 5) (pv 3)) pe_int (nomark _)) (pw_or1 (pt_cmpR op_lt (pv 5) (pv 3) (nomark _)))))
          (pe_ix ix_list (pv 1) pe_int (fun _ _ => rfl)) (pe_ix ix_list (pv 1) (pe_op op_add (pe_op op_sub (pe_op op_mul (pe_op op_fdiv (pv 5) (pv 3)) (pv 3)) (pv 3)) pe_int) (fun _ _ => rfl))) pa_nil)))) pss_nil)
      (pss_cons (ps_if (pt_cmpR op_eq (pv 2) pe_int (nomark _)) (pss_one (ps_ret (pe_tup (pa_cons (pe_ifExp (pt_cmpR op_eq (pe_op op_mod (pv 5) pe_int) pe_int (nomark _))
          (pe_ix ix_list (pv 1) (pe_op op_sub (pv 5) pe_int) (fun _ _ => rfl)) (pe_ix ix_list (pv 1) (pe_op op_sub (pv 5) pe_int) (fun _ _ => rfl))) pa_nil)))) pss_nil)
      (pss_cons (ps_if (PW.pt (pw_and (pt_cmpR op_eq (pv 2) pe_int (nomark _)) (pw_and (pt_not (pt_val (pv 4))) (pw_and (pt_cmpR op_eq (pe_op op_mod (pv 5) (pv 3)) (pe_op op_sub (pv 3) pe_int) (nomark _)) (pw_and1 (pt_cmpR op_gt (pv 3) pe_int (nomark _)))))))
          (pss_one (ps_ret (pe_callTy call_tuple_of (by rfl) bt PyProof.Rows.boot_tuple (pa_cons (pe_callB (cr_sortT hu64) (by rfl) bs (by decide +kernel) (pa_cons (pe_lst (pa_cons (pe_ix ix_list (pv 1) (pe_op op_sub (pv 5) pe_int) (fun _ _ => rfl)) (pa_cons (pe_ix ix_list (pv 1) (pe_op op_sub (pe_op op_add (pv 5) pe_int) (pv 3)) (fun _ _ => rfl)) pa_nil))) pa_nil)) pa_nil)))) pss_nil)
      (pss_cons (ps_if (PW.pt (pw_and (pt_cmpR op_eq (pv 2) pe_int (nomark _)) (pw_and (pt_not (pt_val (pv 4))) (pw_and1 (pt_cmpR op_ge (pv 5) (pv 3) (nomark _))))))
          (pss_one (ps_ret (pe_callTy call_tuple_of (by rfl) bt PyProof.Rows.boot_tuple (pa_cons (pe_callB (cr_sortT hu64) (by rfl) bs (by decide +kernel) (pa_cons (pe_op op_cat (pe_lst (pa_cons (pe_ix ix_list (pv 1) (pe_op op_sub (pv 5) (pv 3)) (fun _ _ => rfl)) pa_nil))
            (pe_ifExp (pt_cmpR op_gt (pe_op op_mod (pv 5) (pv 3)) pe_int (nomark _)) (pe_lst (pa_cons (pe_ix ix_list (pv 1) (pe_op op_sub (pv 5) pe_int) (fun _ _ => rfl)) pa_nil)) (pe_lst pa_nil))) pa_nil)) pa_nil)))) pss_nil)
      (pss_one (ps_ret (pe_tup (pa_cons (pe_ix ix_list (pv 1) (pe_op op_sub (pv 5) pe_int) (fun _ _ => rfl)) pa_nil)))))))))), ?_⟩
    have ret1 : ∀ (j : Nat) (hj : j < ns.length) (H' : Hp), Same H H' → ∀ p, H' p = none → Q (.ref p) (upd H' p (.tup [.str ns[j]])) := fun j hj H' s p np =>
      q p [ns[j]] _ (fun t ht => by rw [List.mem_singleton.mp ht]; exact List.getElem_mem hj) (List.pairwise_singleton _ _) (fun _ => Nat.le_refl _) upd_same ((SameX.of s).trans (.of (same_upd np))) (((hP.same s).same (same_upd np)).mono (by omega))
    have retS : ∀ (zs : List Str), wd = false → (∀ z ∈ zs, z ∈ ns) → zs.Nodup → ∀ (H' : Hp), Same H H' → ∀ p, H' p = none → Q (.ref p) (upd H' p (.tup ((sortS zs).map V.str))) := fun zs hwd hz hn H' s p np =>
      q p (sortS zs) _ (fun t ht => hz t ((sortS_perm zs).mem_iff.mp ht)) (sortS_asc hn) (fun e => by rw [hwd] at e; cases e) upd_same ((SameX.of s).trans (.of (same_upd np))) (((hP.same s).same (same_upd np)).mono (by omega))
    have nodup2 : ∀ {i j : Nat} (hi : i < ns.length) (hj : j < ns.length), i < j → ([ns[j], ns[i]] : List Str).Nodup := fun hi hj hij => by
      have := nodup_ne hnd hi hj hij
      simp [Ne.symm this]
    have nodup2' : ∀ {i j : Nat} (hi : i < ns.length) (hj : j < ns.length), i < j → ([ns[i], ns[j]] : List Str).Nodup := fun hi hj hij => by
      have := nodup_ne hnd hi hj hij
      simp [this]
    have sql := sql_of (K := K) el
    refine rs_set ?_
    refine ⟨.ref l, rfl, l, ns.map V.str, rfl, .inl sql, ?_⟩
    rw [List.length_map]
    refine rs_no2 (fun H' => H' = H) (fun H' => H' = H ∧ 0 < ns.length) (fun Q1 qt qf => ?_) (fun H1 e => ?_) (fun H1 ⟨e, hpos⟩ => ?_)
    · refine ⟨_, rfl, rfl, _, rfl, ite2 (fun c0 => qt _ rfl) (fun c0 => ?_)⟩
      refine ⟨_, rfl, rfl, _, rfl, ?_⟩
      cases hb : decide (V.int (sh : Nat) = V.int 6) with
      | true => exact qt _ rfl
      | false => exact qf _ ⟨rfl, Nat.pos_of_ne_zero fun z => c0 (decide_eq_true (by rw [z]; rfl))⟩
    · subst e
      exact ⟨.ref a, rfl, .ref l, rfl, .bl wd, rfl, a, l, ns, wd, N, rfl, hP, hN, el, hnd, hnm, hlen, q⟩
    subst e
    refine rs_no2 (fun H' => H' = H1) (fun H' => H' = H1) (fun Q1 qt qf => ?_) (fun H2 e => ?_) (fun H2 e => ?_)
    · refine ⟨_, rfl, rfl, _, rfl, ?_⟩
      cases hb : decide (V.int (sh : Nat) = V.int 1) with
      | true => exact qt _ rfl
      | false => exact qf _ rfl
    · subst e
      exact ⟨.ref l, rfl, l, ns.map V.str, 0, _, rfl, rfl, sql, at_ns (j := 0) rfl hpos, by show 1 ≤ sizeLine; decide, fun p np => ret1 0 hpos _ (Same.refl _) p np⟩
    subst e
    have hq1 : 1 ≤ ns.length := hpos
    -- shape 2
    refine rs_no2 (fun H' => H' = H2) (fun H' => H' = H2) (fun Q1 qt qf => ?_) (fun H3 e => ?_) (fun H3 e => ?_)
    · refine ⟨_, rfl, rfl, _, rfl, ?_⟩
      cases hb : decide (V.int (sh : Nat) = V.int 2) with
      | true => exact qt _ rfl
      | false => exact qf _ rfl
    · subst e
      refine ⟨_, rfl, _, rfl, _, _, rfl, rfl, (by show (0 : Int) < _; omega), rfl, _, rfl, ite2 (fun c0 => ?_) (fun c0 => ?_)⟩
      · exact ⟨.ref l, rfl, l, ns.map V.str, 0, _, rfl, rfl, sql, at_ns (j := 0) rfl hpos, by show 1 ≤ sizeLine; decide, fun p np => ret1 0 hpos _ (Same.refl _) p np⟩
      · refine ⟨_, rfl, _, rfl, _, _, rfl, rfl, _, rfl, ite2 (fun c1 => ?_) (fun c1 => ?_)⟩
        · exact ⟨.ref l, rfl, l, ns.map V.str, 0, _, rfl, rfl, sql, at_ns (j := 0) rfl hpos, by show 1 ≤ sizeLine; decide, fun p np => ret1 0 hpos _ (Same.refl _) p np⟩
        · have hge : wi ≤ ns.length := by
            have : ¬ ((ns.length : Nat) : Int) < (wi : Nat) := fun z => c1 (decide_eq_true z)
            omega
          have d1 : ns.length / wi * wi ≤ ns.length := Nat.div_mul_le_self _ _
          have d2 : 1 ≤ ns.length / wi := (Nat.one_le_div_iff (by omega)).mpr hge
          have d3 : 1 * wi ≤ ns.length / wi * wi := Nat.mul_le_mul_right _ d2
          have hj : ns.length / wi * wi - wi + 1 < ns.length := by omega
          refine ⟨.ref l, rfl, _, rfl, _, rfl, _, _, rfl, rfl, (⟨by omega, by omega⟩ : CDiv _ _), _, rfl, _, _, rfl, rfl, .inr ⟨by omega, by omega⟩, _, rfl, _, _, rfl, rfl, _, _, rfl, rfl, l, ns.map V.str, _, _, rfl, rfl, sql, at_ns (j := ns.length / wi * wi - wi + 1) ?_ hj, by show 1 ≤ sizeLine; decide, fun p np => ret1 _ hj _ (Same.refl _) p np⟩
          have e1 : ((ns.length : Nat) : Int) / (wi : Nat) * (wi : Nat) = ((ns.length / wi * wi : Nat) : Int) := by rw [Int.natCast_mul]; rfl
          rw [e1]
          omega
    subst e
    -- shape 3
    refine rs_no2 (fun H' => H' = H3) (fun H' => H' = H3) (fun Q1 qt qf => ?_) (fun H4 e => ?_) (fun H4 e => ?_)
    · refine ⟨_, rfl, rfl, _, rfl, ?_⟩
      cases hb : decide (V.int (sh : Nat) = V.int 3) with
      | true => exact qt _ rfl
      | false => exact qf _ rfl
    · subst e
      refine ⟨_, rfl, _, _, rfl, rfl, (by show (0 : Int) < 2; decide), rfl, _, rfl, ite2 (fun c0 => ?_) (fun c0 => ?_)⟩
      · have h2 : 2 ≤ ns.length := by
          have := of_decide_eq_true c0
          injection this with this
          omega
        have hj : ns.length - 2 < ns.length := by omega
        exact ⟨.ref l, rfl, _, rfl, _, _, rfl, rfl, l, ns.map V.str, _, _, rfl, rfl, sql, at_ns (j := ns.length - 2) (by omega) hj, by show 1 ≤ sizeLine; decide, fun p np => ret1 _ hj _ (Same.refl _) p np⟩
      · have hj : ns.length - 1 < ns.length := by omega
        exact ⟨.ref l, rfl, _, rfl, _, _, rfl, rfl, l, ns.map V.str, _, _, rfl, rfl, sql, at_ns (j := ns.length - 1) (by omega) hj, by show 1 ≤ sizeLine; decide, fun p np => ret1 _ hj _ (Same.refl _) p np⟩
    subst e
    have md : ((ns.length : Nat) : Int) % (wi : Nat) = ((ns.length % wi : Nat) : Int) := rfl
    -- shape 4
    refine rs_no2 (fun H' => H' = H4 ∧ wd = false ∧ ns.length % wi = wi - 1 ∧ 2 < wi) (fun H' => H' = H4) (fun Q1 qt qf => ?_) (fun H5 ⟨e, c1, c2, c3⟩ => ?_) (fun H5 e => ?_)
    · refine ⟨_, rfl, rfl, _, rfl, ite2 (fun c0 => ?_) (fun c0 => qf _ rfl)⟩
      refine ⟨.bl wd, rfl, wd, rfl, ite2 (fun c1 => ?_) (fun c1 => qf _ rfl)⟩
      refine ⟨_, rfl, _, rfl, _, _, rfl, rfl, (by show (0 : Int) < _; omega), _, rfl, _, _, rfl, rfl, rfl, _, rfl, ite2 (fun c2 => ?_) (fun c2 => qf _ rfl)⟩
      refine ⟨_, rfl, _, _, rfl, rfl, _, rfl, ?_⟩
      cases hb : decide ((2 : Int) < (wi : Nat)) with
      | false => exact qf _ rfl
      | true =>
        refine qt _ ⟨rfl, by cases wd with | true => exact absurd c1 (by decide) | false => rfl, ?_, ?_⟩
        · have := of_decide_eq_true c2
          injection this with this
          rw [md] at this
          omega
        · have := of_decide_eq_true hb
          omega
    · subst e
      have hml := Nat.mod_le ns.length wi
      have hj1 : ns.length - 1 < ns.length := by omega
      have hj2 : ns.length + 1 - wi < ns.length := by omega
      refine r_ret ?_
      refine ⟨.ref l, rfl, _, rfl, _, _, rfl, rfl, l, ns.map V.str, _, _, rfl, rfl, sql, at_ns (j := ns.length - 1) (by omega) hj1, .ref l, rfl, _, rfl, _, _, rfl, rfl, _, rfl, _, _, rfl, rfl, l, ns.map V.str, _, _, rfl, rfl, sql, at_ns (j := ns.length + 1 - wi) (by omega) hj2, by show 2 ≤ sizeLine; decide, fun p np => ?_⟩
      refine ⟨p, [ns[ns.length - 1], ns[ns.length + 1 - wi]], rfl, sql_of upd_same, Nat.le_of_lt (smallM (by show 2 ≤ _; decide)), fun p2 n2 => ⟨p2, _, rfl, .inl ⟨sql_of upd_same, fun p3 n3 => ?_⟩⟩⟩
      refine retS _ c1 (fun z hz => ?_) (nodup2 hj2 hj1 (by omega)) _ ((same_upd np).trans (same_upd n2)) p3 n3
      simp only [List.mem_cons, List.not_mem_nil, or_false] at hz
      rcases hz with rfl | rfl <;> exact List.getElem_mem _
    subst e
    -- shape 5
    refine rs_no2 (fun H' => H' = H5 ∧ wd = false ∧ wi ≤ ns.length) (fun H' => H' = H5) (fun Q1 qt qf => ?_) (fun H6 ⟨e, c1, c2⟩ => ?_) (fun H6 e => ?_)
    · refine ⟨_, rfl, rfl, _, rfl, ite2 (fun c0 => ?_) (fun c0 => qf _ rfl)⟩
      refine ⟨.bl wd, rfl, wd, rfl, ite2 (fun c1 => ?_) (fun c1 => qf _ rfl)⟩
      refine ⟨_, rfl, _, rfl, _, _, rfl, rfl, _, rfl, ?_⟩
      cases hb : decide (((wi : Nat) : Int) ≤ (ns.length : Nat)) with
      | false => exact qf _ rfl
      | true =>
        refine qt _ ⟨rfl, by cases wd with | true => exact absurd c1 (by decide) | false => rfl, ?_⟩
        have := of_decide_eq_true hb
        omega
    · subst e
      have hj1 : ns.length - 1 < ns.length := by omega
      have hj2 : ns.length - wi < ns.length := by omega
      refine r_ret ?_
      refine ⟨.ref l, rfl, _, rfl, _, rfl, _, _, rfl, rfl, l, ns.map V.str, _, _, rfl, rfl, sql, at_ns (j := ns.length - wi) (by omega) hj2, by show 1 ≤ sizeLine; decide, fun p np => ?_⟩
      have s1 := same_upd (o := .lst [.str ns[ns.length - wi]]) np
      have fin : ∀ (zs : List Str) (l2 : Addr) (H2 : Hp), Same H6 H2 → H2 p = some (.lst [.str ns[ns.length - wi]]) → H2 l2 = some (.lst (zs.map V.str)) → (∀ z ∈ zs, z = ns[ns.length - 1]) → zs.length ≤ 1 → rCat (.ref p) (.ref l2) H2 fun x H3 => rSortT K [x] H3 fun y H4 => ∃ p ys, [y] = [V.ref p] ∧ ((SqL K H4 p ys ∧ ∀ l, H4 l = none → Q (V.ref l) (upd H4 l (HO.tup ys))) ∨ (SqT K H4 p ys ∧ Q (V.ref p) H4)) := by
        intro zs l2 H2 s2 f1 f2 hz hl
        refine ⟨p, l2, _, _, rfl, rfl, f1, f2, Nat.le_of_lt (smallM (by rw [List.length_map]; show 1 + _ ≤ _; omega)), fun l3 n3 => ?_⟩
        refine ⟨l3, ns[ns.length - wi] :: zs, rfl, sql_of upd_same, Nat.le_of_lt (smallM (by rw [List.length_cons]; omega)), fun p2 n2 => ⟨p2, _, rfl, .inl ⟨sql_of upd_same, fun p3 n3' => ?_⟩⟩⟩
        refine retS _ c1 (fun z hz2 => ?_) ?_ _ ((s2.trans (same_upd n3)).trans (same_upd n2)) p3 n3'
        · rcases List.mem_cons.mp hz2 with rfl | hz2
          · exact List.getElem_mem _
          · rw [hz z hz2]; exact List.getElem_mem _
        · cases zs with
          | nil => simp
          | cons z zs' =>
            have ez := hz z List.mem_cons_self
            have : zs' = [] := List.length_eq_zero_iff.mp (by rw [List.length_cons] at hl; omega)
            subst this ez
            exact nodup2' hj2 hj1 (by omega)
      refine ⟨_, rfl, _, rfl, _, _, rfl, rfl, (by show (0 : Int) < _; omega), _, _, rfl, rfl, _, rfl, ite2 (fun c0 => ?_) (fun c0 => ?_)⟩
      · refine ⟨.ref l, rfl, _, rfl, _, _, rfl, rfl, l, ns.map V.str, _, _, rfl, rfl, sql_of (s1 _ _ el), at_ns (j := ns.length - 1) (by omega) hj1, by show 1 ≤ sizeLine; decide, fun l2 n2 => ?_⟩
        exact fin [ns[ns.length - 1]] l2 _ (s1.trans (same_upd n2)) ((same_upd n2) _ _ upd_same) upd_same (fun z hz => List.mem_singleton.mp hz) (Nat.le_refl _)
      · exact ⟨Nat.zero_le _, fun l2 n2 => fin [] l2 _ (s1.trans (same_upd n2)) ((same_upd n2) _ _ upd_same) upd_same (fun _ z => nomatch z) (Nat.zero_le _)⟩
    subst e
    have hj : ns.length - 1 < ns.length := by omega
    exact ⟨.ref l, rfl, _, rfl, _, _, rfl, rfl, l, ns.map V.str, _, _, rfl, rfl, sql, at_ns (j := ns.length - 1) (by omega) hj, by show 1 ≤ sizeLine; decide, fun p np => ret1 _ hj _ (Same.refl _) p np⟩
end
end Hw

set_option Elab.async false
set_option linter.all false
set_option maxRecDepth 100000
set_option maxHeartbeats 4000000
namespace Hw
open PySem L2 PyProof.Rows
abbrev sGrown : Stmt := topS 33
theorem g4_of {K : PySem.W.Frag} {σ : L2.St} {H : Hp} {i j k m : Nat} {p : Addr} {x y z u : V} {R : L2.St → Hp → Prop} (e : SqT K H p [x, y, z, u]) (h : R ((((σ.set i (some x)).set j (some y)).set k (some z)).set m (some u)) H) : gTup K 4 (gCons (gName i) (gCons (gName j) (gCons (gName k) (gCons (gName m) gNil)))) (.ref p) σ H R :=
  ⟨p, [x, y, z, u], rfl, e, rfl, _, [y, z, u], rfl, _, [z, u], rfl, _, [u], rfl, _, [], rfl, rfl, h⟩
def WoodD (wd : Bool) (ds : List Deed) : Prop := wd = true → ∀ d ∈ ds, d.ties.length ≤ 1
def spGrown : Sp := fun vs H Q _ => ∃ (a l : Addr) (ns : List Str) (wd : Bool) (N : Nat), vs = [.ref a, .ref l, .bl wd] ∧ Pot H a N ∧ N < 300000000 ∧ H l = some (.lst (ns.map V.str)) ∧ ns.Nodup ∧ (∀ z ∈ ns, NmX z) ∧ ns.length ≤ 60 ∧
  ∀ p ds H', Hist ds → ds.length = ns.length → cameD ds = ns → liv ds = ns → WoodD wd ds → DeedsAt H' p ds → H p = none → p ≠ a → SameX a H H' → Pot H' a (N + 10 * ns.length + 5) → Q (.ref p) H'
/-- comings as they are made -/
structure GrowI (a dl hl : Addr) (ns : List Str) (wd : Bool) (H : Hp) (M i : Nat) (ds : List Deed) (qs : List Addr) (H' : Hp) : Prop where
  sx : SameX a H H'
  pot : Pot H' a M
  ed : H' dl = some (.lst (qs.map V.ref))
  dd : Paired (DeedAt H') qs ds
  eh : H' hl = some (.lst ((ns.take i).map V.str))
  hist : Hist ds
  came : cameD ds = ns.take i
  liv : liv ds = ns.take i
  len : ds.length = i
  wood : WoodD wd ds
theorem GrowI.step {a dl hl : Addr} {ns : List Str} {wd : Bool} {H H' H'' : Hp} {M M' i : Nat} {ds : List Deed} {qs : List Addr} (w : GrowI a dl hl ns wd H M i ds qs H') (s : SameX a H' H'') (hp : Pot H'' a M') : GrowI a dl hl ns wd H M' i ds qs H'' :=
  ⟨w.sx.trans s, hp, s _ _ (Ne.symm (pot_ne_refs w.pot w.ed)) w.ed, paired_mono (fun q d e => e.sx w.pot s) w.dd, s _ _ (Ne.symm (pot_ne_strs w.pot w.eh)) w.eh, w.hist, w.came, w.liv, w.len, w.wood⟩
section
variable {P : Program} {w : World} {K : PySem.W.Frag} {mg : Str → Option Value} {base : Heap}
theorem scGrown : FnScope ["pot", "names", "wood", "deeds", "here", "shape", "wide", "name"] ["pot", "names", "wood"] (defScope sGrown) := ⟨rfl, rfl, rfl, by decide +kernel, rfl, by decide +kernel, by decide +kernel⟩
theorem ok_grown {f fT fS : Addr} {fd fdT fdS : FuncData} {k : Nat} (F : Fun K "_law_grown" "_law_grown" sGrown f fd)
    (GT : FnOk P w K mg base CX0 k fT fdT ["pot", "upto"] spTake) (gT : mg "_law_take" = some (.ref fT)) (kT : PySem.W.keepIn K (.ref fT) = true) (bT : Binds K fdT ["pot", "upto"] [])
    (GS : FnOk P w K mg base CX0 k fS fdS ["pot", "here", "shape", "wide", "wood"] spShape) (gS : mg "_law_shape_ties" = some (.ref fS)) (kS : PySem.W.keepIn K (.ref fS) = true) (bS : Binds K fdS ["pot", "here", "shape", "wide", "wood"] []) :
    FnOk P w K mg base CX0 (k + 1) f fd ["pot", "names", "wood"] spGrown := by
  refine F.ok scGrown (fun vs H Q E h => ?_) (fun cdv A outer s H vs Q E hr h => ?_)
  · obtain ⟨a, l, ns, wd, N, rfl, _⟩ := h
    rfl
  · obtain ⟨a, l, ns, wd, N, rfl, hP, hN, el, hnd, hnm, hlen, q⟩ := h
    have hu := hu_of hr
    refine ⟨_, pss_cons (ps_asg (pe_tup (pa_cons (pe_lst pa_nil) (pa_cons (pe_lst pa_nil) (pa_cons (pe_call GT hr (by rfl) gT kT bT .nil pass0 (pa_cons (pv 0) (pa_cons pe_int pa_nil))) (pa_cons (pe_op op_add pe_int (pe_call GT hr (by rfl) gT kT bT .nil pass0 (pa_cons (pv 0) (pa_cons pe_int pa_nil)))) pa_nil)))))
        (pg_tup rfl (pgs_cons (pg_name (i := 3) scGrown.nd rfl (.inl rfl)) (pgs_cons (pg_name (i := 4) scGrown.nd rfl (.inl rfl)) (pgs_cons (pg_name (i := 5) scGrown.nd rfl (.inl rfl)) (pgs_cons (pg_name (i := 6) scGrown.nd rfl (.inl rfl)) pgs_nil))))))
      (pss_cons (ps_for PassesOwn.never rfl (pi_list (pv 1)) (pg_name (i := 7) scGrown.nd rfl (.inl rfl))
        (pss_cons (ps_expr (pe_bm PySem.F.plainAttrs_list PySem.F.slot_list_append PySem.F.type_list_append mt_append (pv 3) (pa_cons (pe_tup (pa_cons pe_str (pa_cons (pv 7) (pa_cons (pe_call GS hr (by rfl) gS kS bS .nil pass0 (pa_cons (pv 0) (pa_cons (pv 4) (pa_cons (pv 5) (pa_cons (pv 6) (pa_cons (pv 2) pa_nil)))))) pa_nil)))) pa_nil)))
        (pss_one (ps_expr (pe_bm PySem.F.plainAttrs_list PySem.F.slot_list_append PySem.F.type_list_append mt_append (pv 4) (pa_cons (pv 7) pa_nil))))))
      (pss_one (ps_ret (pv 3)))), ?_⟩
    refine rs_t ?_
    refine ⟨Nat.zero_le _, fun dl ndl => ⟨Nat.zero_le _, fun hl nhl => ?_⟩⟩
    have s1 := (same_upd (o := .lst []) ndl).trans (same_upd (o := .lst []) nhl)
    have e1d : (upd (upd H dl (.lst [])) hl (.lst [])) dl = some (.lst []) := (same_upd nhl) _ _ upd_same
    have e1h : (upd (upd H dl (.lst [])) hl (.lst [])) hl = some (.lst []) := upd_same
    have ndh : dl ≠ hl := ne_of_none upd_same nhl
    have nhl0 : H hl = none := (same_upd ndl).free nhl
    have hp1 := hP.same s1
    generalize (upd (upd H dl (.lst [])) hl (.lst [])) = H1 at s1 e1d e1h hp1 ⊢
    refine ⟨.ref a, rfl, a, 7, N, rfl, hp1, by omega, by decide, by decide, fun sh H2 sh0 sh1 s2 hp2 => ?_⟩
    refine ⟨.ref a, rfl, a, 6, _, rfl, hp2, by omega, by decide, by decide, fun wi H3 wi0 wi1 s3 hp3 => ?_⟩
    obtain ⟨sh, rfl⟩ : ∃ n : Nat, sh = (n : Int) := ⟨sh.toNat, by omega⟩
    obtain ⟨wi, rfl⟩ : ∃ n : Nat, wi = (n : Int) := ⟨wi.toNat, by omega⟩
    refine ⟨_, _, rfl, rfl, by show 4 ≤ sizeLine; decide, fun p4 n4 => g4_of (sqt_of upd_same) ?_⟩
    have ew : (fun i j : Int => V.int (i + j)) 2 (wi : Nat) = V.int ((2 + wi : Nat) : Int) := congrArg V.int (by show (2 : Int) + (wi : Nat) = ((2 + wi : Nat) : Int); omega)
    rw [ew]
    have wdl : dl ≠ a := fun z => hP.some (z ▸ ndl)
    have whl : hl ≠ a := fun z => hP.some (z ▸ nhl0)
    have s4 := same_upd (o := .tup [.ref dl, .ref hl, .int (sh : Nat), .int ((2 + wi : Nat) : Int)]) n4
    have w0 : GrowI a dl hl ns wd H (N + 2) 0 [] [] (upd H3 p4 (.tup [.ref dl, .ref hl, .int (sh : Nat), .int ((2 + wi : Nat) : Int)])) :=
      ⟨(SameX.of s1).trans (s2.trans (s3.trans (.of s4))), (hp3.same s4).mono (by omega), s4 _ _ (s3 _ _ wdl (s2 _ _ wdl e1d)), .nil, s4 _ _ (s3 _ _ whl (s2 _ _ whl e1h)), .nil, rfl, rfl, rfl, fun _ _ z => nomatch z⟩
    generalize (upd H3 p4 (.tup [.ref dl, .ref hl, .int (sh : Nat), .int ((2 + wi : Nat) : Int)])) = H4 at w0 ⊢
    clear s1 e1d e1h hp1 s2 hp2 s3 hp3 n4 s4 ew
    have nla := pot_ne_strs hP el
    refine rs_list l (ns.map V.str) (fun Q1 q1 => ⟨_, rfl, q1⟩) (fun i σ' H' => ∃ o7 ds qs, σ' = [some (.ref a), some (.ref l), some (.bl wd), some (.ref dl), some (.ref hl), some (.int (sh : Nat)), some (.int ((2 + wi : Nat) : Int)), o7] ∧ GrowI a dl hl ns wd H (N + 2 + 10 * i) i ds qs H')
      ⟨_, _, _, rfl, w0⟩ (fun i σ' H' _ ⟨_, _, _, _, w⟩ => sql_of (w.sx _ _ (Ne.symm nla) el)) ?_ ?_
    · rintro i x σ' H' hx ⟨o7, ds, qs, rfl, w⟩
      obtain ⟨z, hz, rfl⟩ := map_get hx
      have hi := (List.getElem?_eq_some_iff.mp hz).1
      have hzn := List.mem_of_getElem? hz
      have htl : (ns.take i).length ≤ 60 := by rw [List.length_take]; omega
      refine r_gname ?_
      refine rs_bm ?_
      refine ⟨.ref dl, rfl, .inl ⟨rfl, _, sql_of w.ed⟩, .str z, rfl, .ref a, rfl, .ref hl, rfl, _, rfl, _, rfl, .bl wd, rfl, ?_⟩
      refine ⟨a, hl, ns.take i, sh, 2 + wi, wd, _, rfl, w.pot, by omega, w.eh, hnd.sublist (List.take_sublist ..), fun y hy => hnm y (List.mem_of_mem_take hy), by omega, by omega, by omega, fun tq ts H5 hts hta htw etq s5 hp5 => ⟨by show 3 ≤ sizeLine; decide, fun p np => ?_⟩⟩
      have s6 := same_upd (o := .tup [.str (Str.ofString "come"), .str z, .ref tq]) np
      have w6 := w.step (s5.trans (.of s6)) (hp5.same s6)
      have etq6 := s6 _ _ etq
      have ep6 : (upd H5 p (.tup [.str (Str.ofString "come"), .str z, .ref tq])) p = some (.tup [.str sCome, .str z, .ref tq]) := upd_same
      generalize (upd H5 p (.tup [.str (Str.ofString "come"), .str z, .ref tq])) = H6 at w6 etq6 ep6 ⊢
      have hql : qs.length = i := by rw [Paired.length w6.dd, w6.len]
      refine ⟨dl, _, _, rfl, rfl, w6.ed, smallM (by rw [List.length_map]; omega), ?_⟩
      have k7 : ∀ {b : Addr} {o : HO}, b ≠ dl → H6 b = some o → (upd H6 dl (.lst (qs.map V.ref ++ [.ref p]))) b = some o := fun {b o} hb e => by rw [upd_ne hb]; exact e
      have eh7 := k7 (Ne.symm ndh) w6.eh
      refine ⟨.ref hl, rfl, .inl ⟨rfl, _, sql_of eh7⟩, .str z, rfl, hl, _, _, rfl, rfl, eh7, smallM (by rw [List.length_map]; omega), _, ds ++ [.come z ts], qs ++ [p], rfl, ?_⟩
      have k8 : ∀ {b : Addr} {o : HO}, b ≠ dl → b ≠ hl → H6 b = some o → (upd (upd H6 dl (.lst (qs.map V.ref ++ [.ref p]))) hl (.lst ((ns.take i).map V.str ++ [.str z]))) b = some o := fun {b o} hb hc e => by rw [upd_ne hc, upd_ne hb]; exact e
      have kd : ∀ (q : Addr) (d : Deed), DeedAt H6 q d → DeedAt (upd (upd H6 dl (.lst (qs.map V.ref ++ [.ref p]))) hl (.lst ((ns.take i).map V.str ++ [.str z]))) q d := fun q d e => by
        have kt : ∀ {b : Addr} {vs : List V}, H6 b = some (.tup vs) → (upd (upd H6 dl (.lst (qs.map V.ref ++ [.ref p]))) hl (.lst ((ns.take i).map V.str ++ [.str z]))) b = some (.tup vs) := fun {b vs} e => k8 (fun y => by rw [y, w6.ed] at e; cases e) (fun y => by rw [y, w6.eh] at e; cases e) e
        cases d with
        | come n ts =>
          obtain ⟨tq, h1, h2⟩ := e
          exact ⟨tq, kt h1, kt h2⟩
        | die n => exact kt e
      have hnew : z ∉ cameD ds := by rw [w.came]; exact nodup_take hnd hz
      refine ⟨fun b o hb e => k8 (ne_of_none e ndl) (ne_of_none e nhl0) (w6.sx b o hb e), ?_, ?_, ?_, ?_, .come w.hist (hnm z hzn) hnew hta (fun t ht => by rw [w.liv]; exact hts t ht), ?_, ?_, ?_, ?_⟩
      · obtain ⟨xx, yy, zz, e, hh⟩ := w6.pot.ex
        exact ⟨xx, yy, zz, k8 (Ne.symm wdl) (Ne.symm whl) e, by omega⟩
      · rw [upd_ne ndh, upd_same, List.map_append]; rfl
      · exact paired_snoc (kd p (.come z ts) ⟨tq, ep6, etq6⟩) (paired_mono kd w6.dd)
      · rw [upd_same, take_snoc hz, List.map_append]; rfl
      · rw [came_snoc, w.came, take_snoc hz]; rfl
      · rw [liv_snoc, w.liv, take_snoc hz]; rfl
      · rw [List.length_append, w.len]; rfl
      · intro hw d hd
        rcases List.mem_append.mp hd with hd | hd
        · exact w.wood hw d hd
        · rw [List.mem_singleton.mp hd]; exact htw hw
    · rintro σ' H' ⟨o7, ds, qs, rfl, w⟩
      rw [List.length_map] at w
      have hc := w.came
      have hv := w.liv
      rw [List.take_length] at hc hv
      exact ⟨.ref dl, rfl, q dl ds H' w.hist w.len hc hv w.wood ⟨qs, w.ed, w.dd⟩ ndl wdl w.sx (w.pot.mono (by omega))⟩
end
end Hw

set_option Elab.async false
set_option linter.all false
set_option maxRecDepth 100000
set_option maxHeartbeats 4000000
namespace Hw
open PySem L2 PyProof.Rows
abbrev sNextD : Stmt := topS 34
/-! sorted of pairs of a number and a text, whatever comes first -/
def npD (p : Nat × Str) : PyData := .tuple [.int (p.1 : Nat), .str p.2]
abbrev NpAt (H : Hp) (q : Addr) (p : Nat × Str) : Prop := H q = some (.tup [.int (p.1 : Nat), .str p.2])
def rSortNP (K : PySem.W.Frag) : List V → Hp → VK → Prop := fun vs H Q => ∃ (a : Addr) (qs : List Addr) (ps : List (Nat × Str)), vs = [V.ref a] ∧ SqL K H a (qs.map V.ref) ∧ Paired (NpAt H) qs ps ∧ ps.length ≤ sizeLine ∧
  ∀ (p : Addr) (qs' : List Addr), H p = none → (∀ q ∈ qs', q ∈ qs) → qs'.length = qs.length → Q (.ref p) (upd H p (.lst (qs'.map V.ref)))
section
variable {X : Cx}
theorem cr_sortNP (hu : X.A.units + 64 < cLine) : CallR X (.builtin "sorted") (rSortNP X.K) := by
  intro pins s σ H vs us Q I r h
  obtain ⟨a, qs, ps, rfl, hs, hp, hz, q⟩ := h
  obtain ⟨l, rfl, rfl, hl⟩ := zip_of hp
  have e1 : (l.map fun x => (V.ref x.1, npD x.2)).map (·.1) = (l.map (·.1)).map V.ref := by rw [List.map_map, List.map_map]; rfl
  have e2 : (l.map fun x => (V.ref x.1, npD x.2)).map (·.2) = (l.map (·.2)).map npD := by rw [List.map_map, List.map_map]; rfl
  rw [List.length_map] at hz
  refine cr_sortB hu pins s σ H _ us Q I r ⟨a, l.map fun x => (V.ref x.1, npD x.2), rfl, by rw [e1]; exact hs, fun b hb => ?_, ?_, ?_, by rw [List.length_map]; exact hz, fun p hp => ?_⟩
  · obtain ⟨z, hz, rfl⟩ := List.mem_map.mp hb
    refine ⟨.tup (sqt_of (hl z hz)) (.cons (Dp_flat rfl) (.cons (Dp_flat rfl) .nil)), ?_⟩
    show PyData.depth (npD z.2) ≤ 50
    unfold npD
    simp [PyData.depth, PyData.depthAll]
  · rw [e2]; exact PySem.W.AllAlike.of fun _ _ => by simp [PySem.W.alike, PySem.W.alikeAll, npD]
  · rw [e2]; exact PySem.W.Sortable.tuples (enc := npD) fun z => ⟨_, _, rfl⟩
  · have e : (l.map fun x => (V.ref x.1, npD x.2)).mergeSort (PySem.W.dataLe false (·.2)) = (l.mergeSort fun x y => PySem.W.dataLe false id (npD x.2) (npD y.2)).map fun x => (V.ref x.1, npD x.2) := by
      refine (List.map_mergeSort fun a _ b _ => ?_).symm
      rfl
    rw [e, List.map_map]
    have := q p ((l.mergeSort fun x y => PySem.W.dataLe false id (npD x.2) (npD y.2)).map (·.1)) hp (fun y hy => by
      obtain ⟨x, hx, rfl⟩ := List.mem_map.mp hy
      exact List.mem_map.mpr ⟨x, List.mem_mergeSort.mp hx, rfl⟩) (by rw [List.length_map, List.length_mergeSort, List.length_map])
    rw [List.map_map] at this
    exact this
def rNeNil : R2 := fun x y H Q => ∃ a b ks, x = .ref a ∧ y = .ref b ∧ H a = some (.dK ks) ∧ H b = some (.dK []) ∧ Q (.bl (decide (ks ≠ []))) H
theorem op_neNil (hu : X.A.units < cLine) : OpR X (compareOp .NotEq) rNeNil := by
  intro pins s σ H x y v u Q I rx ry h
  obtain ⟨a, b, ks, rfl, rfl, ea, eb, q⟩ := h
  obtain rfl : v = Value.ref a := rx
  obtain rfl : u = Value.ref b := ry
  obtain ⟨_, ya, va, ra, da⟩ := (show ObjOk X.prog X.w H s.heap a (.dK ks) from I.hok a _ ea)
  obtain ⟨_, yb, vb, rb, db⟩ := (show ObjOk X.prog X.w H s.heap b (.dK []) from I.hok b _ eb)
  have hla : ks.length = va.length := ra.length
  have hlb : 0 = vb.length := rb.length
  by_cases h0 : ks = []
  · subst h0
    exact PySem.W.keq_ne (knd := mixKind X.prog X.w) (r := true) ya yb da db hu (fun _ => hits_all rb ra (fun p hp => nomatch hp)) (fin_bl I q (by
      have : va.length = vb.length := by rw [← hla, ← hlb]; rfl
      simp [this]))
  · have hne : va.length ≠ vb.length := by
      have := List.length_pos_iff.mpr h0
      omega
    exact PySem.W.keq_ne (knd := mixKind X.prog X.w) (r := true) ya yb da db hu (fun e => absurd e hne) (fin_bl I q (by simp [h0, hne]))
end
end Hw

set_option Elab.async false
set_option linter.all false
set_option maxRecDepth 100000
set_option maxHeartbeats 4000000
namespace Hw
open PySem L2 PyProof.Rows
theorem at_lastV {xs : List V} (h : xs ≠ []) : atI xs (-1) = some (xs.getLast h) := by
  have e1 : xs = xs.dropLast ++ [xs.getLast h] := (List.dropLast_concat_getLast h).symm
  have := atI_last xs.dropLast (xs.getLast h)
  rw [← e1] at this
  exact this
theorem encL_put (ns : List Str) (z : Str) : putK (encL ns) (Sum.inr z) (V.bl true) = encL (if z ∈ ns then ns else ns ++ [z]) := by
  by_cases h : z ∈ ns
  · rw [if_pos h]
    unfold putK
    rw [valV_any, encL_val, if_pos h]
    show (if true = true then _ else _) = _
    rw [if_pos rfl]
    unfold encL
    rw [List.map_map]
    refine List.map_congr_left fun n _ => ?_
    show (if (Sum.inr n : Key) = Sum.inr z then ((Sum.inr n : Key), V.bl true) else _) = _
    split <;> rfl
  · rw [if_neg h, encL_new h]
theorem strs_flat (zs : List Str) : (zs.map V.str).all flatV = true := by
  rw [List.all_eq_true]
  intro y hy
  obtain ⟨z, _, rfl⟩ := List.mem_map.mp hy
  rfl
theorem rs_listR {K : PySem.W.Frag} {te : TE} {g : TG} {tb u : TS} {D : Ends} {σ : L2.St} {H : Hp} (P0 : Addr → List V → Hp → Prop) (Pv : Addr → List V → Hp → Nat → L2.St → Hp → Prop) (hw : ∀ Q : VK, (∀ l xs H1, P0 l xs H1 → Q (.ref l) H1) → te σ H Q) (h0 : ∀ l xs H1, P0 l xs H1 → Pv l xs H1 0 σ H1)
    (hl : ∀ l xs H1 i σ H, Pv l xs H1 i σ H → SqL K H l xs) (hs : ∀ l xs H1 i x σ H, P0 l xs H1 → xs[i]? = some x → Pv l xs H1 i σ H → g x σ H fun σ2 H2 => tb { D with nx := Pv l xs H1 (i + 1), ct := Pv l xs H1 (i + 1), bk := u D } σ2 H2)
    (hd : ∀ l xs H1 σ H, P0 l xs H1 → Pv l xs H1 xs.length σ H → u D σ H) : tSeq (tFor (iList K te) g tb) u D σ H :=
  hw _ fun l xs H1 p => ⟨l, rfl, ⟨_, hl _ _ _ _ _ _ (h0 l xs H1 p)⟩, for_list (D := { D with nx := u D }) (xs := xs) (Pv l xs H1) (h0 l xs H1 p) (fun i σ H _ q => hl _ _ _ _ _ _ q) (fun i x σ H hx q => hs l xs H1 i x σ H p hx q) (fun σ H q => hd l xs H1 σ H p q)⟩
/-- pairs of a number and a living name -/
def SomeAt (H : Hp) (l : Addr) (lv : List Str) : Prop := ∃ qs : List Addr, H l = some (.lst (qs.map V.ref)) ∧ qs.length = lv.length ∧ ∀ q ∈ qs, ∃ (c : Nat) (z : Str), z ∈ lv ∧ H q = some (.tup [.int (c : Nat), .str z])
theorem SomeAt.keep {H H' : Hp} {l : Addr} {lv : List Str} (h : SomeAt H l lv) (s : Same H H') : SomeAt H' l lv := by
  obtain ⟨qs, h1, h2, h3⟩ := h
  refine ⟨qs, s _ _ h1, h2, fun q hq => ?_⟩
  obtain ⟨c, z, m, e⟩ := h3 q hq
  exact ⟨c, z, m, s _ _ e⟩
def spNextD : Sp := fun vs H Q _ => ∃ (a l lv : Addr) (ds : List Deed) (wy : Nat) (N : Nat), vs = [.ref a, .ref l, .ref lv, .int wy] ∧ Pot H a N ∧ N < 400000000 ∧ DeedsAt H l ds ∧ Hist ds ∧ ds.length ≤ 100 ∧ H lv = some (.lst ((sortS (liv ds)).map V.str)) ∧ 0 < (liv ds).length ∧ wy < 7 ∧
  ∀ z H', z ∈ liv ds → SameX a H H' → Pot H' a (N + 2) → Q (.str z) H'
section
variable {P : Program} {w : World} {K : PySem.W.Frag} {mg : Str → Option Value} {base : Heap}
theorem scNextD : FnScope ["pot", "deeds", "living", "way", "counts", "some", "came", "beside", "here", "one", "other", "name", "deed"] ["pot", "deeds", "living", "way"] (defScope sNextD) := ⟨rfl, rfl, rfl, by decide +kernel, rfl, by decide +kernel, by decide +kernel⟩
theorem ok_nextd {f fO fC fE : Addr} {fd fdO fdC fdE : FuncData} {k : Nat} (F : Fun K "_law_next_dead" "_law_next_dead" sNextD f fd) (B : Blt mg) (bs : mg "sorted" = none) (bd : mg "dict" = none)
    (GO : FnOk P w K mg base CX0 k fO fdO ["pot", "some"] (spOf2 K)) (gO : mg "_law_of" = some (.ref fO)) (kO : PySem.W.keepIn K (.ref fO) = true) (bO : Binds K fdO ["pot", "some"] [])
    (GC : FnOk P w K mg base CX0 k fC fdC ["deeds"] spCounts) (gC : mg "_law_counts" = some (.ref fC)) (kC : PySem.W.keepIn K (.ref fC) = true) (bC : Binds K fdC ["deeds"] [])
    (GE : FnOk P w K mg base CX0 k fE fdE ["deeds"] spElder) (gE : mg "_law_elder" = some (.ref fE)) (kE : PySem.W.keepIn K (.ref fE) = true) (bE : Binds K fdE ["deeds"] []) :
    FnOk P w K mg base CX0 (k + 1) f fd ["pot", "deeds", "living", "way"] spNextD := by
  refine F.ok scNextD (fun vs H Q E h => ?_) (fun cdv A outer s H vs Q E hr h => ?_)
  · obtain ⟨a, l, lv, ds, wy, N, rfl, _⟩ := h
    rfl
  · obtain ⟨a, l, lv, ds, wy, N, rfl, hP, hN, hD, hH, hl, elv, hpos, hwy, q⟩ := h
    have hu := hu_of hr
    have hu64 := hr.units
    refine ⟨_, pss_cons (ps_set (i := 4) scNextD.nd rfl (.inr rfl) (pe_call GC hr (by rfl) gC kC bC .nil pass0 (pa_cons (pv 1) pa_nil)))
      (pss_cons (ps_set (i := 5) scNextD.nd rfl (.inl rfl) (pe_callB (cr_sortNP hu64) (by rfl) bs (by decide +kernel) (pa_cons (pe_lc (own := [("name", 11)]) (g := gName 11) (tt := tYes) rfl scNextD.nd (pi_list (pv 2))
          (blkOk_by (N := ["pot", "deeds", "living", "way", "counts", "some", "came", "beside", "here", "one", "other", "name", "deed"]) (sc := defScope sNextD) (by decide +kernel)) (fun _ _ _ _ _ => pg_name (i := 11) scNextD.nd rfl (Or.inl rfl)) (fun _ _ _ _ _ => pts_nil)
          (fun _ _ _ _ _ => pe_tup (pa_cons (pe_dget hu (pv 4) (pv 11) (fun _ _ => rfl)) (pa_cons (pv 11) pa_nil)))) pa_nil)))
      (pss_cons (ps_setLc (i := 6) (own := [("deed", 12)]) (g := gName 12) (tt := tAnd (tTest (tOp rEq (tOp (rIxT K) (tVar 12) (tC (.int 0))) (tC (.str (Str.ofString "come"))))) (tTest (tOp (rIn K false) (tOp (rIxT K) (tVar 12) (tC (.int 1))) (tVar 2)))) (te := tOp (rIxT K) (tVar 12) (tC (.int 1))) rfl scNextD.nd rfl rfl (sw_true rfl rfl rfl (by decide +kernel)) (pi_list (pv 1))
          (blkOk_by (N := ["pot", "deeds", "living", "way", "counts", "some", "came", "beside", "here", "one", "other", "name", "deed"]) (sc := defScope sNextD) (by decide +kernel)) (fun _ _ _ _ _ => pg_name (i := 12) scNextD.nd rfl (Or.inl rfl))
          (fun _ _ _ _ _ => pts_one (PW.pt (pw_and (pt_cmpR op_eq (pe_ix ix_tup (pv 12) pe_int (fun _ _ => rfl)) pe_str (nomark _)) (pw_and1 (pt_cmpR op_in_seq (pe_ix ix_tup (pv 12) pe_int (fun _ _ => rfl)) (pv 2) (by rfl)))))) (fun _ _ _ _ _ => pe_ix ix_tup (pv 12) pe_int (fun _ _ => rfl)))
      (pss_cons (ps_if (pt_cmpR op_lt (pv 3) pe_int (nomark _)) (pss_one (ps_ret (pe_ix ix_tup (pe_ix ix_list (pv 5) (pe_un un_neg pe_int) (fun _ _ => rfl)) pe_int (fun _ _ => rfl)))) pss_nil)
      (pss_cons (ps_if (pt_cmpR op_lt (pv 3) pe_int (nomark _)) (pss_one (ps_ret (pe_ix ix_list (pe_lst (pa_cons (pe_ix ix_tup (pe_ix ix_list (pv 5) pe_int (fun _ _ => rfl)) pe_int (fun _ _ => rfl)) (pa_cons (pe_ix ix_list (pv 6) pe_int (fun _ _ => rfl)) (pa_cons (pe_ix ix_list (pv 6) (pe_un un_neg pe_int) (fun _ _ => rfl)) pa_nil)))) (pe_op op_sub (pv 3) pe_int) (fun _ _ => rfl)))) pss_nil)
      (pss_cons (ps_if (pt_cmpR op_eq (pv 3) pe_int (nomark _))
        (pss_cons (ps_par (i := 7) (j := 8) rfl scNextD.nd rfl rfl (by decide) rfl rfl (pa_cons pe_dnewK (pa_cons (pe_callTy (call_dictP rfl) (by rfl) bd PyProof.Rows.boot_dict (pa_cons (pe_lc (own := [("name", 11)]) (g := gName 11) (tt := tYes) rfl scNextD.nd (pi_list (pv 2))
            (blkOk_by (N := ["pot", "deeds", "living", "way", "counts", "some", "came", "beside", "here", "one", "other", "name", "deed"]) (sc := defScope sNextD) (by decide +kernel)) (fun _ _ _ _ _ => pg_name (i := 11) scNextD.nd rfl (Or.inl rfl)) (fun _ _ _ _ _ => pts_nil)
            (fun _ _ _ _ _ => pe_tup (pa_cons (pv 11) (pa_cons pe_bl pa_nil)))) pa_nil)) pa_nil)) rfl)
        (pss_cons (ps_for PassesOwn.never rfl (pi_list (pe_ix ix_tup (pe_call GE hr (by rfl) gE kE bE .nil pass0 (pa_cons (pv 1) pa_nil)) pe_int (fun _ _ => rfl))) (pg_tup rfl (pgs_cons (pg_name (i := 9) scNextD.nd rfl (Or.inl rfl)) (pgs_cons (pg_name (i := 10) scNextD.nd rfl (Or.inl rfl)) pgs_nil)))
          (pss_one (ps_if (pt_cmpR op_ne (pe_cmp (pc_din hu (pv 9) (pv 8))) (pe_cmp (pc_din hu (pv 10) (pv 8))) (nomark _))
            (pss_one (ps_dput hu (pv 7) (pe_ifExp (pt_cmp (pc_din hu (pv 9) (pv 8))) (pv 9) (pv 10)) pe_bl rfl)) pss_nil)))
        (pss_one (ps_ret (pe_ifExp (pt_cmpR (op_neNil (Nat.lt_of_succ_lt hu)) (pv 7) pe_dnewK (nomark _)) (pe_call GO hr (by rfl) gO kO bO .nil pass0 (pa_cons (pv 0) (pa_cons (pe_callB (cr_sortT hu64) (by rfl) bs (by decide +kernel) (pa_cons (pe_callTy (call_list_dK rfl) (by rfl) B.list PyProof.Rows.boot_list (pa_cons (pv 7) pa_nil)) pa_nil)) pa_nil)))
          (pe_ix ix_tup (pe_ix ix_list (pv 5) (pe_un un_neg pe_int) (fun _ _ => rfl)) pe_int (fun _ _ => rfl))))))) pss_nil)
      (pss_one (ps_ret (pe_call GO hr (by rfl) gO kO bO .nil pass0 (pa_cons (pv 0) (pa_cons (pv 2) pa_nil)))))))))), ?_⟩
    obtain ⟨dq, eD0, pD0⟩ := id hD
    have hll := hH.liv_len
    have lvL : (sortS (liv ds)).length = (liv ds).length := (sortS_perm _).length_eq
    have lvM : ∀ {z : Str}, z ∈ sortS (liv ds) ↔ z ∈ liv ds := (sortS_perm _).mem_iff
    have nlv := pot_ne_strs hP elv
    refine rs_set ?_
    refine ⟨.ref l, rfl, l, ds, rfl, hD, hH, hl, fun d H1 s1 nd ed => ?_⟩
    refine rs_set ?_
    refine ⟨.ref lv, rfl, lv, rfl, ⟨_, sql_of (s1 _ _ elv)⟩, fun D nD => lc_list (xs := (sortS (liv ds)).map V.str) (fun i H' => ∃ qs : List Addr, Same H1 H' ∧ H' D = some (.lst (qs.map V.ref)) ∧ Paired (NpAt H') qs (((sortS (liv ds)).take i).map fun z => (cntD ds z, z))) ⟨[], same_upd nD, upd_same, .nil⟩ (fun i H' _ ⟨_, w, _⟩ => sql_of (w _ _ (s1 _ _ elv))) ?_ ?_⟩
    · rintro i x H' hx ⟨qs, sx, eD, hq⟩
      obtain ⟨z, hz, rfl⟩ := map_get hx
      have hzl := lvM.mp (List.mem_of_getElem? hz)
      have hql : qs.length ≤ 100 := by rw [Paired.length hq, List.length_map, List.length_take]; omega
      have g0 : DGet H' d (.str z) (some (natV (cntD ds) z)) := by
        have := DGet.k (k := Sum.inr z) (sx _ _ ed)
        rw [encF_val, if_pos (hH.liv_came z hzl)] at this
        exact this
      refine ⟨rfl, r_yes ?_⟩
      refine ⟨.ref d, rfl, .str z, rfl, d, _, rfl, g0, .str z, rfl, by show 2 ≤ sizeLine; decide, fun p np => ?_⟩
      have s2 := same_upd (o := .tup [.int (cntD ds z : Nat), .str z]) np
      have npD : p ≠ D := fun y => by rw [y, eD] at np; cases np
      refine ⟨_, s2 _ _ eD, smallM (by rw [List.length_map]; omega), qs ++ [p], fun b o e => ?_, by rw [upd_same, List.map_append]; rfl, ?_⟩
      · rw [upd_ne (ne_of_none e nD)]; exact s2 _ _ (sx _ _ e)
      · rw [take_snoc hz, List.map_append]
        refine paired_snoc ?_ (paired_mono (fun q t e => ?_) hq)
        · show (upd _ D _) p = _
          rw [upd_ne npD, upd_same]
        · have e : H' q = _ := e
          show (upd _ D _) q = _
          rw [upd_ne (fun y => by rw [y, eD] at e; cases e)]
          exact s2 _ _ e
    rintro H' ⟨qs, sx, eD, hq⟩
    rw [List.length_map, List.take_length] at hq
    have hql := Paired.length hq
    rw [List.length_map, lvL] at hql
    refine ⟨D, qs, _, rfl, sql_of eD, hq, Nat.le_of_lt (smallM (by rw [List.length_map]; omega)), fun p2 qs' n2 hsub hqs' => ?_⟩
    have s2 := same_upd (o := .lst (qs'.map V.ref)) n2
    have hS : SomeAt (upd H' p2 (.lst (qs'.map V.ref))) p2 (liv ds) := by
      refine ⟨qs', upd_same, by rw [hqs', hql], fun q hq2 => ?_⟩
      obtain ⟨j, hj⟩ := List.mem_iff_getElem?.mp (hsub q hq2)
      obtain ⟨t, ht, et⟩ := paired_get hq hj
      obtain ⟨z, hz, e⟩ := List.mem_map.mp (List.mem_of_getElem? ht)
      exact ⟨t.1, t.2, lvM.mp (by rw [← e]; exact hz), s2 _ _ et⟩
    have sH2 := (s1.trans sx).trans s2
    generalize (upd H' p2 (.lst (qs'.map V.ref))) = H2 at hS sH2 ⊢
    clear hsub hqs' n2 s2 hq hql eD sx nD D qs qs' ed nd s1
    -- came
    have eD2 := sH2 _ _ eD0
    have pD2 : Paired (DeedAt H2) dq ds := paired_mono (fun q d e => e.keep sH2) pD0
    have elv2 := sH2 _ _ elv
    refine rs_set ?_
    refine ⟨.ref l, rfl, l, rfl, ⟨_, sql_of eD2⟩, fun D nD => lc_list (xs := dq.map V.ref) (fun i H' => Same H2 H' ∧ H' D = some (.lst (((cameD (ds.take i)).filter fun z => decide (z ∈ liv ds)).map V.str))) ⟨same_upd nD, upd_same⟩ (fun i H' _ w => sql_of (w.1 _ _ eD2)) ?_ ?_⟩
    · rintro i x H' hx ⟨sx, eD⟩
      obtain ⟨qd, hq, rfl⟩ := map_get hx
      obtain ⟨e, he, ed⟩ := paired_get pD2 hq
      have ec : cameD (ds.take (i + 1)) = cameD (ds.take i) ++ if e.isCome = true then [e.name] else [] := by rw [take_snoc he, came_snoc]
      have hcl : ((cameD (ds.take i)).filter fun z => decide (z ∈ liv ds)).length ≤ 100 := Nat.le_trans (List.length_filter_le _ _) (Nat.le_trans (hH.came_take i) hl)
      obtain ⟨more, em⟩ := (ed.keep sx).two (K := K)
      refine ⟨rfl, .ref qd, rfl, qd, _, 0, .str e.word, rfl, rfl, sqt_of em, atI_nat (j := 0) rfl, rfl, _, congrArg V.bl (word_come e), ?_⟩
      cases hc : e.isCome with
      | false =>
        show if false = true then _ else _
        rw [if_neg Bool.false_ne_true]
        show if false = true then _ else _
        rw [if_neg Bool.false_ne_true]
        refine ⟨sx, ?_⟩
        rw [eD, ec, hc, if_neg Bool.false_ne_true, List.append_nil]
      | true =>
        show if true = true then _ else _
        rw [if_pos rfl]
        refine ⟨.ref qd, rfl, qd, _, 1, .str e.name, rfl, rfl, sqt_of em, atI_nat (j := 1) rfl, .ref lv, rfl, lv, _, rfl, .inl (sql_of (sx _ _ elv2)), rfl, strs_flat _, _, rfl, ?_⟩
        show if inV (.str e.name) ((sortS (liv ds)).map V.str) = true then _ else _
        rw [inV_str]
        have em2 : decide (e.name ∈ sortS (liv ds)) = decide (e.name ∈ liv ds) := by rw [decide_eq_decide]; exact lvM
        rw [em2]
        by_cases hm : e.name ∈ liv ds
        · rw [decide_eq_true hm, if_pos rfl]
          refine ⟨.ref qd, rfl, qd, _, 1, .str e.name, rfl, rfl, sqt_of em, atI_nat (j := 1) rfl, _, eD, smallM (by rw [List.length_map]; omega), fun b o eb => ?_, ?_⟩
          · rw [upd_ne (ne_of_none eb nD)]; exact sx _ _ eb
          · rw [upd_same, ec, hc, if_pos rfl, List.filter_append, List.map_append, List.filter_cons_of_pos (by exact decide_eq_true hm)]; rfl
        · rw [decide_eq_false hm, if_neg Bool.false_ne_true]
          refine ⟨sx, ?_⟩
          rw [eD, ec, hc, if_pos rfl, List.filter_append, List.filter_cons_of_neg (by rw [decide_eq_false hm]; exact Bool.false_ne_true), List.filter_nil, List.append_nil]
    rintro H' ⟨sx, eD⟩
    rw [List.length_map, Paired.length pD2, List.take_length] at eD
    have s3 := sH2.trans sx
    have hS3 := hS.keep sx
    have elv3 := sx _ _ elv2
    have hcm : ∀ z ∈ (cameD ds).filter (fun z => decide (z ∈ liv ds)), z ∈ liv ds := fun z hz => of_decide_eq_true (List.mem_filter.mp hz).2
    have hcp : 0 < ((cameD ds).filter fun z => decide (z ∈ liv ds)).length := by
      obtain ⟨z, hz⟩ := List.exists_mem_of_length_pos hpos
      exact List.length_pos_of_mem (List.mem_filter.mpr ⟨hH.liv_came z hz, decide_eq_true hz⟩)
    generalize ((cameD ds).filter fun z => decide (z ∈ liv ds)) = cm at eD hcm hcp
    have hP3 := hP.same s3
    clear hS sH2 eD2 pD2 elv2 sx nD
    obtain ⟨qs, eS, hqs, hSm⟩ := id hS3
    have qpos : 0 < qs.length := by rw [hqs]; exact hpos
    have qne : qs.map V.ref ≠ [] := by
      intro e
      have := congrArg List.length e
      rw [List.length_map] at this
      rw [this] at qpos
      cases qpos
    obtain ⟨ql, ez, cz, zz, hzl, eqz⟩ : ∃ (ql : Addr) (_ : atI (qs.map V.ref) (-1) = some (.ref ql)) (c : Nat) (z : Str), z ∈ liv ds ∧ H' ql = some (.tup [.int (c : Nat), .str z]) := by
      have hm := List.getLast_mem qne
      obtain ⟨q, hq, e⟩ := List.mem_map.mp hm
      obtain ⟨c, z, h1, h2⟩ := hSm q hq
      exact ⟨q, by rw [at_lastV qne, ← e], c, z, h1, h2⟩
    have retL : ∀ (σ' : L2.St) (H4 : Hp) (Q' : VK), σ'[5]? = some (some (.ref p2)) → Same H' H4 → Q' (.str zz) H4 → tOp (rIxT K) (tOp (rIxL K) (tVar 5) (tUn (rU fun i => V.int (-i)) (tC (.int 1)))) (tC (.int 1)) σ' H4 Q' := fun σ' H4 Q' hσ s4 q' =>
      ⟨.ref p2, hσ, 1, rfl, p2, qs.map V.ref, _, _, rfl, rfl, sql_of (s4 _ _ eS), ez, ql, _, 1, .str zz, rfl, rfl, sqt_of (s4 _ _ eqz), rfl, q'⟩
    have Qz : ∀ z H4, z ∈ liv ds → Same H' H4 → Q (.str z) H4 := fun z H4 hz s4 => q z H4 hz (SameX.of (s3.trans s4)) ((hP3.same s4).mono (by omega))
    refine rs_no2 (fun H4 => H4 = H') (fun H4 => H4 = H' ∧ 2 ≤ wy) (fun Q1 qt qf => ?_) (fun H4 e => ?_) (fun H4 ⟨e, wy2⟩ => ?_)
    · refine ⟨_, rfl, _, _, rfl, rfl, _, rfl, ?_⟩
      cases hb : decide (((wy : Nat) : Int) < 2) with
      | true => exact qt _ rfl
      | false => exact qf _ ⟨rfl, by have := of_decide_eq_false hb; omega⟩
    · subst e
      exact retL _ H4 Q rfl (Same.refl _) (Qz zz H4 hzl (Same.refl _))
    subst e
    refine rs_no2 (fun H5 => H5 = H4 ∧ wy < 5) (fun H5 => H5 = H4) (fun Q1 qt qf => ?_) (fun H5 ⟨e, w5⟩ => ?_) (fun H5 e => ?_)
    · refine ⟨_, rfl, _, _, rfl, rfl, _, rfl, ?_⟩
      cases hb : decide (((wy : Nat) : Int) < 5) with
      | true => exact qt _ ⟨rfl, by have := of_decide_eq_true hb; omega⟩
      | false => exact qf _ rfl
    · subst e
      refine r_ret ?_
      obtain ⟨q0, hq0⟩ : ∃ q0, qs[0]? = some q0 := ⟨qs[0], List.getElem?_eq_getElem qpos⟩
      obtain ⟨c0, z0, hz0, eq0⟩ := hSm q0 (List.mem_of_getElem? hq0)
      refine ⟨.ref p2, rfl, p2, qs.map V.ref, 0, .ref q0, rfl, rfl, sql_of eS, atI_nat (j := 0) (by rw [List.getElem?_map, hq0]; rfl), q0, _, 1, .str z0, rfl, rfl, sqt_of eq0, rfl,
        .ref D, rfl, D, cm.map V.str, 0, _, rfl, rfl, sql_of eD, at_ns (j := 0) rfl hcp, .ref D, rfl, 1, rfl, D, cm.map V.str, _, _, rfl, rfl, sql_of eD, at_last hcp, by show 3 ≤ sizeLine; decide, fun p np => ?_⟩
      have sn := same_upd (o := .lst [.str z0, .str cm[0], .str (cm[cm.length - 1]'(by omega))]) np
      have hw : wy = 2 ∨ wy = 3 ∨ wy = 4 := by omega
      rcases hw with rfl | rfl | rfl
      · exact ⟨_, rfl, _, _, rfl, rfl, p, _, _, .str z0, rfl, rfl, sql_of upd_same, rfl, Qz _ _ hz0 sn⟩
      · exact ⟨_, rfl, _, _, rfl, rfl, p, _, _, .str cm[0], rfl, rfl, sql_of upd_same, rfl, Qz _ _ (hcm _ (List.getElem_mem _)) sn⟩
      · exact ⟨_, rfl, _, _, rfl, rfl, p, _, _, .str (cm[cm.length - 1]'(by omega)), rfl, rfl, sql_of upd_same, rfl, Qz _ _ (hcm _ (List.getElem_mem _)) sn⟩
    subst e
    have fin : ∀ (σ' : L2.St), σ'[0]? = some (some (.ref a)) → σ'[2]? = some (some (.ref lv)) → tCall (spOf2 K) [] E0 (tCons (tVar 0) (tCons (tVar 2) tNil)) σ' H5 Q := fun σ' h0 h2 =>
      ⟨.ref a, h0, .ref lv, h2, .inl ⟨a, lv, (sortS (liv ds)).map V.str, N, rfl, hP3, by omega, sql_of elv3, nlv, by rw [List.length_map, lvL]; exact hpos, by rw [List.length_map, lvL]; omega, fun ix v H6 hv s6 hp6 => by
        obtain ⟨z, hz, rfl⟩ := map_get hv
        exact q z H6 (lvM.mp (List.mem_of_getElem? hz)) ((SameX.of s3).trans s6) (hp6.mono (by omega))⟩⟩
    refine rs_no2 (fun H6 => H6 = H5) (fun H6 => H6 = H5) (fun Q1 qt qf => ?_) (fun H6 e => ?_) (fun H6 e => ?_)
    · refine ⟨_, rfl, rfl, _, rfl, ?_⟩
      cases hb : decide (V.int (wy : Nat) = V.int 5) with
      | true => exact qt _ rfl
      | false => exact qf _ rfl
    · subst e
      refine rs_par ?_
      intro be nbe
      have sb := same_upd (o := .dK []) nbe
      have ebe : (upd H6 be (.dK [])) be = some (.dK (encL [])) := upd_same
      have elvb := sb _ _ elv3
      generalize (upd H6 be (.dK [])) = Hb at sb ebe elvb ⊢
      refine ⟨.ref lv, rfl, lv, rfl, ⟨_, sql_of elvb⟩, fun D1 nD1 => lc_list (xs := (sortS (liv ds)).map V.str) (fun i H' => ∃ tp : List Addr, Same Hb H' ∧ H' D1 = some (.lst (tp.map V.ref)) ∧ Paired (fun q n => H' q = some (.tup [.str n, .bl true])) tp ((sortS (liv ds)).take i)) ⟨[], same_upd nD1, upd_same, .nil⟩ (fun i H' _ ⟨_, w, _⟩ => sql_of (w _ _ elvb)) ?_ ?_⟩
      · rintro i x H' hx ⟨tp, sx, eD1, hp⟩
        obtain ⟨z, hz, rfl⟩ := map_get hx
        have htp : tp.length ≤ 100 := by rw [Paired.length hp, List.length_take]; omega
        refine ⟨rfl, r_yes ?_⟩
        refine ⟨.str z, rfl, by show 2 ≤ sizeLine; decide, fun p np => ?_⟩
        have s2 := same_upd (o := .tup [.str z, .bl true]) np
        have npD : p ≠ D1 := fun y => by rw [y, eD1] at np; cases np
        refine ⟨_, s2 _ _ eD1, smallM (by rw [List.length_map]; omega), tp ++ [p], fun b o e => ?_, by rw [upd_same, List.map_append]; rfl, ?_⟩
        · rw [upd_ne (ne_of_none e nD1)]; exact s2 _ _ (sx _ _ e)
        · rw [take_snoc hz]
          refine paired_snoc ?_ (paired_mono (fun q n e => ?_) hp)
          · rw [upd_ne npD, upd_same]
          · rw [upd_ne (fun y => by rw [y, eD1] at e; cases e)]
            exact s2 _ _ e
      rintro H' ⟨tp, sx, eD1, hp⟩
      rw [List.length_map, List.take_length] at hp
      refine ⟨D1, tp, encL (sortS (liv ds)), rfl, sql_of eD1, paired_map (paired_mono (fun q n e => sqt_of e) hp), fun he nhe => ?_⟩
      have hnL : (sortS (liv ds)).Nodup := (sortS_perm _).nodup_iff.mpr hH.liv_nodup
      rw [mergeK_new (by unfold encL; rw [List.nil_append, List.map_map]; exact List.Pairwise.map _ (fun a b h e => h (Sum.inr.inj e)) hnL), List.nil_append]
      have s7 := same_upd (o := .dK (encL (sortS (liv ds)))) nhe
      have ehe : (upd H' he (.dK (encL (sortS (liv ds))))) he = some (.dK (encL (sortS (liv ds)))) := upd_same
      have ebe7 := s7 _ _ (sx _ _ ebe)
      have s67 : Same H6 (upd H' he (.dK (encL (sortS (liv ds))))) := (sb.trans sx).trans s7
      have nhb : he ≠ be := fun y => by rw [y, sx _ _ ebe] at nhe; cases nhe
      generalize (upd H' he (.dK (encL (sortS (liv ds))))) = H7 at ehe ebe7 s67 ⊢
      clear nD1 eD1 hp sx s7 sb elvb ebe
      refine ⟨_, _, rfl, ?_⟩
      refine rs_listR (fun l' xs H1 => ∃ us : List Addr, xs = us.map V.ref ∧ Same H7 H1 ∧ H1 l' = some (.lst xs) ∧ Paired (TieL H1) us (sortP (elderT ds)))
        (fun l' xs H1 i σ' H' => ∃ (o9 o10 : Option V) (us : List Addr) (bs : List Str), σ' = [some (.ref a), some (.ref l), some (.ref lv), some (.int wy), some (.ref d), some (.ref p2), some (.ref D), some (.ref be), some (.ref he), o9, o10, none, none] ∧ Same H6 H' ∧ H' he = some (.dK (encL (sortS (liv ds)))) ∧ H' be = some (.dK (encL bs)) ∧ (∀ z ∈ bs, z ∈ liv ds) ∧ bs.Nodup ∧ xs = us.map V.ref ∧ H' l' = some (.lst xs) ∧ Paired (TieL H') us (sortP (elderT ds)))
        (fun Q1 q1 => ?_) (fun l' xs H1 ⟨us, w1, w2, w3, w4⟩ => ⟨_, _, us, [], rfl, s67.trans w2, w2 _ _ ehe, w2 _ _ ebe7, (fun _ z => nomatch z), List.nodup_nil, w1, w3, w4⟩) (fun l' xs H1 i σ' H' ⟨_, _, _, _, _, _, _, _, _, _, _, w, _⟩ => sql_of w) ?_ ?_
      · exact ⟨.ref l, rfl, l, ds, rfl, (hD.keep s3).keep s67, hH, hl, fun p H8 s8 np ⟨pl, tl, us, w1, w2, w3, w4⟩ => ⟨p, [.ref pl, .ref tl], 1, .ref tl, rfl, rfl, sqt_of w1, rfl, q1 tl (us.map V.ref) H8 ⟨us, rfl, s8, w3, w4⟩⟩⟩
      · rintro l' xs H1 i x σ' H' _ hx ⟨o9, o10, us, bs, rfl, sx, eh, eb, hb1, hb2, rfl, el', hu'⟩
        obtain ⟨q', hq', rfl⟩ := map_get hx
        obtain ⟨t, ht, et⟩ := paired_get hu' hq'
        have bl : bs.length ≤ 100 := Nat.le_trans (len_subN hb1 hb2) (by omega)
        refine ⟨q', [.str t.1, .str t.2], rfl, sqt_of et, rfl, _, [.str t.2], rfl, _, [], rfl, rfl, ?_⟩
        have g1 : DGet H' he (.str t.1) (valV (encL (sortS (liv ds))) (Sum.inr t.1)) := DGet.k (k := Sum.inr t.1) eh
        have g2 : DGet H' he (.str t.2) (valV (encL (sortS (liv ds))) (Sum.inr t.2)) := DGet.k (k := Sum.inr t.2) eh
        have v1 : ∀ z, (valV (encL (sortS (liv ds))) (Sum.inr z)).isSome = decide (z ∈ liv ds) := fun z => by
          rw [encL_val]
          by_cases m : z ∈ liv ds
          · rw [if_pos (lvM.mpr m), decide_eq_true m]; rfl
          · rw [if_neg (fun h => m (lvM.mp h)), decide_eq_false m]; rfl
        have nx : ∀ z, z ∈ liv ds → ∃ (o9 o10 : Option V) (us' : List Addr) (bs' : List Str), ([some (.ref a), some (.ref l), some (.ref lv), some (.int wy), some (.ref d), some (.ref p2), some (.ref D), some (.ref be), some (.ref he), some (.str t.1), some (.str t.2), none, none] : L2.St) = [some (.ref a), some (.ref l), some (.ref lv), some (.int wy), some (.ref d), some (.ref p2), some (.ref D), some (.ref be), some (.ref he), o9, o10, none, none] ∧ Same H6 (upd H' be (.dK (putK (encL bs) (Sum.inr z) (.bl true)))) ∧ (upd H' be (.dK (putK (encL bs) (Sum.inr z) (.bl true)))) he = some (.dK (encL (sortS (liv ds)))) ∧ (upd H' be (.dK (putK (encL bs) (Sum.inr z) (.bl true)))) be = some (.dK (encL bs')) ∧ (∀ z ∈ bs', z ∈ liv ds) ∧ bs'.Nodup ∧ us.map V.ref = us'.map V.ref ∧ (upd H' be (.dK (putK (encL bs) (Sum.inr z) (.bl true)))) l' = some (.lst (us.map V.ref)) ∧ Paired (TieL (upd H' be (.dK (putK (encL bs) (Sum.inr z) (.bl true))))) us' (sortP (elderT ds)) := by
          intro z hz
          refine ⟨_, _, us, if z ∈ bs then bs else bs ++ [z], rfl, fun b o e => ?_, ?_, ?_, ?_, ?_, rfl, ?_, ?_⟩
          · rw [upd_ne (ne_of_none e nbe)]; exact sx _ _ e
          · rw [upd_ne nhb]; exact eh
          · rw [upd_same, encL_put]
          · intro y hy
            by_cases m : z ∈ bs
            · rw [if_pos m] at hy; exact hb1 y hy
            · rw [if_neg m] at hy
              rcases List.mem_append.mp hy with hy | hy
              · exact hb1 y hy
              · rw [List.mem_singleton.mp hy]; exact hz
          · by_cases m : z ∈ bs
            · rw [if_pos m]; exact hb2
            · rw [if_neg m, List.nodup_append]
              exact ⟨hb2, by simp, fun x hx y hy e => m (by rw [List.mem_singleton.mp hy] at e; exact e ▸ hx)⟩
          · rw [upd_ne (fun y => by rw [y, eb] at el'; cases el')]; exact el'
          · exact paired_mono (fun q u e => by
              have e : H' q = _ := e
              show (upd _ be _) q = _
              rw [upd_ne (fun y => by rw [y, eb] at e; cases e)]
              exact e) hu'
        have dpk : ∀ z, DPut H' be (.str z) (.bl true) (upd H' be (.dK (putK (encL bs) (Sum.inr z) (.bl true)))) := fun z => DPut.k (k := Sum.inr z) eb (smallM (by rw [encL_len]; omega))
        refine ⟨.str t.1, rfl, .ref he, rfl, he, _, rfl, g1, .str t.2, rfl, .ref he, rfl, he, _, rfl, g2, rfl, _, rfl, ite2 (fun c => ?_) (fun c => ?_)⟩
        · rw [v1, v1] at c
          refine ⟨.ref be, rfl, .str t.1, rfl, .ref he, rfl, he, _, rfl, g1, _, rfl, ite2 (fun m => ?_) (fun m => ?_)⟩
          · rw [v1] at m
            exact ⟨.str t.1, rfl, be, _, rfl, dpk t.1, nx t.1 (of_decide_eq_true m)⟩
          · rw [v1] at m
            refine ⟨.str t.2, rfl, be, _, rfl, dpk t.2, nx t.2 ?_⟩
            by_cases m2 : t.2 ∈ liv ds
            · exact m2
            · exfalso
              have m1 : t.1 ∉ liv ds := fun h => m (decide_eq_true h)
              rw [decide_eq_false m1, decide_eq_false m2] at c
              exact absurd c (by decide)
        · exact ⟨_, _, us, bs, rfl, sx, eh, eb, hb1, hb2, rfl, el', hu'⟩
      · rintro l' xs H1 σ' H' _ ⟨o9, o10, us, bs, rfl, sx, eh, eb, hb1, hb2, _, _, _⟩
        have bl : bs.length ≤ 100 := Nat.le_trans (len_subN hb1 hb2) (by omega)
        refine r_ret ?_
        refine ⟨.ref be, rfl, fun nl nnl => ⟨be, nl, encL bs, rfl, rfl, (same_upd nnl) _ _ eb, upd_same, _, rfl, ite2 (fun c => ?_) (fun c => ?_)⟩⟩
        · have sA := sx.trans (same_upd (o := .dK []) nnl)
          have bpos : 0 < bs.length := by
            cases bs with
            | nil => exact absurd c (by decide)
            | cons x l => exact Nat.succ_pos _
          refine ⟨.ref a, rfl, .ref be, rfl, be, _, rfl, (same_upd nnl) _ _ eb, fun p1 n1 => ?_⟩
          rw [encL_keys]
          refine ⟨p1, bs, rfl, sql_of upd_same, Nat.le_of_lt (smallM (by omega)), fun p3 n3 => ?_⟩
          have sB := (sA.trans (same_upd (o := .lst (bs.map V.str)) n1)).trans (same_upd (o := .lst ((sortS bs).map V.str)) n3)
          have hpB := hP3.same sB
          have ep3 : (upd (upd (upd H' nl (.dK [])) p1 (.lst (bs.map V.str))) p3 (.lst ((sortS bs).map V.str))) p3 = some (.lst ((sortS bs).map V.str)) := upd_same
          have sl : (sortS bs).length = bs.length := (sortS_perm _).length_eq
          refine .inl ⟨a, p3, (sortS bs).map V.str, N, rfl, hpB, by omega, sql_of ep3, pot_ne_strs hpB ep3, by rw [List.length_map, sl]; exact bpos, by rw [List.length_map, sl]; omega, fun ix v H8 hv s8 hp8 => ?_⟩
          obtain ⟨z, hz, rfl⟩ := map_get hv
          exact q z H8 (hb1 z ((sortS_perm _).mem_iff.mp (List.mem_of_getElem? hz))) ((SameX.of (s3.trans sB)).trans s8) (hp8.mono (by omega))
        · have sA := sx.trans (same_upd (o := .dK []) nnl)
          exact retL _ _ Q rfl sA (Qz zz _ hzl sA)
    subst e
    exact fin _ rfl rfl
end
end Hw

set_option Elab.async false
set_option linter.all false
set_option maxRecDepth 100000
set_option maxHeartbeats 4000000
namespace Hw
open PySem L2 PyProof.Rows
abbrev sHist : Stmt := topS 35
theorem cut_to (xs : List V) (k : Nat) : cutV xs none (some (k : Int)) = xs.take k := by
  unfold cutV
  rw [HT.sIx_none, HT.sIx_nat, Nat.sub_zero, List.drop_zero]
  by_cases h : k ≤ xs.length
  · rw [Nat.min_eq_left h]
  · rw [Nat.min_eq_right (by omega), List.take_length, List.take_of_length_le (by omega)]
theorem cut_from (xs : List V) (k : Nat) : cutV xs (some (k : Int)) none = xs.drop k := by
  unfold cutV
  rw [HT.sIx_none, HT.sIx_nat]
  by_cases h : k ≤ xs.length
  · rw [Nat.min_eq_left h, List.take_of_length_le (by rw [List.length_drop]; omega)]
  · rw [Nat.min_eq_right (by omega), List.drop_length, List.take_nil, List.drop_of_length_le (by omega)]
theorem if_two {t : TT} {A B : TS} {D : Ends} {σ : L2.St} {H : Hp} (R1 R2 : Hp → Prop) (ht : ∀ Q : Bool → Hp → Prop, (∀ H', R1 H' → Q true H') → (∀ H', R2 H' → Q false H') → t σ H Q) (h1 : ∀ H', R1 H' → A D σ H') (h2 : ∀ H', R2 H' → B D σ H') : tIfS t A B D σ H :=
  ht _ (fun H' r => by show if true = true then _ else _; rw [if_pos rfl]; exact h1 H' r) (fun H' r => by show if false = true then _ else _; rw [if_neg Bool.false_ne_true]; exact h2 H' r)
theorem rs_rngE {wi : TI} {g : TG} {tb u : TS} {D : Ends} {σ : L2.St} {H : Hp} (lo : Int) (P0 : Nat → Hp → Prop) (Pv : Nat → Nat → L2.St → Hp → Prop) (hw : ∀ R : It → Hp → Prop, (∀ n H1, P0 n H1 → R (Itr lo n) H1) → wi σ H R) (h0 : ∀ n H1, P0 n H1 → Pv n 0 σ H1)
    (hs : ∀ n i σ H, i < n → Pv n i σ H → g (.int (lo + i)) σ H fun σ2 H2 => tb { D with nx := Pv n (i + 1), ct := Pv n (i + 1), bk := u D } σ2 H2) (hd : ∀ n σ H, Pv n n σ H → u D σ H) : tSeq (tFor wi g tb) u D σ H :=
  hw _ fun n H1 p => for_range (D := { D with nx := u D }) (Pv n) (h0 n H1 p) (hs n) (hd n)
theorem rs_setP {te : TE} {i : Nat} {u : TS} {D : Ends} {σ : L2.St} {H : Hp} (P0 : V → Hp → Prop) (hw : ∀ Q : VK, (∀ v H1, P0 v H1 → Q v H1) → te σ H Q) (h : ∀ v H1, P0 v H1 → u D (σ.set i (some v)) H1) : tSeq (tAsg te (gName i)) u D σ H := rs_set (hw _ h)
/-- a history as it is drawn -/
structure HistI (a dl sp : Addr) (wd : Bool) (H : Hp) (M pl mo i : Nat) (ds : List Deed) (qs : List Addr) (ss : List Str) (H' : Hp) : Prop where
  sx : SameX a H H'
  pot : Pot H' a M
  ed : H' dl = some (.lst (qs.map V.ref))
  dd : Paired (DeedAt H') qs ds
  es : H' sp = some (.lst (ss.map V.str))
  hist : Hist ds
  wood : WoodD wd ds
  nod : (cameD ds ++ ss).Nodup
  nm : ∀ z ∈ ss, NmX z
  len : ds.length ≤ pl + i
  few : mo ≤ ss.length + i
  sl : ss.length ≤ mo
theorem HistI.step {a dl sp : Addr} {wd : Bool} {H H' H'' : Hp} {M M' pl mo i : Nat} {ds : List Deed} {qs : List Addr} {ss : List Str} (w : HistI a dl sp wd H M pl mo i ds qs ss H') (s : SameX a H' H'') (hp : Pot H'' a M') : HistI a dl sp wd H M' pl mo i ds qs ss H'' :=
  ⟨w.sx.trans s, hp, s _ _ (Ne.symm (pot_ne_refs w.pot w.ed)) w.ed, paired_mono (fun q d e => e.sx w.pot s) w.dd, s _ _ (Ne.symm (pot_ne_strs w.pot w.es)) w.es, w.hist, w.wood, w.nod, w.nm, w.len, w.few, w.sl⟩
/-- what is put to the deeds' list keeps all that is no list of names or of deeds -/
theorem HistI.kd {a dl sp : Addr} {wd : Bool} {H H' H2 : Hp} {M pl mo i : Nat} {ds : List Deed} {qs : List Addr} {ss : List Str} (w : HistI a dl sp wd H M pl mo i ds qs ss H') (k : ∀ b o, b ≠ dl → b ≠ sp → H' b = some o → H2 b = some o) : ∀ (q : Addr) (d : Deed), DeedAt H' q d → DeedAt H2 q d := fun q d e => by
  have kt : ∀ {b : Addr} {vs : List V}, H' b = some (.tup vs) → H2 b = some (.tup vs) := fun {b vs} e => k b _ (fun y => by rw [y, w.ed] at e; cases e) (fun y => by rw [y, w.es] at e; cases e) e
  cases d with
  | come n ts =>
    obtain ⟨tq, h1, h2⟩ := e
    exact ⟨tq, kt h1, kt h2⟩
  | die n => exact kt e
def spHist : Sp := fun vs H Q _ => ∃ (a : Addr) (pl mo : Nat) (wd : Bool) (N : Nat), vs = [.ref a, .int pl, .int mo, .bl wd] ∧ Pot H a N ∧ N < 200000000 ∧ 2 ≤ pl ∧ pl ≤ 30 ∧ mo ≤ 30 ∧
  ∀ p ds H', Hist ds → ds.length ≤ pl + mo → WoodD wd ds → DeedsAt H' p ds → SameX a H H' → Pot H' a (N + 3000) → Q (.ref p) H'
section
variable {P : Program} {w : World} {K : PySem.W.Frag} {mg : Str → Option Value} {base : Heap}
theorem scHist : FnScope ["pot", "places", "more", "wood", "many", "names", "deeds", "spare", "way", "quiet", "lap", "living"] ["pot", "places", "more", "wood"] (defScope sHist) := ⟨rfl, rfl, rfl, by decide +kernel, rfl, by decide +kernel, by decide +kernel⟩
theorem ok_hist {f fT fO fN fG fL fC fX : Addr} {fd fdT fdO fdN fdG fdL fdC fdX : FuncData} {k : Nat} (F : Fun K "_law_history" "_law_history" sHist f fd) (B : Blt mg)
    (GT : FnOk P w K mg base CX0 k fT fdT ["pot", "upto"] spTake) (gT : mg "_law_take" = some (.ref fT)) (kT : PySem.W.keepIn K (.ref fT) = true) (bT : Binds K fdT ["pot", "upto"] [])
    (GO : FnOk P w K mg base CX0 k fO fdO ["pot", "some"] (spOf2 K)) (gO : mg "_law_of" = some (.ref fO)) (kO : PySem.W.keepIn K (.ref fO) = true) (bO : Binds K fdO ["pot", "some"] [])
    (GN : FnOk P w K mg base CX0 k fN fdN ["pot", "many"] spNames) (gN : mg "_law_names" = some (.ref fN)) (kN : PySem.W.keepIn K (.ref fN) = true) (bN : Binds K fdN ["pot", "many"] [])
    (GG : FnOk P w K mg base CX0 k fG fdG ["pot", "names", "wood"] spGrown) (gG : mg "_law_grown" = some (.ref fG)) (kG : PySem.W.keepIn K (.ref fG) = true) (bG : Binds K fdG ["pot", "names", "wood"] [])
    (GL : FnOk P w K mg base CX0 k fL fdL ["deeds"] spLiving) (gL : mg "_law_living" = some (.ref fL)) (kL : PySem.W.keepIn K (.ref fL) = true) (bL : Binds K fdL ["deeds"] [])
    (GC : FnOk P w K mg base CX0 k fC fdC ["pot", "living", "wood"] spComeT) (gC : mg "_law_come_ties" = some (.ref fC)) (kC : PySem.W.keepIn K (.ref fC) = true) (bC : Binds K fdC ["pot", "living", "wood"] [])
    (GX : FnOk P w K mg base CX0 k fX fdX ["pot", "deeds", "living", "way"] spNextD) (gX : mg "_law_next_dead" = some (.ref fX)) (kX : PySem.W.keepIn K (.ref fX) = true) (bX : Binds K fdX ["pot", "deeds", "living", "way"] []) :
    FnOk P w K mg base CX0 (k + 1) f fd ["pot", "places", "more", "wood"] spHist := by
  refine F.ok scHist (fun vs H Q E h => ?_) (fun cdv A outer s H vs Q E hr h => ?_)
  · obtain ⟨a, pl, mo, wd, N, rfl, _⟩ := h
    rfl
  · obtain ⟨a, pl, mo, wd, N, rfl, hP, hN, hp2, hpl, hmo, q⟩ := h
    have hu := hu_of hr
    have hu64 := hr.units
    refine ⟨_, pss_cons (ps_set (i := 4) scHist.nd rfl (.inl rfl) (pe_op op_add pe_int (pe_call GT hr (by rfl) gT kT bT .nil pass0 (pa_cons (pv 0) (pa_cons (pe_op op_sub (pv 1) pe_int) pa_nil)))))
      (pss_cons (ps_set (i := 5) scHist.nd rfl (.inl rfl) (pe_call GN hr (by rfl) gN kN bN .nil pass0 (pa_cons (pv 0) (pa_cons (pe_op op_add (pv 4) (pv 2)) pa_nil))))
      (pss_cons (ps_par3 (i := 6) (j := 7) (l := 8) rfl scHist.nd rfl rfl rfl (by decide) (by decide) (by decide) rfl rfl rfl (pa_cons (pe_call GG hr (by rfl) gG kG bG .nil pass0 (pa_cons (pv 0) (pa_cons (pe_slice sl_list (pv 5) po_none (po_some (pv 4))) (pa_cons (pv 3) pa_nil))))
          (pa_cons (pe_slice sl_list (pv 5) (po_some (pv 4)) po_none) (pa_cons (pe_call GT hr (by rfl) gT kT bT .nil pass0 (pa_cons (pv 0) (pa_cons pe_int pa_nil))) pa_nil))) rfl)
      (pss_cons (ps_set (i := 9) scHist.nd rfl (.inl rfl) (pe_call GO hr (by rfl) gO kO bO .nil pass0 (pa_cons (pv 0) (pa_cons (pe_lst (pa_cons pe_int (pa_cons pe_int (pa_cons pe_int pa_nil)))) pa_nil))))
      (pss_cons (ps_for PassesOwn.never rfl (pi_range1 (by rfl) B.range (pa_cons (pe_call GT hr (by rfl) gT kT bT .nil pass0 (pa_cons (pv 0) (pa_cons (pe_op op_add (pv 2) pe_int) pa_nil))) pa_nil)) (pg_name (i := 10) scHist.nd rfl (.inl rfl))
        (pss_cons (ps_set (i := 11) scHist.nd rfl (.inl rfl) (pe_call GL hr (by rfl) gL kL bL .nil pass0 (pa_cons (pv 6) pa_nil)))
        (pss_one (ps_if (PW.pt (pw_or (pt_cmpR (op_eqD hu64) (pv 11) (pe_lst pa_nil) (nomark _)) (pw_or1 (pt_cmpR op_eq (pe_call GT hr (by rfl) gT kT bT .nil pass0 (pa_cons (pv 0) (pa_cons (pv 9) pa_nil))) pe_int (nomark _)))))
          (pss_one (ps_expr (pe_bm PySem.F.plainAttrs_list PySem.F.slot_list_append PySem.F.type_list_append mt_append (pv 6) (pa_cons (pe_tup (pa_cons pe_str (pa_cons (pe_bm0 PySem.F.plainAttrs_list PySem.F.slot_list_pop PySem.F.type_list_pop mt_pop (pv 7)) (pa_cons (pe_call GC hr (by rfl) gC kC bC .nil pass0 (pa_cons (pv 0) (pa_cons (pv 11) (pa_cons (pv 3) pa_nil)))) pa_nil)))) pa_nil))))
          (pss_cons (ps_set (i := 8) scHist.nd rfl (.inl rfl) (pe_ifExp (pt_cmpR op_eq (pe_call GT hr (by rfl) gT kT bT .nil pass0 (pa_cons (pv 0) (pa_cons pe_int pa_nil))) pe_int (nomark _)) (pe_call GT hr (by rfl) gT kT bT .nil pass0 (pa_cons (pv 0) (pa_cons pe_int pa_nil))) (pv 8)))
          (pss_one (ps_expr (pe_bm PySem.F.plainAttrs_list PySem.F.slot_list_append PySem.F.type_list_append mt_append (pv 6) (pa_cons (pe_tup (pa_cons pe_str (pa_cons (pe_call GX hr (by rfl) gX kX bX .nil pass0 (pa_cons (pv 0) (pa_cons (pv 6) (pa_cons (pv 11) (pa_cons (pv 8) pa_nil))))) pa_nil))) pa_nil)))))))))
      (pss_one (ps_ret (pv 6))))))), ?_⟩
    refine rs_set ?_
    refine ⟨.ref a, rfl, _, rfl, _, _, rfl, rfl, a, _, N, rfl, hP, by omega, by omega, by omega, fun r H1 r0 r1 s1 hp1 => ⟨_, _, rfl, rfl, ?_⟩⟩
    obtain ⟨r, rfl⟩ : ∃ n : Nat, r = (n : Int) := ⟨r.toNat, by omega⟩
    have hr1 : r + 2 ≤ pl := by omega
    have ew : (fun i j : Int => V.int (i + j)) 2 (r : Nat) = V.int ((2 + r : Nat) : Int) := congrArg V.int (by show (2 : Int) + (r : Nat) = ((2 + r : Nat) : Int); omega)
    rw [ew]
    refine rs_set ?_
    refine ⟨.ref a, rfl, _, rfl, _, rfl, _, _, rfl, rfl, a, 2 + r + mo, N + 1, ?_, hp1, by omega, by omega, fun nl names H2 hnl hnn hnN s2 npn en hp2' => ?_⟩
    · exact congrArg (fun z => [V.ref a, V.int z]) (show ((2 + r : Nat) : Int) + (mo : Nat) = ((2 + r + mo : Nat) : Int) by omega)
    have nnl := pot_ne_strs hp2' en
    refine rs_par3 ?_
    refine ⟨.ref a, rfl, .ref nl, rfl, _, rfl, _, rfl, nl, _, rfl, sql_of en, fun l1 n1 => ?_⟩
    rw [cut_to, ← List.map_take]
    have t1 := same_upd (o := .lst ((names.take (2 + r)).map V.str)) n1
    have hp3 := hp2'.same t1
    refine ⟨.bl wd, rfl, a, l1, names.take (2 + r), wd, _, rfl, hp3, by omega, upd_same, hnn.sublist (List.take_sublist ..), fun z hz => hnN z (List.mem_of_mem_take hz), by rw [List.length_take]; omega, fun dl ds H3 hist hdl hcame hliv hwood hdeeds ndl dla s3 hp4 => ?_⟩
    have en3 := s3 _ _ (Ne.symm nnl) (t1 _ _ en)
    refine ⟨.ref nl, rfl, _, rfl, _, rfl, nl, _, rfl, sql_of en3, fun sp nsp => ?_⟩
    rw [cut_from, ← List.map_drop]
    have t3 := same_upd (o := .lst ((names.drop (2 + r)).map V.str)) nsp
    have hp5 := hp4.same t3
    obtain ⟨qs, ed, dd⟩ := hdeeds
    have hnt : (names.take (2 + r)).length = 2 + r := by rw [List.length_take]; omega
    rw [hnt] at hp5 hdl
    have sxA : SameX a H (upd H2 l1 (.lst ((names.take (2 + r)).map V.str))) := (s1.trans s2).trans (.of t1)
    have sxB := sxA.trans s3
    have hdl0 : ∀ b o, b ≠ a → H b = some o → b ≠ dl := fun b o hb e z => by
      have := sxA _ _ hb e
      rw [z, ndl] at this
      cases this
    have hsp0 : ∀ b o, b ≠ a → H b = some o → b ≠ sp := fun b o hb e z => by
      have := sxB _ _ hb e
      rw [z, nsp] at this
      cases this
    have spa : sp ≠ a := fun z => hp4.some (z ▸ nsp)
    have dlsp : dl ≠ sp := ne_of_none ed nsp
    have w0 : HistI a dl sp wd H (N + 1400) pl mo 0 ds qs (names.drop (2 + r)) (upd H3 sp (.lst ((names.drop (2 + r)).map V.str))) :=
      ⟨sxB.trans (.of t3), hp5.mono (by omega), t3 _ _ ed, paired_mono (fun q d e => e.keep t3) dd, upd_same, hist, hwood, by rw [hcame, List.take_append_drop]; exact hnn, fun z hz => hnN z (List.mem_of_mem_drop hz), by omega, by rw [List.length_drop]; omega, by rw [List.length_drop]; omega⟩
    refine ⟨.ref a, rfl, a, 7, _, rfl, hp5, by omega, by decide, by decide, fun wy H5 wy0 wy1 s5 hp6 => ⟨_, _, _, rfl, ?_⟩⟩
    obtain ⟨wy, rfl⟩ : ∃ n : Nat, wy = (n : Int) := ⟨wy.toNat, by omega⟩
    have w5 := w0.step (M' := N + 1400) s5 (hp6.mono (by omega))
    clear hp6 hp5 hp4 hp3 hp2' hp1 w0 s5 s3 s2 s1 t1 t3 ed dd en en3 npn n1 sxA sxB hnt hwood hist hcame hliv hdl ndl nsp
    refine rs_set ?_
    refine ⟨.ref a, rfl, by show 3 ≤ sizeLine; decide, fun lq nlq => .inl ⟨a, lq, [.int 3, .int 6, .int 100], N + 1400, rfl, w5.pot.same (same_upd nlq), by omega, sql_of upd_same, fun e => w5.pot.some (e ▸ nlq), by decide, by decide, fun ix v H6 hv s6 hp6 => ?_⟩⟩
    obtain ⟨qt, rfl, hq1, hq2⟩ : ∃ m : Nat, v = .int m ∧ 0 < m ∧ m ≤ 100 := by
      have := List.mem_of_getElem? hv
      simp only [List.mem_cons, List.not_mem_nil, or_false] at this
      rcases this with rfl | rfl | rfl
      · exact ⟨3, rfl, by decide, by decide⟩
      · exact ⟨6, rfl, by decide, by decide⟩
      · exact ⟨100, rfl, by decide, by decide⟩
    have w6 := w5.step ((SameX.of (same_upd (o := .lst [.int 3, .int 6, .int 100]) nlq)).trans s6) hp6
    clear w5 nlq s6 hp6
    refine rs_rngE 0 (fun n H' => n ≤ mo ∧ HistI a dl sp wd H (N + 1402) pl mo 0 ds qs (names.drop (2 + r)) H') (fun n i σ' H' => n ≤ mo ∧ ∃ (wy : Nat) (o10 o11 : Option V) (ds : List Deed) (qs : List Addr) (ss : List Str), wy < 7 ∧ σ' = [some (.ref a), some (.int (pl : Nat)), some (.int (mo : Nat)), some (.bl wd), some (.int ((2 + r : Nat) : Int)), some (.ref nl), some (.ref dl), some (.ref sp), some (.int (wy : Nat)), some (.int (qt : Nat)), o10, o11] ∧ HistI a dl sp wd H (N + 1402 + 20 * i) pl mo i ds qs ss H')
      (fun R hR => ?_) (fun n H' ⟨h1, h2⟩ => ⟨h1, wy, _, _, ds, qs, _, by omega, rfl, h2⟩) ?_ ?_
    · exact ⟨.ref a, rfl, _, rfl, _, _, rfl, rfl, a, _, _, rfl, w6.pot, by omega, by omega, by omega, fun n H7 n0 n1 s7 hp7 => ⟨_, rfl, by omega, by omega, hR _ H7 ⟨by omega, w6.step s7 hp7⟩⟩⟩
    · rintro n i σ' H' hi ⟨hn, wy, o10, o11, ds, qs, ss, hwy, rfl, w⟩
      have hdl : ds.length ≤ 60 := by have := w.len; omega
      have hll := w.hist.liv_len
      have lvL : (sortS (liv ds)).length = (liv ds).length := (sortS_perm _).length_eq
      have lvM : ∀ {z : Str}, z ∈ sortS (liv ds) ↔ z ∈ liv ds := (sortS_perm _).mem_iff
      have lvN : ∀ z ∈ sortS (liv ds), NmX z := fun z hz => w.hist.nm z (w.hist.liv_came z (lvM.mp hz))
      have hql : qs.length ≤ 60 := by rw [Paired.length w.dd]; exact hdl
      refine r_gname ?_
      refine rs_set ?_
      refine ⟨.ref dl, rfl, dl, ds, rfl, ⟨qs, w.ed, w.dd⟩, w.hist, by omega, fun lv H2 s2 nlv elv => ?_⟩
      have lsp : lv ≠ sp := fun z => by rw [z, w.es] at nlv; cases nlv
      have ldl : lv ≠ dl := fun z => by rw [z, w.ed] at nlv; cases nlv
      have w2 := w.step (.of s2) (w.pot.same s2)
      have nla := pot_ne_strs w2.pot elv
      refine if_two (fun H3 => SameX a H2 H3 ∧ Pot H3 a (N + 1402 + 20 * i + 1)) (fun H3 => SameX a H2 H3 ∧ Pot H3 a (N + 1402 + 20 * i + 1) ∧ 0 < (liv ds).length) (fun Q1 qt' qf => ?_) (fun H3 ⟨s3, hp3⟩ => ?_) (fun H3 ⟨s3, hp3, hpos⟩ => ?_)
      · refine ⟨.ref lv, rfl, Nat.zero_le _, fun l0 n0 => ⟨.list ((sortS (liv ds)).map PyData.str), .list [], .lst (sql_of ((same_upd n0) _ _ elv)) (strs_dp _), .lst (sql_of upd_same) .nil, strs_lay lvN (fun x hx => hx), by decide +kernel, _, rfl, ?_⟩⟩
        rw [eqv_strs_nil]
        have s0 := same_upd (o := .lst []) n0
        have hp0 := w2.pot.same s0
        refine ite2 (fun c0 => qt' _ ⟨.of s0, hp0.mono (by omega)⟩) (fun c0 => ?_)
        refine ⟨.ref a, rfl, _, rfl, a, qt, _, rfl, hp0, by omega, by omega, by omega, fun rr H4 r0 r1 s4 hp4 => ⟨rfl, _, rfl, ?_⟩⟩
        cases hb : decide (V.int rr = V.int 0) with
        | true => exact qt' _ ⟨(SameX.of s0).trans s4, hp4⟩
        | false => exact qf _ ⟨(SameX.of s0).trans s4, hp4, by rw [← lvL]; exact List.length_pos_iff.mpr (fun e => c0 (decide_eq_true e))⟩
      · have w3 := w2.step s3 hp3
        have elv3 := s3 _ _ (Ne.symm nla) elv
        have hfew := w3.few
        obtain ⟨ss', z, rfl⟩ : ∃ ss' z, ss = ss' ++ [z] := by
          rcases List.eq_nil_or_concat ss with e | ⟨l, x, e⟩
          · rw [e] at hfew
            exact absurd hfew (by show ¬ (mo ≤ 0 + i); omega)
          · exact ⟨l, x, by rw [e, List.concat_eq_append]⟩
        have hnod := w3.nod
        have hsl := w3.sl
        rw [List.length_append] at hfew hsl
        have h1' : ([z] : List Str).length = 1 := rfl
        rw [h1'] at hfew hsl
        have hzN : NmX z := w3.nm z (List.mem_append_right _ List.mem_cons_self)
        have hz1 : z ∉ cameD ds := fun m => (List.nodup_append.mp hnod).2.2 z m z (List.mem_append_right _ List.mem_cons_self) rfl
        have hz2 : z ∉ ss' := fun m => (List.nodup_append.mp (List.nodup_append.mp hnod).2.1).2.2 z m z List.mem_cons_self rfl
        have hnod2 : (cameD ds ++ ss').Nodup := by
          rw [← List.append_assoc] at hnod
          exact (List.nodup_append.mp hnod).1
        have epop : ((ss' ++ [z]).map V.str).dropLast = ss'.map V.str := by rw [List.map_append]; exact List.dropLast_concat
        refine ⟨.ref dl, rfl, .inl ⟨rfl, _, sql_of w3.ed⟩, .ref sp, rfl, .inl ⟨rfl, _, sql_of w3.es⟩, sp, (ss' ++ [z]).map V.str, .str z, rfl, rfl, w3.es, by simp, ?_⟩
        rw [epop]
        have k4 : ∀ b o, b ≠ dl → b ≠ sp → H3 b = some o → (upd H3 sp (.lst (ss'.map V.str))) b = some o := fun b o _ hb e => by rw [upd_ne hb]; exact e
        have w4 : HistI a dl sp wd H (N + 1402 + 20 * i + 1) pl mo (i + 1) ds qs ss' (upd H3 sp (.lst (ss'.map V.str))) := by
          refine ⟨fun b o hb e => by rw [upd_ne (hsp0 b o hb e)]; exact w3.sx b o hb e, ?_, by rw [upd_ne dlsp]; exact w3.ed, paired_mono (w3.kd k4) w3.dd, upd_same, w3.hist, w3.wood, hnod2, fun y hy => w3.nm y (List.mem_append_left _ hy), by have := w3.len; omega, by omega, by omega⟩
          obtain ⟨xx, yy, zz, e, hh⟩ := w3.pot.ex
          exact ⟨xx, yy, zz, by rw [upd_ne (Ne.symm spa)]; exact e, hh⟩
        have elv4 : (upd H3 sp (.lst (ss'.map V.str))) lv = some (.lst ((sortS (liv ds)).map V.str)) := by rw [upd_ne lsp]; exact elv3
        generalize (upd H3 sp (.lst (ss'.map V.str))) = H4 at w4 elv4 ⊢
        refine ⟨.ref a, rfl, .ref lv, rfl, .bl wd, rfl, a, lv, sortS (liv ds), wd, _, rfl, w4.pot, by omega, elv4, (sortS_perm _).nodup_iff.mpr w.hist.liv_nodup, lvN, by omega, fun tq ts H5 hts hta htw etq s5 hp5 => ⟨by show 3 ≤ sizeLine; decide, fun p np => ?_⟩⟩
        have s6 := same_upd (o := .tup [.str (Str.ofString "come"), .str z, .ref tq]) np
        have w6 := w4.step (s5.trans (.of s6)) (hp5.same s6)
        have etq6 := s6 _ _ etq
        have ep6 : (upd H5 p (.tup [.str (Str.ofString "come"), .str z, .ref tq])) p = some (.tup [.str sCome, .str z, .ref tq]) := upd_same
        generalize (upd H5 p (.tup [.str (Str.ofString "come"), .str z, .ref tq])) = H6 at w6 etq6 ep6 ⊢
        have k7 : ∀ b o, b ≠ dl → b ≠ sp → H6 b = some o → (upd H6 dl (.lst (qs.map V.ref ++ [.ref p]))) b = some o := fun b o hb _ e => by rw [upd_ne hb]; exact e
        refine ⟨dl, _, _, rfl, rfl, w6.ed, smallM (by rw [List.length_map]; omega), hn, wy, _, _, ds ++ [.come z ts], qs ++ [p], ss', hwy, rfl, ?_⟩
        refine ⟨fun b o hb e => by rw [upd_ne (hdl0 b o hb e)]; exact w6.sx b o hb e, ?_, by rw [upd_same, List.map_append]; rfl, paired_snoc (w6.kd k7 p (.come z ts) ⟨tq, ep6, etq6⟩) (paired_mono (w6.kd k7) w6.dd), by rw [upd_ne (Ne.symm dlsp)]; exact w6.es, .come w6.hist hzN hz1 hta (fun t ht => lvM.mp (hts t ht)), ?_, ?_, w6.nm, by rw [List.length_append]; have := w.len; show ds.length + 1 ≤ _; omega, w6.few, w6.sl⟩
        · obtain ⟨xx, yy, zz, e, hh⟩ := w6.pot.ex
          exact ⟨xx, yy, zz, by rw [upd_ne (Ne.symm dla)]; exact e, by omega⟩
        · intro hw d hd
          rcases List.mem_append.mp hd with hd | hd
          · exact w6.wood hw d hd
          · rw [List.mem_singleton.mp hd]; exact htw hw
        · rw [came_snoc]
          show ((cameD ds ++ [z]) ++ ss').Nodup
          rw [List.append_assoc, List.nodup_append]
          refine ⟨(List.nodup_append.mp hnod2).1, List.nodup_cons.mpr ⟨hz2, (List.nodup_append.mp hnod2).2.1⟩, fun x hx y hy e => ?_⟩
          rcases List.mem_cons.mp hy with hy | hy
          · exact hz1 (by rw [← hy, ← e]; exact hx)
          · exact (List.nodup_append.mp hnod2).2.2 x hx y hy e
      · have w3 := w2.step s3 hp3
        have elv3 := s3 _ _ (Ne.symm nla) elv
        refine rs_setP (fun v H4 => ∃ wy' : Nat, v = .int (wy' : Nat) ∧ wy' < 7 ∧ SameX a H3 H4 ∧ Pot H4 a (N + 1402 + 20 * i + 3)) (fun Q1 q1 => ?_) (fun v H4 ⟨wy', ev, hwy', s4, hp4⟩ => ?_)
        · refine ⟨.ref a, rfl, a, 10, _, rfl, w3.pot, by omega, by decide, by decide, fun rr H4 r0 r1 s4 hp4 => ⟨rfl, _, rfl, ite2 (fun c => ?_) (fun c => ?_)⟩⟩
          · refine ⟨.ref a, rfl, a, 7, _, rfl, hp4, by omega, by decide, by decide, fun wy2 H5 y0 y1 s5 hp5 => q1 _ _ ⟨wy2.toNat, congrArg V.int (by omega), by omega, s4.trans s5, hp5⟩⟩
          · exact ⟨_, rfl, q1 _ _ ⟨wy, rfl, hwy, s4, hp4.mono (by omega)⟩⟩
        subst ev
        have w4 := w3.step s4 hp4
        have elv4 := s4 _ _ (Ne.symm nla) elv3
        refine ⟨.ref dl, rfl, .inl ⟨rfl, _, sql_of w4.ed⟩, .ref a, rfl, .ref dl, rfl, .ref lv, rfl, _, rfl, a, dl, lv, ds, wy', _, rfl, w4.pot, by omega, ⟨qs, w4.ed, w4.dd⟩, w4.hist, by omega, elv4, hpos, hwy', fun z H5 hz s5 hp5 => ⟨by show 2 ≤ sizeLine; decide, fun p np => ?_⟩⟩
        have s6 := same_upd (o := .tup [.str (Str.ofString "die"), .str z]) np
        have w6 := w4.step (s5.trans (.of s6)) (hp5.same s6)
        have ep6 : (upd H5 p (.tup [.str (Str.ofString "die"), .str z])) p = some (.tup [.str sDie, .str z]) := upd_same
        generalize (upd H5 p (.tup [.str (Str.ofString "die"), .str z])) = H6 at w6 ep6 ⊢
        have k7 : ∀ b o, b ≠ dl → b ≠ sp → H6 b = some o → (upd H6 dl (.lst (qs.map V.ref ++ [.ref p]))) b = some o := fun b o hb _ e => by rw [upd_ne hb]; exact e
        refine ⟨dl, _, _, rfl, rfl, w6.ed, smallM (by rw [List.length_map]; omega), hn, wy', _, _, ds ++ [.die z], qs ++ [p], ss, hwy', rfl, ?_⟩
        refine ⟨fun b o hb e => by rw [upd_ne (hdl0 b o hb e)]; exact w6.sx b o hb e, ?_, by rw [upd_same, List.map_append]; rfl, paired_snoc (w6.kd k7 p (.die z) ep6) (paired_mono (w6.kd k7) w6.dd), by rw [upd_ne (Ne.symm dlsp)]; exact w6.es, .die w6.hist hz, ?_, ?_, w6.nm, by rw [List.length_append]; have := w.len; show ds.length + 1 ≤ _; omega, Nat.le_trans w6.few (by omega), w6.sl⟩
        · obtain ⟨xx, yy, zz, e, hh⟩ := w6.pot.ex
          exact ⟨xx, yy, zz, by rw [upd_ne (Ne.symm dla)]; exact e, by omega⟩
        · intro hw d hd
          rcases List.mem_append.mp hd with hd | hd
          · exact w6.wood hw d hd
          · rw [List.mem_singleton.mp hd]; exact Nat.zero_le _
        · rw [came_snoc]
          show ((cameD ds ++ []) ++ ss).Nodup
          rw [List.append_nil]
          exact w6.nod
    · rintro n σ' H' ⟨hn, wy, o10, o11, ds, qs, ss, hwy, rfl, w⟩
      exact ⟨.ref dl, rfl, q dl ds H' w.hist (Nat.le_trans w.len (by omega)) w.wood ⟨qs, w.ed, w.dd⟩ w.sx (w.pot.mono (by omega))⟩
end
end Hw

set_option Elab.async false
set_option linter.all false
set_option maxRecDepth 100000
set_option maxHeartbeats 4000000
namespace Hw
open PySem L2 PyProof.Rows
abbrev sIsName : Stmt := topS 3
theorem low_alpha : ∀ c, 97 ≤ c → c ≤ 122 → Unicode.isAlpha c = true ∧ Unicode.isLower c = true ∧ Unicode.isUpper c = false ∧ Unicode.isTitle c = false ∧ c < 128 := by
  have h : ((List.range 26).all fun i => Unicode.isAlpha (97 + i) && Unicode.isLower (97 + i) && !Unicode.isUpper (97 + i) && !Unicode.isTitle (97 + i)) = true := by decide +kernel
  intro c h1 h2
  have := List.all_eq_true.mp h (c - 97) (List.mem_range.mpr (by omega))
  rw [show 97 + (c - 97) = c by omega] at this
  simp only [Bool.and_eq_true, Bool.not_eq_true'] at this
  obtain ⟨⟨⟨a, b⟩, d⟩, e⟩ := this
  exact ⟨a, b, d, e, by omega⟩
theorem nm_ascii {z : Str} (h : NmX z) : Txt.isascii z = true := by
  unfold Txt.isascii
  refine Array.all_eq_true_iff_forall_mem.mpr fun c hc => ?_
  have := h.2.2 c (cps_mem hc)
  exact decide_eq_true (by omega)
theorem nm_ne {z : Str} (h : NmX z) : ∃ c, c ∈ z.cps := by
  have h1 := h.1.1
  exact ⟨z.cps[0], Array.getElem_mem _⟩
theorem nm_alpha {z : Str} (h : NmX z) : Txt.isalpha z = true := by
  unfold Txt.isalpha
  rw [Bool.and_eq_true]
  refine ⟨?_, Array.all_eq_true_iff_forall_mem.mpr fun c hc => (low_alpha c (h.2.2 c (cps_mem hc)).1 (h.2.2 c (cps_mem hc)).2).1⟩
  have h1 := h.1.1
  exact decide_eq_true (by omega)
theorem nm_lower {z : Str} (h : NmX z) : Txt.islower z = true := by
  unfold Txt.islower
  obtain ⟨c, hc⟩ := nm_ne h
  have l := fun c (hc : c ∈ z.cps) => low_alpha c (h.2.2 c (cps_mem hc)).1 (h.2.2 c (cps_mem hc)).2
  rw [Bool.and_eq_true]
  refine ⟨Array.any_eq_true.mpr ?_, ?_⟩
  · obtain ⟨i, hi, rfl⟩ := Array.mem_iff_getElem.mp hc
    exact ⟨i, hi, (l _ hc).2.1⟩
  · rw [Bool.not_eq_true', Array.any_eq_false]
    intro i hi
    obtain ⟨_, _, a, b, _⟩ := l _ (Array.getElem_mem hi)
    rw [a, b]; decide
def spIsName : Sp := fun vs H Q _ => ∃ z, vs = [.str z] ∧ NmX z ∧ Q (.bl true) H
structure Blt3 (mg : Str → Option Value) : Prop where
  isi : mg "isinstance" = none
  str : mg "str" = none
  tuple : mg "tuple" = none
  all : mg "all" = none
  zip : mg "zip" = none
  enum : mg "enumerate" = none
  dict : mg "dict" = none
  sorted : mg "sorted" = none
  lnm : ∃ t, mg "LONGEST_NAME" = some (.int 8 t)
  mst : ∃ t, mg "MOST_PLACES" = some (.int 200 t)
abbrev sAsc : Stmt := topS 4
def spAsc (K : PySem.W.Frag) : Sp := fun vs H Q _ => ∃ (p : Addr) (zs : List Str), vs = [.ref p] ∧ SqT K H p (zs.map V.str) ∧ Asc zs ∧ zs.length ≤ 1000 ∧ ∀ H', Same H H' → Q (.bl true) H'
theorem cut1 {xs : List V} : cutV xs (some 1) none = xs.drop 1 := by
  unfold cutV
  rw [show HT.sIx xs.length 0 (some 1) = min 1 xs.length from HT.sIx_nat _ 0 1, HT.sIx_none]
  have e : xs.drop (min 1 xs.length) = xs.drop 1 := by
    by_cases h : 1 ≤ xs.length
    · rw [Nat.min_eq_left h]
    · rw [Nat.min_eq_right (by omega), List.drop_of_length_le (Nat.le_refl _), List.drop_of_length_le (by omega)]
  rw [e]
  refine List.take_of_length_le ?_
  rw [List.length_drop]; omega
theorem sqT_same {K : PySem.W.Frag} {H H' : Hp} {p : Addr} {xs : List V} (h : SqT K H p xs) (s : Same H H') : SqT K H' p xs := by
  rcases h with (h | ⟨o, h⟩) | h
  · exact .inl (.inl (s _ _ h))
  · exact .inl (.inr ⟨o, s _ _ h⟩)
  · exact .inr h
theorem sqL_same {K : PySem.W.Frag} {H H' : Hp} {p : Addr} {xs : List V} (h : SqL K H p xs) (s : Same H H') : SqL K H' p xs := by
  rcases h with (h | ⟨o, h⟩) | h
  · exact .inl (.inl (s _ _ h))
  · exact .inl (.inr ⟨o, s _ _ h⟩)
  · exact .inr h
theorem asc_at {zs : List Str} (ha : Asc zs) {i : Nat} {x y : Str} (h1 : zs[i]? = some x) (h2 : zs[i + 1]? = some y) : x.cps.toList < y.cps.toList := by
  obtain ⟨p1, rfl⟩ := List.getElem?_eq_some_iff.mp h1
  obtain ⟨p2, rfl⟩ := List.getElem?_eq_some_iff.mp h2
  exact of_decide_eq_true (List.pairwise_iff_getElem.mp ha i (i + 1) p1 p2 (by omega))
theorem all_rep (n : Nat) : (List.replicate n true).all id = true := by
  rw [List.all_eq_true]
  intro x hx
  rw [(List.mem_replicate.mp hx).2]; rfl
theorem nm_no {z : Str} (h : NmX z) {c : Nat} (hc : c < 97) : c ∉ z.cps.toList := fun hm => by have := (h.2.2 c hm).1; omega
theorem split_bl {ps : List Str} (hne : ps ≠ []) (h : ∀ p ∈ ps, 32 ∉ p.cps.toList) : Txt.split (Txt.join sBl ps) sBl = ps := TL.split_join (s := 32) (S := []) rfl (by decide +kernel) hne h
theorem split_nl {ps : List Str} (hne : ps ≠ []) (h : ∀ p ∈ ps, 10 ∉ p.cps.toList) : Txt.split (Txt.join sNl ps) sNl = ps := TL.split_join (s := 10) (S := []) rfl (by decide +kernel) hne h
theorem nil_or_snoc {α : Type} (l : List α) : l = [] ∨ ∃ m x, l = m ++ [x] := by
  rcases List.eq_nil_or_concat l with h | ⟨m, x, h⟩
  · exact .inl h
  · exact .inr ⟨m, x, by rw [h, List.concat_eq_append]⟩
theorem rs_enumK {K : PySem.W.Frag} {wi : TI} {g : TG} {tb u : TS} {D : Ends} {σ : L2.St} {H : Hp} (k : Int) (xs : List V) (P0 : Addr → Hp → Prop) (Pv : Addr → Nat → L2.St → Hp → Prop) (hw : ∀ R : It → Hp → Prop, (∀ a H1, P0 a H1 → R (IteK K a k) H1) → wi σ H R) (h0 : ∀ a H1, P0 a H1 → Pv a 0 σ H1)
    (hG : ∀ a j σ H, j ≤ xs.length → Pv a j σ H → SqL K H a xs) (turn : ∀ a j x σ H T, j < xs.length → Pv a j σ H → H T = none → xs[j]? = some x → g (.ref T) σ (upd H T (.tup [.int (k + (j : Nat)), x])) fun σ2 H2 => tb { D with nx := Pv a (j + 1), ct := Pv a (j + 1), bk := u D } σ2 H2)
    (done : ∀ a σ H, Pv a xs.length σ H → u D σ H) : tSeq (tFor wi g tb) u D σ H :=
  hw _ fun a H1 p => for_it (D := { D with nx := u D }) walk_enumK (Pv a) (h0 a H1 p) (hG a) (fun j x σ H H' hj hp ⟨T, xa, ya, ex, nT, eH, e1, e2⟩ => by
    subst ex eH
    obtain rfl : V.int (k + (j : Nat)) = xa := Option.some.inj e1
    exact turn a j ya σ H T hj hp nT e2) (done a)
section
variable {P : Program} {w : World} {K : PySem.W.Frag} {mg : Str → Option Value} {base : Heap}
theorem scIsName : FnScope ["value"] ["value"] (defScope sIsName) := ⟨rfl, rfl, rfl, by decide +kernel, rfl, by decide +kernel, by decide +kernel⟩
theorem ok_isname {f : Addr} {fd : FuncData} {k : Nat} (F : Fun K "is_name" "is_name" sIsName f fd) (B : Blt mg) (B3 : Blt3 mg) : FnOk P w K mg base CX0 (k + 1) f fd ["value"] spIsName := by
  refine F.ok scIsName (fun vs H Q E h => ?_) (fun cdv A outer s H vs Q E hr h => ?_)
  · obtain ⟨z, rfl, _⟩ := h
    rfl
  · obtain ⟨z, rfl, hz, q⟩ := h
    obtain ⟨t, gL⟩ := B3.lnm
    refine ⟨_, pss_one (ps_ret (pe_and (pe_callB call_isi (by rfl) B3.isi PyProof.Rows.boot_isinstance (pa_cons (pv 0) (pa_cons (pe_bltn (v := .ty "str") (by rfl) B3.str (by decide +kernel) rfl) pa_nil)))
      (pe_and (pe_cmpR op_le (pe_callB call_len_str (by rfl) B.len PySem.boot_len (pa_cons (pv 0) pa_nil)) (pe_glob (v := .int 8) (by rfl) gL ⟨_, rfl⟩) (nomark _))
      (pe_and (pe_m0 PySem.F.slot_str_isascii PySem.F.type_str_isascii mt_isascii (pv 0)) (pe_and (pe_m0 PySem.F.slot_str_isalpha PySem.F.type_str_isalpha mt_isalpha (pv 0)) (pe_one (pe_m0 PySem.F.slot_str_islower PySem.F.type_str_islower mt_islower (pv 0)))))))), ?_⟩
    refine ⟨.str z, rfl, .str z, .ty "str", .type "str", .type "str", true, rfl, .ty _, .base (.str z), kit_ty (by decide +kernel), true, rfl, ?_⟩
    refine ⟨.str z, rfl, z, rfl, Nat.le_of_lt (small1000 (by have := hz.2.1; omega)), _, _, rfl, rfl, true, congrArg V.bl (decide_eq_true (by have := hz.2.1; omega)), ?_⟩
    refine ⟨.str z, rfl, ⟨_, rfl⟩, z, rfl, rfl, trivial, true, congrArg V.bl (nm_ascii hz), ?_⟩
    refine ⟨.str z, rfl, ⟨_, rfl⟩, z, rfl, rfl, trivial, true, congrArg V.bl (nm_alpha hz), ?_⟩
    refine ⟨.str z, rfl, ⟨_, rfl⟩, z, rfl, rfl, trivial, ?_⟩
    rw [nm_lower hz]
    exact q
theorem scAsc : FnScope ["values", "one", "other"] ["values"] (defScope sAsc) := ⟨rfl, rfl, rfl, by decide +kernel, rfl, by decide +kernel, by decide +kernel⟩
theorem ok_asc {f : Addr} {fd : FuncData} {k : Nat} (F : Fun K "ascends" "ascends" sAsc f fd) (B3 : Blt3 mg) : FnOk P w K mg base CX0 (k + 1) f fd ["values"] (spAsc K) := by
  refine F.ok scAsc (fun vs H Q E h => ?_) (fun cdv A outer s H vs Q E hr h => ?_)
  · obtain ⟨p, zs, rfl, _⟩ := h
    rfl
  · obtain ⟨p, zs, rfl, hp, ha, hl, q⟩ := h
    refine ⟨_, pss_one (ps_ret (pe_callB (cr_all rfl) (by rfl) B3.all PyProof.Rows.boot_all (pa_cons (pe_lc (own := [("one", 1), ("other", 2)]) (g := gTup _ 2 (gCons (gName 1) (gCons (gName 2) gNil))) (tt := tYes) rfl scAsc.nd
        (RZ.pi_zipA (by rfl) B3.zip (pa_cons (pv 0) (pa_cons (pe_slice sl_tupA (pv 0) (po_some pe_int) po_none) pa_nil))) (blkOk_by (N := ["values", "one", "other"]) (sc := defScope sAsc) (by decide +kernel))
        (fun _ _ _ _ _ => pg_tup rfl (pgs_cons (pg_name (i := 1) scAsc.nd rfl (Or.inl rfl)) (pgs_cons (pg_name (i := 2) scAsc.nd rfl (Or.inl rfl)) pgs_nil))) (fun _ _ _ _ _ => pts_nil) (fun _ _ _ _ _ => pe_cmpR op_lt_str (pv 1) (pv 2) (nomark _))) pa_nil))), ?_⟩
    refine ⟨.ref p, rfl, .ref p, rfl, 1, rfl, p, zs.map V.str, rfl, hp, fun hw => ?_, fun hw b nb => ?_⟩
    · obtain ⟨H1, eH1⟩ : ∃ H1, H1 = H := ⟨H, rfl⟩
      have s1 : Same H H1 := by rw [eH1]; exact Same.refl H
      have hb : SqT K H1 p ((zs.map V.str).drop 1) := by
        have e0 : (zs.map V.str).length = 0 := by
          have := hw.1
          rw [show HT.sIx (zs.map V.str).length 0 (some 1) = min 1 (zs.map V.str).length from HT.sIx_nat _ 0 1] at this
          omega
        rw [List.length_eq_zero_iff.mp e0] at hp ⊢
        rw [eH1]; exact hp
      rw [← eH1]
      refine ⟨p, _, zs.map V.str, (zs.map V.str).drop 1, rfl, .inr ⟨sqT_same hp s1, hb, fun D hD => lc_it (walk_zipT rfl) (fun i H' => Same H H' ∧ Same H1 H' ∧ H' D = some (.lst ((List.replicate i true).map V.bl))) ⟨s1.trans (same_upd hD), same_upd hD, upd_same⟩ (fun i H' _ h => ⟨sqT_same hp h.1, sqT_same hb h.2.1⟩) ?_ ?_⟩⟩
      · rintro i x H' H'' hi ⟨sx, sx1, eD⟩ ⟨T, x1, x2, rfl, nT, rfl, g1, g2⟩
        obtain ⟨z1, h1, rfl⟩ := map_get g1
        have g2 : ((zs.map V.str).drop 1)[i]? = some x2 := g2
        rw [List.getElem?_drop] at g2
        obtain ⟨z2, h2, rfl⟩ := map_get g2
        refine ⟨T, [.str z1, .str z2], rfl, sqt_of upd_same, rfl, _, [.str z2], rfl, _, [], rfl, rfl, rfl, r_yes ?_⟩
        have hlt : z1.cps.toList < z2.cps.toList := asc_at ha h1 (by rw [Nat.add_comm] at h2; exact h2)
        have hi1 := (List.getElem?_eq_some_iff.mp h1).1
        refine ⟨.str z1, rfl, .str z2, rfl, z1, z2, rfl, rfl, _, (same_upd nT) _ _ eD, small1000 (by rw [List.length_map, List.length_replicate]; omega), ?_, ?_, ?_⟩
        · intro b o e
          rw [upd_ne (ne_of_none (s1 _ _ e) hD)]
          exact (same_upd nT) _ _ (sx _ _ e)
        · intro b o e
          rw [upd_ne (ne_of_none e hD)]
          exact (same_upd nT) _ _ (sx1 _ _ e)
        · rw [upd_same, decide_eq_true hlt, List.replicate_succ', List.map_append]; rfl
      · rintro H' ⟨sx, sx1, eD⟩
        refine ⟨D, _, rfl, sql_of eD, ?_⟩
        rw [all_rep]
        exact q H' sx
    · have s1 : Same H (upd H b (.tup (cutV (zs.map V.str) (some 1) none))) := same_upd nb
      have hb : SqT K (upd H b (.tup (cutV (zs.map V.str) (some 1) none))) b ((zs.map V.str).drop 1) := by
        rw [cut1] 
        exact sqt_of upd_same
      generalize (upd H b (.tup (cutV (zs.map V.str) (some 1) none))) = H1 at s1 hb ⊢
      refine ⟨p, _, zs.map V.str, (zs.map V.str).drop 1, rfl, .inr ⟨sqT_same hp s1, hb, fun D hD => lc_it (walk_zipT rfl) (fun i H' => Same H H' ∧ Same H1 H' ∧ H' D = some (.lst ((List.replicate i true).map V.bl))) ⟨s1.trans (same_upd hD), same_upd hD, upd_same⟩ (fun i H' _ h => ⟨sqT_same hp h.1, sqT_same hb h.2.1⟩) ?_ ?_⟩⟩
      · rintro i x H' H'' hi ⟨sx, sx1, eD⟩ ⟨T, x1, x2, rfl, nT, rfl, g1, g2⟩
        obtain ⟨z1, h1, rfl⟩ := map_get g1
        have g2 : ((zs.map V.str).drop 1)[i]? = some x2 := g2
        rw [List.getElem?_drop] at g2
        obtain ⟨z2, h2, rfl⟩ := map_get g2
        refine ⟨T, [.str z1, .str z2], rfl, sqt_of upd_same, rfl, _, [.str z2], rfl, _, [], rfl, rfl, rfl, r_yes ?_⟩
        have hlt : z1.cps.toList < z2.cps.toList := asc_at ha h1 (by rw [Nat.add_comm] at h2; exact h2)
        have hi1 := (List.getElem?_eq_some_iff.mp h1).1
        refine ⟨.str z1, rfl, .str z2, rfl, z1, z2, rfl, rfl, _, (same_upd nT) _ _ eD, small1000 (by rw [List.length_map, List.length_replicate]; omega), ?_, ?_, ?_⟩
        · intro b o e
          rw [upd_ne (ne_of_none (s1 _ _ e) hD)]
          exact (same_upd nT) _ _ (sx _ _ e)
        · intro b o e
          rw [upd_ne (ne_of_none e hD)]
          exact (same_upd nT) _ _ (sx1 _ _ e)
        · rw [upd_same, decide_eq_true hlt, List.replicate_succ', List.map_append]; rfl
      · rintro H' ⟨sx, sx1, eD⟩
        refine ⟨D, _, rfl, sql_of eD, ?_⟩
        rw [all_rep]
        exact q H' sx
end
end Hw

set_option Elab.async false
set_option linter.all false
set_option maxRecDepth 100000
set_option maxHeartbeats 4000000
namespace Hw
open PySem L2 PyProof.Rows
abbrev sIsLiv : Stmt := topS 18
abbrev sAreLiv : Stmt := topS 17
abbrev sCanCome : Stmt := topS 16
abbrev sCanStand : Stmt := topS 15
/-- for each place that ever came whether it lives, as it lies -/
def LivesAt (H : Hp) (d : Addr) (ds : List Deed) : Prop := H d = some (.dK (encF' (cameD ds) fun z => V.bl (decide (z ∈ liv ds))))
theorem LivesAt.get {H : Hp} {d : Addr} {ds : List Deed} (h : LivesAt H d ds) (z : Str) : DGet H d (.str z) (if z ∈ cameD ds then some (V.bl (decide (z ∈ liv ds))) else none) := by
  have := DGet.k (k := Sum.inr z) h
  rw [encF_val] at this
  exact this
def spIsLiv : Sp := fun vs H Q _ => ∃ (z : Str) (d : Addr) (ds : List Deed), vs = [.str z, .ref d] ∧ LivesAt H d ds ∧ Hist ds ∧ Q (.bl (decide (z ∈ liv ds))) H
def spAreLiv : Sp := fun vs H Q _ => ∃ (p d : Addr) (ts : List Str) (ds : List Deed), vs = [.ref p, .ref d] ∧ H p = some (.tup (ts.map V.str)) ∧ LivesAt H d ds ∧ Hist ds ∧ (∀ t ∈ ts, t ∈ liv ds) ∧ Asc ts ∧ ts.length ≤ 1000 ∧ ∀ H', Same H H' → Q (.bl true) H'
section
variable {P : Program} {w : World} {K : PySem.W.Frag} {mg : Str → Option Value} {base : Heap}
theorem scIsLiv : FnScope ["value", "lives"] ["value", "lives"] (defScope sIsLiv) := ⟨rfl, rfl, rfl, by decide +kernel, rfl, by decide +kernel, by decide +kernel⟩
theorem ok_isliv {f : Addr} {fd : FuncData} {k : Nat} (F : Fun K "is_living" "is_living" sIsLiv f fd) (B3 : Blt3 mg) : FnOk P w K mg base CX0 (k + 1) f fd ["value", "lives"] spIsLiv := by
  refine F.ok scIsLiv (fun vs H Q E h => ?_) (fun cdv A outer s H vs Q E hr h => ?_)
  · obtain ⟨z, d, ds, rfl, _⟩ := h
    rfl
  · obtain ⟨z, d, ds, rfl, hd, hH, q⟩ := h
    have hu := hu_of hr
    refine ⟨_, pss_one (ps_ret (pe_and (pe_callB call_isi (by rfl) B3.isi PyProof.Rows.boot_isinstance (pa_cons (pv 0) (pa_cons (pe_bltn (v := .ty "str") (by rfl) B3.str (by decide +kernel) rfl) pa_nil)))
      (pe_one (pe_dget2 hu (pv 1) (pv 0) pe_bl ⟨rfl, by rfl, by rfl, by rfl⟩)))), ?_⟩
    refine ⟨.str z, rfl, .str z, .ty "str", .type "str", .type "str", true, rfl, .ty _, .base (.str z), kit_ty (by decide +kernel), true, rfl, ?_⟩
    refine ⟨.ref d, rfl, d, rfl, .inl ⟨_, .inl hd⟩, .str z, rfl, _, hd.get z, ?_⟩
    by_cases h : z ∈ cameD ds
    · rw [if_pos h]; exact q
    · rw [if_neg h]
      rw [decide_eq_false (fun m => h (hH.liv_came z m))] at q
      exact q
theorem scAreLiv : FnScope ["value", "lives", "name"] ["value", "lives"] (defScope sAreLiv) := ⟨rfl, rfl, rfl, by decide +kernel, rfl, by decide +kernel, by decide +kernel⟩
theorem ok_areliv {f fI fA : Addr} {fd fdI fdA : FuncData} {k : Nat} (F : Fun K "are_living" "are_living" sAreLiv f fd) (B3 : Blt3 mg)
    (GI : FnOk P w K mg base CX0 k fI fdI ["value", "lives"] spIsLiv) (gI : mg "is_living" = some (.ref fI)) (kI : PySem.W.keepIn K (.ref fI) = true) (bI : Binds K fdI ["value", "lives"] [])
    (GA : FnOk P w K mg base CX0 k fA fdA ["values"] (spAsc K)) (gA : mg "ascends" = some (.ref fA)) (kA : PySem.W.keepIn K (.ref fA) = true) (bA : Binds K fdA ["values"] []) :
    FnOk P w K mg base CX0 (k + 1) f fd ["value", "lives"] spAreLiv := by
  refine F.ok scAreLiv (fun vs H Q E h => ?_) (fun cdv A outer s H vs Q E hr h => ?_)
  · obtain ⟨p, d, ts, ds, rfl, _⟩ := h
    rfl
  · obtain ⟨p, d, ts, ds, rfl, ep, hd, hH, hts, hta, hl, q⟩ := h
    have hu := hu_of hr
    refine ⟨_, pss_one (ps_ret (pe_and (pe_callB call_isi (by rfl) B3.isi PyProof.Rows.boot_isinstance (pa_cons (pv 0) (pa_cons (pe_bltn (v := .ty "tuple") (by rfl) B3.tuple (by decide +kernel) rfl) pa_nil)))
      (pe_and (pe_callB (cr_all rfl) (by rfl) B3.all PyProof.Rows.boot_all (pa_cons (pe_lc (own := [("name", 2)]) (g := gName 2) (tt := tYes) (te := tCall spIsLiv [] E0 (tCons (tVar 2) (tCons (tVar 1) tNil))) rfl scAreLiv.nd (pi_tup (pv 0))
          (blkOk_by (N := ["value", "lives", "name"]) (sc := defScope sAreLiv) (by decide +kernel)) (fun _ _ _ _ _ => pg_name (i := 2) scAreLiv.nd rfl (Or.inl rfl)) (fun _ _ _ _ _ => pts_nil)
          (fun _ _ _ _ _ => pe_call GI hr (by rfl) gI kI bI .nil pass0 (pa_cons (pv 2) (pa_cons (pv 1) pa_nil)))) pa_nil))
      (pe_one (pe_call GA hr (by rfl) gA kA bA .nil pass0 (pa_cons (pv 0) pa_nil)))))), ?_⟩
    refine ⟨.ref p, rfl, .ref p, .ty "tuple", .type "tuple", .type "tuple", true, rfl, .ty _, .base (.tup ep), kit_ty (by decide +kernel), true, rfl, ?_⟩
    refine ⟨.ref p, rfl, p, rfl, ⟨_, sqt_of ep⟩, fun D nD => lc_tup (xs := ts.map V.str) (fun i H' => Same H H' ∧ H' D = some (.lst ((List.replicate i true).map V.bl))) ⟨same_upd nD, upd_same⟩ (fun i H' _ h => sqt_of (h.1 _ _ ep)) ?_ ?_⟩
    · rintro i x H' hx ⟨sx, eD⟩
      obtain ⟨z, hz, rfl⟩ := map_get hx
      have hi := (List.getElem?_eq_some_iff.mp hz).1
      refine ⟨rfl, r_yes ?_⟩
      refine ⟨.str z, rfl, .ref d, rfl, z, d, ds, rfl, sx _ _ hd, hH, ?_⟩
      rw [decide_eq_true (hts z (List.mem_of_getElem? hz))]
      refine ⟨_, eD, smallM (by rw [List.length_map, List.length_replicate]; omega), fun b o e => ?_, ?_⟩
      · rw [upd_ne (ne_of_none e nD)]; exact sx _ _ e
      · rw [upd_same, List.replicate_succ', List.map_append]; rfl
    · rintro H' ⟨sx, eD⟩
      refine ⟨D, _, rfl, sql_of eD, ?_⟩
      rw [all_rep]
      refine ⟨true, rfl, ?_⟩
      exact ⟨.ref p, rfl, p, ts, rfl, sqt_of (sx _ _ ep), hta, hl, fun H2 s2 => q H2 (sx.trans s2)⟩
end
end Hw

set_option Elab.async false
set_option linter.all false
set_option maxRecDepth 100000
set_option maxHeartbeats 4000000
namespace Hw
open PySem L2 PyProof.Rows
theorem snoc_get {α : Type} (l : List α) (x : α) : (l ++ [x])[l.length]? = some x := by simp
theorem take_len {α : Type} (l : List α) (x : α) : (l ++ [x]).take l.length = l := by simp
theorem Hist.last_come {ds : List Deed} {n : Str} {ts : List Str} (h : Hist (ds ++ [.come n ts])) : NmX n ∧ n ∉ cameD ds ∧ Asc ts ∧ ∀ t ∈ ts, t ∈ liv ds := by
  have := h.come_at (snoc_get ds (.come n ts))
  rw [take_len] at this
  exact this
theorem Hist.last_die {ds : List Deed} {n : Str} (h : Hist (ds ++ [.die n])) : n ∈ liv ds := by
  have := h.die_at (snoc_get ds (.die n))
  rw [take_len] at this
  exact this
def spCanCome : Sp := fun vs H Q _ => ∃ (n : Str) (tq d : Addr) (ts : List Str) (ds : List Deed), vs = [.str n, .ref tq, .ref d] ∧ H tq = some (.tup (ts.map V.str)) ∧ LivesAt H d ds ∧ Hist (ds ++ [.come n ts]) ∧ ds.length < 200 ∧ ∀ H', Same H H' → Q (.bl true) H'
def spCanStand : Sp := fun vs H Q _ => ∃ (q d : Addr) (e : Deed) (ds : List Deed) (m : Nat), vs = [.ref q, .ref d, .int m] ∧ DeedAt H q e ∧ LivesAt H d ds ∧ Hist (ds ++ [e]) ∧ ds.length < 200 ∧ m < 400 ∧ ∀ H', Same H H' → Q (.bl true) H'
section
variable {P : Program} {w : World} {K : PySem.W.Frag} {mg : Str → Option Value} {base : Heap}
theorem scCanCome : FnScope ["name", "ties", "lives"] ["name", "ties", "lives"] (defScope sCanCome) := ⟨rfl, rfl, rfl, by decide +kernel, rfl, by decide +kernel, by decide +kernel⟩
theorem ok_cancome {f fN fA : Addr} {fd fdN fdA : FuncData} {k : Nat} (F : Fun K "can_come" "can_come" sCanCome f fd) (B : Blt mg) (B3 : Blt3 mg)
    (GN : FnOk P w K mg base CX0 k fN fdN ["value"] spIsName) (gN : mg "is_name" = some (.ref fN)) (kN : PySem.W.keepIn K (.ref fN) = true) (bN : Binds K fdN ["value"] [])
    (GA : FnOk P w K mg base CX0 k fA fdA ["value", "lives"] spAreLiv) (gA : mg "are_living" = some (.ref fA)) (kA : PySem.W.keepIn K (.ref fA) = true) (bA : Binds K fdA ["value", "lives"] []) :
    FnOk P w K mg base CX0 (k + 1) f fd ["name", "ties", "lives"] spCanCome := by
  refine F.ok scCanCome (fun vs H Q E h => ?_) (fun cdv A outer s H vs Q E hr h => ?_)
  · obtain ⟨n, tq, d, ts, ds, rfl, _⟩ := h
    rfl
  · obtain ⟨n, tq, d, ts, ds, rfl, et, hd, hH, hl, q⟩ := h
    have hu := hu_of hr
    obtain ⟨t, gL⟩ := B3.mst
    refine ⟨_, pss_cons (ps_if (PW.pt (pw_or (pt_not (pt_val (pe_call GN hr (by rfl) gN kN bN .nil pass0 (pa_cons (pv 0) pa_nil)))) (pw_or (pt_cmp (pc_din hu (pv 0) (pv 2))) (pw_or1 (pt_cmpR op_ge (pe_callB call_lenD (by rfl) B.len PySem.boot_len (pa_cons (pv 2) pa_nil)) (pe_glob (v := .int 200) (by rfl) gL ⟨_, rfl⟩) (nomark _)))))) (pss_one (ps_ret pe_bl)) pss_nil)
      (pss_one (ps_ret (pe_call GA hr (by rfl) gA kA bA .nil pass0 (pa_cons (pv 1) (pa_cons (pv 2) pa_nil))))), ?_⟩
    obtain ⟨h1, h2, h3, h4⟩ := hH.last_come
    have h0 := hH.pre
    have hcl := came_len ds
    have hev := (hH.each _ (List.mem_append_right _ List.mem_cons_self)).2.1
    have htl : ts.length ≤ (ds ++ [Deed.come n ts]).length := hev
    rw [List.length_append] at htl
    have h1l : ([Deed.come n ts] : List Deed).length = 1 := rfl
    refine rs_no ?_
    refine ⟨.str n, rfl, n, rfl, h1, true, rfl, ?_⟩
    refine ⟨.str n, rfl, .ref d, rfl, d, _, rfl, hd.get n, false, ?_, ?_⟩
    · rw [if_neg h2]; rfl
    refine ⟨.ref d, rfl, d, _, rfl, hd, _, _, rfl, rfl, false, congrArg V.bl (decide_eq_false (by rw [encF_len]; omega)), ?_⟩
    exact ⟨.ref tq, rfl, .ref d, rfl, tq, d, ts, ds, rfl, et, hd, h0, h4, h3, by omega, q⟩
theorem scCanStand : FnScope ["value", "lives", "many"] ["value", "lives", "many"] (defScope sCanStand) := ⟨rfl, rfl, rfl, by decide +kernel, rfl, by decide +kernel, by decide +kernel⟩
theorem ok_canstand {f fC fI : Addr} {fd fdC fdI : FuncData} {k : Nat} (F : Fun K "can_stand" "can_stand" sCanStand f fd) (B : Blt mg) (B3 : Blt3 mg) (hM : ∃ t, mg "MOST_DEEDS" = some (.int 400 t))
    (GC : FnOk P w K mg base CX0 k fC fdC ["name", "ties", "lives"] spCanCome) (gC : mg "can_come" = some (.ref fC)) (kC : PySem.W.keepIn K (.ref fC) = true) (bC : Binds K fdC ["name", "ties", "lives"] [])
    (GI : FnOk P w K mg base CX0 k fI fdI ["value", "lives"] spIsLiv) (gI : mg "is_living" = some (.ref fI)) (kI : PySem.W.keepIn K (.ref fI) = true) (bI : Binds K fdI ["value", "lives"] []) :
    FnOk P w K mg base CX0 (k + 1) f fd ["value", "lives", "many"] spCanStand := by
  refine F.ok scCanStand (fun vs H Q E h => ?_) (fun cdv A outer s H vs Q E hr h => ?_)
  · obtain ⟨q, d, e, ds, m, rfl, _⟩ := h
    rfl
  · obtain ⟨qd, d, e, ds, m, rfl, ed, hd, hH, hl, hm, q⟩ := h
    have hu := hu_of hr
    obtain ⟨t, gL⟩ := hM
    refine ⟨_, pss_cons (ps_if (PW.pt (pw_or (pt_cmpR op_ge (pv 2) (pe_glob (v := .int 400) (by rfl) gL ⟨_, rfl⟩) (nomark _)) (pw_or1 (pt_not (pt_val (pe_callB call_isi (by rfl) B3.isi PyProof.Rows.boot_isinstance (pa_cons (pv 0) (pa_cons (pe_bltn (v := .ty "tuple") (by rfl) B3.tuple (by decide +kernel) rfl) pa_nil)))))))) (pss_one (ps_ret pe_bl)) pss_nil)
      (pss_cons (ps_if (PW.pt (pw_and (pt_cmpR op_eq (pe_callB call_len_seq (by rfl) B.len PySem.boot_len (pa_cons (pv 0) pa_nil)) pe_int (nomark _)) (pw_and1 (pt_cmpR op_eq (pe_ix ix_tup (pv 0) pe_int (fun _ _ => rfl)) pe_str (nomark _))))) (pss_one (ps_ret (pe_call GC hr (by rfl) gC kC bC .nil pass0 (pa_cons (pe_ix ix_tup (pv 0) pe_int (fun _ _ => rfl)) (pa_cons (pe_ix ix_tup (pv 0) pe_int (fun _ _ => rfl)) (pa_cons (pv 1) pa_nil)))))) pss_nil)
      (pss_cons (ps_if (PW.pt (pw_and (pt_cmpR op_eq (pe_callB call_len_seq (by rfl) B.len PySem.boot_len (pa_cons (pv 0) pa_nil)) pe_int (nomark _)) (pw_and1 (pt_cmpR op_eq (pe_ix ix_tup (pv 0) pe_int (fun _ _ => rfl)) pe_str (nomark _))))) (pss_one (ps_ret (pe_call GI hr (by rfl) gI kI bI .nil pass0 (pa_cons (pe_ix ix_tup (pv 0) pe_int (fun _ _ => rfl)) (pa_cons (pv 1) pa_nil))))) pss_nil)
      (pss_one (ps_ret pe_bl)))), ?_⟩
    have h0 := hH.pre
    cases e with
    | come n ts =>
      obtain ⟨tq, e1, e2⟩ := ed
      refine rs_no ?_
      refine ⟨_, rfl, _, _, rfl, rfl, false, congrArg V.bl (decide_eq_false (by omega)), ?_⟩
      refine ⟨.ref qd, rfl, .ref qd, .ty "tuple", .type "tuple", .type "tuple", true, rfl, .ty _, .base (.tup e1), kit_ty (by decide +kernel), true, rfl, ?_⟩
      refine rs_no ?_
      refine ⟨.ref qd, rfl, qd, _, rfl, .inr (sqt_of e1), rfl, true, congrArg V.bl (decide_eq_true rfl), ?_⟩
      refine ⟨.ref qd, rfl, qd, _, 0, _, rfl, rfl, sqt_of e1, rfl, rfl, true, congrArg V.bl (word_come (.come n ts)), ?_⟩
      exact ⟨.ref qd, rfl, qd, _, 1, _, rfl, rfl, sqt_of e1, rfl, .ref qd, rfl, qd, _, 2, _, rfl, rfl, sqt_of e1, rfl, .ref d, rfl, n, tq, d, ts, ds, rfl, e2, hd, hH, hl, q⟩
    | die n =>
      have e1 : H qd = some (.tup [.str sDie, .str n]) := ed
      refine rs_no ?_
      refine ⟨_, rfl, _, _, rfl, rfl, false, congrArg V.bl (decide_eq_false (by omega)), ?_⟩
      refine ⟨.ref qd, rfl, .ref qd, .ty "tuple", .type "tuple", .type "tuple", true, rfl, .ty _, .base (.tup e1), kit_ty (by decide +kernel), true, rfl, ?_⟩
      refine rs_no2 (fun _ => False) (fun H' => H' = H) (fun Q1 qt qf => ⟨.ref qd, rfl, qd, _, rfl, .inr (sqt_of e1), rfl, false, congrArg V.bl (decide_eq_false (fun z => absurd (show (2 : Int) = 3 by injection z) (by decide))), qf _ rfl⟩) (fun _ h => h.elim) (fun H' e => ?_)
      subst e
      refine rs_no ?_
      refine ⟨.ref qd, rfl, qd, _, rfl, .inr (sqt_of e1), rfl, true, congrArg V.bl (decide_eq_true rfl), ?_⟩
      refine ⟨.ref qd, rfl, qd, _, 0, _, rfl, rfl, sqt_of e1, rfl, rfl, true, congrArg V.bl (word_die (.die n)), ?_⟩
      refine ⟨.ref qd, rfl, qd, _, 1, _, rfl, rfl, sqt_of e1, rfl, .ref d, rfl, n, d, ds, rfl, hd, h0, ?_⟩
      rw [decide_eq_true hH.last_die]
      exact q _ (Same.refl _)
end
end Hw

set_option Elab.async false
set_option linter.all false
set_option maxRecDepth 100000
set_option maxHeartbeats 4000000
namespace Hw
open PySem L2 PyProof.Rows
abbrev sReadD1 : Stmt := topS 12
/-- what a line of a deed keeps -/
structure FineD (e : Deed) : Prop where
  nm : NmX e.name
  ts : ∀ t ∈ e.ties, NmX t
  few : e.ties.length ≤ 100
theorem FineD.of {ds : List Deed} (h : Hist ds) (hl : ds.length ≤ 100) {e : Deed} (he : e ∈ ds) : FineD e := by
  obtain ⟨a, b, c, _⟩ := h.each e he
  exact ⟨a, c, by omega⟩
theorem word_no (e : Deed) {c : Nat} (hc : c < 97) : c ∉ e.word.cps.toList := by
  have h : ∀ z : Str, (z.cps.toList.all fun x => decide (97 ≤ x)) = true → c ∉ z.cps.toList := fun z h m => by
    have := of_decide_eq_true (List.all_eq_true.mp h c m)
    omega
  cases e with
  | come n ts => exact h sCome (by decide +kernel)
  | die n => exact h sDie (by decide +kernel)
theorem FineD.no {e : Deed} (f : FineD e) {c : Nat} (hc : c < 97) : ∀ p ∈ e.word :: e.name :: e.ties, c ∉ p.cps.toList := fun p hp => by
  rcases List.mem_cons.mp hp with rfl | hp
  · exact word_no e hc
  · rcases List.mem_cons.mp hp with rfl | hp
    · exact nm_no f.nm hc
    · exact nm_no (f.ts p hp) hc
theorem FineD.split {e : Deed} (f : FineD e) : Txt.split (deedLine e) sBl = e.word :: e.name :: e.ties := split_bl (by simp) (f.no (by decide))
theorem FineD.len {e : Deed} (f : FineD e) : (deedLine e).length ≤ 1000 := by
  refine Nat.le_trans (join_len _ _) ?_
  have hw : e.word.length ≤ 8 := by
    cases e with
    | come n ts => exact show sCome.length ≤ 8 by decide +kernel
    | die n => exact show sDie.length ≤ 8 by decide +kernel
  have hs := sum_le (ps := e.word :: e.name :: e.ties) (b := 8) fun p hp => by
    rcases List.mem_cons.mp hp with rfl | hp
    · exact hw
    · rcases List.mem_cons.mp hp with rfl | hp
      · exact f.nm.2.1
      · exact (f.ts p hp).2.1
  have e1 : sBl.length = 1 := by decide +kernel
  have el : (e.word :: e.name :: e.ties).length = e.ties.length + 2 := rfl
  have := f.few
  rw [el] at hs ⊢
  rw [e1]
  omega
def spReadD1 : Sp := fun vs H Q _ => ∃ e : Deed, vs = [.str (deedLine e)] ∧ FineD e ∧ ∀ q H', Same H H' → H q = none → DeedAt H' q e → Q (.ref q) H'
section
variable {P : Program} {w : World} {K : PySem.W.Frag} {mg : Str → Option Value} {base : Heap}
theorem scReadD1 : FnScope ["line", "words"] ["line"] (defScope sReadD1) := ⟨rfl, rfl, rfl, by decide +kernel, rfl, by decide +kernel, by decide +kernel⟩
theorem ok_readd1 {f : Addr} {fd : FuncData} {k : Nat} (F : Fun K "read_deed" "read_deed" sReadD1 f fd) (B : Blt mg) (B3 : Blt3 mg) : FnOk P w K mg base CX0 (k + 1) f fd ["line"] spReadD1 := by
  refine F.ok scReadD1 (fun vs H Q E h => ?_) (fun cdv A outer s H vs Q E hr h => ?_)
  · obtain ⟨e, rfl, _⟩ := h
    rfl
  · obtain ⟨e, rfl, fe, q⟩ := h
    refine ⟨_, pss_cons (ps_set (i := 1) scReadD1.nd rfl (.inl rfl) (pe_split (pv 0) pe_str))
      (pss_cons (ps_if (PW.pt (pw_and (pt_cmpR op_eq (pe_ix ix_list (pv 1) pe_int (fun _ _ => rfl)) pe_str (nomark _)) (pw_and1 (pt_cmpR op_gt (pe_callB call_len_seq (by rfl) B.len PySem.boot_len (pa_cons (pv 1) pa_nil)) pe_int (nomark _)))))
        (pss_one (ps_ret (pe_tup (pa_cons pe_str (pa_cons (pe_ix ix_list (pv 1) pe_int (fun _ _ => rfl)) (pa_cons (pe_callTy call_tuple_of (by rfl) B3.tuple PyProof.Rows.boot_tuple (pa_cons (pe_slice sl_list (pv 1) (po_some pe_int) po_none) pa_nil)) pa_nil)))))) pss_nil)
      (pss_one (ps_ret (pe_callTy call_tuple_of (by rfl) B3.tuple PyProof.Rows.boot_tuple (pa_cons (pv 1) pa_nil))))), ?_⟩
    have hln := fe.len
    refine rs_set ?_
    refine ⟨.str (deedLine e), rfl, ⟨_, rfl⟩, deedLine e, sBl, rfl, rfl, by decide +kernel, Nat.le_of_lt (smallM (by omega)), fun wl nwl => ?_⟩
    rw [fe.split]
    have s1 := same_upd (o := .lst ((e.word :: e.name :: e.ties).map V.str)) nwl
    have ew : (upd H wl (.lst ((e.word :: e.name :: e.ties).map V.str))) wl = some (.lst (.str e.word :: .str e.name :: e.ties.map V.str)) := upd_same
    generalize (upd H wl (.lst ((e.word :: e.name :: e.ties).map V.str))) = H1 at s1 ew ⊢
    cases e with
    | come n ts =>
      have ew : H1 wl = some (.lst (.str sCome :: .str n :: ts.map V.str)) := ew
      refine rs_no ?_
      refine ⟨.ref wl, rfl, wl, _, 0, .str sCome, rfl, rfl, sql_of ew, atI_nat (j := 0) rfl, rfl, true, congrArg V.bl (word_come (.come n ts)), ?_⟩
      refine ⟨.ref wl, rfl, wl, _, rfl, .inl (sql_of ew), _, _, rfl, rfl, true, congrArg V.bl (decide_eq_true (by rw [List.length_cons, List.length_cons]; omega)), ?_⟩
      refine ⟨.ref wl, rfl, wl, _, 1, .str n, rfl, rfl, sql_of ew, atI_nat (j := 1) rfl, .ref wl, rfl, 2, rfl, wl, _, rfl, sql_of ew, fun c nc => ⟨c, _, rfl, .inl ⟨sql_of upd_same, fun tp ntp => ⟨by show 3 ≤ sizeLine; decide, fun p np => ?_⟩⟩⟩⟩
      rw [show cutV (V.str sCome :: V.str n :: ts.map V.str) (some 2) none = ts.map V.str from cut_from _ 2] at ntp np ⊢
      have s2 := ((same_upd (o := .lst (ts.map V.str)) nc).trans (same_upd (o := .tup (ts.map V.str)) ntp)).trans (same_upd (o := .tup [.str (Str.ofString "come"), .str n, .ref tp]) np)
      have hp0 : H p = none := ((s1.trans (same_upd (o := .lst (ts.map V.str)) nc)).trans (same_upd (o := .tup (ts.map V.str)) ntp)).free np
      exact q p _ (s1.trans s2) hp0 ⟨tp, upd_same, (same_upd np) _ _ upd_same⟩
    | die n =>
      have ew : H1 wl = some (.lst [.str sDie, .str n]) := ew
      refine rs_no2 (fun _ => False) (fun H' => H' = H1) (fun Q1 qt qf => ⟨.ref wl, rfl, wl, _, 0, .str sDie, rfl, rfl, sql_of ew, rfl, rfl, false, congrArg V.bl (word_come (.die n)), qf _ rfl⟩) (fun _ h => h.elim) (fun H' e => ?_)
      subst e
      refine r_ret ?_
      refine ⟨.ref wl, rfl, wl, _, rfl, .inl ⟨sql_of ew, fun p np => ?_⟩⟩
      exact q p _ (s1.trans (same_upd np)) (s1.free np) (show DeedAt _ p (.die n) from upd_same)
end
end Hw

set_option Elab.async false
set_option linter.all false
set_option maxRecDepth 100000
set_option maxHeartbeats 4000000
namespace Hw
open PySem L2 PyProof.Rows
abbrev sLivesB : Stmt := topS 13
abbrev sNamesT : Stmt := topS 14
/-! who ever came lives or is dead -/
theorem Hist.dead_came {ds : List Deed} (h : Hist ds) : ∀ z ∈ deadD ds, z ∈ cameD ds := by
  induction h with
  | nil => intro z hz; cases hz
  | come h nm new asc sub ih =>
    intro z hz
    rw [dead_snoc] at hz
    rw [came_snoc]
    rcases List.mem_append.mp hz with hz | hz
    · exact List.mem_append_left _ (ih z hz)
    · cases hz
  | die h lv ih =>
    intro z hz
    rw [dead_snoc] at hz
    rw [came_snoc]
    rcases List.mem_append.mp hz with hz | hz
    · exact List.mem_append_left _ (ih z hz)
    · rw [List.mem_singleton.mp (show z ∈ [_] from hz)]
      exact List.mem_append_left _ (h.liv_came _ lv)
theorem Hist.dead_no {ds : List Deed} (h : Hist ds) : ∀ z ∈ deadD ds, z ∉ liv ds := by
  induction h with
  | nil => intro z hz; cases hz
  | come h nm new asc sub ih =>
    intro z hz m
    rw [dead_snoc] at hz
    rw [liv_snoc] at m
    rcases List.mem_append.mp hz with hz | hz
    · rcases List.mem_append.mp m with m | m
      · exact ih z hz m
      · rw [List.mem_singleton.mp m] at hz
        exact new (h.dead_came _ hz)
    · cases hz
  | @die ds n h lv ih =>
    intro z hz m
    rw [dead_snoc] at hz
    rw [liv_snoc] at m
    obtain ⟨m1, m2⟩ := List.mem_filter.mp (show z ∈ (liv ds).filter fun y => decide (y ≠ n) from m)
    rcases List.mem_append.mp hz with hz | hz
    · exact ih z hz m1
    · exact of_decide_eq_true m2 (List.mem_singleton.mp (show z ∈ [n] from hz))
theorem Hist.came_or {ds : List Deed} (h : Hist ds) : ∀ z ∈ cameD ds, z ∈ liv ds ∨ z ∈ deadD ds := by
  induction h with
  | nil => intro z hz; cases hz
  | come h nm new asc sub ih =>
    intro z hz
    rw [came_snoc] at hz
    rw [liv_snoc, dead_snoc]
    rcases List.mem_append.mp hz with hz | hz
    · rcases ih z hz with m | m
      · exact .inl (List.mem_append_left _ m)
      · exact .inr (List.mem_append_left _ m)
    · exact .inl (List.mem_append_right _ hz)
  | @die ds n h lv ih =>
    intro z hz
    rw [came_snoc] at hz
    rw [liv_snoc, dead_snoc]
    rcases List.mem_append.mp hz with hz | hz
    · by_cases e : z = n
      · exact .inr (List.mem_append_right _ (by rw [e]; exact List.mem_cons_self))
      · rcases ih z hz with m | m
        · exact .inl (List.mem_filter.mpr ⟨m, decide_eq_true e⟩)
        · exact .inr (List.mem_append_left _ m)
    · cases hz
theorem Hist.dead_nodup {ds : List Deed} (h : Hist ds) : (deadD ds).Nodup := by
  induction h with
  | nil => exact List.nodup_nil
  | come h nm new asc sub ih =>
    rw [dead_snoc]
    show (_ ++ []).Nodup
    rw [List.append_nil]; exact ih
  | @die ds n h lv ih =>
    rw [dead_snoc]
    show (deadD ds ++ [n]).Nodup
    rw [List.nodup_append]
    exact ⟨ih, by simp, fun x hx y hy e => h.dead_no x hx (by rw [e, List.mem_singleton.mp hy]; exact lv)⟩
/-- those of all that ever came that live, or that do not -/
theorem Hist.sorted_part {ds : List Deed} (h : Hist ds) (b : Bool) : sortS ((cameD ds).filter fun z => decide (decide (z ∈ liv ds) = b)) = sortS (if b = true then liv ds else deadD ds) := by
  refine sortS_of_perm ((List.perm_ext_iff_of_nodup (h.came_nodup.filter _) ?_).mpr fun z => ?_)
  · cases b
    · exact h.dead_nodup
    · exact h.liv_nodup
  · rw [List.mem_filter, decide_eq_true_iff]
    cases b with
    | true =>
      rw [if_pos rfl, decide_eq_true_iff]
      exact ⟨fun m => m.2, fun m => ⟨h.liv_came z m, m⟩⟩
    | false =>
      rw [if_neg Bool.false_ne_true, decide_eq_false_iff_not]
      exact ⟨fun m => (h.came_or z m.1).resolve_left m.2, fun m => ⟨h.dead_came z m, h.dead_no z m⟩⟩
theorem lives_step {ds : List Deed} {e : Deed} (h : Hist (ds ++ [e])) : putK (encF' (cameD ds) fun z => V.bl (decide (z ∈ liv ds))) (Sum.inr e.name : Key) (.bl e.isCome) = encF' (cameD (ds ++ [e])) fun z => V.bl (decide (z ∈ liv (ds ++ [e]))) := by
  cases e with
  | come n ts =>
    obtain ⟨_, hn, _, _⟩ := h.last_come
    show putK _ (Sum.inr n : Key) (.bl true) = _
    rw [encF_new hn, came_snoc, liv_snoc]
    refine encF_congr fun y _ => ?_
    show (if y = n then V.bl true else V.bl (decide (y ∈ liv ds))) = V.bl (decide (y ∈ liv ds ++ [n]))
    by_cases e : y = n
    · subst e
      rw [if_pos rfl, decide_eq_true (List.mem_append_right _ List.mem_cons_self)]
    · rw [if_neg e]
      congr 1
      rw [decide_eq_decide, List.mem_append, List.mem_singleton]
      simp [e]
  | die n =>
    have hl := h.last_die
    show putK _ (Sum.inr n : Key) (.bl false) = _
    rw [encF_old (h.pre.liv_came n hl), came_snoc, liv_snoc]
    show encF' (cameD ds) _ = encF' (cameD ds ++ []) _
    rw [List.append_nil]
    refine encF_congr fun y _ => ?_
    show (if y = n then V.bl false else V.bl (decide (y ∈ liv ds))) = V.bl (decide (y ∈ (liv ds).filter fun z => decide (z ≠ n)))
    by_cases e : y = n
    · have hno : n ∉ (liv ds).filter fun z => decide (z ≠ n) := fun m => of_decide_eq_true (p := n ≠ n) (List.mem_filter.mp m).2 rfl
      rw [e, if_pos rfl, decide_eq_false hno]
    · rw [if_neg e]
      congr 1
      rw [decide_eq_decide, List.mem_filter, decide_eq_true_iff]
      exact ⟨fun m => ⟨m, e⟩, fun m => m.1⟩
/-- the tuple of deeds as it lies -/
def DeedsT (H : Hp) (p : Addr) (ds : List Deed) : Prop := ∃ qs : List Addr, H p = some (.tup (qs.map V.ref)) ∧ Paired (DeedAt H) qs ds
theorem DeedsT.keep {H H' : Hp} {p : Addr} {ds : List Deed} (h : DeedsT H p ds) (s : Same H H') : DeedsT H' p ds := by
  obtain ⟨qs, h1, h2⟩ := h
  exact ⟨qs, s _ _ h1, paired_mono (fun q d e => e.keep s) h2⟩
theorem LivesAt.keep {H H' : Hp} {d : Addr} {ds : List Deed} (h : LivesAt H d ds) (s : Same H H') : LivesAt H' d ds := s _ _ h
def spLivesB : Sp := fun vs H Q _ => ∃ (p : Addr) (ds : List Deed), vs = [.ref p] ∧ DeedsT H p ds ∧ Hist ds ∧ ds.length ≤ 1000 ∧ ∀ d H', Same H H' → H d = none → LivesAt H' d ds → Q (.ref d) H'
section
variable {P : Program} {w : World} {K : PySem.W.Frag} {mg : Str → Option Value} {base : Heap}
theorem scLivesB : FnScope ["deeds", "lives", "deed"] ["deeds"] (defScope sLivesB) := ⟨rfl, rfl, rfl, by decide +kernel, rfl, by decide +kernel, by decide +kernel⟩
theorem ok_livesb {f : Addr} {fd : FuncData} {k : Nat} (F : Fun K "lives_behind" "lives_behind" sLivesB f fd) : FnOk P w K mg base CX0 (k + 1) f fd ["deeds"] spLivesB := by
  refine F.ok scLivesB (fun vs H Q E h => ?_) (fun cdv A outer s H vs Q E hr h => ?_)
  · obtain ⟨p, ds, rfl, _⟩ := h
    rfl
  · obtain ⟨p, ds, rfl, ⟨qs, e1, e2⟩, hH, hl, q⟩ := h
    have hu := hu_of hr
    refine ⟨_, pss_cons (ps_set (i := 1) scLivesB.nd rfl (.inl rfl) pe_dnewK)
      (pss_cons (ps_for PassesOwn.never rfl (pi_tup (pv 0)) (pg_name (i := 2) scLivesB.nd rfl (.inl rfl))
        (pss_one (ps_dput hu (pv 1) (pe_ix ix_tup (pv 2) pe_int (fun _ _ => rfl)) (pe_cmpR op_eq (pe_ix ix_tup (pv 2) pe_int (fun _ _ => rfl)) pe_str (nomark _)) rfl)))
      (pss_one (ps_ret (pv 1)))), ?_⟩
    refine rs_set ?_
    intro d nd
    refine rs_tup p (qs.map V.ref) (fun Q1 q1 => ⟨_, rfl, q1⟩) (fun i σ' H' => ∃ o2, σ' = [some (.ref p), some (.ref d), o2] ∧ Same H H' ∧ LivesAt H' d (ds.take i)) ⟨_, rfl, same_upd nd, upd_same⟩ (fun i σ' H' _ ⟨_, _, sx, _⟩ => sqt_of (sx _ _ e1)) ?_ ?_
    · rintro i x σ' H' hx ⟨o2, rfl, sx, eD⟩
      obtain ⟨qd, hq, rfl⟩ := map_get hx
      obtain ⟨e, he, ed⟩ := paired_get e2 hq
      obtain ⟨more, em⟩ := (ed.keep sx).two (K := K)
      have hcl := hH.came_take i
      have et : ds.take (i + 1) = ds.take i ++ [e] := take_snoc he
      have hH1 : Hist (ds.take i ++ [e]) := by rw [← et]; exact hH.take (i + 1)
      refine r_gname ?_
      refine ⟨.ref qd, rfl, qd, _, 0, .str e.word, rfl, rfl, sqt_of em, atI_nat (j := 0) rfl, rfl, .ref d, rfl, .ref qd, rfl, qd, _, 1, .str e.name, rfl, rfl, sqt_of em, atI_nat (j := 1) rfl, d, _, rfl, DPut.k (k := Sum.inr e.name) eD (smallM (by rw [encF_len]; omega)), _, rfl, fun b o eb => ?_, ?_⟩
      · rw [upd_ne (ne_of_none eb nd)]; exact sx _ _ eb
      · show (upd _ d _) d = _
        rw [upd_same, et, word_come e, lives_step hH1]
    · rintro σ' H' ⟨o2, rfl, sx, eD⟩
      rw [List.length_map, Paired.length e2, List.take_length] at eD
      exact ⟨.ref d, rfl, q d H' sx nd eD⟩
end
end Hw

set_option Elab.async false
set_option linter.all false
set_option maxRecDepth 100000
set_option maxHeartbeats 4000000
namespace Hw
open PySem L2 PyProof.Rows
def spNamesT : Sp := fun vs H Q _ => ∃ (b : Bool) (d : Addr) (ds : List Deed), vs = [.bl b, .ref d] ∧ LivesAt H d ds ∧ Hist ds ∧ ds.length ≤ 1000 ∧ ∀ p H', Same H H' → H' p = some (.tup ((sortS (if b = true then liv ds else deadD ds)).map V.str)) → Q (.ref p) H'
section
variable {P : Program} {w : World} {K : PySem.W.Frag} {mg : Str → Option Value} {base : Heap}
theorem scNamesT : FnScope ["live", "lives", "name"] ["live", "lives"] (defScope sNamesT) := ⟨rfl, rfl, rfl, by decide +kernel, rfl, by decide +kernel, by decide +kernel⟩
theorem ok_namest {f : Addr} {fd : FuncData} {k : Nat} (F : Fun K "names_that" "names_that" sNamesT f fd) (bs : mg "sorted" = none) (bt : mg "tuple" = none) : FnOk P w K mg base CX0 (k + 1) f fd ["live", "lives"] spNamesT := by
  refine F.ok scNamesT (fun vs H Q E h => ?_) (fun cdv A outer s H vs Q E hr h => ?_)
  · obtain ⟨b, d, ds, rfl, _⟩ := h
    rfl
  · obtain ⟨b, d, ds, rfl, hd, hH, hl, q⟩ := h
    have hu := hu_of hr
    have hu64 := hr.units
    refine ⟨_, pss_one (ps_ret (pe_callTy call_tuple_of (by rfl) bt PyProof.Rows.boot_tuple (pa_cons (pe_callB (cr_sortT hu64) (by rfl) bs (by decide +kernel) (pa_cons (pe_lock (pe_lc (own := [("name", 2)]) (g := gName 2) (tt := tTest (tOp rEq (tDGet (tVar 1) (tVar 2)) (tVar 0))) rfl scNamesT.nd (pi_keys (pv 1))
        (blkOk_by (N := ["live", "lives", "name"]) (sc := defScope sNamesT) (by decide +kernel)) (fun _ _ _ _ _ => pg_name (i := 2) scNamesT.nd rfl (Or.inl rfl))
        (fun _ _ _ _ _ => pts_one (pt_cmpR op_eq (pe_dget hu (pv 1) (pv 2) (fun _ _ => rfl)) (pv 0) (nomark _))) (fun _ _ _ _ _ => pv 2))) pa_nil)) pa_nil))), ?_⟩
    have hcl := came_len ds
    have hne : ∀ b' o, H b' = some o → b' ≠ d → True := fun _ _ _ _ => trivial
    refine ⟨d, .dK (encF' (cameD ds) fun z => V.bl (decide (z ∈ liv ds))), hd, trivial, fun od => ?_⟩
    refine ⟨.ref d, rfl, d, od, rfl, .inl ⟨_, upd_same, fun D nD => ?_⟩⟩
    have hDd : D ≠ d := fun e => by rw [e, upd_same] at nD; cases nD
    have nD0 : H D = none := by rw [upd_ne hDd] at nD; exact nD
    refine lc_it walk_keys (fun i H' => (∀ b' o, b' ≠ d → H b' = some o → H' b' = some o) ∧ H' d = some (.frz od (.dK (encF' (cameD ds) fun z => V.bl (decide (z ∈ liv ds))))) ∧ H' D = some (.lst ((((cameD ds).take i).filter fun z => decide (decide (z ∈ liv ds) = b)).map V.str)))
      ⟨fun b' o hb e => by rw [upd_ne (ne_of_none e nD0), upd_ne hb]; exact e, by rw [upd_ne (Ne.symm hDd), upd_same], upd_same⟩ (fun i H' _ h => h.2.1) ?_ ?_
    · rintro i x H' H'' hi ⟨sx, ed, eD⟩ ⟨rfl, ky, v, hk, rfl⟩
      obtain ⟨z, hz, ez⟩ : ∃ z, (cameD ds)[i]? = some z ∧ (ky, v) = ((Sum.inr z : Key), V.bl (decide (z ∈ liv ds))) := by
        unfold encF' at hk
        rw [List.getElem?_map] at hk
        cases e : (cameD ds)[i]? with
        | none => rw [e] at hk; cases hk
        | some z => rw [e] at hk; exact ⟨z, rfl, (Option.some.inj hk).symm⟩
      cases ez
      have hi2 := (List.getElem?_eq_some_iff.mp hz).1
      have hzm := List.mem_of_getElem? hz
      have g0 : DGet H'' d (.str z) (some (V.bl (decide (z ∈ liv ds)))) := by
        have : DGet H'' d (.str z) (valV (encF' (cameD ds) fun z => V.bl (decide (z ∈ liv ds))) (Sum.inr z)) := .inl ⟨_, Sum.inr z, .inr ⟨_, ed⟩, rfl, rfl⟩
        rw [encF_val, if_pos hzm] at this
        exact this
      have hfl : (((cameD ds).take i).filter fun z => decide (decide (z ∈ liv ds) = b)).length ≤ 1000 := Nat.le_trans (List.length_filter_le _ _) (by rw [List.length_take]; omega)
      refine ⟨rfl, .ref d, rfl, .str z, rfl, d, _, rfl, g0, .bl b, rfl, rfl, _, rfl, ?_⟩
      have eb : decide (V.bl (decide (z ∈ liv ds)) = V.bl b) = decide (decide (z ∈ liv ds) = b) := by
        rw [decide_eq_decide]
        exact ⟨fun e => by injection e, fun e => by rw [e]⟩
      rw [eb]
      have ft : ((cameD ds).take (i + 1)).filter (fun z => decide (decide (z ∈ liv ds) = b)) = ((cameD ds).take i).filter (fun z => decide (decide (z ∈ liv ds) = b)) ++ if decide (decide (z ∈ liv ds) = b) = true then [z] else [] := filter_snoc hz
      by_cases hb : decide (z ∈ liv ds) = b
      · rw [decide_eq_true hb]
        show if true = true then _ else _
        rw [if_pos rfl]
        refine ⟨.str z, rfl, _, eD, smallM (by rw [List.length_map]; omega), fun b' o hb' e => ?_, ?_, ?_⟩
        · rw [upd_ne (ne_of_none e nD0)]; exact sx _ _ hb' e
        · rw [upd_ne (Ne.symm hDd)]; exact ed
        · rw [upd_same, ft, decide_eq_true hb, if_pos rfl, List.map_append]; rfl
      · rw [decide_eq_false hb]
        show if false = true then _ else _
        rw [if_neg Bool.false_ne_true]
        refine ⟨sx, ed, ?_⟩
        rw [eD, ft, decide_eq_false hb, if_neg Bool.false_ne_true, List.append_nil]
    · rintro H' ⟨sx, ed, eD⟩
      have en : (encF' (cameD ds) fun z => V.bl (decide (z ∈ liv ds))).length = (cameD ds).length := encF_len _ _
      rw [en, List.take_length] at eD
      have hfl : ((cameD ds).filter fun z => decide (decide (z ∈ liv ds) = b)).length ≤ 1000 := Nat.le_trans (List.length_filter_le _ _) (by omega)
      have s1 : Same H (upd H' d (.dK (encF' (cameD ds) fun z => V.bl (decide (z ∈ liv ds))))) := fun b' o e => by
        by_cases hb : b' = d
        · subst hb
          rw [hd] at e
          rw [upd_same]; exact e
        · rw [upd_ne hb]; exact sx _ _ hb e
      refine ⟨ed, D, (cameD ds).filter fun z => decide (decide (z ∈ liv ds) = b), rfl, sql_of (by rw [upd_ne hDd]; exact eD), Nat.le_of_lt (smallM (by omega)), fun p2 n2 => ⟨p2, _, rfl, .inl ⟨sql_of upd_same, fun p3 n3 => ?_⟩⟩⟩
      have s2 := (s1.trans (same_upd (o := .lst ((sortS ((cameD ds).filter fun z => decide (decide (z ∈ liv ds) = b))).map V.str)) n2)).trans (same_upd (o := .tup ((sortS ((cameD ds).filter fun z => decide (decide (z ∈ liv ds) = b))).map V.str)) n3)
      refine q p3 _ s2 ?_
      rw [upd_same, hH.sorted_part b]
end
end Hw

set_option Elab.async false
set_option linter.all false
set_option maxRecDepth 100000
set_option maxHeartbeats 4000000
namespace Hw
open PySem L2 PyProof.Rows
abbrev sReadDs : Stmt := topS 11
theorem join_mem {y : Str} {c : Nat} : ∀ {ps : List Str}, c ∈ (Txt.join y ps).cps.toList → c ∈ y.cps.toList ∨ ∃ p ∈ ps, c ∈ p.cps.toList
  | [], h => by rw [TL.join_eq] at h; cases h
  | [p], h => by
    rw [TL.join_eq] at h
    exact .inr ⟨p, List.mem_cons_self, h⟩
  | p :: q :: r, h => by
    rw [TL.join_eq] at h
    have e : Str.join y (p :: q :: r) = p ++ y ++ Str.join y (q :: r) := rfl
    rw [e, app_cps, app_cps] at h
    rcases List.mem_append.mp h with h | h
    · rcases List.mem_append.mp h with h | h
      · exact .inr ⟨p, List.mem_cons_self, h⟩
      · exact .inl h
    · rw [← TL.join_eq] at h
      rcases join_mem h with h | ⟨z, hz, h⟩
      · exact .inl h
      · exact .inr ⟨z, List.mem_cons_of_mem _ hz, h⟩
theorem FineD.nonl {e : Deed} (f : FineD e) : 10 ∉ (deedLine e).cps.toList := fun h => by
  rcases join_mem h with h | ⟨p, hp, h⟩
  · exact absurd h (by decide +kernel)
  · exact f.no (by decide) p hp h
theorem hist_split {ds : List Deed} (h : Hist ds) (hl : ds.length ≤ 100) (hne : ds ≠ []) : Txt.split (histText ds) sNl = ds.map deedLine := by
  refine split_nl (by simpa using hne) fun p hp => ?_
  obtain ⟨e, he, rfl⟩ := List.mem_map.mp hp
  exact (FineD.of h hl he).nonl
theorem hist_ne {ds : List Deed} (h : Hist ds) (hl : ds.length ≤ 100) (hne : ds ≠ []) : (histText ds).length ≠ 0 := by
  intro e0
  have e1 : histText ds = Str.ofString "" := by
    have : (histText ds).cps = #[] := Array.eq_empty_of_size_eq_zero e0
    generalize histText ds = z at this ⊢
    cases z with
    | mk c => cases this; rfl
  have hs := hist_split h hl hne
  rw [e1, show Txt.split (Str.ofString "") sNl = [Str.ofString ""] by decide +kernel] at hs
  cases ds with
  | nil => exact hne rfl
  | cons d ds' =>
    have e2 : deedLine d = Str.ofString "" := (List.cons.inj hs).1.symm
    have := (FineD.of h hl List.mem_cons_self).split
    rw [e2, show Txt.split (Str.ofString "") sBl = [Str.ofString ""] by decide +kernel] at this
    have := congrArg List.length this
    simp at this
def spReadDs : Sp := fun vs H Q _ => ∃ ds : List Deed, vs = [.str (histText ds)] ∧ Hist ds ∧ ds.length ≤ 100 ∧ ∀ p H', Same H H' → H p = none → DeedsT H' p ds → Q (.ref p) H'
section
variable {P : Program} {w : World} {K : PySem.W.Frag} {mg : Str → Option Value} {base : Heap}
theorem scReadDs : FnScope ["text", "lines", "deeds", "lives", "number", "line", "deed"] ["text"] (defScope sReadDs) := ⟨rfl, rfl, rfl, by decide +kernel, rfl, by decide +kernel, by decide +kernel⟩
theorem ok_readds {f fR fC : Addr} {fd fdR fdC : FuncData} {k : Nat} (F : Fun K "read_deeds" "read_deeds" sReadDs f fd) (B : Blt mg) (B3 : Blt3 mg)
    (GR : FnOk P w K mg base CX0 k fR fdR ["line"] spReadD1) (gR : mg "read_deed" = some (.ref fR)) (kR : PySem.W.keepIn K (.ref fR) = true) (bR : Binds K fdR ["line"] [])
    (GC : FnOk P w K mg base CX0 k fC fdC ["value", "lives", "many"] spCanStand) (gC : mg "can_stand" = some (.ref fC)) (kC : PySem.W.keepIn K (.ref fC) = true) (bC : Binds K fdC ["value", "lives", "many"] []) :
    FnOk P w K mg base CX0 (k + 1) f fd ["text"] spReadDs := by
  refine F.ok scReadDs (fun vs H Q E h => ?_) (fun cdv A outer s H vs Q E hr h => ?_)
  · obtain ⟨ds, rfl, _⟩ := h
    rfl
  · obtain ⟨ds, rfl, hH, hl, q⟩ := h
    have hu := hu_of hr
    refine ⟨_, pss_cons (ps_if (pt_not (pt_val (pe_callB call_isi (by rfl) B3.isi PyProof.Rows.boot_isinstance (pa_cons (pv 0) (pa_cons (pe_bltn (v := .ty "str") (by rfl) B3.str (by decide +kernel) rfl) pa_nil))))) (pss_one ps_never) pss_nil)
      (pss_cons (ps_set (i := 1) scReadDs.nd rfl (.inl rfl) (pe_ifExp (pt_truth (pv 0) (by intro _; rfl)) (pe_split (pv 0) pe_str) (pe_lst pa_nil)))
      (pss_cons (ps_set (i := 2) scReadDs.nd rfl (.inl rfl) (pe_lst pa_nil))
      (pss_cons (ps_set (i := 3) scReadDs.nd rfl (.inl rfl) pe_dnewK)
      (pss_cons (ps_for PassesOwn.never rfl (pi_enumK (by rfl) B3.enum (pa_cons (pv 1) pa_nil) (pk_cons pe_int pk_nil)) (pg_tup rfl (pgs_cons (pg_name (i := 4) scReadDs.nd rfl (Or.inl rfl)) (pgs_cons (pg_name (i := 5) scReadDs.nd rfl (Or.inl rfl)) pgs_nil)))
        (pss_cons (ps_set (i := 6) scReadDs.nd rfl (.inl rfl) (pe_call GR hr (by rfl) gR kR bR .nil pass0 (pa_cons (pv 5) pa_nil)))
        (pss_cons (ps_if (pt_not (pt_val (pe_call GC hr (by rfl) gC kC bC .nil pass0 (pa_cons (pv 6) (pa_cons (pv 3) (pa_cons (pe_callB call_len_seq (by rfl) B.len PySem.boot_len (pa_cons (pv 2) pa_nil)) pa_nil)))))) (pss_one ps_never) pss_nil)
        (pss_cons (ps_expr (pe_bm PySem.F.plainAttrs_list PySem.F.slot_list_append PySem.F.type_list_append mt_append (pv 2) (pa_cons (pv 6) pa_nil)))
        (pss_one (ps_dput hu (pv 3) (pe_ix ix_tup (pv 6) pe_int (fun _ _ => rfl)) (pe_cmpR op_eq (pe_ix ix_tup (pv 6) pe_int (fun _ _ => rfl)) pe_str (nomark _)) rfl))))))
      (pss_one (ps_ret (pe_callTy call_tuple_of (by rfl) B3.tuple PyProof.Rows.boot_tuple (pa_cons (pv 2) pa_nil)))))))), ?_⟩
    refine rs_no ?_
    refine ⟨.str (histText ds), rfl, .str (histText ds), .ty "str", .type "str", .type "str", true, rfl, .ty _, .base (.str _), kit_ty (by decide +kernel), true, rfl, ?_⟩
    have htl : (histText ds).length ≤ 200000 := Nat.le_trans (join_len _ _) (hist_sum hH hl)
    refine rs_setP (fun v H1 => ∃ ll : Addr, v = .ref ll ∧ Same H H1 ∧ H ll = none ∧ H1 ll = some (.lst ((ds.map deedLine).map V.str))) (fun Q1 q1 => ?_) (fun v H1 ⟨ll, ev, s1, nll, ell⟩ => ?_)
    · by_cases h0 : ds = []
      · subst h0
        refine ⟨.str (histText []), rfl, false, ⟨by rw [sizeLine_eq]; omega, by decide +kernel⟩, ?_⟩
        show if false = true then _ else _
        rw [if_neg Bool.false_ne_true]
        exact ⟨Nat.zero_le _, fun ll nll => q1 _ _ ⟨ll, rfl, same_upd nll, nll, upd_same⟩⟩
      · have hne := hist_ne hH hl h0
        refine ⟨.str (histText ds), rfl, true, ⟨by rw [sizeLine_eq]; omega, by
          symm
          rw [bne_iff_ne]
          omega⟩, ?_⟩
        show if true = true then _ else _
        rw [if_pos rfl]
        refine ⟨.str (histText ds), rfl, ⟨_, rfl⟩, histText ds, sNl, rfl, rfl, by decide +kernel, by rw [sizeLine_eq]; omega, fun ll nll => ?_⟩
        rw [hist_split hH hl h0]
        exact q1 _ _ ⟨ll, rfl, same_upd nll, nll, upd_same⟩
    subst ev
    refine rs_set ?_
    refine ⟨Nat.zero_le _, fun dl ndl => ?_⟩
    refine rs_set ?_
    intro d nd
    have s2 := (s1.trans (same_upd (o := .lst []) ndl)).trans (same_upd (o := .dK []) nd)
    have ndl0 : H dl = none := s1.free ndl
    have nd0 : H d = none := (s1.trans (same_upd (o := .lst []) ndl)).free nd
    have ell2 := (same_upd (o := .dK []) nd) _ _ ((same_upd (o := .lst []) ndl) _ _ ell)
    have edl2 : (upd (upd H1 dl (.lst [])) d (.dK [])) dl = some (.lst []) := (same_upd nd) _ _ upd_same
    have ed2 : LivesAt (upd (upd H1 dl (.lst [])) d (.dK [])) d [] := upd_same
    have dld : dl ≠ d := ne_of_none upd_same nd
    have lldl : ll ≠ dl := fun z => by rw [z, ndl] at ell; cases ell
    have lld : ll ≠ d := ne_of_none ((same_upd ndl) _ _ ell) nd
    generalize (upd (upd H1 dl (.lst [])) d (.dK [])) = H2 at s2 ell2 edl2 ed2 ⊢
    refine rs_enumK 1 ((ds.map deedLine).map V.str) (fun a H3 => a = ll ∧ H3 = H2)
      (fun a j σ' H' => ∃ (o4 o5 o6 : Option V) (qs : List Addr), σ' = [some (.str (histText ds)), some (.ref ll), some (.ref dl), some (.ref d), o4, o5, o6] ∧ Same H H' ∧ a = ll ∧ H' ll = some (.lst ((ds.map deedLine).map V.str)) ∧ H' dl = some (.lst (qs.map V.ref)) ∧ Paired (DeedAt H') qs (ds.take j) ∧ LivesAt H' d (ds.take j))
      (fun R hR => ⟨.ref ll, rfl, ll, (ds.map deedLine).map V.str, 1, rfl, rfl, by decide, by decide, sql_of ell2, hR ll _ ⟨rfl, rfl⟩⟩)
      (fun a H3 ⟨e, e3⟩ => by subst e e3; exact ⟨_, _, _, [], rfl, s2, rfl, ell2, edl2, .nil, ed2⟩)
      (fun a j σ' H' _ ⟨_, _, _, _, _, _, e, w, _⟩ => by rw [e]; exact sql_of w) ?_ ?_
    · rintro a j x σ' H' T hj ⟨o4, o5, o6, qs, rfl, sx, rfl, el', em, hp, ed⟩ nT hx
      obtain ⟨ln, hln, rfl⟩ := map_get hx
      rw [List.getElem?_map] at hln
      obtain ⟨e, he, rfl⟩ : ∃ e, ds[j]? = some e ∧ ln = deedLine e := by
        cases hh : ds[j]? with
        | none => rw [hh] at hln; cases hln
        | some t => rw [hh] at hln; exact ⟨t, rfl, (Option.some.inj hln).symm⟩
      have hjl := (List.getElem?_eq_some_iff.mp he).1
      have hql : qs.length ≤ 100 := by rw [Paired.length hp, List.length_take]; omega
      have et : ds.take (j + 1) = ds.take j ++ [e] := take_snoc he
      have hH1 : Hist (ds.take j ++ [e]) := by rw [← et]; exact hH.take (j + 1)
      have hcl := hH.came_take j
      refine ⟨T, [.int (1 + (j : Nat)), .str (deedLine e)], rfl, sqt_of upd_same, rfl, _, [.str (deedLine e)], rfl, _, [], rfl, rfl, ?_⟩
      have sT : Same H' (upd H' T (.tup [.int (1 + (j : Nat)), .str (deedLine e)])) := same_upd nT
      generalize (upd H' T (.tup [.int (1 + (j : Nat)), .str (deedLine e)])) = H3 at sT ⊢
      refine rs_set ?_
      refine ⟨.str (deedLine e), rfl, e, rfl, FineD.of hH hl (List.mem_of_getElem? he), fun qd H4 s4 nq edd => ?_⟩
      have s5 := sT.trans s4
      refine rs_no ?_
      refine ⟨.ref qd, rfl, .ref d, rfl, .ref dl, rfl, dl, _, rfl, .inl (sql_of (s5 _ _ em)), qd, d, e, ds.take j, (qs.map V.ref).length, rfl, edd, ed.keep s5, hH1, by rw [List.length_take]; omega, by rw [List.length_map]; omega, fun H5 s6 => ⟨true, rfl, ?_⟩⟩
      have s7 := s5.trans s6
      have em5 := s7 _ _ em
      have ed5 := ed.keep s7
      have edd5 := edd.keep s6
      obtain ⟨more, ew⟩ := edd5.two (K := K)
      refine rs_bm ?_
      refine ⟨.ref dl, rfl, .inl ⟨rfl, _, sql_of em5⟩, .ref qd, rfl, dl, _, _, rfl, rfl, em5, smallM (by rw [List.length_map]; omega), ?_⟩
      have kd : ∀ (q' : Addr) (e' : Deed), DeedAt H5 q' e' → ∀ (o : HO), DeedAt (upd (upd H5 dl (.lst (qs.map V.ref ++ [.ref qd]))) d o) q' e' := fun q' e' h o => by
        have kt : ∀ {b : Addr} {vs : List V}, H5 b = some (.tup vs) → (upd (upd H5 dl (.lst (qs.map V.ref ++ [.ref qd]))) d o) b = some (.tup vs) := fun {b vs} hb => by
          have ed5' : H5 d = some (.dK _) := ed5
          rw [upd_ne (fun y => by rw [y, ed5'] at hb; cases hb), upd_ne (fun y => by rw [y, em5] at hb; cases hb)]
          exact hb
        cases e' with
        | come n ts =>
          obtain ⟨tq, h1, h2⟩ := h
          exact ⟨tq, kt h1, kt h2⟩
        | die n => exact kt h
      have ew2 : (upd H5 dl (.lst (qs.map V.ref ++ [.ref qd]))) qd = some (.tup (.str e.word :: .str e.name :: more)) := by
        rw [upd_ne (fun y => by rw [y, em5] at ew; cases ew)]; exact ew
      have ed6 : LivesAt (upd H5 dl (.lst (qs.map V.ref ++ [.ref qd]))) d (ds.take j) := by
        show (upd _ dl _) d = _
        rw [upd_ne (Ne.symm dld)]; exact ed5
      refine ⟨.ref qd, rfl, qd, _, 0, .str e.word, rfl, rfl, sqt_of ew2, atI_nat (j := 0) rfl, rfl, .ref d, rfl, .ref qd, rfl, qd, _, 1, .str e.name, rfl, rfl, sqt_of ew2, atI_nat (j := 1) rfl, d, _, rfl, DPut.k (k := Sum.inr e.name) ed6 (smallM (by rw [encF_len]; omega)), _, _, _, qs ++ [qd], rfl, fun b o eb => ?_, rfl, ?_, ?_, ?_, ?_⟩
      · rw [upd_ne (ne_of_none eb nd0), upd_ne (ne_of_none eb ndl0)]; exact s7 _ _ (sx _ _ eb)
      · rw [upd_ne lld, upd_ne lldl]; exact s7 _ _ el'
      · rw [upd_ne dld, upd_same, List.map_append]; rfl
      · rw [et]
        exact paired_snoc (kd qd e edd5 _) (paired_mono (fun q' e' h => kd q' e' (h.keep s7) _) hp)
      · show (upd _ d _) d = _
        rw [upd_same, et, word_come e, lives_step hH1]
    · rintro a σ' H' ⟨o4, o5, o6, qs, rfl, sx, rfl, el', em, hp, ed⟩
      rw [List.length_map, List.length_map, List.take_length] at hp
      exact ⟨.ref dl, rfl, dl, _, rfl, .inl ⟨sql_of em, fun p np => q p _ (sx.trans (same_upd np)) (sx.free np) ⟨qs, upd_same, paired_mono (fun q' e' h => h.keep (same_upd np)) hp⟩⟩⟩
end
end Hw

set_option Elab.async false
set_option linter.all false
set_option maxRecDepth 100000
set_option maxHeartbeats 4000000
namespace Hw
open PySem L2 PyProof.Rows
abbrev sInitH : Stmt := inClass (topS 10) 0
abbrev sLenH : Stmt := inClass (topS 10) 1
theorem SameX.tup {H H' : Hp} {x b C dx : Addr} {fs : List (Str × V)} {vs : List V} (s : SameX x H H') (hx : H x = some (.ins C dx fs)) (e : H b = some (.tup vs)) : H' b = some (.tup vs) := s _ _ (fun z => by rw [z, hx] at e; cases e) e
theorem DeedAt.put {H H' : Hp} {x q C dx : Addr} {fs : List (Str × V)} (s : SameX x H H') (hx : H x = some (.ins C dx fs)) : ∀ {d : Deed}, DeedAt H q d → DeedAt H' q d
  | .come _ _, ⟨tq, h1, h2⟩ => ⟨tq, s.tup hx h1, s.tup hx h2⟩
  | .die _, h => s.tup hx h
theorem DeedsT.put {H H' : Hp} {x p C dx : Addr} {fs : List (Str × V)} {ds : List Deed} (h : DeedsT H p ds) (s : SameX x H H') (hx : H x = some (.ins C dx fs)) : DeedsT H' p ds := by
  obtain ⟨qs, h1, h2⟩ := h
  exact ⟨qs, s.tup hx h1, paired_mono (fun q d e => e.put s hx) h2⟩
theorem LivesAt.put {H H' : Hp} {x d C dx : Addr} {fs : List (Str × V)} {ds : List Deed} (h : LivesAt H d ds) (s : SameX x H H') (hx : H x = some (.ins C dx fs)) : LivesAt H' d ds := s _ _ (fun z => by
  have h : H d = _ := h
  rw [z, hx] at h; cases h) h
theorem sameX_upd {H : Hp} {x : Addr} {o : HO} : SameX x H (upd H x o) := fun b u hb e => by rw [upd_ne hb]; exact e
/-- a History at x -/
structure HistO (C : Addr) (H : Hp) (x : Addr) (ds : List Deed) : Prop where
  ex : ∃ (dx dp lp ep : Addr) (fs : List (Str × V)), H x = some (.ins C dx fs) ∧ fs.length ≤ 4 ∧ fs.lookup ("text" : Str) = some (.str (histText ds)) ∧ fs.lookup ("deeds" : Str) = some (.ref dp) ∧ fs.lookup ("living" : Str) = some (.ref lp) ∧ fs.lookup ("dead" : Str) = some (.ref ep) ∧
    DeedsT H dp ds ∧ H lp = some (.tup ((sortS (liv ds)).map V.str)) ∧ H ep = some (.tup ((sortS (deadD ds)).map V.str))
  hist : Hist ds
  few : ds.length ≤ 100
theorem HistO.keep {C : Addr} {H H' : Hp} {x : Addr} {ds : List Deed} (w : HistO C H x ds) (s : Same H H') : HistO C H' x ds := by
  obtain ⟨⟨dx, dp, lp, ep, fs, h1, h2, h3, h4, h5, h6, h7, h8, h9⟩, a, b⟩ := w
  exact ⟨⟨dx, dp, lp, ep, fs, s _ _ h1, h2, h3, h4, h5, h6, h7.keep s, s _ _ h8, s _ _ h9⟩, a, b⟩
structure TxtH (K : PySem.W.Frag) (mg : Str → Option Value) (C : Addr) : Prop where
  cl : Cls K C
  nT : NoAttr K C "text"
  nD : NoAttr K C "deeds"
  nL : NoAttr K C "living"
  nE : NoAttr K C "dead"
  mH : mg "History" = some (.ref C)
def spInitH (C : Addr) : Sp := fun vs H Q _ => ∃ (x dx : Addr) (ds : List Deed), vs = [.ref x, .str (histText ds)] ∧ Hist ds ∧ ds.length ≤ 100 ∧ H x = some (.ins C dx []) ∧ ∀ H', HistO C H' x ds → SameX x H H' → Q .non H'
def spLenH (C : Addr) : Sp := fun vs H Q _ => ∃ (x : Addr) (ds : List Deed), vs = [.ref x] ∧ HistO C H x ds ∧ Q (.int (ds.length : Nat)) H
section
variable {P : Program} {w : World} {K : PySem.W.Frag} {mg : Str → Option Value} {base : Heap}
theorem scInitH : FnScope ["self", "text", "deeds", "lives"] ["self", "text"] (defScope sInitH) := ⟨rfl, rfl, rfl, by decide +kernel, rfl, by decide +kernel, by decide +kernel⟩
theorem ok_initH {f fR fL fN C : Addr} {fd fdR fdL fdN : FuncData} {k : Nat} (F : Fun K "__init__" "History.__init__" sInitH f fd) (T : TxtH K mg C)
    (GR : FnOk P w K mg base CX0 k fR fdR ["text"] spReadDs) (gR : mg "read_deeds" = some (.ref fR)) (kR : PySem.W.keepIn K (.ref fR) = true) (bR : Binds K fdR ["text"] [])
    (GL : FnOk P w K mg base CX0 k fL fdL ["deeds"] spLivesB) (gL : mg "lives_behind" = some (.ref fL)) (kL : PySem.W.keepIn K (.ref fL) = true) (bL : Binds K fdL ["deeds"] [])
    (GN : FnOk P w K mg base CX0 k fN fdN ["live", "lives"] spNamesT) (gN : mg "names_that" = some (.ref fN)) (kN : PySem.W.keepIn K (.ref fN) = true) (bN : Binds K fdN ["live", "lives"] []) :
    FnOk P w K mg base CX0 (k + 1) f fd ["self", "text"] (spInitH C) := by
  refine F.ok scInitH (fun vs H Q E h => ?_) (fun cdv A outer s H vs Q E hr h => ?_)
  · obtain ⟨x, dx, ds, rfl, _⟩ := h
    rfl
  · obtain ⟨x, dx, ds, rfl, hH, hl, hx, q⟩ := h
    refine ⟨_, pss_cons (ps_set (i := 2) scInitH.nd rfl (.inl rfl) (pe_call GR hr (by rfl) gR kR bR .nil pass0 (pa_cons (pv 1) pa_nil)))
      (pss_cons (ps_set (i := 3) scInitH.nd rfl (.inl rfl) (pe_call GL hr (by rfl) gL kL bL .nil pass0 (pa_cons (pv 2) pa_nil)))
      (pss_cons (ps_fld (pv 0) (pv 1) rfl) (pss_cons (ps_fld (pv 0) (pv 2) rfl)
      (pss_cons (ps_fld (pv 0) (pe_call GN hr (by rfl) gN kN bN .nil pass0 (pa_cons pe_bl (pa_cons (pv 3) pa_nil))) rfl)
      (pss_one (ps_fld (pv 0) (pe_call GN hr (by rfl) gN kN bN .nil pass0 (pa_cons pe_bl (pa_cons (pv 3) pa_nil))) rfl)))))), ?_⟩
    refine rs_set ?_
    refine ⟨.str (histText ds), rfl, ds, rfl, hH, hl, fun dp H1 s1 ndp hdp => ?_⟩
    refine rs_set ?_
    refine ⟨.ref dp, rfl, dp, ds, rfl, hdp, hH, by omega, fun d H2 s2 nd hd => ?_⟩
    have e0 := s2 _ _ (s1 _ _ hx)
    have hdp2 := hdp.keep s2
    have l1 := length_putF "text" (V.str (histText ds)) []
    have l2 := length_putF "deeds" (V.ref dp) (putF "text" (V.str (histText ds)) [])
    have l0 : ([] : List (Str × V)).length = 0 := rfl
    have hA1 := hdp2.put (sameX_upd (o := .ins C dx (putF "text" (.str (histText ds)) []))) e0
    have hA2 := hA1.put (sameX_upd (o := .ins C dx (putF "deeds" (.ref dp) (putF "text" (.str (histText ds)) [])))) upd_same
    have hB1 := hd.put (sameX_upd (o := .ins C dx (putF "text" (.str (histText ds)) []))) e0
    have hB2 := hB1.put (sameX_upd (o := .ins C dx (putF "deeds" (.ref dp) (putF "text" (.str (histText ds)) [])))) upd_same
    refine ⟨.str (histText ds), rfl, .ref x, rfl, x, C, dx, [], rfl, e0, T.cl, T.nT, by omega, .ref dp, rfl, .ref x, rfl, x, C, dx, _, rfl, upd_same, T.cl, T.nD, by omega, ?_⟩
    have ex2 : (upd (upd H2 x (.ins C dx (putF "text" (.str (histText ds)) []))) x (.ins C dx (putF "deeds" (.ref dp) (putF "text" (.str (histText ds)) [])))) x = some (.ins C dx (putF "deeds" (.ref dp) (putF "text" (.str (histText ds)) []))) := upd_same
    have sxA : SameX x H (upd (upd H2 x (.ins C dx (putF "text" (.str (histText ds)) []))) x (.ins C dx (putF "deeds" (.ref dp) (putF "text" (.str (histText ds)) [])))) := ((SameX.of (s1.trans s2)).trans sameX_upd).trans sameX_upd
    generalize (upd (upd H2 x (.ins C dx (putF "text" (.str (histText ds)) []))) x (.ins C dx (putF "deeds" (.ref dp) (putF "text" (.str (histText ds)) [])))) = H3 at hA2 hB2 ex2 sxA ⊢
    refine ⟨.ref d, rfl, true, d, ds, rfl, hB2, hH, by omega, fun lp H4 s4 elp => ?_⟩
    have ex4 := s4 _ _ ex2
    have l3 := length_putF "living" (V.ref lp) (putF "deeds" (V.ref dp) (putF "text" (V.str (histText ds)) []))
    refine ⟨.ref x, rfl, x, C, dx, _, rfl, ex4, T.cl, T.nL, by omega, ?_⟩
    have hA4 := (hA2.keep s4).put (sameX_upd (o := .ins C dx (putF "living" (.ref lp) (putF "deeds" (.ref dp) (putF "text" (.str (histText ds)) []))))) ex4
    have hB4 := (hB2.keep s4).put (sameX_upd (o := .ins C dx (putF "living" (.ref lp) (putF "deeds" (.ref dp) (putF "text" (.str (histText ds)) []))))) ex4
    have elp4 := (sameX_upd (o := .ins C dx (putF "living" (.ref lp) (putF "deeds" (.ref dp) (putF "text" (.str (histText ds)) []))))).tup ex4 elp
    have ex5 : (upd H4 x (.ins C dx (putF "living" (.ref lp) (putF "deeds" (.ref dp) (putF "text" (.str (histText ds)) []))))) x = some (.ins C dx (putF "living" (.ref lp) (putF "deeds" (.ref dp) (putF "text" (.str (histText ds)) [])))) := upd_same
    have sxB : SameX x H (upd H4 x (.ins C dx (putF "living" (.ref lp) (putF "deeds" (.ref dp) (putF "text" (.str (histText ds)) []))))) := (sxA.trans (.of s4)).trans sameX_upd
    generalize (upd H4 x (.ins C dx (putF "living" (.ref lp) (putF "deeds" (.ref dp) (putF "text" (.str (histText ds)) []))))) = H5 at hA4 hB4 elp4 ex5 sxB ⊢
    refine ⟨.ref d, rfl, false, d, ds, rfl, hB4, hH, by omega, fun ep H6 s6 eep => ?_⟩
    have ex6 := s6 _ _ ex5
    have l4 := length_putF "dead" (V.ref ep) (putF "living" (V.ref lp) (putF "deeds" (V.ref dp) (putF "text" (V.str (histText ds)) [])))
    refine ⟨.ref x, rfl, x, C, dx, _, rfl, ex6, T.cl, T.nE, by omega, q _ ⟨⟨dx, dp, lp, ep, _, upd_same, by omega, ?_, ?_, ?_, ?_, (hA4.keep s6).put sameX_upd ex6, sameX_upd.tup ex6 (s6 _ _ elp4), sameX_upd.tup ex6 eep⟩, hH, hl⟩ ((sxB.trans (.of s6)).trans sameX_upd)⟩
    · rw [lookup_putF, if_neg (by decide), lookup_putF, if_neg (by decide), lookup_putF, if_neg (by decide), lookup_putF, if_pos rfl]
    · rw [lookup_putF, if_neg (by decide), lookup_putF, if_neg (by decide), lookup_putF, if_pos rfl]
    · rw [lookup_putF, if_neg (by decide), lookup_putF, if_pos rfl]
    · rw [lookup_putF, if_pos rfl]
theorem scLenH : FnScope ["self"] ["self"] (defScope sLenH) := ⟨rfl, rfl, rfl, by decide +kernel, rfl, by decide +kernel, by decide +kernel⟩
theorem ok_lenH {f C : Addr} {fd : FuncData} {k : Nat} (F : Fun K "__len__" "History.__len__" sLenH f fd) (T : TxtH K mg C) (B : Blt mg) : FnOk P w K mg base CX0 (k + 1) f fd ["self"] (spLenH C) := by
  refine F.ok scLenH (fun vs H Q E h => ?_) (fun cdv A outer s H vs Q E hr h => ?_)
  · obtain ⟨x, ds, rfl, _⟩ := h
    rfl
  · obtain ⟨x, ds, rfl, wb, q⟩ := h
    obtain ⟨⟨dx, dp, lp, ep, fs, h1, h2, h3, h4, h5, h6, ⟨qs, h7, h7'⟩, h8, h9⟩, hH, hl⟩ := wb
    refine ⟨_, pss_one (ps_ret (pe_callB call_len_seq (by rfl) B.len PySem.boot_len (pa_cons (pe_fld (pv 0) rfl) pa_nil))), ?_⟩
    refine ⟨.ref x, rfl, x, C, dx, _, _, rfl, h1, T.cl, T.nD, h4, dp, qs.map V.ref, rfl, .inr (sqt_of h7), ?_⟩
    rw [List.length_map, Paired.length h7']
    exact q
end
end Hw

set_option Elab.async false
set_option linter.all false
set_option maxRecDepth 100000
set_option maxHeartbeats 4000000
namespace Hw
open PySem L2 PyProof.Rows
abbrev sEqH : Stmt := inClass (topS 10) 2
structure ClsQ (K : PySem.W.Frag) (mg : Str → Option Value) (C : Addr) : Prop where
  ha : PySem.W.findIn K (.ref C) "__class__" = some (some (.builtin "object.__class__"))
  hn : PySem.W.specialIn K (.builtin "object.__class__") "__get__" = some (some (.builtin "getset_descriptor.__get__"))
  htk : PySem.W.takesIn K (.builtin "object.__class__") = some true
  hm : PySem.W.mroIn K C (.type "object") = some true
  kS : PySem.W.kitOne K (.type "str") (.ref C) = some false
  kN : PySem.W.kitOne K (.type "NoneType") (.ref C) = some false
  kT : PySem.W.kitOne K (.type "tuple") (.ref C) = some false
  kI : PySem.W.kitOne K (.type "int") (.ref C) = some false
  fS : PySem.W.notFirst K C (.type "str") = true
  fN : PySem.W.notFirst K C (.type "NoneType") = true
  fT : PySem.W.notFirst K C (.type "tuple") = true
  fI : PySem.W.notFirst K C (.type "int") = true
theorem kit_same {K : PySem.W.Frag} {C : Addr} : PySem.W.kitOne K (.ref C) (.ref C) = some true := by
  unfold PySem.W.kitOne
  rw [if_pos (by simp)]
theorem deedLine_die (n : Str) : Str.empty ++ Str.ofString "die " ++ n = deedLine (.die n) := by
  unfold deedLine
  rw [TL.join_eq]
  show _ = sDie ++ sBl ++ n
  congr 1
def spLineOf : Sp := fun vs H Q _ => ∃ (q : Addr) (e : Deed), vs = [.ref q] ∧ DeedAt H q e ∧ FineD e ∧ ∀ H', Same H H' → Q (.str (deedLine e)) H'
def spEqH (K : PySem.W.Frag) (C : Addr) : Sp := fun vs H Q _ => ∃ (x : Addr) (y : V) (ds : List Deed), vs = [.ref x, y] ∧ HistO C H x ds ∧ ((∃ x2 ds2, y = .ref x2 ∧ HistO C H x2 ds2 ∧ Q (.bl (decide (histText ds = histText ds2))) H) ∨ ∃ t, TyX K H y t ∧ PySem.W.kitOne K t (.ref C) = some false ∧ Q (.bl false) H)
section
variable {P : Program} {w : World} {K : PySem.W.Frag} {mg : Str → Option Value} {base : Heap}
theorem scEqH : FnScope ["self", "other"] ["self", "other"] (defScope sEqH) := ⟨rfl, rfl, rfl, by decide +kernel, rfl, by decide +kernel, by decide +kernel⟩
theorem ok_eqH {f C : Addr} {fd : FuncData} {k : Nat} (F : Fun K "__eq__" "History.__eq__" sEqH f fd) (T : TxtH K mg C) (B3 : Blt3 mg) (Cq : ClsQ K mg C) : FnOk P w K mg base CX0 (k + 1) f fd ["self", "other"] (spEqH K C) := by
  refine F.ok scEqH (fun vs H Q E h => ?_) (fun cdv A outer s H vs Q E hr h => ?_)
  · obtain ⟨x, y, ds, rfl, _⟩ := h
    rfl
  · obtain ⟨x, y, ds, rfl, wb, hy⟩ := h
    obtain ⟨⟨dx, dp, lp, ep, fs, h1, h2, h3, h4, h5, h6, h7, h8, h9⟩, hH, hl⟩ := wb
    refine ⟨_, pss_one (ps_ret (pe_and (pe_callB call_isi (by rfl) B3.isi PyProof.Rows.boot_isinstance (pa_cons (pv 1) (pa_cons (pe_glob (v := .ref C) (by rfl) T.mH rfl) pa_nil)))
      (pe_one (pe_cmpR op_eq (pe_fld (pv 0) rfl) (pe_fld (pv 1) rfl) (nomark _))))), ?_⟩
    rcases hy with ⟨x2, ds2, rfl, ⟨⟨dx2, dp2, lp2, ep2, fs2, k1, k2, k3, k4, k5, k6, k7, k8, k9⟩, hH2, hl2⟩, q⟩ | ⟨t', ty, kt, q⟩
    · refine ⟨.ref x2, rfl, .ref x2, .ref C, .ref C, .ref C, true, rfl, .own _, .base (.ins k1 T.cl Cq.ha Cq.hn Cq.htk Cq.hm), kit_same, true, rfl, ?_⟩
      refine ⟨.ref x, rfl, x, C, dx, _, _, rfl, h1, T.cl, T.nT, h3, .ref x2, rfl, x2, C, dx2, _, _, rfl, k1, T.cl, T.nT, k3, rfl, ?_⟩
      have e : decide (V.str (histText ds) = V.str (histText ds2)) = decide (histText ds = histText ds2) := by
        rw [decide_eq_decide]
        exact ⟨fun e => by injection e, fun e => by rw [e]⟩
      rw [e]
      exact q
    · exact ⟨y, rfl, y, .ref C, t', .ref C, false, rfl, .own _, ty, kt, false, rfl, q⟩
end
end Hw

set_option Elab.async false
set_option linter.all false
set_option maxRecDepth 100000
set_option maxHeartbeats 4000000
namespace Hw
open PySem PySem.Spec L2 PyProof.Rows LamX
/-! a thing that can be called without arguments, handed from def to def -/
/-- from the moment (fs, H0, h0) on: whoever calls f, in whatever frames, where G holds, sees tl -/
structure Act (CXl : CXT) (P : Program) (w : World) (K : PySem.W.Frag) (mg : Str → Option Value) (base : Heap) (k : Nat) (f : Addr) (fs : List Addr) (H0 : Hp) (h0 : Heap) (G : Hp → Prop) (tl : XK → Hp → VK → Prop) : Prop where
  at_ : ∃ (n q : Str) (ps : Arguments) (b : Expr) (sc : Scope) (cl : List (Str × Addr)) (pm : Value) (c : Addr) (ct : Value), h0.get? f = some (PySem.W.kla_obj n q ps b sc cl pm c ct)
  free : H0 f = none
  out : f ∉ fs
  call : ∀ (A : Around) (outer : List Env) (s : Shared) (H : Hp) (Q : VK) (E : XK), Room (k + 1) A → Env0 P w K mg base A outer s H → Un fs [] H0 H h0 s.heap → G H → tl E H Q →
    codeAny (model P w) A (.call (.ref f) ⟨[], []⟩) (CR CXl outer P w H s Q E) s
/-- a lambda's context, CXl being what is said of what it lets out -/
abbrev lamCW (CXl : CXT) (X : Cx) (A : Around) (outer : List Env) (s : Shared) (H : Hp) (E : XK) (scope : Scope) (f c' : Addr) : Cx :=
  (lamCx X A outer s H E scope f c').wish fun e s' => wpAny (model X.prog X.w) (A.deeper (lamEnv X scope s.heap.objs.size f c')) (leaving (lamEnv X scope s.heap.objs.size f c') e) (fun _ s'' => CXl outer H s E e s'') (fun e' s'' => CXl outer H s E e' s'') s'
section
variable {CXl : CXT} {X : Cx} {pins : List (Addr × Obj)} {σ : L2.St} {H : Hp} {s : Shared}
/-- a lambda just made -/
theorem act_of {f c' : Addr} {pm ctv : Value} {params : Arguments} {body : Expr} {scope : Scope} {k : Nat} {t : XK → TE} (I : Inv X pins σ H s) (L : LamS X.env.scope scope)
    (hf : s.heap.get? f = some (PySem.W.kla_obj "<lambda>" (X.env.qual ++ "<lambda>") params body scope (cloFrom X.env.cells scope.names []) pm c' ctv)) (hfn : H f = none) (hfr : f ∉ frs X.stack)
    (hbind : bindArgs (PySem.W.kla_fn "<lambda>" (X.env.qual ++ "<lambda>") params body scope (cloFrom X.env.cells scope.names []) pm (.ref c') ctv) ⟨[], []⟩ = pure [])
    (hbody : ∀ (A : Around) (outer : List Env) (s : Shared) (H : Hp) (E : XK), Room k (A.deeper (lamEnv X scope s.heap.objs.size f c')) → PE (lamCW CXl X A outer s H E scope f c') body (t E)) :
    Act CXl X.prog X.w X.K X.mg X.base k f (frs X.stack) H s.heap (fun H1 => H1 c' = some (CodeO c' (X.env.qual ++ "<lambda>"))) (fun E H1 Q => t E σ H1 Q) := by
  refine ⟨⟨_, _, _, _, _, _, _, _, _, hf⟩, hfn, hfr, fun A outer s1 H1 Q E hr e0 un hc ht => ?_⟩
  have here := un.keep f _ hf hfn hfr (List.not_mem_nil)
  obtain ⟨⟨oc, vs, tk, c1, c2, c3⟩, _, _⟩ := e0.hok c' _ hc
  have lim : s1.heap.NoLimit := e0.mod.nolimit.keeps fun b o e => (e0.bs b o e).1
  refine PySem.W.kla_callFunE hr.depth here rfl L.co L.gen rfl ⟨c', oc, vs, tk, rfl, c1, c2, c3⟩ ?_
  rw [hbind]
  refine wpAny_pure (wpAny_newFunctionEnv (fun y hy => (L.own y hy).2) (fun y hy => nomatch hy) (fun h2 ns sb => ⟨lim.fresh _ sb, ?_⟩) L.kind)
  have kept : ∀ b o, s1.heap.get? b = some o → h2.get? b = some o := fun b o e => sb.extBut b o (Nat.ne_of_lt (Heap.lt_size e)) (Heap.get?_push_of_some _ e)
  have J := lam_start2 (E := E) (f := f) (c' := c') (tk := s1.toks + ([] : List (Str × Value)).length) I L e0 hr.hd un ns kept
  refine PySem.W.kla_codeExpr (wpAny_mono ((hbody A outer s1 H1 E (hr.deeper _)).run [] _ _ H1 Q (J.wish _) ht) (fun v s' hq => ?_) fun e s' hq => hq)
  obtain ⟨x, H2, J2, rv, q⟩ := hq
  have J2 := J2.unwish
  exact ⟨x, H2, J2.os, J2.bare, J2.base, J2.hok, rv, q⟩
/-- two stretches of a way, the second one seen from a frame more -/
theorem un_join {fs : List Addr} {L : Addr} {H0 H1 H2 : Hp} {h0 h1 h2 : Heap} {gs : List Addr} (a : Un fs [] H0 H1 h0 h1) (b : Un gs [] H1 H2 h1 h2) (hg : ∀ x, x ∈ gs → x ∈ fs ∨ x = L) (hf : ∀ x, x ∈ fs → x ∈ gs) (hL : h0.objs.size ≤ L) : Un fs [] H0 H2 h0 h2 where
  keep := fun c o e n hc _ => b.keep c o (a.keep c o e n hc List.not_mem_nil) (a.free c o e n List.not_mem_nil) (fun m => (hg c m).elim hc fun z => absurd (Heap.lt_size e) (by rw [z]; exact Nat.not_lt_of_le hL)) List.not_mem_nil
  slot := fun c o e n hc _ => by
    obtain ⟨sl, e1⟩ := a.slot c o e n hc List.not_mem_nil
    obtain ⟨sl', e2⟩ := b.slot c _ e1 (a.free c o e n List.not_mem_nil) (hf c hc) List.not_mem_nil
    exact ⟨sl', e2⟩
  free := fun c o e n _ => by
    obtain ⟨o', e1⟩ := a.there c o e List.not_mem_nil
    exact b.free c o' e1 (a.free c o e n List.not_mem_nil) List.not_mem_nil
  there := fun c o e _ => by
    obtain ⟨o', e1⟩ := a.there c o e List.not_mem_nil
    exact b.there c o' e1 List.not_mem_nil
  tups := fun c xs e => b.tups c xs (a.tups c xs e)
  frzs := fun c o u e => b.frzs c o u (a.frzs c o u e)
  tbls := fun c ps e => by
    obtain ⟨m1, e1⟩ := a.tbls c ps e
    obtain ⟨m2, e2⟩ := b.tbls c _ e1
    exact ⟨m1 ++ m2, by rw [e2, Array.append_assoc]⟩
/-- within a def that got it: it may be handed on -/
theorem Act.down {k : Nat} {f : Addr} {G : Hp → Prop} {tl : XK → Hp → VK → Prop} (hex : X.ex = []) (ac : Act CXl X.prog X.w X.K X.mg X.base k f X.fs X.H_0 X.s_0.heap G tl) (hs : X.stack = X.env :: X.outer) (hfm : X.env.frame = some X.env.locals) (I : Inv X pins σ H s) :
    Act CXl X.prog X.w X.K X.mg X.base k f (frs X.stack) H s.heap G tl := by
  have ub : Un X.fs [] X.H_0 H X.s_0.heap s.heap := by
    have := I.base
    rwa [hex] at this
  have hfr : frs X.stack = X.env.locals :: X.fs := by
    rw [hs]
    show List.filterMap _ _ = _
    rw [List.filterMap_cons, hfm]; rfl
  obtain ⟨n, q, ps, b, sc, cl, pm, c, ct, e⟩ := ac.at_
  refine ⟨⟨n, q, ps, b, sc, cl, pm, c, ct, ub.keep f _ e ac.free ac.out List.not_mem_nil⟩, ub.free f _ e ac.free List.not_mem_nil, fun m => ?_, fun A outer s1 H1 Q E hr e0 un hg ht => ac.call A outer s1 H1 Q E hr e0 (un_join (L := X.env.locals) ub un (fun x m => ?_) (fun x m => ?_) I.ok.above) hg ht⟩
  · rw [hfr] at m
    rcases List.mem_cons.mp m with z | z
    · have := Heap.lt_size e
      rw [z] at this
      exact absurd this (Nat.not_lt_of_le I.ok.above)
    · exact ac.out z
  · rw [hfr] at m
    exact (List.mem_cons.mp m).elim .inr .inl
  · rw [hfr]
    exact List.mem_cons_of_mem _ m
end
end Hw

set_option Elab.async false
set_option linter.all false
set_option maxRecDepth 100000
set_option maxHeartbeats 4000000
namespace Hw
open PySem PySem.Spec L2 PyProof PyProof.Rows LamX
/-! defs that get a callable and call it: what they want may speak of the frames and the heap they start in -/
abbrev SpL := List Addr → Heap → Sp
section
variable (P : Program) (w : World) (K : PySem.W.Frag) (mg : Str → Option Value) (base : Heap)
structure FnGL (CX : CXT) (k : Nat) (f : Addr) (fd : FuncData) (ps : List Str) (sp : SpL) : Prop where
  len : ∀ fs h vs H Q E, sp fs h vs H Q E → vs.length = ps.length
  run : ∀ (A : Around) (outer : List Env) (s : Shared) (H : Hp) (args : Args) (us : List Value) (vs : List V) (Q : VK) (E : XK), RoomG k A → Env0 P w K mg base A outer s H →
    BindsTo s fd args (ps.zip us) → Vals vs us → sp (frs outer) s.heap vs H Q E → codeAny (model P w) A (.call (.ref f) args) (CR CX outer P w H s Q E) s
end
section
variable {P : Program} {w : World} {K : PySem.W.Frag} {mg : Str → Option Value} {base : Heap} {CX : CXT} {k : Nat} {f : Addr} {fd : FuncData} {ps : List Str} {sp sp' : SpL}
theorem toGL {sp : Sp} (F : FnG P w K mg base CX k f fd ps sp) : FnGL P w K mg base CX k f fd ps (fun _ _ => sp) := ⟨fun _ _ => F.len, fun A o s H a us vs Q E hr he hb hv hs => F.run A o s H a us vs Q E hr he hb hv hs⟩
theorem FnGL.mono {j : Nat} (F : FnGL P w K mg base CX j f fd ps sp) (h : j ≤ k) : FnGL P w K mg base CX k f fd ps sp := ⟨F.len, fun A o s H a us vs Q E hr => F.run A o s H a us vs Q E (hr.mono h)⟩
theorem FnGL.imp (F : FnGL P w K mg base CX k f fd ps sp) (h : ∀ fs h vs H Q E, sp' fs h vs H Q E → sp fs h vs H Q E) : FnGL P w K mg base CX k f fd ps sp' :=
  ⟨fun fs g vs H Q E q => F.len fs g vs H Q E (h _ _ _ _ _ _ q), fun A o s H a us vs Q E hr he hb hv hs => F.run A o s H a us vs Q E hr he hb hv (h _ _ _ _ _ _ hs)⟩
end
/-- a def by its body -/
theorem fnGL_of {CX : CXT} {P : Program} {w : World} {K : PySem.W.Frag} {mg : Str → Option Value} {base : Heap} {k : Nat} {f : Addr} {name qual : Str} {params : Arguments} {body : List Stmt} {scope : Scope} {dV kV doc pm cdv ct oc : Value} {an od : Option Addr}
    {osl : Array (Option Value)} {N ps : List Str} {sp : SpL} (lk : K.lookup f = some ⟨oc, od, .func (PySem.W.fnOf name qual params body scope dV kV doc pm an cdv ct), osl⟩) (hcd : PySem.W.codeIn K cdv qual = true)
    (S : FnScope N ps scope) (len : ∀ fs h vs H Q E, sp fs h vs H Q E → vs.length = ps.length)
    (hbody : ∀ (A : Around) (outer : List Env) (s : Shared) (H : Hp) (vs : List V) (Q : VK) (E : XK), RoomG k (A.deeper (envOfC qual scope s.heap.objs.size f cdv)) → sp (frs outer) s.heap vs H Q E →
      ∃ t, PSs (cxOf CX P w K mg base N qual scope f cdv A outer s H E) body t ∧ t { nx := fun _ H' => Q .non H', rt := Q } (start N vs) H) :
    FnGL P w K mg base CX (k + 1) f (PySem.W.fnOf name qual params body scope dV kV doc pm an cdv ct) ps sp := by
  refine ⟨len, fun A outer s H args us vs Q E hr e0 hb r hsp => ?_⟩
  have nl := len _ _ _ _ _ _ hsp
  have kin : K.In s.heap := e0.mod.kin.keeps fun b o e => (e0.bs b o e).1
  have nolim : s.heap.NoLimit := e0.mod.nolimit.keeps fun b o e => (e0.bs b o e).1
  have kinds : ∀ y ∈ ps.zip us, scope.names.lookup y.1 = some .local ∨ (scope.names.lookup y.1 = some .cell ∧ ((cellsFrom (s.heap.objs.size + 1) scope.names []).lookup y.1).isSome = true) := by
    rintro ⟨n, v⟩ hy
    rcases S.par n (List.of_mem_zip hy).1 with q | q
    · left; exact q
    · right; exact ⟨q, PySem.W.cellsFrom_some _ _ _ (.inl q)⟩
  refine codeAny_call_function hr.r.depth (kin _ _ lk) rfl S.co S.gen rfl (PySem.W.codeRec_of kin hcd) (hb _ _ _ _ ?_)
  refine wpAny_newFunctionEnv_cells S.kind kinds fun env he s1 x => ?_
  subst he
  refine ⟨nolim.keeps x.toInCall.keep, codeAny_func ?_⟩
  obtain ⟨t, ht, hq⟩ := hbody A outer s H vs Q E (hr.deeper _) hsp
  have I0 : Inv (cxOf CX P w K mg base N qual scope f cdv A outer s H E) [] (start N vs) H s1 := inv_start S hr.r.hd e0 nl r x
  refine wpAny_mono (ht.run [] s1 (start N vs) H _ I0 hq) (fun fl s' hs => ?_) fun _ _ hs => hs
  have done : ∀ {σ' : L2.St} {H' : Hp} {v : V} {u : Value}, Inv (cxOf CX P w K mg base N qual scope f cdv A outer s H E) [] σ' H' s' → RelV v u → Q v H' → CE outer P w H s Q u s' :=
    fun {_ H' v _} J rv q => ⟨v, H', J.os, J.bare, J.base, J.hok, rv, q⟩
  match fl, hs with
  | .ret u, ⟨v, σ', H', J, rv, q⟩ => exact done J rv q
  | .next, ⟨σ', H', J, q⟩ => exact done (v := V.non) (u := Value.none) J rfl q
  | .brk, ⟨_, _, _, q⟩ => exact False.elim q
  | .cont, ⟨_, _, _, q⟩ => exact False.elim q
section
variable {P : Program} {w : World} {K : PySem.W.Frag} {mg : Str → Option Value} {base : Heap}
theorem funGL {x qual : Str} {st : Stmt} {f : Addr} {fd : FuncData} {N ps : List Str} {k : Nat} {sp : SpL} (F : Fun K x qual st f fd) (S : FnScope N ps (defScope st)) (len : ∀ fs h vs H Q E, sp fs h vs H Q E → vs.length = ps.length)
    (hbody : ∀ (cdv : Value) (A : Around) (outer : List Env) (s : Shared) (H : Hp) (vs : List V) (Q : VK) (E : XK), RoomG k (A.deeper (envOfC qual (defScope st) s.heap.objs.size f cdv)) → sp (frs outer) s.heap vs H Q E →
      ∃ t, PSs (cxOf CX0 P w K mg base N qual (defScope st) f cdv A outer s H E).nox (defBody st) t ∧ t { nx := fun _ H' => Q .non H', rt := Q } (start N vs) H) : FnGL P w K mg base CX0 (k + 1) f fd ps sp := by
  obtain ⟨oc, od, kV, doc, pm, an, cdv, ct, osl, rfl, lk, hcd⟩ := F.ex
  exact fnGL_of lk hcd S len fun A outer s H vs Q E hr hsp => by
    obtain ⟨t, h, q⟩ := hbody cdv A outer s H vs Q E hr hsp
    exact ⟨t, h.nox, q⟩
theorem funGLX {x qual : Str} {st : Stmt} {f : Addr} {fd : FuncData} {N ps : List Str} {k : Nat} {sp : SpL} (F : Fun K x qual st f fd) (S : FnScope N ps (defScope st)) (len : ∀ fs h vs H Q E, sp fs h vs H Q E → vs.length = ps.length)
    (hbody : ∀ (cdv : Value) (A : Around) (outer : List Env) (s : Shared) (H : Hp) (vs : List V) (Q : VK) (E : XK), RoomG k (A.deeper (envOfC qual (defScope st) s.heap.objs.size f cdv)) → sp (frs outer) s.heap vs H Q E →
      ∃ t, PSs (cxOf (L2.CX P w) P w K mg base N qual (defScope st) f cdv A outer s H E) (defBody st) t ∧ t { nx := fun _ H' => Q .non H', rt := Q } (start N vs) H) : FnGL P w K mg base (L2.CX P w) (k + 1) f fd ps sp := by
  obtain ⟨oc, od, kV, doc, pm, an, cdv, ct, osl, rfl, lk, hcd⟩ := F.ex
  exact fnGL_of lk hcd S len fun A outer s H vs Q E hr hsp => hbody cdv A outer s H vs Q E hr hsp
end
/-- where a def's own frame stands: whatever is called from here starts so -/
def Down (X : Cx) (fs : List Addr) (h : Heap) (H : Hp) : Prop := ∃ pins σ s, Inv X pins σ H s ∧ fs = frs X.stack ∧ h = s.heap
def tCallW (X : Cx) (sp : SpL) (dvs : List V) (E : XK) (t : TA) : TE := fun σ H Q => t σ H fun vs H1 => ∀ fs h, Down X fs h H1 → sp fs h (vs ++ dvs) H1 Q E
/-- a lambda, then the others; a call with these -/
def tLamW (CXl : CXT) (X : Cx) (T : List (Addr × Str)) (k : Nat) (q : Str) (sp : SpL) (dvs : List V) (E : XK) (ta : TA) (t : XK → TE) : TE := fun σ H Q => Tabs T H ∧ ∀ f c' H1, ExtN H H1 → Tabs T H1 → H1 c' = some (CodeO c' q) →
  ta σ H1 fun vs H2 => ∀ fs h, Act CXl X.prog X.w X.K X.mg X.base k f fs H2 h (fun HZ => HZ c' = some (CodeO c' q)) (fun E' HZ Q' => t E' σ HZ Q') → sp fs h (.ref f :: vs ++ dvs) H2 Q E
section
variable {X : Cx} {CX CXl : CXT} {k : Nat} {f : Addr} {fd : FuncData} {ps : List Str} {sp : SpL} {dvs : List V} {ds : List Value} {E : XK} {x : Str} {p pos : Pos} {e : Expr} {es : List Expr} {t : TA}
theorem Act.go {n : Nat} {a : Addr} {G : Hp → Prop} {tl : XK → Hp → VK → Prop} {fs : List Addr} {h : Heap} {H : Hp} (hex : X.ex = []) (ac : Act CXl X.prog X.w X.K X.mg X.base n a X.fs X.H_0 X.s_0.heap G tl) (hs : X.stack = X.env :: X.outer) (hfm : X.env.frame = some X.env.locals) (D : Down X fs h H) :
    Act CXl X.prog X.w X.K X.mg X.base n a fs H h G tl := by
  obtain ⟨pins, σ, s, I, rfl, rfl⟩ := D
  exact ac.down hex hs hfm I
theorem runW {pins : List (Addr × Obj)} {σ : L2.St} {H : Hp} {s : Shared} {Q : VK} {us : List Value} {vs : List V} (F : FnGL X.prog X.w X.K X.mg X.base CX k f fd ps sp) (hr : RoomG k X.A) (hb : Binds X.K fd ps ds) (hd : Vals dvs ds)
    (hx : Passes CX X E) (I : Inv X pins σ H s) (r : Vals vs us) (h : sp (frs X.stack) s.heap (vs ++ dvs) H Q E) : wpAny (model X.prog X.w) X.A (call (.ref f) us) (EP X pins σ Q) X.xe s := by
  have rr : Vals (vs ++ dvs) (us ++ ds) := r.append hd
  have ll : (us ++ ds).length = ps.length := rr.length.symm.trans (F.len _ _ _ _ _ _ h)
  refine wpAny_call (codeAny_mono (F.run X.A X.stack s H ⟨us, []⟩ (us ++ ds) (vs ++ dvs) Q E hr I.env0 (hb s us I.kIn ll) rr h) fun r' s' hq => ?_)
  match r', hq with
  | .error er, hq => exact hx pins σ H s er s' I hq
  | .ok (.ret u), hq => exact I.after hq
  | .ok .next, hq => exact False.elim hq
  | .ok .brk, hq => exact False.elim hq
  | .ok .cont, hq => exact False.elim hq
theorem pe_callW (F : FnGL X.prog X.w X.K X.mg X.base CX k f fd ps sp) (hr : RoomG k X.A) (hg : Gl X x) (hm : X.mg x = some (.ref f)) (hk : PySem.W.keepIn X.K (.ref f) = true) (hb : Binds X.K fd ps ds) (hd : Vals dvs ds)
    (hx : Passes CX X E) (ha : PA X (e :: es) t) (hdb : (x == ("__debug__" : Str)) = false := by decide) (he : starEach (e :: es) X.env = (false, eval e X.env) :: starEach es X.env := by rfl)
    (hpl : (backTo pos (starEach es X.env)).any (·.1) = false := by rfl) : PE X (.Call (.Name x p) (e :: es) [] pos) (tCallW X sp dvs E t) :=
  ⟨fun pins s σ H Q I h => wpAny_Call_Name_kw (ld_glob I hg hm (PySem.W.callWith_K (h₀ := X.base) I.ok.mod.kin hk (thn (ha.run pos pins s σ H _ I h) fun us s1 ⟨vs, H1, I1, r, q⟩ => ⟨I1.kIn, runW F hr hb hd hx I1 r (q _ _ ⟨pins, σ, s1, I1, rfl, rfl⟩)⟩) he hpl) hdb)⟩
/-- x(lambda: body, es…) -/
theorem pe_lamW {j : Nat} {T : List (Addr × Str)} {c P : Addr} {params : Arguments} {body : Expr} {scope : Scope} {lpos : Pos} {tb : XK → TE} (F : FnGL X.prog X.w X.K X.mg X.base CX k f fd ps sp) (hr : RoomG k X.A) (hg : Gl X x) (hm : X.mg x = some (.ref f)) (hk : PySem.W.keepIn X.K (.ref f) = true) (hb : Binds X.K fd ps ds) (hd : Vals dvs ds)
    (hx : Passes CX X E) (ha : PA X es t) (TB : TabB X.base X.mg c P) (hcode : X.env.code = .ref c) (hmT : (P, X.env.qual ++ "<lambda>") ∈ T) (hu : ∀ p ∈ T, p.1 = P → p.2 = X.env.qual ++ "<lambda>") (L : LamS X.env.scope scope) (hdef : defaultsOf params X.env = ([], []))
    (hbind : ∀ (q : Str) (cl : List (Str × Addr)) (pm cv ctv : Value), bindArgs (PySem.W.kla_fn "<lambda>" q params body scope cl pm cv ctv) ⟨[], []⟩ = pure [])
    (hbody : ∀ (A : Around) (outer : List Env) (s : Shared) (H : Hp) (E : XK) (f c' : Addr), Room j (A.deeper (lamEnv X scope s.heap.objs.size f c')) → PE (lamCW CXl X A outer s H E scope f c') body (tb E))
    (hdb : (x == ("__debug__" : Str)) = false := by decide) (he : starEach (.Lambda params body scope lpos :: es) X.env = (false, eval (.Lambda params body scope lpos) X.env) :: starEach es X.env := by rfl)
    (hpl : (backTo pos (starEach es X.env)).any (·.1) = false := by rfl) : PE X (.Call (.Name x p) (.Lambda params body scope lpos :: es) [] pos) (tLamW CXl X T j (X.env.qual ++ "<lambda>") sp dvs E t tb) := by
  refine ⟨fun pins s σ H Q I h => ?_⟩
  obtain ⟨hT, h⟩ := h
  refine wpAny_Call_Name_kw (ld_glob I hg hm ?_ hdb)
  refine PySem.W.callWith_K (h₀ := X.base) I.ok.mod.kin hk ?_ he hpl
  rw [he]
  show wpAny _ _ (spliced ((false, eval (.Lambda params body scope lpos) X.env) :: backTo pos (starEach es X.env))) _ _ s
  refine Calls.spliced_cons (lam_make2 I TB hcode hmT hu hT hdef (L.has I.ok) fun a c' pm' ctv H1 s' I1 eN T1 hf hfn hfr hco => ?_)
  have hfs : a ∉ X.fs := fun z => hfr (by
    rcases I1.ok.stk with e1 | ⟨e1, e2⟩
    · rw [e1]; exact z
    · rw [e1]
      show a ∈ List.filterMap _ _
      rw [List.filterMap_cons, e2]; exact List.mem_cons_of_mem _ z)
  have hfl : a ≠ X.env.locals := fun z => by
    obtain ⟨m, ⟨o', es', ep, ho', hd', _⟩, _⟩ := I1.loc
    rw [← z, hf] at ho'
    cases ho'
    cases hd'
  have Ip : Inv X ((a, PySem.W.kla_obj "<lambda>" (X.env.qual ++ "<lambda>") params body scope (cloFrom X.env.cells scope.names []) pm' c' ctv) :: pins) σ H1 s' := I1.pins_of fun q hq => by
    rcases List.mem_cons.mp hq with z | z
    · subst z
      exact ⟨hf, hfn, hfl, hfs, fun v z => by cases z⟩
    · exact I1.pin q (List.mem_append_right _ z)
  refine thn (ha.run pos _ s' σ H1 _ Ip (h a c' H1 eN T1 hco)) fun us s2 ⟨vs, H2, I2, r, q⟩ => ?_
  have pin := I2.pin (a, PySem.W.kla_obj "<lambda>" (X.env.qual ++ "<lambda>") params body scope (cloFrom X.env.cells scope.names []) pm' c' ctv) (List.mem_append_right _ List.mem_cons_self)
  have I3 : Inv X pins σ H2 s2 := I2.pins_of fun q hq => I2.pin q (List.mem_append_right _ (List.mem_cons_of_mem _ hq))
  refine ⟨I3.kIn, ?_⟩
  have ac : Act CXl X.prog X.w X.K X.mg X.base j a (frs X.stack) H2 s2.heap (fun HZ => HZ c' = some (CodeO c' (X.env.qual ++ "<lambda>"))) (fun E' HZ Q' => tb E' σ HZ Q') :=
    act_of I3 L pin.1 pin.2.1 hfr (hbind _ _ _ _ _) fun A outer s H E hr2 => hbody A outer s H E a c' hr2
  exact runW (us := .ref a :: us) (vs := .ref a :: vs) F hr hb hd hx I3 (.cons rfl r) (q _ _ ac)
end
end Hw

set_option Elab.async false
set_option linter.all false
set_option maxRecDepth 100000
set_option maxHeartbeats 4000000
namespace Hw
open PySem PySem.Spec L2 PyProof PyProof.Rows LamX
section
variable {CXl : CXT} {X : Cx} {pins : List (Addr × Obj)} {σ : L2.St} {H : Hp} {s : Shared}
/-- a(), what it may let out read at the slots of the caller -/
theorem pe_actS {k i : Nat} {a : Str} {f : Addr} {G : Hp → Prop} {tl : XK → Hp → VK → Prop} {W : WX} {p1 p2 : Pos} (hex : X.ex = []) (ac : Act CXl X.prog X.w X.K X.mg X.base k f X.fs X.H_0 X.s_0.heap G tl) (hx : ∀ σ E, (∀ cls d H', E cls d H' → W cls d σ H') → PassesAt CXl X σ E) (hr : Room (k + 1) X.A)
    (hN : X.N[i]? = some a) (hv : Vis X.env.scope a) (hd : (a == ("__debug__" : Str)) = false := by decide) (hcd : (a == ("__classdict__" : Str)) = false := by decide) :
    PE X (.Call (.Name a p1) [] [] p2) (fun σ H Q => ∃ E Q1, (∀ cls d H', E cls d H' → W cls d σ H') ∧ (∀ v H', Q1 v H' → Q v H') ∧ σ[i]? = some (some (.ref f)) ∧ G H ∧ tl E H Q1) := by
  refine ⟨fun pins s σ H Q I h => ?_⟩
  obtain ⟨Ech, Q1, hW, hQ, hs, hg, ht⟩ := h
  refine wpAny_Call_Name_kw (thn ((pe_var (pos := p1) (i := i) hN hv hd hcd).run pins s σ H (fun v H1 => v = .ref f ∧ H1 = H) I ⟨.ref f, hs, rfl, rfl⟩) fun u s1 ⟨v, H1, I1, r1, ev, eH⟩ => ?_)
  subst ev
  rw [eH] at I1
  obtain rfl : u = Value.ref f := r1
  have ub : Un X.fs [] X.H_0 H X.s_0.heap s1.heap := by
    have := I1.base
    rwa [hex] at this
  obtain ⟨n, q, ps, b, sc, cl, pm, c, ct, e⟩ := ac.at_
  refine PySem.W.callWith_F0 ⟨_, _, _, _, ub.keep f _ e ac.free ac.out List.not_mem_nil⟩ ?_
  refine wpAny_call (codeAny_mono (ac.call X.A X.stack s1 H Q1 Ech hr I1.env0 ub hg ht) fun r s' hq => ?_)
  cases r with
  | error er => exact hx σ Ech hW pins H s1 er s' I1 hq
  | ok fl =>
    cases fl with
    | ret u =>
      obtain ⟨v, H', J, r, q⟩ := I1.after hq
      exact ⟨v, H', J, r, hQ _ _ q⟩
    | next => exact False.elim hq
    | brk => exact False.elim hq
    | cont => exact False.elim hq
/-- try: a() / except x as n: suite -/
theorem ps_heard {k i j : Nat} {a x n : Str} {c : Value} {f : Addr} {G : Hp → Prop} {tl : XK → Hp → VK → Prop} {Wout : WX} {suite : List Stmt} {b₀ : Stmt} {p1 p2 p3 np pos pos' : Pos} {ts : Addr → Value → Option Addr → TS} (hex : X.ex = []) (hs : X.stack = X.env :: X.outer) (hf : X.env.frame = some X.env.locals) (hN : X.N.Nodup)
    (hi : X.N[i]? = some n) (hln : X.env.kindOf n = some .local) (hc : Names X x c) (tk : Takes X Wout) (ac : Act (L2.CX X.prog X.w) X.prog X.w X.K X.mg X.base k f X.fs X.H_0 X.s_0.heap G tl) (hr : Room (k + 1) X.A) (hNa : X.N[j]? = some a) (hva : Vis X.env.scope a)
    (hsu : ∀ (a : Addr) (oe : Obj) (cls : Value) (d : Option Addr) (pn : List (Addr × Obj)), Zc cls d oe → (∃ vs, oe.data = .fields vs) → PSs (X.suite a ((a, oe) :: pn)) (b₀ :: suite) (ts a cls d))
    (hd : (a == ("__debug__" : Str)) = false := by decide) (hcd : (a == ("__classdict__" : Str)) = false := by decide) :
    PS X (.Try [.Expr (.Call (.Name a p1) [] [] p2) p3] [.ExceptHandler (some (.Name x np)) (some n) (b₀ :: suite) pos'] [] [] pos)
      (fun D σ H => ∃ E Q1, (∀ cls d H', E cls d H' → wAs X.K c i ts Wout D cls d σ H') ∧ (∀ v H', Q1 v H' → D.nx σ H') ∧ σ[j]? = some (some (.ref f)) ∧ G H ∧ tl E H Q1) :=
  ps_try_as (tb := fun W D σ H => ∃ E Q1, (∀ cls d H', E cls d H' → W cls d σ H') ∧ (∀ v H', Q1 v H' → D.nx σ H') ∧ σ[j]? = some (some (.ref f)) ∧ G H ∧ tl E H Q1) hs hf hN hi hln hc tk
    (fun W pn xe tk' _ => pss_one (ps_expr (pe_actS (X := X.tr pn xe) (i := j) hex ac (fun _ _ h _ _ _ e s' I z => tk' e s' (XE.of_call I h z)) hr hNa hva hd hcd))) hsu
/-- try: a() / except x as n: suite, the exception's context being None -/
theorem ps_heardN {k i j : Nat} {a x n : Str} {c : Value} {f : Addr} {G : Hp → Prop} {tl : XK → Hp → VK → Prop} {Wout : WX} {suite : List Stmt} {b₀ : Stmt} {p1 p2 p3 np pos pos' : Pos} {ts : Addr → Value → Option Addr → TS} (hex : X.ex = []) (hs : X.stack = X.env :: X.outer) (hf : X.env.frame = some X.env.locals) (hN : X.N.Nodup)
    (hi : X.N[i]? = some n) (hln : X.env.kindOf n = some .local) (hc : Names X x c) (tk : L2N.Takes X Wout) (ac : Act (L2N.CX X.prog X.w) X.prog X.w X.K X.mg X.base k f X.fs X.H_0 X.s_0.heap G tl) (hr : Room (k + 1) X.A) (hNa : X.N[j]? = some a) (hva : Vis X.env.scope a)
    (hsu : ∀ (a : Addr) (oe : Obj) (cls : Value) (d : Option Addr) (pn : List (Addr × Obj)), L2N.Zn cls d oe → (∃ vs, oe.data = .fields vs) → PSs (X.suite a ((a, oe) :: pn)) (b₀ :: suite) (ts a cls d))
    (hd : (a == ("__debug__" : Str)) = false := by decide) (hcd : (a == ("__classdict__" : Str)) = false := by decide) :
    PS X (.Try [.Expr (.Call (.Name a p1) [] [] p2) p3] [.ExceptHandler (some (.Name x np)) (some n) (b₀ :: suite) pos'] [] [] pos)
      (fun D σ H => ∃ E Q1, (∀ cls d H', E cls d H' → wAs X.K c i ts Wout D cls d σ H') ∧ (∀ v H', Q1 v H' → D.nx σ H') ∧ σ[j]? = some (some (.ref f)) ∧ G H ∧ tl E H Q1) :=
  L2N.ps_try_as (tb := fun W D σ H => ∃ E Q1, (∀ cls d H', E cls d H' → W cls d σ H') ∧ (∀ v H', Q1 v H' → D.nx σ H') ∧ σ[j]? = some (some (.ref f)) ∧ G H ∧ tl E H Q1) hs hf hN hi hln hc tk
    (fun W pn xe tk' _ => pss_one (ps_expr (pe_actS (X := X.tr pn xe) (i := j) hex ac (fun _ _ h _ _ _ e s' I z => tk' e s' (L2N.XE.of_call I h z)) hr hNa hva hd hcd))) hsu
end
end Hw

set_option Elab.async false
set_option linter.all false
set_option maxRecDepth 100000
set_option maxHeartbeats 4000000
namespace Hw
open PySem PySem.Spec L2 PyProof PyProof.Rows HotX
section
variable {prog : Program} {w : World} {A : Around} {E : Value → Shared → Prop} {s : Shared}
/-- a list's iterator ends while an exception is handled -/
theorem list_end_hot {it l x1 : Addr} {i : Nat} {items : Array Value} {Q : Option Value → Shared → Prop} (hot : HotAt A x1 s.heap) (hne : x1 ≠ it) (hit : s.heap.IsListIter it l i) (hl : s.heap.IsList l items) (hx : items[i]? = none)
    (hQ : ∀ h', (∀ b o, b ≠ it → s.heap.get? b = some o → h'.get? b = some o) → Q none { s with heap := h' }) : wpAny (model prog w) A (pyNext (.ref it)) Q E s := by
  obtain ⟨o, ho, hc, hd⟩ := id hit
  obtain ⟨ol, hol, _, nl, hdl⟩ := hl
  obtain ⟨hh, o1, vs1, h1, d1, c1⟩ := hot
  unfold pyNext
  refine wpAny_bind (wpAny_attempt (wpAny_callSpecial?_slot (name := Str.ofString "__next__") hit.typeIs slot_listiter_next
    (wpAny_call_entry slot_listiter_next hit.typeIs entry_listiter_next ?_ (args_listiter_next _))))
  show wpAny _ _ (field (.ref it) 0 >>= _) _ _ s
  refine wpAny_bind (wpAny_field ho hd (x := .ref l) rfl ?_)
  show wpAny _ _ (if (Value.ref l == Value.none) = true then _ else _) _ _ s
  rw [if_neg (show ¬ ((Value.ref l == Value.none) = true) from Bool.false_ne_true)]
  show wpAny _ _ (field (.ref it) 1 >>= _) _ _ s
  refine wpAny_bind (wpAny_field ho hd (x := .int i 0) rfl ?_)
  show wpAny _ _ (seqItems? (.ref l) >>= _) _ _ s
  refine wpAny_bind (wpAny_seqItems hol hdl ?_)
  simp only [Int.toNat_natCast, hx]
  refine wpAny_bind (wpAny_rule (wpAny_bind (wpAny_setField ho hd (by simp) ?_)))
  show wpAny _ _ (newExc (.type "StopIteration") [] >>= _) _ _ _
  refine wpAny_bind ?_
  simp only [newExc, newTuple]
  refine wpAny_bind (wpAny_newObj_type ?_ (by size_fits))
  refine wpAny_bind (m := firstArgMember _ _) (wpAny_of_eq (a := Value.none) (by first | rfl | (simp only [firstArgMember]; rfl)) ?_)
  refine wpAny_newObj_type ?_ (by size_fits)
  have hu := (Heap.get?_update_other s.heap (Obj.mapFields (·.setIfInBounds 0 Value.none)) (Ne.symm hne)).trans h1
  refine raiseNew_hot ⟨hh, o1, vs1, Heap.get?_push_of_some _ (Heap.get?_push_of_some _ hu), d1, c1⟩ (Nat.ne_of_lt (Heap.lt_size (Heap.get?_push_of_some _ hu))) (Heap.get?_push_size _ rfl) rfl (by first | (simp; done) | (simp; omega) | (simp only [Array.size_append]; simp; omega)) ?_
  refine wpAny_bind (wpAny_isInstance (T := "StopIteration") (b := true) ⟨_, Heap.get?_update_self _ (Heap.get?_push_size _ rfl) rfl, rfl⟩ isSubtype_stop ?_)
  refine wpAny_pure (hQ _ fun b o hb e => ?_)
  have eu := (Heap.get?_update_other s.heap (Obj.mapFields (·.setIfInBounds 0 Value.none)) (Ne.symm hb)).trans e
  rw [Heap.get?_update_other _ _ (Nat.ne_of_gt (Heap.lt_size (Heap.get?_push_of_some _ eu)))]
  exact Heap.get?_push_of_some _ (Heap.get?_push_of_some _ eu)
theorem keys_end_hot {it d x1 : Addr} {i n ep : Nat} {od : Obj} {es : Array DictEntry} {Q : Option Value → Shared → Prop} (hot : HotAt A x1 s.heap) (hne : x1 ≠ it) (hit : s.heap.IsKeyIter it d i n ep) (hod : s.heap.get? d = some od) (hdd : od.data = .dict es ep)
    (hsz : es.size = n) (hge : n ≤ i) (hQ : ∀ h', (∀ b o, b ≠ it → s.heap.get? b = some o → h'.get? b = some o) → Q none { s with heap := h' }) : wpAny (model prog w) A (pyNext (.ref it)) Q E s := by
  obtain ⟨o, ho, hc, hd⟩ := id hit
  obtain ⟨hh, o1, vs1, h1, d1, c1⟩ := hot
  unfold pyNext
  refine wpAny_bind (wpAny_attempt (wpAny_callSpecial?_slot (name := Str.ofString "__next__") hit.typeIs F.slot_dict_keyiterator_next
    (wpAny_call_entry F.slot_dict_keyiterator_next hit.typeIs F.entry_dict_keyiterator_next ?_ (F.args_dict_keyiterator_next_1 _))))
  refine wpAny_bind (wpAny_pure ?_)
  refine wpAny_bind ?_
  refine wpAny_bind ?_
  first | refine wpAny_bind (wpAny_typeNameOfWhole_keyiter hit.typeIs (wpAny_pure ?_)) | refine wpAny_bind (wpAny_typeNameOf_keyiter hit.typeIs (wpAny_pure ?_))
  refine wpAny_bind (wpAny_fieldsOf ho hd ?_)
  have hown : Builtin.Dict_items.ownsTuple "dict_keyiterator" = false := by decide
  simp only [hown, Bool.false_eq_true, if_false]
  show wpAny _ _ (if (Value.ref d == Value.none) = true then _ else _) _ _ s
  rw [if_neg (show ¬ ((Value.ref d == Value.none) = true) from Bool.false_ne_true)]
  refine wpAny_bind (wpAny_pure ?_)
  refine wpAny_bind (wpAny_dictEntries hod hdd ?_)
  rw [if_neg (by rw [hsz]; simp)]
  refine wpAny_bind (wpAny_pure ?_)
  refine wpAny_bind (wpAny_dictEpoch hod hdd ?_)
  rw [if_neg (by simp)]
  refine wpAny_pure ?_
  have hge' : es.size ≤ i := by rw [hsz]; exact hge
  simp only [show ¬ ((i : Int) < 0) from by omega, if_false, Int.toNat_natCast, Array.getElem?_eq_none hge']
  refine wpAny_bind ?_
  first | refine wpAny_bind (wpAny_typeNameOfWhole_keyiter hit.typeIs (wpAny_pure ?_)) | refine wpAny_bind (wpAny_typeNameOf_keyiter hit.typeIs (wpAny_pure ?_))
  show wpAny _ _ (setField (.ref it) 0 .none >>= _) _ _ s
  refine wpAny_bind (wpAny_setField ho hd (by simp) ?_)
  show wpAny _ _ (newExc (.type "StopIteration") [] >>= _) _ _ _
  refine wpAny_bind ?_
  simp only [newExc, newTuple]
  refine wpAny_bind (wpAny_newObj_type ?_ (by size_fits))
  refine wpAny_bind (m := firstArgMember _ _) (wpAny_of_eq (a := Value.none) (by first | rfl | (simp only [firstArgMember]; rfl)) ?_)
  refine wpAny_newObj_type ?_ (by size_fits)
  have hu := (Heap.get?_update_other s.heap (Obj.mapFields (·.setIfInBounds 0 Value.none)) (Ne.symm hne)).trans h1
  refine raiseNew_hot ⟨hh, o1, vs1, Heap.get?_push_of_some _ (Heap.get?_push_of_some _ hu), d1, c1⟩ (Nat.ne_of_lt (Heap.lt_size (Heap.get?_push_of_some _ hu))) (Heap.get?_push_size _ rfl) rfl (by first | (simp; done) | (simp; omega) | (simp only [Array.size_append]; simp; omega)) ?_
  refine wpAny_bind (wpAny_isInstance (T := "StopIteration") (b := true) ⟨_, Heap.get?_update_self _ (Heap.get?_push_size _ rfl) rfl, rfl⟩ isSubtype_stop ?_)
  refine wpAny_pure (hQ _ fun b o hb e => ?_)
  have eu := (Heap.get?_update_other s.heap (Obj.mapFields (·.setIfInBounds 0 Value.none)) (Ne.symm hb)).trans e
  rw [Heap.get?_update_other _ _ (Nat.ne_of_gt (Heap.lt_size (Heap.get?_push_of_some _ eu)))]
  exact Heap.get?_push_of_some _ (Heap.get?_push_of_some _ eu)
end
/-- one turn of an iterator, also while an exception is handled -/
structure TurnW (P : Program) (w : World) (K : PySem.W.Frag) (tg : Expr) (J : It) (fp : List Addr) (it : Addr) (tn : Nat → Heap → Prop) : Prop where
  mem : it ∈ fp
  obj : ∀ i h, tn i h → ∀ b ∈ fp, ∃ o, h.get? b = some o ∧ ∀ v, o.data ≠ .cell v
  keep : ∀ i h h', tn i h → (∀ b ∈ fp, ∀ o, h.get? b = some o → h'.get? b = some o) → tn i h'
  item : ∀ (X : Cx), X.prog = P → X.w = w → X.K = K → ∀ (i : Nat) (pins : List (Addr × Obj)) (s : Shared) (σ : L2.St) (H : Hp) (E : Value → Shared → Prop), Inv X pins σ H s → (∀ b ∈ fp, FpOk X pins H b) → tn i s.heap → J.go i H →
    wpAny (model P w) X.A (pyNext (.ref it)) (fun r s1 => ∃ u, r = some u ∧
      wpAny (model P w) X.A (letOwnedTupleGo tg (.ref it) u) (fun _ s2 => ∃ x H', Inv X pins σ H' s2 ∧ RelV x u ∧ J.yld i H x H' ∧ tn (i + 1) s2.heap ∧ ∀ b ∈ fp, H' b = none) E s1) E s
  done : ∀ (X : Cx), X.prog = P → X.w = w → X.K = K → ∀ (x1 : Addr) (i : Nat) (pins : List (Addr × Obj)) (s : Shared) (σ : L2.St) (H : Hp) (E : Value → Shared → Prop), Inv X pins σ H s → HotAt X.A x1 s.heap → (∀ b ∈ fp, x1 ≠ b) → (∀ b ∈ fp, FpOk X pins H b) → tn i s.heap → J.stop i H →
    wpAny (model P w) X.A (pyNext (.ref it)) (fun r s1 => r = none ∧ Inv X pins σ H s1) E s
  self : ∀ (A : Around) (i : Nat) (s : Shared) (Q : Value → Shared → Prop) (E : Value → Shared → Prop), tn i s.heap → Q (.ref it) s → wpAny (model P w) A (pyIter (.ref it)) Q E s
theorem turn_listW {P : Program} {w : World} {K : PySem.W.Frag} {tg : Expr} (a it : Addr) : TurnW P w K tg (Itl K a) [it] it (fun i h => h.IsListIter it a i) where
  mem := by simp
  obj := fun i h st b hb => by
    have e : b = it := by simpa using hb
    subst e
    obtain ⟨o, e, c, d⟩ := st
    exact ⟨o, e, fun v z => by rw [d] at z; cases z⟩
  keep := fun i h h' st k => st.at fun o e => k it (by simp) o e
  item := by
    intro X hP hw hK i pins s σ H E I hf st hg
    subst hP hw hK
    obtain ⟨xs, x, hq, hx⟩ := hg
    obtain ⟨its, rv, p, hz⟩ := I.list hq
    obtain ⟨u, hu, ru⟩ := rv.get hx
    obtain ⟨f0, f1, f2, f3, f4, f5⟩ := hf it (by simp)
    refine wpAny_pyNext_list_item st p.isList (x := u) (by simpa using hu) fun h' st' sb => ?_
    have I1 : Inv X pins σ H { s with heap := h' } := I.turned (t' := s.toks) (fun b o hb e => (sb.2 b hb).trans e) f0 f1 f3 f4 f5
    obtain ⟨o, e, c, d⟩ := id st'
    exact ⟨u, rfl, go_of (s := { s with heap := h' }) e c d (by decide) ⟨x, H, I1, ru, ⟨rfl, fun ys hy => by rw [I.list_inj hy hq]; exact hx⟩, st', fun b hb => (hf b hb).1⟩⟩
  done := by
    intro X hP hw hK x1 i pins s σ H E I hot hne hf st hg
    subst hP hw hK
    obtain ⟨xs, hq, hx⟩ := hg
    obtain ⟨its, rv, p, hz⟩ := I.list hq
    obtain ⟨f0, f1, f2, f3, f4, f5⟩ := hf it (by simp)
    have hl := rv.length
    exact list_end_hot hot (hne it (by simp)) st p.isList (by simp; omega) fun h' eb => ⟨rfl, I.turned (t' := s.toks) (fun b o hb e => eb b o hb e) f0 f1 f3 f4 f5⟩
  self := fun _ _ _ _ _ st h => wpAny_pyIter_listiter st h
section
variable {P : Program} {w : World} {K : PySem.W.Frag} {tg : Expr} {d : Addr} {o : Obj} {es : Array DictEntry} {ep : Nat}
theorem turn_keysW {kvs : List (Key × V)} (it : Addr) (hod : o.data = .dict es ep) : TurnW P w K tg (Itk d o kvs) [it] it (fun i h => h.IsKeyIter it d i kvs.length ep) where
  mem := by simp
  obj := fun i h st b hb => by
    have e : b = it := by simpa using hb
    subst e
    obtain ⟨oi, e, c, dd⟩ := st
    exact ⟨oi, e, fun v z => by rw [dd] at z; cases z⟩
  keep := fun i h h' st k => st.at fun oi e => k it (by simp) oi e
  item := by
    intro X hP hw hK i pins s σ H E I hf st hg
    subst hP hw hK
    obtain ⟨hd, hi⟩ := hg
    obtain ⟨f0, f1, f2, f3, f4, f5⟩ := hf it (by simp)
    obtain ⟨hs, hgd, hx, es', ep', vs, hdt, hsz, kv, hm⟩ := I.frzK hd
    obtain ⟨rfl, rfl⟩ := dict_ep hod hdt
    obtain ⟨⟨k, v⟩, hkv⟩ : ∃ p, kvs[i]? = some p := ⟨kvs[i], List.getElem?_eq_getElem hi⟩
    obtain ⟨u, hu, ru⟩ := kv_get kv hkv
    have hl : kvs.length = vs.length := Paired.length kv
    rw [hl] at st
    refine wpAny_pyNext_dict_item st hm hu fun key h' hkey st' sb => ?_
    have I1 : Inv X pins σ H { s with heap := h' } := I.turned (t' := s.toks) (fun b ob hb e => (sb.2 b hb).trans e) f0 f1 f3 f4 f5
    obtain ⟨oi, e, c, dd⟩ := id st'
    refine ⟨key, rfl, go_of (s := { s with heap := h' }) e c dd (by decide) ⟨kV k, H, I1, relV_key (show keyIs k key = true from hkey), ⟨rfl, k, v, hkv, rfl⟩, ?_, fun b hb => (hf b hb).1⟩⟩
    show h'.IsKeyIter it d (i + 1) kvs.length _
    rw [hl]
    exact st'
  done := by
    intro X hP hw hK x1 i pins s σ H E I hot hne hf st hg
    subst hP hw hK
    obtain ⟨hd, hi⟩ := hg
    obtain ⟨f0, f1, f2, f3, f4, f5⟩ := hf it (by simp)
    obtain ⟨hs, hgd, hx, es', ep', vs, hdt, hsz, kv, hm⟩ := I.frzK hd
    obtain ⟨rfl, rfl⟩ := dict_ep hod hdt
    exact keys_end_hot hot (hne it (by simp)) st hgd hdt hsz hi fun h' eb => ⟨rfl, I.turned (t' := s.toks) (fun b ob hb e => eb b ob hb e) f0 f1 f3 f4 f5⟩
  self := fun A i s Q E st h => wpAny_pyIter_keyiter st h
end
end Hw

set_option Elab.async false
set_option linter.all false
set_option maxRecDepth 100000
set_option maxHeartbeats 4000000
namespace Hw
open PySem PySem.Spec L2 PyProof PyProof.Rows HotX
def PIEW (X : Cx) (pins : List (Addr × Obj)) (σ : L2.St) (tg : Expr) (R : It → Hp → Prop) (itv : Value) (s2 : Shared) : Prop :=
  ∃ (it : Addr) (fp : List Addr) (tn : Nat → Heap → Prop) (J : It) (H' : Hp), itv = .ref it ∧ Inv X pins σ H' s2 ∧ TurnW X.prog X.w X.K tg J fp it tn ∧ tn 0 s2.heap ∧ (∀ b ∈ fp, FpOk X pins H' b) ∧ R J H'
/-- what is walked, also while an exception is handled -/
structure PIW (X : Cx) (tg iter : Expr) (wi : TI) : Prop where
  run : ∀ (pins : List (Addr × Obj)) (s : Shared) (σ : L2.St) (H : Hp) (R : It → Hp → Prop), Inv X pins σ H s → wi σ H R →
    wpAny (model X.prog X.w) X.A (eval iter X.env) (fun v s1 => wpAny (model X.prog X.w) X.A (pyIter v) (PIEW X pins σ tg R) X.xe s1) X.xe s
/-- the keys of a locked dict -/
def iKeysW (td : TE) : TI := fun σ H R => td σ H fun x H1 => ∃ d o kvs, x = .ref d ∧ H1 d = some (.frz o (.dK kvs)) ∧ R (Itk d o kvs) H1
section
variable {X : Cx} {tg e : Expr} {td : TE}
theorem pi_listW {l : Expr} {tl : TE} (hl : PE X l tl) : PIW X tg l (iList X.K tl) := by
  refine ⟨fun pins s σ H R I h => ?_⟩
  refine thn (hl.run pins s σ H _ I h) fun v s1 ⟨x, H1, I1, r1, q1⟩ => ?_
  obtain ⟨a, e, ⟨xs, hq⟩, q⟩ := q1
  subst e
  cases r1
  obtain ⟨its, rv, p, hz⟩ := I1.list hq
  refine wpAny_pyIter_list p.isList ?_
  refine ⟨s1.heap.objs.size, [s1.heap.objs.size], _, _, H1, rfl, I1.kept (t' := s1.toks) fun b o e => Heap.get?_push_of_some _ e, turn_listW a _, ⟨_, Heap.get?_push_size _ rfl, rfl, rfl⟩, fun b hb => ?_, q⟩
  have e : b = s1.heap.objs.size := by simpa using hb
  subst e
  exact I1.fpOk (Nat.le_refl _) (I1.hok.fresh (Nat.le_refl _))
theorem pi_keysW (he : PE X e td) : PIW X tg e (iKeysW td) := by
  refine ⟨fun pins s σ H R I h => ?_⟩
  refine thn (he.run pins s σ H _ I h) fun u s1 ⟨x, H1, I1, rx, d, o, kvs, ex, hd, q⟩ => ?_
  subst ex
  obtain rfl : u = Value.ref d := rx
  obtain ⟨hs, hgd, hx, es, ep, vs, hdt, hsz, kv, hm⟩ := I1.frzK hd
  refine iter_keys hs hgd hx hdt ?_
  refine ⟨s1.heap.objs.size, [s1.heap.objs.size], _, _, H1, rfl, I1.kept (t' := s1.toks) fun b o e => Heap.get?_push_of_some _ e, turn_keysW _ hdt, ⟨_, Heap.get?_push_size _ rfl, rfl, ?_⟩, fun b hb => ?_, q⟩
  · rw [hsz] <;> rfl
  · have e : b = s1.heap.objs.size := by simpa using hb
    subst e
    exact I1.fpOk (Nat.le_refl _) (I1.hok.fresh (Nat.le_refl _))
end
section
variable {X : Cx}
theorem lc_coreW {pins : List (Addr × Obj)} {s : Shared} {σ : L2.St} {H : Hp} {Q : VK} {elt tg iter : Expr} {ifs : List Expr} {scope : Scope} {own : List (Str × Nat)} {pos pos' : Pos} {wi : TI} {g : TG} {tt : TT} {te : TE} {use : Option (Value → Sem Unit)} {Qf : Value → Shared → Prop}
    (hc : L2H.HotC X) (hN : X.N.Nodup) (I : Inv X pins σ H s) (hi : PIW X tg iter wi) (ok : BlkOk X.N X.env.scope scope own)
    (hg : ∀ (s : Shared) (H : Hp) (C : Addr) (cl : List (Str × Addr)) (fp : List Addr), PG (X.blk s H scope (compEnvC scope cl C X.env) fp) tg g) (ht : ∀ (s : Shared) (H : Hp) (C : Addr) (cl : List (Str × Addr)) (fp : List Addr), PTs (X.blk s H scope (compEnvC scope cl C X.env) fp) ifs tt)
    (he : ∀ (s : Shared) (H : Hp) (C : Addr) (cl : List (Str × Addr)) (fp : List Addr), PE (X.blk s H scope (compEnvC scope cl C X.env) fp) elt te) (hs : ∀ x, foldedSetIterable iter X.env x = pure x)
    (h : tLc wi g tt te (own.map (·.2)) σ H Q)
    (hRR : ∀ D C s' m H', Inv X pins σ H' s' → Q (.ref D) H' → s'.heap.Ns C m → FpOk X pins H' C → compPost (model X.prog X.w) X.A X.xe use Qf (.ref D) C (.ok .next) s') :
    wpAny (model X.prog X.w) X.A (comprehension (.ListComp elt [⟨tg, iter, ifs, 0⟩] scope pos) scope X.env pos' (newList []) false (eval iter X.env) use) Qf X.xe s := by
  have hfree : ∀ y ∈ scope.names, y.2 = .free → ∃ c, X.env.cells.lookup y.1 = some c := fun y hy e => by
    rcases ok.free y hy e with k | k
    · exact I.ok.has _ (.inl k)
    · exact I.ok.has _ (.inr k)
  refine wpAny_comprehension_free (use := use) rfl hs (closure_ok hfree) ok.kind (fun y hy e => by rw [ok.uniq y hy, e])
    (thn (hi.run pins s σ H _ I h) fun xv s1 hx => thn hx fun itv s2 h2 => ?_)
  obtain ⟨it, fp, tn, J, H2, e, I2, T, st2, f2, q⟩ := h2
  subst e
  refine wpAny_newObj_type (newEnv_comp ?_) (by show 0 ≤ sizeLine; decide)
  generalize hD : s2.heap.objs.size = D
  have hDn : H2 D = none := I2.hok.fresh (Nat.le_of_eq hD)
  obtain ⟨W, ⟨m0, w0⟩, turn⟩ := q D hDn
  -- the new list
  generalize hs3 : ({ s2 with heap := s2.heap.push { cls := .type "list", data := .seq ([] : List Value).toArray } } : Shared) = s3
  have I3 : Inv X pins σ (upd H2 D (.lst [])) s3 := by
    rw [← hs3]
    refine I2.laid (t' := s2.toks) (fun b o e => Heap.get?_push_of_some _ e) (Nat.le_of_eq hD) ⟨Nat.zero_le _, [], 0, .nil, ?_⟩
    rw [← hD]
    exact Heap.get?_push_size _ rfl
  have h3 : s3.heap = s2.heap.push { cls := .type "list", data := .seq ([] : List Value).toArray } := by rw [← hs3]
  have sz : ∀ b ∈ fp, b < s2.heap.objs.size := fun b hb => by
    obtain ⟨o, e, _⟩ := T.obj _ _ st2 b hb
    exact Heap.lt_size e
  have f3 : ∀ b ∈ fp, FpOk X pins (upd H2 D (.lst [])) b ∧ b < s3.heap.objs.size := fun b hb => by
    have hlt := sz b hb
    refine ⟨⟨?_, (f2 b hb).2⟩, by rw [h3, Heap.size_push]; exact Nat.lt_succ_of_lt hlt⟩
    rw [upd_ne (by rw [← hD]; exact Nat.ne_of_lt hlt)]
    exact (f2 b hb).1
  have st3 : tn 0 s3.heap := T.keep _ _ _ st2 fun b _ o e => by rw [h3]; exact Heap.get?_push_of_some _ e
  have I4 := block_start I3 ok hN f3
  have pg := hg s3 (upd H2 D (.lst [])) s3.heap.objs.size (cellsFrom (s3.heap.objs.size + 1) scope.names (cloFrom X.env.cells scope.names [])) fp
  have pt := ht s3 (upd H2 D (.lst [])) s3.heap.objs.size (cellsFrom (s3.heap.objs.size + 1) scope.names (cloFrom X.env.cells scope.names [])) fp
  have pe := he s3 (upd H2 D (.lst [])) s3.heap.objs.size (cellsFrom (s3.heap.objs.size + 1) scope.names (cloFrom X.env.cells scope.names [])) fp
  show codeAny _ _ (.compStart (.ListComp elt [⟨tg, iter, ifs, 0⟩] scope pos) 0 (.ref it) (.ref D) (compEnvC scope (cellsFrom (s3.heap.objs.size + 1) scope.names (cloFrom X.env.cells scope.names [])) s3.heap.objs.size X.env)) (compPost (model X.prog X.w) X.A X.xe use Qf (.ref D) s3.heap.objs.size) { s3 with heap := pushCells (s3.heap.push { cls := .type "dict", data := .dict #[] }) scope.names }
  have nfp : ∀ b ∈ fp, (upd H2 D (.lst [])) b = none := fun b hb => (f3 b hb).1.1
  generalize hce : compEnvC scope (cellsFrom (s3.heap.objs.size + 1) scope.names (cloFrom X.env.cells scope.names [])) s3.heap.objs.size X.env = ce at I4 pg pt pe ⊢
  obtain ⟨p, hot1, hp⟩ := hc
  have cL : ce.locals = s3.heap.objs.size := by subst hce; rfl
  generalize hH3 : upd H2 D (.lst []) = H3 at I3 I4 pg pt pe w0 nfp f3
  generalize hs4 : ({ s3 with heap := pushCells (s3.heap.push { cls := .type "dict", data := .dict #[] }) scope.names } : Shared) = s4 at I4 ⊢
  have I4 : Inv (X.blk s3 H3 scope ce fp) [p] (wipe σ (own.map (·.2))) H3 s4 := I4.pins_of fun q hq => by
    have eq : q = p := List.mem_singleton.mp hq
    subst eq
    obtain ⟨g, n, nl, nf, nc⟩ := I3.pin q (List.mem_append_left _ hp)
    refine ⟨by rw [← hs4]; exact pushCells_keeps _ _ _ _ (Heap.get?_push_of_some _ g), n, fun z => ?_, fun z => ?_, nc⟩
    · have lt := Heap.lt_size g
      rw [z] at lt
      exact absurd (show ce.locals < s3.heap.objs.size from lt) (by rw [cL]; exact Nat.lt_irrefl _)
    · rcases List.mem_cons.mp (I3.stkSub _ z) with z | z
      · exact nl z
      · exact nf z
  have hot : ∀ {σ' : L2.St} {H' : Hp} {s' : Shared}, Inv (X.blk s3 H3 scope ce fp) [p] σ' H' s' → HotAt X.A p.1 s'.heap := fun {σ' H' s'} I' => by
    obtain ⟨hh, vs, d, c⟩ := hot1
    exact ⟨hh, p.2, vs, (I'.pin p (by simp)).1, d, c⟩
  have st4 : tn 0 s4.heap := T.keep _ _ _ st3 fun b _ o e => by rw [← hs4]; exact pushCells_keeps _ _ _ _ (Heap.get?_push_of_some _ e)
  have stat : ∀ {σ' : L2.St} {H' : Hp} {s' : Shared}, Inv (X.blk s3 H3 scope ce fp) [p] σ' H' s' → (∀ b ∈ fp, H' b = none) → ∀ b ∈ fp, FpOk (X.blk s3 H3 scope ce fp) [p] H' b := fun {σ' H' s'} I' hn b hb =>
    ⟨hn b hb, (I'.ok.exf b hb).1, I'.ok.exfs b hb, .inl hb, fun x c e => (I'.ok.exf b hb).2 x c e, fun q hq => by
      have e : q = p := List.mem_singleton.mp hq
      rw [e]
      exact (f3 b hb).1.2.2.2.2.2 p (List.mem_append_left _ hp)⟩
  have loop : codeAny (model X.prog X.w) X.A (.compLoop (.ListComp elt [⟨tg, iter, ifs, 0⟩] scope pos) 0 (.ref it) (.ref D) ce) (compPost (model X.prog X.w) X.A X.xe use Qf (.ref D) s3.heap.objs.size) s4 := by
    refine compLoop_any (fun n s' => ∃ i H', Inv (X.blk s3 H3 scope ce fp) [p] (wipe σ (own.map (·.2))) H' s' ∧ tn i s'.heap ∧ (∀ b ∈ fp, H' b = none) ∧ W i n H') ?_ m0 ⟨0, H3, I4, st4, nfp, w0⟩
    rintro n s5 ⟨i, H5, I5, st5, n5, w5⟩
    rcases turn i n H5 w5 with ⟨stop, qq⟩ | ⟨go, Nx, hNx, step⟩
    · have td := T.done (X.blk s3 H3 scope ce fp) rfl rfl rfl p.1 i [p] s5 _ H5 (fun _ _ => False) I5 (hot I5) (fun b hb => (f3 b hb).1.2.2.2.2.2 p (List.mem_append_left _ hp)) (stat I5 n5) st5 stop
      refine thnF td fun r s6 ⟨hr, I6⟩ => ?_
      subst hr
      -- back in the def's context
      have I7 : Inv X pins σ H5 s6 := I3.call' (ch := fp) I6.os I6.base I6.hok I6.bare fun b hb => ⟨(f3 b hb).1.2.2.2.1, (f3 b hb).1.2.1, (f3 b hb).1.2.2.2.2.1, (f3 b hb).1.2.2.2.2.2⟩
      have nC : H5 s3.heap.objs.size = none := by
        have z : H5 ce.locals = none := I6.free
        rw [cL] at z
        exact z
      obtain ⟨m, hn, _⟩ := I6.loc
      have hn : s6.heap.Ns ce.locals m := hn
      rw [cL] at hn
      exact hRR D s3.heap.objs.size s6 m H5 I7 qq hn (I3.fpOk (Nat.le_refl _) nC)
    · have ti := T.item (X.blk s3 H3 scope ce fp) rfl rfl rfl i [p] s5 _ H5 (fun _ _ => False) I5 (stat I5 n5) st5 go
      refine thnF ti fun r s6 ⟨u, hr, h6⟩ => ?_
      subst hr
      refine thnF h6 fun _ s7 ⟨x, H7, I7, r7, y7, st7, n7⟩ => ?_
      have I7' := I7.pinned (stat I7 n7) (T.obj _ _ st7)
      refine thnF (pg.run _ s7 _ H7 x u _ I7' r7 (step x H7 y7)) fun _ s8 ⟨σ8, H8, I8, hw8, q8⟩ => ?_
      refine thnF (pt.run _ s8 σ8 H8 _ I8 q8) fun b s9 ⟨H9, I9, q9⟩ => ?_
      -- the turn's end
      have fin : ∀ {s' : Shared} {H' : Hp}, Inv (X.blk s3 H3 scope ce fp) ([p] ++ pinsAt fp s7.heap) σ8 H' s' → Nx H' → ∃ m, m < n ∧ ∃ i H', Inv (X.blk s3 H3 scope ce fp) [p] (wipe σ (own.map (·.2))) H' s' ∧ tn i s'.heap ∧ (∀ b ∈ fp, H' b = none) ∧ W i m H' := fun {s' H'} I' nx => by
        obtain ⟨m', hm, w'⟩ := hNx H' nx
        have pin' : ∀ b ∈ fp, ∀ o, s7.heap.get? b = some o → s'.heap.get? b = some o ∧ H' b = none := fun b hb o e =>
          let z := I'.pin (b, o) (List.mem_append_right _ (List.mem_append_right _ (mem_pinsAt hb e)))
          ⟨z.1, z.2.1⟩
        have hl : (wipe σ (own.map (·.2))).length = σ8.length := by rw [← hw8, wipe_length]
        refine ⟨m', hm, i + 1, H', (I'.unpinned (pins := [p])).weak hl (fun j v e => ?_), T.keep _ _ _ st7 fun b hb o e => (pin' b hb o e).1, fun b hb => ?_, w'⟩
        · rw [← hw8] at e
          exact (wipe_some e).1
        · obtain ⟨o, e, _⟩ := T.obj _ _ st7 b hb
          exact (pin' b hb o e).2
      cases b with
      | false =>
        simp only [Bool.false_eq_true, if_false] at q9 ⊢
        exact fin I9 q9
      | true =>
        simp only [if_true] at q9 ⊢
        refine thnF (pe.run _ s9 σ8 H9 _ I9 q9) fun z s10 ⟨yv, H10, I10, r10, acc, hD10, hz10, nx⟩ => ?_
        exact app_ok (X := X.blk s3 H3 scope ce fp) I10 hD10 hz10 r10 fun s11 I11 => fin I11 nx
  exact codeAny_compStart_list loop (T.self X.A 0 _ _ _ st4 loop)
theorem pe_lcW {elt tg iter : Expr} {ifs : List Expr} {scope : Scope} {own : List (Str × Nat)} {pos : Pos} {wi : TI} {g : TG} {tt : TT} {te : TE} (hc : L2H.HotC X) (hN : X.N.Nodup) (hi : PIW X tg iter wi) (ok : BlkOk X.N X.env.scope scope own)
    (hg : ∀ (s : Shared) (H : Hp) (C : Addr) (cl : List (Str × Addr)) (fp : List Addr), PG (X.blk s H scope (compEnvC scope cl C X.env) fp) tg g) (ht : ∀ (s : Shared) (H : Hp) (C : Addr) (cl : List (Str × Addr)) (fp : List Addr), PTs (X.blk s H scope (compEnvC scope cl C X.env) fp) ifs tt)
    (he : ∀ (s : Shared) (H : Hp) (C : Addr) (cl : List (Str × Addr)) (fp : List Addr), PE (X.blk s H scope (compEnvC scope cl C X.env) fp) elt te) (hs : ∀ x, foldedSetIterable iter X.env x = pure x := by intro _; rfl) :
    PE X (.ListComp elt [⟨tg, iter, ifs, 0⟩] scope pos) (tLc wi g tt te (own.map (·.2))) := by
  refine ⟨fun pins s σ H Q I h => ?_⟩
  rw [eval_ListComp]
  refine lc_coreW hc hN I hi ok hg ht he hs h fun D C s' m H' I' q hn f => ⟨m, hn, fun h'' sb => ?_⟩
  obtain ⟨f0, f1, f2, f3, f4, f5⟩ := f
  exact ⟨.ref D, H', I'.turned (t' := s'.toks) (fun b o hb e => (sb.2 b hb).trans e) f0 f1 f3 f4 f5, rfl, q⟩
end
end Hw

set_option Elab.async false
set_option linter.all false
set_option maxRecDepth 100000
set_option maxHeartbeats 4000000
namespace Hw
open PySem PySem.Spec L2 PyProof PyProof.Rows
/-- within an except suite the exception is handled -/
theorem hot_suite {X : Cx} {a : Addr} {oe : Obj} {pn : List (Addr × Obj)} {cls : Value} {d : Option Addr} (hz : L2N.Zn cls d oe) (hf : ∃ vs, oe.data = .fields vs) : L2H.HotC (X.suite a ((a, oe) :: pn)) := by
  obtain ⟨vs, e⟩ := hf
  exact ⟨(a, oe), ⟨rfl, vs, e, hz.2.2 vs e⟩, List.mem_cons_self⟩
section
open PySem.W PySem.Calls
variable {prog : Program} {w : World} {A : Around} {E : Value → Shared → Prop} {s : Shared} {K : Frag} {x D : Addr} {ox : Obj}
/-- the class of a caught error that has fields -/
theorem classOf_caught {od : Obj} {Q : Option Value → Shared → Prop} (hga : findIn K (.ref D) "__getattribute__" = some (some (.builtin "BaseException.__getattribute__"))) (hgt : findIn K (.ref D) "__getattr__" = some none) (hsub : subIn K (.ref D) (.type "BaseException") = some true)
    (hdct : hasDictIn K D = true) (ha : findIn K (.ref D) "__class__" = some (some (.builtin "object.__class__")))
    (hn : specialIn K (.builtin "object.__class__") "__get__" = some (some (.builtin "getset_descriptor.__get__"))) (htk : takesIn K (.builtin "object.__class__") = some true) (hm : mroIn K D (.type "object") = some true)
    (X : K.In s.heap) (I : InstAt s.heap x ox D (some od)) (h : Q (some (.ref D)) { s with toks := s.toks + 1 }) : wpAny (model prog w) A (getAttr? (.ref x) "__class__") Q E s := by
  have hf : findObj K D (some od) "__class__" = some (.bind (.builtin "getset_descriptor.__get__") (.builtin "object.__class__")) := findObj_data (by obtain ⟨cd, hc, _⟩ := any_some hdct; rw [hc]; rfl) ha hn htk
  obtain ⟨hp, g, d, t, os⟩ := s
  have L0 := I.type (M := model prog w)
  have L1 := looks_findIn (M := model prog w) X hga
  have L2 := looks_findIn (M := model prog w) X hgt
  have L3 := looks_find (M := model prog w) X I hf
  have sub : Looks (model prog w) hp (isInstance (.ref x) (.type "BaseException")) true := L0.andThen (looks_subIn X hsub)
  have hx0 : (false && onTheHeap (Value.builtin "BaseException.__getattribute__")) = false := rfl
  have hx2 : (Value.builtin "BaseException.__getattribute__" == Value.builtin "object.__getattribute__") = false := by decide +kernel
  have hx1 : (onTheHeap (Value.ref D) && Value.builtin "BaseException.__getattribute__" == Value.builtin "object.__getattribute__") = false := by rw [hx2]; rfl
  unfold getAttr? getAttrBy? getAttrBy
  refine wpAny_bind (wpAny_mkText (wpAny_bind (wpAny_attempt (wpAny_holding (wpAny_bind (L0.at (wpAny_bind (L1.at ?_))))))))
  show wpAny _ _ (if (onTheHeap (Value.ref D) && Value.builtin "BaseException.__getattribute__" == Value.builtin "object.__getattribute__") = true then _ else _) _ _ _
  rw [hx1, if_neg Bool.false_ne_true]
  unfold getAttrByItsOwn hookBefore
  refine wpAny_bind ?_
  rw [if_pos (show onTheHeap (Value.ref D) = true from rfl)]
  refine L2.at ?_
  refine wpAny_bind (wpAny_attempt (wpAny_holding ?_))
  unfold callGetattribute
  rw [hx0, if_neg Bool.false_ne_true]
  unfold boundAndCalled
  rw [PySem.F.excAttr_ValueError.ga.bind (.ref x)]
  refine wpAny_bind (wpAny_pure ?_)
  show wpAny _ _ (call (.builtin "BaseException.__getattribute__") [.ref x, .str "__class__" t]) _ _ _
  refine wpAny_call (codeAny_call_builtin PySem.F.excAttr_ValueError.ga.plain PySem.F.entry_bexc_ga ?_)
  refine @check_slot (model prog w) _ _ ⟨hp, g, d, t + 1, os⟩ "BaseException.__getattribute__" "BaseException" "__getattribute__" (.ref x) [.str "__class__" t] [] _ (by decide +kernel) (by decide +kernel) sub (PySem.F.args_bexc_ga (.ref x) (.str "__class__" t)) ?_
  unfold Builtin.«object.__getattribute__»
  refine wpAny_bind (wpAny_of_eq (a := ((Value.ref x : Value), [Value.str "__class__" t])) (by first | rfl | (simp only [slotArgs]; rfl)) ?_)
  refine wpAny_bind (wpAny_pure (wpAny_bind (L0.at (wpAny_bind (L3.at ?_)))))
  show wpAny _ _ (holding [Value.builtin "object.__class__"] (call (.builtin "getset_descriptor.__get__") [.builtin "object.__class__", .ref x, .ref D]) >>= ret) _ _ _
  refine wpAny_bind (wpAny_holding (wpAny_call (class_get (s := ⟨hp, g, d, t + 1, os⟩) (ox := ox) (od := some od) X I hm ?_)))
  refine wpAny_pure ?_
  show wpAny _ _ (handedOut (.ref D)) _ _ _
  rw [handedOut_of (v := .ref D) rfl]
  first
    | exact wpAny_pure (wpAny_pure h)
    | exact wpAny_pure h
    | exact wpAny_pure (wpAny_bind (wpAny_pure (wpAny_pure h)))
/-- what isinstance asks of it -/
theorem kitx_caught (C : ExcC K D) {od : Obj} : KitX K (.ref x) (.ref D) (fun h => InstAt h x ox D (some od)) where
  ty := fun _ _ _ I => I.type
  it := fun M h X _ => by
    obtain ⟨cd, hc, _⟩ := any_some C.hd
    unfold clsIn at hc
    split at hc
    · rename_i _ _ _ _ ho
      exact fun A Q E s k q => by
        unfold isType loadHead
        exact wpAny_bind (wpAny_loadPart (k _ _ (X _ _ ho)) (wpAny_pure q))
    · cases hc
  ne := fun h tp dd its n sl X htp => (handS_kitx_exc (x := x) (ox := ox) C.hg C.hk C.hs C.hd C.ha C.hn C.ht C.hm).ne h tp dd its n sl X htp
  ca := fun X I k => classOf_caught C.hg C.hk C.hs C.hd C.ha C.hn C.ht C.hm X I k
end
/-- isinstance(e, c), e the caught error with the fields at dd -/
def rIsD (K : PySem.W.Frag) (D a dd : Addr) : List V → Hp → VK → Prop := fun xs H Q => ∃ (c : V) (cv : Value) (b : Bool) (fs : List (Str × V)), xs = [.ref a, c] ∧ (∀ u, RelV c u → u = cv) ∧ H dd = some (.xd fs) ∧ PySem.W.kitOne K (.ref D) cv = some b ∧ Q (.bl b) H
theorem call_isD {X : Cx} {a D dd : Addr} {oe : Obj} {pn : List (Addr × Obj)} (C : ExcC X.K D) (hz : Zc (.ref D) (some dd) oe) (hf : ∃ vs, oe.data = .fields vs) : CallR (X.suite a ((a, oe) :: pn)) (.builtin "isinstance") (rIsD X.K D a dd) := by
  intro pins s σ H xs us Q I r h
  obtain ⟨c, cv, b, fs, rfl, hcv, hdd, e, q⟩ := h
  cases r with
  | cons rx rr =>
    cases rr with
    | cons rt rr =>
      cases rr
      cases rx
      have ec := hcv _ rt
      subst ec
      have hget := (I.pin (a, oe) (List.mem_append_left _ List.mem_cons_self)).1
      obtain ⟨vs, hv⟩ := hf
      have hx : ObjOk X.prog X.w H s.heap dd (.xd fs) := I.hok dd _ hdd
      obtain ⟨mA, hns, _⟩ := hx
      obtain ⟨od, ho, _⟩ := lookIn_ns hns
      have J : PySem.W.InstAt s.heap a oe D (some od) := ⟨hget, hz.1, by unfold PySem.W.notCls; rw [hv] <;> rfl, by rw [hz.2]; exact ho⟩
      exact PySem.W.kia_one (kitx_caught C) I.kIn J e (fun z => nomatch z) fun tk => ⟨.bl b, H, I.kept (t' := tk) fun _ _ z => z, rfl, q⟩
/-- isinstance(caught, c): the name of the except clause, a class of the module -/
theorem pe_isD {X : Cx} {a D C dd : Addr} {oe : Obj} {pn : List (Addr × Obj)} {i : Nat} {n c : Str} {p1 p2 p3 p4 : Pos} (hC : ExcC X.K D) (hz : Zc (.ref D) (some dd) oe) (hf : ∃ vs, oe.data = .fields vs) (hgi : Gl X "isinstance") (hmi : X.mg "isinstance" = none)
    (hN : X.N[i]? = some n) (hv : Vis X.env.scope n) (hgc : Gl X c) (hmc : X.mg c = some (.ref C)) (hd : (n == ("__debug__" : Str)) = false := by decide) (hcd : (n == ("__classdict__" : Str)) = false := by decide) (hdc : (c == ("__debug__" : Str)) = false := by decide) :
    PE (X.suite a ((a, oe) :: pn)) (.Call (.Name "isinstance" p1) [.Name n p2, .Name c p3] [] p4) (fun σ H Q => σ[i]? = some (some (.ref a)) ∧ (∃ fs, H dd = some (.xd fs)) ∧ ∃ b, PySem.W.kitOne X.K (.ref D) (.ref C) = some b ∧ Q (.bl b) H) := by
  have h := pe_callB (X := X.suite a ((a, oe) :: pn)) (p := p1) (pos := p4) (call_isD (pn := pn) hC hz hf) hgi hmi (by rfl) (pa_cons (pe_var (X := X.suite a ((a, oe) :: pn)) (pos := p2) (i := i) hN hv hd hcd) (pa_cons (pe_glob (X := X.suite a ((a, oe) :: pn)) (pos := p3) (v := .ref C) hgc hmc rfl hdc) pa_nil))
  refine ⟨fun pins s σ H Q I hh => h.run pins s σ H Q I ?_⟩
  obtain ⟨h1, ⟨fs, h2⟩, b, h3, h4⟩ := hh
  exact ⟨.ref a, h1, .ref C, .ref C, b, fs, rfl, fun u r => r, h2, h3, h4⟩
end Hw

set_option Elab.async false
set_option linter.all false
set_option maxRecDepth 100000
set_option maxHeartbeats 4000000
namespace Hw
open PySem PySem.Spec L2 PyProof PyProof.Rows
def isYes : V → Bool
  | .bl b => b
  | _ => false
/-- the keys with True -/
def yesOf (kvs : List (Key × V)) : List V := (kvs.filter fun kv => isYes kv.2).map fun kv => kV kv.1
theorem valV_at' : ∀ {kvs : List (Key × V)} {k : Key} {v : V}, (kvs.map (·.1)).Nodup → (k, v) ∈ kvs → valV kvs k = some v
  | [], _, _, _, h => by cases h
  | (k0, v0) :: r, k, v, nd, h => by
    have nd' := List.nodup_cons.mp (show (k0 :: r.map (·.1)).Nodup from nd)
    unfold valV
    rw [List.find?_cons]
    by_cases e : k0 = k
    · subst e
      rcases List.mem_cons.mp h with z | z
      · cases z; simp
      · exact absurd (List.mem_map.mpr ⟨_, z, rfl⟩) nd'.1
    · rw [show decide ((k0, v0).1 = k) = false from decide_eq_false e]
      rcases List.mem_cons.mp h with z | z
      · cases z; exact absurd rfl e
      · exact valV_at' nd'.2 z
theorem upd_back {H : Hp} {d D : Addr} {a l u : HO} (hd : H d = some u) (hD : H D = none) : upd (upd (upd H d a) D l) d u = upd H D l := by
  have ne : D ≠ d := fun z => by rw [z, hd] at hD; cases hD
  funext b
  by_cases h1 : b = d
  · subst h1; rw [upd_same, upd_ne (Ne.symm ne)]; exact hd.symm
  · rw [upd_ne h1]
    by_cases h2 : b = D
    · subst h2; rw [upd_same, upd_same]
    · rw [upd_ne h2, upd_ne h1, upd_ne h2]
/-- the words of the dict whose value is True, also within an except suite -/
theorem pe_yesWords {X : Cx} {i j : Nat} {w ws : Str} {scope : Scope} {p1 p2 p3 p4 p5 p6 pos : Pos} (hc : L2H.HotC X) (hN : X.N.Nodup) (hu : X.A.units + 1 < cLine) (hws : X.N[i]? = some ws) (hw : X.N[j]? = some w) (hij : i ≠ j)
    (ok : BlkOk X.N X.env.scope scope [(w, j)]) (hvX : Vis X.env.scope ws) (hv : ∀ (C : Addr) (cl : List (Str × Addr)), Vis (compEnvC scope cl C X.env).scope ws) (hl : ∀ (C : Addr) (cl : List (Str × Addr)), (compEnvC scope cl C X.env).scope.names.lookup w = some .local)
    (hd : (ws == ("__debug__" : Str)) = false := by decide) (hcd : (ws == ("__classdict__" : Str)) = false := by decide) (hd' : (w == ("__debug__" : Str)) = false := by decide) (hcd' : (w == ("__classdict__" : Str)) = false := by decide) :
    PE X (.ListComp (.Name w p1) [⟨.Name w p2, .Name ws p3, [.Subscript (.Name ws p4) (.Name w p5) p6], 0⟩] scope pos) (fun σ H Q => ∃ d kvs, σ[i]? = some (some (.ref d)) ∧ H d = some (.dK kvs) ∧ (∀ kv ∈ kvs, ∃ b, kv.2 = V.bl b) ∧ (kvs.map (·.1)).Nodup ∧ kvs.length ≤ 100 ∧
      ∀ D, H D = none → Q (.ref D) (upd H D (.lst (yesOf kvs)))) := by
  refine ⟨fun pins s σ H Q I h => ?_⟩
  obtain ⟨d, kvs, hs, hH, hb, nd, few, q⟩ := h
  have hj : j < σ.length := by
    rw [I.len]
    obtain ⟨z, _⟩ := List.getElem?_eq_some_iff.mp hw
    exact z
  refine (pe_lock (pe_lcW (own := [(w, j)]) (g := gName j) (tt := tB (tDGet (tVar i) (tVar j))) (te := tVar j) hc hN (pi_keysW (pe_var hws hvX hd hcd)) ok
    (fun _ _ C cl _ => pg_name hN hw (.inl (hl C cl)) (.inr (hl C cl)))
    (fun _ _ C cl _ => pts_one (pt_val (pe_dget hu (pe_var hws (hv C cl) hd hcd) (pe_var hw (.inl (hl C cl)) hd' hcd') (fun _ _ => rfl))))
    (fun _ _ C cl _ => pe_var hw (.inl (hl C cl)) hd' hcd'))).run pins s σ H Q I ?_
  refine ⟨d, .dK kvs, hH, trivial, fun od => ?_⟩
  refine ⟨.ref d, hs, d, od, kvs, rfl, upd_same, fun D nD => ?_⟩
  have neD : D ≠ d := fun z => by rw [z, upd_same] at nD; cases nD
  have nD1 : H D = none := by rw [upd_ne neD] at nD; exact nD
  refine lc_it (n := kvs.length) walk_keys (fun n H' => H' = upd (upd H d (.frz od (.dK kvs))) D (.lst (yesOf (kvs.take n)))) rfl (fun n H' _ e => ?_) (fun n x H3 H2 hn e y => ?_) (fun H' e => ?_)
  · rw [e, upd_ne (Ne.symm neD)]; exact upd_same
  · obtain ⟨rfl, k, v, hk, rfl⟩ := y
    obtain ⟨b, hbv⟩ := hb _ (List.mem_of_getElem? hk)
    have hbv : v = V.bl b := hbv
    subst hbv
    have e1 : wipe σ (List.map (fun x => x.2) [(w, j)]) = σ.set j none := rfl
    rw [e1]
    show (wipe ((σ.set j none).set j (some (kV k))) [j] = _) ∧ _
    rw [List.set_set]
    have s1 : (σ.set j (some (kV k)))[i]? = some (some (V.ref d)) := by rw [List.getElem?_set_ne (Ne.symm hij)]; exact hs
    have s2 : (σ.set j (some (kV k)))[j]? = some (some (kV k)) := List.getElem?_set_self hj
    refine ⟨by show (σ.set j (some (kV k))).set j none = _; rw [List.set_set], ?_⟩
    have hdd : H2 d = some (.frz od (.dK kvs)) := by rw [e, upd_ne (Ne.symm neD)]; exact upd_same
    have hvl := valV_at' nd (List.mem_of_getElem? hk)
    have tk : kvs.take (n + 1) = kvs.take n ++ [(k, V.bl b)] := by rw [List.take_add_one, hk]; rfl
    refine ⟨.ref d, s1, kV k, s2, d, V.bl b, rfl, .inl ⟨kvs, k, .inr ⟨od, hdd⟩, rfl, hvl.symm⟩, b, rfl, ?_⟩
    cases b with
    | false =>
      rw [if_neg Bool.false_ne_true]
      show H2 = _
      rw [e, tk]
      unfold yesOf
      rw [List.filter_append]
      simp [isYes]
    | true =>
      rw [if_pos rfl]
      refine ⟨kV k, s2, yesOf (kvs.take n), by rw [e]; exact upd_same, ?_, ?_⟩
      · have h1 : (yesOf (kvs.take n)).length ≤ kvs.length := by
          unfold yesOf
          rw [List.length_map]
          exact Nat.le_trans (List.length_filter_le _ _) (by rw [List.length_take]; exact Nat.min_le_right _ _)
        have h2 : (100 : Nat) < sizeLine := by decide
        omega
      · rw [e, upd_upd, tk]
        unfold yesOf
        rw [List.filter_append, List.map_append]
        rfl
  · rw [e, List.take_length]
    refine ⟨by rw [upd_ne (Ne.symm neD)]; exact upd_same, ?_⟩
    rw [upd_back hH nD1]
    exact q D nD1
end Hw

set_option Elab.async false
set_option linter.all false
set_option maxRecDepth 100000
set_option maxHeartbeats 4000000
namespace Hw
open PySem PySem.Spec L2 PyProof PyProof.Rows
/-- the first word whose mark is True -/
def pick3 (w1 w2 w3 other : Str) (b1 b2 b3 : Bool) : Str := if b1 then w1 else if b2 then w2 else if b3 then w3 else other
/-- words = {w1: isinstance(caught, c1), w2: isinstance(caught, c2)}; words[w3] = ..; return (([word for word in words if words[word]] + [other])[0], caught.value) -/
theorem pss_words3 {X : Cx} {a Dc dd C1 C2 C3 : Addr} {oe : Obj} {pn : List (Addr × Obj)} {w1 w2 w3 other c1 c2 c3 : Str} {scope : Scope} {j1 j2 j3 j4 j5 kk : Nat} {q1 q2 q3 q4 q5 q6 q7 q8 q9 q10 r1 r2 r3 r4 r5 r6 r7 r8 r9 r10 r11 r12 s1 s2 s3 s4 s5 s6 s7 s8 s9 s10 s11 s12 s13 s14 s15 : Pos}
    (hC : ExcC X.K Dc) (hz : L2N.Zn (.ref Dc) (some dd) oe) (hf : ∃ vs, oe.data = .fields vs) (T : XfC X.K Dc) (hno : PySem.W.findIn X.K (.ref Dc) "value" = some none) (hu : X.A.units + 1 < cLine) (hNN : X.N = [("call" : Str), ("caught" : Str), ("words" : Str), ("word" : Str)])
    (hgi : Gl X "isinstance") (hmi : X.mg "isinstance" = none) (g1 : Gl X c1) (m1 : X.mg c1 = some (.ref C1)) (g2 : Gl X c2) (m2 : X.mg c2 = some (.ref C2)) (g3 : Gl X c3) (m3 : X.mg c3 = some (.ref C3)) (d1 : (c1 == ("__debug__" : Str)) = false) (d2 : (c2 == ("__debug__" : Str)) = false) (d3 : (c3 == ("__debug__" : Str)) = false)
    (vc : Vis X.env.scope "caught") (vw : X.env.scope.names.lookup ("words" : Str) = some .cell) (fw : X.fn "words" = true) (n12 : w1 ≠ w2) (n13 : w1 ≠ w3) (n23 : w2 ≠ w3)
    (ok : BlkOk ["call", "caught", "words", "word"] X.env.scope scope [("word", 3)]) (hv : ∀ (C : Addr) (cl : List (Str × Addr)), Vis (compEnvC scope cl C X.env).scope "words") (hl : ∀ (C : Addr) (cl : List (Str × Addr)), (compEnvC scope cl C X.env).scope.names.lookup ("word" : Str) = some .local) :
    PSs (X.suite a ((a, oe) :: pn))
      [.Assign [.Name "words" q1] (.Dict [some (.Constant (.str w1) j1 q2), some (.Constant (.str w2) j2 q3)] [.Call (.Name "isinstance" r1) [.Name "caught" r2, .Name c1 r3] [] r4, .Call (.Name "isinstance" r5) [.Name "caught" r6, .Name c2 r7] [] r8] q4) q5,
       .Assign [.Subscript (.Name "words" q6) (.Constant (.str w3) j3 q7) q8] (.Call (.Name "isinstance" r9) [.Name "caught" r10, .Name c3 r11] [] r12) q9,
       .Return (some (.Tuple [.Subscript (.BinOp (.ListComp (.Name "word" s1) [⟨.Name "word" s2, .Name "words" s3, [.Subscript (.Name "words" s4) (.Name "word" s5) s6], 0⟩] scope s7) .Add (.List [.Constant (.str other) j4 s8] s9) s10) (.Constant (.int 0) j5 s11) s12, .Attribute (.Name "caught" s13) "value" s14] kk s15)) q10]
      (fun D σ H => σ.length = 4 ∧ σ[1]? = some (some (.ref a)) ∧ ∃ (fs : List (Str × V)) (v : V) (b1 b2 b3 : Bool), H dd = some (.xd fs) ∧ fs.lookup ("value" : Str) = some v ∧ PySem.W.kitOne X.K (.ref Dc) (.ref C1) = some b1 ∧ PySem.W.kitOne X.K (.ref Dc) (.ref C2) = some b2 ∧ PySem.W.kitOne X.K (.ref Dc) (.ref C3) = some b3 ∧
        ∀ H' tp, (∀ b o, H b = some o → H' b = some o) → H' tp = some (.tup [.str (pick3 w1 w2 w3 other b1 b2 b3), v]) → D.rt (.ref tp) H') := by
  have hN : (X.suite a ((a, oe) :: pn)).N.Nodup := by show X.N.Nodup; rw [hNN]; decide
  have i1 : (X.suite a ((a, oe) :: pn)).N[1]? = some ("caught" : Str) := by show X.N[1]? = _; rw [hNN]; rfl
  have i2 : (X.suite a ((a, oe) :: pn)).N[2]? = some ("words" : Str) := by show X.N[2]? = _; rw [hNN]; rfl
  have i3 : (X.suite a ((a, oe) :: pn)).N[3]? = some ("word" : Str) := by show X.N[3]? = _; rw [hNN]; rfl
  have okX : BlkOk (X.suite a ((a, oe) :: pn)).N X.env.scope scope [("word", 3)] := by show BlkOk X.N _ _ _; rw [hNN]; exact ok
  have pw : PE (X.suite a ((a, oe) :: pn)) (.Name "words" q6) (tVar 2) := pe_var i2 (.inr (.inl vw)) (by decide) (by decide)
  have is1 := pe_isD (X := X) (a := a) (pn := pn) (i := 1) (p1 := r1) (p2 := r2) (p3 := r3) (p4 := r4) hC hz.zc hf hgi hmi i1 vc g1 m1 (by decide) (by decide) d1
  have is2 := pe_isD (X := X) (a := a) (pn := pn) (i := 1) (p1 := r5) (p2 := r6) (p3 := r7) (p4 := r8) hC hz.zc hf hgi hmi i1 vc g2 m2 (by decide) (by decide) d2
  have is3 := pe_isD (X := X) (a := a) (pn := pn) (i := 1) (p1 := r9) (p2 := r10) (p3 := r11) (p4 := r12) hC hz.zc hf hgi hmi i1 vc g3 m3 (by decide) (by decide) d3
  have pd := pe_disp (X := X.suite a ((a, oe) :: pn)) (pos := q4) (pps_cons (pe_str (j := j1) (pos := q2) (x := w1)) is1 (pps_cons (pe_str (j := j2) (pos := q3) (x := w2)) is2 pps_nil)) rfl rfl (by simp) (by show 2 ≤ 15; omega)
  have ps2 := ps_dput (X := X.suite a ((a, oe) :: pn)) (pos' := q8) (pos := q9) hu pw (pe_str (j := j3) (pos := q7) (x := w3)) is3 rfl
  have ps1 := ps_set (X := X.suite a ((a, oe) :: pn)) (i := 2) (pos' := q1) (pos := q5) hN i2 (.inr vw) pd rfl (.inl fw)
  have ylc := pe_yesWords (X := X.suite a ((a, oe) :: pn)) (i := 2) (j := 3) (p1 := s1) (p2 := s2) (p3 := s3) (p4 := s4) (p5 := s5) (p6 := s6) (pos := s7) (hot_suite hz hf) hN hu i2 i3 (by decide) okX (.inr (.inl vw)) hv hl (by decide) (by decide) (by decide) (by decide)
  have pl := pe_ix (X := X.suite a ((a, oe) :: pn)) (pos := s12) ix_list (pe_op (pos := s10) op_cat ylc (pe_lst (pos := s9) (pa_cons (pe_str (j := j4) (pos := s8) (x := other)) pa_nil))) (pe_int (j := j5) (pos := s11) (i := 0)) (fun _ _ => rfl)
  have pf := pe_xf (X := X) (a := a) (pn := pn) (pos := s14) T hno hz.zc hf (pe_var (pos := s13) i1 vc (by decide) (by decide)) rfl
  have ps3 := ps_ret (pos := q10) (pe_tup (x1 := kk) (pos := s15) (pa_cons pl (pa_cons pf pa_nil)))
  refine ⟨fun pins s σ H D I h => (pss_cons ps1 (pss_cons ps2 (pss_one ps3))).run pins s σ H D I ?_⟩
  obtain ⟨hlen, hs, fs, v, b1, b2, b3, hdd, hval, k1, k2, k3, q⟩ := h
  intro p np
  have ndd : dd ≠ p := fun z => by rw [z, np] at hdd; cases hdd
  have hdd1 : upd H p (.dK []) dd = some (.xd fs) := by rw [upd_ne ndd]; exact hdd
  refine ⟨hs, ⟨fs, hdd1⟩, b1, k1, hs, ⟨fs, hdd1⟩, b2, k2, ?_⟩
  refine ⟨upd_same, [(.inr w1, .bl b1), (.inr w2, .bl b2)], rfl, by show 2 ≤ 15; omega, ?_⟩
  have n21 : w2 ≠ w1 := Ne.symm n12
  have em : mergeK [] [((.inr w1 : Key), V.bl b1), (.inr w2, .bl b2)] = [(.inr w1, .bl b1), (.inr w2, .bl b2)] := by
    unfold mergeK
    simp [putK, n12]
  have ep : putK [((.inr w1 : Key), V.bl b1), (.inr w2, .bl b2)] (.inr w3) (.bl b3) = [(.inr w1, .bl b1), (.inr w2, .bl b2), (.inr w3, .bl b3)] := by
    simp [putK, n13, n23]
  rw [em, upd_upd]
  have z1 : (σ.set 2 (some (V.ref p)))[1]? = some (some (V.ref a)) := by rw [List.getElem?_set_ne (by decide)]; exact hs
  have z2 : (σ.set 2 (some (V.ref p)))[2]? = some (some (V.ref p)) := List.getElem?_set_self (by omega)
  have hdd2 : upd H p (.dK [(.inr w1, .bl b1), (.inr w2, .bl b2)]) dd = some (.xd fs) := by rw [upd_ne ndd]; exact hdd
  refine ⟨z1, ⟨fs, hdd2⟩, b3, k3, .ref p, z2, p, _, rfl, .inl ⟨_, .inr w3, upd_same, rfl, by show 2 < sizeLine; decide, rfl⟩, ?_⟩
  rw [ep, upd_upd]
  generalize hH1 : upd H p (.dK [(.inr w1, .bl b1), (.inr w2, .bl b2), (.inr w3, .bl b3)]) = H1
  have hp : H1 p = some (.dK [(.inr w1, .bl b1), (.inr w2, .bl b2), (.inr w3, .bl b3)]) := by rw [← hH1]; exact upd_same
  have same1 : ∀ b o, H b = some o → H1 b = some o := fun b o e => by rw [← hH1, upd_ne (ne_of_none e np)]; exact e
  refine ⟨p, _, z2, hp, fun kv hkv => ?_, by simp [n12, n13, n23], by show 3 ≤ 100; omega, fun L nL => ?_⟩
  · rcases List.mem_cons.mp hkv with z | hkv
    · exact ⟨b1, by rw [z]⟩
    · rcases List.mem_cons.mp hkv with z | hkv
      · exact ⟨b2, by rw [z]⟩
      · exact ⟨b3, by rw [List.mem_singleton.mp hkv]⟩
  generalize hys : yesOf [((.inr w1 : Key), V.bl b1), (.inr w2, .bl b2), (.inr w3, .bl b3)] = ys
  have few : ys.length ≤ 3 := by
    rw [← hys]; unfold yesOf; rw [List.length_map]; exact List.length_filter_le _ _
  have same2 : ∀ b o, H1 b = some o → upd H1 L (.lst ys) b = some o := fun b o e => by rw [upd_ne (ne_of_none e nL)]; exact e
  refine ⟨by show 1 ≤ sizeLine; decide, fun M nM => ?_⟩
  have same3 : ∀ b o, upd H1 L (.lst ys) b = some o → upd (upd H1 L (.lst ys)) M (.lst [.str other]) b = some o := fun b o e => by rw [upd_ne (ne_of_none e nM)]; exact e
  refine ⟨L, M, ys, [.str other], rfl, rfl, same3 _ _ upd_same, upd_same, by have : (100 : Nat) < sizeLine := by decide
                                                                             show ys.length + 1 ≤ _; omega, fun C nC => ?_⟩
  have same4 : ∀ b o, upd (upd H1 L (.lst ys)) M (.lst [.str other]) b = some o → upd (upd (upd H1 L (.lst ys)) M (.lst [.str other])) C (.lst (ys ++ [.str other])) b = some o := fun b o e => by rw [upd_ne (ne_of_none e nC)]; exact e
  have head : atI (ys ++ [V.str other]) 0 = some (V.str (pick3 w1 w2 w3 other b1 b2 b3)) := by
    rw [← hys]
    cases b1 <;> cases b2 <;> cases b3 <;> rfl
  refine ⟨C, _, 0, _, rfl, rfl, .inl (.inl upd_same), head, ?_⟩
  refine ⟨.ref a, z1, rfl, rfl, dd, fs, v, rfl, same4 _ _ (same3 _ _ (same2 _ _ (same1 _ _ hdd))), hval, ?_⟩
  refine ⟨by show 2 ≤ sizeLine; decide, fun tp ntp => ?_⟩
  exact q _ tp (fun b o e => by
    have e4 := same4 _ _ (same3 _ _ (same2 _ _ (same1 _ _ e)))
    rw [upd_ne (ne_of_none e4 ntp)]; exact e4) upd_same
end Hw

set_option Elab.async false
set_option linter.all false
set_option maxRecDepth 100000
set_option maxHeartbeats 4000000
namespace Hw
open PySem PySem.Spec L2 PyProof PyProof.Rows
theorem takes0N {X : Cx} : L2N.Takes X (fun _ _ _ _ => False) := fun _ _ x => by
  obtain ⟨_, _, _, _, _, _, _, _, _, _, _, _, _, _, _, _, z⟩ := x
  exact z.elim
/-- what is known of the error of the package that is caught: its class, its fields -/
structure Caught (K : PySem.W.Frag) (CS : Addr) (cls : Value) (d : Option Addr) (Dc dd : Addr) : Prop where
  cls : cls = .ref Dc
  dict : d = some dd
  heal : PySem.W.exmOne K (.ref Dc) (.ref CS) = some true
  isC : ExcC K Dc
  fld : XfC K Dc
  val : PySem.W.findIn K (.ref Dc) "value" = some none
/-- _law_heard(call): (word, value) of the error of the package, ("", None) without one -/
def spHeard3 (P : Program) (w : World) (K : PySem.W.Frag) (mg : Str → Option Value) (base : Heap) (k : Nat) (CS C1 C2 C3 : Addr) (w1 w2 w3 other : Str) : SpL := fun fs h vs H Q _ =>
  ∃ (a : Addr) (G : Hp → Prop) (tl : XK → Hp → VK → Prop), vs = [.ref a] ∧ Act (L2N.CX P w) P w K mg base k a fs H h G tl ∧ G H ∧
    tl (fun cls d H1 => ∃ (Dc dd : Addr) (fds : List (Str × V)) (v : V) (b1 b2 b3 : Bool), Caught K CS cls d Dc dd ∧ H1 dd = some (.xd fds) ∧ fds.lookup ("value" : Str) = some v ∧ PySem.W.kitOne K (.ref Dc) (.ref C1) = some b1 ∧ PySem.W.kitOne K (.ref Dc) (.ref C2) = some b2 ∧ PySem.W.kitOne K (.ref Dc) (.ref C3) = some b3 ∧
        ∀ H' tp, (∀ b o, H1 b = some o → H' b = some o) → H' tp = some (.tup [.str (pick3 w1 w2 w3 other b1 b2 b3), v]) → Q (.ref tp) H') H
      (fun _ H1 => ∀ H' tp, (∀ b o, H1 b = some o → H' b = some o) → H' tp = some (.tup [.str "", .non]) → Q (.ref tp) H')
theorem heard3_ok {P : Program} {w : World} {K : PySem.W.Frag} {mg : Str → Option Value} {base : Heap} {st : Stmt} {f : Addr} {fd : FuncData} {k : Nat} {qual er : Str} {CS C1 C2 C3 : Addr} {w1 w2 w3 other c1 c2 c3 : Str} {scope : Scope} {j1 j2 j3 j4 j5 j6 j7 kk kk2 : Nat}
    {q1 q2 q3 q4 q5 q6 q7 q8 q9 q10 r1 r2 r3 r4 r5 r6 r7 r8 r9 r10 r11 r12 s1 s2 s3 s4 s5 s6 s7 s8 s9 s10 s11 s12 s13 s14 s15 u1 u2 u3 u4 u5 u6 u7 u8 u9 u10 : Pos}
    (F : L2.Fun K "_law_heard" qual st f fd) (S : FnScope ["call", "caught", "words", "word"] ["call"] (defScope st))
    (hb : defBody st = [.Try [.Expr (.Call (.Name "call" u1) [] [] u2) u3] [.ExceptHandler (some (.Name er u4)) (some "caught")
      [.Assign [.Name "words" q1] (.Dict [some (.Constant (.str w1) j1 q2), some (.Constant (.str w2) j2 q3)] [.Call (.Name "isinstance" r1) [.Name "caught" r2, .Name c1 r3] [] r4, .Call (.Name "isinstance" r5) [.Name "caught" r6, .Name c2 r7] [] r8] q4) q5,
       .Assign [.Subscript (.Name "words" q6) (.Constant (.str w3) j3 q7) q8] (.Call (.Name "isinstance" r9) [.Name "caught" r10, .Name c3 r11] [] r12) q9,
       .Return (some (.Tuple [.Subscript (.BinOp (.ListComp (.Name "word" s1) [⟨.Name "word" s2, .Name "words" s3, [.Subscript (.Name "words" s4) (.Name "word" s5) s6], 0⟩] scope s7) .Add (.List [.Constant (.str other) j4 s8] s9) s10) (.Constant (.int 0) j5 s11) s12, .Attribute (.Name "caught" s13) "value" s14] kk s15)) q10] u5] [] [] u6,
      .Return (some (.Tuple [.Constant (.str "") j6 u7, .Constant .none j7 u8] kk2 u9)) u10])
    (va : (defScope st).names.lookup ("call" : Str) = some .local) (vc : (defScope st).names.lookup ("caught" : Str) = some .local) (vw : (defScope st).names.lookup ("words" : Str) = some .cell)
    (ge : (defScope st).names.lookup er = some .globalImplicit) (gi : (defScope st).names.lookup ("isinstance" : Str) = some .globalImplicit) (g1 : (defScope st).names.lookup c1 = some .globalImplicit) (g2 : (defScope st).names.lookup c2 = some .globalImplicit) (g3 : (defScope st).names.lookup c3 = some .globalImplicit)
    (me : mg er = some (.ref CS)) (mi : mg "isinstance" = none) (m1 : mg c1 = some (.ref C1)) (m2 : mg c2 = some (.ref C2)) (m3 : mg c3 = some (.ref C3))
    (de : (er == ("__debug__" : Str)) = false) (d1 : (c1 == ("__debug__" : Str)) = false) (d2 : (c2 == ("__debug__" : Str)) = false) (d3 : (c3 == ("__debug__" : Str)) = false) (n12 : w1 ≠ w2) (n13 : w1 ≠ w3) (n23 : w2 ≠ w3)
    (ok : BlkOk ["call", "caught", "words", "word"] (defScope st) scope [("word", 3)])
    (hv : ∀ (C : Addr) (cl : List (Str × Addr)) (L : Nat) (cd : Value), Vis (compEnvC scope cl C (envOfC qual (defScope st) L f cd)).scope "words")
    (hl : ∀ (C : Addr) (cl : List (Str × Addr)) (L : Nat) (cd : Value), (compEnvC scope cl C (envOfC qual (defScope st) L f cd)).scope.names.lookup ("word" : Str) = some .local) :
    FnGL P w K mg base CX0 (k + 2) f fd ["call"] (spHeard3 P w K mg base k CS C1 C2 C3 w1 w2 w3 other) := by
  refine funGL F S (fun fs h vs H Q E hh => ?_) (fun cdv A outer s H vs Q E hr hh => ?_)
  · obtain ⟨_, _, _, rfl, _⟩ := hh
    rfl
  · obtain ⟨a, G, tl, rfl, ac, hg, ht⟩ := hh
    rw [hb]
    refine ⟨_, pss_cons (ps_heardN (X := (cxOf CX0 P w K mg base ["call", "caught", "words", "word"] qual (defScope st) f cdv A outer s H E).nox) (i := 1) (j := 0) (c := .ref CS) (Wout := fun _ _ _ _ => False)
        (ts := fun x cls d D σ H1 => ∃ (Dc dd : Addr), Caught K CS cls d Dc dd ∧ (σ.length = 4 ∧ σ[1]? = some (some (.ref x)) ∧ ∃ (fs : List (Str × V)) (v : V) (b1 b2 b3 : Bool), H1 dd = some (.xd fs) ∧ fs.lookup ("value" : Str) = some v ∧ PySem.W.kitOne K (.ref Dc) (.ref C1) = some b1 ∧ PySem.W.kitOne K (.ref Dc) (.ref C2) = some b2 ∧ PySem.W.kitOne K (.ref Dc) (.ref C3) = some b3 ∧
          ∀ H' tp, (∀ b o, H1 b = some o → H' b = some o) → H' tp = some (.tup [.str (pick3 w1 w2 w3 other b1 b2 b3), v]) → D.rt (.ref tp) H'))
        rfl rfl rfl S.nd rfl vc ⟨ge, de, .inl me⟩ takes0N ac hr.r rfl (.inl va) (fun x oe cls d pn hz hf => ?_) (by decide) (by decide))
      (pss_one (ps_ret (pe_tup (pa_cons pe_str (pa_cons pe_non pa_nil))))), ?_⟩
    · refine ⟨fun pins s' σ H1 D I h => ?_⟩
      obtain ⟨Dc, dd, ct, h⟩ := h
      have e1 := ct.cls
      have e2 := ct.dict
      subst e1 e2
      exact (pss_words3 (X := (cxOf CX0 P w K mg base ["call", "caught", "words", "word"] qual (defScope st) f cdv A outer s H E).nox) (pn := pn) ct.isC hz hf ct.fld ct.val (hu_of hr.r) rfl gi mi g1 m1 g2 m2 g3 m3 d1 d2 d3 (.inl vc) vw rfl n12 n13 n23 ok
        (fun C cl => hv C cl _ _) (fun C cl => hl C cl _ _)).run pins s' σ H1 D I h
    · refine ⟨_, _, fun cls d H1 h => ?_, fun v H1 h => ?_, rfl, hg, ht⟩
      · obtain ⟨Dc, dd, fds, v, b1, b2, b3, ct, e1, e2, k1, k2, k3, q⟩ := h
        have ec := ct.cls
        refine ⟨true, by rw [ec]; exact ct.heal, fun _ x _ => ⟨Dc, dd, ct, rfl, rfl, fds, v, b1, b2, b3, e1, e2, k1, k2, k3, q⟩, fun z => Bool.noConfusion z⟩
      · refine ⟨by show 2 ≤ sizeLine; decide, fun tp np => ?_⟩
        exact h _ tp (fun b o e => by rw [upd_ne (ne_of_none e np)]; exact e) upd_same
end Hw

set_option Elab.async false
set_option linter.all false
set_option maxRecDepth 100000
set_option maxHeartbeats 4000000
namespace Hw
open PySem PySem.Spec L2 PyProof PyProof.Rows
section
variable {X : Cx} {o e : Expr} {es : List Expr} {to te : TE} {ta : TA} {f : Str} {p p' p1 p2 pos : Pos}
/-- an error with its own __init__ is made; its context is None -/
theorem mk_endN {pins : List (Addr × Obj)} {σ : L2.St} {H1 H2 : Hp} {Q : XK} {hp hp2 h2 : Heap} {g1 g2 : Array GenState} {d1 d2 : Drawn} {t1 t2 : Nat} {os1 os2 : OsState} {a C d : Addr} {fs : List (Str × V)} (T : Raises X (.ref C)) (I1 : Inv X pins σ H1 ⟨hp, g1, d1, t1, os1⟩)
    (ha : hp.objs.size ≤ a) (k : ∀ b o, hp.get? b = some o → hp2.get? b = some o) (un : Un (frs X.stack) [] (upd H1 a (exo a C none)) H2 hp2 h2) (hok : HOk X.prog X.w H2 h2) (ho : os2 = os1) (hb : AllBare g2)
    (ea : H2 a = some (exo a C (some d))) (ed : H2 d = some (exd d fs)) (hd1 : H1 d = none) (q : Q (.ref C) (some d) (upd (del H2 a) d (.xd fs))) : L2N.MkP X pins σ Q (.ref a) ⟨h2, g2, d2, t2, os2⟩ := by
  obtain ⟨t0, G, J, kG, ge, hoe, na⟩ := mk_end0 (d2 := d2) (t2 := t2) I1 ha k un hok ho hb ea ed hd1
  exact ⟨a, _, _, ⟨G, g2, d2, t2, os2⟩, _, .ref C, some d, rfl, J, kG, ge, hoe, ⟨rfl, rfl, fun vs e => by cases e; rfl⟩, rfl, rfl, na, rfl, hb, T, q⟩
theorem pmk_oexN {CX : CXT} {x : Str} {C fI : Addr} {k : Nat} {fd : FuncData} {ps : List Str} {sp : Sp} {ds : List Value} {dvs : List V} (T : OexC X.K C) (iC : PySem.W.findIn X.K (.ref C) "__init__" = some (some (.ref fI))) (tI : PySem.W.typeIn X.K (.ref fI) = some (.type "function"))
    (F1 : FnOk X.prog X.w X.K X.mg X.base CX k fI fd ps sp) (hr : Room (k + 1) X.A) (hb : Binds X.K fd ps ds) (hd : Vals dvs ds) (hx : Passes CX X (fun _ _ _ => False)) (hg : Gl X x) (hm : X.mg x = some (.ref C)) (ha : PA X (e :: es) ta)
    (hdb : (x == ("__debug__" : Str)) = false := by decide) (he : starEach (e :: es) X.env = (false, eval e X.env) :: starEach es X.env := by rfl) (hpl : (backTo pos (starEach es X.env)).any (·.1) = false := by rfl) :
    L2N.PMk X (.Call (.Name x p) (e :: es) [] pos) (tMkO C sp dvs ta) := by
  intro pins s σ H Q I h
  obtain ⟨nm, q, N, bs, bm, sn, sub, ab, col, dd, k0, k1, k2, k3, k5, hC, hbm⟩ := T.cls
  refine wpAny_Call_Name_kw (ld_glob I hg hm ?_ hdb)
  refine PySem.W.callWith_K (h₀ := X.base) I.ok.mod.kin T.kC (thn (ha.run pos pins s σ H _ I h) fun us s1 ⟨vs, H1, I1, r1, hz, q1⟩ => ⟨I1.kIn, ?_⟩) he hpl
  show wpAny _ _ (call (.ref C) us) _ _ _
  obtain ⟨hp, g, dr, tk, os⟩ := s1
  have hsz : hp.objs.size ≤ hp.objs.size + 1 := Nat.le_succ _
  have hn : H1 (hp.objs.size + 1) = none := I1.hok.fresh hsz
  have hq := q1 (hp.objs.size + 1) hn
  have kk : ∀ b o, hp.get? b = some o → ((hp.push (PySem.W.kdv_tup us)).push (PySem.HandSPX.excO C hp.objs.size)).get? b = some o := fun b o e => Heap.get?_push_of_some _ (Heap.get?_push_of_some _ e)
  have hget : ((hp.push (PySem.W.kdv_tup us)).push (PySem.HandSPX.excO C hp.objs.size)).get? (hp.objs.size + 1) = some (PySem.HandSPX.excO C hp.objs.size) := by heap_get
  have I2 : Inv X pins σ (upd H1 (hp.objs.size + 1) (exo (hp.objs.size + 1) C none)) ⟨(hp.push (PySem.W.kdv_tup us)).push (PySem.HandSPX.excO C hp.objs.size), g, dr, tk, os⟩ :=
    I1.laid (t' := tk) (a := hp.objs.size + 1) (o := exo (hp.objs.size + 1) C none) (h' := (hp.push (PySem.W.kdv_tup us)).push (PySem.HandSPX.excO C hp.objs.size)) kk hsz (exo_ok hget)
  have r2 : Vals (V.ref (hp.objs.size + 1) :: (vs ++ dvs)) (Value.ref (hp.objs.size + 1) :: (us ++ ds)) := .cons rfl (r1.append hd)
  have hl : (Value.ref (hp.objs.size + 1) :: us ++ ds).length = ps.length := by
    have e := r2.length
    rw [F1.len _ _ _ _ hq] at e
    exact e.symm
  have hus : us.length ≤ sizeLine := by
    rw [← Paired.length r1, sizeLine_eq]
    omega
  refine wpAny_call (PySem.HandSPX.call_own F.excBase_ValueError (fun Y => PySem.HandSPX.refsVE_contains Y bm hbm) (I1.kIn _ _ hC) (PySem.W.looks_findIn I1.kIn iC) (fun self => PySem.W.bind_fn I1.kIn self tI) hus
    (codeAny_mono (F1.run _ X.stack _ _ ⟨Value.ref (hp.objs.size + 1) :: us, []⟩ (Value.ref (hp.objs.size + 1) :: (us ++ ds)) _ _ (fun _ _ _ => False) (hr.make C us []) (I2.env0.make C us []) (hb _ (Value.ref (hp.objs.size + 1) :: us) I2.kIn hl) r2 hq) fun r s' hq' => ?_))
  cases r with
  | error er => exact hx pins σ _ _ er s' I2 hq'
  | ok fl =>
    cases fl with
    | ret u =>
      obtain ⟨v, H2, os2, bare2, un2, hok2, rv, ev, d, fs, ea, ed, hd1, q2⟩ := hq'
      subst ev
      obtain ⟨h2, g2, d2, t2, os'⟩ := s'
      exact ⟨rv, mk_endN (raises_own T.exC T.tyC) I1 hsz kk un2 hok2 os2 bare2 ea ed hd1 q2⟩
    | next => exact False.elim hq'
    | brk => exact False.elim hq'
    | cont => exact False.elim hq'
end
end Hw

set_option Elab.async false
set_option linter.all false
set_option maxRecDepth 100000
set_option maxHeartbeats 4000000
namespace Hw
open PySem PySem.Spec L2 PyProof PyProof.Rows
/-- _law_heard(call) of k06: what the error tells, None without one or of another class -/
def spHeard1 (P : Program) (w : World) (K : PySem.W.Frag) (mg : Str → Option Value) (base : Heap) (k : Nat) (CS C1 : Addr) : SpL := fun fs h vs H Q _ =>
  ∃ (a : Addr) (G : Hp → Prop) (tl : XK → Hp → VK → Prop), vs = [.ref a] ∧ Act (L2N.CX P w) P w K mg base k a fs H h G tl ∧ G H ∧
    tl (fun cls d H1 => ∃ (Dc dd : Addr) (fds : List (Str × V)) (v : V) (b : Bool), Caught K CS cls d Dc dd ∧ H1 dd = some (.xd fds) ∧ fds.lookup ("value" : Str) = some v ∧ PySem.W.kitOne K (.ref Dc) (.ref C1) = some b ∧ Q (if b = true then v else .non) H1) H
      (fun _ H1 => Q .non H1)
theorem heard1_ok {P : Program} {w : World} {K : PySem.W.Frag} {mg : Str → Option Value} {base : Heap} {st : Stmt} {f : Addr} {fd : FuncData} {k : Nat} {qual er : Str} {CS C1 : Addr} {c1 : Str} {j1 j2 : Nat} {r1 r2 r3 r4 s1 s2 s3 s4 s5 u1 u2 u3 u4 u5 u6 u7 u8 : Pos}
    (F : L2.Fun K "_law_heard" qual st f fd) (S : FnScope ["call", "caught"] ["call"] (defScope st))
    (hb : defBody st = [.Try [.Expr (.Call (.Name "call" u1) [] [] u2) u3] [.ExceptHandler (some (.Name er u4)) (some "caught")
      [.Return (some (.IfExp (.Call (.Name "isinstance" r1) [.Name "caught" r2, .Name c1 r3] [] r4) (.Attribute (.Name "caught" s1) "value" s2) (.Constant .none j1 s3) s4)) s5] u5] [] [] u6,
      .Return (some (.Constant .none j2 u7)) u8])
    (va : (defScope st).names.lookup ("call" : Str) = some .local) (vc : (defScope st).names.lookup ("caught" : Str) = some .local)
    (ge : (defScope st).names.lookup er = some .globalImplicit) (gi : (defScope st).names.lookup ("isinstance" : Str) = some .globalImplicit) (g1 : (defScope st).names.lookup c1 = some .globalImplicit)
    (me : mg er = some (.ref CS)) (mi : mg "isinstance" = none) (m1 : mg c1 = some (.ref C1)) (de : (er == ("__debug__" : Str)) = false) (d1 : (c1 == ("__debug__" : Str)) = false) :
    FnGL P w K mg base CX0 (k + 2) f fd ["call"] (spHeard1 P w K mg base k CS C1) := by
  refine funGL F S (fun fs h vs H Q E hh => ?_) (fun cdv A outer s H vs Q E hr hh => ?_)
  · obtain ⟨_, _, _, rfl, _⟩ := hh
    rfl
  · obtain ⟨a, G, tl, rfl, ac, hg, ht⟩ := hh
    rw [hb]
    refine ⟨_, pss_cons (ps_heardN (X := (cxOf CX0 P w K mg base ["call", "caught"] qual (defScope st) f cdv A outer s H E).nox) (i := 1) (j := 0) (c := .ref CS) (Wout := fun _ _ _ _ => False)
        (ts := fun x cls d D σ H1 => ∃ (Dc dd : Addr), Caught K CS cls d Dc dd ∧ (σ[1]? = some (some (.ref x)) ∧ ∃ (fs : List (Str × V)) (v : V) (b : Bool), H1 dd = some (.xd fs) ∧ fs.lookup ("value" : Str) = some v ∧ PySem.W.kitOne K (.ref Dc) (.ref C1) = some b ∧ D.rt (if b = true then v else .non) H1))
        rfl rfl rfl S.nd rfl vc ⟨ge, de, .inl me⟩ takes0N ac hr.r rfl (.inl va) (fun x oe cls d pn hz hf => ?_) (by decide) (by decide))
      (pss_one (ps_ret pe_non)), ?_⟩
    · refine ⟨fun pins s' σ H1 D I h => ?_⟩
      obtain ⟨Dc, dd, ct, h⟩ := h
      have e1 := ct.cls
      have e2 := ct.dict
      subst e1 e2
      have is1 := pe_isD (X := (cxOf CX0 P w K mg base ["call", "caught"] qual (defScope st) f cdv A outer s H E).nox) (a := x) (pn := pn) (i := 1) (p1 := r1) (p2 := r2) (p3 := r3) (p4 := r4) ct.isC hz.zc hf gi mi rfl (.inl vc) g1 m1 (by decide) (by decide) d1
      have pf := pe_xf (X := (cxOf CX0 P w K mg base ["call", "caught"] qual (defScope st) f cdv A outer s H E).nox) (a := x) (pn := pn) (pos := s2) ct.fld ct.val hz.zc hf (pe_var (i := 1) (pos := s1) rfl (.inl vc) (by decide) (by decide)) rfl
      refine (pss_one (ps_ret (pos := s5) (pe_ifExp (pos := s4) (pt_val is1) pf (pe_non (j := j1) (pos := s3))))).run pins s' σ H1 D I ?_
      obtain ⟨hs, fs, v, b, hdd, hval, k1, q⟩ := h
      refine ⟨hs, ⟨fs, hdd⟩, b, k1, b, rfl, ?_⟩
      cases b with
      | true =>
        rw [if_pos rfl]
        rw [if_pos rfl] at q
        exact ⟨.ref x, hs, rfl, rfl, dd, fs, v, rfl, hdd, hval, q⟩
      | false =>
        rw [if_neg Bool.false_ne_true]
        rw [if_neg Bool.false_ne_true] at q
        exact q
    · refine ⟨_, _, fun cls d H1 h => ?_, fun v H1 h => ?_, rfl, hg, ht⟩
      · obtain ⟨Dc, dd, fds, v, b, ct, e1, e2, k1, q⟩ := h
        have ec := ct.cls
        exact ⟨true, by rw [ec]; exact ct.heal, fun _ x _ => ⟨Dc, dd, ct, rfl, fds, v, b, e1, e2, k1, q⟩, fun z => Bool.noConfusion z⟩
      · exact h
end Hw

set_option Elab.async false
set_option linter.all false
set_option maxRecDepth 100000
set_option maxHeartbeats 4000000
namespace Hw
open PySem PySem.Spec L2 PyProof PyProof.Rows LamX
/-- the law's call where the law's defs make lambdas, and reprs run: lawG with tables -/
theorem lawGT {P : Program} {w : World} {K : PySem.W.Frag} {mg mb : Str → Option Value} {k : Nat} {fa a : Addr} {cs : List (Addr × Addr)} {fd : FuncData} {x : Str} {sp : Sp} {s1 : Shared} {vs : List Value} {ns : List Int}
    (KX : K.In s1.heap) (hns : s1.heap.Ns mainGlobals mg) (hb : s1.heap.Ns builtinsNs mb) (hbb : ∀ x : Str, x ≠ "__name__" → mb x = bootBuiltins x) (hlim : s1.heap.NoLimit) (hgen : s1.gens = #[])
    (hT : ∀ p ∈ cs, s1.heap.get? p.2 = some { cls := .none, data := .fields #[] }) (nT : ∀ p ∈ cs, K.lookup p.2 = none) (hC : ∀ p ∈ cs, PySem.W.CodeHd s1.heap p.1 p.2)
    (hbm : ∃ (bm : Addr) (ob : Obj), mg "__builtins__" = some (.ref bm) ∧ bm ≠ builtinsNs ∧ s1.heap.get? bm = some ob ∧ ob.cls = .type "module" ∧ ob.dict = some builtinsNs ∧ ob.data = .plain)
    (ha : s1.heap.get? a = some { cls := .type "list", data := .seq vs.toArray }) (hi : IntsAre vs ns) (hl : ns.length ≤ sizeLine) (hr : Room k callerA)
    (F : ∀ base : Heap, K.In base → base.Ns mainGlobals mg → (∀ p ∈ cs, TabB base mg p.1 p.2) → FnG P w K mg base CX0 k fa fd [x] sp) (hbind : ∀ (s : Shared) (u : Value), BindsTo s fd ⟨[u], []⟩ [(x, u)])
    (hsp : ∀ H : Hp, (∀ p ∈ cs, H p.2 = some (.tbl #[])) → SqL K H a (ns.map V.int) → sp [.ref a] H (fun v _ => v = .bl true) E0) :
    codeAny (model P w) callerA (.call (.ref fa) ⟨[.ref a], []⟩) (fun r s' => r = .ok (.ret (.bool true)) ∧ OldK s1.heap s'.heap ∧ s'.os = s1.os ∧ AllBare s'.gens) s1 := by
  have rv := vals_ints hi
  let T := cs.map (·.2)
  have inT : ∀ {b : Addr}, b ∈ T → ∃ p ∈ cs, p.2 = b := fun h => List.mem_map.mp h
  have tab : ∀ {b : Addr}, b ∈ T → s1.heap.get? b = some { cls := .none, data := .fields #[] } := fun h => by
    obtain ⟨p, hp, e⟩ := inT h
    rw [← e]; exact hT p hp
  have aT : a ∉ T := fun h => by
    have e := (tab h).symm.trans ha
    cases e
  -- what is tracked at the start: the tables, and the script where the program does not know it
  have core : ∀ H : Hp, (∀ p ∈ cs, H p.2 = some (.tbl #[])) → SqL K H a (ns.map V.int) → HOk P w H s1.heap → (∀ b, H b = none ∨ b ∈ T ∨ (b = a ∧ K.lookup a = none ∧ ∃ o xs, H b = some (.frz o (.lst xs)))) →
      codeAny (model P w) callerA (.call (.ref fa) ⟨[.ref a], []⟩) (fun r s' => r = .ok (.ret (.bool true)) ∧ OldK s1.heap s'.heap ∧ s'.os = s1.os ∧ AllBare s'.gens) s1 := by
    intro H hH hS hok only
    have free : ∀ {b : Addr} {o : Obj}, s1.heap.get? b = some o → (∀ xs n, o.data ≠ .seq xs n) → o.data ≠ .fields #[] → H b = none := fun {b o} e n1 n2 => by
      rcases only b with z | z | ⟨z, _⟩
      · exact z
      · have e' := (tab z).symm.trans e
        cases e'
        exact absurd rfl n2
      · rw [z, ha] at e
        cases e
        exact absurd rfl (n1 _ _)
    have nsH : ∀ {b : Addr} {m : Str → Option Value}, s1.heap.Ns b m → (hidT s1.heap H).Ns b m := fun {b m} ⟨o, es, ep, e, d, r⟩ =>
      ⟨o, es, ep, hidT_get e (free e (fun _ _ z => by rw [d] at z; cases z) (fun z => by rw [d] at z; cases z)), d, r⟩
    have kinH : K.In (hidT s1.heap H) := fun b o e => hidT_get (KX b o e) (by
      rcases only b with z | z | ⟨z, z2, _⟩
      · exact z
      · obtain ⟨p, hp, ep⟩ := inT z
        have := nT p hp
        rw [ep, e] at this
        cases this
      · rw [z, z2] at e
        cases e)
    have modH : Mod K mg (hidT s1.heap H) := ⟨kinH, nsH hns, ⟨mb, nsH hb, hbb⟩, let ⟨mc, h1, h2⟩ := hlim; ⟨mc, nsH h1, h2⟩⟩
    have env0 : Env0 P w K mg (hidT s1.heap H) callerA [] s1 H := ⟨rfl, modH, fun b o e => of_hidT e, Nat.le_of_eq (hidT_size _ _), trivial, fun b hb => (by cases hb), hok, .of_eq hgen⟩
    have tabB : ∀ p ∈ cs, TabB (hidT s1.heap H) mg p.1 p.2 := fun p hp => by
      refine ⟨?_, ?_, fun z => ?_⟩
      · obtain ⟨o, us, file, tf, fl, tg, inF, tx, tt, e, c1, d, i11, rest⟩ := hC p hp
        exact ⟨o, us, file, tf, fl, tg, inF, tx, tt, hidT_get e (free e (fun _ _ z => by rw [d] at z; cases z) (fun z => by rw [d] at z; cases z; cases i11)), c1, d, i11, rest⟩
      · obtain ⟨bm, ob, b1, b2, e, b4, b5, d⟩ := hbm
        refine ⟨bm, ob, b1, b2, fun z => ?_, fun z => ?_, hidT_get e (free e (fun _ _ z => by rw [d] at z; cases z) (fun z => by rw [d] at z; cases z)), b4, b5, d⟩
        · obtain ⟨o, es, ep, e', d', _⟩ := hns
          rw [z, e'] at e
          cases e
          rw [d'] at d
          cases d
        · rw [z, hT p hp] at e
          cases e
          cases d
      · obtain ⟨o, es, ep, e, d, _⟩ := hns
        rw [z, hT p hp] at e
        cases e
        cases d
    refine codeAny_mono ((F _ kinH (nsH hns) tabB).run callerA [] s1 H ⟨[.ref a], []⟩ [.ref a] [.ref a] _ _ ⟨hr, rfl⟩ env0 (hbind s1 (.ref a)) (.cons rfl .nil) (hsp H hH hS)) fun r s' h => ?_
    match r, h with
    | .error e, h => exact False.elim h
    | .ok .next, h => exact False.elim h
    | .ok .brk, h => exact False.elim h
    | .ok .cont, h => exact False.elim h
    | .ok (.ret u), h =>
      obtain ⟨v, H', os, bare, un, hok', r', q⟩ := h
      obtain rfl : v = .bl true := q
      obtain rfl : u = Value.bool true := r'
      have rest : ∀ b o, b ∉ T → s1.heap.get? b = some o → s'.heap.get? b = some o := fun b o nb e => by
        rcases only b with z | z | ⟨_, _, ob, xs, z⟩
        · exact un.keep b o e z (by intro z; cases z) (by intro z; cases z)
        · exact absurd z nb
        · have e1 := (hok b _ z).1
          rw [e] at e1
          cases e1
          exact (hok' b _ (un.frzs b _ _ z)).1
      have more : ∀ {b : Addr}, b ∈ T → ∃ p ∈ cs, p.2 = b ∧ ∃ us : Array Value, s'.heap.get? b = some { cls := .none, data := .fields us } := fun {b} h => by
        obtain ⟨p, hp, e⟩ := inT h
        obtain ⟨us, z⟩ := un.tbls p.2 #[] (hH p hp)
        exact ⟨p, hp, e, _, by rw [← e]; exact hok' p.2 _ z⟩
      refine ⟨rfl, ⟨fun b o e => ?_, fun b o e => ?_⟩, os, bare⟩
      · by_cases hbT : b ∈ T
        · obtain ⟨p, hp, ep, us, hm⟩ := more hbT
          have e' := (tab hbT).symm.trans e
          cases e'
          subst ep
          exact .inr (.inl ⟨((hC p hp).tab (hT p hp)).isCodeTable, rfl, #[], us, rfl, by rw [Array.empty_append]; exact hm⟩)
        · exact .inl (rest b o hbT e)
      · by_cases hbT : b ∈ T
        · obtain ⟨_, _, _, us, hm⟩ := more hbT
          exact ⟨_, hm⟩
        · exact ⟨o, rest b o hbT e⟩
  let H0 : Hp := fun b => if b ∈ T then some (.tbl #[]) else none
  have h0T : ∀ {b : Addr}, b ∈ T → H0 b = some (.tbl #[]) := fun h => if_pos h
  have h0N : ∀ {b : Addr}, b ∉ T → H0 b = none := fun h => if_neg h
  have ok0 : HOk P w H0 s1.heap := fun b u z => by
    by_cases h : b ∈ T
    · rw [h0T h] at z
      cases z
      exact tab h
    · rw [h0N h] at z
      cases z
  cases hk : K.lookup a with
  | some o =>
    have e := KX a o hk
    rw [ha] at e
    cases e
    refine core H0 (fun p hp => h0T (List.mem_map.mpr ⟨p, hp, rfl⟩)) (.inr ⟨_, vs.toArray, _, hk, rfl, rfl, rfl, by rw [List.size_toArray, hi.length]; exact hl, by simpa using rv⟩) ok0 fun b => ?_
    by_cases h : b ∈ T
    · exact .inr (.inl h)
    · exact .inl (h0N h)
  | none =>
    refine core (upd H0 a (.frz { cls := .type "list", data := .seq vs.toArray } (.lst (ns.map V.int)))) (fun p hp => ?_) (.inl (.inr ⟨_, upd_same⟩)) (fun b u z => ?_) fun b => ?_
    · have h : p.2 ∈ T := List.mem_map.mpr ⟨p, hp, rfl⟩
      rw [upd_ne (fun e => aT (by rw [← e]; exact h))]
      exact h0T h
    · by_cases hba : b = a
      · subst hba
        rw [upd_same] at z
        cases z
        exact ⟨ha, by rw [List.length_map]; exact hl, vs, _, rv, ha⟩
      · rw [upd_ne hba] at z
        by_cases h : b ∈ T
        · rw [h0T h] at z
          cases z
          exact tab h
        · rw [h0N h] at z
          cases z
    · by_cases hba : b = a
      · subst hba
        exact .inr (.inr ⟨rfl, hk, _, _, upd_same⟩)
      · rw [upd_ne hba]
        by_cases h : b ∈ T
        · exact .inr (.inl h)
        · exact .inl (h0N h)
/-- what is to be shown of a law whose defs make lambdas: cs, the code objects and their tables -/
structure LawG (l : PySem.W.OpenLaw) (w : World) (K : PySem.W.Frag) (k n : Nat) (x : Str) (mg : Str → Option Value) (fa : Addr) (h : Heap) (fd : FuncData) (cs : List (Addr × Addr)) (sp : Sp) : Prop where
  tabs : ∀ p ∈ cs, h.get? p.2 = some { cls := .none, data := .fields #[] }
  own : ∀ p ∈ cs, K.lookup p.2 = none
  code : ∀ p ∈ cs, PySem.W.CodeHd h p.1 p.2
  binds : ∀ (s : Shared) (u : Value), BindsTo s fd ⟨[u], []⟩ [(x, u)]
  start : ∀ (H : Hp) (a : Addr) (ns : List Int), ns.length ≤ n → (∀ z ∈ ns, Builtin.Int.intBits z ≤ 1048576) → (∀ p ∈ cs, H p.2 = some (.tbl #[])) → SqL K H a (ns.map V.int) → sp [.ref a] H (fun v _ => v = .bl true) E0
  ok : ∀ base : Heap, K.In base → base.Ns mainGlobals mg → (∀ p ∈ cs, TabB base mg p.1 p.2) → FnG l.prog w K mg base CX0 k fa fd [x] sp
theorem walkGT {l : PySem.W.OpenLaw} {n k : Nat} {q : Program} {loose : List Str} {XP : (Str → Option Value) → Heap → Prop} {YP : World → Heap → Prop} {d : DefRec} {K : Params → PySem.W.Frag} {x : Str}
    (hn : l.most = some n) (hn2 : n ≤ sizeLine) (hdf : d.params.defaults = []) (hr : Room k callerA) (hY : ∀ (w : World) (h : Heap), YP w h → (K w.params).In h)
    (F : ∀ (w : World) (mg : Str → Option Value) (fa : Addr) (h : Heap), YP w h → (K w.params).In h → h.Ns mainGlobals mg → mg d.name = some (.ref fa) → ∃ fd cs sp, LawG l w (K w.params) k n x mg fa h fd cs sp) :
    PySem.W.WalkO q loose XP YP l.row.toRowW d [] (fun f vs => PySem.call f vs) := by
  refine Att.attach_callB hn hdf fun w s0 s1 mg mb fa o pm cd doc a vs ns G Y ho hd hcd hmg hobj hints hlen hbits hgen => ?_
  have KX := hY w _ Y
  obtain ⟨fd, cs, sp, L⟩ := F w mg fa _ Y KX G.T.g hmg
  exact lawGT KX G.T.g G.T.b G.T.builtins G.T.nolimit hgen L.tabs L.own L.code G.T.bmain hobj hints (Nat.le_trans hlen hn2) hr L.ok L.binds (fun H hH hS => L.start H a ns hlen hbits hH hS)
end Hw

set_option Elab.async false
set_option linter.all false
set_option maxRecDepth 100000
set_option maxHeartbeats 4000000
namespace Hw
open PySem PySem.Spec L2 PyProof PyProof.Rows
/-- the facts of an error class, to be decided over a written part -/
def caughtB (K : PySem.W.Frag) (CS Dc : Addr) : Bool :=
  [decide (PySem.W.findIn K (.ref Dc) "__getattribute__" = some (some (.builtin "BaseException.__getattribute__"))), decide (PySem.W.findIn K (.ref Dc) "__getattr__" = some none), decide (PySem.W.subIn K (.ref Dc) (.type "BaseException") = some true),
   PySem.W.hasDictIn K Dc, decide (PySem.W.findIn K (.ref Dc) "__class__" = some (some (.builtin "object.__class__"))), decide (PySem.W.specialIn K (.builtin "object.__class__") "__get__" = some (some (.builtin "getset_descriptor.__get__"))),
   decide (PySem.W.takesIn K (.builtin "object.__class__") = some true), decide (PySem.W.mroIn K Dc (.type "object") = some true), decide (PySem.W.findIn K (.ref Dc) "value" = some none), decide (PySem.W.exmOne K (.ref Dc) (.ref CS) = some true)].all id
theorem caught_by {K : PySem.W.Frag} {CS Dc dd : Addr} (h : caughtB K CS Dc = true) : Caught K CS (.ref Dc) (some dd) Dc dd := by
  unfold caughtB at h
  simp only [List.all_cons, List.all_nil, Bool.and_true, id, Bool.and_eq_true, decide_eq_true_eq] at h
  obtain ⟨h1, h2, h3, h4, h5, h6, h7, h8, h9, h10⟩ := h
  exact ⟨rfl, rfl, h10, ⟨h1, h2, h3, h4, h5, h6, h7, h8⟩, ⟨h1, h2, h3, h4⟩, h9⟩
end Hw

set_option Elab.async false
set_option linter.all false
set_option maxRecDepth 100000
set_option maxHeartbeats 4000000
namespace Hw
open PySem PySem.Spec L2 PyProof PyProof.Rows
/-! the package's errors, raised -/
/-- a reading by any stronger wish -/
def tMono (te : TE) : TE := fun σ H Q => ∃ Q0 : VK, te σ H Q0 ∧ ∀ v H', Q0 v H' → Q v H'
theorem pe_mono {X : Cx} {e : Expr} {te : TE} (h : PE X e te) : PE X e (tMono te) := by
  refine ⟨fun pins s σ H Q I hh => ?_⟩
  obtain ⟨Q0, h0, hm⟩ := hh
  exact thn (h.run pins s σ H Q0 I h0) fun u s1 ⟨v, H1, I1, r, q⟩ => ⟨v, H1, I1, r, hm _ _ q⟩
/-- C(e): raised, it tells e's value -/
def tHeal (C : Addr) (te : TE) : L2.St → Hp → XK → Prop := fun σ H Q => te σ H fun v H1 => ∀ d, H1 d = none → Q (.ref C) (some d) (upd H1 d (.xd [("value", v)]))
theorem pmk_heal {X : Cx} {x : Str} {C fI : Addr} {k : Nat} {fd : FuncData} {e : Expr} {te : TE} {p pos : Pos} (T : XCls X.K fI C) (F1 : FnOk X.prog X.w X.K X.mg X.base CX0 k fI fd ["self", "value"] (spIniX X.K)) (hr : Room (k + 1) X.A) (hb : Binds X.K fd ["self", "value"] [])
    (hg : Gl X x) (hm : X.mg x = some (.ref C)) (ha : PE X e te) (hdb : (x == ("__debug__" : Str)) = false := by decide) (he : starEach [e] X.env = (false, eval e X.env) :: starEach [] X.env := by rfl) (hpl : (backTo pos (starEach [] X.env)).any (·.1) = false := by rfl) :
    L2N.PMk X (.Call (.Name x p) [e] [] pos) (tHeal C te) := by
  intro pins s σ H Q I h
  refine (pmk_oexN (p := p) (pos := pos) T.o T.ini T.tI F1 hr hb .nil pass0 hg hm (pa_cons (pe_mono ha) pa_nil he) hdb he hpl) pins s σ H Q I ?_
  refine ⟨_, h, fun v H1 q => ⟨by show 1 ≤ 1000; decide, fun a na => ⟨a, C, fI, v, rfl, T, upd_same, fun dx nd ne => ⟨rfl, dx, [("value", v)], upd_same, ?_, ?_, ?_⟩⟩⟩⟩
  · rw [upd_ne ne]; exact upd_same
  · rw [upd_ne ne] at nd; exact nd
  · rw [upd_ne ne] at nd
    have e : upd (del (upd (upd (upd H1 a (exo a C none)) dx (exd dx [("value", v)])) a (exo a C (some dx))) a) dx (.xd [("value", v)]) = upd H1 dx (.xd [("value", v)]) := by
      funext b
      by_cases h1 : b = dx
      · subst h1; rw [upd_same, upd_same]
      · rw [upd_ne h1, upd_ne h1]
        by_cases h2 : b = a
        · subst h2; rw [del_same]; exact na.symm
        · rw [del_ne h2, upd_ne h2, upd_ne h1, upd_ne h2]
    rw [e]
    exact q dx nd
theorem rs_expr {te : TE} {u : TS} {D : Ends} {σ : L2.St} {H : Hp} (h : te σ H fun _ H1 => u D σ H1) : tSeq (tDrop te) u D σ H := h
/-- as Fun.ok, for a def that may raise, the exception's context being None -/
theorem okN {P : Program} {w : World} {K : PySem.W.Frag} {mg : Str → Option Value} {base : Heap} {x qual : Str} {st : Stmt} {f : Addr} {fd : FuncData} {N ps : List Str} {k : Nat} {sp : Sp} (F : Fun K x qual st f fd) (S : FnScope N ps (defScope st)) (len : ∀ vs H Q E, sp vs H Q E → vs.length = ps.length)
    (hbody : ∀ (cdv : Value) (A : Around) (outer : List Env) (s : Shared) (H : Hp) (vs : List V) (Q : VK) (E : XK), Room k (A.deeper (envOfC qual (defScope st) s.heap.objs.size f cdv)) → sp vs H Q E →
      ∃ t, PSs (cxOf (L2N.CX P w) P w K mg base N qual (defScope st) f cdv A outer s H E) (defBody st) t ∧ t { nx := fun _ H' => Q .non H', rt := Q } (start N vs) H) : FnOk P w K mg base (L2N.CX P w) (k + 1) f fd ps sp := by
  obtain ⟨oc, od, kV, doc, pm, an, cdv, ct, osl, rfl, lk, hcd⟩ := F.ex
  exact fn_of lk hcd S len fun A outer s H vs Q E hr hsp => hbody cdv A outer s H vs Q E hr hsp
section
variable {P : Program} {w : World} {K : PySem.W.Frag} {mg : Str → Option Value} {base : Heap} {N : List Str} {qual : Str} {sc : Scope} {f : Addr} {cdv : Value} {A : Around} {outer : List Env} {s : Shared} {H : Hp} {E : XK}
theorem takesN : L2N.Takes (cxOf (L2N.CX P w) P w K mg base N qual sc f cdv A outer s H E) (fun cls d _ H => E cls d H) := L2N.takes_of rfl rfl rfl rfl
theorem passN : Passes (L2N.CX P w) (cxOf (L2N.CX P w) P w K mg base N qual sc f cdv A outer s H E) E := L2N.passes_call takesN fun _ _ _ _ h => h
/-- raise C(e), in a def made by okN -/
theorem ps_heal {x : Str} {C fI : Addr} {k : Nat} {fd : FuncData} {e : Expr} {te : TE} {p pos pos2 : Pos} (T : XCls K fI C) (F1 : FnOk P w K mg base CX0 k fI fd ["self", "value"] (spIniX K)) (hr : Room (k + 1) (A.deeper (envOfC qual sc s.heap.objs.size f cdv))) (hb : Binds K fd ["self", "value"] [])
    (hg : Gl (cxOf (L2N.CX P w) P w K mg base N qual sc f cdv A outer s H E) x) (hm : mg x = some (.ref C)) (ha : PE (cxOf (L2N.CX P w) P w K mg base N qual sc f cdv A outer s H E) e te) (hdb : (x == ("__debug__" : Str)) = false := by decide)
    (he : starEach [e] (cxOf (L2N.CX P w) P w K mg base N qual sc f cdv A outer s H E).env = (false, eval e (cxOf (L2N.CX P w) P w K mg base N qual sc f cdv A outer s H E).env) :: starEach [] (cxOf (L2N.CX P w) P w K mg base N qual sc f cdv A outer s H E).env := by rfl) (hpl : (backTo pos (starEach [] (cxOf (L2N.CX P w) P w K mg base N qual sc f cdv A outer s H E).env)).any (·.1) = false := by rfl) :
    PS (cxOf (L2N.CX P w) P w K mg base N qual sc f cdv A outer s H E) (.Raise (some (.Call (.Name x p) [e] [] pos)) none pos2) (fun _ σ H1 => te σ H1 fun v H2 => ∀ d, H2 d = none → E (.ref C) (some d) (upd H2 d (.xd [("value", v)]))) :=
  L2N.ps_raise rfl takesN (pmk_heal T F1 hr hb hg hm ha hdb he hpl)
end
end Hw

set_option Elab.async false
set_option linter.all false
set_option maxRecDepth 100000
set_option maxHeartbeats 2000000
namespace Hw
open PySem PySem.Spec PyProof.Rows L2
/-! xs != [], xs == [], whatever stands in xs -/
def rNilL (neg : Bool) (K : PySem.W.Frag) : R2 := fun x y H Q => ∃ (a b : Addr) (xs : List V), x = .ref a ∧ y = .ref b ∧ SqL K H a xs ∧ SqL K H b [] ∧ Q (.bl (if neg then !xs.isEmpty else xs.isEmpty)) H
section
variable {X : Cx}
theorem op_neNilL (hu : X.A.units < cLine) : OpR X (compareOp .NotEq) (rNilL true X.K) := by
  intro pins s σ H x y v u Q I rx ry h
  obtain ⟨a, b, xs, rfl, rfl, ha, hb, q⟩ := h
  cases rx
  cases ry
  obtain ⟨its, rv, ⟨⟨c1, d1, D1, s1⟩, n1, o1, e1, m1, f1⟩, _⟩ := I.list ha
  obtain ⟨its2, rv2, ⟨⟨c2, d2, D2, s2⟩, n2, o2, e2, m2, f2⟩, _⟩ := I.list hb
  simp only at e1 f1 e2 f2
  subst e1 f1 e2 f2
  have l1 := rv.length
  have l2 := rv2.length
  cases xs with
  | nil =>
    exact richCompare_meets_room (op := .NotEq) ⟨_, o1, rfl⟩ ⟨_, o2, rfl⟩ F.slot_list_ne F.entry_list_ne (F.args_list_ne_2 _ _) (SeqAt.list_neAt a b its.toArray its2.toArray _ _ d1 d2 s1 s2 (by simp only [List.size_toArray]; rw [← l1, ← l2]) (fun _ => true))
      ⟨o1, o2, fun j h1 _ => absurd h1 (by simp only [List.size_toArray]; rw [← l1]; exact Nat.not_lt_zero _), show _ ≠ _ ∧ _ from ⟨(fun z => nomatch z), .bl false, H, I, by
        have e : its = [] := List.length_eq_zero_iff.mp (by rw [← l1]; rfl)
        rw [e]; rfl, q⟩⟩ hu
  | cons x xs =>
    exact richCompare_meets_room (op := .NotEq) ⟨_, o1, rfl⟩ ⟨_, o2, rfl⟩ F.slot_list_ne F.entry_list_ne (F.args_list_ne_2 _ _) (SeqAt.list_ne_lengthsAt a b its.toArray its2.toArray _ _ d1 d2 s1 s2 (by simp only [List.size_toArray]; rw [← l1, ← l2]; rfl))
      ⟨o1, o2, show _ ≠ _ ∧ _ from ⟨(fun z => nomatch z), .bl true, H, I, rfl, q⟩⟩ hu
theorem op_eqNilL (hu : X.A.units < cLine) : OpR X (compareOp .Eq) (rNilL false X.K) := by
  intro pins s σ H x y v u Q I rx ry h
  obtain ⟨a, b, xs, rfl, rfl, ha, hb, q⟩ := h
  cases rx
  cases ry
  obtain ⟨its, rv, pl, _⟩ := I.list ha
  obtain ⟨its2, rv2, pl2, _⟩ := I.list hb
  have l1 := rv.length
  have l2 := rv2.length
  cases xs with
  | nil =>
    have e : its = [] := List.length_eq_zero_iff.mp (by rw [← l1]; rfl)
    refine SeqAt.eq_listAt (e := fun _ => true) pl.isList pl2.isList (by simp only [List.size_toArray]; rw [← l1, ← l2]) hu (fun j h1 _ => absurd h1 (by simp only [List.size_toArray]; rw [← l1]; exact Nat.not_lt_zero _)) ⟨.bl true, H, I, ?_, q⟩
    rw [e]; rfl
  | cons x xs => exact SeqAt.eq_list_lengthsAt pl.isList pl2.isList (by simp only [List.size_toArray]; rw [← l1, ← l2]; rfl) hu ⟨.bl false, H, I, rfl, q⟩
end
end Hw

set_option Elab.async false
set_option linter.all false
set_option maxRecDepth 100000
set_option maxHeartbeats 2000000
namespace PySem
theorem nP_sub_str_dict : isSubtype (.type "str") (.type "dict") = pure false := by rw [isSubtype_type]; kernel_rfl
theorem nP_sub_dict_str : isSubtype (.type "dict") (.type "str") = pure false := by rw [isSubtype_type]; kernel_rfl
end PySem
namespace PySem.SeqAt
open PyProof.Rows
theorem dict_eq_declines_str (l : Addr) (o : Obj) (ho : o.cls = .type "dict") (b : Str) (u : Tok) :
    Meets (Builtin.«dict.__eq__» ⟨[.ref l, .str b u], []⟩) (fun _ R s => s.heap.get? l = some o ∧ R (.ok (.ret .notImplemented)) s) :=
  .of_wp fun prog w A R s h => by obtain ⟨hp, g, d, tk, os⟩ := s; obtain ⟨hl, h⟩ := h; have f1 := nP_sub_str_dict; wp_walk; exact ⟨_, rfl, h⟩
theorem str_eq_declines_dict (b : Str) (u : Tok) (l : Addr) (dd : Option Addr) (es : Array DictEntry) (n : Nat) (sl : Array (Option Value)) :
    Meets (Builtin.«str.__eq__» ⟨[.str b u, .ref l], []⟩) (fun _ R s => s.heap.get? l = some { cls := .type "dict", dict := dd, data := .dict es n, slots := sl } ∧ R (.ok (.ret .notImplemented)) s) :=
  .of_wp fun prog w A R s h => by obtain ⟨hp, g, d, tk, os⟩ := s; obtain ⟨hl, h⟩ := h; wp_walk using wpAny_loadPart' hl, wpAny_load hl; exact ⟨_, rfl, h⟩
theorem RcAt.dict_str {A : Around} {s : Shared} {l : Addr} {o : Obj} {es : Array DictEntry} {n : Nat} (b : Str) (u : Tok) (ho : s.heap.get? l = some o) (hc : o.cls = .type "dict") (hd : o.data = .dict es n) (hu : A.units < cLine) : RcAt A s (.ref l) (.str b u) false := fun prog w E Q h => by
  obtain ⟨cls, dd, data, sl⟩ := o
  simp only at hc hd
  subst hc hd
  exact rc_eq_decline_or (k := false) ⟨_, ho, rfl⟩ (typeIs_str s b u) (by decide) nP_sub_str_dict F.slot_dict_eq F.slot_str_eq_refl
    (fun _ hq => call_meets F.slot_dict_eq ⟨_, ho, rfl⟩ F.entry_dict_eq (F.args_dict_eq_2 _ _) (dict_eq_declines_str l _ rfl b u) ⟨ho, hq⟩)
    (fun _ hq => call_meets F.slot_str_eq_refl (typeIs_str s b u) F.entry_str_eq (F.args_str_eq_2 _ _) (str_eq_declines_dict b u l dd es n sl) ⟨ho, hq⟩)
    (fun _ hq => wpAny_of_eq (rfl : isSame (.ref l) (.str b u) = pure false) hq) (.inr hu) h
end PySem.SeqAt
namespace Hw
open PySem PySem.Spec PyProof.Rows L2
/-! x == z, x any data, z a text -/
def isTx (z : Str) : PyData → Bool
  | .str y => decide (y = z)
  | _ => false
def rEqTx : R2 := fun x y H Q => ∃ (a : Addr) (d : PyData) (z : Str), Dx a H x d ∧ y = .str z ∧ Q (.bl (isTx z d)) H
theorem op_eqTx {X : Cx} (hu : X.A.units < cLine) : OpR X (compareOp .Eq) rEqTx := by
  intro pins s σ H x y v u Q I rx ry h
  obtain ⟨a, d, z, hd, rfl, q⟩ := h
  obtain ⟨t, rfl⟩ := ry
  cases hd with
  | flat e =>
    refine op_eq pins s σ H _ (.str z) v (.str z t) Q I rx ⟨t, rfl⟩ ?_
    cases x with
    | non => cases e; exact ⟨rfl, by rw [show decide (V.non = V.str z) = false from decide_eq_false (fun y => nomatch y)]; exact q⟩
    | bl b => cases e; exact ⟨rfl, by rw [show decide (V.bl b = V.str z) = false from decide_eq_false (fun y => nomatch y)]; exact q⟩
    | int b => cases e; exact ⟨rfl, by rw [show decide (V.int b = V.str z) = false from decide_eq_false (fun y => nomatch y)]; exact q⟩
    | str b =>
      cases e
      refine ⟨rfl, ?_⟩
      have e2 : decide (V.str b = V.str z) = decide (b = z) := by
        rw [decide_eq_decide]
        exact ⟨fun y => V.str.inj y, fun y => by rw [y]⟩
      rw [e2]
      exact q
    | byt b => cases e
    | flt b => cases e
    | ref a => cases e
    | ty n => cases e
  | lst h1 h2 h3 =>
    cases rx
    obtain ⟨its, rv, pl, _⟩ := I.list (sql_of h1)
    exact SeqAt.RcAt.list_str z t pl.isList hu X.prog X.w _ _ ⟨.bl false, H, I, rfl, q⟩
  | tup h1 h2 h3 =>
    cases rx
    obtain ⟨its, rv, pl, _⟩ := I.tuple (sqt_of h1)
    exact SeqAt.RcAt.tuple_str z t pl hu X.prog X.w _ _ ⟨.bl false, H, I, rfl, q⟩
  | dct h1 h2 h3 h4 =>
    cases rx
    obtain ⟨_, _, vs, rel, o, es, ep, ho, hx, hdat, _⟩ := dk_of I.hok h1
    exact SeqAt.RcAt.dict_str z t ho hx.1 hdat hu X.prog X.w _ _ ⟨.bl false, H, I, rfl, q⟩
end Hw

set_option Elab.async false
set_option linter.all false
set_option maxRecDepth 100000
set_option maxHeartbeats 4000000
namespace Hw
open PySem L2 PyProof.Rows
/-! max(xs), xs a list of data -/
def rMaxB (K : PySem.W.Frag) : List V → Hp → VK → Prop := fun vs H Q => ∃ (a : Addr) (b0 : V × PyData) (bs : List (V × PyData)), vs = [V.ref a] ∧ SqL K H a ((b0 :: bs).map (·.1)) ∧ (∀ b ∈ b0 :: bs, Dp K H b.1 b.2 ∧ b.2.depth ≤ 50) ∧ PySem.W.AlikeAll ((b0 :: bs).map (·.2)) ∧
  ∀ b ∈ b0 :: bs, b.2 = PySem.W.maxD b0.2 (bs.map (·.2)) → Q b.1 H
theorem readsAll_vals {X : Cx} {pins : List (Addr × Obj)} {s : Shared} {σ : L2.St} {H : Hp} (I : Inv X pins σ H s) : ∀ {bs : List (V × PyData)} {us : List Value}, (∀ b ∈ bs, Dp X.K H b.1 b.2) → Vals (bs.map (·.1)) us → ∃ as, ReadsAll s.heap us (bs.map (·.2)) as
  | [], _, _, r => by cases r; exact ⟨_, .nil⟩
  | b :: bs, _, h, r => by
    cases r with
    | cons r1 r2 =>
      obtain ⟨as, x⟩ := Dp.reads I b.2 b.1 _ (h b List.mem_cons_self) r1
      obtain ⟨as', y⟩ := readsAll_vals I (fun b hb => h b (List.mem_cons_of_mem _ hb)) r2
      exact ⟨_, .cons x y⟩
theorem depthAll_le50 : ∀ {ds : List PyData} {n : Nat}, (∀ d ∈ ds, d.depth ≤ n) → PyData.depthAll ds ≤ n
  | [], _, _ => by rw [PyData.depthAll]; exact Nat.zero_le _
  | d :: ds, n, h => by
    rw [PyData.depthAll]
    have h1 := h d List.mem_cons_self
    have h2 := depthAll_le50 fun x hx => h x (List.mem_cons_of_mem _ hx)
    omega
section
variable {X : Cx}
theorem cr_maxB (hc : X.calm = true) (hu : X.A.units + 64 < cLine) : CallR X (.builtin "max") (rMaxB X.K) := by
  intro pins s σ H vs us Q I r h
  obtain ⟨a, b0, bs, rfl, hs, hd, hal, q⟩ := h
  obtain ⟨its, rv, hl, _⟩ := I.list hs
  rw [Vals.ref1 r]
  obtain ⟨as, hr⟩ := readsAll_vals I (fun b hb => (hd b hb).1) rv
  have hdep : PyData.depthAll ((b0 :: bs).map (·.2)) ≤ 50 := depthAll_le50 fun d hd' => by
    obtain ⟨b, hb, rfl⟩ := List.mem_map.mp hd'
    exact (hd b hb).2
  have hr' : ReadsAll s.heap its.toArray.toList (b0.2 :: bs.map (·.2)) as := hr
  refine PySem.W.max_list_data (x := b0.2) (xs := bs.map fun b : V × PyData => b.2) (I.ok.hd hc) hl.isList hr' hal (by
    have e : PyData.depthAll (b0.2 :: bs.map (·.2)) ≤ 50 := hdep
    omega) fun i v h' tk bs' hv hR hk => ?_
  have hv' : its[i]? = some v := by simpa using hv
  have hlen := rv.length
  obtain ⟨b, hb, rb⟩ : ∃ b, (b0 :: bs)[i]? = some b ∧ RelV b.1 v := by
    have hi := (List.getElem?_eq_some_iff.mp hv').1
    have hi2 : i < (b0 :: bs).length := by rw [List.length_map] at hlen; omega
    have e1 : ((b0 :: bs).map (·.1))[i]? = some ((b0 :: bs)[i]).1 := by rw [List.getElem?_map, List.getElem?_eq_getElem hi2]; rfl
    obtain ⟨u, hu1, hu2⟩ := rv.get e1
    rw [hv'] at hu1
    cases hu1
    exact ⟨_, List.getElem?_eq_getElem hi2, hu2⟩
  have hbm := List.mem_of_getElem? hb
  obtain ⟨as2, hR2⟩ := Dp.reads I b.2 b.1 _ (hd b hbm).1 rb
  have e := (reads_det (fun c o e _ => hk c o e) hR2 hR).1
  exact ⟨b.1, H, I.kept hk, rb, q b hbm e.symm⟩
end
/-! x, *y = a list -/
section
variable {X : Cx}
theorem walks_tail {prog : Program} {w : World} {A : Around} (hh : A.handled = none) (I ax : Addr) (hne : ax ≠ I) (items : Array Value) :
    Walks prog w A I [I, ax] [I] (items.size - 1) (fun i v => items[i + 1]? = some v) (fun i h => h.IsListIter I ax (i + 1) ∧ h.IsList ax items ∧ 0 < items.size) where
  sub := fun b hb => by simp at hb; simp [hb]
  frame := fun _ _ _ st hk => ⟨st.1.at fun o e => hk I (by simp) o e, st.2.1.at fun o e => hk ax (by simp) o e, st.2.2⟩
  item := fun i s Q E hi st hQ => by
    refine wpAny_pyNext_list_item st.1 st.2.1 (x := items[i + 1]) (by simp) fun h' hit' hs' => ?_
    exact hQ _ h' s.toks (by simp) ⟨hit', st.2.1.extBut hs'.extBut hne, st.2.2⟩ fun b o hb e => hs'.extBut b o (fun h => hb (by simp [h])) e
  done := fun s Q E st hQ => wpAny_pyNext_list_end hh st.1 st.2.1 (by have := st.2.2; simp; omega) fun h' he' => hQ h' s.toks fun b o hb e => he' b o (fun h => hb (by simp [h])) e
  self := fun _ _ _ _ st hQ => wpAny_pyIter_listiter st.1 hQ
theorem unpack_star {prog : Program} {w : World} {A : Around} {E : Value → Shared → Prop} {s : Shared} {l : Addr} {its : List Value} {x : Value} {Q : List Value → Shared → Prop} (hh : A.handled = none) (hl : s.heap.IsList l (x :: its).toArray) (hn : its.length < sizeLine)
    (h : ∀ (hp : Heap) (tk : Nat), (∀ b o, s.heap.get? b = some o → hp.get? b = some o) → Q [x, .ref hp.objs.size] { s with heap := hp.push { cls := .type "list", data := .seq its.toArray }, toks := tk }) :
    wpAny (model prog w) A (unpackItems (.ref l) 2 (some 1)) Q E s := by
  have hlt : l < s.heap.objs.size := by obtain ⟨_, e, _⟩ := hl; exact Heap.lt_size e
  unfold unpackItems
  refine wpAny_bind ?_
  unfold notIterableAtAll
  refine wpAny_bind (wpAny_specialOf hl.typeIs F.slot_list_iter.lookup ?_)
  refine wpAny_pure ?_
  simp only [Bool.false_eq_true, if_false]
  refine wpAny_bind (wpAny_holding (wpAny_pyIter_list hl ?_))
  have hit : (s.heap.push { cls := .type "list_iterator", data := .fields #[.ref l, .int 0 0] }).IsListIter s.heap.objs.size l 0 := ⟨_, Heap.get?_push_size _ rfl, rfl, rfl⟩
  have hne : l ≠ s.heap.objs.size := Nat.ne_of_lt hlt
  refine wpAny_bind (wpAny_holding ?_)
  show wpAny _ _ (pyNext (.ref s.heap.objs.size) >>= _) _ _ _
  refine wpAny_bind (wpAny_pyNext_list_item hit (hl.push _) (x := x) (by simp) fun h₁ hit₁ hs₁ => ?_)
  refine wpAny_bind (wpAny_holding ?_)
  show wpAny _ _ (pure []) _ _ _
  refine wpAny_pure (wpAny_pure ?_)
  rw [if_neg (by simp)]
  have hl₁ : h₁.IsList l (x :: its).toArray := (hl.push _).extBut hs₁.extBut hne
  have k₁ : ∀ b o, s.heap.get? b = some o → h₁.get? b = some o := fun b o e => hs₁.extBut b o (Nat.ne_of_lt (Heap.lt_size e)) (Heap.get?_push_of_some _ e)
  have hsz1 : s.heap.objs.size < h₁.objs.size := by obtain ⟨_, e, _⟩ := hit₁; exact Heap.lt_size e
  have hl1lt : l < h₁.objs.size := by obtain ⟨_, e, _⟩ := hl₁; exact Heap.lt_size e
  refine wpAny_bind (wpAny_holding ?_)
  refine wpAny_collect_iter (s := { s with heap := h₁ }) (T := "list_iterator") (.inr (.inr (.inl rfl))) (walks_tail (A := A.in1) hh s.heap.objs.size l hne (x :: its).toArray).toS (fun i s' st => st.1.typeIs) ⟨hit₁, hl₁, by simp⟩ (fun b hb => ?_) (by simp) (fun s' acc m hI => ?_) (by simp; omega)
  · rcases List.mem_cons.mp hb with rfl | hb
    · exact hsz1
    · rcases List.mem_cons.mp hb with rfl | hb
      · exact hl1lt
      · cases hb
  have hacc : acc.toList = its := by
    obtain ⟨e1, e2⟩ := hI
    have e1 : acc.size = its.length := by rw [e1]; simp
    refine List.ext_getElem (by simpa using e1) fun i h1 h2 => ?_
    have h3 : i < acc.size := by simpa using h1
    have := e2 i acc[i] (by simp [h3])
    have e4 : (x :: its)[i + 1]? = some acc[i] := by simpa using this
    rw [List.getElem?_cons_succ, List.getElem?_eq_getElem h2] at e4
    simpa using (Option.some.inj e4).symm
  rw [hacc]
  show wpAny _ _ (if its.length < 2 - 1 - 1 then _ else _) _ _ _
  rw [if_neg (by omega)]
  show wpAny _ _ (newList (its.take (its.length - (2 - 1 - 1))) >>= _) _ _ _
  have e0 : its.take (its.length - (2 - 1 - 1)) = its := by rw [show its.length - (2 - 1 - 1) = its.length from by omega, List.take_length]
  rw [e0]
  have e9 : its.drop (its.length - (2 - 1 - 1)) = [] := by rw [show its.length - (2 - 1 - 1) = its.length from by omega, List.drop_length]
  refine wpAny_bind (wpAny_newList ?_ (by omega))
  refine wpAny_pure ?_
  rw [e9]
  obtain ⟨hp, g, d, tk, os⟩ := s'
  have eg : g = s.gens := m.gens
  have ed : d = s.drawn := m.drawn
  have eo : os = s.os := m.os
  subst eg; subst ed; subst eo
  have k₂ : ∀ b o, s.heap.get? b = some o → hp.get? b = some o := fun b o e => m.heap b o (fun hb => by
    rw [List.mem_singleton.mp hb] at e
    exact absurd (Heap.lt_size e) (Nat.lt_irrefl _)) (k₁ b o e)
  exact h hp tk k₂
def gStar2 (K : PySem.W.Frag) (g1 g2 : TG) : TG := fun v σ H Q => ∃ (a : Addr) (x : V) (xs : List V), v = .ref a ∧ SqL K H a (x :: xs) ∧ xs.length < sizeLine ∧ ∀ p, H p = none → g1 x σ (upd H p (.lst xs)) fun σ1 H1 => g2 (.ref p) σ1 H1 Q
theorem pg_star2 {e1 e2 : Expr} {k : Nat} {pos sp : Pos} {g1 g2 : TG} (hc : X.calm = true) (h1 : PG X e1 g1) (h2 : PG X e2 g2) (hae : assignEach [e1, .Starred e2 sp] X.env = [(false, assign e1 X.env), (true, assign e2 X.env)] := by rfl) : PG X (.Tuple [e1, .Starred e2 sp] k pos) (gStar2 X.K g1 g2) := by
  refine ⟨fun pins s σ H v u Q I r hw => ?_⟩
  obtain ⟨a, x, xs, rfl, hq, hl, hw⟩ := hw
  cases r
  obtain ⟨its, rv, hl2, _⟩ := I.list hq
  rw [assign_Tuple]
  refine wpAny_bind (wpAny_standAt ?_)
  unfold unpack
  rw [hae]
  cases rv with
  | @cons _ u _ us r1 r2 =>
    refine wpAny_bind (wpAny_holding (unpack_star (I.ok.hd hc) hl2.isList (by have := r2.length; omega) fun hp tk k => ?_))
    have I1 : Inv X pins σ H { s with heap := hp, toks := tk } := I.kept (t' := tk) k
    have hget : (hp.push { cls := .type "list", data := .seq us.toArray }).get? hp.objs.size = some { cls := .type "list", data := .seq us.toArray } := Heap.get?_push_size _ rfl
    have I2 := I1.laid (t' := tk) (a := hp.objs.size) (o := .lst xs) (h' := hp.push { cls := .type "list", data := .seq us.toArray }) (fun b o e => Heap.get?_push_of_some _ e) (Nat.le_refl _) ⟨Nat.le_of_lt hl, us, _, r2, hget⟩
    have fin := hw hp.objs.size (I1.hok.fresh (Nat.le_refl _))
    show wpAny _ _ (assignInOrder [assign e1 X.env, assign e2 X.env] [u, .ref hp.objs.size]) _ _ _
    refine assignInOrder_cons (thn (h1.run pins _ σ _ _ _ _ I2 r1 fin) fun _ s1 ⟨σ1, H1, I3, q1⟩ => ?_)
    refine assignInOrder_cons (thn (h2.run pins s1 σ1 H1 (.ref hp.objs.size) _ _ I3 rfl q1) fun _ s2 ⟨σ2, H2, I4, q2⟩ => ?_)
    exact assignInOrder_nil ⟨σ2, H2, I4, q2⟩
end
/-- a dict comprehension, over anything that is walked -/
theorem dct_it {J : It} {n : Nat} {G : Hp → Prop} {Y : Nat → Hp → V → Hp → Prop} (wk : Walk J n G Y) {g : TG} {tt : TT} {tk tv : TE} {vs : List Nat} {σ : L2.St} {H1 : Hp} {D : Addr} {Qd : Hp → Prop} (Pv : Nat → Hp → Prop) (h0 : Pv 0 (upd H1 D (.dK []))) (hG : ∀ i H, i ≤ n → Pv i H → G H)
    (turn : ∀ i x H H', i < n → Pv i H → Y i H x H' → g x (wipe σ vs) H' fun σ2 H2 => wipe σ2 vs = wipe σ vs ∧ tt σ2 H2 fun b H3 =>
      if b = true then tk σ2 H3 fun y H4 => tv σ2 H4 fun z H5 => ∃ kvs k, y = kV k ∧ H5 D = some (.dK kvs) ∧ kvs.length < sizeLine ∧ Pv (i + 1) (upd H5 D (.dK (putK kvs k z))) else Pv (i + 1) H3) (hd : ∀ H, Pv n H → Qd H) :
    ∃ W : Nat → Nat → Hp → Prop, (∃ m, W 0 m (upd H1 D (.dK []))) ∧ ∀ i m H, W i m H →
      (J.stop i H ∧ Qd H) ∨ (J.go i H ∧ ∃ Nx : Hp → Prop, (∀ H', Nx H' → ∃ m', m' < m ∧ W (i + 1) m' H') ∧ ∀ x H', J.yld i H x H' → g x (wipe σ vs) H' fun σ2 H2 => wipe σ2 vs = wipe σ vs ∧ tt σ2 H2 fun b H3 =>
        if b = true then tk σ2 H3 fun y H4 => tv σ2 H4 fun z H5 => ∃ kvs k, y = kV k ∧ H5 D = some (.dK kvs) ∧ kvs.length < sizeLine ∧ Nx (upd H5 D (.dK (putK kvs k z))) else Nx H3) := by
  refine ⟨fun i m H => m = n - i ∧ i ≤ n ∧ Pv i H, ⟨n, (Nat.sub_zero n).symm, Nat.zero_le _, h0⟩, ?_⟩
  rintro i m H ⟨em, hi, p⟩
  subst em
  have gH := hG i H hi p
  rcases Nat.lt_or_ge i n with lt | ge
  · exact .inr ⟨wk.goes i H lt gH, Pv (i + 1), fun H' p' => ⟨n - (i + 1), by omega, rfl, lt, p'⟩, fun x H' y => turn i x H H' lt p (wk.yields i H x H' lt gH y)⟩
  · obtain rfl : i = n := by omega
    exact .inl ⟨wk.stops H gH, hd H p⟩
theorem cr_sumT {X : Cx} (hc : X.calm = true) : CallR X (.builtin "sum") (fun vs H Q => ∃ (a : Addr) (ns : List Int), vs = [V.ref a] ∧ SqT X.K H a (ns.map V.int) ∧ Q (.int ns.sum) H) := by
  intro pins s σ H vs us Q I r h
  obtain ⟨a, ns, rfl, hs, q⟩ := h
  obtain ⟨its, rv, hl, _⟩ := I.tuple hs
  rw [Vals.ref1 r]
  obtain ⟨xs, e⟩ := rv.ints.allInts.items
  have hn : numsOf (intItems xs).toList = ns := by rw [← e]; exact rv.ints.numsOf
  rw [nums_intItems] at hn
  have hl' : s.heap.IsTuple a (intItems xs) := by rw [← e]; exact hl
  refine PySem.W.ktm_sumG (I.ok.hd hc) hl' fun h' tk t' hk => ?_
  refine ⟨.int ns.sum, H, I.kept hk, ⟨t', ?_⟩, q⟩
  rw [preSum_eq, List.take_of_length_le (by simp), hn]
end Hw

set_option Elab.async false
set_option linter.all false
set_option maxRecDepth 100000
set_option maxHeartbeats 4000000
namespace Hw
open PySem L2 PyProof.Rows
/-! min of a tuple of ints -/
def minI (x : Int) (xs : List Int) : Int := xs.foldl (fun a y => if y < a then y else a) x
theorem minI_spec : ∀ (xs : List Int) (x : Int), minI x xs ∈ x :: xs ∧ ∀ y ∈ x :: xs, minI x xs ≤ y
  | [], x => ⟨List.mem_cons_self, fun y hy => by rw [List.mem_singleton.mp hy]; exact Int.le_refl _⟩
  | z :: xs, x => by
    unfold minI
    rw [List.foldl_cons]
    have ih := minI_spec xs (if z < x then z else x)
    unfold minI at ih
    obtain ⟨h1, h2⟩ := ih
    generalize hm : (if z < x then z else x) = m at h1 h2 ⊢
    have hmm : (m = z ∨ m = x) ∧ m ≤ z ∧ m ≤ x := by
      rw [← hm]
      split
      · exact ⟨.inl rfl, by omega, by omega⟩
      · exact ⟨.inr rfl, by omega, by omega⟩
    have h0 := h2 m List.mem_cons_self
    refine ⟨?_, fun y hy => ?_⟩
    · rcases List.mem_cons.mp h1 with e | e
      · rw [e]
        rcases hmm.1 with e | e
        · rw [e]; exact List.mem_cons_of_mem _ List.mem_cons_self
        · rw [e]; exact List.mem_cons_self
      · exact List.mem_cons_of_mem _ (List.mem_cons_of_mem _ e)
    · rcases List.mem_cons.mp hy with e | hy
      · rw [e]; exact Int.le_trans h0 hmm.2.2
      · rcases List.mem_cons.mp hy with e | hy
        · rw [e]; exact Int.le_trans h0 hmm.2.1
        · exact h2 y (List.mem_cons_of_mem _ hy)
theorem minD_ints (x : Int) (xs : List Int) : PySem.W.minD (.int x) (xs.map PyData.int) = .int (minI x xs) := by
  unfold PySem.W.minD minI
  induction xs generalizing x with
  | nil => rfl
  | cons y xs ih =>
    rw [List.map_cons, List.foldl_cons, List.foldl_cons, PySem.W.dataLt_int]
    by_cases h : y < x
    · rw [if_pos h, if_pos (decide_eq_true h)]; exact ih y
    · rw [if_neg h, if_neg (by simpa using h)]; exact ih x
theorem ints_reads {h : Heap} : ∀ {ns : List Int} {us : List Value}, Vals (ns.map V.int) us → ReadsAll h us (ns.map PyData.int) []
  | [], _, r => by cases r; exact .nil
  | n :: ns, _, r => by
    cases r with
    | cons r1 r2 =>
      obtain ⟨t, rfl⟩ := r1
      exact (ReadsAll.cons (.int n t) (ints_reads r2) : ReadsAll h _ _ ([] ++ []))
def rMinT (K : PySem.W.Frag) : List V → Hp → VK → Prop := fun vs H Q => ∃ (a : Addr) (ns : List Int), vs = [V.ref a] ∧ SqT K H a (ns.map V.int) ∧ 0 < ns.length ∧ ∀ m, m ∈ ns → (∀ y, y ∈ ns → m ≤ y) → Q (.int m) H
theorem cr_minT {X : Cx} (hc : X.calm = true) (hu : X.A.units + 64 < cLine) : CallR X (.builtin "min") (rMinT X.K) := by
  intro pins s σ H vs us Q I r h
  obtain ⟨a, ns, rfl, hs, hne, q⟩ := h
  obtain ⟨its, rv, hl, _⟩ := I.tuple hs
  rw [Vals.ref1 r]
  cases ns with
  | nil => exact absurd hne (by simp)
  | cons n ns =>
    have hr : ReadsAll s.heap its.toArray.toList (.int n :: ns.map PyData.int) [] := ints_reads rv
    have hal : PySem.W.AlikeAll (.int n :: ns.map PyData.int) := by
      have e : (PyData.int n :: ns.map PyData.int) = (n :: ns).map PyData.int := rfl
      rw [e]
      refine ⟨fun d hd d' hd' => ?_, fun d hd => ?_⟩
      · obtain ⟨x, _, rfl⟩ := List.mem_map.mp hd
        obtain ⟨y, _, rfl⟩ := List.mem_map.mp hd'
        simp [PySem.W.alike]
      · obtain ⟨x, _, rfl⟩ := List.mem_map.mp hd
        exact fun e => nomatch e
    have hdep : PyData.depthAll (.int n :: ns.map PyData.int) ≤ 50 := depthAll_le50 (ds := (n :: ns).map PyData.int) fun d hd => by
      obtain ⟨x, _, rfl⟩ := List.mem_map.mp hd
      simp [PyData.depth]
    refine PySem.W.min_tuple_data (I.ok.hd hc) hl hr hal (by omega) fun i v h' tk bs hv hR hk => ?_
    rw [minD_ints] at hR
    obtain ⟨m1, m2⟩ := minI_spec ns n
    cases hR with
    | int i t => exact ⟨.int (minI n ns), H, I.kept hk, ⟨t, rfl⟩, q _ m1 m2⟩
end Hw

set_option Elab.async false
set_option linter.all false
set_option maxRecDepth 100000
set_option maxHeartbeats 4000000
namespace Hw
open PySem PySem.Spec L2 PyProof PyProof.Rows HotX
/-! a pair as the target of a comprehension while an exception is handled -/
section
variable {prog : Program} {w : World} {A : Around} {E : Value → Shared → Prop} {s : Shared}
/-- a tuple's iterator ends while an exception is handled -/
theorem tuple_end_hot {it l x1 : Addr} {i : Nat} {items : Array Value} {Q : Option Value → Shared → Prop} (hot : HotAt A x1 s.heap) (hne : x1 ≠ it) (hit : IsTupIter s.heap it l i) (hl : IsTup s.heap l items) (hx : items[i]? = none)
    (hQ : ∀ h', (∀ b o, b ≠ it → s.heap.get? b = some o → h'.get? b = some o) → Q none { s with heap := h' }) : wpAny (model prog w) A (pyNext (.ref it)) Q E s := by
  obtain ⟨o, ho, hc, hd⟩ := id hit
  obtain ⟨ol, hol, _, nl, hdl⟩ := hl
  obtain ⟨hh, o1, vs1, h1, d1, c1⟩ := hot
  unfold pyNext
  refine wpAny_bind (wpAny_attempt (wpAny_callSpecial?_slot (name := Str.ofString "__next__") hit.typeIs slot_tupleiter_next
    (wpAny_call_entry slot_tupleiter_next hit.typeIs entry_tupleiter_next ?_ (args_tupleiter_next _))))
  show wpAny _ _ (field (.ref it) 0 >>= _) _ _ s
  refine wpAny_bind (wpAny_field ho hd (x := .ref l) rfl ?_)
  show wpAny _ _ (if (Value.ref l == Value.none) = true then _ else _) _ _ s
  rw [if_neg (show ¬ ((Value.ref l == Value.none) = true) from Bool.false_ne_true)]
  show wpAny _ _ (field (.ref it) 1 >>= _) _ _ s
  refine wpAny_bind (wpAny_field ho hd (x := .int i 0) rfl ?_)
  show wpAny _ _ (seqItems? (.ref l) >>= _) _ _ s
  refine wpAny_bind (wpAny_seqItems hol hdl ?_)
  simp only [Int.toNat_natCast, hx]
  refine wpAny_bind (wpAny_rule (wpAny_bind (wpAny_setField ho hd (by simp) ?_)))
  show wpAny _ _ (newExc (.type "StopIteration") [] >>= _) _ _ _
  refine wpAny_bind ?_
  simp only [newExc, newTuple]
  refine wpAny_bind (wpAny_newObj_type ?_ (by size_fits))
  refine wpAny_bind (m := firstArgMember _ _) (wpAny_of_eq (a := Value.none) (by first | rfl | (simp only [firstArgMember]; rfl)) ?_)
  refine wpAny_newObj_type ?_ (by size_fits)
  have hu := (Heap.get?_update_other s.heap (Obj.mapFields (·.setIfInBounds 0 Value.none)) (Ne.symm hne)).trans h1
  refine raiseNew_hot ⟨hh, o1, vs1, Heap.get?_push_of_some _ (Heap.get?_push_of_some _ hu), d1, c1⟩ (Nat.ne_of_lt (Heap.lt_size (Heap.get?_push_of_some _ hu))) (Heap.get?_push_size _ rfl) rfl (by first | (simp; done) | (simp; omega) | (simp only [Array.size_append]; simp; omega)) ?_
  refine wpAny_bind (wpAny_isInstance (T := "StopIteration") (b := true) ⟨_, Heap.get?_update_self _ (Heap.get?_push_size _ rfl) rfl, rfl⟩ isSubtype_stop ?_)
  refine wpAny_pure (hQ _ fun b o hb e => ?_)
  have eu := (Heap.get?_update_other s.heap (Obj.mapFields (·.setIfInBounds 0 Value.none)) (Ne.symm hb)).trans e
  rw [Heap.get?_update_other _ _ (Nat.ne_of_gt (Heap.lt_size (Heap.get?_push_of_some _ eu)))]
  exact Heap.get?_push_of_some _ (Heap.get?_push_of_some _ eu)
theorem hot_ext {A : Around} {x1 it : Addr} {h h' : Heap} (hot : HotAt A x1 h) (hne : x1 ≠ it) (k : ∀ b o, b ≠ it → h.get? b = some o → h'.get? b = some o) : HotAt A x1 h' := by
  obtain ⟨hh, o, vs, e, d, c⟩ := hot
  exact ⟨hh, o, vs, k _ _ hne e, d, c⟩
theorem unpackItems_tupleW {x1 t : Addr} {items : Array Value} {Q : List Value → Shared → Prop} (hot : HotAt A x1 s.heap) (ht : IsTup s.heap t items)
    (hQ : ∀ h', Heap.ExtBut s.heap.objs.size s.heap h' → Q items.toList { s with heap := h' }) : wpAny (model prog w) A (unpackItems (.ref t) items.size none) Q E s := by
  have hlt : t ≠ s.heap.objs.size := by obtain ⟨o, ho, _⟩ := ht; exact Nat.ne_of_lt (Heap.lt_size ho)
  have hx1 : x1 ≠ s.heap.objs.size := by obtain ⟨_, o, _, ho, _⟩ := hot; exact Nat.ne_of_lt (Heap.lt_size ho)
  unfold unpackItems
  refine wpAny_bind ?_
  · unfold notIterableAtAll
    refine wpAny_bind (wpAny_specialOf ht.typeIs slot_tuple_iter.lookup ?_)
    refine wpAny_pure ?_
    simp only [Bool.false_eq_true, if_false]
    refine wpAny_bind (wpAny_holding (iter_tuple ht ?_))
    refine wpAny_bind (wpAny_holding (draw_tuple hlt items.size 0 _ _ ⟨_, Heap.get?_push_size _ rfl, rfl, rfl⟩ (ht.push _) (by omega) fun h₁ hit₁ hs₁ => ?_))
    have hall : List.take items.size (List.drop 0 items.toList) = items.toList := by
      rw [List.drop_zero]; exact List.take_of_length_le (by simp)
    rw [hall]
    rw [if_neg (by simp)]
    have ht₁ : IsTup h₁ t items := (ht.push _).extBut hs₁.extBut hlt
    have hot₁ : HotAt A x1 h₁ := hot_ext hot hx1 fun b o hb e => hs₁.extBut b o hb (Heap.get?_push_of_some _ e)
    refine wpAny_bind (wpAny_holding (tuple_end_hot hot₁ hx1 hit₁ ht₁ (by simp) fun h₂ he₂ => ?_))
    simp only [Option.isSome_none, Bool.false_eq_true, if_false]
    refine wpAny_pure (hQ h₂ fun b o hb e => he₂ b o hb (hs₁.extBut b o hb (Heap.get?_push_of_some _ e)))
theorem assign_Tuple_tupleW {x1 : Addr} {env : Env} {elts : List Expr} {k1} {pos : Pos} {t : Addr} {items : Array Value} {Q : Unit → Shared → Prop} (hot : HotAt A x1 s.heap) (ht : IsTup s.heap t items)
    (hn : (assignEach elts env).length = items.size) (hstar : (assignEach elts env).findIdx? (·.1) = none)
    (h : ∀ h', Heap.ExtBut s.heap.objs.size s.heap h' → wpAny (model prog w) A (assignInOrder ((assignEach elts env).map (·.2)) items.toList) Q E { s with heap := h' }) :
    wpAny (model prog w) A (assign (.Tuple elts k1 pos) env (.ref t)) Q E s := by
  rw [assign_Tuple]
  refine wpAny_bind (wpAny_standAt ?_)
  unfold unpack
  rw [hn, hstar]
  exact wpAny_bind (wpAny_holding (unpackItems_tupleW hot ht h))
end
/-- a target, where the handled exception is among the pins -/
structure PGW (X : Cx) (p : Addr × Obj) (tg : Expr) (g : TG) : Prop where
  run : ∀ (pins : List (Addr × Obj)) (s : Shared) (σ : L2.St) (H : Hp) (v : V) (u : Value) (Q : L2.St → Hp → Prop), p ∈ pins → Inv X pins σ H s → RelV v u → g v σ H Q → wpAny (model X.prog X.w) X.A (assign tg X.env u) (fun _ s' => ∃ σ' H', Inv X pins σ' H' s' ∧ Q σ' H') X.xe s
theorem PGW.of {X : Cx} {p : Addr × Obj} {tg : Expr} {g : TG} (h : PG X tg g) : PGW X p tg g := ⟨fun pins s σ H v u Q _ I r hg => h.run pins s σ H v u Q I r hg⟩
theorem pg_tupW {X : Cx} {p : Addr × Obj} {es : List Expr} {k : Nat} {t : TGs} {n : Nat} {pos : Pos} (hot : L2H.Hot1 X.A p) (h : PGs X es t)
    (hn : (assignEach es X.env).length = n := by rfl) (hst : (assignEach es X.env).findIdx? (·.1) = none := by rfl) : PGW X p (.Tuple es k pos) (gTup X.K n t) := by
  refine ⟨fun pins s σ H v u Q hp I r hw => ?_⟩
  obtain ⟨a, xs, e1, hq, hl, hw⟩ := hw
  subst e1
  cases r
  obtain ⟨its, rv, ht, hz⟩ := I.tuple hq
  have ha : HotAt X.A p.1 s.heap := by
    obtain ⟨hh, vs, d, c⟩ := hot
    exact ⟨hh, p.2, vs, (I.pin p (List.mem_append_right _ hp)).1, d, c⟩
  refine assign_Tuple_tupleW ha ht (by simp [hn, ← hl, rv.length]) hst fun h' hx => ?_
  have I1 : Inv X pins σ H { s with heap := h' } := I.kept (t' := s.toks) fun b o e => hx b o (Nat.ne_of_lt (Heap.lt_size e)) e
  exact h.run pins _ σ H xs _ Q I1 (by simpa using rv) hw
/-- as tLc, the new list being no module table -/
def tLcB (wi : TI) (g : TG) (tt : TT) (te : TE) (vs : List Nat) : TE := fun σ H Q => tLc wi g tt te vs σ H fun x H' => x ≠ .ref sysModules → Q x H'
def tLstB (t : TA) : TE := fun σ H Q => t σ H fun xs H1 => xs.length ≤ sizeLine ∧ ∀ p, H1 p = none → p ≠ sysModules → Q (.ref p) (upd H1 p (.lst xs))
section
variable {X : Cx}
theorem pe_lstB {es : List Expr} {t : TA} {pos : Pos} (h : PA X es t) : PE X (.List es pos) (tLstB t) := by
  refine ⟨fun pins s σ H Q I hq => ?_⟩
  refine wpAny_List_spliced (thn (h.run pos pins s σ H _ I hq) fun us s1 ⟨xs, H1, I1, r, z, q⟩ => ⟨by rw [← r.length]; exact z, ?_⟩)
  have hf : H1 s1.heap.objs.size = none := I1.hok.fresh (Nat.le_refl _)
  refine ⟨.ref s1.heap.objs.size, upd H1 s1.heap.objs.size (.lst xs), I1.laid (t' := s1.toks) (fun b u e => Heap.get?_push_of_some _ e) (Nat.le_refl _) ?_, rfl, q _ hf (Nat.ne_of_gt I1.big)⟩
  exact ⟨z, us, 0, r, Heap.get?_push_size _ rfl⟩
/-- repr of None or of ([a text], data) -/
def rReprP : List V → Hp → VK → Prop := fun xs H Q => ∃ x : V, xs = [x] ∧ ((x = .non ∧ Q (.str PyData.none.shown) H) ∨ ∃ (tp l : Addr) (v : V) (a : Addr) (d : PyData) (z : Str), x = .ref tp ∧ H tp = some (.tup [.ref l, v]) ∧ H l = some (.lst [.str z]) ∧ l ≠ sysModules ∧ Dx a H v d ∧ fineD d = true ∧
  (PyData.tuple [.list [.str z], d]).showable = true ∧ (PyData.tuple [.list [.str z], d]).depth ≤ 60 ∧ (PyData.tuple [.list [.str z], d]).shown.length ≤ 2000 ∧ Q (.str (PyData.tuple [.list [.str z], d]).shown) H)
theorem dx_reads {pins : List (Addr × Obj)} {σ : L2.St} {H : Hp} {s : Shared} {a : Addr} {v : V} {d : PyData} {u : Value} (I : Inv X pins σ H s) (x : Dx a H v d) (hf : fineD d = true) (r : RelV v u) : ∃ as, Reads s.heap u d as ∧ (d.hasDict = true → sysModules ∉ as) := by
  unfold fineD at hf
  simp only [Bool.and_eq_true] at hf
  obtain ⟨_, _, _, hf⟩ := hf
  by_cases hdict : ∃ ds, d = .dict ds
  · obtain ⟨ds, rfl⟩ := hdict
    cases x with
    | flat e => cases v <;> cases e
    | @dct p kvs _ h1 h2 h3 h4 =>
      cases r
      obtain ⟨hl, hsys, vs, kv, o, es, ep, ho, hex, hdat, _, hpr, _⟩ := dk_of I.hok h1
      obtain ⟨r1, r2⟩ := dict_reads (h := s.heap) h4 kv hpr
      refine ⟨_, .dict ho hex.1 hdat r1 r2, fun _ hm => ?_⟩
      have e : sysModules = p := by simpa using hm
      rw [← e] at hsys
      simp at hsys
  · have hf' : (!d.hasDict && (SeqAt.shaped d && PyData.eqv d d)) = true := by
      revert hf
      cases d with
      | dict ds => exact absurd ⟨ds, rfl⟩ hdict
      | _ => exact fun z => z
    simp only [Bool.and_eq_true, Bool.not_eq_true'] at hf'
    obtain ⟨as, r1⟩ := Dp.reads I d v u (Dx.dp X.K _ d hf'.1 x) r
    exact ⟨as, r1, fun z => by rw [hf'.1] at z; cases z⟩
theorem call_reprP (hg : X.A.guards = some []) (hu : X.A.units + 100 < cLine) : CallR X (.builtin "repr") rReprP := by
  intro pins s σ H xs us Q I r h
  obtain ⟨x, rfl, h⟩ := h
  obtain ⟨u, rfl, ru⟩ : ∃ u, us = [u] ∧ RelV x u := by
    cases r with
    | cons a t => cases t; exact ⟨_, rfl, a⟩
  have fin : ∀ (z : Str), Q (.str z) H → ∀ h' (tk : Tok) (tk' : Nat), (∀ b o, s.heap.get? b = some o → h'.get? b = some o) → EP X pins σ Q (.str z tk) { s with heap := h', toks := tk' } := fun z q h' tk tk' k => ⟨.str z, H, I.kept (t' := tk') k, ⟨tk, rfl⟩, q⟩
  rcases h with ⟨rfl, q⟩ | ⟨tp, l, v, a, d, z, rfl, e1, e2, nl, xd, hf, hs, hdp, hz, q⟩
  · cases ru
    exact P.repr_of_none (fin _ q s.heap _ _ fun _ _ e => e)
  · cases ru
    obtain ⟨its, rv, p, _⟩ := I.tuple (sqt_of (K := X.K) e1)
    obtain ⟨itl, rl, pl, _⟩ := I.list (sql_of (K := X.K) e2)
    cases rv with
    | cons r1 rr =>
      cases rr with
      | cons r2 rr =>
        cases rr
        cases r1
        cases rl with
        | cons r3 rr =>
          cases rr
          obtain ⟨t3, rfl⟩ := r3
          obtain ⟨as, rd, hm⟩ := dx_reads I xd hf r2
          obtain ⟨o, ho, hc, n, hd⟩ := p
          obtain ⟨ol, hol, hcl, nl', hdl⟩ := pl.isList
          have R1 : Reads s.heap (.ref l) (.list [.str z]) [l] := .list (as := []) hol hcl hdl (ReadsAll.cons (.str z t3) .nil : ReadsAll s.heap _ _ ([] ++ []))
          have R2 : Reads s.heap (.ref tp) (.tuple [.list [.str z], d]) ([l] ++ (as ++ [])) := .tuple ho hc hd (ReadsAll.cons R1 (ReadsAll.cons rd .nil))
          refine repr_of_reads' (h₀ := s.heap) R2 hs (fun hd' hm' => ?_) hg (by omega) (fun _ _ e => e) (fun h' u tk k => fin _ q h' u tk k) (Nat.le_trans hz (by decide))
          have hdd : d.hasDict = true := by simpa [PyData.hasDict, PyData.hasDictAll] using hd'
          rcases List.mem_append.mp hm' with z | z
          · exact nl (List.mem_singleton.mp z).symm
          · rw [List.append_nil] at z
            exact hm hdd z
theorem lc_coreW2 {pins : List (Addr × Obj)} {s : Shared} {σ : L2.St} {H : Hp} {Q : VK} {elt tg iter : Expr} {ifs : List Expr} {scope : Scope} {own : List (Str × Nat)} {pos pos' : Pos} {wi : TI} {g : TG} {tt : TT} {te : TE} {use : Option (Value → Sem Unit)} {Qf : Value → Shared → Prop}
    (hc : L2H.HotC X) (hN : X.N.Nodup) (I : Inv X pins σ H s) (hi : PIW X tg iter wi) (ok : BlkOk X.N X.env.scope scope own)
    (hg : ∀ (p : Addr × Obj), L2H.Hot1 X.A p → ∀ (s : Shared) (H : Hp) (C : Addr) (cl : List (Str × Addr)) (fp : List Addr), PGW (X.blk s H scope (compEnvC scope cl C X.env) fp) p tg g) (ht : ∀ (s : Shared) (H : Hp) (C : Addr) (cl : List (Str × Addr)) (fp : List Addr), PTs (X.blk s H scope (compEnvC scope cl C X.env) fp) ifs tt)
    (he : ∀ (s : Shared) (H : Hp) (C : Addr) (cl : List (Str × Addr)) (fp : List Addr), PE (X.blk s H scope (compEnvC scope cl C X.env) fp) elt te) (hs : ∀ x, foldedSetIterable iter X.env x = pure x)
    (h : tLc wi g tt te (own.map (·.2)) σ H Q)
    (hRR : ∀ D C s' m H', Inv X pins σ H' s' → Q (.ref D) H' → D ≠ sysModules → s'.heap.Ns C m → FpOk X pins H' C → compPost (model X.prog X.w) X.A X.xe use Qf (.ref D) C (.ok .next) s') :
    wpAny (model X.prog X.w) X.A (comprehension (.ListComp elt [⟨tg, iter, ifs, 0⟩] scope pos) scope X.env pos' (newList []) false (eval iter X.env) use) Qf X.xe s := by
  have hfree : ∀ y ∈ scope.names, y.2 = .free → ∃ c, X.env.cells.lookup y.1 = some c := fun y hy e => by
    rcases ok.free y hy e with k | k
    · exact I.ok.has _ (.inl k)
    · exact I.ok.has _ (.inr k)
  refine wpAny_comprehension_free (use := use) rfl hs (closure_ok hfree) ok.kind (fun y hy e => by rw [ok.uniq y hy, e])
    (thn (hi.run pins s σ H _ I h) fun xv s1 hx => thn hx fun itv s2 h2 => ?_)
  obtain ⟨it, fp, tn, J, H2, e, I2, T, st2, f2, q⟩ := h2
  subst e
  refine wpAny_newObj_type (newEnv_comp ?_) (by show 0 ≤ sizeLine; decide)
  generalize hD : s2.heap.objs.size = D
  have hDn : H2 D = none := I2.hok.fresh (Nat.le_of_eq hD)
  obtain ⟨W, ⟨m0, w0⟩, turn⟩ := q D hDn
  -- the new list
  generalize hs3 : ({ s2 with heap := s2.heap.push { cls := .type "list", data := .seq ([] : List Value).toArray } } : Shared) = s3
  have I3 : Inv X pins σ (upd H2 D (.lst [])) s3 := by
    rw [← hs3]
    refine I2.laid (t' := s2.toks) (fun b o e => Heap.get?_push_of_some _ e) (Nat.le_of_eq hD) ⟨Nat.zero_le _, [], 0, .nil, ?_⟩
    rw [← hD]
    exact Heap.get?_push_size _ rfl
  have h3 : s3.heap = s2.heap.push { cls := .type "list", data := .seq ([] : List Value).toArray } := by rw [← hs3]
  have sz : ∀ b ∈ fp, b < s2.heap.objs.size := fun b hb => by
    obtain ⟨o, e, _⟩ := T.obj _ _ st2 b hb
    exact Heap.lt_size e
  have f3 : ∀ b ∈ fp, FpOk X pins (upd H2 D (.lst [])) b ∧ b < s3.heap.objs.size := fun b hb => by
    have hlt := sz b hb
    refine ⟨⟨?_, (f2 b hb).2⟩, by rw [h3, Heap.size_push]; exact Nat.lt_succ_of_lt hlt⟩
    rw [upd_ne (by rw [← hD]; exact Nat.ne_of_lt hlt)]
    exact (f2 b hb).1
  have st3 : tn 0 s3.heap := T.keep _ _ _ st2 fun b _ o e => by rw [h3]; exact Heap.get?_push_of_some _ e
  have I4 := block_start I3 ok hN f3
  obtain ⟨p, hot1, hp⟩ := hc
  have pg := hg p hot1 s3 (upd H2 D (.lst [])) s3.heap.objs.size (cellsFrom (s3.heap.objs.size + 1) scope.names (cloFrom X.env.cells scope.names [])) fp
  have pt := ht s3 (upd H2 D (.lst [])) s3.heap.objs.size (cellsFrom (s3.heap.objs.size + 1) scope.names (cloFrom X.env.cells scope.names [])) fp
  have pe := he s3 (upd H2 D (.lst [])) s3.heap.objs.size (cellsFrom (s3.heap.objs.size + 1) scope.names (cloFrom X.env.cells scope.names [])) fp
  show codeAny _ _ (.compStart (.ListComp elt [⟨tg, iter, ifs, 0⟩] scope pos) 0 (.ref it) (.ref D) (compEnvC scope (cellsFrom (s3.heap.objs.size + 1) scope.names (cloFrom X.env.cells scope.names [])) s3.heap.objs.size X.env)) (compPost (model X.prog X.w) X.A X.xe use Qf (.ref D) s3.heap.objs.size) { s3 with heap := pushCells (s3.heap.push { cls := .type "dict", data := .dict #[] }) scope.names }
  have nfp : ∀ b ∈ fp, (upd H2 D (.lst [])) b = none := fun b hb => (f3 b hb).1.1
  generalize hce : compEnvC scope (cellsFrom (s3.heap.objs.size + 1) scope.names (cloFrom X.env.cells scope.names [])) s3.heap.objs.size X.env = ce at I4 pg pt pe ⊢
  have cL : ce.locals = s3.heap.objs.size := by subst hce; rfl
  generalize hH3 : upd H2 D (.lst []) = H3 at I3 I4 pg pt pe w0 nfp f3
  generalize hs4 : ({ s3 with heap := pushCells (s3.heap.push { cls := .type "dict", data := .dict #[] }) scope.names } : Shared) = s4 at I4 ⊢
  have I4 : Inv (X.blk s3 H3 scope ce fp) [p] (wipe σ (own.map (·.2))) H3 s4 := I4.pins_of fun q hq => by
    have eq : q = p := List.mem_singleton.mp hq
    subst eq
    obtain ⟨g, n, nl, nf, nc⟩ := I3.pin q (List.mem_append_left _ hp)
    refine ⟨by rw [← hs4]; exact pushCells_keeps _ _ _ _ (Heap.get?_push_of_some _ g), n, fun z => ?_, fun z => ?_, nc⟩
    · have lt := Heap.lt_size g
      rw [z] at lt
      exact absurd (show ce.locals < s3.heap.objs.size from lt) (by rw [cL]; exact Nat.lt_irrefl _)
    · rcases List.mem_cons.mp (I3.stkSub _ z) with z | z
      · exact nl z
      · exact nf z
  have hot : ∀ {σ' : L2.St} {H' : Hp} {s' : Shared}, Inv (X.blk s3 H3 scope ce fp) [p] σ' H' s' → HotAt X.A p.1 s'.heap := fun {σ' H' s'} I' => by
    obtain ⟨hh, vs, d, c⟩ := hot1
    exact ⟨hh, p.2, vs, (I'.pin p (by simp)).1, d, c⟩
  have st4 : tn 0 s4.heap := T.keep _ _ _ st3 fun b _ o e => by rw [← hs4]; exact pushCells_keeps _ _ _ _ (Heap.get?_push_of_some _ e)
  have stat : ∀ {σ' : L2.St} {H' : Hp} {s' : Shared}, Inv (X.blk s3 H3 scope ce fp) [p] σ' H' s' → (∀ b ∈ fp, H' b = none) → ∀ b ∈ fp, FpOk (X.blk s3 H3 scope ce fp) [p] H' b := fun {σ' H' s'} I' hn b hb =>
    ⟨hn b hb, (I'.ok.exf b hb).1, I'.ok.exfs b hb, .inl hb, fun x c e => (I'.ok.exf b hb).2 x c e, fun q hq => by
      have e : q = p := List.mem_singleton.mp hq
      rw [e]
      exact (f3 b hb).1.2.2.2.2.2 p (List.mem_append_left _ hp)⟩
  have loop : codeAny (model X.prog X.w) X.A (.compLoop (.ListComp elt [⟨tg, iter, ifs, 0⟩] scope pos) 0 (.ref it) (.ref D) ce) (compPost (model X.prog X.w) X.A X.xe use Qf (.ref D) s3.heap.objs.size) s4 := by
    refine compLoop_any (fun n s' => ∃ i H', Inv (X.blk s3 H3 scope ce fp) [p] (wipe σ (own.map (·.2))) H' s' ∧ tn i s'.heap ∧ (∀ b ∈ fp, H' b = none) ∧ W i n H') ?_ m0 ⟨0, H3, I4, st4, nfp, w0⟩
    rintro n s5 ⟨i, H5, I5, st5, n5, w5⟩
    rcases turn i n H5 w5 with ⟨stop, qq⟩ | ⟨go, Nx, hNx, step⟩
    · have td := T.done (X.blk s3 H3 scope ce fp) rfl rfl rfl p.1 i [p] s5 _ H5 (fun _ _ => False) I5 (hot I5) (fun b hb => (f3 b hb).1.2.2.2.2.2 p (List.mem_append_left _ hp)) (stat I5 n5) st5 stop
      refine thnF td fun r s6 ⟨hr, I6⟩ => ?_
      subst hr
      -- back in the def's context
      have I7 : Inv X pins σ H5 s6 := I3.call' (ch := fp) I6.os I6.base I6.hok I6.bare fun b hb => ⟨(f3 b hb).1.2.2.2.1, (f3 b hb).1.2.1, (f3 b hb).1.2.2.2.2.1, (f3 b hb).1.2.2.2.2.2⟩
      have nC : H5 s3.heap.objs.size = none := by
        have z : H5 ce.locals = none := I6.free
        rw [cL] at z
        exact z
      obtain ⟨m, hn, _⟩ := I6.loc
      have hn : s6.heap.Ns ce.locals m := hn
      rw [cL] at hn
      exact hRR D s3.heap.objs.size s6 m H5 I7 qq (by rw [← hD]; exact Nat.ne_of_gt I2.big) hn (I3.fpOk (Nat.le_refl _) nC)
    · have ti := T.item (X.blk s3 H3 scope ce fp) rfl rfl rfl i [p] s5 _ H5 (fun _ _ => False) I5 (stat I5 n5) st5 go
      refine thnF ti fun r s6 ⟨u, hr, h6⟩ => ?_
      subst hr
      refine thnF h6 fun _ s7 ⟨x, H7, I7, r7, y7, st7, n7⟩ => ?_
      have I7' := I7.pinned (stat I7 n7) (T.obj _ _ st7)
      refine thnF (pg.run _ s7 _ H7 x u _ (by simp) I7' r7 (step x H7 y7)) fun _ s8 ⟨σ8, H8, I8, hw8, q8⟩ => ?_
      refine thnF (pt.run _ s8 σ8 H8 _ I8 q8) fun b s9 ⟨H9, I9, q9⟩ => ?_
      -- the turn's end
      have fin : ∀ {s' : Shared} {H' : Hp}, Inv (X.blk s3 H3 scope ce fp) ([p] ++ pinsAt fp s7.heap) σ8 H' s' → Nx H' → ∃ m, m < n ∧ ∃ i H', Inv (X.blk s3 H3 scope ce fp) [p] (wipe σ (own.map (·.2))) H' s' ∧ tn i s'.heap ∧ (∀ b ∈ fp, H' b = none) ∧ W i m H' := fun {s' H'} I' nx => by
        obtain ⟨m', hm, w'⟩ := hNx H' nx
        have pin' : ∀ b ∈ fp, ∀ o, s7.heap.get? b = some o → s'.heap.get? b = some o ∧ H' b = none := fun b hb o e =>
          let z := I'.pin (b, o) (List.mem_append_right _ (List.mem_append_right _ (mem_pinsAt hb e)))
          ⟨z.1, z.2.1⟩
        have hl : (wipe σ (own.map (·.2))).length = σ8.length := by rw [← hw8, wipe_length]
        refine ⟨m', hm, i + 1, H', (I'.unpinned (pins := [p])).weak hl (fun j v e => ?_), T.keep _ _ _ st7 fun b hb o e => (pin' b hb o e).1, fun b hb => ?_, w'⟩
        · rw [← hw8] at e
          exact (wipe_some e).1
        · obtain ⟨o, e, _⟩ := T.obj _ _ st7 b hb
          exact (pin' b hb o e).2
      cases b with
      | false =>
        simp only [Bool.false_eq_true, if_false] at q9 ⊢
        exact fin I9 q9
      | true =>
        simp only [if_true] at q9 ⊢
        refine thnF (pe.run _ s9 σ8 H9 _ I9 q9) fun z s10 ⟨yv, H10, I10, r10, acc, hD10, hz10, nx⟩ => ?_
        exact app_ok (X := X.blk s3 H3 scope ce fp) I10 hD10 hz10 r10 fun s11 I11 => fin I11 nx
  exact codeAny_compStart_list loop (T.self X.A 0 _ _ _ st4 loop)
theorem pe_lcW2 {elt tg iter : Expr} {ifs : List Expr} {scope : Scope} {own : List (Str × Nat)} {pos : Pos} {wi : TI} {g : TG} {tt : TT} {te : TE} (hc : L2H.HotC X) (hN : X.N.Nodup) (hi : PIW X tg iter wi) (ok : BlkOk X.N X.env.scope scope own)
    (hg : ∀ (p : Addr × Obj), L2H.Hot1 X.A p → ∀ (s : Shared) (H : Hp) (C : Addr) (cl : List (Str × Addr)) (fp : List Addr), PGW (X.blk s H scope (compEnvC scope cl C X.env) fp) p tg g) (ht : ∀ (s : Shared) (H : Hp) (C : Addr) (cl : List (Str × Addr)) (fp : List Addr), PTs (X.blk s H scope (compEnvC scope cl C X.env) fp) ifs tt)
    (he : ∀ (s : Shared) (H : Hp) (C : Addr) (cl : List (Str × Addr)) (fp : List Addr), PE (X.blk s H scope (compEnvC scope cl C X.env) fp) elt te) (hs : ∀ x, foldedSetIterable iter X.env x = pure x := by intro _; rfl) :
    PE X (.ListComp elt [⟨tg, iter, ifs, 0⟩] scope pos) (tLcB wi g tt te (own.map (·.2))) := by
  refine ⟨fun pins s σ H Q I h => ?_⟩
  rw [eval_ListComp]
  refine lc_coreW2 hc hN I hi ok hg ht he hs h fun D C s' m H' I' q nD hn f => ⟨m, hn, fun h'' sb => ?_⟩
  obtain ⟨f0, f1, f2, f3, f4, f5⟩ := f
  exact ⟨.ref D, H', I'.turned (t' := s'.toks) (fun b o hb e => (sb.2 b hb).trans e) f0 f1 f3 f4 f5, rfl, q (fun e => nD (V.ref.inj e))⟩
end
end Hw

set_option Elab.async false
set_option linter.all false
set_option maxRecDepth 100000
set_option maxHeartbeats 4000000
namespace Hw
open PySem PySem.Spec L2 LamX PyProof PyProof.Rows
/-! what stays while tables are written -/
def ExtA (a : Addr) (H H' : Hp) : Prop := ∀ b o, b ≠ a → (∀ ps, o ≠ HO.tbl ps) → H b = some o → H' b = some o
theorem ExtA.refl (a : Addr) (H : Hp) : ExtA a H H := fun _ _ _ _ e => e
theorem ExtA.ofX {a : Addr} {H H' : Hp} (s : SameX a H H') : ExtA a H H' := fun b o n _ e => s b o n e
theorem ExtA.ofN {a : Addr} {H H' : Hp} (s : ExtN H H') : ExtA a H H' := fun b o _ n e => s b o e n
theorem ExtA.ofS {a : Addr} {H H' : Hp} (s : Same H H') : ExtA a H H' := fun b o _ _ e => s b o e
theorem ExtA.trans {a : Addr} {H H1 H2 : Hp} (x : ExtA a H H1) (y : ExtA a H1 H2) : ExtA a H H2 := fun b o n m e => y b o n m (x b o n m e)
theorem ExtA.lst {a b : Addr} {H H' : Hp} {xs : List V} (s : ExtA a H H') (n : b ≠ a) (e : H b = some (.lst xs)) : H' b = some (.lst xs) := s _ _ n (fun _ z => nomatch z) e
theorem ExtA.tupl {a b : Addr} {H H' : Hp} {xs : List V} (s : ExtA a H H') (n : b ≠ a) (e : H b = some (.tup xs)) : H' b = some (.tup xs) := s _ _ n (fun _ z => nomatch z) e
theorem ExtN.ofS {H H' : Hp} (s : Same H H') : ExtN H H' := fun b o e _ => s b o e
theorem tabs_same {T : List (Addr × Str)} {H H' : Hp} (t : Tabs T H) (s : Same H H') : Tabs T H' := fun p hp => (t p hp).ext s
theorem Pot.ext {H H' : Hp} {a : Addr} {N : Nat} (p : Pot H a N) (s : ExtN H H') : Pot H' a N := by
  obtain ⟨x, y, z, e, h⟩ := p.ex
  exact ⟨x, y, z, s _ _ e (fun _ q => nomatch q), h⟩
mutual
theorem Dx.ext {a : Addr} {H H' : Hp} (s : ExtA a H H') : ∀ (v : V) (d : PyData), Dx a H v d → Dx a H' v d
  | _, .list ds, h => by
    cases h with
    | flat e => exact .flat e
    | lst h1 h2 h3 => exact .lst (s _ _ h2 (fun _ z => nomatch z) h1) h2 (DxAll.ext s _ ds h3)
  | _, .tuple ds, h => by
    cases h with
    | flat e => exact .flat e
    | tup h1 h2 h3 => exact .tup (s _ _ h2 (fun _ z => nomatch z) h1) h2 (DxAll.ext s _ ds h3)
  | _, .dict ds, h => by
    cases h with
    | flat e => exact .flat e
    | dct h1 h2 h3 h4 => exact .dct (s _ _ h2 (fun _ z => nomatch z) h1) h2 h3 h4
  | _, .none, h => by cases h with | flat e => exact .flat e
  | _, .bool _, h => by cases h with | flat e => exact .flat e
  | _, .int _, h => by cases h with | flat e => exact .flat e
  | _, .str _, h => by cases h with | flat e => exact .flat e
theorem DxAll.ext {a : Addr} {H H' : Hp} (s : ExtA a H H') : ∀ (vs : List V) (ds : List PyData), DxAll a H vs ds → DxAll a H' vs ds
  | _, [], h => by cases h; exact .nil
  | _, d :: ds, h => by
    cases h with
    | cons h1 h2 => exact .cons (Dx.ext s _ d h1) (DxAll.ext s _ ds h2)
end
/-- a def whose code object is known -/
structure FunC (K : PySem.W.Frag) (x qual : Str) (st : Stmt) (f : Addr) (fd : FuncData) (c : Addr) : Prop where
  ex : ∃ (oc : Value) (od : Option Addr) (kV doc pm : Value) (an : Option Addr) (ct : Value) (osl : Array (Option Value)),
    fd = PySem.W.fnOf x qual (defArgs st) (defBody st) (defScope st) .none kV doc pm an (.ref c) ct ∧ K.lookup f = some ⟨oc, od, .func fd, osl⟩ ∧ PySem.W.codeIn K (.ref c) qual = true
theorem funGC {P : Program} {w : World} {K : PySem.W.Frag} {mg : Str → Option Value} {base : Heap} {x qual : Str} {st : Stmt} {f c : Addr} {fd : FuncData} {N ps : List Str} {k : Nat} {sp : Sp} (F : FunC K x qual st f fd c) (S : FnScope N ps (defScope st)) (len : ∀ vs H Q E, sp vs H Q E → vs.length = ps.length)
    (hbody : ∀ (A : Around) (outer : List Env) (s : Shared) (H : Hp) (vs : List V) (Q : VK) (E : XK), RoomG k (A.deeper (envOfC qual (defScope st) s.heap.objs.size f (.ref c))) → sp vs H Q E →
      ∃ t, PSs (cxOf CX0 P w K mg base N qual (defScope st) f (.ref c) A outer s H E).nox (defBody st) t ∧ t { nx := fun _ H' => Q .non H', rt := Q } (start N vs) H) : FnG P w K mg base CX0 (k + 1) f fd ps sp := by
  obtain ⟨oc, od, kV, doc, pm, an, ct, osl, rfl, lk, hcd⟩ := F.ex
  exact fnG_of lk hcd S len fun A outer s H vs Q E hr hsp => by
    obtain ⟨t, h, q⟩ := hbody A outer s H vs Q E hr hsp
    exact ⟨t, h.nox, q⟩
theorem mk_pow : MkD (tOp (rI CPowW fun i j => .int (i ^ j.toNat)) (tC (.int 10)) (tC (.int 30))) (.int (10 ^ 30)) := fun a σ H Q _ q => ⟨10, 30, rfl, rfl, ⟨by decide, by decide⟩, q _ H (Same.refl H) (.flat rfl)⟩
theorem rs_end {t : TT} {A : TS} {D : Ends} {σ : L2.St} {H : Hp} (h : t σ H fun b H1 => if b = true then A D σ H1 else tNext D σ H1) : tIfS t A tNext D σ H := h
theorem r_c {v : V} {σ : L2.St} {H : Hp} {Q : VK} (h : Q v H) : tC v σ H Q := h
theorem tabs_sx {T : List (Addr × Str)} {H H' : Hp} {a : Addr} {N : Nat} (t : Tabs T H) (p : Pot H a N) (s : SameX a H H') : Tabs T H' := fun x hx => by
  obtain ⟨ps, h1, h2, h3⟩ := t x hx
  obtain ⟨_, _, _, ep, _⟩ := p.ex
  refine ⟨ps, s _ _ (fun z => by rw [z, ep] at h1; cases h1) h1, h2, fun pos cv e => ?_⟩
  obtain ⟨c, e1, e2⟩ := h3 pos cv e
  refine ⟨c, e1, s _ _ (fun z => ?_) e2⟩
  rw [z, ep] at e2
  have e3 : HO.lst _ = HO.ext _ := Option.some.inj e2
  cases e3
theorem ExtN.seq {K : PySem.W.Frag} {H H' : Hp} {a : Addr} {xs : List V} (s : ExtN H H') (h : SqL K H a xs) : SqL K H' a xs := by
  rcases h with (h | ⟨o, h⟩) | h
  · exact .inl (.inl (s _ _ h (fun _ z => nomatch z)))
  · exact .inl (.inr ⟨o, s _ _ h (fun _ z => nomatch z)⟩)
  · exact .inr h
theorem ExtN.lst {b : Addr} {H H' : Hp} {xs : List V} (s : ExtN H H') (e : H b = some (.lst xs)) : H' b = some (.lst xs) := s _ _ e (fun _ z => nomatch z)
theorem tabs_put {T : List (Addr × Str)} {H : Hp} {D : Addr} {xs ys : List V} (t : Tabs T H) (e : H D = some (.lst xs)) : Tabs T (upd H D (.lst ys)) := fun x hx => by
  obtain ⟨ps, h1, h2, h3⟩ := t x hx
  refine ⟨ps, by rw [upd_ne (fun z => by rw [z, e] at h1; cases h1)]; exact h1, h2, fun pos cv ec => ?_⟩
  obtain ⟨c, e1, e2⟩ := h3 pos cv ec
  refine ⟨c, e1, ?_⟩
  rw [upd_ne (fun z => ?_)]
  · exact e2
  · rw [z, e] at e2
    have e3 : HO.lst _ = HO.ext _ := Option.some.inj e2
    cases e3
end Hw

set_option Elab.async false
set_option linter.all false
set_option maxRecDepth 100000
set_option maxHeartbeats 4000000
/-! values in the place of heaps: what the slots hold as data, own lists and dicts apart from one another -/
namespace Vl
open PySem L2 PyProof.Rows Hw
mutual
/-- data that are never changed, beside the places S -/
inductive Dz (S : Addr → Prop) (H : Hp) : V → PyData → Prop
  | flat {v : V} {d : PyData} : flatPD v = some d → Dz S H v d
  | tup {p : Addr} {xs : List V} {ds : List PyData} : H p = some (.tup xs) → ¬ S p → DzAll S H xs ds → Dz S H (.ref p) (.tuple ds)
  | lst {p : Addr} {xs : List V} {ds : List PyData} : H p = some (.lst xs) → ¬ S p → DzAll S H xs ds → Dz S H (.ref p) (.list ds)
  | dct {p : Addr} {kvs : List (Key × V)} {ds : List (PyData × PyData)} : H p = some (.dK kvs) → ¬ S p → (∀ q ∈ kvs, valV kvs q.1 = some q.2 ∧ flatB q.2 = true) → Paired (fun q e => e.1 = keyPD q.1 ∧ flatPD q.2 = some e.2) kvs ds → Dz S H (.ref p) (.dict ds)
inductive DzAll (S : Addr → Prop) (H : Hp) : List V → List PyData → Prop
  | nil : DzAll S H [] []
  | cons {v : V} {vs : List V} {d : PyData} {ds : List PyData} : Dz S H v d → DzAll S H vs ds → DzAll S H (v :: vs) (d :: ds)
end
/-- what is tracked and not set apart stays so -/
def NT (o : HO) : Prop := ∀ ps, o ≠ HO.tbl ps
theorem nt_lst {xs : List V} : NT (.lst xs) := fun _ z => nomatch z
theorem nt_tup {xs : List V} : NT (.tup xs) := fun _ z => nomatch z
theorem nt_dK {xs : List (Key × V)} : NT (.dK xs) := fun _ z => nomatch z
theorem nt_ins {a b : Addr} {xs : List (Str × V)} : NT (.ins a b xs) := fun _ z => nomatch z
/-- no code object -/
def NX (o : HO) : Prop := ∀ p, o ≠ HO.ext p
theorem nx_lst {xs : List V} : NX (.lst xs) := fun _ z => nomatch z
theorem nx_dK {xs : List (Key × V)} : NX (.dK xs) := fun _ z => nomatch z
theorem nx_ins {a b : Addr} {xs : List (Str × V)} : NX (.ins a b xs) := fun _ z => nomatch z
theorem nx_own {a : Addr} : NX (.own a) := fun _ z => nomatch z
/-- tables stay, where only what is no table and no code object changes -/
theorem tabs_ch {T : List (Addr × Str)} {H H' : Hp} {W : Addr → Prop} (t : LamX.Tabs T H) (hW : ∀ a, W a → (∀ ps, H a ≠ some (.tbl ps)) ∧ ∀ p, H a ≠ some (.ext p)) (ch : ∀ b u, ¬ W b → H b = some u → H' b = some u) : LamX.Tabs T H' := fun x hx => by
  obtain ⟨ps, h1, h2, h3⟩ := t x hx
  refine ⟨ps, ch _ _ (fun z => (hW _ z).1 _ h1) h1, h2, fun pos cv e => ?_⟩
  obtain ⟨c, e1, e2⟩ := h3 pos cv e
  exact ⟨c, e1, ch _ _ (fun z => (hW _ z).2 _ e2) e2⟩
theorem nt_own {a : Addr} : NT (.own a) := fun _ z => nomatch z
def Nxt (S : Addr → Prop) (H : Hp) (S' : Addr → Prop) (H' : Hp) : Prop := ∀ b o, ¬ S b → NT o → H b = some o → H' b = some o ∧ ¬ S' b
theorem Nxt.refl (S : Addr → Prop) (H : Hp) : Nxt S H S H := fun _ _ h _ e => ⟨e, h⟩
theorem Nxt.trans {S S1 S2 : Addr → Prop} {H H1 H2 : Hp} (x : Nxt S H S1 H1) (y : Nxt S1 H1 S2 H2) : Nxt S H S2 H2 := fun b o h t e => y b o (x b o h t e).2 t (x b o h t e).1
theorem Nxt.same {S : Addr → Prop} {H H' : Hp} (s : Same H H') : Nxt S H S H' := fun b o h _ e => ⟨s b o e, h⟩
theorem Nxt.less {S S' : Addr → Prop} {H : Hp} (h : ∀ a, S' a → S a) : Nxt S H S' H := fun b o n _ e => ⟨e, fun z => n (h b z)⟩
theorem Nxt.add {S S' : Addr → Prop} {H H' : Hp} (s : Same H H') (h : ∀ a, S' a → S a ∨ H a = none) : Nxt S H S' H' := fun b o n _ e => ⟨s b o e, fun z => (h b z).elim n fun q => by rw [q] at e; cases e⟩
theorem Nxt.put {S : Addr → Prop} {H : Hp} {r : Addr} {o : HO} (h : S r) : Nxt S H S (upd H r o) := fun b u n _ e => ⟨by rw [upd_ne (fun z => n (by rw [z]; exact h))]; exact e, n⟩
section
variable {S S' : Addr → Prop} {H H' : Hp}
mutual
theorem Dz.nxt (s : Nxt S H S' H') : ∀ (v : V) (d : PyData), Dz S H v d → Dz S' H' v d
  | _, .list ds, h => by
    cases h with
    | flat e => exact .flat e
    | lst h1 h2 h3 => exact .lst (s _ _ h2 nt_lst h1).1 (s _ _ h2 nt_lst h1).2 (DzAll.nxt s _ ds h3)
  | _, .tuple ds, h => by
    cases h with
    | flat e => exact .flat e
    | tup h1 h2 h3 => exact .tup (s _ _ h2 nt_tup h1).1 (s _ _ h2 nt_tup h1).2 (DzAll.nxt s _ ds h3)
  | _, .dict ds, h => by
    cases h with
    | flat e => exact .flat e
    | dct h1 h2 h3 h4 => exact .dct (s _ _ h2 nt_dK h1).1 (s _ _ h2 nt_dK h1).2 h3 h4
  | _, .none, h => by cases h with | flat e => exact .flat e
  | _, .bool _, h => by cases h with | flat e => exact .flat e
  | _, .int _, h => by cases h with | flat e => exact .flat e
  | _, .str _, h => by cases h with | flat e => exact .flat e
theorem DzAll.nxt (s : Nxt S H S' H') : ∀ (vs : List V) (ds : List PyData), DzAll S H vs ds → DzAll S' H' vs ds
  | _, [], h => by cases h; exact .nil
  | _, d :: ds, h => by
    cases h with
    | cons h1 h2 => exact .cons (Dz.nxt s _ d h1) (DzAll.nxt s _ ds h2)
end
theorem DzAll.length : ∀ {vs : List V} {ds : List PyData}, DzAll S H vs ds → vs.length = ds.length
  | _, _, .nil => rfl
  | _, _, .cons _ t => congrArg (· + 1) (DzAll.length t)
theorem DzAll.append : ∀ {vs ws : List V} {ds es : List PyData}, DzAll S H vs ds → DzAll S H ws es → DzAll S H (vs ++ ws) (ds ++ es)
  | _, _, _, _, .nil, t => t
  | _, _, _, _, .cons x y, t => .cons x (DzAll.append y t)
theorem DzAll.get : ∀ {vs : List V} {ds : List PyData} {i : Nat} {v : V}, DzAll S H vs ds → vs[i]? = some v → ∃ d, ds[i]? = some d ∧ Dz S H v d
  | _, _, _, _, .nil, e => by simp at e
  | _, _, 0, _, .cons x _, e => by
    simp at e; subst e
    exact ⟨_, rfl, x⟩
  | _, _, i + 1, v, .cons _ t, e => by
    obtain ⟨d, h1, h2⟩ := DzAll.get (i := i) t (by simpa using e)
    exact ⟨d, by simpa using h1, h2⟩
theorem DzAll.getD : ∀ {vs : List V} {ds : List PyData} {i : Nat} {d : PyData}, DzAll S H vs ds → ds[i]? = some d → ∃ v, vs[i]? = some v ∧ Dz S H v d
  | _, _, _, _, .nil, e => by simp at e
  | _, _, 0, _, .cons x _, e => by
    simp at e; subst e
    exact ⟨_, rfl, x⟩
  | _, _, i + 1, v, .cons _ t, e => by
    obtain ⟨d, h1, h2⟩ := DzAll.getD (i := i) t (by simpa using e)
    exact ⟨d, by simpa using h1, h2⟩
theorem DzAll.take : ∀ {vs : List V} {ds : List PyData} (n : Nat), DzAll S H vs ds → DzAll S H (vs.take n) (ds.take n)
  | _, _, 0, _ => by rw [List.take_zero, List.take_zero]; exact .nil
  | _, _, n + 1, .nil => .nil
  | _, _, n + 1, .cons x t => .cons x (DzAll.take n t)
theorem DzAll.drop : ∀ {vs : List V} {ds : List PyData} (n : Nat), DzAll S H vs ds → DzAll S H (vs.drop n) (ds.drop n)
  | _, _, 0, h => h
  | _, _, n + 1, .nil => .nil
  | _, _, n + 1, .cons x t => DzAll.drop n t
theorem DzAll.rev : ∀ {vs : List V} {ds : List PyData}, DzAll S H vs ds → DzAll S H vs.reverse ds.reverse
  | _, _, .nil => .nil
  | _, _, .cons x t => by rw [List.reverse_cons, List.reverse_cons]; exact (DzAll.rev t).append (.cons x .nil)
theorem DzAll.set : ∀ {vs : List V} {ds : List PyData} {v : V} {d : PyData} (n : Nat), DzAll S H vs ds → Dz S H v d → DzAll S H (vs.set n v) (ds.set n d)
  | _, _, _, _, 0, .nil, _ => .nil
  | _, _, _, _, 0, .cons _ t, x => .cons x t
  | _, _, _, _, n + 1, .nil, _ => .nil
  | _, _, _, _, n + 1, .cons y t, x => .cons y (DzAll.set n t x)
theorem DzAll.eraseIdx : ∀ {vs : List V} {ds : List PyData} (n : Nat), DzAll S H vs ds → DzAll S H (vs.eraseIdx n) (ds.eraseIdx n)
  | _, _, _, .nil => by rw [List.eraseIdx_nil, List.eraseIdx_nil]; exact .nil
  | _, _, 0, .cons _ t => t
  | _, _, n + 1, .cons y t => .cons y (DzAll.eraseIdx n t)
theorem Dz.tuple {v : V} {ds : List PyData} (h : Dz S H v (.tuple ds)) : ∃ p xs, v = .ref p ∧ H p = some (.tup xs) ∧ ¬ S p ∧ DzAll S H xs ds := by
  cases h with
  | flat e => cases v <;> cases e
  | tup h1 h2 h3 => exact ⟨_, _, rfl, h1, h2, h3⟩
theorem Dz.list {v : V} {ds : List PyData} (h : Dz S H v (.list ds)) : ∃ p xs, v = .ref p ∧ H p = some (.lst xs) ∧ ¬ S p ∧ DzAll S H xs ds := by
  cases h with
  | flat e => cases v <;> cases e
  | lst h1 h2 h3 => exact ⟨_, _, rfl, h1, h2, h3⟩
theorem Dz.int {v : V} {i : Int} (h : Dz S H v (.int i)) : v = .int i := by
  cases h with | flat e => cases v <;> cases e <;> rfl
theorem Dz.str {v : V} {z : Str} (h : Dz S H v (.str z)) : v = .str z := by
  cases h with | flat e => cases v <;> cases e <;> rfl
theorem Dz.bool {v : V} {b : Bool} (h : Dz S H v (.bool b)) : v = .bl b := by
  cases h with | flat e => cases v <;> cases e <;> rfl
theorem Dz.none {v : V} (h : Dz S H v .none) : v = .non := by
  cases h with | flat e => cases v <;> cases e <;> rfl
mutual
theorem Dz.dp (K : PySem.W.Frag) : ∀ (v : V) (d : PyData), d.hasDict = false → Dz S H v d → Dp K H v d
  | _, .list ds, n, h => by
    cases h with
    | flat e => exact Dp_flat e
    | lst h1 h2 h3 => exact .lst (sql_of h1) (DzAll.dp K _ ds (by simpa only [PyData.hasDict] using n) h3)
  | _, .tuple ds, n, h => by
    cases h with
    | flat e => exact Dp_flat e
    | tup h1 h2 h3 => exact .tup (sqt_of h1) (DzAll.dp K _ ds (by simpa only [PyData.hasDict] using n) h3)
  | _, .dict ds, n, h => by simp [PyData.hasDict] at n
  | _, .none, _, h => by cases h with | flat e => exact Dp_flat e
  | _, .bool _, _, h => by cases h with | flat e => exact Dp_flat e
  | _, .int _, _, h => by cases h with | flat e => exact Dp_flat e
  | _, .str _, _, h => by cases h with | flat e => exact Dp_flat e
theorem DzAll.dp (K : PySem.W.Frag) : ∀ (vs : List V) (ds : List PyData), PyData.hasDictAll ds = false → DzAll S H vs ds → DpAll K H vs ds
  | _, [], _, h => by cases h; exact .nil
  | _, d :: ds, n, h => by
    simp only [PyData.hasDictAll, Bool.or_eq_false_iff] at n
    cases h with
    | cons h1 h2 => exact .cons (Dz.dp K _ d n.1 h1) (DzAll.dp K _ ds n.2 h2)
end
theorem DzAll.strs : ∀ {vs : List V} {zs : List Str}, DzAll S H vs (zs.map PyData.str) → vs = zs.map V.str
  | _, [], h => by cases h; rfl
  | _, z :: zs, h => by
    cases h with
    | cons h1 h2 => rw [h1.str, DzAll.strs h2]; rfl
theorem DzAll.ints : ∀ {vs : List V} {zs : List Int}, DzAll S H vs (zs.map PyData.int) → vs = zs.map V.int
  | _, [], h => by cases h; rfl
  | _, z :: zs, h => by
    cases h with
    | cons h1 h2 => rw [h1.int, DzAll.ints h2]; rfl
theorem DzAll.bools : ∀ {vs : List V} {zs : List Bool}, DzAll S H vs (zs.map PyData.bool) → vs = zs.map V.bl
  | _, [], h => by cases h; rfl
  | _, z :: zs, h => by
    cases h with
    | cons h1 h2 => rw [h1.bool, DzAll.bools h2]; rfl
theorem DzAll.ofStrs : ∀ zs : List Str, DzAll S H (zs.map V.str) (zs.map PyData.str)
  | [] => .nil
  | _ :: zs => .cons (.flat rfl) (DzAll.ofStrs zs)
theorem DzAll.ofInts : ∀ zs : List Int, DzAll S H (zs.map V.int) (zs.map PyData.int)
  | [] => .nil
  | _ :: zs => .cons (.flat rfl) (DzAll.ofInts zs)
end
theorem prd_mono {α β : Type} {F G : α → β → Prop} (h : ∀ a b, F a b → G a b) : ∀ {xs : List α} {ys : List β}, Paired F xs ys → Paired G xs ys
  | _, _, .nil => .nil
  | _, _, .cons x t => .cons (h _ _ x) (prd_mono h t)
/-- what an expression comes to -/
inductive Val
  | im (d : PyData)
  | vl (v : V)
def Val.ok (S : Addr → Prop) (H : Hp) : Val → V → Prop
  | .im d, v => Dz S H v d
  | .vl w, v => v = w
theorem Val.nxt {S S' : Addr → Prop} {H H' : Hp} {x : Val} {v : V} (h : x.ok S H v) (s : Nxt S H S' H') : x.ok S' H' v := by
  cases x with
  | im d => exact Dz.nxt s _ _ h
  | vl w => exact h
/-- what a slot holds -/
inductive Ent
  | no
  | im (d : PyData)
  | vl (v : V)
  | iv (v : V) (d : PyData)
  | ls (r : Addr) (ds : List PyData)
  | dk (r : Addr) (kvs : List (Key × PyData))
  | dl (r : Addr) (kvs : List (Key × Addr × List PyData))
  | pot (a : Addr) (N : Nat)
  | ob (x dx C : Addr) (fs : List (Str × Val))
def Ent.own : Ent → List Addr
  | .ls r _ => [r]
  | .dk r _ => [r]
  | .dl r kvs => r :: kvs.map (·.2.1)
  | .pot a _ => [a]
  | .ob x dx _ _ => [x, dx]
  | _ => []
def Ent.ok (S : Addr → Prop) (H : Hp) : Ent → Option V → Prop
  | .no, _ => True
  | .im d, o => ∃ v, o = some v ∧ Dz S H v d
  | .vl v, o => o = some v
  | .iv v d, o => o = some v ∧ Dz S H v d
  | .ls r ds, o => o = some (.ref r) ∧ ∃ xs, H r = some (.lst xs) ∧ DzAll S H xs ds
  | .dk r kvs, o => o = some (.ref r) ∧ ∃ xs : List (Key × V), H r = some (.dK xs) ∧ Paired (fun (p : Key × V) (q : Key × PyData) => p.1 = q.1 ∧ Dz S H p.2 q.2) xs kvs
  | .dl r kvs, o => o = some (.ref r) ∧ H r = some (.dK (kvs.map fun x => (x.1, V.ref x.2.1))) ∧ (r :: kvs.map (·.2.1)).Nodup ∧ ∀ x ∈ kvs, ∃ xs, H x.2.1 = some (.lst xs) ∧ DzAll S H xs x.2.2
  | .pot a N, o => o = some (.ref a) ∧ Pot H a N
  | .ob x dx C fs, o => o = some (.ref x) ∧ x ≠ dx ∧ H dx = some (.own x) ∧ ∃ vs : List (Str × V), H x = some (.ins C dx vs) ∧ Paired (fun (p : Str × V) (q : Str × Val) => p.1 = q.1 ∧ q.2.ok S H p.2) vs fs
/-- the frame of a def: what the caller sets apart, the heap at the call, what may be changed -/
structure Frm where
  S0 : Addr → Prop
  H0 : Hp
  io : Addr → Prop
  T : List (Addr × Str)
def In (Γ : List Ent) (a : Addr) : Prop := ∃ e ∈ Γ, a ∈ e.own
def Ex (F : Frm) (Γ : List Ent) (a : Addr) : Prop := F.S0 a ∨ In Γ a
structure Rep (F : Frm) (n : Nat) (Γ : List Ent) (σ : L2.St) (H : Hp) : Prop where
  sl : σ.length = n
  len : n ≤ Γ.length
  ok : ∀ (i : Nat) (e : Ent), Γ[i]? = some e → ∃ o : Option V, (i < n → σ[i]? = some o) ∧ e.ok (Ex F Γ) H o
  nd : ∀ (i j : Nat) (e e' : Ent) (a : Addr), Γ[i]? = some e → Γ[j]? = some e' → a ∈ e.own → a ∈ e'.own → i = j
  s0 : ∀ a, F.S0 a → (∃ o, F.H0 a = some o ∧ NT o ∧ NX o) ∧ ¬ F.io a ∧ ¬ In Γ a
  fr : ∀ b o, ¬ F.io b → NT o → F.H0 b = some o → H b = some o
  tb : LamX.Tabs F.T F.H0 → LamX.Tabs F.T H
  nw : ∀ a, In Γ a → F.io a ∨ ∀ o, F.H0 a = some o → ¬ NT o
theorem Ent.place {S : Addr → Prop} {H : Hp} {e : Ent} {o : Option V} {a : Addr} (h : e.ok S H o) (m : a ∈ e.own) : ∃ u, H a = some u ∧ NT u ∧ NX u := by
  cases e with
  | ls r ds =>
    obtain ⟨_, xs, e1, _⟩ := h
    rw [List.mem_singleton.mp m, e1]; exact ⟨_, rfl, nt_lst, nx_lst⟩
  | dk r kvs =>
    obtain ⟨_, xs, e1, _⟩ := h
    rw [List.mem_singleton.mp m, e1]; exact ⟨_, rfl, nt_dK, nx_dK⟩
  | dl r kvs =>
    obtain ⟨_, e1, _, e2⟩ := h
    rcases List.mem_cons.mp m with rfl | m
    · rw [e1]; exact ⟨_, rfl, nt_dK, nx_dK⟩
    · obtain ⟨x, hx, rfl⟩ := List.mem_map.mp m
      obtain ⟨xs, e3, _⟩ := e2 x hx
      rw [e3]; exact ⟨_, rfl, nt_lst, nx_lst⟩
  | pot a' N =>
    rw [List.mem_singleton.mp m]
    obtain ⟨x, y, z, e, _⟩ := h.2.ex
    exact ⟨_, e, nt_lst, nx_lst⟩
  | ob x dx C fs =>
    obtain ⟨_, _, e2, vs, e1, _⟩ := h
    rcases List.mem_cons.mp m with rfl | m
    · rw [e1]; exact ⟨_, rfl, nt_ins, nx_ins⟩
    · rw [List.mem_singleton.mp m, e2]; exact ⟨_, rfl, nt_own, nx_own⟩
  | no => cases m
  | im d => cases m
  | vl v => cases m
  | iv v d => cases m
theorem Ent.tracked {S : Addr → Prop} {H : Hp} {e : Ent} {o : Option V} {a : Addr} (h : e.ok S H o) (m : a ∈ e.own) : H a ≠ none := by
  obtain ⟨u, e1, _⟩ := Ent.place h m
  rw [e1]; exact fun z => nomatch z
theorem Ent.noTX {S : Addr → Prop} {H : Hp} {e : Ent} {o : Option V} {a : Addr} (h : e.ok S H o) (m : a ∈ e.own) : (∀ ps, H a ≠ some (.tbl ps)) ∧ ∀ p, H a ≠ some (.ext p) := by
  obtain ⟨u, e1, e2, e3⟩ := Ent.place h m
  rw [e1]
  exact ⟨fun ps z => e2 ps (Option.some.inj z), fun p z => e3 p (Option.some.inj z)⟩
/-- an entry beside which other things change -/
theorem Ent.nxt {S S' : Addr → Prop} {H H' : Hp} {e : Ent} {o : Option V} (h : e.ok S H o) (s : Nxt S H S' H') (k : ∀ a ∈ e.own, H' a = H a) : e.ok S' H' o := by
  cases e with
  | no => trivial
  | im d =>
    obtain ⟨v, e1, x⟩ := h
    exact ⟨v, e1, Dz.nxt s _ _ x⟩
  | vl v => exact h
  | iv v d => exact ⟨h.1, Dz.nxt s _ _ h.2⟩
  | ls r ds =>
    obtain ⟨e1, xs, e2, x⟩ := h
    exact ⟨e1, xs, (k r List.mem_cons_self).trans e2, DzAll.nxt s _ _ x⟩
  | dk r kvs =>
    obtain ⟨e1, xs, e2, x⟩ := h
    exact ⟨e1, xs, (k r List.mem_cons_self).trans e2, prd_mono (fun p q z => ⟨z.1, Dz.nxt s _ _ z.2⟩) x⟩
  | dl r kvs =>
    obtain ⟨e1, e2, n, x⟩ := h
    refine ⟨e1, (k r List.mem_cons_self).trans e2, n, fun y hy => ?_⟩
    obtain ⟨xs, e3, z⟩ := x y hy
    exact ⟨xs, (k _ (List.mem_cons_of_mem _ (List.mem_map.mpr ⟨y, hy, rfl⟩))).trans e3, DzAll.nxt s _ _ z⟩
  | pot a N =>
    obtain ⟨e1, p⟩ := h
    refine ⟨e1, ?_⟩
    obtain ⟨x, y, z, e, u⟩ := p.ex
    exact ⟨x, y, z, (k a List.mem_cons_self).trans e, u⟩
  | ob x dx C fs =>
    obtain ⟨e1, ne, e2, vs, e3, p⟩ := h
    exact ⟨e1, ne, (k dx (List.mem_cons_of_mem _ List.mem_cons_self)).trans e2, vs, (k x List.mem_cons_self).trans e3, prd_mono (fun p q z => ⟨z.1, Val.nxt z.2 s⟩) p⟩
section
variable {F : Frm} {n : Nat} {Γ : List Ent} {σ : L2.St} {H : Hp}
theorem Rep.ins (R : Rep F n Γ σ H) {a : Addr} (h : In Γ a) : H a ≠ none := by
  obtain ⟨e, he, ha⟩ := h
  obtain ⟨i, hi⟩ := List.mem_iff_getElem?.mp he
  obtain ⟨o, _, ok⟩ := R.ok i e hi
  exact Ent.tracked ok ha
theorem Rep.exs (R : Rep F n Γ σ H) {a : Addr} (h : Ex F Γ a) : H a ≠ none := by
  rcases h with h | h
  · obtain ⟨⟨o, e, h1, _⟩, h2, _⟩ := R.s0 a h
    rw [R.fr a o h2 h1 e]; exact fun z => nomatch z
  · exact R.ins h
theorem Rep.exsP (R : Rep F n Γ σ H) {a : Addr} (h : Ex F Γ a) : ∃ u, H a = some u ∧ NT u ∧ NX u := by
  rcases h with h | ⟨e, he, ha⟩
  · obtain ⟨⟨o, e, h1, hx⟩, h2, _⟩ := R.s0 a h
    exact ⟨o, R.fr a o h2 h1 e, h1, hx⟩
  · obtain ⟨i, hi⟩ := List.mem_iff_getElem?.mp he
    obtain ⟨o, _, ok⟩ := R.ok i e hi
    exact Ent.place ok ha
theorem Rep.fr0 (R : Rep F n Γ σ H) {a : Addr} (h : ¬ F.io a) (e : H a = none) : ∀ o, F.H0 a = some o → ¬ NT o := fun o q nt => by
  rw [R.fr a o h nt q] at e; cases e
theorem Rep.same (R : Rep F n Γ σ H) {H' : Hp} (s : Same H H') : Rep F n Γ σ H' :=
  ⟨R.sl, R.len, fun i e he => by
    obtain ⟨o, h1, h2⟩ := R.ok i e he
    refine ⟨o, h1, Ent.nxt h2 (.same s) fun a ha => ?_⟩
    cases z : H a with
    | none => exact absurd z (Ent.tracked h2 ha)
    | some u => exact s a u z, R.nd, R.s0, fun b o hb nt e => s b o (R.fr b o hb nt e), fun t => tabs_same (R.tb t) s, R.nw⟩
/-- ghosts dropped -/
theorem In.take {n : Nat} {a : Addr} (h : In (Γ.take n) a) : In Γ a := by
  obtain ⟨e, he, ha⟩ := h
  exact ⟨e, List.mem_of_mem_take he, ha⟩
theorem Ex.take {n : Nat} {a : Addr} (h : Ex F (Γ.take n) a) : Ex F Γ a := h.elim .inl fun q => .inr q.take
theorem Rep.take (R : Rep F n Γ σ H) {m : Nat} (h : n ≤ m) : Rep F n (Γ.take m) σ H := by
  have g : ∀ {i : Nat} {e : Ent}, (Γ.take m)[i]? = some e → Γ[i]? = some e := fun {i e} he => by
    rw [List.getElem?_take] at he
    split at he
    · exact he
    · cases he
  refine ⟨R.sl, by rw [List.length_take]; have := R.len; omega, fun i e he => ?_, fun i j e e' a h1 h2 => R.nd i j e e' a (g h1) (g h2), fun a ha => ?_, R.fr, R.tb, fun a ha => R.nw a ha.take⟩
  · obtain ⟨o, h1, h2⟩ := R.ok i e (g he)
    exact ⟨o, h1, Ent.nxt h2 (.less fun a => Ex.take) fun _ _ => rfl⟩
  · obtain ⟨h1, h2, h3⟩ := R.s0 a ha
    exact ⟨h1, h2, fun z => h3 z.take⟩
theorem In.app {Γ' : List Ent} {a : Addr} : In (Γ ++ Γ') a ↔ In Γ a ∨ In Γ' a := by
  constructor
  · rintro ⟨e, he, ha⟩
    rcases List.mem_append.mp he with h | h
    · exact .inl ⟨e, h, ha⟩
    · exact .inr ⟨e, h, ha⟩
  · rintro (⟨e, he, ha⟩ | ⟨e, he, ha⟩)
    · exact ⟨e, List.mem_append_left _ he, ha⟩
    · exact ⟨e, List.mem_append_right _ he, ha⟩
theorem In.one {e : Ent} {a : Addr} : In [e] a ↔ a ∈ e.own := ⟨fun ⟨u, h, ha⟩ => by rw [List.mem_singleton.mp h] at ha; exact ha, fun h => ⟨e, List.mem_cons_self, h⟩⟩
/-- a ghost is made, in a grown heap, of places that were free -/
theorem Rep.push (R : Rep F n Γ σ H) {e : Ent} {o : Option V} {H' : Hp} (s : Same H H') (fr : ∀ a ∈ e.own, H a = none) (ok : e.ok (Ex F (Γ ++ [e])) H' o) : Rep F n (Γ ++ [e]) σ H' ∧ Nxt (Ex F Γ) H (Ex F (Γ ++ [e])) H' := by
  have nx : Nxt (Ex F Γ) H (Ex F (Γ ++ [e])) H' := .add s fun a ha => by
    rcases ha with h | h
    · exact .inl (.inl h)
    · rcases In.app.mp h with h | h
      · exact .inl (.inr h)
      · exact .inr (fr a (In.one.mp h))
  refine ⟨⟨R.sl, by rw [List.length_append]; have := R.len; omega, fun i u hu => ?_, fun i j u u' a h1 h2 m1 m2 => ?_, fun a ha => ?_, fun b u hb nt e => s b u (R.fr b u hb nt e), fun t => tabs_same (R.tb t) s, fun a ha => ?_⟩, nx⟩
  · by_cases hi : i < Γ.length
    · rw [List.getElem?_append_left hi] at hu
      obtain ⟨v, h1, h2⟩ := R.ok i u hu
      refine ⟨v, h1, Ent.nxt h2 nx fun a ha => ?_⟩
      cases z : H a with
      | none => exact absurd z (Ent.tracked h2 ha)
      | some w => exact s a w z
    · rw [List.getElem?_append_right (by omega)] at hu
      have hi2 : i - Γ.length = 0 := by
        by_cases z : i - Γ.length = 0
        · exact z
        · rw [List.getElem?_eq_none (by simp; omega)] at hu; cases hu
      rw [hi2] at hu
      cases hu
      exact ⟨o, fun z => absurd z (by have := R.len; omega), ok⟩
  · have key : ∀ {i : Nat} {u : Ent}, (Γ ++ [e])[i]? = some u → (i < Γ.length ∧ Γ[i]? = some u) ∨ (i = Γ.length ∧ u = e) := fun {i u} hu => by
      by_cases hi : i < Γ.length
      · rw [List.getElem?_append_left hi] at hu
        exact .inl ⟨hi, hu⟩
      · rw [List.getElem?_append_right (by omega)] at hu
        have hi2 : i - Γ.length = 0 := by
          by_cases z : i - Γ.length = 0
          · exact z
          · rw [List.getElem?_eq_none (by simp; omega)] at hu; cases hu
        rw [hi2] at hu
        cases hu
        exact .inr ⟨by omega, rfl⟩
    rcases key h1 with ⟨_, k1⟩ | ⟨k1, k2⟩ <;> rcases key h2 with ⟨_, k3⟩ | ⟨k3, k4⟩
    · exact R.nd i j u u' a k1 k3 m1 m2
    · subst k4
      obtain ⟨_, _, ok1⟩ := R.ok i u k1
      exact absurd (fr a m2) (Ent.tracked ok1 m1)
    · subst k2
      obtain ⟨_, _, ok1⟩ := R.ok j u' k3
      exact absurd (fr a m1) (Ent.tracked ok1 m2)
    · omega
  · obtain ⟨h1, h2, h3⟩ := R.s0 a ha
    refine ⟨h1, h2, fun z => ?_⟩
    rcases In.app.mp z with z | z
    · exact h3 z
    · exact R.exs (.inl ha) (fr a (In.one.mp z))
  · rcases In.app.mp ha with z | z
    · exact R.nw a z
    · have := fr a (In.one.mp z)
      by_cases io : F.io a
      · exact .inl io
      · exact .inr (R.fr0 io this)
/-- an entry's own places are written -/
theorem Rep.write (R : Rep F n Γ σ H) {i : Nat} {e e' : Ent} {o' : Option V} {H' : Hp} (he : Γ[i]? = some e) (hs : i < n → σ[i]? = some o') (sub : ∀ a ∈ e'.own, a ∈ e.own ∨ H a = none) (ch : ∀ b u, b ∉ e.own → H b = some u → H' b = some u)
    (ok : e'.ok (Ex F (Γ.set i e')) H' o') : Rep F n (Γ.set i e') σ H' ∧ Nxt (Ex F Γ) H (Ex F (Γ.set i e')) H' := by
  have hin : i < Γ.length := (List.getElem?_eq_some_iff.mp he).1
  have inE : ∀ a ∈ e.own, In Γ a := fun a ha => ⟨e, List.mem_of_getElem? he, ha⟩
  have inS : ∀ {a : Addr}, In (Γ.set i e') a → In Γ a ∨ H a = none := fun {a} ⟨u, hu, ha⟩ => by
    rcases List.mem_or_eq_of_mem_set hu with h | h
    · exact .inl ⟨u, h, ha⟩
    · subst h
      rcases sub a ha with z | z
      · exact .inl (inE a z)
      · exact .inr z
  have nx : Nxt (Ex F Γ) H (Ex F (Γ.set i e')) H' := fun b u n _ eq => by
    refine ⟨ch b u (fun z => n (.inr (inE b z))) eq, fun z => ?_⟩
    rcases z with z | z
    · exact n (.inl z)
    · rcases inS z with z | z
      · exact n (.inr z)
      · rw [z] at eq; cases eq
  have key : ∀ {j : Nat} {u : Ent}, (Γ.set i e')[j]? = some u → (j = i ∧ u = e') ∨ (j ≠ i ∧ Γ[j]? = some u) := fun {j u} hu => by
    by_cases hj : j = i
    · subst hj
      rw [List.getElem?_set_self hin] at hu
      cases hu
      exact .inl ⟨rfl, rfl⟩
    · rw [List.getElem?_set_ne (fun z => hj z.symm)] at hu
      exact .inr ⟨hj, hu⟩
  refine ⟨⟨R.sl, by rw [List.length_set]; exact R.len, fun j u hu => ?_, fun j k u u' a h1 h2 m1 m2 => ?_, fun a ha => ?_, fun b u hb nt eq => ?_, fun t => ?_, fun a ha => ?_⟩, nx⟩
  · rcases key hu with ⟨rfl, rfl⟩ | ⟨hj, hu⟩
    · exact ⟨o', hs, ok⟩
    · obtain ⟨v, h1, h2⟩ := R.ok j u hu
      refine ⟨v, h1, Ent.nxt h2 nx fun a ha => ?_⟩
      cases z : H a with
      | none => exact absurd z (Ent.tracked h2 ha)
      | some w => exact ch a w (fun z2 => hj (R.nd j i u e a hu he ha z2)) z
  · rcases key h1 with ⟨rfl, rfl⟩ | ⟨hj, k1⟩ <;> rcases key h2 with ⟨rfl, rfl⟩ | ⟨hk, k2⟩
    · rfl
    · obtain ⟨_, _, ok2⟩ := R.ok k u' k2
      rcases sub a m1 with z | z
      · exact absurd (R.nd k j u' e a k2 he m2 z) hk
      · exact absurd z (Ent.tracked ok2 m2)
    · obtain ⟨_, _, ok2⟩ := R.ok j u k1
      rcases sub a m2 with z | z
      · exact absurd (R.nd j k u e a k1 he m1 z) hj
      · exact absurd z (Ent.tracked ok2 m1)
    · exact R.nd j k u u' a k1 k2 m1 m2
  · obtain ⟨h1, h2, h3⟩ := R.s0 a ha
    refine ⟨h1, h2, fun z => ?_⟩
    rcases inS z with z | z
    · exact h3 z
    · exact R.exs (.inl ha) z
  · refine ch b u (fun z => ?_) (R.fr b u hb nt eq)
    rcases R.nw b (inE b z) with q | q
    · exact hb q
    · exact q u eq nt
  · obtain ⟨o, _, ok0⟩ := R.ok i e he
    exact tabs_ch (W := fun a => a ∈ e.own) (R.tb t) (fun a ha => Ent.noTX ok0 ha) ch
  · rcases inS ha with z | z
    · exact R.nw a z
    · by_cases io : F.io a
      · exact .inl io
      · exact .inr (R.fr0 io z)
/-- a slot gets another entry: what it owned is let go -/
theorem Rep.put (R : Rep F n Γ σ H) {i : Nat} {e' : Ent} {v : V} (hi : i < n) (own : e'.own = []) (ok : e'.ok (Ex F Γ) H (some v)) : Rep F n (Γ.set i e') (σ.set i (some v)) H := by
  have inS : ∀ {a : Addr}, In (Γ.set i e') a → In Γ a := fun {a} ⟨u, hu, ha⟩ => by
    rcases List.mem_or_eq_of_mem_set hu with h | h
    · exact ⟨u, h, ha⟩
    · subst h; rw [own] at ha; cases ha
  have hin : i < Γ.length := Nat.lt_of_lt_of_le hi R.len
  have nx : Nxt (Ex F Γ) H (Ex F (Γ.set i e')) H := .less fun a ha => ha.elim .inl fun z => .inr (inS z)
  have key : ∀ {j : Nat} {u : Ent}, (Γ.set i e')[j]? = some u → (j = i ∧ u = e') ∨ (j ≠ i ∧ Γ[j]? = some u) := fun {j u} hu => by
    by_cases hj : j = i
    · subst hj
      rw [List.getElem?_set_self hin] at hu
      cases hu
      exact .inl ⟨rfl, rfl⟩
    · rw [List.getElem?_set_ne (fun z => hj z.symm)] at hu
      exact .inr ⟨hj, hu⟩
  refine ⟨by rw [List.length_set]; exact R.sl, by rw [List.length_set]; exact R.len, fun j u hu => ?_, fun j k u u' a h1 h2 m1 m2 => ?_, fun a ha => ?_, R.fr, R.tb, fun a ha => R.nw a (inS ha)⟩
  · rcases key hu with ⟨rfl, rfl⟩ | ⟨hj, hu⟩
    · exact ⟨some v, fun _ => List.getElem?_set_self (by rw [R.sl]; exact hi), Ent.nxt ok nx fun _ _ => rfl⟩
    · obtain ⟨w, h1, h2⟩ := R.ok j u hu
      exact ⟨w, fun z => by rw [List.getElem?_set_ne (fun z => hj z.symm)]; exact h1 z, Ent.nxt h2 nx fun _ _ => rfl⟩
  · rcases key h1 with ⟨rfl, rfl⟩ | ⟨hj, k1⟩ <;> rcases key h2 with ⟨rfl, rfl⟩ | ⟨hk, k2⟩
    · rfl
    · rw [own] at m1; cases m1
    · rw [own] at m2; cases m2
    · exact R.nd j k u u' a k1 k2 m1 m2
  · obtain ⟨h1, h2, h3⟩ := R.s0 a ha
    exact ⟨h1, h2, fun z => h3 (inS z)⟩
end
end Vl

set_option Elab.async false
set_option linter.all false
set_option maxRecDepth 100000
set_option maxHeartbeats 4000000
/-! sorted(t), x not in t, of a tuple of data -/
namespace Hw
section
open PySem PySem.Spec PySem.Calls PyProof PyProof.Rows PySem.W
variable {prog : Program} {w : World} {A : Around} {E : Value → Shared → Prop} {s : Shared}
theorem collect_tup {l : Addr} {vs : List Value} {Q : List Value → Shared → Prop} (hl : IsTup s.heap l vs.toArray)
    (h : Q vs { s with heap := (s.heap.push (seqObj "list" #[] 0)).update s.heap.objs.size (Obj.mapSeq (· ++ vs.toArray)) }) (hsz : vs.length ≤ sizeLine) :
    wpAny (model prog w) A (collect (.ref l)) Q E s := by
  obtain ⟨o, ho, hc, n, hd⟩ := id hl
  unfold collect
  refine wpAny_bind (wpAny_runValue (codeAny_builtin entry_proto_collect' ?_))
  show wpAny _ _ (do again (.builtin "list.__iadd__" ⟨[← newList [], .ref l], []⟩)) _ _ s
  refine wpAny_bind (wpAny_newList (wpAny_pure ⟨Code.quiet_builtin _ (by decide +kernel), codeAny_builtin entry_list_iadd' ?_⟩))
  show wpAny _ _ (Builtin.List.listExtendWith (.ref s.heap.objs.size) (.ref l) (.ref s.heap.objs.size)) _ _ { s with heap := s.heap.push (seqObj "list" #[] 0) }
  unfold Builtin.List.listExtendWith
  have ho' : (s.heap.push (seqObj "list" #[] 0)).get? l = some o := Heap.get?_push_of_some _ ho
  refine wpAny_bind (wpAny_typeOf (T := "tuple") ⟨o, ho', hc⟩ ?_)
  have ht : (Value.type "tuple" == Value.type "tuple") = true := by rfl
  rw [if_pos (by rw [ht]; simp)]
  refine wpAny_bind (listItems_at ho' hd ?_)
  refine wpAny_bind (listItems_at (xs := #[]) (n := 0) (Heap.get?_push_size _ rfl) rfl ?_)
  rw [if_neg (by simp)]
  refine wpAny_bind (listUpdate_at (xs := #[]) (n := 0) (Heap.get?_push_size _ rfl) rfl ?_ (Nat.zero_le _) (by show (#[] ++ vs.toArray).size ≤ sizeLine + 1; simp only [Array.size_append, List.size_toArray, List.length_nil]; omega))
  refine wpAny_pure ?_
  show wpAny (model prog w) A (do
      let o ← load s.heap.objs.size
      match o.data with
      | .seq xs _ => pure xs.toList
      | _ => unsupported "internal:collect") Q E { s with heap := (s.heap.push (seqObj "list" #[] 0)).update s.heap.objs.size (Obj.mapSeq (· ++ vs.toArray)) }
  refine wpAny_bind (wpAny_load (get?_update_seq (Heap.get?_push_size _ rfl) _) ?_)
  show wpAny _ _ (pure ((#[] : Array Value) ++ vs.toArray).toList) Q E _
  rw [show ((#[] : Array Value) ++ vs.toArray).toList = vs by simp]
  exact wpAny_pure h
variable {β : Type} {vs : List Value} {bs : List β} {enc : β → PyData} {R : Value → β → Prop}
theorem sorted_tupD {l : Addr} {Q : Value → Shared → Prop} (hl : IsTup s.heap l vs.toArray) (e : EachIs R vs bs) (er : EachIs (fun v b => ∃ as, Reads s.heap v (enc b) as) vs bs) (hal : AllAlike (bs.map enc)) (hk : Sortable (bs.map enc)) (hL : bs.length ≤ sizeLine)
    (hu : ∀ b, b ∈ bs → A.units + 2 + (enc b).depth < cLine) (h : ∀ out, out.length = bs.length → EachIs R out (bs.mergeSort (dataLe false enc)) → Q (.ref (s.heap.objs.size + 1)) { s with heap := sortedAll s.heap vs (List.toArray out) }) :
    wpAny (model prog w) A (call (.builtin "sorted") [.ref l]) Q E s := by
  have er' : EachIs (fun v b => ∃ as, Reads (sortingHeap (copyHeap s.heap vs) (s.heap.objs.size + 1) vs) v (enc b) as) vs bs := er.mono fun _ _ ⟨as, r⟩ => ⟨as, PyProof.Rows.Reads.keeps (fun _ _ => sorting_copy_old) r⟩
  have hL' : vs.length ≤ sizeLine := by rw [e.length]; exact hL
  have S := SortsAt.data (prog := prog) (w := w) (A := A.in1.in1) (s := { s with heap := sortingHeap (copyHeap s.heap vs) (s.heap.objs.size + 1) vs }) (each_map (R := fun v d => ∃ as, Reads (sortingHeap (copyHeap s.heap vs) (s.heap.objs.size + 1) vs) v d as) enc er') hal hk (bound_map hu)
  refine call_function_entry_kw kind_sorted plain_sorted entry_sorted (args_sorted1 _) ?_
  unfold Builtin.«sorted»
  refine wpAny_bind (m := checkCount "sorted" 1 1 _) (wpAny_pure ?_)
  refine wpAny_bind (collect_tup hl ?_ hL')
  refine wpAny_bind (wpAny_newList ?_ hL')
  have hsz : ((s.heap.push (seqObj "list" #[] 0)).update s.heap.objs.size (Obj.mapSeq (· ++ vs.toArray))).objs.size = s.heap.objs.size + 1 := by
    rw [Heap.size_update, size_push']
  show wpAny _ _ _ _ _ { s with heap := copyHeap s.heap vs }
  rw [hsz]
  refine wpAny_bind (wpAny_holding (wpAny_call_entry_kw slot_list_sort ⟨_, copyHeap_at s.heap vs, rfl⟩ entry_list_sort ?body (args_list_sort _)))
  case body =>
    show wpAny (model prog w) A.in1.in1 (Builtin.«list.sort» ⟨[.ref (s.heap.objs.size + 1)], []⟩) _ _ _
    refine wpAny_mono (list_sort_vals (P := fun f s' => f = .done (.ret .none) ∧ Q (.ref (s.heap.objs.size + 1)) s') (s := { s with heap := copyHeap s.heap vs }) (copyHeap_at s.heap vs) S hL' ⟨rfl, h _ (by rw [sortVals_length false rfl]; exact e.length) (sortVals_data false e er' hal)⟩) (fun f s' hf => ?_) fun _ _ e => e
    obtain ⟨rfl, hq⟩ := hf
    exact ⟨_, rfl, wpAny_pure ⟨_, rfl, hq⟩⟩
end
section
open PySem PySem.Spec L2 PyProof.Rows
variable {X : Cx}
def rSortBT (K : PySem.W.Frag) : List V → Hp → VK → Prop := fun vs H Q => ∃ (a : Addr) (bs : List (V × PyData)), vs = [V.ref a] ∧ SqT K H a (bs.map (·.1)) ∧ (∀ b ∈ bs, Dp K H b.1 b.2 ∧ b.2.depth ≤ 50) ∧ PySem.W.AllAlike (bs.map (·.2)) ∧ PySem.W.Sortable (bs.map (·.2)) ∧ bs.length ≤ sizeLine ∧
  ∀ p, H p = none → Q (.ref p) (upd H p (.lst ((bs.mergeSort (PySem.W.dataLe false (·.2))).map (·.1))))
theorem cr_sortBT (hu : X.A.units + 64 < cLine) : CallR X (.builtin "sorted") (rSortBT X.K) := by
  intro pins s σ H vs us Q I r h
  obtain ⟨a, bs, rfl, hs, hd, hal, hk, hL, q⟩ := h
  obtain ⟨its, rv, hl, _⟩ := I.tuple hs
  rw [Vals.ref1 r]
  refine sorted_tupD (β := V × PyData) (vs := its) (bs := bs) (enc := (·.2)) (R := fun v b => RelV b.1 v) hl (each_of_vals (K := X.K) (P := X.prog) rv) (reads_each I (fun b hb => (hd b hb).1) rv) hal hk hL (fun b hb => by have := (hd b hb).2; omega) fun out ho he => ?_
  have hv := vals_of_each he
  obtain ⟨ep, he'⟩ := PyProof.Rows.sortedAll_at s.heap its out.toArray
  have hlen : ((bs.mergeSort (PySem.W.dataLe false (·.2))).map (·.1)).length ≤ sizeLine := by rw [List.length_map, List.length_mergeSort]; exact hL
  exact ⟨.ref _, upd H (s.heap.objs.size + 1) (.lst ((bs.mergeSort (PySem.W.dataLe false (·.2))).map (·.1))), I.laid (t' := s.toks) (fun _ _ => PyProof.Rows.sortedAll_old) (Nat.le_succ _) ⟨hlen, out, ep, hv, he'⟩, rfl, q _ (I.hok.fresh (Nat.le_succ _))⟩
def rNotInT (K : PySem.W.Frag) : R2 := fun x y H Q => ∃ d ds, Dp K H x d ∧ Dp K H y (.tuple ds) ∧ SeqAt.shaped d = true ∧ SeqAt.shaped (.tuple ds) = true ∧ Q (.bl (!ds.any fun z => PyData.eqv z d)) H
theorem op_notInT (hu : X.A.units + 65 < cLine) : OpR X (compareOp .NotIn) (rNotInT X.K) := by
  intro pins s σ H x y v u Q I rx ry h
  obtain ⟨d, ds, hd, he, sd, se, q⟩ := h
  obtain ⟨as, r1⟩ := Dp.reads I d x v hd rx
  obtain ⟨bs, r2⟩ := Dp.reads I (.tuple ds) y u he ry
  exact SeqAt.notIn_tuple_reads r2 r1 (SeqAt.canLay_of_shaped se) (SeqAt.canLay_of_shaped sd) (room_in_shaped sd hu) ⟨.bl _, H, I, rfl, q⟩
end
end Hw

set_option Elab.async false
set_option linter.all false
set_option maxRecDepth 100000
set_option maxHeartbeats 4000000
namespace Vl
open PySem L2 PyProof.Rows Hw
inductive AllV (S : Addr → Prop) (H : Hp) : List Val → List V → Prop
  | nil : AllV S H [] []
  | cons {x : Val} {v : V} {xs : List Val} {vs : List V} : x.ok S H v → AllV S H xs vs → AllV S H (x :: xs) (v :: vs)
theorem AllV.nxt {S S' : Addr → Prop} {H H' : Hp} (s : Nxt S H S' H') : ∀ {xs : List Val} {vs : List V}, AllV S H xs vs → AllV S' H' xs vs
  | _, _, .nil => .nil
  | _, _, .cons h t => .cons (Val.nxt h s) (AllV.nxt s t)
def Mk (F : Frm) (n : Nat) (Γ : List Ent) (P : Val → List Ent → Prop) (σ : L2.St) (H : Hp) (Q : VK) : Prop := ∀ v x Γ' H', P x Γ' → Nxt (Ex F Γ) H (Ex F Γ') H' → Rep F n Γ' σ H' → x.ok (Ex F Γ') H' v → Q v H'
def VE (F : Frm) (n : Nat) (Γ : List Ent) (te : TE) (P : Val → List Ent → Prop) : Prop := ∀ (σ : L2.St) (H : Hp) (Q : VK), Rep F n Γ σ H → Mk F n Γ P σ H Q → te σ H Q
def VAi (F : Frm) (n : Nat) (Γ : List Ent) (ta : TA) (P : List PyData → List Ent → Prop) : Prop := ∀ (σ : L2.St) (H : Hp) (Q : List V → Hp → Prop), Rep F n Γ σ H →
  (∀ vs ds Γ' H', P ds Γ' → Nxt (Ex F Γ) H (Ex F Γ') H' → Rep F n Γ' σ H' → DzAll (Ex F Γ') H' vs ds → Q vs H') → ta σ H Q
def VAs (F : Frm) (n : Nat) (Γ : List Ent) (ta : TA) (P : List Val → List Ent → Prop) : Prop := ∀ (σ : L2.St) (H : Hp) (Q : List V → Hp → Prop), Rep F n Γ σ H →
  (∀ vs xs Γ' H', P xs Γ' → Nxt (Ex F Γ) H (Ex F Γ') H' → Rep F n Γ' σ H' → AllV (Ex F Γ') H' xs vs → Q vs H') → ta σ H Q
def VT (F : Frm) (n : Nat) (Γ : List Ent) (tt : TT) (P : Bool → List Ent → Prop) : Prop := ∀ (σ : L2.St) (H : Hp) (Q : Bool → Hp → Prop), Rep F n Γ σ H →
  (∀ b Γ' H', P b Γ' → Nxt (Ex F Γ) H (Ex F Γ') H' → Rep F n Γ' σ H' → Q b H') → tt σ H Q
def O2 (F : Frm) (n : Nat) (r : R2) (x y : Val) (Γ : List Ent) (P : Val → List Ent → Prop) : Prop := ∀ (σ : L2.St) (H : Hp) (v w : V) (Q : VK), Rep F n Γ σ H → x.ok (Ex F Γ) H v → y.ok (Ex F Γ) H w → Mk F n Γ P σ H Q → r v w H Q
def CB (F : Frm) (n : Nat) (r : List V → Hp → VK → Prop) (xs : List Val) (Γ : List Ent) (P : Val → List Ent → Prop) : Prop := ∀ (σ : L2.St) (H : Hp) (vs : List V) (Q : VK), Rep F n Γ σ H → AllV (Ex F Γ) H xs vs → Mk F n Γ P σ H Q → r vs H Q
section
variable {F : Frm} {n : Nat} {Γ Γ1 : List Ent} {σ : L2.St} {H H1 : Hp} {P : Val → List Ent → Prop} {Q : VK} {ta tb tc te : TE} {tt tu : TT}
theorem Mk.pre (q : Mk F n Γ P σ H Q) (s : Nxt (Ex F Γ) H (Ex F Γ1) H1) : Mk F n Γ1 P σ H1 Q := fun v x Γ' H' p s' R ok => q v x Γ' H' p (s.trans s') R ok
theorem Mk.now (q : Mk F n Γ P σ H Q) (R : Rep F n Γ σ H) {x : Val} {v : V} (p : P x Γ) (ok : x.ok (Ex F Γ) H v) : Q v H := q v x Γ H p (.refl _ _) R ok
theorem Mk.tup (q : Mk F n Γ P σ H Q) (R : Rep F n Γ σ H) {ds : List PyData} {xs : List V} {t : Addr} (p : P (.im (.tuple ds)) Γ) (x : DzAll (Ex F Γ) H xs ds) (np : H t = none) : Q (.ref t) (upd H t (.tup xs)) :=
  q _ _ Γ _ p (.same (same_upd np)) (R.same (same_upd np)) (.tup upd_same (fun z => R.exs z np) (DzAll.nxt (.same (same_upd np)) _ _ x))
theorem Mk.lstI (q : Mk F n Γ P σ H Q) (R : Rep F n Γ σ H) {ds : List PyData} {xs : List V} {t : Addr} (p : P (.im (.list ds)) Γ) (x : DzAll (Ex F Γ) H xs ds) (np : H t = none) : Q (.ref t) (upd H t (.lst xs)) :=
  q _ _ Γ _ p (.same (same_upd np)) (R.same (same_upd np)) (.lst upd_same (fun z => R.exs z np) (DzAll.nxt (.same (same_upd np)) _ _ x))
/-- a new list of one's own -/
theorem Rep.newL (R : Rep F n Γ σ H) {ds : List PyData} {xs : List V} {t : Addr} (x : DzAll (Ex F Γ) H xs ds) (np : H t = none) : Rep F n (Γ ++ [.ls t ds]) σ (upd H t (.lst xs)) ∧ Nxt (Ex F Γ) H (Ex F (Γ ++ [.ls t ds])) (upd H t (.lst xs)) := by
  have s := same_upd (o := .lst xs) np
  have fr : ∀ a ∈ (Ent.ls t ds).own, H a = none := fun a ha => by rw [List.mem_singleton.mp ha]; exact np
  refine R.push (o := some (.ref t)) s fr ⟨rfl, xs, upd_same, DzAll.nxt (.add s fun a ha => ?_) _ _ x⟩
  rcases ha with h | h
  · exact .inl (.inl h)
  · rcases In.app.mp h with h | h
    · exact .inl (.inr h)
    · exact .inr (fr a (In.one.mp h))
theorem Mk.lst (q : Mk F n Γ P σ H Q) (R : Rep F n Γ σ H) {ds : List PyData} {xs : List V} {t : Addr} (p : ∀ t, P (.vl (.ref t)) (Γ ++ [.ls t ds])) (x : DzAll (Ex F Γ) H xs ds) (np : H t = none) : Q (.ref t) (upd H t (.lst xs)) := by
  obtain ⟨R1, n1⟩ := R.newL x np
  exact q _ _ _ _ (p t) n1 R1 rfl
theorem Rep.slot (R : Rep F n Γ σ H) {i : Nat} {e : Ent} (hi : i < n) (h : Γ[i]? = some e) : ∃ o, σ[i]? = some o ∧ e.ok (Ex F Γ) H o := by
  obtain ⟨o, h1, h2⟩ := R.ok i e h
  exact ⟨o, h1 hi, h2⟩
theorem VE.mono {P' : Val → List Ent → Prop} (h : VE F n Γ te P) (m : ∀ x Γ', P x Γ' → P' x Γ') : VE F n Γ te P' := fun σ H Q R q => h σ H Q R fun v x Γ' H' p s R' ok => q v x Γ' H' (m x Γ' p) s R' ok
theorem VT.mono {P P' : Bool → List Ent → Prop} (h : VT F n Γ tt P) (m : ∀ x Γ', P x Γ' → P' x Γ') : VT F n Γ tt P' := fun σ H Q R q => h σ H Q R fun b Γ' H' p s R' => q b Γ' H' (m b Γ' p) s R'
theorem ve_c {v : V} {d : PyData} (h : flatPD v = some d) (p : P (.im d) Γ) : VE F n Γ (tC v) P := fun σ H Q R q => q.now R p (.flat h)
theorem ve_var {i : Nat} {d : PyData} (h : Γ[i]? = some (.im d)) (hi : i < n) (p : P (.im d) Γ) : VE F n Γ (tVar i) P := fun σ H Q R q => by
  obtain ⟨o, h1, v, rfl, x⟩ := R.slot hi h
  exact ⟨v, h1, q.now R p x⟩
def Ent.adr : Ent → Option V
  | .ls r _ => some (.ref r)
  | .dk r _ => some (.ref r)
  | .dl r _ => some (.ref r)
  | .pot a _ => some (.ref a)
  | .ob x _ _ _ => some (.ref x)
  | .vl v => some v
  | _ => none
theorem Ent.adr_ok {S : Addr → Prop} {e : Ent} {o : Option V} {v : V} (h : e.ok S H o) (ha : e.adr = some v) : o = some v := by
  cases e with
  | ls r ds => cases ha; exact h.1
  | dk r kvs => cases ha; exact h.1
  | dl r kvs => cases ha; exact h.1
  | pot a N => cases ha; exact h.1
  | ob x dx C fs => cases ha; exact h.1
  | vl v => cases ha; exact h
  | no => cases ha
  | im d => cases ha
  | iv v d => cases ha
theorem ve_varO {i : Nat} {e : Ent} {v : V} (h : Γ[i]? = some e) (hi : i < n) (ha : e.adr = some v) (p : P (.vl v) Γ) : VE F n Γ (tVar i) P := fun σ H Q R q => by
  obtain ⟨o, h1, ok⟩ := R.slot hi h
  exact ⟨v, by rw [h1, Ent.adr_ok ok ha], q.now R p rfl⟩
theorem ve_op {r : R2} (h : VE F n Γ ta fun x Γ1 => VE F n Γ1 tb fun y Γ2 => O2 F n r x y Γ2 P) : VE F n Γ (tOp r ta tb) P := fun σ H Q R q =>
  h σ H _ R fun v x Γ1 H1 hb s1 R1 ok1 => hb σ H1 _ R1 fun w y Γ2 H2 ho s2 R2 ok2 => ho σ H2 v w Q R2 (Val.nxt ok1 s2) ok2 (q.pre (s1.trans s2))
theorem ve_un {r : V → Hp → VK → Prop} (h : VE F n Γ ta fun x Γ1 => ∀ σ H v Q, Rep F n Γ1 σ H → x.ok (Ex F Γ1) H v → Mk F n Γ1 P σ H Q → r v H Q) : VE F n Γ (tUn r ta) P := fun σ H Q R q =>
  h σ H _ R fun v x Γ1 H1 hb s1 R1 ok1 => hb σ H1 v Q R1 ok1 (q.pre s1)
theorem ve_neg {i : Int} (h : VE F n Γ ta fun x Γ1 => x = .im (.int i) ∧ P (.im (.int (-i))) Γ1) : VE F n Γ (tUn (rU fun i => .int (-i)) ta) P := ve_un (h.mono fun x Γ1 ⟨hx, p⟩ σ H v Q R ok q => by
  subst hx
  have ok : Dz _ _ _ _ := ok
  obtain rfl := ok.int
  exact ⟨i, rfl, q.now R p (.flat rfl)⟩)
theorem ve_if (h : VT F n Γ tt fun b Γ1 => if b = true then VE F n Γ1 ta P else VE F n Γ1 tb P) : VE F n Γ (tIf tt ta tb) P := fun σ H Q R q =>
  h σ H _ R fun b Γ1 H1 hb s1 R1 => by
    cases b with
    | true => exact hb σ H1 Q R1 (q.pre s1)
    | false => exact hb σ H1 Q R1 (q.pre s1)
theorem vai_nil {P : List PyData → List Ent → Prop} (p : P [] Γ) : VAi F n Γ tNil P := fun σ H Q R q => q [] [] Γ H p (.refl _ _) R .nil
theorem vai_cons {tr : TA} {P : List PyData → List Ent → Prop} (h : VE F n Γ te fun x Γ1 => ∃ d, x = .im d ∧ VAi F n Γ1 tr fun ds Γ2 => P (d :: ds) Γ2) : VAi F n Γ (tCons te tr) P := fun σ H Q R q =>
  h σ H _ R fun v x Γ1 H1 ⟨d, hx, hr⟩ s1 R1 ok1 => hr σ H1 _ R1 fun vs ds Γ2 H2 p s2 R2 ok2 => by
    subst hx
    exact q (v :: vs) (d :: ds) Γ2 H2 p (s1.trans s2) R2 (.cons (Dz.nxt s2 _ _ ok1) ok2)
theorem vas_nil {P : List Val → List Ent → Prop} (p : P [] Γ) : VAs F n Γ tNil P := fun σ H Q R q => q [] [] Γ H p (.refl _ _) R .nil
theorem vas_cons {tr : TA} {P : List Val → List Ent → Prop} (h : VE F n Γ te fun x Γ1 => VAs F n Γ1 tr fun xs Γ2 => P (x :: xs) Γ2) : VAs F n Γ (tCons te tr) P := fun σ H Q R q =>
  h σ H _ R fun v x Γ1 H1 hr s1 R1 ok1 => hr σ H1 _ R1 fun vs xs Γ2 H2 p s2 R2 ok2 => q (v :: vs) (x :: xs) Γ2 H2 p (s1.trans s2) R2 (.cons (Val.nxt ok1 s2) ok2)
theorem ve_tup {t : TA} (h : VAi F n Γ t fun ds Γ1 => ds.length ≤ 100000 ∧ P (.im (.tuple ds)) Γ1) : VE F n Γ (tTup t) P := fun σ H Q R q =>
  h σ H _ R fun vs ds Γ1 H1 ⟨hl, p⟩ s1 R1 x => ⟨by rw [x.length, sizeLine_eq]; omega, fun t np => (q.pre s1).tup R1 p x np⟩
theorem ve_lst {t : TA} (h : VAi F n Γ t fun ds Γ1 => ds.length ≤ 100000 ∧ ∀ t, P (.vl (.ref t)) (Γ1 ++ [.ls t ds])) : VE F n Γ (tLst t) P := fun σ H Q R q =>
  h σ H _ R fun vs ds Γ1 H1 ⟨hl, p⟩ s1 R1 x => ⟨by rw [x.length, sizeLine_eq]; omega, fun t np => (q.pre s1).lst R1 p x np⟩
theorem ve_lstI {t : TA} (h : VAi F n Γ t fun ds Γ1 => ds.length ≤ 100000 ∧ P (.im (.list ds)) Γ1) : VE F n Γ (tLst t) P := fun σ H Q R q =>
  h σ H _ R fun vs ds Γ1 H1 ⟨hl, p⟩ s1 R1 x => ⟨by rw [x.length, sizeLine_eq]; omega, fun t np => (q.pre s1).lstI R1 p x np⟩
/-! tests -/
theorem vt_b {P : Bool → List Ent → Prop} (h : VE F n Γ te fun x Γ1 => ∃ b, x = .im (.bool b) ∧ P b Γ1) : VT F n Γ (tB te) P := fun σ H Q R q =>
  h σ H _ R fun v x Γ1 H1 ⟨b, hx, p⟩ s1 R1 ok => by
    subst hx
    have ok : Dz _ _ _ _ := ok
    exact ⟨b, ok.bool, q b Γ1 H1 p s1 R1⟩
theorem vt_test {P : Bool → List Ent → Prop} (h : VE F n Γ te fun x Γ1 => ∃ b, x = .im (.bool b) ∧ P b Γ1) : VT F n Γ (tTest te) P := fun σ H Q R q =>
  h σ H _ R fun v x Γ1 H1 ⟨b, hx, p⟩ s1 R1 ok => by
    subst hx
    have ok : Dz _ _ _ _ := ok
    exact ⟨b, ok.bool, q b Γ1 H1 p s1 R1⟩
theorem vt_yes {P : Bool → List Ent → Prop} (p : P true Γ) : VT F n Γ tYes P := fun σ H Q R q => q true Γ H p (.refl _ _) R
theorem vt_not {P : Bool → List Ent → Prop} (h : VT F n Γ tt fun b Γ1 => P (!b) Γ1) : VT F n Γ (tNot tt) P := fun σ H Q R q => h σ H _ R fun b Γ1 H1 p s1 R1 => q (!b) Γ1 H1 p s1 R1
theorem vt_and {P : Bool → List Ent → Prop} (h : VT F n Γ tt fun b Γ1 => if b = true then VT F n Γ1 tu P else P false Γ1) : VT F n Γ (tAnd tt tu) P := fun σ H Q R q =>
  h σ H _ R fun b Γ1 H1 hb s1 R1 => by
    cases b with
    | true => exact hb σ H1 Q R1 fun c Γ2 H2 p s2 R2 => q c Γ2 H2 p (s1.trans s2) R2
    | false => exact q false Γ1 H1 hb s1 R1
theorem vt_or {P : Bool → List Ent → Prop} (h : VT F n Γ tt fun b Γ1 => if b = true then P true Γ1 else VT F n Γ1 tu P) : VT F n Γ (tOr tt tu) P := fun σ H Q R q =>
  h σ H _ R fun b Γ1 H1 hb s1 R1 => by
    cases b with
    | true => exact q true Γ1 H1 hb s1 R1
    | false => exact hb σ H1 Q R1 fun c Γ2 H2 p s2 R2 => q c Γ2 H2 p (s1.trans s2) R2
theorem ve_andV (h : VE F n Γ ta fun x Γ1 => ∃ b, x = .im (.bool b) ∧ if b = true then VE F n Γ1 tb P else P (.im (.bool false)) Γ1) : VE F n Γ (tAndV ta tb) P := fun σ H Q R q =>
  h σ H _ R fun v x Γ1 H1 ⟨b, hx, hb⟩ s1 R1 ok => by
    subst hx
    have ok : Dz _ _ _ _ := ok
    refine ⟨b, ok.bool, ?_⟩
    cases b with
    | true => exact hb σ H1 Q R1 (q.pre s1)
    | false => exact (q.pre s1).now R1 hb (.flat rfl)
theorem ve_orV (h : VE F n Γ ta fun x Γ1 => ∃ b, x = .im (.bool b) ∧ if b = true then P (.im (.bool true)) Γ1 else VE F n Γ1 tb P) : VE F n Γ (tOrV ta tb) P := fun σ H Q R q =>
  h σ H _ R fun v x Γ1 H1 ⟨b, hx, hb⟩ s1 R1 ok => by
    subst hx
    have ok : Dz _ _ _ _ := ok
    refine ⟨b, ok.bool, ?_⟩
    cases b with
    | true => exact (q.pre s1).now R1 hb (.flat rfl)
    | false => exact hb σ H1 Q R1 (q.pre s1)
theorem ve_notV (h : VE F n Γ ta fun x Γ1 => ∃ b, x = .im (.bool b) ∧ P (.im (.bool (!b))) Γ1) : VE F n Γ (tNotV ta) P := fun σ H Q R q =>
  h σ H _ R fun v x Γ1 H1 ⟨b, hx, p⟩ s1 R1 ok => by
    subst hx
    have ok : Dz _ _ _ _ := ok
    exact ⟨b, ok.bool, (q.pre s1).now R1 p (.flat rfl)⟩
/-! operators -/
theorem o2_i {g : Int → Int → V} {i j : Int} {d : PyData} (h : flatPD (g i j) = some d) (p : P (.im d) Γ) : O2 F n (rI0 g) (.im (.int i)) (.im (.int j)) Γ P := fun σ H v w Q R ok1 ok2 q => by
  have ok1 : Dz _ _ _ _ := ok1
  have ok2 : Dz _ _ _ _ := ok2
  exact ⟨i, j, ok1.int, ok2.int, q.now R p (.flat h)⟩
theorem o2_ic {C : Int → Int → Prop} {g : Int → Int → V} {i j : Int} {d : PyData} (hc : C i j) (h : flatPD (g i j) = some d) (p : P (.im d) Γ) : O2 F n (rI C g) (.im (.int i)) (.im (.int j)) Γ P := fun σ H v w Q R ok1 ok2 q => by
  have ok1 : Dz _ _ _ _ := ok1
  have ok2 : Dz _ _ _ _ := ok2
  exact ⟨i, j, ok1.int, ok2.int, hc, q.now R p (.flat h)⟩
theorem flatPD_inv {v : V} {d : PyData} {S : Addr → Prop} (h : Dz S H v d) {w : V} (hw : flatPD w = some d) : v = w := by
  cases w with
  | non => cases hw; exact h.none
  | bl b => cases hw; exact h.bool
  | int i => cases hw; exact h.int
  | str z => cases hw; exact h.str
  | byt b => cases hw
  | flt b => cases hw
  | ref a => cases hw
  | ty z => cases hw
/-- == of two that are flat -/
theorem o2_eq {a b : PyData} {v w : V} (ha : flatPD v = some a) (hb : flatPD w = some b) (hs : scal v w = true) (p : P (.im (.bool (decide (v = w)))) Γ) : O2 F n rEq (.im a) (.im b) Γ P := fun σ H v' w' Q R ok1 ok2 q => by
  have ok1 : Dz _ _ _ _ := ok1
  have ok2 : Dz _ _ _ _ := ok2
  rw [flatPD_inv ok1 ha, flatPD_inv ok2 hb]
  exact ⟨hs, q.now R p (.flat rfl)⟩
theorem o2_ne {a b : PyData} {v w : V} (ha : flatPD v = some a) (hb : flatPD w = some b) (hs : scal v w = true) (p : P (.im (.bool (!decide (v = w)))) Γ) : O2 F n rNe (.im a) (.im b) Γ P := fun σ H v' w' Q R ok1 ok2 q => by
  have ok1 : Dz _ _ _ _ := ok1
  have ok2 : Dz _ _ _ _ := ok2
  rw [flatPD_inv ok1 ha, flatPD_inv ok2 hb]
  exact ⟨hs, q.now R p (.flat rfl)⟩
theorem dec_str {a b : Str} : decide (V.str a = V.str b) = decide (a = b) := by
  by_cases h : a = b
  · rw [decide_eq_true h, decide_eq_true (congrArg V.str h)]
  · rw [decide_eq_false h, decide_eq_false fun z => h (V.str.inj z)]
theorem dec_ints {a b : Int} : decide (V.int a = V.int b) = decide (a = b) := by
  by_cases h : a = b
  · rw [decide_eq_true h, decide_eq_true (congrArg V.int h)]
  · rw [decide_eq_false h, decide_eq_false fun z => h (V.int.inj z)]
theorem o2_eqS {a b : Str} (p : P (.im (.bool (decide (a = b)))) Γ) : O2 F n rEq (.im (.str a)) (.im (.str b)) Γ P := o2_eq (v := .str a) (w := .str b) rfl rfl rfl (by rw [dec_str]; exact p)
theorem o2_neS {a b : Str} (p : P (.im (.bool (!decide (a = b)))) Γ) : O2 F n rNe (.im (.str a)) (.im (.str b)) Γ P := o2_ne (v := .str a) (w := .str b) rfl rfl rfl (by rw [dec_str]; exact p)
theorem o2_eqI {a b : Int} (p : P (.im (.bool (decide (a = b)))) Γ) : O2 F n rEq (.im (.int a)) (.im (.int b)) Γ P := o2_eq (v := .int a) (w := .int b) rfl rfl rfl (by rw [dec_ints]; exact p)
theorem o2_neI {a b : Int} (p : P (.im (.bool (!decide (a = b)))) Γ) : O2 F n rNe (.im (.int a)) (.im (.int b)) Γ P := o2_ne (v := .int a) (w := .int b) rfl rfl rfl (by rw [dec_ints]; exact p)
def isNonD : PyData → Bool
  | .none => true
  | _ => false
theorem Dz.isN {S : Addr → Prop} {v : V} {d : PyData} (h : Dz S H v d) : decide (v = .non) = isNonD d := by
  cases h with
  | flat e => cases v <;> cases e <;> rfl
  | tup _ _ _ => rfl
  | lst _ _ _ => rfl
  | dct _ _ _ _ => rfl
theorem o2_isN {d : PyData} (p : P (.im (.bool (isNonD d))) Γ) : O2 F n (fun x y H Q => y = .non ∧ Q (.bl (decide (x = .non))) H) (.im d) (.im .none) Γ P := fun σ H v w Q R ok1 ok2 q => by
  have ok1 : Dz _ _ _ _ := ok1
  have ok2 : Dz _ _ _ _ := ok2
  refine ⟨ok2.none, ?_⟩
  rw [ok1.isN]
  exact q.now R p (.flat rfl)
theorem o2_notN {d : PyData} (p : P (.im (.bool (!isNonD d))) Γ) : O2 F n (fun x y H Q => y = .non ∧ Q (.bl (!decide (x = .non))) H) (.im d) (.im .none) Γ P := fun σ H v w Q R ok1 ok2 q => by
  have ok1 : Dz _ _ _ _ := ok1
  have ok2 : Dz _ _ _ _ := ok2
  refine ⟨ok2.none, ?_⟩
  rw [ok1.isN]
  exact q.now R p (.flat rfl)
theorem o2_ltS {a b : Str} (p : P (.im (.bool (decide (a.cps.toList < b.cps.toList)))) Γ) : O2 F n (fun x y H Q => ∃ i j, x = .str i ∧ y = .str j ∧ Q (.bl (decide (i.cps.toList < j.cps.toList))) H) (.im (.str a)) (.im (.str b)) Γ P := fun σ H v w Q R ok1 ok2 q => by
  have ok1 : Dz _ _ _ _ := ok1
  have ok2 : Dz _ _ _ _ := ok2
  exact ⟨a, b, ok1.str, ok2.str, q.now R p (.flat rfl)⟩
theorem o2_addS {a b : Str} (hl : a.length + b.length ≤ sizeLine) (p : P (.im (.str (a ++ b))) Γ) : O2 F n (fun x y H Q => ∃ i j, x = .str i ∧ y = .str j ∧ i.length + j.length ≤ sizeLine ∧ Q (.str (i ++ j)) H) (.im (.str a)) (.im (.str b)) Γ P := fun σ H v w Q R ok1 ok2 q => by
  have ok1 : Dz _ _ _ _ := ok1
  have ok2 : Dz _ _ _ _ := ok2
  exact ⟨a, b, ok1.str, ok2.str, hl, q.now R p (.flat rfl)⟩
/-- == , != of data -/
theorem o2_eqD {K : PySem.W.Frag} {d e : PyData} (nd : d.hasDict = false) (ne : e.hasDict = false) (hd : SeqAt.shaped d = true) (he : SeqAt.shaped e = true) (p : P (.im (.bool (PyData.eqv d e))) Γ) : O2 F n (rEqD K) (.im d) (.im e) Γ P := fun σ H v w Q R ok1 ok2 q =>
  ⟨d, e, Dz.dp K _ _ nd ok1, Dz.dp K _ _ ne ok2, hd, he, q.now R p (.flat rfl)⟩
theorem o2_neD {K : PySem.W.Frag} {d e : PyData} (nd : d.hasDict = false) (ne : e.hasDict = false) (hd : SeqAt.shaped d = true) (he : SeqAt.shaped e = true) (p : P (.im (.bool (!PyData.eqv d e))) Γ) : O2 F n (rNeD K) (.im d) (.im e) Γ P := fun σ H v w Q R ok1 ok2 q =>
  ⟨d, e, Dz.dp K _ _ nd ok1, Dz.dp K _ _ ne ok2, hd, he, q.now R p (.flat rfl)⟩
/-! sequences -/
/-- what a value is when it is walked: the items ds (a list: lo) -/
inductive Sq (Γ : List Ent) : Bool → Val → List PyData → Prop
  | tup (ds : List PyData) : Sq Γ false (.im (.tuple ds)) ds
  | lst (ds : List PyData) : Sq Γ true (.im (.list ds)) ds
  | own {j : Nat} {r : Addr} {ds : List PyData} (h : Γ[j]? = some (.ls r ds)) : Sq Γ true (.vl (.ref r)) ds
  | inn {j : Nat} {r p : Addr} {kvs : List (Key × Addr × List PyData)} {k : Key} {ds : List PyData} (h : Γ[j]? = some (.dl r kvs)) (m : (k, p, ds) ∈ kvs) : Sq Γ true (.vl (.ref p)) ds
theorem Sq.get {b : Bool} {x : Val} {ds : List PyData} {v : V} (q : Sq Γ b x ds) (R : Rep F n Γ σ H) (ok : x.ok (Ex F Γ) H v) : ∃ p xs, v = .ref p ∧ DzAll (Ex F Γ) H xs ds ∧ (if b = true then H p = some (.lst xs) else H p = some (.tup xs)) := by
  cases q with
  | tup ds =>
    obtain ⟨p, xs, rfl, e, _, a⟩ := Dz.tuple ok
    exact ⟨p, xs, rfl, a, e⟩
  | lst ds =>
    obtain ⟨p, xs, rfl, e, _, a⟩ := Dz.list ok
    exact ⟨p, xs, rfl, a, e⟩
  | own h =>
    obtain ⟨o, _, _, xs, e, a⟩ := R.ok _ _ h
    exact ⟨_, xs, ok, a, e⟩
  | inn h m =>
    obtain ⟨o, _, _, _, _, g⟩ := R.ok _ _ h
    obtain ⟨xs, e, a⟩ := g _ m
    exact ⟨_, xs, ok, a, e⟩
theorem Sq.seq {K : PySem.W.Frag} {b : Bool} {x : Val} {ds : List PyData} {v : V} (q : Sq Γ b x ds) (R : Rep F n Γ σ H) (ok : x.ok (Ex F Γ) H v) : ∃ p xs, v = .ref p ∧ DzAll (Ex F Γ) H xs ds ∧ (SqL K H p xs ∨ SqT K H p xs) := by
  obtain ⟨p, xs, rfl, a, e⟩ := q.get R ok
  cases b with
  | true => exact ⟨p, xs, rfl, a, .inl (sql_of e)⟩
  | false => exact ⟨p, xs, rfl, a, .inr (sqt_of e)⟩
theorem ve_cb {r : List V → Hp → VK → Prop} {t : TA} (h : VAs F n Γ t fun xs Γ1 => CB F n r xs Γ1 P) : VE F n Γ (tCB r t) P := fun σ H Q R q => h σ H _ R fun vs xs Γ1 H1 hb s1 R1 ok => hb σ H1 vs Q R1 ok (q.pre s1)
theorem cb_len {K : PySem.W.Frag} {b : Bool} {x : Val} {ds : List PyData} (s : Sq Γ b x ds) (p : P (.im (.int ds.length)) Γ) : CB F n (fun xs H Q => ∃ p ys, xs = [.ref p] ∧ (SqL K H p ys ∨ SqT K H p ys) ∧ Q (.int ys.length) H) [x] Γ P := fun σ H vs Q R ok q => by
  cases ok with
  | cons o1 o2 =>
    cases o2
    obtain ⟨p', xs, rfl, a, e⟩ := s.seq (K := K) R o1
    refine ⟨p', xs, rfl, e, ?_⟩
    rw [a.length]
    exact q.now R p (.flat rfl)
theorem cb_tuple {K : PySem.W.Frag} {b : Bool} {x : Val} {ds : List PyData} (s : Sq Γ b x ds) (hx : b = false → x = .im (.tuple ds)) (p : P (.im (.tuple ds)) Γ) : CB F n (fun xs H Q => ∃ p ys, xs = [.ref p] ∧ ((SqL K H p ys ∧ ∀ l, H l = none → Q (.ref l) (upd H l (.tup ys))) ∨ (SqT K H p ys ∧ Q (.ref p) H))) [x] Γ P := fun σ H vs Q R ok q => by
  cases ok with
  | cons o1 o2 =>
    cases o2
    obtain ⟨p', xs, rfl, a, e⟩ := s.get R o1
    cases b with
    | true => exact ⟨p', xs, rfl, .inl ⟨sql_of e, fun l nl => q.tup R p a nl⟩⟩
    | false =>
      have := hx rfl
      subst this
      exact ⟨p', xs, rfl, .inr ⟨sqt_of e, q.now R p o1⟩⟩
theorem cb_list {K : PySem.W.Frag} {b : Bool} {x : Val} {ds : List PyData} (s : Sq Γ b x ds) (p : ∀ t, P (.vl (.ref t)) (Γ ++ [.ls t ds])) : CB F n (fun xs H Q => ∃ p ys, xs = [.ref p] ∧ (SqL K H p ys ∨ SqT K H p ys) ∧ ∀ l, H l = none → Q (.ref l) (upd H l (.lst ys))) [x] Γ P := fun σ H vs Q R ok q => by
  cases ok with
  | cons o1 o2 =>
    cases o2
    obtain ⟨p', xs, rfl, a, e⟩ := s.seq (K := K) R o1
    exact ⟨p', xs, rfl, e, fun l nl => q.lst R p a nl⟩
theorem cb_sortT {K : PySem.W.Frag} {x : Val} {zs : List Str} (s : Sq Γ true x (zs.map PyData.str)) (hl : zs.length ≤ 100000) (p : ∀ t, P (.vl (.ref t)) (Γ ++ [.ls t ((sortS zs).map PyData.str)])) : CB F n (rSortT K) [x] Γ P := fun σ H vs Q R ok q => by
  cases ok with
  | cons o1 o2 =>
    cases o2
    obtain ⟨p', xs, rfl, a, e⟩ := s.get R o1
    have := a.strs
    subst this
    exact ⟨p', zs, rfl, sql_of e, by rw [sizeLine_eq]; omega, fun l nl => q.lst R p (DzAll.ofStrs _) nl⟩
theorem dz_zip {S : Addr → Prop} : ∀ {xs : List V} {ds : List PyData}, DzAll S H xs ds → ∃ l : List (V × PyData), xs = l.map (·.1) ∧ ds = l.map (·.2) ∧ ∀ x ∈ l, Dz S H x.1 x.2
  | _, _, .nil => ⟨[], rfl, rfl, fun _ z => by cases z⟩
  | _, _, .cons (v := v) (d := d) h1 h2 => by
    obtain ⟨l, rfl, rfl, hl⟩ := dz_zip h2
    exact ⟨(v, d) :: l, rfl, rfl, fun x hx => by
      rcases List.mem_cons.mp hx with rfl | hx
      · exact h1
      · exact hl x hx⟩
theorem dz_of {S : Addr → Prop} : ∀ {l : List (V × PyData)}, (∀ x ∈ l, Dz S H x.1 x.2) → DzAll S H (l.map (·.1)) (l.map (·.2))
  | [], _ => .nil
  | x :: l, h => .cons (h x List.mem_cons_self) (dz_of fun y hy => h y (List.mem_cons_of_mem _ hy))
theorem map_msd (l : List (V × PyData)) : (l.mergeSort (PySem.W.dataLe false (·.2))).map (·.2) = (l.map (·.2)).mergeSort (PySem.W.dataLe false id) := List.map_mergeSort fun x _ y _ => rfl
/-- sorted of data of a kind -/
theorem sorted_dz {K : PySem.W.Frag} {ds : List PyData} {xs : List V} {p' : Addr} (R : Rep F n Γ σ H) (q : Mk F n Γ P σ H Q) (a : DzAll (Ex F Γ) H xs ds) (hd : ∀ d ∈ ds, d.depth ≤ 50 ∧ d.hasDict = false) (p : ∀ t, P (.vl (.ref t)) (Γ ++ [.ls t (ds.mergeSort (PySem.W.dataLe false id))])) :
    ∃ bs : List (V × PyData), xs = bs.map (·.1) ∧ ds = bs.map (·.2) ∧ (∀ b ∈ bs, Dp K H b.1 b.2 ∧ b.2.depth ≤ 50) ∧ ∀ p, H p = none → Q (.ref p) (upd H p (.lst ((bs.mergeSort (PySem.W.dataLe false (·.2))).map (·.1)))) := by
  obtain ⟨l, e1, e2, hl⟩ := dz_zip a
  refine ⟨l, e1, e2, fun b hb => ⟨Dz.dp K _ _ (hd _ (by rw [e2]; exact List.mem_map.mpr ⟨b, hb, rfl⟩)).2 (hl b hb), (hd _ (by rw [e2]; exact List.mem_map.mpr ⟨b, hb, rfl⟩)).1⟩, fun t nt => ?_⟩
  refine q.lst R p ?_ nt
  rw [e2, ← map_msd]
  exact dz_of fun x hx => hl x (List.mem_mergeSort.mp hx)
theorem cb_sortB {K : PySem.W.Frag} {x : Val} {ds : List PyData} (s : Sq Γ true x ds) (hl : ds.length ≤ 100000) (hd : ∀ d ∈ ds, d.depth ≤ 50 ∧ d.hasDict = false) (ha : PySem.W.AllAlike ds) (hk : PySem.W.Sortable ds) (p : ∀ t, P (.vl (.ref t)) (Γ ++ [.ls t (ds.mergeSort (PySem.W.dataLe false id))])) : CB F n (rSortB K) [x] Γ P := fun σ H vs Q R ok q => by
  cases ok with
  | cons o1 o2 =>
    cases o2
    obtain ⟨p', xs, rfl, a, e⟩ := s.get R o1
    obtain ⟨bs, rfl, rfl, h1, h2⟩ := sorted_dz (K := K) (p' := p') R q a hd p
    rw [List.length_map] at hl
    exact ⟨p', bs, rfl, sql_of e, h1, ha, hk, by rw [sizeLine_eq]; omega, h2⟩
theorem cb_sortBT {K : PySem.W.Frag} {x : Val} {ds : List PyData} (s : Sq Γ false x ds) (hl : ds.length ≤ 100000) (hd : ∀ d ∈ ds, d.depth ≤ 50 ∧ d.hasDict = false) (ha : PySem.W.AllAlike ds) (hk : PySem.W.Sortable ds) (p : ∀ t, P (.vl (.ref t)) (Γ ++ [.ls t (ds.mergeSort (PySem.W.dataLe false id))])) : CB F n (rSortBT K) [x] Γ P := fun σ H vs Q R ok q => by
  cases ok with
  | cons o1 o2 =>
    cases o2
    obtain ⟨p', xs, rfl, a, e⟩ := s.get R o1
    obtain ⟨bs, rfl, rfl, h1, h2⟩ := sorted_dz (K := K) (p' := p') R q a hd p
    rw [List.length_map] at hl
    exact ⟨p', bs, rfl, sqt_of e, h1, ha, hk, by rw [sizeLine_eq]; omega, h2⟩
theorem cb_all {K : PySem.W.Frag} {x : Val} {bs : List Bool} (s : Sq Γ true x (bs.map PyData.bool)) (p : P (.im (.bool (bs.all id))) Γ) : CB F n (rAll K) [x] Γ P := fun σ H vs Q R ok q => by
  cases ok with
  | cons o1 o2 =>
    cases o2
    obtain ⟨p', xs, rfl, a, e⟩ := s.get R o1
    have := a.bools
    subst this
    exact ⟨p', bs, rfl, sql_of e, q.now R p (.flat rfl)⟩
theorem cb_any {K : PySem.W.Frag} {x : Val} {bs : List Bool} (s : Sq Γ true x (bs.map PyData.bool)) (p : P (.im (.bool (bs.any id))) Γ) : CB F n (rAny K) [x] Γ P := fun σ H vs Q R ok q => by
  cases ok with
  | cons o1 o2 =>
    cases o2
    obtain ⟨p', xs, rfl, a, e⟩ := s.get R o1
    have := a.bools
    subst this
    exact ⟨p', bs, rfl, sql_of e, q.now R p (.flat rfl)⟩
theorem cb_ii {g : Int → Int → V} {i j : Int} {d : PyData} (h : flatPD (g i j) = some d) (p : P (.im d) Γ) : CB F n (fun xs H Q => ∃ i j, xs = [.int i, .int j] ∧ Q (g i j) H) [.im (.int i), .im (.int j)] Γ P := fun σ H vs Q R ok q => by
  cases ok with
  | cons o1 o2 =>
    cases o2 with
    | cons o2 o3 =>
      cases o3
      have o1 : Dz _ _ _ _ := o1
      have o2 : Dz _ _ _ _ := o2
      exact ⟨i, j, by rw [o1.int, o2.int], q.now R p (.flat h)⟩
theorem cb_int {i : Int} (p : P (.im (.int i)) Γ) : CB F n (fun xs H Q => (∃ i, xs = [.int i] ∧ Q (.int i) H) ∨ ∃ k, xs = [.bl k] ∧ Q (.int (if k then 1 else 0)) H) [.im (.int i)] Γ P := fun σ H vs Q R ok q => by
  cases ok with
  | cons o1 o2 =>
    cases o2
    have o1 : Dz _ _ _ _ := o1
    exact .inl ⟨i, by rw [o1.int], q.now R p (.flat rfl)⟩
theorem atI_dz {S : Addr → Prop} {xs : List V} {ds : List PyData} {i : Int} {d : PyData} (a : DzAll S H xs ds) (h : atI ds i = some d) : ∃ v, atI xs i = some v ∧ Dz S H v d := by
  unfold atI at *
  rw [a.length]
  cases e : ixN ds.length i with
  | none => rw [e] at h; cases h
  | some j =>
    rw [e] at h
    exact a.getD (i := j) h
theorem o2_ixT {K : PySem.W.Frag} {ds : List PyData} {i : Int} {d : PyData} (h : atI ds i = some d) (p : P (.im d) Γ) : O2 F n (rIxT K) (.im (.tuple ds)) (.im (.int i)) Γ P := fun σ H v w Q R ok1 ok2 q => by
  obtain ⟨p', xs, rfl, e, _, a⟩ := Dz.tuple ok1
  have ok2 : Dz _ _ _ _ := ok2
  obtain ⟨y, h1, h2⟩ := atI_dz a h
  exact ⟨p', xs, i, y, rfl, ok2.int, sqt_of e, h1, q.now R p h2⟩
theorem o2_ixL {K : PySem.W.Frag} {x : Val} {ds : List PyData} {i : Int} {d : PyData} (s : Sq Γ true x ds) (h : atI ds i = some d) (p : P (.im d) Γ) : O2 F n (rIxL K) x (.im (.int i)) Γ P := fun σ H v w Q R ok1 ok2 q => by
  obtain ⟨p', xs, rfl, a, e⟩ := s.get R ok1
  have ok2 : Dz _ _ _ _ := ok2
  obtain ⟨y, h1, h2⟩ := atI_dz a h
  exact ⟨p', xs, i, y, rfl, ok2.int, sql_of e, h1, q.now R p h2⟩
theorem o2_catA {K : PySem.W.Frag} {ds es : List PyData} (hl : ds.length + es.length ≤ 100000) (p : P (.im (.tuple (ds ++ es))) Γ) : O2 F n (rCatA K) (.im (.tuple ds)) (.im (.tuple es)) Γ P := fun σ H v w Q R ok1 ok2 q => by
  have k1 : Dz _ _ _ _ := ok1
  have k2 : Dz _ _ _ _ := ok2
  obtain ⟨p1, xs, rfl, e1, _, a1⟩ := Dz.tuple ok1
  obtain ⟨p2, ys, rfl, e2, _, a2⟩ := Dz.tuple ok2
  have l1 := a1.length
  have l2 := a2.length
  refine ⟨p1, p2, xs, ys, rfl, rfl, sqt_of e1, sqt_of e2, by rw [sizeLine_eq]; omega, fun z => ?_, fun _ z => ?_, fun _ _ t nt => q.tup R p (a1.append a2) nt⟩
  · subst z
    cases a1
    exact q.now R p k2
  · subst z
    cases a2
    rw [List.append_nil] at p
    exact q.now R p k1
theorem o2_cat {x y : Val} {ds es : List PyData} (s1 : Sq Γ true x ds) (s2 : Sq Γ true y es) (hl : ds.length + es.length ≤ 100000) (p : ∀ t, P (.vl (.ref t)) (Γ ++ [.ls t (ds ++ es)])) : O2 F n rCat x y Γ P := fun σ H v w Q R ok1 ok2 q => by
  obtain ⟨p1, xs, rfl, a1, e1⟩ := s1.get R ok1
  obtain ⟨p2, ys, rfl, a2, e2⟩ := s2.get R ok2
  have l1 := a1.length
  have l2 := a2.length
  exact ⟨p1, p2, xs, ys, rfl, rfl, e1, e2, by rw [sizeLine_eq]; omega, fun t nt => q.lst R p (a1.append a2) nt⟩
theorem dz_cut {S : Addr → Prop} {xs : List V} {ds : List PyData} {lo hi : Option Int} (a : DzAll S H xs ds) : DzAll S H (cutV xs lo hi) ((ds.drop (HT.sIx ds.length 0 lo)).take (HT.sIx ds.length ds.length hi - HT.sIx ds.length 0 lo)) := by
  unfold cutV
  rw [a.length]
  exact (a.drop _).take _
/-- data cut as cutV cuts -/
def cutD (ds : List PyData) (lo hi : Option Int) : List PyData := (ds.drop (HT.sIx ds.length 0 lo)).take (HT.sIx ds.length ds.length hi - HT.sIx ds.length 0 lo)
def VO (F : Frm) (n : Nat) (Γ : List Ent) (to : TO) (P : Option Int → List Ent → Prop) : Prop := ∀ (σ : L2.St) (H : Hp) (Q : Option Int → Hp → Prop), Rep F n Γ σ H → (∀ o Γ' H', P o Γ' → Nxt (Ex F Γ) H (Ex F Γ') H' → Rep F n Γ' σ H' → Q o H') → to σ H Q
theorem vo_no {P : Option Int → List Ent → Prop} (p : P none Γ) : VO F n Γ tNoPart P := fun σ H Q R q => q none Γ H p (.refl _ _) R
theorem vo_some {P : Option Int → List Ent → Prop} (h : VE F n Γ te fun x Γ1 => ∃ i, x = .im (.int i) ∧ P (some i) Γ1) : VO F n Γ (tPart te) P := fun σ H Q R q =>
  h σ H _ R fun v x Γ1 H1 ⟨i, hx, p⟩ s1 R1 ok => by
    subst hx
    have ok : Dz _ _ _ _ := ok
    exact ⟨i, ok.int, q (some i) Γ1 H1 p s1 R1⟩
theorem ve_slT {K : PySem.W.Frag} {tl th : TO} (h : VE F n Γ te fun x Γ1 => ∃ ds, x = .im (.tuple ds) ∧ VO F n Γ1 tl fun lo Γ2 => VO F n Γ2 th fun hi Γ3 => P (.im (.tuple (cutD ds lo hi))) Γ3) : VE F n Γ (tSl (rSlA K) te tl th) P := fun σ H Q R q =>
  h σ H _ R fun v x Γ1 H1 ⟨ds, hx, hr⟩ s1 R1 ok => hr σ H1 _ R1 fun lo Γ2 H2 hr2 s2 R2 => hr2 σ H2 _ R2 fun hi Γ3 H3 p s3 R3 => by
    subst hx
    have ok : Dz _ _ _ _ := ok
    have ok := Dz.nxt (s2.trans s3) _ _ ok
    have q := q.pre ((s1.trans s2).trans s3)
    obtain ⟨p1, xs, rfl, e1, _, a1⟩ := Dz.tuple ok
    refine ⟨p1, xs, rfl, sqt_of e1, fun z => ?_, fun _ t nt => q.tup R3 p (dz_cut a1) nt⟩
    have : cutD ds lo hi = ds := by
      unfold cutD
      rw [← a1.length, z.1, z.2, Nat.sub_zero, List.drop_zero, a1.length, List.take_length]
    have p : P (Val.im (PyData.tuple (cutD ds lo hi))) Γ3 := p
    rw [this] at p
    exact q.now R3 p ok
theorem ve_slL {K : PySem.W.Frag} {tl th : TO} (h : VE F n Γ te fun x Γ1 => ∃ ds, VO F n Γ1 tl fun lo Γ2 => VO F n Γ2 th fun hi Γ3 => Sq Γ3 true x ds ∧ ∀ t, P (.vl (.ref t)) (Γ3 ++ [.ls t (cutD ds lo hi)])) : VE F n Γ (tSl (rSlL K) te tl th) P := fun σ H Q R q =>
  h σ H _ R fun v x Γ1 H1 ⟨ds, hr⟩ s1 R1 ok => hr σ H1 _ R1 fun lo Γ2 H2 hr2 s2 R2 => hr2 σ H2 _ R2 fun hi Γ3 H3 ⟨sq, p⟩ s3 R3 => by
    obtain ⟨p1, xs, rfl, a1, e1⟩ := sq.get R3 (Val.nxt ok (s2.trans s3))
    exact ⟨p1, xs, rfl, sql_of e1, fun t nt => (q.pre ((s1.trans s2).trans s3)).lst R3 p (dz_cut a1) nt⟩
end
end Vl

set_option Elab.async false
set_option linter.all false
set_option maxRecDepth 100000
set_option maxHeartbeats 4000000
namespace Vl
open PySem L2 PyProof.Rows Hw
section
variable {F : Frm} {n : Nat} {Γ : List Ent} {σ : L2.St} {H : Hp}
/-- some entries and those behind the last one are made anew -/
theorem Rep.redo (R : Rep F n Γ σ H) {J : Nat → Prop} [DecidablePred J] {Γ' : List Ent} {H' : Hp} {W : Addr → Prop} (hW : ∀ a, W a → ∃ (j : Nat) (e : Ent), J j ∧ Γ[j]? = some e ∧ a ∈ e.own) (len : n ≤ Γ'.length) (old : ∀ (i : Nat) (e : Ent), Γ'[i]? = some e → ¬ J i → i < Γ.length → Γ[i]? = some e)
    (own : ∀ (i : Nat) (e : Ent) (a : Addr), Γ'[i]? = some e → (J i ∨ Γ.length ≤ i) → a ∈ e.own → W a ∨ ∀ o, H a = some o → ¬ NT o) (nd : ∀ (i i' : Nat) (e e' : Ent) (a : Addr), (J i ∨ Γ.length ≤ i) → (J i' ∨ Γ.length ≤ i') → Γ'[i]? = some e → Γ'[i']? = some e' → a ∈ e.own → a ∈ e'.own → i = i')
    (ch : ∀ b u, ¬ W b → NT u → H b = some u → H' b = some u) (tb : LamX.Tabs F.T H → LamX.Tabs F.T H') (ok : ∀ (i : Nat) (e : Ent), Γ'[i]? = some e → (J i ∨ Γ.length ≤ i) → ∃ o : Option V, (i < n → σ[i]? = some o) ∧ e.ok (Ex F Γ') H' o) : Rep F n Γ' σ H' ∧ Nxt (Ex F Γ) H (Ex F Γ') H' := by
  have inW : ∀ a, W a → In Γ a := fun a h => by
    obtain ⟨j, e, _, he, ha⟩ := hW a h
    exact ⟨e, List.mem_of_getElem? he, ha⟩
  have inS : ∀ {a : Addr}, In Γ' a → In Γ a ∨ ∀ o, H a = some o → ¬ NT o := fun {a} ⟨u, hu, ha⟩ => by
    obtain ⟨i, hi⟩ := List.mem_iff_getElem?.mp hu
    by_cases h : J i ∨ Γ.length ≤ i
    · exact (own i u a hi h ha).imp (inW a) id
    · exact .inl ⟨u, List.mem_of_getElem? (old i u hi (fun z => h (.inl z)) (by omega)), ha⟩
  have nx : Nxt (Ex F Γ) H (Ex F Γ') H' := fun b u nb nt eq => by
    refine ⟨ch b u (fun z => nb (.inr (inW b z))) nt eq, fun z => ?_⟩
    rcases z with z | z
    · exact nb (.inl z)
    · rcases inS z with z | z
      · exact nb (.inr z)
      · exact z u eq nt
  have apart : ∀ {i : Nat} {e : Ent} {a : Addr}, Γ'[i]? = some e → ¬ (J i ∨ Γ.length ≤ i) → a ∈ e.own → ¬ W a ∧ ∃ u, H a = some u ∧ NT u := fun {i e a} hi h ha => by
    have o := old i e hi (fun z => h (.inl z)) (by omega)
    refine ⟨fun z => ?_, by
      obtain ⟨u, e1, e2, _⟩ := R.exsP (.inr ⟨e, List.mem_of_getElem? o, ha⟩)
      exact ⟨u, e1, e2⟩⟩
    obtain ⟨j, u, hj, hu, hau⟩ := hW a z
    exact h (.inl (by rw [R.nd i j e u a o hu ha hau]; exact hj))
  refine ⟨⟨R.sl, len, fun i e hi => ?_, fun i i' e e' a h1 h2 m1 m2 => ?_, fun a ha => ?_, fun b u hb nt eq => ?_, fun t => ?_, fun a ha => ?_⟩, nx⟩
  · by_cases h : J i ∨ Γ.length ≤ i
    · exact ok i e hi h
    · obtain ⟨o, h1, h2⟩ := R.ok i e (old i e hi (fun z => h (.inl z)) (by omega))
      refine ⟨o, h1, Ent.nxt h2 nx fun a ha => ?_⟩
      obtain ⟨q1, q2⟩ := apart hi h ha
      cases z : H a with
      | none =>
        obtain ⟨u, e1, _⟩ := q2
        rw [z] at e1; cases e1
      | some w =>
        obtain ⟨w2, z2, n2, _⟩ := Ent.place h2 ha
        rw [z] at z2
        cases z2
        exact ch a w q1 n2 z
  · by_cases k1 : J i ∨ Γ.length ≤ i <;> by_cases k2 : J i' ∨ Γ.length ≤ i'
    · exact nd i i' e e' a k1 k2 h1 h2 m1 m2
    · obtain ⟨q1, q2⟩ := apart h2 k2 m2
      rcases own i e a h1 k1 m1 with z | z
      · exact absurd z q1
      · obtain ⟨u, e1, e2⟩ := q2
        exact absurd e2 (z u e1)
    · obtain ⟨q1, q2⟩ := apart h1 k1 m1
      rcases own i' e' a h2 k2 m2 with z | z
      · exact absurd z q1
      · obtain ⟨u, e1, e2⟩ := q2
        exact absurd e2 (z u e1)
    · exact R.nd i i' e e' a (old i e h1 (fun z => k1 (.inl z)) (by omega)) (old i' e' h2 (fun z => k2 (.inl z)) (by omega)) m1 m2
  · obtain ⟨h1, h2, h3⟩ := R.s0 a ha
    refine ⟨h1, h2, fun z => ?_⟩
    rcases inS z with z | z
    · exact h3 z
    · obtain ⟨u, e1, e2, _⟩ := R.exsP (.inl ha)
      exact z u e1 e2
  · refine ch b u (fun z => ?_) nt (R.fr b u hb nt eq)
    rcases R.nw b (inW b z) with q | q
    · exact hb q
    · exact q u eq nt
  · exact tb (R.tb t)
  · rcases inS ha with z | z
    · exact R.nw a z
    · by_cases io : F.io a
      · exact .inl io
      · exact .inr fun o q nt => z o (R.fr a o io nt q) nt
/-- what a ghost owns goes to a slot -/
theorem Rep.move (R : Rep F n Γ σ H) {i j : Nat} {e : Ent} {v : V} (hi : i < n) (hj : n ≤ j) (he : Γ[j]? = some e) (ha : e.adr = some v) : Rep F n ((Γ.set j .no).set i e) (σ.set i (some v)) H := by
  have hjn : j < Γ.length := (List.getElem?_eq_some_iff.mp he).1
  have hin : i < (Γ.set j .no).length := by rw [List.length_set]; omega
  have key : ∀ {k : Nat} {u : Ent}, ((Γ.set j .no).set i e)[k]? = some u → (k = i ∧ u = e) ∨ (k ≠ i ∧ k = j ∧ u = .no) ∨ (k ≠ i ∧ k ≠ j ∧ Γ[k]? = some u) := fun {k u} hu => by
    by_cases hk : k = i
    · subst hk
      rw [List.getElem?_set_self hin] at hu
      cases hu
      exact .inl ⟨rfl, rfl⟩
    · rw [List.getElem?_set_ne (fun z => hk z.symm)] at hu
      by_cases hk2 : k = j
      · subst hk2
        rw [List.getElem?_set_self hjn] at hu
        cases hu
        exact .inr (.inl ⟨hk, rfl, rfl⟩)
      · rw [List.getElem?_set_ne (fun z => hk2 z.symm)] at hu
        exact .inr (.inr ⟨hk, hk2, hu⟩)
  have inS : ∀ {a : Addr}, In ((Γ.set j .no).set i e) a → In Γ a := fun {a} ⟨u, hu, hau⟩ => by
    obtain ⟨k, hk⟩ := List.mem_iff_getElem?.mp hu
    rcases key hk with ⟨_, rfl⟩ | ⟨_, _, rfl⟩ | ⟨_, _, h⟩
    · exact ⟨u, List.mem_of_getElem? he, hau⟩
    · cases hau
    · exact ⟨u, List.mem_of_getElem? h, hau⟩
  have nx : Nxt (Ex F Γ) H (Ex F ((Γ.set j .no).set i e)) H := .less fun a ha => ha.elim .inl fun z => .inr (inS z)
  refine ⟨by rw [List.length_set]; exact R.sl, by rw [List.length_set, List.length_set]; exact R.len, fun k u hu => ?_, fun k k' u u' a h1 h2 m1 m2 => ?_, fun a ha => ?_, R.fr, R.tb, fun a ha => R.nw a (inS ha)⟩
  · rcases key hu with ⟨rfl, rfl⟩ | ⟨hk, rfl, rfl⟩ | ⟨hk, _, h⟩
    · obtain ⟨o, _, ok⟩ := R.ok j u he
      have := Ent.adr_ok ok ha
      subst this
      exact ⟨some v, fun _ => List.getElem?_set_self (by rw [R.sl]; exact hi), Ent.nxt ok nx fun _ _ => rfl⟩
    · exact ⟨none, fun z => absurd z (by omega), trivial⟩
    · obtain ⟨o, h1, h2⟩ := R.ok k u h
      exact ⟨o, fun z => by rw [List.getElem?_set_ne (fun z => hk z.symm)]; exact h1 z, Ent.nxt h2 nx fun _ _ => rfl⟩
  · rcases key h1 with ⟨q1, q2⟩ | ⟨_, _, q2⟩ | ⟨k1, k2, g1⟩
    · rcases key h2 with ⟨q3, q4⟩ | ⟨_, _, q4⟩ | ⟨k3, k4, g2⟩
      · rw [q1, q3]
      · rw [q4] at m2; cases m2
      · rw [q2] at m1; exact absurd (R.nd k' j u' e a g2 he m2 m1) k4
    · rw [q2] at m1; cases m1
    · rcases key h2 with ⟨q3, q4⟩ | ⟨_, _, q4⟩ | ⟨k3, k4, g2⟩
      · rw [q4] at m2; exact absurd (R.nd k j u e a g1 he m1 m2) k2
      · rw [q4] at m2; cases m2
      · exact R.nd k k' u u' a g1 g2 m1 m2
  · obtain ⟨h1, h2, h3⟩ := R.s0 a ha
    exact ⟨h1, h2, fun z => h3 (inS z)⟩
/-! statements -/
variable {D : Ends} {u t tb : TS} {te : TE} {i j : Nat}
theorem vs_set (R : Rep F n Γ σ H) (hi : i < n) (h : VE F n Γ te fun x Γ1 => ∃ d, x = .im d ∧ ∀ σ1 H1, Rep F n ((Γ1.set i (.im d)).take Γ.length) σ1 H1 → u D σ1 H1) : tSeq (tAsg te (gName i)) u D σ H :=
  h σ H _ R fun v x Γ1 H1 ⟨d, hx, k⟩ s1 R1 ok => by
    subst hx
    exact k _ _ ((R1.put (e' := .im d) hi rfl ⟨v, rfl, ok⟩).take R.len)
theorem vs_setV (R : Rep F n Γ σ H) (hi : i < n) (h : VE F n Γ te fun x Γ1 => ∃ v, x = .vl v ∧ ∀ σ1 H1, Rep F n ((Γ1.set i (.vl v)).take Γ.length) σ1 H1 → u D σ1 H1) : tSeq (tAsg te (gName i)) u D σ H :=
  h σ H _ R fun v x Γ1 H1 ⟨w, hx, k⟩ s1 R1 ok => by
    subst hx
    have ok : v = w := ok
    subst ok
    exact k _ _ ((R1.put (e' := .vl v) hi rfl rfl).take R.len)
/-- a list, a dict that was just made (the ghost at j) -/
theorem vs_setO (R : Rep F n Γ σ H) (hi : i < n) (h : VE F n Γ te fun x Γ1 => ∃ v j e, x = .vl v ∧ n ≤ j ∧ Γ1[j]? = some e ∧ e.adr = some v ∧ ∀ σ1 H1, Rep F n (((Γ1.set j .no).set i e).take Γ.length) σ1 H1 → u D σ1 H1) : tSeq (tAsg te (gName i)) u D σ H :=
  h σ H _ R fun v x Γ1 H1 ⟨w, j, e, hx, hj, he, ha, k⟩ s1 R1 ok => by
    subst hx
    have ok : v = w := ok
    subst ok
    exact k _ _ ((R1.move hi hj he ha).take R.len)
theorem vs_expr (R : Rep F n Γ σ H) (h : VE F n Γ te fun x Γ1 => ∀ H1, Rep F n (Γ1.take Γ.length) σ H1 → u D σ H1) : tSeq (tDrop te) u D σ H :=
  h σ H _ R fun v x Γ1 H1 k s1 R1 ok => k H1 (R1.take R.len)
theorem vs_ret (R : Rep F n Γ σ H) (h : VE F n Γ te fun x Γ1 => ∀ v H1, Rep F n Γ1 σ H1 → x.ok (Ex F Γ1) H1 v → D.rt v H1) : tRet te D σ H :=
  h σ H _ R fun v x Γ1 H1 k s1 R1 ok => k v H1 R1 ok
theorem vs_if {c : TT} {t1 t2 : TS} (R : Rep F n Γ σ H) (h : VT F n Γ c fun b Γ1 => ∀ H1, Rep F n (Γ1.take Γ.length) σ H1 → if b = true then t1 { D with nx := u D } σ H1 else t2 { D with nx := u D } σ H1) : tSeq (tIfS c t1 t2) u D σ H :=
  h σ H _ R fun b Γ1 H1 k s1 R1 => k H1 (R1.take R.len)
theorem vs_ifE {c : TT} {t1 t2 : TS} (R : Rep F n Γ σ H) (h : VT F n Γ c fun b Γ1 => ∀ H1, Rep F n (Γ1.take Γ.length) σ H1 → if b = true then t1 D σ H1 else t2 D σ H1) : tIfS c t1 t2 D σ H :=
  h σ H _ R fun b Γ1 H1 k s1 R1 => k H1 (R1.take R.len)
theorem vs_last (h : tSeq t tNext D σ H) : t D σ H := h
theorem vs_par {ta : TA} (R : Rep F n Γ σ H) (hi : i < n) (hj : j < n) (h : VAi F n Γ ta fun ds Γ1 => ∃ d e, ds = [d, e] ∧ ∀ σ1 H1, Rep F n (((Γ1.set i (.im d)).set j (.im e)).take Γ.length) σ1 H1 → u D σ1 H1) : tSeq (tPar i j ta) u D σ H :=
  h σ H _ R fun vs ds Γ1 H1 ⟨d, e, hd, k⟩ s1 R1 ok => by
    subst hd
    cases ok with
    | cons o1 o2 =>
      cases o2 with
      | cons o2 o3 =>
        cases o3
        have R2 := R1.put (e' := .im d) hi rfl ⟨_, rfl, o1⟩
        have nx : Nxt (Ex F Γ1) H1 (Ex F (Γ1.set i (.im d))) H1 := .less fun a ha => ha.elim .inl fun ⟨u, hu, hau⟩ => by
          rcases List.mem_or_eq_of_mem_set hu with z | z
          · exact .inr ⟨u, z, hau⟩
          · subst z; cases hau
        exact ⟨_, _, rfl, k _ _ ((R2.put (e' := .im e) hj rfl ⟨_, rfl, Dz.nxt nx _ _ o2⟩).take R.len)⟩
/-- own lists by their methods -/
theorem Rep.wrL (R : Rep F n Γ σ H) {r : Addr} {ds es : List PyData} {xs : List V} (he : Γ[i]? = some (.ls r ds)) (x : DzAll (Ex F Γ) H xs es) : Rep F n (Γ.set i (.ls r es)) σ (upd H r (.lst xs)) ∧ Nxt (Ex F Γ) H (Ex F (Γ.set i (.ls r es))) (upd H r (.lst xs)) := by
  obtain ⟨o, h1, rfl, ys, h2, h3⟩ := R.ok i _ he
  refine R.write he (o' := some (.ref r)) h1 (fun a ha => .inl ha) (fun b u hb eq => by rw [upd_ne (fun z => hb (by rw [z]; exact List.mem_cons_self))]; exact eq) ⟨rfl, xs, upd_same, ?_⟩
  refine DzAll.nxt (fun b u nb _ eq => ⟨?_, fun z => ?_⟩) _ _ x
  · rw [upd_ne (fun z => nb (.inr ⟨_, List.mem_of_getElem? he, by rw [z]; exact List.mem_cons_self⟩))]; exact eq
  · rcases z with z | ⟨w, hw, haw⟩
    · exact nb (.inl z)
    · rcases List.mem_or_eq_of_mem_set hw with z | z
      · exact nb (.inr ⟨w, z, haw⟩)
      · subst z
        exact nb (.inr ⟨_, List.mem_of_getElem? he, haw⟩)
theorem vs_append {K : PySem.W.Frag} {r : Addr} {e0 : Ent} (R : Rep F n Γ σ H) (hi : i < n) (h0 : Γ[i]? = some e0) (ha : e0.adr = some (.ref r))
    (h : VE F n Γ te fun x Γ1 => ∃ d ds, x = .im d ∧ Γ1[i]? = some (.ls r ds) ∧ ds.length < 100000 ∧ ∀ σ1 H1, Rep F n ((Γ1.set i (.ls r (ds ++ [d]))).take Γ.length) σ1 H1 → u D σ1 H1) (hl : ∃ ds, e0 = .ls r ds) : tSeq (tDrop (tBM K "list" rAppend (tVar i) (tCons te tNil))) u D σ H := by
  obtain ⟨ds0, rfl⟩ := hl
  obtain ⟨o, g1, rfl, xs0, g2, _⟩ := R.slot hi h0
  refine ⟨.ref r, g1, .inl ⟨rfl, _, sql_of g2⟩, ?_⟩
  refine h σ H _ R fun v x Γ1 H1 ⟨d, ds, hx, he, hl, k⟩ s1 R1 ok => ?_
  subst hx
  obtain ⟨_, _, _, xs, g3, g4⟩ := R1.ok i _ he
  refine ⟨r, xs, v, rfl, rfl, g3, by rw [g4.length, sizeLine_eq]; omega, ?_⟩
  exact k _ _ ((R1.wrL he (g4.append (.cons ok .nil))).1.take R.len)
theorem vs_extend {K : PySem.W.Frag} {r : Addr} {ds0 : List PyData} (R : Rep F n Γ σ H) (hi : i < n) (h0 : Γ[i]? = some (.ls r ds0))
    (h : VE F n Γ te fun x Γ1 => ∃ ds es, Sq Γ1 true x es ∧ Γ1[i]? = some (.ls r ds) ∧ ds.length + es.length < 100000 ∧ ∀ σ1 H1, Rep F n ((Γ1.set i (.ls r (ds ++ es))).take Γ.length) σ1 H1 → u D σ1 H1) : tSeq (tDrop (tBM K "list" rExtend (tVar i) (tCons te tNil))) u D σ H := by
  obtain ⟨o, g1, rfl, xs0, g2, _⟩ := R.slot hi h0
  refine ⟨.ref r, g1, .inl ⟨rfl, _, sql_of g2⟩, ?_⟩
  refine h σ H _ R fun v x Γ1 H1 ⟨ds, es, sq, he, hl, k⟩ s1 R1 ok => ?_
  obtain ⟨_, _, _, xs, g3, g4⟩ := R1.ok i _ he
  obtain ⟨p, ys, rfl, g5, g6⟩ := sq.get R1 ok
  refine ⟨r, p, xs, ys, rfl, rfl, g3, g6, by rw [g4.length, g5.length, sizeLine_eq]; omega, ?_⟩
  exact k _ _ ((R1.wrL he (g4.append g5)).1.take R.len)
/-! what a for walks -/
structure Wd (F : Frm) (n : Nat) (J : It) (ds : List PyData) (Good : List Ent → Prop) : Prop where
  go : ∀ (Γ : List Ent) (σ : L2.St) (H : Hp) (i : Nat), Good Γ → Rep F n Γ σ H → i < ds.length → J.go i H
  stop : ∀ (Γ : List Ent) (σ : L2.St) (H : Hp), Good Γ → Rep F n Γ σ H → J.stop ds.length H
  yld : ∀ (Γ : List Ent) (σ : L2.St) (H : Hp) (i : Nat) (x : V) (H' : Hp) (d : PyData), Good Γ → Rep F n Γ σ H → ds[i]? = some d → J.yld i H x H' → Same H H' ∧ Dz (Ex F Γ) H' x d
def VI (F : Frm) (n : Nat) (Γ : List Ent) (wi : TI) (P : List PyData → (List Ent → Prop) → List Ent → Prop) : Prop := ∀ (σ : L2.St) (H : Hp) (R : It → Hp → Prop), Rep F n Γ σ H →
  (∀ J ds Good Γ' H', P ds Good Γ' → Wd F n J ds Good → Nxt (Ex F Γ) H (Ex F Γ') H' → Rep F n Γ' σ H' → R J H') → wi σ H R
theorem vi_tup {K : PySem.W.Frag} {P : List PyData → (List Ent → Prop) → List Ent → Prop} (h : VE F n Γ te fun x Γ1 => ∃ ds, x = .im (.tuple ds) ∧ ∀ v, P ds (fun Γ2 => .iv v (.tuple ds) ∈ Γ2) (Γ1 ++ [.iv v (.tuple ds)])) : VI F n Γ (iTup K te) P := fun σ H R0 R q =>
  h σ H _ R fun v x Γ1 H1 ⟨ds, hx, p⟩ s1 R1 ok => by
    subst hx
    obtain ⟨a, xs, rfl, e, na, al⟩ := Dz.tuple ok
    have pu := R1.push (e := .iv (.ref a) (.tuple ds)) (o := some (.ref a)) (Same.refl H1) (fun _ z => by cases z) ⟨rfl, Dz.nxt (.add (Same.refl H1) fun b hb => by
      rcases hb with z | z
      · exact .inl (.inl z)
      · rcases In.app.mp z with z | z
        · exact .inl (.inr z)
        · exact absurd (In.one.mp z) (by simp [Ent.own])) _ _ ok⟩
    have rd : ∀ (Γ2 : List Ent) (σ2 : L2.St) (H2 : Hp), Ent.iv (.ref a) (.tuple ds) ∈ Γ2 → Rep F n Γ2 σ2 H2 → ∃ xs, H2 a = some (.tup xs) ∧ DzAll (Ex F Γ2) H2 xs ds := fun Γ2 σ2 H2 g R2 => by
      obtain ⟨k, hk⟩ := List.mem_iff_getElem?.mp g
      obtain ⟨o, _, _, x⟩ := R2.ok k _ hk
      obtain ⟨p', xs, e1, e2, _, e3⟩ := Dz.tuple x
      cases e1
      exact ⟨xs, e2, e3⟩
    refine ⟨a, rfl, ⟨xs, sqt_of e⟩, q _ ds _ _ _ (p (.ref a)) ⟨fun Γ2 σ2 H2 i g R2 hi => ?_, fun Γ2 σ2 H2 g R2 => ?_, fun Γ2 σ2 H2 i x H3 d g R2 hd y => ?_⟩ (s1.trans pu.2) pu.1⟩
    · obtain ⟨ys, e2, e3⟩ := rd Γ2 σ2 H2 g R2
      have : i < ys.length := by rw [e3.length]; exact hi
      exact ⟨ys, ys[i], sqt_of e2, List.getElem?_eq_getElem this⟩
    · obtain ⟨ys, e2, e3⟩ := rd Γ2 σ2 H2 g R2
      exact ⟨ys, sqt_of e2, by rw [e3.length]; exact Nat.le_refl _⟩
    · obtain ⟨ys, e2, e3⟩ := rd Γ2 σ2 H2 g R2
      obtain ⟨rfl, hy⟩ := y
      obtain ⟨w, h1, h2⟩ := e3.getD hd
      have := hy ys (sqt_of e2)
      rw [h1] at this
      cases this
      exact ⟨Same.refl _, h2⟩
theorem vi_list {K : PySem.W.Frag} {P : List PyData → (List Ent → Prop) → List Ent → Prop} (h : VE F n Γ te fun x Γ1 => ∃ v ds, x = .vl v ∧ Sq Γ1 true x ds ∧ P ds (fun Γ2 => Sq Γ2 true (.vl v) ds) Γ1) : VI F n Γ (iList K te) P := fun σ H R0 R q =>
  h σ H _ R fun v x Γ1 H1 ⟨w, ds, hx, sq, p⟩ s1 R1 ok => by
    subst hx
    obtain ⟨a, xs, rfl, al, e⟩ := sq.get R1 ok
    have ok : V.ref a = w := ok
    subst ok
    have rd : ∀ (Γ2 : List Ent) (σ2 : L2.St) (H2 : Hp), Sq Γ2 true (.vl (.ref a)) ds → Rep F n Γ2 σ2 H2 → ∃ xs, H2 a = some (.lst xs) ∧ DzAll (Ex F Γ2) H2 xs ds := fun Γ2 σ2 H2 g R2 => by
      obtain ⟨p', xs, e1, e2, e3⟩ := g.get R2 rfl
      cases e1
      exact ⟨xs, e3, e2⟩
    refine ⟨a, rfl, ⟨xs, sql_of e⟩, q _ ds _ _ _ p ⟨fun Γ2 σ2 H2 i g R2 hi => ?_, fun Γ2 σ2 H2 g R2 => ?_, fun Γ2 σ2 H2 i x H3 d g R2 hd y => ?_⟩ s1 R1⟩
    · obtain ⟨ys, e2, e3⟩ := rd Γ2 σ2 H2 g R2
      have : i < ys.length := by rw [e3.length]; exact hi
      exact ⟨ys, ys[i], sql_of e2, List.getElem?_eq_getElem this⟩
    · obtain ⟨ys, e2, e3⟩ := rd Γ2 σ2 H2 g R2
      exact ⟨ys, sql_of e2, by rw [e3.length]; exact Nat.le_refl _⟩
    · obtain ⟨ys, e2, e3⟩ := rd Γ2 σ2 H2 g R2
      obtain ⟨rfl, hy⟩ := y
      obtain ⟨w, h1, h2⟩ := e3.getD hd
      have := hy ys (sql_of e2)
      rw [h1] at this
      cases this
      exact ⟨Same.refl _, h2⟩
theorem wd_range (lo : Int) (m : Nat) : Wd F n (Itr lo m) ((List.range m).map fun i : Nat => PyData.int (lo + (i : Nat))) fun _ => True := by
  refine ⟨fun _ _ _ i _ _ hi => ?_, fun _ _ _ _ _ => ?_, fun _ _ _ i x H' d _ _ hd y => ?_⟩
  · rw [List.length_map, List.length_range] at hi; exact hi
  · rw [List.length_map, List.length_range]; exact Nat.le_refl m
  · have hi : i < m := by
      have := (List.getElem?_eq_some_iff.mp hd).1
      rwa [List.length_map, List.length_range] at this
    obtain ⟨e1, e2⟩ := y
    rw [List.getElem?_map, List.getElem?_range hi] at hd
    cases hd
    subst e1
    subst e2
    exact ⟨Same.refl _, .flat rfl⟩
theorem vi_range1 {ta : TA} {P : List PyData → (List Ent → Prop) → List Ent → Prop} (h : VAs F n Γ ta fun xs Γ1 => ∃ j : Int, xs = [.im (.int j)] ∧ -(2 ^ 62) ≤ j ∧ j < 2 ^ 62 ∧ P ((List.range j.toNat).map fun i : Nat => PyData.int (0 + (i : Nat))) (fun _ => True) Γ1) : VI F n Γ (iRng1 ta) P := fun σ H R0 R q =>
  h σ H _ R fun vs xs Γ1 H1 ⟨j, hx, b1, b2, p⟩ s1 R1 ok => by
    subst hx
    cases ok with
    | cons o1 o2 =>
      cases o2
      have o1 : Dz _ _ _ _ := o1
      exact ⟨j, by rw [o1.int], b1, b2, q _ _ _ Γ1 H1 p (wd_range 0 j.toNat) s1 R1⟩
theorem vi_range2 {ta : TA} {P : List PyData → (List Ent → Prop) → List Ent → Prop} (h : VAs F n Γ ta fun xs Γ1 => ∃ i j : Int, xs = [.im (.int i), .im (.int j)] ∧ (-(2 ^ 62) ≤ i ∧ i < 2 ^ 62 ∧ -(2 ^ 62) ≤ j ∧ j < 2 ^ 62) ∧ P ((List.range (j - i).toNat).map fun k : Nat => PyData.int (i + (k : Nat))) (fun _ => True) Γ1) : VI F n Γ (iRng2 ta) P := fun σ H R0 R q =>
  h σ H _ R fun vs xs Γ1 H1 ⟨i, j, hx, b, p⟩ s1 R1 ok => by
    subst hx
    cases ok with
    | cons o1 o2 =>
      cases o2 with
      | cons o2 o3 =>
        cases o3
        have o1 : Dz _ _ _ _ := o1
        have o2 : Dz _ _ _ _ := o2
        exact ⟨i, j, by rw [o1.int, o2.int], b, q _ _ _ Γ1 H1 p (wd_range i (j - i).toNat) s1 R1⟩
/-- a target takes an item -/
def VG (F : Frm) (n : Nat) (g : TG) (d : PyData) (tg : List Ent → List Ent) : Prop := ∀ (Γ : List Ent) (σ : L2.St) (H : Hp) (v : V) (Q : L2.St → Hp → Prop), Rep F n Γ σ H → Dz (Ex F Γ) H v d → (∀ σ', Rep F n (tg Γ) σ' H → Q σ' H) → g v σ H Q
theorem put_nx {H : Hp} {d : PyData} : Nxt (Ex F Γ) H (Ex F (Γ.set i (.im d))) H := .less fun a ha => ha.elim .inl fun ⟨u, hu, hau⟩ => by
  rcases List.mem_or_eq_of_mem_set hu with z | z
  · exact .inr ⟨u, z, hau⟩
  · subst z; cases hau
theorem vg_name {d : PyData} (hi : i < n) : VG F n (gName i) d (fun Γ => Γ.set i (.im d)) := fun Γ σ H v Q R x q => q _ (R.put (e' := .im d) hi rfl ⟨v, rfl, x⟩)
theorem vg_two {K : PySem.W.Frag} {d e : PyData} (hi : i < n) (hj : j < n) : VG F n (gTup K 2 (gCons (gName i) (gCons (gName j) gNil))) (.tuple [d, e]) (fun Γ => (Γ.set i (.im d)).set j (.im e)) := fun Γ σ H v Q R x q => by
  obtain ⟨p, xs, rfl, e1, _, al⟩ := Dz.tuple x
  cases al with
  | cons a1 a2 =>
    cases a2 with
    | cons a2 a3 =>
      cases a3
      refine ⟨p, _, rfl, sqt_of e1, rfl, _, _, rfl, _, _, rfl, rfl, ?_⟩
      have R2 := R.put (e' := .im d) hi rfl ⟨_, rfl, a1⟩
      exact q _ (R2.put (e' := .im e) hj rfl ⟨_, rfl, Dz.nxt put_nx _ _ a2⟩)
theorem vs_for {wi : TI} {g : TG} {tg : PyData → List Ent → List Ent} (R : Rep F n Γ σ H) (h : VI F n Γ wi fun ds Good Γ1 => (∀ d ∈ ds, VG F n g d (tg d)) ∧ ∃ I : Nat → List Ent → Prop, I 0 Γ1 ∧ (∀ k Γ2, I k Γ2 → Good Γ2) ∧
      (∀ k d Γ2 σ2 H2, ds[k]? = some d → I k Γ2 → Rep F n (tg d Γ2) σ2 H2 → tb { D with nx := fun σ3 H3 => ∃ Γ3, I (k + 1) Γ3 ∧ Rep F n Γ3 σ3 H3, ct := fun σ3 H3 => ∃ Γ3, I (k + 1) Γ3 ∧ Rep F n Γ3 σ3 H3, bk := u D } σ2 H2) ∧
      ∀ Γ2 σ2 H2, I ds.length Γ2 → Rep F n Γ2 σ2 H2 → u D σ2 H2) : tSeq (tFor wi g tb) u D σ H :=
  h σ H _ R fun J ds Good Γ1 H1 ⟨hg, I, i0, good, step, done⟩ w s1 R1 => by
    refine ⟨fun k m σ H => m = ds.length - k ∧ k ≤ ds.length ∧ ∃ Γ2, I k Γ2 ∧ Rep F n Γ2 σ H, ⟨_, rfl, Nat.zero_le _, Γ1, i0, R1⟩, ?_⟩
    rintro k m σ2 H2 ⟨rfl, hk, Γ2, ik, R2⟩
    by_cases hlt : k < ds.length
    · refine .inr ⟨w.go Γ2 σ2 H2 k (good k Γ2 ik) R2 hlt, fun σ3 H3 => ∃ Γ3, I (k + 1) Γ3 ∧ Rep F n Γ3 σ3 H3, fun σ3 H3 ⟨Γ3, i3, R3⟩ => ⟨ds.length - (k + 1), by omega, rfl, hlt, Γ3, i3, R3⟩, fun x H3 y => ?_⟩
      have hd : ds[k]? = some ds[k] := List.getElem?_eq_getElem hlt
      obtain ⟨sm, dz⟩ := w.yld Γ2 σ2 H2 k x H3 _ (good k Γ2 ik) R2 hd y
      exact hg _ (List.mem_of_getElem? hd) Γ2 σ2 H3 x _ (R2.same sm) dz fun σ4 R4 => step k _ Γ2 σ4 H3 hd ik R4
    · have : k = ds.length := by omega
      subst this
      exact .inl ⟨w.stop Γ2 σ2 H2 (good _ Γ2 ik) R2, done Γ2 σ2 H2 ik R2⟩
/-! comprehensions -/
def wp (Γ : List Ent) : List Nat → List Ent
  | [] => Γ
  | v :: vs => (wp Γ vs).set v .no
theorem wp_length (Γ : List Ent) : ∀ vs, (wp Γ vs).length = Γ.length
  | [] => rfl
  | v :: vs => by unfold wp; rw [List.length_set, wp_length Γ vs]
theorem wipe1 {H : Hp} (R : Rep F n Γ σ H) {v : Nat} (hv : v < n) {o : Option V} : Rep F n (Γ.set v .no) (σ.set v o) H := by
  have inS : ∀ {a : Addr}, In (Γ.set v .no) a → In Γ a := fun {a} ⟨u, hu, ha⟩ => by
    rcases List.mem_or_eq_of_mem_set hu with h | h
    · exact ⟨u, h, ha⟩
    · subst h; cases ha
  have hin : v < Γ.length := Nat.lt_of_lt_of_le hv R.len
  have nx : Nxt (Ex F Γ) H (Ex F (Γ.set v .no)) H := .less fun a ha => ha.elim .inl fun z => .inr (inS z)
  have key : ∀ {j : Nat} {u : Ent}, (Γ.set v .no)[j]? = some u → (j = v ∧ u = .no) ∨ (j ≠ v ∧ Γ[j]? = some u) := fun {j u} hu => by
    by_cases hj : j = v
    · subst hj
      rw [List.getElem?_set_self hin] at hu
      cases hu
      exact .inl ⟨rfl, rfl⟩
    · rw [List.getElem?_set_ne (fun z => hj z.symm)] at hu
      exact .inr ⟨hj, hu⟩
  refine ⟨by rw [List.length_set]; exact R.sl, by rw [List.length_set]; exact R.len, fun j u hu => ?_, fun j k u u' a h1 h2 m1 m2 => ?_, fun a ha => ?_, R.fr, R.tb, fun a ha => R.nw a (inS ha)⟩
  · rcases key hu with ⟨rfl, rfl⟩ | ⟨hj, hu⟩
    · exact ⟨o, fun _ => List.getElem?_set_self (by rw [R.sl]; exact hv), trivial⟩
    · obtain ⟨w, h1, h2⟩ := R.ok j u hu
      exact ⟨w, fun z => by rw [List.getElem?_set_ne (fun z => hj z.symm)]; exact h1 z, Ent.nxt h2 nx fun _ _ => rfl⟩
  · rcases key h1 with ⟨rfl, rfl⟩ | ⟨hj, k1⟩
    · cases m1
    · rcases key h2 with ⟨rfl, rfl⟩ | ⟨hk, k2⟩
      · cases m2
      · exact R.nd j k u u' a k1 k2 m1 m2
  · obtain ⟨h1, h2, h3⟩ := R.s0 a ha
    exact ⟨h1, h2, fun z => h3 (inS z)⟩
theorem Rep.wipe (R : Rep F n Γ σ H) : ∀ vs : List Nat, (∀ v ∈ vs, v < n) → Rep F n (wp Γ vs) (L2.wipe σ vs) H
  | [], _ => R
  | v :: vs, h => wipe1 (R.wipe vs fun w hw => h w (List.mem_cons_of_mem _ hw)) (h v List.mem_cons_self)
theorem set_get_self {α : Type} : ∀ {l : List α} {i : Nat} {x : α}, l[i]? = some x → l.set i x = l := fun {l i x} h => by
  apply List.ext_getElem?
  intro k
  by_cases hk : i = k
  · subst hk
    rw [List.getElem?_set_self (List.getElem?_eq_some_iff.mp h).1, h]
  · rw [List.getElem?_set_ne hk]
/-- slots of which nothing is told hold anything -/
theorem Rep.unwipe : ∀ {vs : List Nat} {σ : L2.St}, (∀ v ∈ vs, v < n ∧ Γ[v]? = some .no) → Rep F n Γ (L2.wipe σ vs) H → Rep F n Γ σ H
  | [], σ, _, R => R
  | v :: vs, σ, h, R => by
    obtain ⟨h1, h2⟩ := h v List.mem_cons_self
    refine Rep.unwipe (vs := vs) (fun w hw => h w (List.mem_cons_of_mem _ hw)) ?_
    have l : (L2.wipe σ vs).length = n := by
      have := R.sl
      rw [wipe_length] at this
      rw [wipe_length]; exact this
    have R : Rep F n Γ ((L2.wipe σ vs).set v none) H := R
    have R2 := wipe1 (o := (L2.wipe σ vs)[v]'(by rw [l]; exact h1)) R h1
    rw [set_get_self h2, List.set_set, List.set_getElem_self] at R2
    exact R2
theorem wipe_idem {σ σ2 : L2.St} : ∀ {vs : List Nat}, (∀ k, k ∉ vs → σ2[k]? = σ[k]?) → σ2.length = σ.length → L2.wipe σ2 vs = L2.wipe σ vs := fun {vs} h hl => by
  have get : ∀ (τ : L2.St) (vs : List Nat) (k : Nat), (L2.wipe τ vs)[k]? = if k ∈ vs ∧ k < τ.length then some none else τ[k]? := by
    intro τ vs k
    induction vs with
    | nil => simp [L2.wipe]
    | cons v vs ih =>
      unfold L2.wipe
      by_cases hk : v = k
      · subst hk
        by_cases hv : v < τ.length
        · rw [List.getElem?_set_self (by rw [wipe_length]; exact hv), if_pos ⟨List.mem_cons_self, hv⟩]
        · rw [if_neg (fun z => hv z.2), List.getElem?_eq_none (by rw [List.length_set, wipe_length]; omega), List.getElem?_eq_none (by omega)]
      · rw [List.getElem?_set_ne hk, ih]
        by_cases hm : k ∈ vs ∧ k < τ.length
        · rw [if_pos hm, if_pos ⟨List.mem_cons_of_mem _ hm.1, hm.2⟩]
        · rw [if_neg hm, if_neg (fun z => hm ⟨(List.mem_cons.mp z.1).resolve_left (fun q => hk q.symm), z.2⟩)]
  apply List.ext_getElem?
  intro k
  rw [get, get, hl]
  by_cases hm : k ∈ vs
  · by_cases hk : k < σ.length
    · rw [if_pos ⟨hm, hk⟩, if_pos ⟨hm, hk⟩]
    · rw [if_neg (fun z => hk z.2), if_neg (fun z => hk z.2), List.getElem?_eq_none (by omega), List.getElem?_eq_none (by omega)]
  · rw [if_neg (fun z => hm z.1), if_neg (fun z => hm z.1), h k hm]
/-- a target within a comprehension: only its own slots change -/
def VGc (F : Frm) (n : Nat) (g : TG) (vs : List Nat) (d : PyData) (tg : List Ent → List Ent) : Prop := (∀ Γ a, In (tg Γ) a → In Γ a) ∧ ∀ (Γ : List Ent) (σ : L2.St) (H : Hp) (v : V) (Q : L2.St → Hp → Prop), Rep F n Γ σ H → Dz (Ex F Γ) H v d → (∀ σ', Rep F n (tg Γ) σ' H → (∀ k, k ∉ vs → σ'[k]? = σ[k]?) → σ'.length = σ.length → Q σ' H) → g v σ H Q
theorem In.setIm {d : PyData} {a : Addr} (h : In (Γ.set i (.im d)) a) : In Γ a := by
  obtain ⟨u, hu, hau⟩ := h
  rcases List.mem_or_eq_of_mem_set hu with z | z
  · exact ⟨u, z, hau⟩
  · subst z; cases hau
theorem vgc_name {d : PyData} (hi : i < n) : VGc F n (gName i) [i] d (fun Γ => Γ.set i (.im d)) := ⟨fun _ a => In.setIm, fun Γ σ H v Q R x q => q _ (R.put (e' := .im d) hi rfl ⟨v, rfl, x⟩) (fun k hk => List.getElem?_set_ne (fun z => hk (by rw [z]; exact List.mem_cons_self))) (List.length_set ..)⟩
theorem vgc_two {K : PySem.W.Frag} {d e : PyData} (hi : i < n) (hj : j < n) : VGc F n (gTup K 2 (gCons (gName i) (gCons (gName j) gNil))) [i, j] (.tuple [d, e]) (fun Γ => (Γ.set i (.im d)).set j (.im e)) := ⟨fun _ a z => In.setIm (In.setIm z), fun Γ σ H v Q R x q => by
  obtain ⟨p, xs, rfl, e1, _, al⟩ := Dz.tuple x
  cases al with
  | cons a1 a2 =>
    cases a2 with
    | cons a2 a3 =>
      cases a3
      refine ⟨p, _, rfl, sqt_of e1, rfl, _, _, rfl, _, _, rfl, rfl, ?_⟩
      have R2 := R.put (e' := .im d) hi rfl ⟨_, rfl, a1⟩
      refine q _ (R2.put (e' := .im e) hj rfl ⟨_, rfl, Dz.nxt put_nx _ _ a2⟩) (fun k hk => ?_) (by rw [List.length_set, List.length_set])
      rw [List.getElem?_set_ne (fun z => hk (by rw [z]; exact List.mem_cons_of_mem _ List.mem_cons_self)), List.getElem?_set_ne (fun z => hk (by rw [z]; exact List.mem_cons_self))]⟩
theorem wp_get {Γ : List Ent} {k : Nat} : ∀ {vs : List Nat}, k ∉ vs → (wp Γ vs)[k]? = Γ[k]?
  | [], _ => rfl
  | v :: vs, h => by
    unfold wp
    rw [List.getElem?_set_ne (fun z => h (by rw [z]; exact List.mem_cons_self)), wp_get fun z => h (List.mem_cons_of_mem _ z)]
theorem wipe_get {σ : L2.St} {j : Nat} : ∀ {vs : List Nat}, j ∉ vs → (L2.wipe σ vs)[j]? = σ[j]?
  | [], _ => rfl
  | v :: vs, h => by
    unfold L2.wipe
    rw [List.getElem?_set_ne (fun z => h (by rw [z]; exact List.mem_cons_self)), wipe_get fun z => h (List.mem_cons_of_mem _ z)]
theorem In.wp {a : Addr} : ∀ {vs : List Nat}, In (wp Γ vs) a → In Γ a
  | [], h => h
  | v :: vs, ⟨e, he, ha⟩ => by
    rcases List.mem_or_eq_of_mem_set he with z | z
    · exact In.wp (vs := vs) ⟨e, z, ha⟩
    · subst z; cases ha
theorem wp_take {x : Ent} {m : Nat} (hm : m < Γ.length) : ∀ {vs : List Nat}, (∀ v ∈ vs, v < m) → (wp (Γ.set m x) vs).take (m + 1) = (wp Γ vs).take m ++ [x] := fun {vs} h => by
  have h1 : (wp (Γ.set m x) vs)[m]? = some x := by
    rw [wp_get (fun z => absurd (h m z) (Nat.lt_irrefl m)), List.getElem?_set_self hm]
  rw [List.take_succ, h1]
  have h2 : (wp (Γ.set m x) vs).take m = (wp Γ vs).take m := by
    apply List.ext_getElem?
    intro k
    rw [List.getElem?_take, List.getElem?_take]
    split
    · rename_i hk
      clear h1
      induction vs with
      | nil => exact List.getElem?_set_ne (by omega)
      | cons v vs ih =>
        unfold wp
        by_cases hv : v = k
        · subst hv
          rw [List.getElem?_set_self (by rw [wp_length, List.length_set]; omega), List.getElem?_set_self (by rw [wp_length]; omega)]
        · rw [List.getElem?_set_ne hv, List.getElem?_set_ne hv]
          exact ih fun w hw => h w (List.mem_cons_of_mem _ hw)
    · rfl
  rw [h2]; rfl
theorem ve_lc {wi : TI} {g : TG} {tt : TT} {vs : List Nat} {tg : PyData → List Ent → List Ent} {P : Val → List Ent → Prop} (hvs : ∀ v ∈ vs, v < n)
    (h : VI F n Γ wi fun ds Good Γ1 => (∀ d ∈ ds, VGc F n g vs d (tg d)) ∧ ∃ I : Nat → List PyData → List Ent → Prop, I 0 [] (wp Γ1 vs) ∧ (∀ k acc Γ2, I k acc Γ2 → (∀ e, Good (Γ2 ++ [e])) ∧ n ≤ Γ2.length ∧ ∀ v ∈ vs, Γ2[v]? = some .no) ∧
      (∀ k d acc Γ2 D, ds[k]? = some d → I k acc Γ2 → VT F n (tg d (Γ2 ++ [.ls D acc])) tt fun b Γ3 => if b = true then VE F n Γ3 te fun y Γ4 => ∃ e, y = .im e ∧ Γ4[Γ2.length]? = some (.ls D acc) ∧ acc.length < 100000 ∧ I (k + 1) (acc ++ [e]) ((wp Γ4 vs).take Γ2.length)
        else Γ3[Γ2.length]? = some (.ls D acc) ∧ I (k + 1) acc ((wp Γ3 vs).take Γ2.length)) ∧
      ∀ acc Γ2 D, I ds.length acc Γ2 → P (.vl (.ref D)) (Γ2 ++ [.ls D acc])) : VE F n Γ (tLc wi g tt te vs) P := fun σ H Q R q =>
  h σ H _ R fun J ds Good Γ1 H1 ⟨hg, I, i0, good, step, done⟩ w s1 R1 D nD => by
    obtain ⟨R2, n2⟩ := (R1.wipe vs hvs).newL (ds := []) (xs := []) .nil nD
    have nw : Nxt (Ex F Γ1) H1 (Ex F (wp Γ1 vs)) H1 := .less fun a ha => ha.elim .inl fun z => .inr z.wp
    -- what every later state keeps of what stood at the start
    refine ⟨fun k m H' => m = ds.length - k ∧ k ≤ ds.length ∧ ∃ acc Γ2, I k acc Γ2 ∧ Rep F n (Γ2 ++ [.ls D acc]) (L2.wipe σ vs) H' ∧ Nxt (Ex F Γ1) H1 (Ex F (Γ2 ++ [.ls D acc])) H', ⟨_, rfl, Nat.zero_le _, [], _, i0, R2, nw.trans n2⟩, ?_⟩
    rintro k m H2 ⟨rfl, hk, acc, Γ2, ik, R2, n2⟩
    obtain ⟨gk, nk, zk⟩ := good k acc Γ2 ik
    by_cases hlt : k < ds.length
    · refine .inr ⟨w.go _ _ H2 k (gk _) R2 hlt, fun H3 => ∃ acc Γ3, I (k + 1) acc Γ3 ∧ Rep F n (Γ3 ++ [.ls D acc]) (L2.wipe σ vs) H3 ∧ Nxt (Ex F Γ1) H1 (Ex F (Γ3 ++ [.ls D acc])) H3, fun H3 ⟨acc', Γ3, i3, R3, n3⟩ => ⟨ds.length - (k + 1), by omega, rfl, hlt, acc', Γ3, i3, R3, n3⟩, fun x H3 y => ?_⟩
      have hd : ds[k]? = some ds[k] := List.getElem?_eq_getElem hlt
      obtain ⟨sm, dz⟩ := w.yld _ _ H2 k x H3 _ (gk _) R2 hd y
      obtain ⟨sub, bind⟩ := hg _ (List.mem_of_getElem? hd)
      have hww : L2.wipe (L2.wipe σ vs) vs = L2.wipe σ vs := wipe_idem (fun j hj => wipe_get hj) (wipe_length _ _)
      have nl : ∀ v ∈ vs, v < Γ2.length := fun v hv => Nat.lt_of_lt_of_le (hvs v hv) nk
      refine bind _ _ H3 x _ (R2.same sm) dz fun σ3 R3 keep len => ⟨(wipe_idem keep len).trans hww, ?_⟩
      have n3 : Nxt (Ex F Γ1) H1 (Ex F (tg ds[k] (Γ2 ++ [.ls D acc]))) H3 := (n2.trans (.same sm)).trans (.less fun a ha => ha.elim .inl fun z => .inr (sub _ a z))
      refine step k _ acc Γ2 D hd ik σ3 H3 _ R3 fun b Γ3 H4 hb s3 R4 => ?_
      cases b with
      | true =>
        refine hb σ3 H4 _ R4 fun v y Γ4 H5 ⟨e, hy, hD, hlen, i1⟩ s4 R5 ok => ?_
        subst hy
        obtain ⟨_, _, _, ys, g3, g4⟩ := R5.ok _ _ hD
        obtain ⟨R6, n6⟩ := R5.wrL hD (g4.append (.cons ok .nil))
        have hm : Γ2.length < Γ4.length := (List.getElem?_eq_some_iff.mp hD).1
        have R7 := (R6.wipe vs hvs).take (m := Γ2.length + 1) (by omega)
        rw [wp_take hm nl, (wipe_idem keep len).trans hww] at R7
        refine ⟨ys, g3, by rw [g4.length, sizeLine_eq]; omega, acc ++ [e], _, i1, R7, (((n3.trans s3).trans s4).trans n6).trans (.less fun a ha => ?_)⟩
        rw [← wp_take (x := .ls D (acc ++ [e])) hm nl] at ha
        exact ha.elim .inl fun z => .inr z.take.wp
      | false =>
        obtain ⟨hD, i1⟩ := hb
        have hm : Γ2.length < Γ3.length := (List.getElem?_eq_some_iff.mp hD).1
        have R7 := (R4.wipe vs hvs).take (m := Γ2.length + 1) (by omega)
        have e3 := set_get_self hD
        have e4 := wp_take (Γ := Γ3) (x := .ls D acc) hm nl
        rw [e3] at e4
        rw [e4, (wipe_idem keep len).trans hww] at R7
        refine ⟨acc, _, i1, R7, (n3.trans s3).trans (.less fun a ha => ?_)⟩
        rw [← e4] at ha
        exact ha.elim .inl fun z => .inr z.take.wp
    · have : k = ds.length := by omega
      subst this
      refine .inl ⟨w.stop _ _ H2 (gk _) R2, ?_⟩
      have R3 := Rep.unwipe (fun v hv => ⟨hvs v hv, by rw [List.getElem?_append_left (by have := hvs v hv; omega)]; exact zk v hv⟩) R2
      exact q _ _ _ _ (done acc Γ2 D ik) (s1.trans n2) R3 rfl
end
end Vl

set_option Elab.async false
set_option linter.all false
set_option maxRecDepth 100000
set_option maxHeartbeats 4000000
namespace Vl
open PySem L2 PyProof.Rows Hw
/-- what was there and may not be changed is as it was, but for tables -/
def Kp (F : Frm) (H' : Hp) : Prop := (∀ b o, ¬ F.io b → NT o → F.H0 b = some o → H' b = some o) ∧ (LamX.Tabs F.T F.H0 → LamX.Tabs F.T H')
/-- a def's promise: of what its arguments are (A es ..), what it tells, what is behind it of what it may change; C, d: the class and the value of what it raises -/
def SpVX (A : List Ent → (Val → List Ent → Prop) → (Addr → PyData → Prop) → Prop) : Sp := fun vs H Q E => ∃ (S0 : Addr → Prop) (es : List Ent) (T : List (Addr × Str)), Rep ⟨S0, H, In es, T⟩ vs.length es (vs.map some) H ∧ es.length = vs.length ∧
  A es (fun x outs => ∀ v H', Rep ⟨S0, H, In es, T⟩ 0 outs [] H' → x.ok (Ex ⟨S0, H, In es, T⟩ outs) H' v → Q v H')
    (fun C d => ∀ v dd H', Nxt (Ex ⟨S0, H, In es, T⟩ es) H S0 H' → Kp ⟨S0, H, In es, T⟩ H' → Dz S0 H' v d → H' dd = none → E (.ref C) (some dd) (upd H' dd (.xd [("value", v)])))
/-- a def that raises nothing -/
def SpV (A : List Ent → (Val → List Ent → Prop) → Prop) : Sp := SpVX fun es P _ => A es P
section
variable {F : Frm} {n : Nat} {Γ : List Ent} {σ : L2.St} {H : Hp}
theorem nd_inj {α : Type} : ∀ {l : List α} {i j : Nat} {x : α}, l.Nodup → l[i]? = some x → l[j]? = some x → i = j
  | [], _, _, _, _, h, _ => by cases h
  | y :: l, i, j, x, nd, h1, h2 => by
    obtain ⟨n1, n2⟩ := List.nodup_cons.mp nd
    cases i with
    | zero =>
      cases h1
      cases j with
      | zero => rfl
      | succ j => exact absurd (List.mem_of_getElem? (show l[j]? = some y from h2)) n1
    | succ i =>
      cases j with
      | zero => cases h2; exact absurd (List.mem_of_getElem? (show l[i]? = some y from h1)) n1
      | succ j => rw [nd_inj (l := l) n2 h1 h2]
/-- some of the entries alone -/
theorem Rep.pick (R : Rep F n Γ σ H) {outs : List Ent} {js : List Nat} (h : Paired (fun (e : Ent) (j : Nat) => Γ[j]? = some e) outs js) (nd : js.Nodup) : Rep F 0 outs [] H ∧ ∀ a, In outs a → In Γ a := by
  have at' : ∀ {k : Nat} {e : Ent}, outs[k]? = some e → ∃ j, js[k]? = some j ∧ Γ[j]? = some e := fun {k e} hk => by
    induction h generalizing k with
    | nil => cases hk
    | cons h1 h2 ih =>
      cases k with
      | zero => cases hk; exact ⟨_, rfl, h1⟩
      | succ k => exact ih (List.nodup_cons.mp nd).2 hk
  have inS : ∀ a, In outs a → In Γ a := fun a ⟨u, hu, ha⟩ => by
    obtain ⟨k, hk⟩ := List.mem_iff_getElem?.mp hu
    obtain ⟨j, _, hj⟩ := at' hk
    exact ⟨u, List.mem_of_getElem? hj, ha⟩
  refine ⟨⟨rfl, Nat.zero_le _, fun k e hk => ?_, fun k k' e e' a h1 h2 m1 m2 => ?_, fun a ha => ?_, R.fr, R.tb, fun a ha => R.nw a (inS a ha)⟩, inS⟩
  · obtain ⟨j, _, hj⟩ := at' hk
    obtain ⟨o, _, ok⟩ := R.ok j e hj
    exact ⟨o, fun z => absurd z (Nat.not_lt_zero _), Ent.nxt ok (.less fun a ha => ha.imp id (inS a)) fun _ _ => rfl⟩
  · obtain ⟨j, g1, hj⟩ := at' h1
    obtain ⟨j', g2, hj'⟩ := at' h2
    have := R.nd j j' e e' a hj hj' m1 m2
    subst this
    by_cases hkk : k = k'
    · exact hkk
    · exact nd_inj nd g1 g2
  · obtain ⟨h1, h2, h3⟩ := R.s0 a ha
    exact ⟨h1, h2, fun z => h3 (inS a z)⟩
theorem vs_retV {D : Ends} {te : TE} {Post : Val → List Ent → Prop} (R : Rep F n Γ σ H) (q : ∀ x outs, Post x outs → ∀ v H', Rep F 0 outs [] H' → x.ok (Ex F outs) H' v → D.rt v H')
    (h : VE F n Γ te fun x Γ1 => ∃ outs js, Paired (fun (e : Ent) (j : Nat) => Γ1[j]? = some e) outs js ∧ js.Nodup ∧ Post x outs) : tRet te D σ H :=
  h σ H _ R fun v x Γ1 H1 ⟨outs, js, hp, nd, p⟩ s1 R1 ok => by
    obtain ⟨R2, sub⟩ := R1.pick hp nd
    exact q x outs p v H1 R2 (Val.nxt ok (.less fun a ha => ha.imp id (sub a)))
/-- a def that returns nothing -/
theorem vs_endV {D : Ends} {Post : Val → List Ent → Prop} {outs : List Ent} {js : List Nat} (R : Rep F n Γ σ H) (q : ∀ x outs, Post x outs → ∀ v H', Rep F 0 outs [] H' → x.ok (Ex F outs) H' v → D.rt v H')
    (hp : Paired (fun (e : Ent) (j : Nat) => Γ[j]? = some e) outs js) (nd : js.Nodup) (p : Post (.im .none) outs) : D.rt .non H := q _ _ p _ _ (R.pick hp nd).1 (.flat rfl)
/-- what an exception that leaves the def tells its caller -/
def XE (F : Frm) (es : List Ent) (E : XK) (EP : Addr → PyData → Prop) : Prop := ∀ C d, EP C d → ∀ v dd H', Nxt (Ex F es) F.H0 F.S0 H' → Kp F H' → Dz F.S0 H' v d → H' dd = none → E (.ref C) (some dd) (upd H' dd (.xd [("value", v)]))
theorem Rep.base (R : Rep F n Γ σ H) {es : List Ent} (hio : ∀ b, F.io b → In es b) : Nxt (Ex F es) F.H0 (Ex F Γ) H := fun b o nb nt eq => by
  refine ⟨R.fr b o (fun z => nb (.inr (hio b z))) nt eq, fun z => ?_⟩
  rcases z with z | z
  · exact nb (.inl z)
  · rcases R.nw b z with q | q
    · exact nb (.inr (hio b q))
    · exact q o eq nt
/-- the same, from any later state on -/
def Xok (F : Frm) (E : XK) (EP : Addr → PyData → Prop) : Prop := ∀ C d, EP C d → ∀ (n : Nat) (Γ : List Ent) (σ : L2.St) (H : Hp), Rep F n Γ σ H → ∀ v dd H', Nxt (Ex F Γ) H F.S0 H' → Kp F H' → Dz F.S0 H' v d → H' dd = none → E (.ref C) (some dd) (upd H' dd (.xd [("value", v)]))
theorem XE.ok {E : XK} {es : List Ent} {EP : Addr → PyData → Prop} (hx : XE F es E EP) (hio : ∀ b, F.io b → In es b) : Xok F E EP := fun C d p n Γ σ H R v dd H' nx kp x nd => hx C d p v dd H' ((R.base hio).trans nx) kp x nd
theorem xok_never {E : XK} : Xok F E fun _ _ => False := fun _ _ h => h.elim
theorem vs_raise {C : Addr} {E : XK} {EP : Addr → PyData → Prop} {D : Ends} (R : Rep F n Γ σ H) (hx : Xok F E EP) (h : VE F n Γ te fun x Γ1 => ∃ d, x = .im d ∧ EP C d) :
    (fun (_ : Ends) (σ : L2.St) (H1 : Hp) => te σ H1 fun v H2 => ∀ d, H2 d = none → E (.ref C) (some d) (upd H2 d (.xd [("value", v)]))) D σ H :=
  h σ H _ R fun v x Γ1 H1 ⟨d, hd, p⟩ s1 R1 ok dd nd => by
    subst hd
    exact hx C d p n Γ1 σ H1 R1 v dd H1 (.less fun a ha => .inl ha) ⟨R1.fr, R1.tb⟩ (Dz.nxt (.less fun a ha => .inl ha) _ _ (show Dz _ _ _ _ from ok)) nd
def MonoX (A : List Ent → (Val → List Ent → Prop) → (Addr → PyData → Prop) → Prop) : Prop := ∀ es P P' EP EP', (∀ x outs, P x outs → P' x outs) → (∀ C d, EP C d → EP' C d) → A es P EP → A es P' EP'
/-! calls -/
def entOf : Val → Ent
  | .im d => .im d
  | .vl v => .vl v
theorem in_ent0 {xs : List Val} {a : Addr} : ¬ In (xs.map entOf) a := fun ⟨e, he, ha⟩ => by
  obtain ⟨x, _, rfl⟩ := List.mem_map.mp he
  cases x <;> cases ha
inductive Args (Γ : List Ent) : List Val → List Ent → List Nat → Prop
  | nil : Args Γ [] [] []
  | im {d : PyData} {xs : List Val} {es : List Ent} {js : List Nat} : Args Γ xs es js → Args Γ (.im d :: xs) (.im d :: es) js
  | vl {v : V} {xs : List Val} {es : List Ent} {js : List Nat} : Args Γ xs es js → Args Γ (.vl v :: xs) (.vl v :: es) js
  | lent {j : Nat} {e : Ent} {v : V} {xs : List Val} {es : List Ent} {js : List Nat} : Γ[j]? = some e → e.adr = some v → Args Γ xs es js → Args Γ (.vl v :: xs) (e :: es) (j :: js)
def sets (Γ : List Ent) : List Nat → List Ent → List Ent
  | j :: js, u :: us => (sets Γ js us).set j u
  | _, _ => Γ
theorem sets_length (Γ : List Ent) : ∀ (js : List Nat) (us : List Ent), (sets Γ js us).length = Γ.length
  | j :: js, u :: us => by unfold sets; rw [List.length_set, sets_length Γ js us]
  | [], _ => rfl
  | _ :: _, [] => rfl
theorem sets_old {k : Nat} : ∀ {js : List Nat} {us : List Ent}, k ∉ js → (sets Γ js us)[k]? = Γ[k]?
  | j :: js, u :: us, h => by
    unfold sets
    rw [List.getElem?_set_ne (fun z => h (by rw [z]; exact List.mem_cons_self)), sets_old fun z => h (List.mem_cons_of_mem _ z)]
  | [], _, _ => rfl
  | _ :: _, [], _ => rfl
theorem sets_new {k m : Nat} : ∀ {js : List Nat} {us : List Ent}, js.Nodup → us.length = js.length → js[m]? = some k → k < Γ.length → (sets Γ js us)[k]? = us[m]?
  | j :: js, u :: us, nd, hl, hm, hk => by
    obtain ⟨n1, n2⟩ := List.nodup_cons.mp nd
    unfold sets
    cases m with
    | zero =>
      cases hm
      rw [List.getElem?_set_self (by rw [sets_length]; exact hk)]; rfl
    | succ m =>
      have hm : js[m]? = some k := hm
      rw [List.getElem?_set_ne (fun z => n1 (by rw [z]; exact List.mem_of_getElem? hm))]
      exact sets_new n2 (by simpa using hl) hm hk
  | [], us, _, _, hm, _ => by cases hm
  | _ :: _, [], _, hl, _, _ => by cases hl
theorem Args.len {xs : List Val} {es : List Ent} {js : List Nat} (h : Args Γ xs es js) : es.length = xs.length := by
  induction h with
  | nil => rfl
  | im _ ih => simp [ih]
  | vl _ ih => simp [ih]
  | lent _ _ _ ih => simp [ih]
theorem Args.own {xs : List Val} {es : List Ent} {js : List Nat} (h : Args Γ xs es js) : ∀ a, In es a ↔ ∃ j e, j ∈ js ∧ Γ[j]? = some e ∧ a ∈ e.own := by
  have nil : ∀ {e : Ent} {es : List Ent} {a : Addr}, e.own = [] → (In (e :: es) a ↔ In es a) := by
    intro e es a he
    constructor
    · rintro ⟨u, hu, ha⟩
      rcases List.mem_cons.mp hu with rfl | hu
      · rw [he] at ha; cases ha
      · exact ⟨u, hu, ha⟩
    · rintro ⟨u, hu, ha⟩
      exact ⟨u, List.mem_cons_of_mem _ hu, ha⟩
  induction h with
  | nil =>
    intro a
    constructor
    · rintro ⟨_, z, _⟩; cases z
    · rintro ⟨_, _, z, _⟩; cases z
  | im _ ih => exact fun a => (nil rfl).trans (ih a)
  | vl _ ih => exact fun a => (nil rfl).trans (ih a)
  | @lent j e v xs es js hj _ _ ih =>
    intro a
    constructor
    · rintro ⟨u, hu, ha⟩
      rcases List.mem_cons.mp hu with rfl | hu
      · exact ⟨j, u, List.mem_cons_self, hj, ha⟩
      · obtain ⟨j', e', h1, h2, h3⟩ := (ih a).mp ⟨u, hu, ha⟩
        exact ⟨j', e', List.mem_cons_of_mem _ h1, h2, h3⟩
    · rintro ⟨j', e', h1, h2, h3⟩
      rcases List.mem_cons.mp h1 with rfl | h1
      · rw [hj] at h2; cases h2
        exact ⟨e, List.mem_cons_self, h3⟩
      · obtain ⟨u, hu, ha⟩ := (ih a).mpr ⟨j', e', h1, h2, h3⟩
        exact ⟨u, List.mem_cons_of_mem _ hu, ha⟩
/-- each argument as the callee sees it -/
theorem Args.at {xs : List Val} {es : List Ent} {js : List Nat} {vs : List V} {S : Addr → Prop} (h : Args Γ xs es js) (R : Rep F n Γ σ H) (hS : ∀ a, S a → Ex F Γ a) (ok : AllV (Ex F Γ) H xs vs) : vs.length = xs.length ∧ ∀ (k : Nat) (e : Ent), es[k]? = some e → ∃ o : Option V, (vs.map some)[k]? = some o ∧ e.ok S H o := by
  induction h generalizing vs with
  | nil =>
    cases ok
    exact ⟨rfl, fun k e z => by cases z⟩
  | im _ ih =>
    cases ok with
    | cons o1 o2 =>
      obtain ⟨h1, h2⟩ := ih o2
      refine ⟨by simp [h1], fun k e hk => ?_⟩
      cases k with
      | zero => cases hk; exact ⟨_, rfl, _, rfl, Dz.nxt (.less hS) _ _ o1⟩
      | succ k => exact h2 k e hk
  | vl _ ih =>
    cases ok with
    | cons o1 o2 =>
      obtain ⟨h1, h2⟩ := ih o2
      refine ⟨by simp [h1], fun k e hk => ?_⟩
      cases k with
      | zero => cases hk; exact ⟨_, rfl, congrArg some o1⟩
      | succ k => exact h2 k e hk
  | @lent j e v xs es js hj ha _ ih =>
    cases ok with
    | cons o1 o2 =>
      obtain ⟨h1, h2⟩ := ih o2
      refine ⟨by simp [h1], fun k e hk => ?_⟩
      cases k with
      | zero =>
        cases hk
        obtain ⟨o, _, ok⟩ := R.ok j _ hj
        have o1 : _ = v := o1
        refine ⟨o, ?_, Ent.nxt ok (.less hS) fun _ _ => rfl⟩
        rw [Ent.adr_ok ok ha, ← o1]; rfl
      | succ k => exact h2 k e hk
theorem Args.nd {xs : List Val} {es : List Ent} {js : List Nat} (h : Args Γ xs es js) (R : Rep F n Γ σ H) (nd : js.Nodup) : ∀ (k k' : Nat) (e e' : Ent) (a : Addr), es[k]? = some e → es[k']? = some e' → a ∈ e.own → a ∈ e'.own → k = k' := by
  induction h with
  | nil => exact fun k k' e e' a z => by cases z
  | im _ ih =>
    intro k k' e e' a h1 h2 m1 m2
    cases k with
    | zero => cases h1; cases m1
    | succ k =>
      cases k' with
      | zero => cases h2; cases m2
      | succ k' => rw [ih nd k k' e e' a h1 h2 m1 m2]
  | vl _ ih =>
    intro k k' e e' a h1 h2 m1 m2
    cases k with
    | zero => cases h1; cases m1
    | succ k =>
      cases k' with
      | zero => cases h2; cases m2
      | succ k' => rw [ih nd k k' e e' a h1 h2 m1 m2]
  | @lent j u v xs es js hj ha hh ih =>
    obtain ⟨n1, n2⟩ := List.nodup_cons.mp nd
    intro k k' e e' a h1 h2 m1 m2
    have far : ∀ {k : Nat} {w : Ent}, es[k]? = some w → a ∈ w.own → a ∈ u.own → False := fun {k w} hk hw hu => by
      obtain ⟨j', e', h1, h2, h3⟩ := (hh.own a).mp ⟨w, List.mem_of_getElem? hk, hw⟩
      exact n1 (by rw [R.nd j j' u e' a hj h2 hu h3]; exact h1)
    cases k with
    | zero =>
      cases h1
      cases k' with
      | zero => rfl
      | succ k' => exact (far (k := k') h2 m2 m1).elim
    | succ k =>
      cases k' with
      | zero => cases h2; exact (far (k := k) h1 m1 m2).elim
      | succ k' => rw [ih n2 k k' e e' a h1 h2 m1 m2]
theorem Args.adr {xs : List Val} {es : List Ent} {js : List Nat} (h : Args Γ xs es js) : ∀ j ∈ js, ∀ e, Γ[j]? = some e → ∃ v, e.adr = some v := by
  induction h with
  | nil => exact fun j z => by cases z
  | im _ ih => exact ih
  | vl _ ih => exact ih
  | lent hj ha _ ih =>
    intro k hk e he
    rcases List.mem_cons.mp hk with rfl | hk
    · rw [hj] at he; cases he; exact ⟨_, ha⟩
    · exact ih k hk e he
theorem ve_callXG {A : List Ent → (Val → List Ent → Prop) → (Addr → PyData → Prop) → Prop} {E : XK} {ta : TA} {P : Val → List Ent → Prop} {EP : Addr → PyData → Prop} (hM : MonoX A) (hx : Xok F E EP) (h : VAs F n Γ ta fun xs Γ1 => ∃ es js, Args Γ1 xs es js ∧ js.Nodup ∧
      A es (fun x outs => ∃ us ex, outs = us ++ ex ∧ Paired (fun (u : Ent) (j : Nat) => ∃ e, Γ1[j]? = some e ∧ u.adr = e.adr) us js ∧ P x (sets Γ1 js us ++ ex)) EP) : VE F n Γ (tCall (SpVX A) [] E ta) P := fun σ H Q R q =>
  h σ H _ R fun vs xs Γ1 H1 ⟨es, js, ar, nd, hA⟩ s1 R1 ok => by
    rw [List.append_nil]
    have own := ar.own
    have q := q.pre s1
    have inE : ∀ a, In es a → In Γ1 a := fun a ha => by
      obtain ⟨j, e, _, h2, h3⟩ := (own a).mp ha
      exact ⟨e, List.mem_of_getElem? h2, h3⟩
    obtain ⟨hl, hat⟩ := ar.at (S := Ex ⟨fun a => Ex F Γ1 a ∧ ¬ In es a, H1, In es, F.T⟩ es) R1 (fun a ha => ha.elim (fun z => z.1) fun z => .inr (inE a z)) ok
    have hlen : es.length = vs.length := by rw [ar.len, hl]
    refine ⟨fun a => Ex F Γ1 a ∧ ¬ In es a, es, F.T, ⟨by rw [List.length_map], by omega, fun k e hk => ?_, fun k k' e e' a h1 h2 m1 m2 => ar.nd R1 nd k k' e e' a h1 h2 m1 m2, fun a ha => ⟨R1.exsP ha.1, ha.2, ha.2⟩, fun b o _ _ e => e, fun t => t, fun a ha => .inl ha⟩, hlen, ?_⟩
    · obtain ⟨o, g1, g2⟩ := hat k e hk
      exact ⟨o, fun _ => g1, g2⟩
    · have fin : ∀ (x : Val) (outs : List Ent), (∃ us ex, outs = us ++ ex ∧ Paired (fun (u : Ent) (j : Nat) => ∃ e, Γ1[j]? = some e ∧ u.adr = e.adr) us js ∧ P x (sets Γ1 js us ++ ex)) → ∀ v H', Rep ⟨fun a => Ex F Γ1 a ∧ ¬ In es a, H1, In es, F.T⟩ 0 outs [] H' → x.ok (Ex ⟨fun a => Ex F Γ1 a ∧ ¬ In es a, H1, In es, F.T⟩ outs) H' v → Q v H' := by
        rintro x outs ⟨us, ex, rfl, pj, px⟩ v H' Rc okx
        have hul : us.length = js.length := pj.length
        have jlt : ∀ j ∈ js, j < Γ1.length := fun j hj => by
          obtain ⟨m, hm⟩ := List.mem_iff_getElem?.mp hj
          obtain ⟨u, _, e, he, _⟩ := Hw.paired_at pj hm
          exact (List.getElem?_eq_some_iff.mp he).1
        have inj : ∀ {i : Nat} {e : Ent}, (sets Γ1 js us ++ ex)[i]? = some e → (i ∈ js ∨ Γ1.length ≤ i) → ∃ m, (us ++ ex)[m]? = some e ∧ ((m < js.length ∧ js[m]? = some i) ∨ (js.length ≤ m ∧ i = Γ1.length + (m - js.length))) := fun {i e} hi hJ => by
          by_cases hlt : i < Γ1.length
          · have hij : i ∈ js := hJ.resolve_right (by omega)
            obtain ⟨m, hm⟩ := List.mem_iff_getElem?.mp hij
            have ml := (List.getElem?_eq_some_iff.mp hm).1
            rw [List.getElem?_append_left (by rw [sets_length]; exact hlt), sets_new nd hul hm hlt] at hi
            exact ⟨m, by rw [List.getElem?_append_left (by omega)]; exact hi, .inl ⟨ml, hm⟩⟩
          · rw [List.getElem?_append_right (by rw [sets_length]; omega), sets_length] at hi
            exact ⟨js.length + (i - Γ1.length), by rw [List.getElem?_append_right (by omega)]; rw [show js.length + (i - Γ1.length) - us.length = i - Γ1.length by omega]; exact hi, .inr ⟨by omega, by omega⟩⟩
        have inS : ∀ {a : Addr}, Ex F (sets Γ1 js us ++ ex) a → Ex ⟨fun a => Ex F Γ1 a ∧ ¬ In es a, H1, In es, F.T⟩ (us ++ ex) a := fun {a} ha => by
          have notE : ∀ (i : Nat) (e : Ent), Γ1[i]? = some e → i ∉ js → a ∈ e.own → ¬ In es a := fun i e he hi hae z => by
            obtain ⟨j, e', h1, h2, h3⟩ := (own a).mp z
            exact hi (by rw [R1.nd i j e e' a he h2 hae h3]; exact h1)
          rcases ha with z | ⟨u, hu, hau⟩
          · exact .inl ⟨.inl z, fun y => (R1.s0 a z).2.2 (inE a y)⟩
          · obtain ⟨i, hi⟩ := List.mem_iff_getElem?.mp hu
            by_cases hJ : i ∈ js ∨ Γ1.length ≤ i
            · obtain ⟨m, hm, _⟩ := inj hi hJ
              exact .inr ⟨u, List.mem_of_getElem? hm, hau⟩
            · have hi2 : Γ1[i]? = some u := by
                rw [List.getElem?_append_left (by rw [sets_length]; omega), sets_old fun z => hJ (.inl z)] at hi
                exact hi
              exact .inl ⟨.inr ⟨u, List.mem_of_getElem? hi2, hau⟩, notE i u hi2 (fun z => hJ (.inl z)) hau⟩
        obtain ⟨R2, n2⟩ := R1.redo (J := fun i => i ∈ js) (Γ' := sets Γ1 js us ++ ex) (H' := H') (W := In es) (fun a ha => (own a).mp ha) (by rw [List.length_append, sets_length]; have := R1.len; omega)
          (fun i e hi hj hlt => by rw [List.getElem?_append_left (by rw [sets_length]; exact hlt), sets_old hj] at hi; exact hi)
          (fun i e a hi hJ ha => by
            obtain ⟨m, hm, _⟩ := inj hi hJ
            exact (Rc.nw a ⟨e, List.mem_of_getElem? hm, ha⟩).imp id fun z => z)
          (fun i i' e e' a k1 k2 h1 h2 m1 m2 => by
            obtain ⟨m, hm, c1⟩ := inj h1 k1
            obtain ⟨m', hm', c2⟩ := inj h2 k2
            have := Rc.nd m m' e e' a hm hm' m1 m2
            subst this
            rcases c1 with ⟨l1, c1⟩ | ⟨l1, c1⟩ <;> rcases c2 with ⟨l2, c2⟩ | ⟨l2, c2⟩
            · rw [c1] at c2; exact Option.some.inj c2
            · omega
            · omega
            · omega)
          (fun b u nb nt eq => Rc.fr b u nb nt eq) Rc.tb
          (fun i e hi hJ => by
            obtain ⟨m, hm, c⟩ := inj hi hJ
            obtain ⟨o, _, oke⟩ := Rc.ok m e hm
            refine ⟨o, fun hin => ?_, Ent.nxt oke (.less fun a => inS) fun _ _ => rfl⟩
            rcases c with ⟨l1, c1⟩ | ⟨l1, c1⟩
            · rw [List.getElem?_append_left (by omega)] at hm
              obtain ⟨j', hj', e0, he0, hadr⟩ := L2.paired_get pj hm
              rw [c1] at hj'
              cases hj'
              obtain ⟨o0, g1, g2⟩ := R1.ok i e0 he0
              have adrOf : ∃ v, e0.adr = some v := ar.adr i (List.mem_of_getElem? c1) e0 he0
              obtain ⟨v0, hv0⟩ := adrOf
              have e1 := Ent.adr_ok g2 hv0
              have e2 := Ent.adr_ok oke (hadr.trans hv0)
              rw [e2, ← e1]
              exact g1 hin
            · have := R1.len
              omega)
        exact q v x _ H' px n2 R2 (Val.nxt okx (.less fun a => inS))
      refine hM es _ _ _ _ fin (fun C d hC v dd H' nx kp x nd => ?_) hA
      have nx1 : Nxt (Ex F Γ1) H1 F.S0 H' := fun b o nb nt eq => by
        have := nx b o (fun z => z.elim (fun z => nb z.1) fun z => nb (.inr (inE b z))) nt eq
        exact ⟨this.1, fun z => nb (.inl z)⟩
      have kp1 : Kp F H' := ⟨fun b o nb nt eq => by
        refine kp.1 b o (fun z => ?_) nt (R1.fr b o nb nt eq)
        rcases R1.nw b (inE b z) with q | q
        · exact nb q
        · exact q o eq nt, fun t => kp.2 (R1.tb t)⟩
      exact hx C d hC n Γ1 σ H1 R1 v dd H' nx1 kp1 (Dz.nxt (.less fun a ha => ⟨.inl ha, fun z => (R1.s0 a ha).2.2 (inE a z)⟩) _ _ x) nd
def Mono (A : List Ent → (Val → List Ent → Prop) → Prop) : Prop := ∀ es (P P' : Val → List Ent → Prop), (∀ x outs, P x outs → P' x outs) → A es P → A es P'
theorem ve_call {A : List Ent → (Val → List Ent → Prop) → Prop} {E : XK} {ta : TA} {P : Val → List Ent → Prop} (hM : Mono A) (h : VAs F n Γ ta fun xs Γ1 => ∃ es js, Args Γ1 xs es js ∧ js.Nodup ∧
      A es (fun x outs => ∃ us ex, outs = us ++ ex ∧ Paired (fun (u : Ent) (j : Nat) => ∃ e, Γ1[j]? = some e ∧ u.adr = e.adr) us js ∧ P x (sets Γ1 js us ++ ex))) : VE F n Γ (tCall (SpV A) [] E ta) P :=
  ve_callXG (A := fun es P _ => A es P) (EP := fun _ _ => False) (fun es P P' _ _ m _ p => hM es P P' m p) xok_never h
theorem Mono.x {A : List Ent → (Val → List Ent → Prop) → Prop} (h : Mono A) : MonoX fun es P _ => A es P := fun es P P' _ _ m _ p => h es P P' m p
end
end Vl

set_option Elab.async false
set_option linter.all false
set_option maxRecDepth 100000
set_option maxHeartbeats 4000000
namespace Vl
open PySem L2 PyProof.Rows Hw
section
variable {F : Frm} {n : Nat} {Γ : List Ent} {σ : L2.St} {H : Hp}
theorem le_k {a b : Nat} (h : Nat.ble a b = true) : a ≤ b := Nat.le_of_ble_eq_true h
theorem lenV {A : List Ent → (Val → List Ent → Prop) → Prop} {m : Nat} (hA : ∀ es P, A es P → es.length = m) {vs : List V} {Q : VK} {E : XK} (h : SpV A vs H Q E) : vs.length = m := by
  obtain ⟨S0, es, _, _, hl, ha⟩ := h
  rw [← hl, hA _ _ ha]
/-- the frame at a def's entry -/
theorem rep_start {S0 io : Addr → Prop} {T : List (Addr × Str)} {H0 : Hp} {vs : List V} {es : List Ent} {N : List Str} (R : Rep ⟨S0, H0, io, T⟩ vs.length es (vs.map some) H) (hl : es.length = vs.length) (hN : es.length ≤ N.length) :
    Rep ⟨S0, H0, io, T⟩ N.length (es ++ List.replicate (N.length - es.length) .no) (L2.start N vs) H := by
  have inS : ∀ {a : Addr}, In (es ++ List.replicate (N.length - es.length) .no) a → In es a := fun {a} h => by
    rcases In.app.mp h with h | ⟨e, he, ha⟩
    · exact h
    · rw [(List.mem_replicate.mp he).2] at ha; cases ha
  have key : ∀ {i : Nat} {e : Ent}, (es ++ List.replicate (N.length - es.length) Ent.no)[i]? = some e → (i < es.length ∧ es[i]? = some e) ∨ (es.length ≤ i ∧ e = .no) := fun {i e} h => by
    by_cases hi : i < es.length
    · rw [List.getElem?_append_left hi] at h; exact .inl ⟨hi, h⟩
    · rw [List.getElem?_append_right (by omega)] at h
      exact .inr ⟨by omega, (List.mem_replicate.mp (List.mem_of_getElem? h)).2⟩
  refine ⟨by unfold L2.start; rw [List.length_append, List.length_map, List.length_replicate]; omega, by rw [List.length_append, List.length_replicate]; omega, fun i e h => ?_, fun i j e e' a h1 h2 m1 m2 => ?_, fun a ha => ?_, R.fr, R.tb, fun a ha => R.nw a (inS ha)⟩
  · rcases key h with ⟨hi, h⟩ | ⟨hi, rfl⟩
    · obtain ⟨o, h1, h2⟩ := R.ok i e h
      refine ⟨o, fun _ => ?_, Ent.nxt h2 (.less fun a ha => ha.imp id inS) fun _ _ => rfl⟩
      unfold L2.start
      rw [List.getElem?_append_left (by rw [List.length_map]; omega)]
      exact h1 (by omega)
    · refine ⟨none, fun hn => ?_, trivial⟩
      unfold L2.start
      rw [List.getElem?_append_right (by rw [List.length_map]; omega), List.length_map, List.getElem?_replicate, if_pos (by omega)]
  · rcases key h1 with ⟨_, k1⟩ | ⟨_, rfl⟩
    · rcases key h2 with ⟨_, k2⟩ | ⟨_, rfl⟩
      · exact R.nd i j e e' a k1 k2 m1 m2
      · cases m2
    · cases m1
  · obtain ⟨h1, h2, h3⟩ := R.s0 a ha
    exact ⟨h1, h2, fun z => h3 (inS z)⟩
theorem args0 : ∀ xs : List Val, Args Γ xs (xs.map entOf) []
  | [] => .nil
  | .im d :: xs => .im (args0 xs)
  | .vl v :: xs => .vl (args0 xs)
/-- a call that changes nothing that is there -/
theorem ve_call0 {A : List Ent → (Val → List Ent → Prop) → Prop} {E : XK} {ta : TA} {P : Val → List Ent → Prop} (hM : Mono A) (h : VAs F n Γ ta fun xs Γ1 => A (xs.map entOf) fun x outs => P x (Γ1 ++ outs)) : VE F n Γ (tCall (SpV A) [] E ta) P :=
  ve_call hM fun σ H Q R q => h σ H Q R fun vs xs Γ' H' hA s R' ok => q vs xs Γ' H' ⟨_, [], args0 xs, .nil, hM _ _ _ (fun x outs p => ⟨[], outs, rfl, .nil, p⟩) hA⟩ s R' ok
/-- old promises: what comes is data, the heap grows -/
theorem Mk.grow {P : Val → List Ent → Prop} {Q : VK} (q : Mk F n Γ P σ H Q) (R : Rep F n Γ σ H) {H' : Hp} {d : PyData} {v : V} (s : Same H H') (p : P (.im d) Γ) (x : Dz (Ex F Γ) H' v d) : Q v H' := q v _ Γ H' p (.same s) (R.same s) x
/-- a pot drawn from -/
theorem ve_take {j N : Nat} {a : Addr} {ta : TA} {E : XK} {P : Val → List Ent → Prop} (h : VAs F n Γ ta fun xs Γ1 => ∃ (u : Int) (N : Nat), xs = [.vl (.ref a), .im (.int u)] ∧ Γ1[j]? = some (.pot a N) ∧ N < 1000000000 ∧ 0 < u ∧ u < 1000000000 ∧ ∀ r : Int, 0 ≤ r → r < u → P (.im (.int r)) (Γ1.set j (.pot a (N + 1)))) : VE F n Γ (tCall spTake [] E ta) P := fun σ H Q R q =>
  h σ H _ R fun vs xs Γ1 H1 ⟨u, N, hx, he, hN, u0, u1, p⟩ s1 R1 ok => by
    subst hx
    cases ok with
    | cons o1 o2 =>
      cases o2 with
      | cons o2 o3 =>
        cases o3
        have o1 : _ = V.ref a := o1
        have o2 : Dz _ _ _ _ := o2
        subst o1
        obtain ⟨o, g1, g2, pot⟩ := R1.ok j _ he
        refine ⟨a, u, N, by rw [o2.int]; rfl, pot, hN, u0, u1, fun r H' r0 r1 s P' => ?_⟩
        have wr := R1.write (e' := .pot a (N + 1)) (H' := H') he (o' := o) g1 (fun b hb => .inl hb) (fun b w hb e => s b w (fun z => hb (by rw [z]; exact List.mem_cons_self)) e) ⟨g2, P'⟩
        exact q _ _ _ _ (p r r0 r1) (s1.trans wr.2) wr.1 (.flat rfl)
/-- one of the items of a list of one's own, or of a tuple -/
theorem ve_of {K : PySem.W.Frag} {j : Nat} {a : Addr} {ta : TA} {E : XK} {P : Val → List Ent → Prop} (h : VAs F n Γ ta fun xs Γ1 => ∃ (y : Val) (ds : List PyData) (N : Nat), xs = [.vl (.ref a), y] ∧ Γ1[j]? = some (.pot a N) ∧ Sq Γ1 true y ds ∧ N < 1000000000 ∧ y ≠ .vl (.ref a) ∧ 0 < ds.length ∧ ds.length < 1000000000 ∧ ∀ d ∈ ds, P (.im d) (Γ1.set j (.pot a (N + 1)))) : VE F n Γ (tCall (spOf K) [] E ta) P := fun σ H Q R q =>
  h σ H _ R fun vs xs Γ1 H1 ⟨y, ds, N, hx, he, sq, hN, hne, l0, l1, p⟩ s1 R1 ok => by
    subst hx
    cases ok with
    | cons o1 o2 =>
      cases o2 with
      | cons o2 o3 =>
        cases o3
        have o1 : _ = V.ref a := o1
        subst o1
        obtain ⟨o, g1, g2, pot⟩ := R1.ok j _ he
        obtain ⟨b, ys, rfl, al, eb⟩ := sq.get R1 o2
        have eb : H1 b = some (.lst ys) := eb
        have inA : In Γ1 a := ⟨_, List.mem_of_getElem? he, List.mem_cons_self⟩
        have nab : a ≠ b := fun z => by
          subst z
          cases sq with
          | lst ds =>
            obtain ⟨p', _, e1, _, n1, _⟩ := Dz.list o2
            cases e1
            exact n1 (.inr inA)
          | own h =>
            have o2 : V.ref a = V.ref _ := o2
            cases o2
            exact hne rfl
          | inn h m =>
            have o2 : V.ref a = V.ref _ := o2
            cases o2
            exact hne rfl
        refine ⟨a, b, ys, N, rfl, pot, hN, sql_of eb, nab, by rw [al.length]; exact l0, by rw [al.length]; exact l1, fun i v H' hv s P' => ?_⟩
        obtain ⟨d, hd, x⟩ := al.get hv
        have wr := R1.write (e' := .pot a (N + 1)) (H' := H') he (o' := o) g1 (fun b hb => .inl hb) (fun b w hb e => s b w (fun z => hb (by rw [z]; exact List.mem_cons_self)) e) ⟨g2, P'⟩
        exact q _ _ _ _ (p d (List.mem_of_getElem? hd)) (s1.trans wr.2) wr.1 (Dz.nxt wr.2 _ _ x)
/-! dicts -/
def lkD {α : Type} (kvs : List (Key × α)) (k : Key) : Option α := (kvs.find? fun kv => decide (kv.1 = k)).map (·.2)
theorem lk_pair {S : Addr → Prop} {k : Key} : ∀ {xs : List (Key × V)} {kvs : List (Key × PyData)}, Paired (fun (p : Key × V) (q : Key × PyData) => p.1 = q.1 ∧ Dz S H p.2 q.2) xs kvs → (∀ d, lkD kvs k = some d → ∃ v, valV xs k = some v ∧ Dz S H v d) ∧ (lkD kvs k = none → valV xs k = none) := by
  intro xs kvs h
  induction h with
  | nil =>
    refine ⟨fun d z => ?_, fun _ => rfl⟩
    cases z
  | @cons p q xs kvs h1 h2 ih =>
    unfold lkD valV
    rw [List.find?_cons, List.find?_cons, h1.1]
    by_cases hk : q.1 = k
    · rw [decide_eq_true hk]
      refine ⟨fun d z => ?_, fun z => ?_⟩
      · cases z; exact ⟨p.2, rfl, h1.2⟩
      · cases z
    · rw [decide_eq_false hk]
      exact ih
theorem lk_some {S : Addr → Prop} {k : Key} {xs : List (Key × V)} {kvs : List (Key × PyData)} (h : Paired (fun (p : Key × V) (q : Key × PyData) => p.1 = q.1 ∧ Dz S H p.2 q.2) xs kvs) : (valV xs k).isSome = (lkD kvs k).isSome := by
  obtain ⟨h1, h2⟩ := lk_pair (k := k) h
  cases e : lkD kvs k with
  | none => rw [h2 e]; rfl
  | some d => obtain ⟨v, e2, _⟩ := h1 d e; rw [e2]; rfl
theorem flat_key {S : Addr → Prop} {v : V} {k : Key} (h : Dz S H v (keyPD k)) : v = kV k := by
  cases k with
  | inl i => exact Dz.int h
  | inr z => exact Dz.str h
variable {td ty tx : TE} {P : Val → List Ent → Prop}
theorem ve_dget (h : VE F n Γ td fun x Γ1 => ∃ r, x = .vl (.ref r) ∧ VE F n Γ1 ty fun y Γ2 => ∃ (j : Nat) (kvs : List (Key × PyData)) (k : Key) (d : PyData), Γ2[j]? = some (.dk r kvs) ∧ y = .im (keyPD k) ∧ lkD kvs k = some d ∧ P (.im d) Γ2) : VE F n Γ (tDGet td ty) P := fun σ H Q R q =>
  h σ H _ R fun v x Γ1 H1 ⟨r, hx, hy⟩ s1 R1 ok1 => hy σ H1 _ R1 fun w y Γ2 H2 ⟨j, kvs, k, d, he, hk, hl, p⟩ s2 R2 ok2 => by
    subst hx
    subst hk
    have ok1 : v = V.ref r := ok1
    obtain ⟨_, _, _, xs, e, pr⟩ := R2.ok j _ he
    obtain ⟨u, e2, x2⟩ := (lk_pair (k := k) pr).1 d hl
    refine ⟨r, u, ok1, ?_, (q.pre (s1.trans s2)).now R2 p x2⟩
    rw [flat_key ok2, ← e2]
    exact DGet.k e
/-- d[k] of a dict of lists: the list itself, known by where it stands -/
theorem ve_dgetL (h : VE F n Γ td fun x Γ1 => ∃ r, x = .vl (.ref r) ∧ VE F n Γ1 ty fun y Γ2 => ∃ (j : Nat) (kvs : List (Key × Addr × List PyData)) (k : Key) (p : Addr) (ds : List PyData), Γ2[j]? = some (.dl r kvs) ∧ y = .im (keyPD k) ∧ lkD kvs k = some (p, ds) ∧ P (.vl (.ref p)) Γ2) : VE F n Γ (tDGet td ty) P := fun σ H Q R q =>
  h σ H _ R fun v x Γ1 H1 ⟨r, hx, hy⟩ s1 R1 ok1 => hy σ H1 _ R1 fun w y Γ2 H2 ⟨j, kvs, k, p, ds, he, hk, hl, pp⟩ s2 R2 ok2 => by
    subst hx
    subst hk
    have ok1 : v = V.ref r := ok1
    obtain ⟨_, _, _, e, _, _⟩ := R2.ok j _ he
    refine ⟨r, .ref p, ok1, ?_, (q.pre (s1.trans s2)).now R2 pp rfl⟩
    rw [flat_key ok2]
    have e2 : valV (kvs.map fun x => (x.1, V.ref x.2.1)) k = some (V.ref p) := by
      unfold valV
      unfold lkD at hl
      rw [List.find?_map]
      cases z : kvs.find? fun kv => decide (kv.1 = k) with
      | none => rw [z] at hl; cases hl
      | some u =>
        rw [z] at hl
        have hl : u.2 = (p, ds) := Option.some.inj hl
        have z2 : kvs.find? ((fun kv : Key × V => decide (kv.1 = k)) ∘ fun x => (x.1, V.ref x.2.1)) = some u := z
        rw [z2]
        show some (V.ref u.2.1) = _
        rw [hl]
    rw [← e2]
    exact DGet.k e
theorem ve_din (h : VE F n Γ ty fun y Γ1 => VE F n Γ1 td fun x Γ2 => ∃ (j : Nat) (r : Addr) (kvs : List (Key × PyData)) (k : Key), x = .vl (.ref r) ∧ Γ2[j]? = some (.dk r kvs) ∧ y = .im (keyPD k) ∧ P (.im (.bool (lkD kvs k).isSome)) Γ2) : VE F n Γ (tDIn ty td) P := fun σ H Q R q =>
  h σ H _ R fun w y Γ1 H1 hy s1 R1 ok1 => hy σ H1 _ R1 fun v x Γ2 H2 ⟨j, r, kvs, k, hx, he, hk, p⟩ s2 R2 ok2 => by
    subst hx
    subst hk
    have ok2 : v = V.ref r := ok2
    obtain ⟨_, _, _, xs, e, pr⟩ := R2.ok j _ he
    refine ⟨r, valV xs k, ok2, ?_, ?_⟩
    · rw [flat_key (Val.nxt ok1 s2)]
      exact DGet.k e
    · rw [lk_some pr]
      exact (q.pre (s1.trans s2)).now R2 p (.flat rfl)
theorem ve_dnin (h : VE F n Γ ty fun y Γ1 => VE F n Γ1 td fun x Γ2 => ∃ (j : Nat) (r : Addr) (kvs : List (Key × PyData)) (k : Key), x = .vl (.ref r) ∧ Γ2[j]? = some (.dk r kvs) ∧ y = .im (keyPD k) ∧ P (.im (.bool (!(lkD kvs k).isSome))) Γ2) : VE F n Γ (tDNotIn ty td) P := fun σ H Q R q =>
  h σ H _ R fun w y Γ1 H1 hy s1 R1 ok1 => hy σ H1 _ R1 fun v x Γ2 H2 ⟨j, r, kvs, k, hx, he, hk, p⟩ s2 R2 ok2 => by
    subst hx
    subst hk
    have ok2 : v = V.ref r := ok2
    obtain ⟨_, _, _, xs, e, pr⟩ := R2.ok j _ he
    refine ⟨r, valV xs k, ok2, ?_, ?_⟩
    · rw [flat_key (Val.nxt ok1 s2)]
      exact DGet.k e
    · rw [lk_some pr]
      exact (q.pre (s1.trans s2)).now R2 p (.flat rfl)
end
end Vl

set_option Elab.async false
set_option linter.all false
set_option maxRecDepth 100000
set_option maxHeartbeats 4000000
namespace Vl
open PySem L2 PyProof.Rows Hw
section
variable {F : Frm} {n : Nat} {Γ : List Ent} {σ : L2.St} {H : Hp} {P : Val → List Ent → Prop} {te ta tb td ty tx to : TE}
theorem ve_cV {v : V} (p : P (.vl v) Γ) : VE F n Γ (tC v) P := fun σ H Q R q => q.now R p rfl
/-! isinstance -/
def kindD : PyData → String
  | .none => "NoneType"
  | .bool _ => "bool"
  | .int _ => "int"
  | .str _ => "str"
  | .list _ => "list"
  | .tuple _ => "tuple"
  | .dict _ => "dict"
theorem Dz.tyx {K : PySem.W.Frag} {S : Addr → Prop} {v : V} {d : PyData} (h : Dz S H v d) : TyX K H v (.type (kindD d)) := by
  cases h with
  | flat e =>
    cases v with
    | non => cases e; exact .base .non
    | bl b => cases e; exact .base (.bl b)
    | int i => cases e; exact .base (.int i)
    | str x => cases e; exact .base (.str x)
    | byt b => cases e
    | flt b => cases e
    | ref a => cases e
    | ty n => cases e
  | lst h1 _ _ => exact .base (.lst h1)
  | tup h1 _ _ => exact .base (.tup h1)
  | dct h1 _ _ _ => exact .base (.dK h1)
def isTy (T : String) (d : PyData) : Bool := kindD d == T || (T == "int" && kindD d == "bool")
theorem kit_dz {K : PySem.W.Frag} {T : String} (hT : T = "str" ∨ T = "tuple" ∨ T = "int" ∨ T = "bool" ∨ T = "list" ∨ T = "dict") (d : PyData) : PySem.W.kitOne K (.type (kindD d)) (.type T) = some (isTy T d) := by
  have h : ∀ k ∈ ["NoneType", "bool", "int", "str", "list", "tuple", "dict"], ∀ T ∈ ["str", "tuple", "int", "bool", "list", "dict"], kitB k T = some (k == T || (T == "int" && k == "bool")) := by decide +kernel
  have hk : kindD d ∈ ["NoneType", "bool", "int", "str", "list", "tuple", "dict"] := by cases d <;> simp [kindD]
  exact kit_ty (h _ hk T (by rcases hT with rfl | rfl | rfl | rfl | rfl | rfl <;> simp))
theorem cb_isi {K : PySem.W.Frag} {T : String} {d : PyData} (hT : T = "str" ∨ T = "tuple" ∨ T = "int" ∨ T = "bool" ∨ T = "list" ∨ T = "dict") (p : P (.im (.bool (isTy T d))) Γ) : CB F n (rIsi K) [.im d, .vl (.ty T)] Γ P := fun σ H vs Q R ok q => by
  cases ok with
  | cons o1 o2 =>
    cases o2 with
    | cons o2 o3 =>
      cases o3
      have o2 : _ = V.ty T := o2
      subst o2
      exact ⟨_, .ty T, .type (kindD d), .type T, isTy T d, rfl, .ty _, Dz.tyx o1, kit_dz hT d, q.now R p (.flat rfl)⟩
/-! texts -/
theorem ve_m0 {f : Str → V} {z : Str} {d : PyData} (hf : flatPD (f z) = some d) (h : VE F n Γ to fun x Γ1 => x = .im (.str z) ∧ P (.im d) Γ1) : VE F n Γ (tM0 (fun x xs H Q => ∃ a, x = .str a ∧ xs = [] ∧ True ∧ Q (f a) H) to) P := fun σ H Q R q =>
  h σ H _ R fun v x Γ1 H1 ⟨hx, p⟩ s1 R1 ok => by
    subst hx
    have ok : Dz _ _ _ _ := ok
    obtain rfl := ok.str
    exact ⟨⟨_, rfl⟩, z, rfl, rfl, trivial, (q.pre s1).now R1 p (.flat hf)⟩
theorem ve_split (h : VE F n Γ to fun x Γ1 => ∃ a, x = .im (.str a) ∧ VE F n Γ1 te fun y Γ2 => ∃ b, y = .im (.str b) ∧ (b.length == 0) = false ∧ a.length + 2 ≤ sizeLine ∧ ∀ t, P (.vl (.ref t)) (Γ2 ++ [.ls t ((Txt.split a b).map PyData.str)])) :
    VE F n Γ (tM1 (fun x xs H Q => ∃ a b, x = .str a ∧ xs = [.str b] ∧ (b.length == 0) = false ∧ a.length + 2 ≤ sizeLine ∧ rNewStrs (Txt.split a b) H Q) to te) P := fun σ H Q R q =>
  h σ H _ R fun v x Γ1 H1 ⟨a, hx, hy⟩ s1 R1 ok => by
    subst hx
    have ok : Dz _ _ _ _ := ok
    obtain rfl := ok.str
    refine ⟨⟨_, rfl⟩, ?_⟩
    exact hy σ H1 _ R1 fun w y Γ2 H2 ⟨b, hy, hb, hl, p⟩ s2 R2 ok2 => by
      subst hy
      have ok2 : Dz _ _ _ _ := ok2
      obtain rfl := ok2.str
      exact ⟨a, b, rfl, rfl, hb, hl, fun t nt => (q.pre (s1.trans s2)).lst R2 p (DzAll.ofStrs _) nt⟩
theorem ve_join {K : PySem.W.Frag} (h : VE F n Γ to fun x Γ1 => ∃ a, x = .im (.str a) ∧ VE F n Γ1 te fun y Γ2 => ∃ (b : Bool) (ys : List Str), Sq Γ2 b y (ys.map PyData.str) ∧ (ys.map (·.length)).sum + ys.length * a.length ≤ 16777216 ∧ P (.im (.str (Txt.join a ys))) Γ2) :
    VE F n Γ (tM1 (fun x xs H Q => ∃ a p, ∃ ys : List Str, x = .str a ∧ xs = [.ref p] ∧ (SqL K H p (ys.map V.str) ∨ SqT K H p (ys.map V.str)) ∧ (ys.map (·.length)).sum + ys.length * a.length ≤ 16777216 ∧ Q (.str (Txt.join a ys)) H) to te) P := fun σ H Q R q =>
  h σ H _ R fun v x Γ1 H1 ⟨a, hx, hy⟩ s1 R1 ok => by
    subst hx
    have ok : Dz _ _ _ _ := ok
    obtain rfl := ok.str
    refine ⟨⟨_, rfl⟩, ?_⟩
    exact hy σ H1 _ R1 fun w y Γ2 H2 ⟨b, ys, sq, hl, p⟩ s2 R2 ok2 => by
      obtain ⟨t, xs, rfl, al, e⟩ := sq.seq (K := K) R2 ok2
      have := al.strs
      subst this
      exact ⟨a, t, ys, rfl, rfl, e, hl, (q.pre (s1.trans s2)).now R2 p (.flat rfl)⟩
theorem cb_lenS {z : Str} (hl : z.length ≤ sizeLine) (p : P (.im (.int z.length)) Γ) : CB F n (fun xs H Q => ∃ z, xs = [.str z] ∧ z.length ≤ sizeLine ∧ Q (.int z.length) H) [.im (.str z)] Γ P := fun σ H vs Q R ok q => by
  cases ok with
  | cons o1 o2 =>
    cases o2
    have o1 : Dz _ _ _ _ := o1
    exact ⟨z, by rw [o1.str], hl, q.now R p (.flat rfl)⟩
theorem cb_lenD {j : Nat} {r : Addr} {kvs : List (Key × PyData)} (he : Γ[j]? = some (.dk r kvs)) (p : P (.im (.int kvs.length)) Γ) : CB F n (fun xs H Q => ∃ a kvs, xs = [V.ref a] ∧ H a = some (.dK kvs) ∧ Q (.int kvs.length) H) [.vl (.ref r)] Γ P := fun σ H vs Q R ok q => by
  cases ok with
  | cons o1 o2 =>
    cases o2
    obtain ⟨_, _, _, xs, e, pr⟩ := R.ok j _ he
    have o1 : _ = V.ref r := o1
    refine ⟨r, xs, by rw [o1], e, ?_⟩
    rw [pr.length]
    exact q.now R p (.flat rfl)
/-! truth -/
theorem vt_truS {K : PySem.W.Frag} {P : Bool → List Ent → Prop} (h : VE F n Γ te fun x Γ1 => ∃ z, x = .im (.str z) ∧ z.length ≤ sizeLine ∧ P ((z.length : Int) != 0) Γ1) : VT F n Γ (fun σ H Q => te σ H fun x H' => ∃ k, TruV K x H' k ∧ Q k H') P := fun σ H Q R q =>
  h σ H _ R fun v x Γ1 H1 ⟨z, hx, hl, p⟩ s1 R1 ok => by
    subst hx
    have ok : Dz _ _ _ _ := ok
    obtain rfl := ok.str
    exact ⟨_, ⟨hl, rfl⟩, q _ Γ1 H1 p s1 R1⟩
theorem vt_truI {K : PySem.W.Frag} {P : Bool → List Ent → Prop} (h : VE F n Γ te fun x Γ1 => ∃ i, x = .im (.int i) ∧ P (i != 0) Γ1) : VT F n Γ (fun σ H Q => te σ H fun x H' => ∃ k, TruV K x H' k ∧ Q k H') P := fun σ H Q R q =>
  h σ H _ R fun v x Γ1 H1 ⟨i, hx, p⟩ s1 R1 ok => by
    subst hx
    have ok : Dz _ _ _ _ := ok
    obtain rfl := ok.int
    exact ⟨_, rfl, q _ Γ1 H1 p s1 R1⟩
/-! dicts -/
theorem ve_dnew (p : ∀ t, P (.vl (.ref t)) (Γ ++ [.dk t []])) : VE F n Γ tDNewK P := fun σ H Q R q t nt => by
  have s := same_upd (o := .dK []) nt
  have pu := R.push (e := .dk t []) (o := some (.ref t)) s (fun a ha => by rw [List.mem_singleton.mp ha]; exact nt) ⟨rfl, [], upd_same, .nil⟩
  exact q _ _ _ _ (p t) pu.2 pu.1 rfl
theorem ve_dget2 (h : VE F n Γ td fun x Γ1 => ∃ (j : Nat) (r : Addr) (kvs : List (Key × PyData)), x = .vl (.ref r) ∧ Γ1[j]? = some (.dk r kvs) ∧ VE F n Γ1 ty fun y Γ2 => ∃ k, y = .im (keyPD k) ∧ VE F n Γ2 tx fun z Γ3 => ∃ d0, z = .im d0 ∧ Γ3[j]? = some (.dk r kvs) ∧ P (.im ((lkD kvs k).getD d0)) Γ3) : VE F n Γ (tDGet2 td ty tx) P := fun σ H Q R q =>
  h σ H _ R fun v x Γ1 H1 ⟨j, r, kvs, hx, he, hy⟩ s1 R1 ok1 => by
    subst hx
    have ok1 : v = V.ref r := ok1
    obtain ⟨_, _, _, xs0, e0, _⟩ := R1.ok j _ he
    refine ⟨r, ok1, .inl ⟨xs0, .inl e0⟩, ?_⟩
    exact hy σ H1 _ R1 fun w y Γ2 H2 ⟨k, hk, hz⟩ s2 R2 ok2 => hz σ H2 _ R2 fun u z Γ3 H3 ⟨d0, hz, he3, p⟩ s3 R3 ok3 => by
      subst hk
      subst hz
      obtain ⟨_, _, _, xs, e, pr⟩ := R3.ok j _ he3
      obtain ⟨h1, h2⟩ := lk_pair (k := k) pr
      refine ⟨valV xs k, ?_, ?_⟩
      · rw [flat_key (Val.nxt ok2 s3)]
        exact DGet.k e
      · have q := q.pre ((s1.trans s2).trans s3)
        cases hl : lkD kvs k with
        | none =>
          rw [h2 hl]
          rw [hl] at p
          exact q.now R3 p ok3
        | some d =>
          obtain ⟨w2, e2, x2⟩ := h1 d hl
          rw [e2]
          rw [hl] at p
          exact q.now R3 p x2
def ptD {α : Type} (kvs : List (Key × α)) (k : Key) (v : α) : List (Key × α) := if (kvs.any fun kv => decide (kv.1 = k)) = true then kvs.map (fun kv => if kv.1 = k then (kv.1, v) else kv) else kvs ++ [(k, v)]
theorem pt_map {S : Addr → Prop} {k : Key} {v : V} {d : PyData} (x : Dz S H v d) : ∀ {xs : List (Key × V)} {kvs : List (Key × PyData)}, Paired (fun (p : Key × V) (q : Key × PyData) => p.1 = q.1 ∧ Dz S H p.2 q.2) xs kvs →
    Paired (fun (p : Key × V) (q : Key × PyData) => p.1 = q.1 ∧ Dz S H p.2 q.2) (xs.map fun kv => if kv.1 = k then (kv.1, v) else kv) (kvs.map fun kv => if kv.1 = k then (kv.1, d) else kv)
  | _, _, .nil => .nil
  | _, _, .cons (a := p) (b := q) h1 h2 => by
    rw [List.map_cons, List.map_cons]
    refine .cons ?_ (pt_map x h2)
    by_cases hk : q.1 = k
    · rw [if_pos hk, if_pos (h1.1.trans hk)]; exact ⟨h1.1, x⟩
    · rw [if_neg hk, if_neg (fun z => hk (h1.1 ▸ z))]; exact h1
theorem pd_append {α β : Type} {G : α → β → Prop} {a : α} {b : β} (h : G a b) : ∀ {xs : List α} {ys : List β}, Paired G xs ys → Paired G (xs ++ [a]) (ys ++ [b])
  | _, _, .nil => .cons h .nil
  | _, _, .cons h1 h2 => .cons h1 (pd_append h h2)
theorem pt_pair {S : Addr → Prop} {k : Key} {v : V} {d : PyData} (x : Dz S H v d) {xs : List (Key × V)} {kvs : List (Key × PyData)} (h : Paired (fun (p : Key × V) (q : Key × PyData) => p.1 = q.1 ∧ Dz S H p.2 q.2) xs kvs) : Paired (fun (p : Key × V) (q : Key × PyData) => p.1 = q.1 ∧ Dz S H p.2 q.2) (putK xs k v) (ptD kvs k d) := by
  have any : (xs.any fun kv => decide (kv.1 = k)) = (kvs.any fun kv => decide (kv.1 = k)) := by
    induction h with
    | nil => rfl
    | cons h1 _ ih => rw [List.any_cons, List.any_cons, ih, h1.1]
  unfold putK ptD
  rw [any]
  split
  · exact pt_map x h
  · exact pd_append ⟨rfl, x⟩ h
theorem vs_dput {u : TS} {D : Ends} {tv : TE} (R : Rep F n Γ σ H) (h : VE F n Γ tv fun z Γ1 => ∃ d, z = .im d ∧ VE F n Γ1 td fun x Γ2 => ∃ r, x = .vl (.ref r) ∧ VE F n Γ2 ty fun y Γ3 => ∃ (j : Nat) (kvs : List (Key × PyData)) (k : Key), y = .im (keyPD k) ∧ Γ3[j]? = some (.dk r kvs) ∧ kvs.length < 100000 ∧
      ∀ H1, Rep F n ((Γ3.set j (.dk r (ptD kvs k d))).take Γ.length) σ H1 → u D σ H1) : tSeq (sDPut td ty tv) u D σ H :=
  h σ H _ R fun v z Γ1 H1 ⟨d, hz, hx⟩ s1 R1 ok1 => hx σ H1 _ R1 fun w x Γ2 H2 ⟨r, hx, hy⟩ s2 R2 ok2 => hy σ H2 _ R2 fun w3 y Γ3 H3 ⟨j, kvs, k, hk, he, hl, p⟩ s3 R3 ok3 => by
    subst hz
    subst hx
    subst hk
    have ok2 : w = V.ref r := ok2
    obtain ⟨o, g1, g2, xs, e, pr⟩ := R3.ok j _ he
    have ok1 := Dz.nxt (s2.trans s3) _ _ (show Dz _ _ _ _ from ok1)
    refine ⟨r, upd H3 r (.dK (putK xs k v)), ok2, ?_, ?_⟩
    · rw [flat_key ok3]
      exact DPut.k e (by rw [pr.length, sizeLine_eq]; omega)
    · have nx : Nxt (Ex F Γ3) H3 (Ex F (Γ3.set j (.dk r (ptD kvs k d)))) (upd H3 r (.dK (putK xs k v))) := fun b u nb _ eq => by
        refine ⟨by rw [upd_ne (fun z => nb (.inr ⟨_, List.mem_of_getElem? he, by rw [z]; exact List.mem_cons_self⟩))]; exact eq, fun z => ?_⟩
        rcases z with z | ⟨w, hw, haw⟩
        · exact nb (.inl z)
        · rcases List.mem_or_eq_of_mem_set hw with z | z
          · exact nb (.inr ⟨w, z, haw⟩)
          · subst z
            exact nb (.inr ⟨_, List.mem_of_getElem? he, haw⟩)
      have wr := R3.write (e' := .dk r (ptD kvs k d)) he (o' := o) g1 (fun a ha => .inl ha) (fun b u hb eq => by rw [upd_ne (fun z => hb (by rw [z]; exact List.mem_cons_self))]; exact eq)
        ⟨g2, _, upd_same, prd_mono (fun p q z => ⟨z.1, Dz.nxt nx _ _ z.2⟩) (pt_pair ok1 pr)⟩
      exact p _ (wr.1.take R.len)
/-! walks -/
theorem wd_pair {J : It} {ds : List PyData} {Good : List Ent → Prop} {fst snd : Nat → Option V} {n' : Nat} (hn : ds.length = n') {G : Hp → Prop} (w : Walk J n' G (YPair fst snd)) (hG : ∀ Γ σ H, Good Γ → Rep F n Γ σ H → G H)
    (hd : ∀ Γ σ H i x y d, Good Γ → Rep F n Γ σ H → ds[i]? = some d → fst i = some x → snd i = some y → ∃ d1 d2, d = .tuple [d1, d2] ∧ Dz (Ex F Γ) H x d1 ∧ Dz (Ex F Γ) H y d2) : Wd F n J ds Good := by
  subst hn
  refine ⟨fun Γ σ H i g R hi => w.goes i H hi (hG Γ σ H g R), fun Γ σ H g R => w.stops H (hG Γ σ H g R), fun Γ σ H i x H' d g R hd' y => ?_⟩
  have hi := (List.getElem?_eq_some_iff.mp hd').1
  obtain ⟨T, a, b, e1, e2, e3, e4, e5⟩ := w.yields i H x H' hi (hG Γ σ H g R) y
  obtain ⟨d1, d2, rfl, x1, x2⟩ := hd Γ σ H i a b d g R hd' e4 e5
  subst e1
  subst e3
  have s := same_upd (o := .tup [a, b]) e2
  exact ⟨s, .tup upd_same (fun z => R.exs z e2) (.cons (Dz.nxt (.same s) _ _ x1) (.cons (Dz.nxt (.same s) _ _ x2) .nil))⟩
/-- enumerate(xs, start=k) -/
theorem vi_enumK {K : PySem.W.Frag} {tas tks : TA} {P : List PyData → (List Ent → Prop) → List Ent → Prop} (h : VAs F n Γ tas fun xs Γ1 => ∃ v ds, xs = [.vl v] ∧ Sq Γ1 true (.vl v) ds ∧ VAs F n Γ1 tks fun zs Γ2 => ∃ k : Int, zs = [.im (.int k)] ∧ -(2 ^ 62) ≤ k ∧ k < 2 ^ 62 ∧ Sq Γ2 true (.vl v) ds ∧
      P ((List.range ds.length).map fun i : Nat => PyData.tuple [.int (k + (i : Nat)), ds.getD i .none]) (fun Γ3 => Sq Γ3 true (.vl v) ds) Γ2) : VI F n Γ (iEnumK K tas tks) P := fun σ H R0 R q =>
  h σ H _ R fun vs xs Γ1 H1 ⟨w, ds, hx, sq1, hz⟩ s1 R1 ok1 => hz σ H1 _ R1 fun ws zs Γ2 H2 ⟨k, hk, k1, k2, sq, p⟩ s2 R2 ok2 => by
    subst hx
    subst hk
    cases ok1 with
    | cons o1 o1' =>
      cases o1'
      cases ok2 with
      | cons o2 o2' =>
        cases o2'
        have o2 : Dz _ _ _ _ := o2
        have o1 : _ = w := o1
        subst o1
        obtain ⟨a, ys, rfl, al, e⟩ := sq.get R2 rfl
        have rd : ∀ (Γ3 : List Ent) (σ3 : L2.St) (H3 : Hp), Sq Γ3 true (.vl (.ref a)) ds → Rep F n Γ3 σ3 H3 → ∃ xs, H3 a = some (.lst xs) ∧ DzAll (Ex F Γ3) H3 xs ds := fun Γ3 σ3 H3 g R3 => by
          obtain ⟨p', xs, e1, e2, e3⟩ := g.get R3 rfl
          cases e1
          exact ⟨xs, e3, e2⟩
        refine ⟨a, ys, k, rfl, by rw [o2.int], k1, k2, sql_of e, q _ _ _ Γ2 H2 p ?_ (s1.trans s2) R2⟩
        refine ⟨fun Γ3 σ3 H3 i g R3 hi => ?_, fun Γ3 σ3 H3 g R3 => ?_, fun Γ3 σ3 H3 i x H4 d g R3 hd y => ?_⟩
        · obtain ⟨xs, e1, e2⟩ := rd Γ3 σ3 H3 g R3
          rw [List.length_map, List.length_range] at hi
          have : i < xs.length := by rw [e2.length]; exact hi
          exact ⟨xs, xs[i], sql_of e1, List.getElem?_eq_getElem this⟩
        · obtain ⟨xs, e1, e2⟩ := rd Γ3 σ3 H3 g R3
          exact ⟨xs, sql_of e1, by rw [e2.length, List.length_map, List.length_range]⟩
        · obtain ⟨xs, e1, e2⟩ := rd Γ3 σ3 H3 g R3
          obtain ⟨T, u, rfl, nT, rfl, hu⟩ := y
          have hi : i < ds.length := by
            have := (List.getElem?_eq_some_iff.mp hd).1
            rwa [List.length_map, List.length_range] at this
          rw [List.getElem?_map, List.getElem?_range hi] at hd
          cases hd
          have e4 := hu xs (sql_of e1)
          obtain ⟨d1, h1, h2⟩ := e2.get e4
          have hg : ds.getD i .none = d1 := by rw [List.getD_eq_getElem?_getD, h1]; rfl
          show Same H3 _ ∧ Dz _ _ _ (PyData.tuple [.int (k + (i : Nat)), ds.getD i .none])
          rw [hg]
          have s := same_upd (o := .tup [.int (k + (i : Nat)), u]) nT
          exact ⟨s, .tup upd_same (fun z => R3.exs z nT) (.cons (.flat rfl) (.cons (Dz.nxt (.same s) _ _ h2) .nil))⟩
theorem lenVX {A : List Ent → (Val → List Ent → Prop) → (Addr → PyData → Prop) → Prop} {m : Nat} (hA : ∀ es P EP, A es P EP → es.length = m) {vs : List V} {Q : VK} {E : XK} (h : SpVX A vs H Q E) : vs.length = m := by
  obtain ⟨S0, es, _, _, hl, ha⟩ := h
  rw [← hl, hA _ _ _ ha]
end
end Vl
namespace Vl
open PySem L2 PyProof.Rows Hw
section
variable {F : Frm} {n : Nat} {Γ : List Ent} {σ : L2.St} {H : Hp} {P : Val → List Ent → Prop} {te ta : TE}
/-- a call of a def that may raise, nothing lent -/
theorem ve_callX {A : List Ent → (Val → List Ent → Prop) → (Addr → PyData → Prop) → Prop} {E : XK} {ta : TA} {EP : Addr → PyData → Prop} (hM : MonoX A) (hx : Xok F E EP)
    (h : VAs F n Γ ta fun xs Γ1 => A (xs.map entOf) (fun x outs => P x (Γ1 ++ outs)) EP) : VE F n Γ (tCall (SpVX A) [] E ta) P :=
  ve_callXG hM hx fun σ H Q R q => h σ H Q R fun vs xs Γ' H' hA s R' ok => q vs xs Γ' H' ⟨_, [], args0 xs, .nil, hM _ _ _ _ _ (fun x outs p => ⟨[], outs, rfl, .nil, p⟩) (fun _ _ p => p) hA⟩ s R' ok
/-! objects -/
theorem lookup_fs {S : Addr → Prop} {f : Str} : ∀ {vs : List (Str × V)} {fs : List (Str × Val)}, Paired (fun (p : Str × V) (q : Str × Val) => p.1 = q.1 ∧ q.2.ok S H p.2) vs fs → ∀ y, fs.lookup f = some y → ∃ v, vs.lookup f = some v ∧ y.ok S H v
  | _, _, .nil, y, h => by cases h
  | (a, v) :: vs, (b, z) :: fs, .cons h1 h2, y, h => by
    obtain ⟨e, k⟩ := h1
    have e : a = b := e
    subst e
    rw [List.lookup_cons] at h ⊢
    cases hf : f == a with
    | true =>
      rw [hf] at h
      cases h
      exact ⟨v, rfl, k⟩
    | false =>
      rw [hf] at h
      exact lookup_fs h2 y h
theorem ve_fld {K : PySem.W.Frag} {f : Str} (h : VE F n Γ ta fun x Γ1 => ∃ (j : Nat) (p dx C : Addr) (fs : List (Str × Val)) (y : Val), x = .vl (.ref p) ∧ Γ1[j]? = some (.ob p dx C fs) ∧ Cls K C ∧ NoAttr K C f ∧ fs.lookup f = some y ∧ P y Γ1) : VE F n Γ (tFld K ta f) P := fun σ H Q R q =>
  h σ H _ R fun v x Γ1 H1 ⟨j, p, dx, C, fs, y, hx, he, hC, hN, hl, py⟩ s1 R1 ok => by
    subst hx
    have ok : v = V.ref p := ok
    obtain ⟨_, _, _, _, _, vs, e, pr⟩ := R1.ok j _ he
    obtain ⟨w, e2, k⟩ := lookup_fs pr y hl
    exact ⟨p, C, dx, vs, w, ok, e, hC, hN, e2, (q.pre s1).now R1 py k⟩
def ptF (f : Str) (y : Val) : List (Str × Val) → List (Str × Val)
  | [] => [(f, y)]
  | (g, x) :: r => if g = f then (g, y) :: r else (g, x) :: ptF f y r
theorem put_fs {S : Addr → Prop} {f : Str} {v : V} {y : Val} (k : y.ok S H v) : ∀ {vs : List (Str × V)} {fs : List (Str × Val)}, Paired (fun (p : Str × V) (q : Str × Val) => p.1 = q.1 ∧ q.2.ok S H p.2) vs fs → Paired (fun (p : Str × V) (q : Str × Val) => p.1 = q.1 ∧ q.2.ok S H p.2) (putF f v vs) (ptF f y fs)
  | _, _, .nil => .cons ⟨rfl, k⟩ .nil
  | (a, w) :: vs, (b, z) :: fs, .cons h1 h2 => by
    obtain ⟨e, k2⟩ := h1
    have e : a = b := e
    subst e
    unfold putF ptF
    by_cases hf : a = f
    · rw [if_pos hf, if_pos hf]; exact .cons ⟨rfl, k⟩ h2
    · rw [if_neg hf, if_neg hf]; exact .cons ⟨rfl, k2⟩ (put_fs k h2)
theorem vs_fld {K : PySem.W.Frag} {f : Str} {tv : TE} {u : TS} {D : Ends} (R : Rep F n Γ σ H) (h : VE F n Γ tv fun y Γ1 => VE F n Γ1 ta fun x Γ2 => ∃ (j : Nat) (p dx C : Addr) (fs : List (Str × Val)), x = .vl (.ref p) ∧ Γ2[j]? = some (.ob p dx C fs) ∧ Cls K C ∧ NoAttr K C f ∧ fs.length < 1000 ∧
      ∀ H1, Rep F n ((Γ2.set j (.ob p dx C (ptF f y fs))).take Γ.length) σ H1 → u D σ H1) : tSeq (sFld K ta tv f) u D σ H :=
  h σ H _ R fun v y Γ1 H1 hx s1 R1 ok1 => hx σ H1 _ R1 fun w x Γ2 H2 ⟨j, p, dx, C, fs, hx, he, hC, hN, hl, k⟩ s2 R2 ok2 => by
    subst hx
    have ok2 : w = V.ref p := ok2
    obtain ⟨o, g1, g2, ne, g3, vs, e, pr⟩ := R2.ok j _ he
    have ok1 := Val.nxt ok1 s2
    have own : (Ent.ob p dx C (ptF f y fs)).own = (Ent.ob p dx C fs).own := rfl
    have nx : Nxt (Ex F Γ2) H2 (Ex F (Γ2.set j (.ob p dx C (ptF f y fs)))) (upd H2 p (.ins C dx (putF f v vs))) := fun b u nb _ eq => by
      refine ⟨by rw [upd_ne (fun z => nb (.inr ⟨_, List.mem_of_getElem? he, by rw [z]; exact List.mem_cons_self⟩))]; exact eq, fun z => ?_⟩
      rcases z with z | ⟨w, hw, haw⟩
      · exact nb (.inl z)
      · rcases List.mem_or_eq_of_mem_set hw with z | z
        · exact nb (.inr ⟨w, z, haw⟩)
        · subst z
          exact nb (.inr ⟨_, List.mem_of_getElem? he, haw⟩)
    have wr := R2.write (e' := .ob p dx C (ptF f y fs)) (H' := upd H2 p (.ins C dx (putF f v vs))) he (o' := o) g1 (fun a ha => .inl ha) (fun b u hb eq => by rw [upd_ne (fun z => hb (by rw [z]; exact List.mem_cons_self))]; exact eq)
      ⟨g2, ne, by rw [upd_ne (fun z => ne z.symm)]; exact g3, _, upd_same, prd_mono (fun p q z => ⟨z.1, Val.nxt z.2 nx⟩) (put_fs ok1 pr)⟩
    exact ⟨p, C, dx, vs, ok2, e, hC, hN, by rw [pr.length]; exact hl, k _ (wr.1.take R.len)⟩
/-- a list that was just made is kept as it is -/
theorem ve_frz (h : VE F n Γ te fun x Γ1 => ∃ (Γ0 : List Ent) (t : Addr) (ds : List PyData), x = .vl (.ref t) ∧ Γ1 = Γ0 ++ [.ls t ds] ∧ n ≤ Γ0.length ∧ P (.im (.list ds)) Γ0) : VE F n Γ te P := fun σ H Q R q =>
  h σ H _ R fun v x Γ1 H1 ⟨Γ0, t, ds, hx, hΓ, hn, p⟩ s1 R1 ok => by
    subst hx
    subst hΓ
    have ok : v = V.ref t := ok
    subst ok
    obtain ⟨_, _, _, xs, e, al⟩ := R1.ok Γ0.length (.ls t ds) (by rw [List.getElem?_append_right (Nat.le_refl _), Nat.sub_self]; rfl)
    have R2 := R1.take (m := Γ0.length) hn
    rw [List.take_left] at R2
    have nx : Nxt (Ex F (Γ0 ++ [.ls t ds])) H1 (Ex F Γ0) H1 := .less fun a ha => ha.imp id fun z => In.app.mpr (.inl z)
    refine q _ _ Γ0 H1 p (s1.trans nx) R2 (.lst e (fun z => ?_) (DzAll.nxt nx _ _ al))
    rcases z with z | ⟨w, hw, haw⟩
    · exact (R1.s0 t z).2.2 (In.app.mpr (.inr (In.one.mpr List.mem_cons_self)))
    · obtain ⟨i, hi⟩ := List.mem_iff_getElem?.mp hw
      have hlt := (List.getElem?_eq_some_iff.mp hi).1
      have := R1.nd i Γ0.length w (.ls t ds) t (by rw [List.getElem?_append_left hlt]; exact hi) (by rw [List.getElem?_append_right (Nat.le_refl _), Nat.sub_self]; rfl) haw List.mem_cons_self
      omega
end
end Vl

set_option Elab.async false
set_option linter.all false
set_option maxRecDepth 100000
set_option maxHeartbeats 4000000
namespace Vl
open PySem L2 PyProof.Rows Hw
section
variable {F : Frm} {n : Nat} {Γ : List Ent} {te : TE}
/-- zip of two tuples -/
theorem vi_zipT {K : PySem.W.Frag} {ta : TA} {P : List PyData → (List Ent → Prop) → List Ent → Prop} (h : VAs F n Γ ta fun xs Γ1 => ∃ ds es, xs = [.im (.tuple ds), .im (.tuple es)] ∧ ∀ v w, P ((ds.zip es).map fun z => PyData.tuple [z.1, z.2]) (fun Γ2 => .iv v (.tuple ds) ∈ Γ2 ∧ .iv w (.tuple es) ∈ Γ2) (Γ1 ++ [.iv v (.tuple ds)] ++ [.iv w (.tuple es)])) : VI F n Γ (RZ.iZipA K ta) P := fun σ H R0 R q =>
  h σ H _ R fun vs xs Γ1 H1 ⟨ds, es, hx, p⟩ s1 R1 ok => by
    subst hx
    cases ok with
    | cons o1 o2 =>
      cases o2 with
      | cons o2 o3 =>
        cases o3
        have ok1 : Dz _ _ _ _ := o1
        have ok2 : Dz _ _ _ _ := o2
        obtain ⟨a, xs, rfl, e, na, al⟩ := Dz.tuple ok1
        obtain ⟨b, ys, rfl, e', nb, al'⟩ := Dz.tuple ok2
        have nx : ∀ {Γ1 : List Ent} {v : V} {d : PyData}, Nxt (Ex F Γ1) H1 (Ex F (Γ1 ++ [.iv v d])) H1 := fun {Γ1 v d} => .add (Same.refl H1) fun b hb => by
          rcases hb with z | z
          · exact .inl (.inl z)
          · rcases In.app.mp z with z | z
            · exact .inl (.inr z)
            · exact absurd (In.one.mp z) (by simp [Ent.own])
        have pu := R1.push (e := .iv (.ref a) (.tuple ds)) (o := some (.ref a)) (Same.refl H1) (fun _ z => by cases z) ⟨rfl, Dz.nxt nx _ _ ok1⟩
        have pu2 := pu.1.push (e := .iv (.ref b) (.tuple es)) (o := some (.ref b)) (Same.refl H1) (fun _ z => by cases z) ⟨rfl, Dz.nxt (nx.trans nx) _ _ ok2⟩
        have rd : ∀ (a : Addr) (ds : List PyData) (Γ2 : List Ent) (σ2 : L2.St) (H2 : Hp), Ent.iv (.ref a) (.tuple ds) ∈ Γ2 → Rep F n Γ2 σ2 H2 → ∃ xs, H2 a = some (.tup xs) ∧ DzAll (Ex F Γ2) H2 xs ds := fun a ds Γ2 σ2 H2 g R2 => by
          obtain ⟨k, hk⟩ := List.mem_iff_getElem?.mp g
          obtain ⟨o, _, _, x⟩ := R2.ok k _ hk
          obtain ⟨p', xs, e1, e2, _, e3⟩ := Dz.tuple x
          cases e1
          exact ⟨xs, e2, e3⟩
        have l1 := al.length
        have l2 := al'.length
        refine ⟨a, b, xs, ys, rfl, .inr ⟨sqt_of e, sqt_of e', q _ _ _ _ _ (p (.ref a) (.ref b)) ?_ ((s1.trans pu.2).trans pu2.2) pu2.1⟩⟩
        refine ⟨fun Γ3 σ3 H3 i g R3 hi => ?_, fun Γ3 σ3 H3 g R3 => ?_, fun Γ3 σ3 H3 i x H4 d g R3 hd y => ?_⟩
        · obtain ⟨us, u1, u2⟩ := rd a ds Γ3 σ3 H3 g.1 R3
          obtain ⟨ws, w1, w2⟩ := rd b es Γ3 σ3 H3 g.2 R3
          rw [List.length_map, List.length_zip, ← u2.length, ← w2.length] at hi
          exact (walk_zipT (K := K) rfl).goes i H3 hi ⟨sqt_of u1, sqt_of w1⟩
        · obtain ⟨us, u1, u2⟩ := rd a ds Γ3 σ3 H3 g.1 R3
          obtain ⟨ws, w1, w2⟩ := rd b es Γ3 σ3 H3 g.2 R3
          rw [List.length_map, List.length_zip, ← u2.length, ← w2.length]
          exact (walk_zipT (K := K) rfl).stops H3 ⟨sqt_of u1, sqt_of w1⟩
        · obtain ⟨us, u1, u2⟩ := rd a ds Γ3 σ3 H3 g.1 R3
          obtain ⟨ws, w1, w2⟩ := rd b es Γ3 σ3 H3 g.2 R3
          have hi := (List.getElem?_eq_some_iff.mp hd).1
          rw [List.length_map, List.length_zip, ← u2.length, ← w2.length] at hi
          obtain ⟨T, x1, x2, rfl, nT, rfl, g1, g2⟩ := (walk_zipT (K := K) rfl).yields i H3 x H4 hi ⟨sqt_of u1, sqt_of w1⟩ y
          obtain ⟨d1, f1, f2⟩ := u2.get g1
          obtain ⟨d2, f3, f4⟩ := w2.get g2
          rw [List.getElem?_map, (List.getElem?_zip_eq_some (z := (d1, d2))).mpr ⟨f1, f3⟩] at hd
          cases hd
          have s := same_upd (o := .tup [x1, x2]) nT
          exact ⟨s, .tup upd_same (fun z => R3.exs z nT) (.cons (Dz.nxt (.same s) _ _ f2) (.cons (Dz.nxt (.same s) _ _ f4) .nil))⟩
theorem flt_snoc {α : Type} {p : α → Bool} {xs : List α} {i : Nat} {x : α} (h : xs[i]? = some x) : (xs.take (i + 1)).filter p = (xs.take i).filter p ++ if p x = true then [x] else [] := by
  rw [List.take_succ, h, List.filter_append]
  congr 1
  by_cases hp : p x = true
  · rw [if_pos hp]; simp [hp]
  · rw [if_neg hp]; simp [hp]
/-- a comprehension of values that change nothing -/
theorem ve_lcp {wi : TI} {g : TG} {tt : TT} {vs : List Nat} {tg : PyData → List Ent → List Ent} {P : Val → List Ent → Prop} (hvs : ∀ v ∈ vs, v < n)
    (h : VI F n Γ wi fun ds Good Γ1 => (∀ d ∈ ds, VGc F n g vs d (tg d)) ∧ ds.length ≤ 100000 ∧ ∃ Γw : List Ent, wp Γ1 vs = Γw ∧ (∀ e, Good (Γw ++ [e])) ∧ n ≤ Γw.length ∧ (∀ v ∈ vs, Γw[v]? = some .no) ∧ ∃ (kp : PyData → Bool) (f : PyData → PyData),
      (∀ d ∈ ds, ∀ acc D, VT F n (tg d (Γw ++ [.ls D acc])) tt fun b Γ3 => b = kp d ∧ if b = true then VE F n Γ3 te fun y Γ4 => y = .im (f d) ∧ Γ4[Γw.length]? = some (.ls D acc) ∧ (wp Γ4 vs).take Γw.length = Γw
        else Γ3[Γw.length]? = some (.ls D acc) ∧ (wp Γ3 vs).take Γw.length = Γw) ∧
      ∀ D, P (.vl (.ref D)) (Γw ++ [.ls D ((ds.filter kp).map f)])) : VE F n Γ (tLc wi g tt te vs) P := by
  refine ve_lc (tg := tg) hvs fun σ H Q R q => h σ H Q R fun J ds Good Γ1 H1 ⟨hg, hl, Γw, ew, good, nw, zw, kp, f, step, done⟩ w s R1 => q J ds Good Γ1 H1 ⟨hg, fun k acc Γ2 => Γ2 = Γw ∧ acc = ((ds.take k).filter kp).map f, ⟨ew, rfl⟩, ?_, ?_, ?_⟩ w s R1
  · rintro k acc Γ2 ⟨rfl, rfl⟩
    exact ⟨good, nw, zw⟩
  · rintro k d acc Γ2 D hd ⟨rfl, rfl⟩
    have hin := (List.getElem?_eq_some_iff.mp hd).1
    have ft := flt_snoc (p := kp) hd
    refine (step d (List.mem_of_getElem? hd) _ D).mono fun b Γ3 ⟨hb, r⟩ => ?_
    cases b with
    | true =>
      rw [if_pos rfl] at r ⊢
      refine r.mono fun y Γ4 ⟨hy, h1, h2⟩ => ⟨_, hy, h1, ?_, h2, ?_⟩
      · rw [List.length_map]
        exact Nat.lt_of_le_of_lt (List.length_filter_le ..) (by rw [List.length_take]; omega)
      · rw [ft, ← hb, if_pos rfl, List.map_append]; rfl
    | false =>
      rw [if_neg Bool.false_ne_true] at r ⊢
      refine ⟨r.1, r.2, ?_⟩
      rw [ft, ← hb, if_neg Bool.false_ne_true, List.append_nil]
  · rintro acc Γ2 D ⟨rfl, rfl⟩
    rw [List.take_length]
    exact done D
end
end Vl
namespace Vl
open PySem L2 PyProof.Rows Hw
theorem no1 {Γ : List Ent} {i : Nat} (h : Γ[i]? = some .no) : ∀ v ∈ [i], Γ[v]? = some .no := fun v hv => by rw [List.mem_singleton.mp hv]; exact h
theorem no2 {Γ : List Ent} {i j : Nat} (h : Γ[i]? = some .no) (h2 : Γ[j]? = some .no) : ∀ v ∈ [i, j], Γ[v]? = some .no := fun v hv => by
  rcases List.mem_cons.mp hv with rfl | hv
  · exact h
  · rw [List.mem_singleton.mp hv]; exact h2
end Vl

set_option Elab.async false
set_option linter.all false
set_option maxRecDepth 100000
set_option maxHeartbeats 4000000
namespace Hw
open PySem L2 PyProof.Rows Vl
/-! histories read from any text, as values -/
def smD (d : PyData) : Prop := ∀ z, d = .str z → z.length ≤ sizeLine
def nameS (z : Str) : Bool := decide (z.length ≤ 8) && (Txt.isascii z && (Txt.isalpha z && Txt.islower z))
def nameB : PyData → Bool
  | .str z => nameS z
  | _ => false
theorem ty_str {d : PyData} (h : isTy "str" d = true) : ∃ z, d = .str z := by cases d <;> first | exact ⟨_, rfl⟩ | simp [isTy, kindD] at h
theorem ty_strN {d : PyData} (h : isTy "str" d = false) : ∀ z, d ≠ .str z := by rintro z rfl; simp [isTy, kindD] at h
theorem ty_tup {d : PyData} (h : isTy "tuple" d = true) : ∃ ds, d = .tuple ds := by cases d <;> first | exact ⟨_, rfl⟩ | simp [isTy, kindD] at h
theorem ty_tupN {d : PyData} (h : isTy "tuple" d = false) : ∀ z, d ≠ .tuple z := by rintro z rfl; simp [isTy, kindD] at h
theorem nameB_no {d : PyData} (h : isTy "str" d = false) : nameB d = false := by
  cases d <;> first | rfl | exact absurd rfl (ty_strN h _)
def A_is_name (es : List Ent) (P : Val → List Ent → Prop) : Prop := ∃ d, es = [.im d] ∧ smD d ∧ P (.im (.bool (nameB d))) []
theorem A_is_name_len (es : List Ent) (P : Val → List Ent → Prop) (h : A_is_name es P) : es.length = 1 := by obtain ⟨d, rfl, _⟩ := h; rfl
theorem A_is_name_mono : Mono A_is_name := fun es P P' m ⟨d, e, s, p⟩ => ⟨d, e, s, m _ _ p⟩
def ascL (zs : List Str) : List Bool := (zs.zip (zs.drop 1)).map fun p => decide (p.1.cps.toList < p.2.cps.toList)
def ascB (zs : List Str) : Bool := (ascL zs).all id
def A_ascends (es : List Ent) (P : Val → List Ent → Prop) : Prop := ∃ zs : List Str, es = [.im (.tuple (zs.map PyData.str))] ∧ zs.length ≤ 100000 ∧ P (.im (.bool (ascB zs))) []
theorem A_ascends_len (es : List Ent) (P : Val → List Ent → Prop) (h : A_ascends es P) : es.length = 1 := by obtain ⟨d, rfl, _⟩ := h; rfl
theorem A_ascends_mono : Mono A_ascends := fun es P P' m ⟨d, e, s, p⟩ => ⟨d, e, s, m _ _ p⟩
/-- which names came, and whether they live -/
abbrev Liv := List (Str × Bool)
def livK (kvs : Liv) : List (Key × PyData) := kvs.map fun p => (Sum.inr p.1, .bool p.2)
def lkS (kvs : Liv) (z : Str) : Option Bool := (kvs.find? fun p => decide (p.1 = z)).map (·.2)
theorem lk_livK (kvs : Liv) (z : Str) : lkD (livK kvs) (Sum.inr z) = (lkS kvs z).map PyData.bool := by
  unfold lkD lkS livK
  induction kvs with
  | nil => rfl
  | cons p kvs ih =>
    rw [List.map_cons, List.find?_cons, List.find?_cons]
    by_cases h : p.1 = z
    · rw [decide_eq_true h, decide_eq_true (by rw [h])]; rfl
    · rw [decide_eq_false h, decide_eq_false (fun e => h (Sum.inr.inj e))]; exact ih
def livB (kvs : Liv) : PyData → Bool
  | .str z => (lkS kvs z).getD false
  | _ => false
theorem livB_no {kvs : Liv} {d : PyData} (h : isTy "str" d = false) : livB kvs d = false := by
  cases d <;> first | rfl | exact absurd rfl (ty_strN h _)
def A_is_living (es : List Ent) (P : Val → List Ent → Prop) : Prop := ∃ d r kvs, es = [.im d, .dk r (livK kvs)] ∧ P (.im (.bool (livB kvs d))) [.dk r (livK kvs)]
theorem A_is_living_len (es : List Ent) (P : Val → List Ent → Prop) (h : A_is_living es P) : es.length = 2 := by obtain ⟨d, r, kvs, rfl, _⟩ := h; rfl
theorem A_is_living_mono : Mono A_is_living := fun es P P' m ⟨d, r, k, e, p⟩ => ⟨d, r, k, e, m _ _ p⟩
def strsD : List PyData → List Str
  | .str z :: ds => z :: strsD ds
  | _ :: ds => strsD ds
  | [] => []
def livesB (kvs : Liv) : PyData → Bool
  | .tuple ds => ds.all (livB kvs) && ascB (strsD ds)
  | _ => false
theorem livesB_no {kvs : Liv} {d : PyData} (h : isTy "tuple" d = false) : livesB kvs d = false := by
  cases d <;> first | rfl | exact absurd rfl (ty_tupN h _)
theorem strs_of {kvs : Liv} : ∀ {ds : List PyData}, ds.all (livB kvs) = true → ds = (strsD ds).map PyData.str
  | [], _ => rfl
  | d :: ds, h => by
    rw [List.all_cons, Bool.and_eq_true] at h
    obtain ⟨h1, h2⟩ := h
    cases d with
    | str z => show _ = PyData.str z :: (strsD ds).map PyData.str; rw [← strs_of h2]
    | _ => exact absurd h1 Bool.false_ne_true
def fewT (d : PyData) : Prop := ∀ ds, d = .tuple ds → ds.length ≤ 100000
def A_are_living (es : List Ent) (P : Val → List Ent → Prop) : Prop := ∃ d r kvs, es = [.im d, .dk r (livK kvs)] ∧ fewT d ∧ P (.im (.bool (livesB kvs d))) [.dk r (livK kvs)]
theorem A_are_living_len (es : List Ent) (P : Val → List Ent → Prop) (h : A_are_living es P) : es.length = 2 := by obtain ⟨d, r, kvs, rfl, _⟩ := h; rfl
theorem A_are_living_mono : Mono A_are_living := fun es P P' m ⟨d, r, k, e, f, p⟩ => ⟨d, r, k, e, f, m _ _ p⟩
section
variable {P : Program} {w : World} {K : PySem.W.Frag} {mg : Str → Option Value} {base : Heap}
theorem ok_isnameV {f : Addr} {fd : FuncData} {k : Nat} (F : Fun K "is_name" "is_name" sIsName f fd) (B : Blt mg) (B3 : Blt3 mg) : FnOk P w K mg base CX0 (k + 1) f fd ["value"] (SpV A_is_name) := by
  refine F.ok scIsName (fun vs H Q E h => ?_) (fun cdv A outer s H vs Q E hr h => ?_)
  · exact lenV A_is_name_len h
  obtain ⟨S0, es, Tb, R, hlen, hA⟩ := h
  obtain ⟨t, gL⟩ := B3.lnm
  refine ⟨_, pss_one (ps_ret (pe_and (pe_callB call_isi (by rfl) B3.isi PyProof.Rows.boot_isinstance (pa_cons (pv 0) (pa_cons (pe_bltn (v := .ty "str") (by rfl) B3.str (by decide +kernel) rfl) pa_nil)))
      (pe_and (pe_cmpR op_le (pe_callB call_len_str (by rfl) B.len PySem.boot_len (pa_cons (pv 0) pa_nil)) (pe_glob (v := .int 8) (by rfl) gL ⟨_, rfl⟩) (nomark _))
      (pe_and (pe_m0 PySem.F.slot_str_isascii PySem.F.type_str_isascii mt_isascii (pv 0)) (pe_and (pe_m0 PySem.F.slot_str_isalpha PySem.F.type_str_isalpha mt_isalpha (pv 0)) (pe_one (pe_m0 PySem.F.slot_str_islower PySem.F.type_str_islower mt_islower (pv 0)))))))), ?_⟩
  obtain ⟨d, rfl, sm, post⟩ := hA
  have R : Rep _ 1 [.im d] _ H := rep_start (N := ["value"]) R hlen (le_k rfl)
  refine vs_retV R (fun x outs p => p) ?_
  refine ve_andV (ve_cb (vas_cons (ve_var rfl (by decide) (vas_cons (ve_cV (vas_nil (cb_isi (.inl rfl) ⟨_, rfl, ?_⟩)))))))
  cases hd : isTy "str" d with
  | false =>
    rw [if_neg Bool.false_ne_true]
    rw [nameB_no hd] at post
    exact ⟨[], [], .nil, .nil, post⟩
  | true =>
    rw [if_pos rfl]
    obtain ⟨z, rfl⟩ := ty_str hd
    have fin : ∀ b, nameS z = b → ∀ v H', Rep ⟨S0, H, Vl.In [.im (.str z)], Tb⟩ 0 [] [] H' → Val.ok (Ex ⟨S0, H, Vl.In [.im (.str z)], Tb⟩ []) H' (.im (.bool b)) v → Q v H' := by
      rintro b rfl
      exact post
    unfold nameS at fin
    refine ve_andV (ve_op (ve_cb (vas_cons (ve_var rfl (by decide) (vas_nil (cb_lenS (sm z rfl) (ve_c rfl (o2_i rfl ⟨_, rfl, ?_⟩))))))))
    have e8 : decide ((z.length : Int) ≤ 8) = decide (z.length ≤ 8) := by rw [decide_eq_decide]; omega
    rw [e8]
    cases h8 : decide (z.length ≤ 8) with
    | false =>
      rw [if_neg Bool.false_ne_true]
      exact ⟨[], [], .nil, .nil, fin false (by rw [h8]; rfl)⟩
    | true =>
      rw [if_pos rfl]
      refine ve_andV (ve_m0 (d := .bool (Txt.isascii z)) rfl (ve_var rfl (by decide) ⟨rfl, _, rfl, ?_⟩))
      cases ha : Txt.isascii z with
      | false =>
        rw [if_neg Bool.false_ne_true]
        exact ⟨[], [], .nil, .nil, fin false (by rw [h8, ha]; rfl)⟩
      | true =>
        rw [if_pos rfl]
        refine ve_andV (ve_m0 (d := .bool (Txt.isalpha z)) rfl (ve_var rfl (by decide) ⟨rfl, _, rfl, ?_⟩))
        cases hb : Txt.isalpha z with
        | false =>
          rw [if_neg Bool.false_ne_true]
          exact ⟨[], [], .nil, .nil, fin false (by rw [h8, ha, hb]; rfl)⟩
        | true =>
          rw [if_pos rfl]
          exact ve_m0 (d := .bool (Txt.islower z)) rfl (ve_var rfl (by decide) ⟨rfl, [], [], .nil, .nil, fin _ (by rw [h8, ha, hb]; rfl)⟩)
theorem ok_ascV {f : Addr} {fd : FuncData} {k : Nat} (F : Fun K "ascends" "ascends" sAsc f fd) (B3 : Blt3 mg) : FnOk P w K mg base CX0 (k + 1) f fd ["values"] (SpV A_ascends) := by
  refine F.ok scAsc (fun vs H Q E h => ?_) (fun cdv A outer s H vs Q E hr h => ?_)
  · exact lenV A_ascends_len h
  obtain ⟨S0, es, Tb, R, hlen, hA⟩ := h
  refine ⟨_, pss_one (ps_ret (pe_callB (cr_all rfl) (by rfl) B3.all PyProof.Rows.boot_all (pa_cons (pe_lc (own := [("one", 1), ("other", 2)]) (g := gTup _ 2 (gCons (gName 1) (gCons (gName 2) gNil))) (tt := tYes) rfl scAsc.nd
        (RZ.pi_zipA (by rfl) B3.zip (pa_cons (pv 0) (pa_cons (pe_slice sl_tupA (pv 0) (po_some pe_int) po_none) pa_nil))) (blkOk_by (N := ["values", "one", "other"]) (sc := defScope sAsc) (by decide +kernel))
        (fun _ _ _ _ _ => pg_tup rfl (pgs_cons (pg_name (i := 1) scAsc.nd rfl (Or.inl rfl)) (pgs_cons (pg_name (i := 2) scAsc.nd rfl (Or.inl rfl)) pgs_nil))) (fun _ _ _ _ _ => pts_nil) (fun _ _ _ _ _ => pe_cmpR op_lt_str (pv 1) (pv 2) (nomark _))) pa_nil))), ?_⟩
  obtain ⟨zs, rfl, hl, post⟩ := hA
  have R : Rep _ 3 [.im (.tuple (zs.map PyData.str)), .no, .no] _ H := rep_start (N := ["values", "one", "other"]) R hlen (le_k rfl)
  refine vs_retV R (fun x outs p => p) ?_
  refine ve_cb (vas_cons (ve_lcp (vs := [1, 2]) (tg := fun d Γ => match d with | .tuple [a, b] => (Γ.set 1 (.im a)).set 2 (.im b) | _ => Γ) (by decide) (vi_zipT (vas_cons (ve_var rfl (by decide) (vas_cons (ve_slT (ve_var rfl (by decide) ⟨_, rfl, vo_some (ve_c rfl ⟨1, rfl, vo_no (vas_nil ⟨_, _, rfl, fun v w => ?_⟩)⟩)⟩))))))))
  have ed : Vl.cutD (zs.map PyData.str) (some 1) none = (zs.drop 1).map PyData.str := by
    unfold Vl.cutD
    rw [show HT.sIx (zs.map PyData.str).length 0 (some 1) = min 1 (zs.map PyData.str).length from HT.sIx_nat _ 0 1, HT.sIx_none, List.map_drop]
    cases zs with
    | nil => rfl
    | cons z zs =>
      have e1 : min 1 ((z :: zs).map PyData.str).length = 1 := by rw [List.length_map, List.length_cons]; omega
      rw [e1]
      refine List.take_of_length_le ?_
      rw [List.length_drop]
      exact Nat.le_refl _
  rw [ed]
  have ez : (((zs.map PyData.str).zip ((zs.drop 1).map PyData.str)).map fun z => PyData.tuple [z.1, z.2]) = (zs.zip (zs.drop 1)).map fun p => PyData.tuple [.str p.1, .str p.2] := by
    rw [List.zip_map, List.map_map]; rfl
  rw [ez]
  refine ⟨fun d hd => ?_, ?_, [.im (.tuple (zs.map PyData.str)), .no, .no, .iv v (.tuple (zs.map PyData.str)), .iv w (.tuple ((zs.drop 1).map PyData.str))], rfl, fun e => by simp, le_k rfl, no2 rfl rfl, fun _ => true, fun d => match d with | .tuple [.str a, .str b] => .bool (decide (a.cps.toList < b.cps.toList)) | _ => .none, fun d hd acc D => ?_, fun D => ?_⟩
  · obtain ⟨p, hp, rfl⟩ := List.mem_map.mp hd
    exact vgc_two (by decide) (by decide)
  · rw [List.length_map, List.length_zip]; omega
  · obtain ⟨p, hp, rfl⟩ := List.mem_map.mp hd
    refine vt_yes ⟨rfl, ?_⟩
    rw [if_pos rfl]
    exact ve_op (ve_var rfl (by decide) (ve_var rfl (by decide) (o2_ltS ⟨rfl, rfl, rfl⟩)))
  · refine vas_nil (cb_all (bs := ascL zs) (.own (j := 5) ?_) ⟨[], [], .nil, .nil, post⟩)
    unfold ascL
    rw [List.filter_eq_self.mpr fun _ _ => rfl, List.map_map, List.map_map]; rfl
theorem ok_islivV {f : Addr} {fd : FuncData} {k : Nat} (F : Fun K "is_living" "is_living" sIsLiv f fd) (B3 : Blt3 mg) : FnOk P w K mg base CX0 (k + 1) f fd ["value", "lives"] (SpV A_is_living) := by
  refine F.ok scIsLiv (fun vs H Q E h => ?_) (fun cdv A outer s H vs Q E hr h => ?_)
  · exact lenV A_is_living_len h
  obtain ⟨S0, es, Tb, R, hlen, hA⟩ := h
  have hu := hu_of hr
  refine ⟨_, pss_one (ps_ret (pe_and (pe_callB call_isi (by rfl) B3.isi PyProof.Rows.boot_isinstance (pa_cons (pv 0) (pa_cons (pe_bltn (v := .ty "str") (by rfl) B3.str (by decide +kernel) rfl) pa_nil)))
      (pe_one (pe_dget2 hu (pv 1) (pv 0) pe_bl ⟨rfl, by rfl, by rfl, by rfl⟩)))), ?_⟩
  obtain ⟨d, r, kvs, rfl, post⟩ := hA
  have R : Rep _ 2 [.im d, .dk r (livK kvs)] _ H := rep_start (N := ["value", "lives"]) R hlen (le_k rfl)
  refine vs_retV R (fun x outs p => p) ?_
  refine ve_andV (ve_cb (vas_cons (ve_var rfl (by decide) (vas_cons (ve_cV (vas_nil (cb_isi (.inl rfl) ⟨_, rfl, ?_⟩)))))))
  cases hd : isTy "str" d with
  | false =>
    rw [if_neg Bool.false_ne_true]
    rw [livB_no hd] at post
    exact ⟨[.dk r (livK kvs)], [1], .cons rfl .nil, by simp, post⟩
  | true =>
    rw [if_pos rfl]
    obtain ⟨z, rfl⟩ := ty_str hd
    refine ve_dget2 (ve_varO rfl (by decide) rfl ⟨1, r, _, rfl, rfl, ve_var rfl (by decide) ⟨Sum.inr z, rfl, ve_c rfl ⟨_, rfl, rfl, [.dk r (livK kvs)], [1], .cons rfl .nil, by simp, ?_⟩⟩⟩)
    rw [lk_livK]
    have e : ((lkS kvs z).map PyData.bool).getD (.bool false) = .bool (livB kvs (.str z)) := by
      show _ = PyData.bool ((lkS kvs z).getD false)
      cases lkS kvs z <;> rfl
    rw [e]
    exact post
theorem ok_arelivV {f fI fA : Addr} {fd fdI fdA : FuncData} {k : Nat} (F : Fun K "are_living" "are_living" sAreLiv f fd) (B3 : Blt3 mg)
    (GI : FnOk P w K mg base CX0 k fI fdI ["value", "lives"] (SpV A_is_living)) (gI : mg "is_living" = some (.ref fI)) (kI : PySem.W.keepIn K (.ref fI) = true) (bI : Binds K fdI ["value", "lives"] [])
    (GA : FnOk P w K mg base CX0 k fA fdA ["values"] (SpV A_ascends)) (gA : mg "ascends" = some (.ref fA)) (kA : PySem.W.keepIn K (.ref fA) = true) (bA : Binds K fdA ["values"] []) :
    FnOk P w K mg base CX0 (k + 1) f fd ["value", "lives"] (SpV A_are_living) := by
  refine F.ok scAreLiv (fun vs H Q E h => ?_) (fun cdv A outer s H vs Q E hr h => ?_)
  · exact lenV A_are_living_len h
  obtain ⟨S0, es, Tb, R, hlen, hA⟩ := h
  have hu := hu_of hr
  refine ⟨_, pss_one (ps_ret (pe_and (pe_callB call_isi (by rfl) B3.isi PyProof.Rows.boot_isinstance (pa_cons (pv 0) (pa_cons (pe_bltn (v := .ty "tuple") (by rfl) B3.tuple (by decide +kernel) rfl) pa_nil)))
      (pe_and (pe_callB (cr_all rfl) (by rfl) B3.all PyProof.Rows.boot_all (pa_cons (pe_lc (own := [("name", 2)]) (g := gName 2) (tt := tYes) (te := tCall (SpV A_is_living) [] E0 (tCons (tVar 2) (tCons (tVar 1) tNil))) rfl scAreLiv.nd (pi_tup (pv 0))
          (blkOk_by (N := ["value", "lives", "name"]) (sc := defScope sAreLiv) (by decide +kernel)) (fun _ _ _ _ _ => pg_name (i := 2) scAreLiv.nd rfl (Or.inl rfl)) (fun _ _ _ _ _ => pts_nil)
          (fun _ _ _ _ _ => pe_call GI hr (by rfl) gI kI bI .nil pass0 (pa_cons (pv 2) (pa_cons (pv 1) pa_nil)))) pa_nil))
      (pe_one (pe_call GA hr (by rfl) gA kA bA .nil pass0 (pa_cons (pv 0) pa_nil)))))), ?_⟩
  obtain ⟨d, r, kvs, rfl, few, post⟩ := hA
  have R : Rep _ 3 [.im d, .dk r (livK kvs), .no] _ H := rep_start (N := ["value", "lives", "name"]) R hlen (le_k rfl)
  refine vs_retV R (fun x outs p => p) ?_
  refine ve_andV (ve_cb (vas_cons (ve_var rfl (by decide) (vas_cons (ve_cV (vas_nil (cb_isi (.inr (.inl rfl)) ⟨_, rfl, ?_⟩)))))))
  cases hd : isTy "tuple" d with
  | false =>
    rw [if_neg Bool.false_ne_true]
    rw [livesB_no hd] at post
    exact ⟨[.dk r (livK kvs)], [1], .cons rfl .nil, by simp, post⟩
  | true =>
    rw [if_pos rfl]
    obtain ⟨ds, rfl⟩ := ty_tup hd
    refine ve_andV (ve_cb (vas_cons (ve_lcp (vs := [2]) (tg := fun d Γ => Γ.set 2 (.im d)) (by decide) (vi_tup (ve_var rfl (by decide) ⟨ds, rfl, fun v => ?_⟩)))))
    refine ⟨fun d hd => vgc_name (by decide), few ds rfl, [.im (.tuple ds), .dk r (livK kvs), .no, .iv v (.tuple ds)], rfl, fun e => by simp, le_k rfl, no1 rfl, fun _ => true, fun d => .bool (livB kvs d), fun d hd acc D => ?_, fun D => ?_⟩
    · refine vt_yes ⟨rfl, ?_⟩
      rw [if_pos rfl]
      refine ve_call A_is_living_mono (vas_cons (ve_var rfl (by decide) (vas_cons (ve_varO rfl (by decide) rfl (vas_nil ⟨_, _, .im (.lent (j := 1) rfl rfl .nil), by simp, d, r, kvs, rfl, [.dk r (livK kvs)], [], rfl, .cons ⟨_, rfl, rfl⟩ .nil, rfl, rfl, rfl⟩)))))
    · refine vas_nil (cb_all (bs := ds.map (livB kvs)) (.own (j := 4) (by rw [List.filter_eq_self.mpr fun _ _ => rfl, List.map_map]; rfl)) ⟨_, rfl, ?_⟩)
      have ea : (ds.map (livB kvs)).all id = ds.all (livB kvs) := by rw [List.all_map]; rfl
      rw [ea]
      cases hb : ds.all (livB kvs) with
      | false =>
        rw [if_neg Bool.false_ne_true]
        refine ⟨[.dk r (livK kvs)], [1], .cons rfl .nil, by simp, ?_⟩
        have : livesB kvs (.tuple ds) = false := by show (ds.all (livB kvs) && _) = false; rw [hb]; rfl
        rw [this] at post
        exact post
      | true =>
        rw [if_pos rfl]
        have eds := strs_of hb
        have hl : (strsD ds).length ≤ 100000 := by have := few ds rfl; rw [eds, List.length_map] at this; exact this
        refine ve_call A_ascends_mono (vas_cons (ve_var rfl (by decide) (vas_nil ⟨_, _, .im .nil, by simp, strsD ds, congrArg (fun x => [Ent.im (.tuple x)]) eds, hl, [], [], rfl, .nil, [.dk r (livK kvs)], [1], .cons rfl .nil, by simp, ?_⟩)))
        have : livesB kvs (.tuple ds) = ascB (strsD ds) := by show (ds.all (livB kvs) && _) = _; rw [hb]; rfl
        rw [this] at post
        exact post
end
end Hw

set_option Elab.async false
set_option linter.all false
set_option maxRecDepth 100000
set_option maxHeartbeats 4000000
namespace Hw
open PySem L2 PyProof.Rows Vl
def isS (d : PyData) (z : Str) : Bool := match d with
  | .str y => decide (y = z)
  | _ => false
/-- no list, tuple or dict -/
def flP : PyData → Bool
  | .list _ => false
  | .tuple _ => false
  | .dict _ => false
  | _ => true
theorem o2_eqFS {F : Frm} {n : Nat} {Γ : List Ent} {P : Val → List Ent → Prop} {a : PyData} {b : Str} (h : flP a = true) (p : P (.im (.bool (isS a b))) Γ) : O2 F n rEq (.im a) (.im (.str b)) Γ P := by
  cases a with
  | none => exact o2_eq (v := .non) (w := .str b) rfl rfl rfl p
  | bool c => exact o2_eq (v := .bl c) (w := .str b) rfl rfl rfl p
  | int i => exact o2_eq (v := .int i) (w := .str b) rfl rfl rfl p
  | str z => exact o2_eqS p
  | list _ => exact absurd h Bool.false_ne_true
  | tuple _ => exact absurd h Bool.false_ne_true
  | dict _ => exact absurd h Bool.false_ne_true
def comeB (kvs : Liv) (n t : PyData) : Bool := match n with
  | .str z => nameS z && (!(lkS kvs z).isSome && (decide (kvs.length < 200) && livesB kvs t))
  | _ => false
theorem nameB_str {n : PyData} (h : nameB n = true) : ∃ z, n = .str z := by cases n <;> first | exact ⟨_, rfl⟩ | exact absurd h Bool.false_ne_true
def A_can_come (es : List Ent) (P : Val → List Ent → Prop) : Prop := ∃ n t r kvs, es = [.im n, .im t, .dk r (livK kvs)] ∧ smD n ∧ fewT t ∧ P (.im (.bool (comeB kvs n t))) [.dk r (livK kvs)]
theorem A_can_come_len (es : List Ent) (P : Val → List Ent → Prop) (h : A_can_come es P) : es.length = 3 := by obtain ⟨n, t, r, kvs, rfl, _⟩ := h; rfl
theorem A_can_come_mono : Mono A_can_come := fun es P P' m ⟨n, t, r, k, e, s, f, p⟩ => ⟨n, t, r, k, e, s, f, m _ _ p⟩
/-- what is looked at of a deed -/
structure OkD (ds : List PyData) : Prop where
  few : ds.length ≤ 100000
  sm : ∀ x ∈ ds, smD x ∧ fewT x
  fl : ∀ x, ds[0]? = some x → flP x = true
def standB (kvs : Liv) (m : Nat) : PyData → Bool
  | .tuple [a, n, t] => decide (m < 400) && (isS a sCome && comeB kvs n t)
  | .tuple [a, n] => decide (m < 400) && (isS a sDie && livB kvs n)
  | _ => false
theorem stand_many {kvs : Liv} {m : Nat} (h : ¬ m < 400) (d : PyData) : standB kvs m d = false := by
  unfold standB
  split <;> first | rfl | (rw [decide_eq_false h]; rfl)
theorem stand_no {kvs : Liv} {m : Nat} {d : PyData} (h : isTy "tuple" d = false) : standB kvs m d = false := by
  cases d <;> first | rfl | exact absurd rfl (ty_tupN h _)
theorem stand_len {kvs : Liv} {m : Nat} {ds : List PyData} (h3 : ds.length ≠ 3) (h2 : ds.length ≠ 2) : standB kvs m (.tuple ds) = false := by
  match ds, h3, h2 with
  | [], _, _ => rfl
  | [_], _, _ => rfl
  | [_, _], _, h2 => exact absurd rfl h2
  | [_, _, _], h3, _ => exact absurd rfl h3
  | _ :: _ :: _ :: _ :: _, _, _ => rfl
def A_can_stand (es : List Ent) (P : Val → List Ent → Prop) : Prop := ∃ d r kvs, ∃ m : Nat, es = [.im d, .dk r (livK kvs), .im (.int m)] ∧ (∀ ds, d = .tuple ds → OkD ds) ∧ P (.im (.bool (standB kvs m d))) [.dk r (livK kvs)]
theorem A_can_stand_len (es : List Ent) (P : Val → List Ent → Prop) (h : A_can_stand es P) : es.length = 3 := by obtain ⟨d, r, kvs, m, rfl, _⟩ := h; rfl
theorem A_can_stand_mono : Mono A_can_stand := fun es P P' m ⟨n, t, r, k, e, s, p⟩ => ⟨n, t, r, k, e, s, m _ _ p⟩
theorem kvs_len (kvs : Liv) : (livK kvs).length = kvs.length := List.length_map _
def deedW (ws : List Str) : PyData := match ws with
  | w0 :: w1 :: rest => if w0 = sCome then .tuple [.str sCome, .str w1, .tuple (rest.map PyData.str)] else .tuple (ws.map PyData.str)
  | _ => .tuple (ws.map PyData.str)
def A_read_deed (es : List Ent) (P : Val → List Ent → Prop) : Prop := ∃ z, es = [.im (.str z)] ∧ z.length + 2 ≤ sizeLine ∧ (Txt.split z sBl).length ≤ 100000 ∧ Txt.split z sBl ≠ [] ∧ P (.im (deedW (Txt.split z sBl))) []
theorem A_read_deed_len (es : List Ent) (P : Val → List Ent → Prop) (h : A_read_deed es P) : es.length = 1 := by obtain ⟨z, rfl, _⟩ := h; rfl
theorem A_read_deed_mono : Mono A_read_deed := fun es P P' m ⟨z, e, a, b, c, p⟩ => ⟨z, e, a, b, c, m _ _ p⟩
def putS (kvs : Liv) (z : Str) (b : Bool) : Liv := if (kvs.any fun p => decide (p.1 = z)) = true then kvs.map (fun p => if p.1 = z then (p.1, b) else p) else kvs ++ [(z, b)]
theorem pt_livK (kvs : Liv) (z : Str) (b : Bool) : ptD (livK kvs) (Sum.inr z) (.bool b) = livK (putS kvs z b) := by
  unfold ptD putS
  have e : ((livK kvs).any fun kv => decide (kv.1 = (Sum.inr z : Key))) = kvs.any fun p => decide (p.1 = z) := by
    unfold livK
    rw [List.any_map]
    congr 1
    funext p
    show decide ((Sum.inr p.1 : Key) = Sum.inr z) = _
    rw [decide_eq_decide]
    exact ⟨Sum.inr.inj, fun h => by rw [h]⟩
  rw [e]
  by_cases h : (kvs.any fun p => decide (p.1 = z)) = true
  · rw [if_pos h, if_pos h]
    unfold livK
    rw [List.map_map, List.map_map]
    refine List.map_congr_left fun p _ => ?_
    show (if (Sum.inr p.1 : Key) = Sum.inr z then ((Sum.inr p.1 : Key), PyData.bool b) else _) = _
    by_cases hp : p.1 = z
    · rw [if_pos (by rw [hp]), Function.comp, if_pos hp]
    · rw [if_neg (fun q => hp (Sum.inr.inj q)), Function.comp, if_neg hp]
  · rw [if_neg h, if_neg h]
    unfold livK
    rw [List.map_append]; rfl
def nameD : PyData → Str
  | .tuple (_ :: .str z :: _) => z
  | _ => Str.ofString ""
def comD : PyData → Bool
  | .tuple (a :: _) => isS a sCome
  | _ => false
def GoodD (d : PyData) : Prop := ∃ a z rest, d = .tuple (.str a :: .str z :: rest)
def livesF (ds : List PyData) : Liv := ds.foldl (fun kvs d => putS kvs (nameD d) (comD d)) []
theorem livesF_snoc (ds : List PyData) (d : PyData) : livesF (ds ++ [d]) = putS (livesF ds) (nameD d) (comD d) := by
  unfold livesF
  rw [List.foldl_append]; rfl
theorem putS_len (kvs : Liv) (z : Str) (b : Bool) : (putS kvs z b).length ≤ kvs.length + 1 := by
  unfold putS
  split
  · rw [List.length_map]; omega
  · rw [List.length_append]; exact Nat.le_refl _
theorem fold_len : ∀ (ds : List PyData) (kvs : Liv), (ds.foldl (fun kvs d => putS kvs (nameD d) (comD d)) kvs).length ≤ kvs.length + ds.length
  | [], kvs => Nat.le_refl _
  | d :: ds, kvs => by
    have h1 := fold_len ds (putS kvs (nameD d) (comD d))
    have h2 := putS_len kvs (nameD d) (comD d)
    rw [List.foldl_cons, List.length_cons]
    omega
theorem livesF_len (ds : List PyData) : (livesF ds).length ≤ ds.length := by
  have := fold_len ds []
  rwa [List.length_nil, Nat.zero_add] at this
def A_lives_behind (es : List Ent) (P : Val → List Ent → Prop) : Prop := ∃ ds, es = [.im (.tuple ds)] ∧ (∀ d ∈ ds, GoodD d) ∧ ds.length < 100000 ∧ ∀ r, P (.vl (.ref r)) [.dk r (livK (livesF ds))]
theorem A_lives_behind_len (es : List Ent) (P : Val → List Ent → Prop) (h : A_lives_behind es P) : es.length = 1 := by obtain ⟨z, rfl, _⟩ := h; rfl
theorem A_lives_behind_mono : Mono A_lives_behind := fun es P P' m ⟨z, e, a, b, p⟩ => ⟨z, e, a, b, fun r => m _ _ (p r)⟩
section
variable {P : Program} {w : World} {K : PySem.W.Frag} {mg : Str → Option Value} {base : Heap}
theorem ok_cancomeV {f fN fA : Addr} {fd fdN fdA : FuncData} {k : Nat} (F : Fun K "can_come" "can_come" sCanCome f fd) (B : Blt mg) (B3 : Blt3 mg)
    (GN : FnOk P w K mg base CX0 k fN fdN ["value"] (SpV A_is_name)) (gN : mg "is_name" = some (.ref fN)) (kN : PySem.W.keepIn K (.ref fN) = true) (bN : Binds K fdN ["value"] [])
    (GA : FnOk P w K mg base CX0 k fA fdA ["value", "lives"] (SpV A_are_living)) (gA : mg "are_living" = some (.ref fA)) (kA : PySem.W.keepIn K (.ref fA) = true) (bA : Binds K fdA ["value", "lives"] []) :
    FnOk P w K mg base CX0 (k + 1) f fd ["name", "ties", "lives"] (SpV A_can_come) := by
  refine F.ok scCanCome (fun vs H Q E h => ?_) (fun cdv A outer s H vs Q E hr h => ?_)
  · exact lenV A_can_come_len h
  obtain ⟨S0, es, Tb, R, hlen, hA⟩ := h
  have hu := hu_of hr
  obtain ⟨tk, gL⟩ := B3.mst
  refine ⟨_, pss_cons (ps_if (PW.pt (pw_or (pt_not (pt_val (pe_call GN hr (by rfl) gN kN bN .nil pass0 (pa_cons (pv 0) pa_nil)))) (pw_or (pt_cmp (pc_din hu (pv 0) (pv 2))) (pw_or1 (pt_cmpR op_ge (pe_callB call_lenD (by rfl) B.len PySem.boot_len (pa_cons (pv 2) pa_nil)) (pe_glob (v := .int 200) (by rfl) gL ⟨_, rfl⟩) (nomark _)))))) (pss_one (ps_ret pe_bl)) pss_nil)
      (pss_one (ps_ret (pe_call GA hr (by rfl) gA kA bA .nil pass0 (pa_cons (pv 1) (pa_cons (pv 2) pa_nil))))), ?_⟩
  obtain ⟨n, t, r, kvs, rfl, sm, few, post⟩ := hA
  have R : Rep _ 3 [.im n, .im t, .dk r (livK kvs)] _ H := rep_start (N := ["name", "ties", "lives"]) R hlen (le_k rfl)
  have no : ∀ H1 : Hp, comeB kvs n t = false → Rep ⟨S0, H, Vl.In [.im n, .im t, .dk r (livK kvs)], Tb⟩ 3 [.im n, .im t, .dk r (livK kvs)] (L2.start ["name", "ties", "lives"] vs) H1 → tRet (tC (.bl false)) { nx := fun _ H' => Q .non H', rt := Q } (L2.start ["name", "ties", "lives"] vs) H1 := fun H1 e R1 => by
    rw [e] at post
    exact vs_retV R1 (fun x outs p => p) (ve_c rfl ⟨[.dk r (livK kvs)], [2], .cons rfl .nil, by simp, post⟩)
  refine vs_if R (vt_or (vt_not (vt_b (ve_call A_is_name_mono (vas_cons (ve_var rfl (by decide) (vas_nil ⟨_, _, .im .nil, by simp, n, rfl, sm, [], [], rfl, .nil, _, rfl, ?_⟩)))))))
  cases hn : nameB n with
  | false =>
    show if true = true then _ else _
    rw [if_pos rfl]
    intro H1 R1
    rw [if_pos rfl]
    refine no H1 ?_ R1
    cases n <;> first | rfl | (show (nameS _ && _) = false; rw [show nameS _ = false from hn]; rfl)
  | true =>
    obtain ⟨z, rfl⟩ := nameB_str hn
    show if false = true then _ else _
    rw [if_neg Bool.false_ne_true]
    refine vt_or (vt_test (ve_din (ve_var rfl (by decide) (ve_varO rfl (by decide) rfl ⟨2, r, _, Sum.inr z, rfl, rfl, rfl, _, rfl, ?_⟩))))
    rw [lk_livK]
    have e1 : ((lkS kvs z).map PyData.bool).isSome = (lkS kvs z).isSome := by cases lkS kvs z <;> rfl
    rw [e1]
    cases hi : (lkS kvs z).isSome with
    | true =>
      rw [if_pos rfl]
      intro H1 R1
      rw [if_pos rfl]
      exact no H1 (by show (nameS z && (!(lkS kvs z).isSome && _)) = false; rw [hi, Bool.not_true, Bool.false_and, Bool.and_false]) R1
    | false =>
      rw [if_neg Bool.false_ne_true]
      refine vt_test (ve_op (ve_cb (vas_cons (ve_varO rfl (by decide) rfl (vas_nil (cb_lenD (j := 2) rfl (ve_c rfl (o2_i rfl ⟨_, rfl, ?_⟩))))))))
      rw [kvs_len]
      by_cases h200 : kvs.length < 200
      · rw [decide_eq_false (by omega : ¬ ((kvs.length : Int) ≥ 200))]
        intro H1 R1
        rw [if_neg Bool.false_ne_true]
        refine vs_retV R1 (fun x outs p => p) (ve_call A_are_living_mono (vas_cons (ve_var rfl (by decide) (vas_cons (ve_varO rfl (by decide) rfl (vas_nil ⟨_, _, .im (.lent (j := 2) rfl rfl .nil), by simp, t, r, kvs, rfl, few, [.dk r (livK kvs)], [], rfl, .cons ⟨_, rfl, rfl⟩ .nil, [.dk r (livK kvs)], [2], .cons rfl .nil, by simp, ?_⟩))))))
        have : comeB kvs (.str z) t = livesB kvs t := by
          show (nameS z && (!(lkS kvs z).isSome && (decide (kvs.length < 200) && livesB kvs t))) = _
          rw [show nameS z = true from hn, hi, decide_eq_true h200]; rfl
        rw [this] at post
        exact post
      · rw [decide_eq_true (by omega : ((kvs.length : Int) ≥ 200))]
        intro H1 R1
        rw [if_pos rfl]
        exact no H1 (by show (nameS z && (!(lkS kvs z).isSome && (decide (kvs.length < 200) && _))) = false; rw [decide_eq_false h200, Bool.false_and, Bool.and_false, Bool.and_false]) R1
theorem ok_canstandV {f fC fI : Addr} {fd fdC fdI : FuncData} {k : Nat} (F : Fun K "can_stand" "can_stand" sCanStand f fd) (B : Blt mg) (B3 : Blt3 mg) (hM : ∃ t, mg "MOST_DEEDS" = some (.int 400 t))
    (GC : FnOk P w K mg base CX0 k fC fdC ["name", "ties", "lives"] (SpV A_can_come)) (gC : mg "can_come" = some (.ref fC)) (kC : PySem.W.keepIn K (.ref fC) = true) (bC : Binds K fdC ["name", "ties", "lives"] [])
    (GI : FnOk P w K mg base CX0 k fI fdI ["value", "lives"] (SpV A_is_living)) (gI : mg "is_living" = some (.ref fI)) (kI : PySem.W.keepIn K (.ref fI) = true) (bI : Binds K fdI ["value", "lives"] []) :
    FnOk P w K mg base CX0 (k + 1) f fd ["value", "lives", "many"] (SpV A_can_stand) := by
  refine F.ok scCanStand (fun vs H Q E h => ?_) (fun cdv A outer s H vs Q E hr h => ?_)
  · exact lenV A_can_stand_len h
  obtain ⟨S0, es, Tb, R, hlen, hA⟩ := h
  obtain ⟨tk, gL⟩ := hM
  refine ⟨_, pss_cons (ps_if (PW.pt (pw_or (pt_cmpR op_ge (pv 2) (pe_glob (v := .int 400) (by rfl) gL ⟨_, rfl⟩) (nomark _)) (pw_or1 (pt_not (pt_val (pe_callB call_isi (by rfl) B3.isi PyProof.Rows.boot_isinstance (pa_cons (pv 0) (pa_cons (pe_bltn (v := .ty "tuple") (by rfl) B3.tuple (by decide +kernel) rfl) pa_nil)))))))) (pss_one (ps_ret pe_bl)) pss_nil)
      (pss_cons (ps_if (PW.pt (pw_and (pt_cmpR op_eq (pe_callB call_len_seq (by rfl) B.len PySem.boot_len (pa_cons (pv 0) pa_nil)) pe_int (nomark _)) (pw_and1 (pt_cmpR op_eq (pe_ix ix_tup (pv 0) pe_int (fun _ _ => rfl)) pe_str (nomark _))))) (pss_one (ps_ret (pe_call GC hr (by rfl) gC kC bC .nil pass0 (pa_cons (pe_ix ix_tup (pv 0) pe_int (fun _ _ => rfl)) (pa_cons (pe_ix ix_tup (pv 0) pe_int (fun _ _ => rfl)) (pa_cons (pv 1) pa_nil)))))) pss_nil)
      (pss_cons (ps_if (PW.pt (pw_and (pt_cmpR op_eq (pe_callB call_len_seq (by rfl) B.len PySem.boot_len (pa_cons (pv 0) pa_nil)) pe_int (nomark _)) (pw_and1 (pt_cmpR op_eq (pe_ix ix_tup (pv 0) pe_int (fun _ _ => rfl)) pe_str (nomark _))))) (pss_one (ps_ret (pe_call GI hr (by rfl) gI kI bI .nil pass0 (pa_cons (pe_ix ix_tup (pv 0) pe_int (fun _ _ => rfl)) (pa_cons (pv 1) pa_nil))))) pss_nil)
      (pss_one (ps_ret pe_bl)))), ?_⟩
  obtain ⟨d, r, kvs, m, rfl, ok, post⟩ := hA
  have R : Rep _ 3 [.im d, .dk r (livK kvs), .im (.int m)] _ H := rep_start (N := ["value", "lives", "many"]) R hlen (le_k rfl)
  have no : ∀ (D : Ends) (H1 : Hp), D.rt = Q → standB kvs m d = false → Rep ⟨S0, H, Vl.In [.im d, .dk r (livK kvs), .im (.int m)], Tb⟩ 3 [.im d, .dk r (livK kvs), .im (.int m)] (L2.start ["value", "lives", "many"] vs) H1 → tRet (tC (.bl false)) D (L2.start ["value", "lives", "many"] vs) H1 := fun D H1 eD e R1 => by
    rw [e] at post
    exact vs_retV R1 (fun x outs p => eD ▸ p) (ve_c rfl ⟨[.dk r (livK kvs)], [1], .cons rfl .nil, by simp, post⟩)
  refine vs_if R (vt_or (vt_test (ve_op (ve_var rfl (by decide) (ve_c rfl (o2_i rfl ⟨_, rfl, ?_⟩))))))
  by_cases hm : m < 400
  · rw [decide_eq_false (by omega : ¬ ((m : Int) ≥ 400))]
    rw [if_neg Bool.false_ne_true]
    refine vt_not (vt_b (ve_cb (vas_cons (ve_var rfl (by decide) (vas_cons (ve_cV (vas_nil (cb_isi (.inr (.inl rfl)) ⟨_, rfl, ?_⟩))))))))
    cases hd : isTy "tuple" d with
    | false =>
      intro H1 R1
      show if true = true then _ else _
      rw [if_pos rfl]
      exact no _ H1 rfl (stand_no hd) R1
    | true =>
      obtain ⟨ds, rfl⟩ := ty_tup hd
      have ok := ok ds rfl
      intro H1 R1
      show if false = true then _ else _
      rw [if_neg Bool.false_ne_true]
      match ds, ok, post, R1, no with
      | [a, x, t], ok, post, R1, no =>
        have sx := ok.sm x (by simp)
        have st := ok.sm t (by simp)
        refine vs_if R1 (vt_and (vt_test (ve_op (ve_cb (vas_cons (ve_var rfl (by decide) (vas_nil (cb_len (.tup _) (ve_c rfl (o2_eqI ⟨_, rfl, ?_⟩))))))))))
        rw [decide_eq_true (show ((([a, x, t] : List PyData).length : Nat) : Int) = 3 from rfl), if_pos rfl]
        refine vt_test (ve_op (ve_op (ve_var rfl (by decide) (ve_c rfl (o2_ixT (atI_nat (j := 0) rfl) (ve_c rfl (o2_eqFS (ok.fl a rfl) ⟨_, rfl, fun H2 R2 => ?_⟩)))))))
        have es : standB kvs m (.tuple [a, x, t]) = (isS a (Str.ofString "come") && comeB kvs x t) := by
          show (decide (m < 400) && _) = _
          rw [decide_eq_true hm]; rfl
        cases hs : isS a (Str.ofString "come") with
        | true =>
          rw [hs] at es
          rw [if_pos rfl]
          refine vs_retV R2 (fun x outs p => p) (ve_call A_can_come_mono (vas_cons (ve_op (ve_var rfl (by decide) (ve_c rfl (o2_ixT (atI_nat (j := 1) rfl) ?_))))))
          refine vas_cons (ve_op (ve_var rfl (by decide) (ve_c rfl (o2_ixT (atI_nat (j := 2) rfl) ?_))))
          refine vas_cons (ve_varO rfl (by decide) rfl (vas_nil ⟨_, _, .im (.im (.lent (j := 1) rfl rfl .nil)), by simp, x, t, r, kvs, rfl, sx.1, st.2, [.dk r (livK kvs)], [], rfl, .cons ⟨_, rfl, rfl⟩ .nil, [.dk r (livK kvs)], [1], .cons rfl .nil, by simp, ?_⟩))
          rw [es] at post
          exact post
        | false =>
          rw [hs] at es
          rw [if_neg Bool.false_ne_true]
          refine vs_if R2 (vt_and (vt_test (ve_op (ve_cb (vas_cons (ve_var rfl (by decide) (vas_nil (cb_len (.tup _) (ve_c rfl (o2_eqI ⟨_, rfl, ?_⟩))))))))))
          rw [decide_eq_false (show ¬ ((([a, x, t] : List PyData).length : Nat) : Int) = 2 from fun z => by cases z), if_neg Bool.false_ne_true]
          intro H3 R3
          rw [if_neg Bool.false_ne_true]
          exact no { nx := fun _ H' => Q .non H', rt := Q } H3 rfl es R3
      | [a, x], ok, post, R1, no =>
        refine vs_if R1 (vt_and (vt_test (ve_op (ve_cb (vas_cons (ve_var rfl (by decide) (vas_nil (cb_len (.tup _) (ve_c rfl (o2_eqI ⟨_, rfl, ?_⟩))))))))))
        rw [decide_eq_false (show ¬ ((([a, x] : List PyData).length : Nat) : Int) = 3 from fun z => by cases z), if_neg Bool.false_ne_true]
        intro H2 R2
        rw [if_neg Bool.false_ne_true]
        refine vs_if R2 (vt_and (vt_test (ve_op (ve_cb (vas_cons (ve_var rfl (by decide) (vas_nil (cb_len (.tup _) (ve_c rfl (o2_eqI ⟨_, rfl, ?_⟩))))))))))
        rw [decide_eq_true (show ((([a, x] : List PyData).length : Nat) : Int) = 2 from rfl), if_pos rfl]
        refine vt_test (ve_op (ve_op (ve_var rfl (by decide) (ve_c rfl (o2_ixT (atI_nat (j := 0) rfl) (ve_c rfl (o2_eqFS (ok.fl a rfl) ⟨_, rfl, fun H3 R3 => ?_⟩)))))))
        have es : standB kvs m (.tuple [a, x]) = (isS a (Str.ofString "die") && livB kvs x) := by
          show (decide (m < 400) && _) = _
          rw [decide_eq_true hm]; rfl
        cases hs : isS a (Str.ofString "die") with
        | true =>
          rw [hs] at es
          rw [if_pos rfl]
          refine vs_retV R3 (fun x outs p => p) (ve_call A_is_living_mono (vas_cons (ve_op (ve_var rfl (by decide) (ve_c rfl (o2_ixT (atI_nat (j := 1) rfl) ?_))))))
          refine vas_cons (ve_varO rfl (by decide) rfl (vas_nil ⟨_, _, .im (.lent (j := 1) rfl rfl .nil), by simp, x, r, kvs, rfl, [.dk r (livK kvs)], [], rfl, .cons ⟨_, rfl, rfl⟩ .nil, [.dk r (livK kvs)], [1], .cons rfl .nil, by simp, ?_⟩))
          rw [es] at post
          exact post
        | false =>
          rw [hs] at es
          rw [if_neg Bool.false_ne_true]
          exact no { nx := fun _ H' => Q .non H', rt := Q } H3 rfl es R3
      | [], ok, post, R1, no => 
        refine vs_if R1 (vt_and (vt_test (ve_op (ve_cb (vas_cons (ve_var rfl (by decide) (vas_nil (cb_len (.tup _) (ve_c rfl (o2_eqI ⟨_, rfl, ?_⟩))))))))))
        rw [decide_eq_false (fun z => by simp only [List.length_cons, List.length_nil] at z; omega), if_neg Bool.false_ne_true]
        intro H2 R2
        rw [if_neg Bool.false_ne_true]
        refine vs_if R2 (vt_and (vt_test (ve_op (ve_cb (vas_cons (ve_var rfl (by decide) (vas_nil (cb_len (.tup _) (ve_c rfl (o2_eqI ⟨_, rfl, ?_⟩))))))))))
        rw [decide_eq_false (fun z => by simp only [List.length_cons, List.length_nil] at z; omega), if_neg Bool.false_ne_true]
        intro H3 R3
        rw [if_neg Bool.false_ne_true]
        exact no { nx := fun _ H' => Q .non H', rt := Q } H3 rfl rfl R3
      | [_], ok, post, R1, no => 
        refine vs_if R1 (vt_and (vt_test (ve_op (ve_cb (vas_cons (ve_var rfl (by decide) (vas_nil (cb_len (.tup _) (ve_c rfl (o2_eqI ⟨_, rfl, ?_⟩))))))))))
        rw [decide_eq_false (fun z => by simp only [List.length_cons, List.length_nil] at z; omega), if_neg Bool.false_ne_true]
        intro H2 R2
        rw [if_neg Bool.false_ne_true]
        refine vs_if R2 (vt_and (vt_test (ve_op (ve_cb (vas_cons (ve_var rfl (by decide) (vas_nil (cb_len (.tup _) (ve_c rfl (o2_eqI ⟨_, rfl, ?_⟩))))))))))
        rw [decide_eq_false (fun z => by simp only [List.length_cons, List.length_nil] at z; omega), if_neg Bool.false_ne_true]
        intro H3 R3
        rw [if_neg Bool.false_ne_true]
        exact no { nx := fun _ H' => Q .non H', rt := Q } H3 rfl rfl R3
      | _ :: _ :: _ :: _ :: _, ok, post, R1, no => 
        refine vs_if R1 (vt_and (vt_test (ve_op (ve_cb (vas_cons (ve_var rfl (by decide) (vas_nil (cb_len (.tup _) (ve_c rfl (o2_eqI ⟨_, rfl, ?_⟩))))))))))
        rw [decide_eq_false (fun z => by simp only [List.length_cons, List.length_nil] at z; omega), if_neg Bool.false_ne_true]
        intro H2 R2
        rw [if_neg Bool.false_ne_true]
        refine vs_if R2 (vt_and (vt_test (ve_op (ve_cb (vas_cons (ve_var rfl (by decide) (vas_nil (cb_len (.tup _) (ve_c rfl (o2_eqI ⟨_, rfl, ?_⟩))))))))))
        rw [decide_eq_false (fun z => by simp only [List.length_cons, List.length_nil] at z; omega), if_neg Bool.false_ne_true]
        intro H3 R3
        rw [if_neg Bool.false_ne_true]
        exact no { nx := fun _ H' => Q .non H', rt := Q } H3 rfl rfl R3
  · rw [decide_eq_true (by omega : ((m : Int) ≥ 400))]
    rw [if_pos rfl]
    intro H1 R1
    rw [if_pos rfl]
    exact no _ H1 rfl (stand_many hm _) R1
theorem ok_readd1V {f : Addr} {fd : FuncData} {k : Nat} (F : Fun K "read_deed" "read_deed" sReadD1 f fd) (B : Blt mg) (B3 : Blt3 mg) : FnOk P w K mg base CX0 (k + 1) f fd ["line"] (SpV A_read_deed) := by
  refine F.ok scReadD1 (fun vs H Q E h => ?_) (fun cdv A outer s H vs Q E hr h => ?_)
  · exact lenV A_read_deed_len h
  obtain ⟨S0, es, Tb, R, hlen, hA⟩ := h
  refine ⟨_, pss_cons (ps_set (i := 1) scReadD1.nd rfl (.inl rfl) (pe_split (pv 0) pe_str))
      (pss_cons (ps_if (PW.pt (pw_and (pt_cmpR op_eq (pe_ix ix_list (pv 1) pe_int (fun _ _ => rfl)) pe_str (nomark _)) (pw_and1 (pt_cmpR op_gt (pe_callB call_len_seq (by rfl) B.len PySem.boot_len (pa_cons (pv 1) pa_nil)) pe_int (nomark _)))))
        (pss_one (ps_ret (pe_tup (pa_cons pe_str (pa_cons (pe_ix ix_list (pv 1) pe_int (fun _ _ => rfl)) (pa_cons (pe_callTy call_tuple_of (by rfl) B3.tuple PyProof.Rows.boot_tuple (pa_cons (pe_slice sl_list (pv 1) (po_some pe_int) po_none) pa_nil)) pa_nil)))))) pss_nil)
      (pss_one (ps_ret (pe_callTy call_tuple_of (by rfl) B3.tuple PyProof.Rows.boot_tuple (pa_cons (pv 1) pa_nil))))), ?_⟩
  obtain ⟨z, rfl, hz, hl, hne, post⟩ := hA
  have R : Rep _ 2 [.im (.str z), .no] _ H := rep_start (N := ["line", "words"]) R hlen (le_k rfl)
  refine vs_setO R (by decide) (ve_split (ve_var rfl (by decide) ⟨z, rfl, ve_c rfl ⟨sBl, rfl, by decide +kernel, hz, fun t => ⟨_, 2, _, rfl, le_k rfl, rfl, rfl, fun σ1 H1 R1 => ?_⟩⟩⟩))
  generalize (Txt.split z sBl) = ws at hl hne post R1
  have R1 : Rep _ 2 [.im (.str z), .ls t (ws.map PyData.str)] σ1 H1 := R1
  cases ws with
  | nil => exact absurd rfl hne
  | cons w0 ws =>
    have lst : ∀ (D : Ends) (H2 : Hp), D.rt = Q → deedW (w0 :: ws) = .tuple ((w0 :: ws).map PyData.str) → Rep ⟨S0, H, Vl.In [.im (.str z)], Tb⟩ 2 [.im (.str z), .ls t ((w0 :: ws).map PyData.str)] σ1 H2 → tRet (tCB _ (tCons (tVar 1) tNil)) D σ1 H2 := fun D H2 eD e R2 => by
      rw [e] at post
      exact vs_retV R2 (fun x outs p => eD ▸ p) (ve_cb (vas_cons (ve_varO rfl (by decide) rfl (vas_nil (cb_tuple (K := K) (.own (j := 1) rfl) (fun z => Bool.noConfusion z) ⟨[], [], .nil, .nil, post⟩)))))
    refine vs_if R1 (vt_and (vt_test (ve_op (ve_op (ve_varO rfl (by decide) rfl (ve_c rfl (o2_ixL (.own (j := 1) rfl) (atI_nat (j := 0) rfl) (ve_c rfl (o2_eqS ⟨_, rfl, ?_⟩)))))))))
    by_cases h0 : w0 = sCome
    · rw [decide_eq_true (show w0 = Str.ofString "come" from h0), if_pos rfl]
      refine vt_test (ve_op (ve_cb (vas_cons (ve_varO rfl (by decide) rfl (vas_nil (cb_len (.own (j := 1) rfl) (ve_c rfl (o2_i rfl ⟨_, rfl, ?_⟩))))))))
      cases ws with
      | nil =>
        intro H2 R2
        exact lst _ H2 rfl rfl R2
      | cons w1 rest =>
        have e1 : decide ((((w0 :: w1 :: rest).map PyData.str).length : Int) > 1) = true := decide_eq_true (by rw [List.length_map, List.length_cons, List.length_cons]; omega)
        rw [e1]
        intro H2 R2
        rw [if_pos rfl]
        have R2 : Rep _ 2 [.im (.str z), .ls t ((w0 :: w1 :: rest).map PyData.str)] σ1 H2 := R2
        refine vs_retV R2 (fun x outs p => p) (ve_tup (vai_cons (ve_c rfl ⟨_, rfl, vai_cons (ve_op (ve_varO rfl (by decide) rfl (ve_c rfl (o2_ixL (.own (j := 1) rfl) (atI_nat (j := 1) rfl) ⟨_, rfl, vai_cons (ve_cb (vas_cons (ve_slL (ve_varO rfl (by decide) rfl ⟨_, vo_some (ve_c rfl ⟨2, rfl, vo_no ⟨.own (j := 1) rfl, fun t2 => ?_⟩⟩)⟩))))⟩))))⟩)))
        refine vas_nil (cb_tuple (.own (j := 2) rfl) (fun z => Bool.noConfusion z) ⟨_, rfl, vai_nil ⟨le_k rfl, [], [], .nil, .nil, ?_⟩⟩)
        have ec : Vl.cutD ((w0 :: w1 :: rest).map PyData.str) (some 2) none = rest.map PyData.str := by
          unfold Vl.cutD
          rw [show HT.sIx ((w0 :: w1 :: rest).map PyData.str).length 0 (some 2) = min 2 ((w0 :: w1 :: rest).map PyData.str).length from HT.sIx_nat _ 0 2, HT.sIx_none]
          have e1 : min 2 ((w0 :: w1 :: rest).map PyData.str).length = 2 := by rw [List.length_map, List.length_cons, List.length_cons]; omega
          rw [e1]
          refine List.take_of_length_le ?_
          rw [List.length_drop]
          exact Nat.le_refl _
        rw [ec]
        have : deedW (w0 :: w1 :: rest) = .tuple [.str sCome, .str w1, .tuple (rest.map PyData.str)] := by
          show (if w0 = sCome then _ else _) = _
          rw [if_pos h0]
        rw [this] at post
        exact post
    · rw [decide_eq_false (show ¬ w0 = Str.ofString "come" from h0), if_neg Bool.false_ne_true]
      intro H2 R2
      refine lst _ H2 rfl ?_ R2
      cases ws with
      | nil => rfl
      | cons w1 rest => show (if w0 = sCome then _ else _) = _; rw [if_neg h0]
theorem ok_livesbV {f : Addr} {fd : FuncData} {k : Nat} (F : Fun K "lives_behind" "lives_behind" sLivesB f fd) : FnOk P w K mg base CX0 (k + 1) f fd ["deeds"] (SpV A_lives_behind) := by
  refine F.ok scLivesB (fun vs H Q E h => ?_) (fun cdv A outer s H vs Q E hr h => ?_)
  · exact lenV A_lives_behind_len h
  obtain ⟨S0, es, Tb, R, hlen, hA⟩ := h
  have hu := hu_of hr
  refine ⟨_, pss_cons (ps_set (i := 1) scLivesB.nd rfl (.inl rfl) pe_dnewK)
      (pss_cons (ps_for PassesOwn.never rfl (pi_tup (pv 0)) (pg_name (i := 2) scLivesB.nd rfl (.inl rfl))
        (pss_one (ps_dput hu (pv 1) (pe_ix ix_tup (pv 2) pe_int (fun _ _ => rfl)) (pe_cmpR op_eq (pe_ix ix_tup (pv 2) pe_int (fun _ _ => rfl)) pe_str (nomark _)) rfl)))
      (pss_one (ps_ret (pv 1)))), ?_⟩
  obtain ⟨ds, rfl, good, hl, post⟩ := hA
  have R : Rep _ 3 [.im (.tuple ds), .no, .no] _ H := rep_start (N := ["deeds", "lives", "deed"]) R hlen (le_k rfl)
  refine vs_setO R (by decide) (ve_dnew fun t => ⟨_, 3, _, rfl, le_k rfl, rfl, rfl, fun σ1 H1 R1 => ?_⟩)
  have R1 : Rep _ 3 [.im (.tuple ds), .dk t (livK []), .no] σ1 H1 := R1
  refine vs_for (tg := fun d Γ => Γ.set 2 (.im d)) R1 (vi_tup (ve_var rfl (by decide) ⟨ds, rfl, fun v => ⟨fun d hd => vg_name (by decide), fun k Γ => ∃ e, Γ = [.im (.tuple ds), .dk t (livK (livesF (ds.take k))), e, .iv v (.tuple ds)], ⟨_, rfl⟩, ?_, ?_, ?_⟩⟩))
  · rintro k Γ2 ⟨e, rfl⟩
    simp
  · rintro k d Γ2 σ2 H2 hd ⟨e, rfl⟩ R2
    obtain ⟨a, z, rest, rfl⟩ := good d (List.mem_of_getElem? hd)
    have R2 : Rep _ 3 [.im (.tuple ds), .dk t (livK (livesF (ds.take k))), .im (.tuple (.str a :: .str z :: rest)), .iv v (.tuple ds)] σ2 H2 := R2
    have hk := (List.getElem?_eq_some_iff.mp hd).1
    refine vs_last (vs_dput R2 (ve_op (ve_op (ve_var rfl (by decide) (ve_c rfl (o2_ixT (atI_nat (j := 0) rfl) (ve_c rfl (o2_eqS ⟨_, rfl, ve_varO rfl (by decide) rfl ⟨t, rfl, ve_op (ve_var rfl (by decide) (ve_c rfl (o2_ixT (atI_nat (j := 1) rfl) ⟨1, _, Sum.inr z, rfl, rfl, ?_, fun H3 R3 => ?_⟩)))⟩⟩))))))))
    · have := livesF_len (ds.take k)
      rw [kvs_len, ]
      rw [List.length_take] at this
      omega
    · refine ⟨_, ⟨.im (.tuple (.str a :: .str z :: rest)), rfl⟩, ?_⟩
      rw [take_snoc hd, livesF_snoc, ← pt_livK]
      exact R3
  · rintro Γ2 σ2 H2 ⟨e, rfl⟩ R2
    rw [List.take_length] at R2
    exact vs_retV R2 (fun x outs p => p) (ve_varO rfl (by decide) rfl ⟨[.dk t (livK (livesF ds))], [1], .cons rfl .nil, by simp, post t⟩)
end
end Hw

set_option Elab.async false
set_option linter.all false
set_option maxRecDepth 100000
set_option maxHeartbeats 4000000
namespace Hw
open PySem L2 PyProof.Rows Vl
def namesL (b : Bool) (kvs : Liv) : List Str := (kvs.filter fun p => decide (p.2 = b)).map (·.1)
theorem liv_at {S : Addr → Prop} {H : Hp} : ∀ {kvs : Liv} {xs : List (Key × V)}, Paired (fun (p : Key × V) (q : Key × PyData) => p.1 = q.1 ∧ Dz S H p.2 q.2) xs (livK kvs) → xs = kvs.map fun p => ((Sum.inr p.1 : Key), V.bl p.2)
  | [], _, h => by cases h; rfl
  | p :: kvs, x :: xs, h => by
    cases h with
    | cons h1 h2 =>
      obtain ⟨a, v⟩ := x
      have e := h1.2.bool
      have e1 : a = Sum.inr p.1 := h1.1
      have e2 : v = V.bl p.2 := e
      rw [liv_at h2, e1, e2]; rfl
theorem valV_liv {z : Str} {b : Bool} : ∀ {kvs : Liv} {i : Nat}, (kvs.map (·.1)).Nodup → kvs[i]? = some (z, b) → valV (kvs.map fun p => ((Sum.inr p.1 : Key), V.bl p.2)) (Sum.inr z) = some (V.bl b)
  | [], _, _, h => by simp at h
  | p :: kvs, 0, _, h => by
    have h : p = (z, b) := by simpa using h
    subst h
    rw [List.map_cons, valV_pos rfl]
  | p :: kvs, i + 1, nd, h => by
    have h : kvs[i]? = some (z, b) := by simpa using h
    rw [List.map_cons, List.nodup_cons] at nd
    have hne : p.1 ≠ z := fun e => nd.1 (by rw [e]; exact List.mem_map.mpr ⟨_, List.mem_of_getElem? h, rfl⟩)
    rw [List.map_cons, valV_neg (fun e => hne (Sum.inr.inj e))]
    exact valV_liv nd.2 h
/-- [name for name in lives if lives[name] == live] -/
theorem ve_liveKeys {F : Frm} {n : Nat} {Γ : List Ent} {P : Val → List Ent → Prop} {b : Bool} {r : Addr} {kvs : Liv} (hn : 2 < n) (h0 : Γ[0]? = some (.im (.bool b))) (h1 : Γ[1]? = some (.dk r (livK kvs))) (nd : (kvs.map (·.1)).Nodup) (hl : kvs.length ≤ 100000)
    (p : ∀ t, P (.vl (.ref t)) (Γ ++ [.ls t ((namesL b kvs).map PyData.str)])) : VE F n Γ (tLockE (tLc (iKeys (tVar 1)) (gName 2) (tTest (tOp rEq (tDGet (tVar 1) (tVar 2)) (tVar 0))) (tVar 2) [2])) P := fun σ H Q R q => by
  obtain ⟨o1, e1, rfl, xs, hd, hx⟩ := R.slot (by omega) h1
  obtain ⟨o0, e0, v0, rfl, hv0⟩ := R.slot (by omega) h0
  have hv0 := hv0.bool
  subst hv0
  have ex := liv_at hx
  subst ex
  have hsl := R.sl
  refine ⟨r, _, hd, trivial, fun od => ?_⟩
  refine ⟨.ref r, e1, r, od, rfl, .inl ⟨_, upd_same, fun D nD => ?_⟩⟩
  have hDd : D ≠ r := fun e => by rw [e, upd_same] at nD; cases nD
  have nD0 : H D = none := by rw [upd_ne hDd] at nD; exact nD
  have w0 : (wipe σ [2])[0]? = some (some (V.bl b)) := by rw [Vl.wipe_get (by decide)]; exact e0
  have w1 : (wipe σ [2])[1]? = some (some (V.ref r)) := by rw [Vl.wipe_get (by decide)]; exact e1
  refine lc_it walk_keys (fun i H' => (∀ b' o, b' ≠ r → H b' = some o → H' b' = some o) ∧ H' r = some (.frz od (.dK (kvs.map fun p => ((Sum.inr p.1 : Key), V.bl p.2)))) ∧ H' D = some (.lst ((namesL b (kvs.take i)).map V.str)))
    ⟨fun b' o hb e => by rw [upd_ne (ne_of_none e nD0), upd_ne hb]; exact e, by rw [upd_ne (Ne.symm hDd), upd_same], upd_same⟩ (fun i H' _ h => h.2.1) ?_ ?_
  · rintro i x H' H'' hi ⟨sx, ed, eD⟩ ⟨rfl, ky, v, hk, rfl⟩
    obtain ⟨z, bz, hz, ez⟩ : ∃ z bz, kvs[i]? = some (z, bz) ∧ (ky, v) = ((Sum.inr z : Key), V.bl bz) := by
      rw [List.getElem?_map] at hk
      cases e : kvs[i]? with
      | none => rw [e] at hk; cases hk
      | some p => rw [e] at hk; exact ⟨p.1, p.2, rfl, (Option.some.inj hk).symm⟩
    cases ez
    have g0 : DGet H'' r (.str z) (some (V.bl bz)) := by
      have : DGet H'' r (.str z) (valV (kvs.map fun p => ((Sum.inr p.1 : Key), V.bl p.2)) (Sum.inr z)) := .inl ⟨_, Sum.inr z, .inr ⟨_, ed⟩, rfl, rfl⟩
      rw [valV_liv nd hz] at this
      exact this
    have hi2 := (List.getElem?_eq_some_iff.mp hz).1
    have hfl : (namesL b (kvs.take i)).length ≤ 100000 := by
      unfold namesL
      rw [List.length_map]
      exact Nat.le_trans (List.length_filter_le _ _) (by rw [List.length_take]; omega)
    have g2 : ((wipe σ [2]).set 2 (some (V.str z)))[2]? = some (some (V.str z)) := List.getElem?_set_self (by rw [wipe_length, hsl]; omega)
    have g1 : ((wipe σ [2]).set 2 (some (V.str z)))[1]? = some (some (V.ref r)) := by rw [List.getElem?_set_ne (by decide)]; exact w1
    have g00 : ((wipe σ [2]).set 2 (some (V.str z)))[0]? = some (some (V.bl b)) := by rw [List.getElem?_set_ne (by decide)]; exact w0
    refine ⟨?_, .ref r, g1, .str z, g2, r, _, rfl, g0, .bl b, g00, rfl, _, rfl, ?_⟩
    · show wipe ((wipe σ [2]).set 2 (some (V.str z))) [2] = wipe σ [2]
      exact Vl.wipe_idem (fun k hk => by rw [List.getElem?_set_ne (fun z => hk (by rw [z]; exact List.mem_cons_self)), Vl.wipe_get hk]) (by rw [List.length_set, wipe_length])
    have eb : decide (V.bl bz = V.bl b) = decide (bz = b) := by
      rw [decide_eq_decide]
      exact ⟨fun e => by injection e, fun e => by rw [e]⟩
    rw [eb]
    have ft : namesL b (kvs.take (i + 1)) = namesL b (kvs.take i) ++ if decide (bz = b) = true then [z] else [] := by
      unfold namesL
      rw [flt_snoc hz, List.map_append]
      congr 1
      cases decide (bz = b) <;> rfl
    cases hb : decide (bz = b) with
    | true =>
      show if true = true then _ else _
      rw [if_pos rfl]
      refine ⟨.str z, g2, _, eD, smallM (by rw [List.length_map]; omega), fun b' o hb' e => ?_, ?_, ?_⟩
      · rw [upd_ne (ne_of_none e nD0)]; exact sx _ _ hb' e
      · rw [upd_ne (Ne.symm hDd)]; exact ed
      · rw [upd_same, ft, hb, if_pos rfl, List.map_append]; rfl
    | false =>
      show if false = true then _ else _
      rw [if_neg Bool.false_ne_true]
      refine ⟨sx, ed, ?_⟩
      rw [eD, ft, hb, if_neg Bool.false_ne_true, List.append_nil]
  · rintro H' ⟨sx, ed, eD⟩
    rw [List.length_map, List.take_length] at eD
    have s1 : Same H (upd H' r (.dK (kvs.map fun p => ((Sum.inr p.1 : Key), V.bl p.2)))) := fun b' o e => by
      by_cases hb : b' = r
      · subst hb
        rw [hd] at e
        rw [upd_same]; exact e
      · rw [upd_ne hb]; exact sx _ _ hb e
    obtain ⟨R1, n1⟩ := R.push (e := .ls D ((namesL b kvs).map PyData.str)) (o := some (.ref D)) s1 (fun a ha => by rw [List.mem_singleton.mp ha]; exact nD0) ⟨rfl, _, by rw [upd_ne hDd]; exact eD, Vl.DzAll.ofStrs _⟩
    exact ⟨ed, q _ _ _ _ (p D) n1 R1 rfl⟩
def A_names_that (es : List Ent) (P : Val → List Ent → Prop) : Prop := ∃ b r kvs, es = [.im (.bool b), .dk r (livK kvs)] ∧ (kvs.map (·.1)).Nodup ∧ kvs.length ≤ 100000 ∧ P (.im (.tuple ((sortS (namesL b kvs)).map PyData.str))) [.dk r (livK kvs)]
theorem A_names_that_len (es : List Ent) (P : Val → List Ent → Prop) (h : A_names_that es P) : es.length = 2 := by obtain ⟨b, r, kvs, rfl, _⟩ := h; rfl
theorem A_names_that_mono : Mono A_names_that := fun es P P' m ⟨z, e, a, b, c, d, p⟩ => ⟨z, e, a, b, c, d, m _ _ p⟩
theorem putS_keys (kvs : Liv) (z : Str) (b : Bool) : (putS kvs z b).map (·.1) = if (kvs.any fun p => decide (p.1 = z)) = true then kvs.map (·.1) else kvs.map (·.1) ++ [z] := by
  unfold putS
  split
  · rw [List.map_map]
    refine List.map_congr_left fun p _ => ?_
    show (if p.1 = z then (p.1, b) else p).1 = p.1
    split <;> rfl
  · rw [List.map_append]; rfl
theorem putS_nodup {kvs : Liv} (h : (kvs.map (·.1)).Nodup) (z : Str) (b : Bool) : ((putS kvs z b).map (·.1)).Nodup := by
  rw [putS_keys]
  split
  · exact h
  · next hn =>
    rw [List.nodup_append]
    refine ⟨h, by simp, fun x hx y hy e => hn ?_⟩
    rw [List.mem_singleton.mp hy] at e
    subst e
    obtain ⟨p, hp, e⟩ := List.mem_map.mp hx
    exact List.any_eq_true.mpr ⟨p, hp, decide_eq_true e⟩
theorem fold_nodup : ∀ (ds : List PyData) (kvs : Liv), (kvs.map (·.1)).Nodup → ((ds.foldl (fun kvs d => putS kvs (nameD d) (comD d)) kvs).map (·.1)).Nodup
  | [], kvs, h => h
  | d :: ds, kvs, h => by rw [List.foldl_cons]; exact fold_nodup ds _ (putS_nodup h _ _)
theorem livesF_nodup (ds : List PyData) : ((livesF ds).map (·.1)).Nodup := fold_nodup ds [] List.nodup_nil
/-- the deeds of the lines, or the first line that cannot stand -/
def readL : List Str → Nat → List PyData → Sum Nat (List PyData)
  | [], _, ds => .inr ds
  | l :: ls, k, ds => if standB (livesF ds) ds.length (deedW (Txt.split l sBl)) = true then readL ls (k + 1) (ds ++ [deedW (Txt.split l sBl)]) else .inl k
def linesOf (z : Str) : List Str := if z.length = 0 then [] else Txt.split z sNl
def readT : PyData → Sum Nat (List PyData)
  | .str z => readL (linesOf z) 1 []
  | _ => .inl 0
structure FineL (l : Str) : Prop where
  len : l.length + 2 ≤ sizeLine
  few : (Txt.split l sBl).length ≤ 100000
  ne : Txt.split l sBl ≠ []
  wd : ∀ w ∈ Txt.split l sBl, w.length ≤ sizeLine
structure FineT (z : Str) : Prop where
  len : z.length + 2 ≤ sizeLine
  few : (linesOf z).length ≤ 90000
  each : ∀ l ∈ linesOf z, FineL l
theorem okD_strs {ws : List Str} (h : ws.length ≤ 100000) (hw : ∀ w ∈ ws, w.length ≤ sizeLine) : OkD (ws.map PyData.str) := by
  refine ⟨by rw [List.length_map]; exact h, fun x hx => ?_, fun x hx => ?_⟩
  · obtain ⟨w, hm, rfl⟩ := List.mem_map.mp hx
    exact ⟨fun z e => by cases e; exact hw w hm, fun ds e => by cases e⟩
  · rw [List.getElem?_map] at hx
    cases e : ws[0]? with
    | none => rw [e] at hx; cases hx
    | some w => rw [e] at hx; cases hx; rfl
theorem okD_deed {ws : List Str} (h : ws.length ≤ 100000) (hw : ∀ w ∈ ws, w.length ≤ sizeLine) : ∀ ds, deedW ws = .tuple ds → OkD ds := fun ds e => by
  unfold deedW at e
  split at e
  · next w0 w1 rest =>
    split at e
    · cases e
      refine ⟨le_k rfl, fun x hx => ?_, fun x hx => by cases hx; rfl⟩
      simp only [List.mem_cons, List.not_mem_nil, or_false] at hx
      rcases hx with rfl | rfl | rfl
      · exact ⟨fun z e => by cases e; decide +kernel, fun ds e => by cases e⟩
      · exact ⟨fun z e => by cases e; exact hw w1 (by simp), fun ds e => by cases e⟩
      · exact ⟨fun z e => (by cases e), fun ds e => by cases e; rw [List.length_map]; simp only [List.length_cons] at h; omega⟩
    · cases e
      exact okD_strs h hw
  · cases e
    exact okD_strs h hw
theorem stand_good {kvs : Liv} {m : Nat} {d : PyData} (h : standB kvs m d = true) : GoodD d := by
  unfold standB at h
  split at h
  · next a n t =>
    rw [Bool.and_eq_true, Bool.and_eq_true] at h
    obtain ⟨_, h1, h2⟩ := h
    cases a with
    | str a =>
      cases n with
      | str n => exact ⟨a, n, _, rfl⟩
      | _ => exact absurd h2 Bool.false_ne_true
    | _ => exact absurd h1 Bool.false_ne_true
  · next a n =>
    rw [Bool.and_eq_true, Bool.and_eq_true] at h
    obtain ⟨_, h1, h2⟩ := h
    cases a with
    | str a =>
      cases n with
      | str n => exact ⟨a, n, _, rfl⟩
      | _ => exact absurd h2 Bool.false_ne_true
    | _ => exact absurd h1 Bool.false_ne_true
  · exact absurd h Bool.false_ne_true
def A_read_deeds (C : Addr) (es : List Ent) (P : Val → List Ent → Prop) (EP : Addr → PyData → Prop) : Prop := ∃ d, es = [.im d] ∧ (∀ z, d = .str z → FineT z) ∧ (∀ ds, readT d = .inr ds → P (.im (.tuple ds)) []) ∧ ∀ k : Nat, readT d = .inl k → EP C (.int k)
theorem A_read_deeds_len (C : Addr) (es : List Ent) (P : Val → List Ent → Prop) (EP : Addr → PyData → Prop) (h : A_read_deeds C es P EP) : es.length = 1 := by obtain ⟨z, rfl, _⟩ := h; rfl
theorem A_read_deeds_mono (C : Addr) : MonoX (A_read_deeds C) := fun es P P' EP EP' m m2 ⟨d, e, f, p, x⟩ => ⟨d, e, f, fun ds h => m _ _ (p ds h), fun k h => m2 _ _ (x k h)⟩
section
variable {P : Program} {w : World} {K : PySem.W.Frag} {mg : Str → Option Value} {base : Heap}
theorem ok_namestV {f : Addr} {fd : FuncData} {k : Nat} (F : Fun K "names_that" "names_that" sNamesT f fd) (bs : mg "sorted" = none) (bt : mg "tuple" = none) : FnOk P w K mg base CX0 (k + 1) f fd ["live", "lives"] (SpV A_names_that) := by
  refine F.ok scNamesT (fun vs H Q E h => ?_) (fun cdv A outer s H vs Q E hr h => ?_)
  · exact lenV A_names_that_len h
  obtain ⟨S0, es, Tb, R, hlen, hA⟩ := h
  have hu := hu_of hr
  have hu64 := hr.units
  refine ⟨_, pss_one (ps_ret (pe_callTy call_tuple_of (by rfl) bt PyProof.Rows.boot_tuple (pa_cons (pe_callB (cr_sortT hu64) (by rfl) bs (by decide +kernel) (pa_cons (pe_lock (pe_lc (own := [("name", 2)]) (g := gName 2) (tt := tTest (tOp rEq (tDGet (tVar 1) (tVar 2)) (tVar 0))) (te := tVar 2) rfl scNamesT.nd (pi_keys (pv 1))
        (blkOk_by (N := ["live", "lives", "name"]) (sc := defScope sNamesT) (by decide +kernel)) (fun _ _ _ _ _ => pg_name (i := 2) scNamesT.nd rfl (Or.inl rfl))
        (fun _ _ _ _ _ => pts_one (pt_cmpR op_eq (pe_dget hu (pv 1) (pv 2) (fun _ _ => rfl)) (pv 0) (nomark _))) (fun _ _ _ _ _ => pv 2))) pa_nil)) pa_nil))), ?_⟩
  obtain ⟨b, r, kvs, rfl, nd, hl, post⟩ := hA
  have R : Rep _ 3 [.im (.bool b), .dk r (livK kvs), .no] _ H := rep_start (N := ["live", "lives", "name"]) R hlen (le_k rfl)
  have hn : (namesL b kvs).length ≤ 100000 := by
    unfold namesL
    rw [List.length_map]
    exact Nat.le_trans (List.length_filter_le _ _) hl
  refine vs_retV R (fun x outs p => p) (ve_cb (vas_cons (ve_cb (vas_cons (ve_liveKeys (le_k rfl) rfl rfl nd hl fun t => vas_nil (cb_sortT (.own (j := 3) rfl) hn fun t2 => vas_nil (cb_tuple (.own (j := 4) rfl) (fun z => Bool.noConfusion z) ⟨[.dk r (livK kvs)], [1], .cons rfl .nil, by simp, post⟩)))))))
theorem ok_readdsV {f fR fC fI c : Addr} {fd fdR fdC fdI : FuncData} {k j : Nat} (hj : j + 1 ≤ k) (F : Fun K "read_deeds" "read_deeds" sReadDs f fd) (B : Blt mg) (B3 : Blt3 mg)
    (T : XCls K fI c) (gE : mg "BadHistory" = some (.ref c)) (GI : FnOk P w K mg base CX0 j fI fdI ["self", "value"] (spIniX K)) (bI : Binds K fdI ["self", "value"] [])
    (GR : FnOk P w K mg base CX0 k fR fdR ["line"] (SpV A_read_deed)) (gR : mg "read_deed" = some (.ref fR)) (kR : PySem.W.keepIn K (.ref fR) = true) (bR : Binds K fdR ["line"] [])
    (GC : FnOk P w K mg base CX0 k fC fdC ["value", "lives", "many"] (SpV A_can_stand)) (gC : mg "can_stand" = some (.ref fC)) (kC : PySem.W.keepIn K (.ref fC) = true) (bC : Binds K fdC ["value", "lives", "many"] []) :
    FnOk P w K mg base (L2N.CX P w) (k + 1) f fd ["text"] (SpVX (A_read_deeds c)) := by
  refine okN F scReadDs (fun vs H Q E h => ?_) (fun cdv A outer s H vs Q E hr h => ?_)
  · exact lenVX (A_read_deeds_len c) h
  obtain ⟨S0, es, Tb, R, hlen, hA⟩ := h
  have hu := hu_of hr
  refine ⟨_, pss_cons (ps_if (pt_not (pt_val (pe_callB call_isi (by rfl) B3.isi PyProof.Rows.boot_isinstance (pa_cons (pv 0) (pa_cons (pe_bltn (v := .ty "str") (by rfl) B3.str (by decide +kernel) rfl) pa_nil))))) (pss_one (ps_heal T GI (hr.mono hj) bI rfl gE pe_int)) pss_nil)
      (pss_cons (ps_set (i := 1) scReadDs.nd rfl (.inl rfl) (pe_ifExp (pt_truth (pv 0) (by intro _; rfl)) (pe_split (pv 0) pe_str) (pe_lst pa_nil)))
      (pss_cons (ps_set (i := 2) scReadDs.nd rfl (.inl rfl) (pe_lst pa_nil))
      (pss_cons (ps_set (i := 3) scReadDs.nd rfl (.inl rfl) pe_dnewK)
      (pss_cons (ps_for (L2.passes_of rfl) rfl (pi_enumK (by rfl) B3.enum (pa_cons (pv 1) pa_nil) (pk_cons pe_int pk_nil)) (pg_tup rfl (pgs_cons (pg_name (i := 4) scReadDs.nd rfl (Or.inl rfl)) (pgs_cons (pg_name (i := 5) scReadDs.nd rfl (Or.inl rfl)) pgs_nil)))
        (pss_cons (ps_set (i := 6) scReadDs.nd rfl (.inl rfl) (pe_call GR hr (by rfl) gR kR bR .nil pass0 (pa_cons (pv 5) pa_nil)))
        (pss_cons (ps_if (pt_not (pt_val (pe_call GC hr (by rfl) gC kC bC .nil pass0 (pa_cons (pv 6) (pa_cons (pv 3) (pa_cons (pe_callB call_len_seq (by rfl) B.len PySem.boot_len (pa_cons (pv 2) pa_nil)) pa_nil)))))) (pss_one (ps_heal T GI (hr.mono hj) bI rfl gE (pv 4))) pss_nil)
        (pss_cons (ps_expr (pe_bm PySem.F.plainAttrs_list PySem.F.slot_list_append PySem.F.type_list_append mt_append (pv 2) (pa_cons (pv 6) pa_nil)))
        (pss_one (ps_dput hu (pv 3) (pe_ix ix_tup (pv 6) pe_int (fun _ _ => rfl)) (pe_cmpR op_eq (pe_ix ix_tup (pv 6) pe_int (fun _ _ => rfl)) pe_str (nomark _)) rfl))))))
      (pss_one (ps_ret (pe_callTy call_tuple_of (by rfl) B3.tuple PyProof.Rows.boot_tuple (pa_cons (pv 2) pa_nil)))))))), ?_⟩
  obtain ⟨d, rfl, fine, post, ep⟩ := hA
  have hx : Xok ⟨S0, H, Vl.In [.im d], Tb⟩ E (fun C d => _) := XE.ok (es := [.im d]) (fun C e p => p) fun b z => z
  have R : Rep _ 7 [.im d, .no, .no, .no, .no, .no, .no] _ H := rep_start (N := ["text", "lines", "deeds", "lives", "number", "line", "deed"]) R hlen (le_k rfl)
  refine vs_if R (vt_not (vt_b (ve_cb (vas_cons (ve_var rfl (by decide) (vas_cons (ve_cV (vas_nil (cb_isi (.inl rfl) ⟨_, rfl, fun H1 R1 => ?_⟩)))))))))
  cases hd : isTy "str" d with
  | false =>
    show if true = true then _ else _
    rw [if_pos rfl]
    refine vs_raise (D := { nx := fun _ _ => False, rt := Q }) R1 hx (ve_c (d := .int 0) rfl ⟨_, rfl, ep 0 ?_⟩)
    cases d <;> first | rfl | exact absurd rfl (ty_strN hd _)
  | true =>
    show if false = true then _ else _
    rw [if_neg Bool.false_ne_true]
    obtain ⟨z, rfl⟩ := ty_str hd
    have fine := fine z rfl
    refine vs_setO R1 (by decide) (VE.mono (P := fun x Γ1 => ∃ t, x = .vl (.ref t) ∧ Γ1 = ([.im (.str z), .no, .no, .no, .no, .no, .no] : List Ent) ++ [.ls t ((linesOf z).map PyData.str)]) (ve_if (vt_truS (ve_var rfl (by decide) ⟨z, rfl, by have := fine.len; omega, ?_⟩))) ?_)
    · by_cases h0 : z.length = 0
      · have e0 : ((z.length : Int) != 0) = false := by rw [h0]; rfl
        rw [e0, if_neg Bool.false_ne_true]
        refine ve_lst (vai_nil ⟨le_k rfl, fun t => ⟨t, rfl, ?_⟩⟩)
        unfold linesOf
        rw [if_pos h0]; rfl
      · have e0 : ((z.length : Int) != 0) = true := by rw [bne_iff_ne]; omega
        rw [e0, if_pos rfl]
        refine ve_split (ve_var rfl (by decide) ⟨z, rfl, ve_c rfl ⟨sNl, rfl, by decide +kernel, fine.len, fun t => ⟨t, rfl, ?_⟩⟩⟩)
        unfold linesOf
        rw [if_neg h0]; rfl
    rintro x Γ1 ⟨t, rfl, rfl⟩
    refine ⟨_, 7, _, rfl, le_k rfl, rfl, rfl, fun σ2 H2 R2 => ?_⟩
    have ff := fine.few
    have fe := fine.each
    have et : readT (.str z) = readL (linesOf z) 1 [] := rfl
    rw [et] at post ep
    generalize (linesOf z) = L at R2 ff fe post ep
    have R2 : Rep _ 7 [.im (.str z), .ls t (L.map PyData.str), .no, .no, .no, .no, .no] σ2 H2 := R2
    refine vs_setO R2 (by decide) (ve_lst (vai_nil ⟨le_k rfl, fun dl => ⟨_, 7, _, rfl, le_k rfl, rfl, rfl, fun σ3 H3 R3 => ?_⟩⟩))
    have R3 : Rep _ 7 [.im (.str z), .ls t (L.map PyData.str), .ls dl [], .no, .no, .no, .no] σ3 H3 := R3
    refine vs_setO R3 (by decide) (ve_dnew fun ad => ⟨_, 7, _, rfl, le_k rfl, rfl, rfl, fun σ4 H4 R4 => ?_⟩)
    have R4 : Rep _ 7 [.im (.str z), .ls t (L.map PyData.str), .ls dl [], .dk ad (livK []), .no, .no, .no] σ4 H4 := R4
    refine vs_for (tg := fun d Γ => match d with | .tuple [a, b] => (Γ.set 4 (.im a)).set 5 (.im b) | _ => Γ) R4 (vi_enumK (vas_cons (ve_varO rfl (by decide) rfl (vas_nil ⟨.ref t, L.map PyData.str, rfl, .own (j := 1) rfl, vas_cons (ve_c rfl (vas_nil ⟨1, rfl, by decide, by decide, .own (j := 1) rfl, ?_⟩))⟩))))
    refine ⟨fun d hd => ?_, fun k Γ => ∃ ds e4 e5 e6, Γ = [.im (.str z), .ls t (L.map PyData.str), .ls dl ds, .dk ad (livK (livesF ds)), e4, e5, e6] ∧ ds.length = k ∧ readL (L.drop k) (k + 1) ds = readL L 1 [], ⟨[], _, _, _, rfl, rfl, rfl⟩, ?_, ?_, ?_⟩
    · obtain ⟨i, _, rfl⟩ := List.mem_map.mp hd
      exact vg_two (by decide) (by decide)
    · rintro k Γ2 ⟨ds, e4, e5, e6, rfl, _⟩
      exact .own (j := 1) rfl
    · rintro k d Γ2 σ5 H5 hd ⟨ds, e4, e5, e6, rfl, hk, er⟩ R5
      obtain ⟨hkL, ed⟩ : k < L.length ∧ d = .tuple [.int (1 + (k : Nat)), (L.map PyData.str).getD k .none] := by
        rw [List.getElem?_map] at hd
        cases e : (List.range (L.map PyData.str).length)[k]? with
        | none => rw [e] at hd; cases hd
        | some i =>
          rw [e] at hd
          have h1 := (List.getElem?_eq_some_iff.mp e).1
          rw [List.length_range, List.length_map] at h1
          rw [List.getElem?_range (by rw [List.length_map]; exact h1)] at e
          cases e
          exact ⟨h1, (Option.some.inj hd).symm⟩
      have el : (L.map PyData.str).getD k .none = .str L[k] := by rw [List.getD_eq_getElem?_getD, List.getElem?_map, List.getElem?_eq_getElem hkL]; rfl
      rw [el] at ed
      subst ed
      have fl := fe L[k] (List.getElem_mem hkL)
      have edr : L.drop k = L[k] :: L.drop (k + 1) := List.drop_eq_getElem_cons hkL
      generalize L[k] = l at R5 fl edr
      have R5 : Rep _ 7 [.im (.str z), .ls t (L.map PyData.str), .ls dl ds, .dk ad (livK (livesF ds)), .im (.int (1 + (k : Nat))), .im (.str l), e6] σ5 H5 := R5
      refine vs_set R5 (by decide) (ve_call A_read_deed_mono (vas_cons (ve_var rfl (by decide) (vas_nil ⟨_, _, .im .nil, by simp, l, rfl, fl.len, fl.few, fl.ne, [], [], rfl, .nil, _, rfl, fun σ6 H6 R6 => ?_⟩))))
      rw [edr] at er
      have okd := okD_deed fl.few fl.wd
      have er2 : (if standB (livesF ds) ds.length (deedW (Txt.split l sBl)) = true then readL (L.drop (k + 1)) (k + 1 + 1) (ds ++ [deedW (Txt.split l sBl)]) else .inl (k + 1)) = readL L 1 [] := er
      generalize (deedW (Txt.split l sBl)) = D at R6 okd er2
      have R6 : Rep _ 7 [.im (.str z), .ls t (L.map PyData.str), .ls dl ds, .dk ad (livK (livesF ds)), .im (.int (1 + (k : Nat))), .im (.str l), .im D] σ6 H6 := R6
      refine vs_if R6 (vt_not (vt_b (ve_call A_can_stand_mono (vas_cons (ve_var rfl (by decide) ?_)))))
      refine vas_cons (ve_varO rfl (by decide) rfl ?_)
      refine vas_cons (ve_cb (vas_cons (ve_varO rfl (by decide) rfl (vas_nil (cb_len (.own (j := 2) rfl) ?_)))))
      refine vas_nil ⟨_, _, .im (.lent (j := 3) rfl rfl (.im .nil)), by simp, D, ad, livesF ds, ds.length, rfl, okd, [.dk ad (livK (livesF ds))], [], rfl, .cons ⟨_, rfl, rfl⟩ .nil, _, rfl, fun H7 R7 => ?_⟩
      cases hs : standB (livesF ds) ds.length D with
      | false =>
        rw [hs, if_neg Bool.false_ne_true] at er2
        show if true = true then _ else _
        rw [if_pos rfl]
        have R7 : Rep _ 7 [.im (.str z), .ls t (L.map PyData.str), .ls dl ds, .dk ad (livK (livesF ds)), .im (.int (1 + (k : Nat))), .im (.str l), .im D] σ6 H7 := R7
        have e1 : (1 + (k : Nat) : Int) = ((k + 1 : Nat) : Int) := by omega
        rw [e1] at R7
        exact vs_raise (D := { nx := fun _ _ => False, rt := Q }) R7 hx (ve_var (i := 4) rfl (by decide) ⟨_, rfl, ep (k + 1) er2.symm⟩)
      | true =>
        rw [hs, if_pos rfl] at er2
        show if false = true then _ else _
        rw [if_neg Bool.false_ne_true]
        obtain ⟨a, nm, rest, rfl⟩ := stand_good hs
        have R7 : Rep _ 7 [.im (.str z), .ls t (L.map PyData.str), .ls dl ds, .dk ad (livK (livesF ds)), .im (.int (1 + (k : Nat))), .im (.str l), .im (.tuple (.str a :: .str nm :: rest))] σ6 H7 := R7
        refine vs_append (i := 2) R7 (by decide) rfl rfl (ve_var rfl (by decide) ⟨_, _, rfl, rfl, by omega, fun σ8 H8 R8 => ?_⟩) ⟨_, rfl⟩
        have R8 : Rep _ 7 [.im (.str z), .ls t (L.map PyData.str), .ls dl (ds ++ [.tuple (.str a :: .str nm :: rest)]), .dk ad (livK (livesF ds)), .im (.int (1 + (k : Nat))), .im (.str l), .im (.tuple (.str a :: .str nm :: rest))] σ8 H8 := R8
        refine vs_last (vs_dput R8 (ve_op (ve_op (ve_var rfl (by decide) (ve_c rfl (o2_ixT (atI_nat (j := 0) rfl) ?_))))))
        refine ve_c rfl (o2_eqS ⟨_, rfl, ve_varO rfl (by decide) rfl ⟨ad, rfl, ?_⟩⟩)
        refine ve_op (ve_var rfl (by decide) (ve_c rfl (o2_ixT (atI_nat (j := 1) rfl) ⟨3, _, Sum.inr nm, rfl, rfl, ?_, fun H9 R9 => ?_⟩)))
        · have := livesF_len ds
          rw [kvs_len]
          omega
        · refine ⟨_, ⟨ds ++ [.tuple (.str a :: .str nm :: rest)], .im (.int (1 + (k : Nat))), .im (.str l), .im (.tuple (.str a :: .str nm :: rest)), rfl, by rw [List.length_append, hk]; rfl, er2⟩, ?_⟩
          rw [livesF_snoc, ← pt_livK]
          exact R9
    · rintro Γ2 σ5 H5 ⟨ds, e4, e5, e6, rfl, hk, er⟩ R5
      rw [List.length_map, List.length_range, List.length_map] at er
      rw [List.drop_length] at er
      exact vs_retV R5 (fun x outs p => p) (ve_cb (vas_cons (ve_varO rfl (by decide) rfl (vas_nil (cb_tuple (.own (j := 2) rfl) (fun z => Bool.noConfusion z) ⟨[], [], .nil, .nil, post ds er.symm⟩)))))
end
end Hw

set_option Elab.async false
set_option linter.all false
set_option maxRecDepth 100000
set_option maxHeartbeats 4000000
namespace Vl
open PySem L2 PyProof.Rows Hw
section
variable {F : Frm} {n : Nat} {Γ : List Ent} {te : TE}
/-- C(..): made, its __init__ run -/
theorem ve_make {A : List Ent → (Val → List Ent → Prop) → (Addr → PyData → Prop) → Prop} {E : XK} {ta : TA} {P : Val → List Ent → Prop} {EP : Addr → PyData → Prop} {C : Addr} (hM : MonoX A) (hx : Xok F E EP)
    (h : VAs F n Γ ta fun xs Γ1 => ∀ x dx, A (.ob x dx C [] :: xs.map entOf) (fun r outs => ∃ fs, r = .im .none ∧ outs = [.ob x dx C fs] ∧ P (.vl (.ref x)) (Γ1 ++ [.ob x dx C fs])) EP) : VE F n Γ (tMake C (SpVX A) [] E ta) P := fun σ H Q R q =>
  h σ H _ R fun vs xs Γ1 H1 hA s1 R1 ok => fun x dx nx ndx ne => by
    have sm : Same H1 (upd (upd H1 dx (.own x)) x (.ins C dx [])) := fun b o e => by rw [upd_ne (ne_of_none e nx), upd_ne (ne_of_none e ndx)]; exact e
    obtain ⟨R2, n2⟩ := R1.push (e := .ob x dx C []) (o := some (.ref x)) sm (fun a ha => by
      rcases List.mem_cons.mp ha with rfl | ha
      · exact nx
      · rw [List.mem_singleton.mp ha]; exact ndx) ⟨rfl, Ne.symm ne, by rw [upd_ne ne, upd_same], [], upd_same, .nil⟩
    generalize hH2 : upd (upd H1 dx (.own x)) x (.ins C dx []) = H2 at sm R2 n2 ⊢
    have ok2 : AllV (Ex F (Γ1 ++ [.ob x dx C []])) H2 xs vs := AllV.nxt n2 ok
    have hc := ve_callXG (F := F) (n := n) (Γ := Γ1 ++ [.ob x dx C []]) (E := E) (EP := EP) (A := A) (ta := fun _ H' Q' => H' = H2 → Q' (.ref x :: vs) H') (P := fun r Γ' => r = .im .none ∧ P (.vl (.ref x)) Γ') hM hx (fun σ' H' Q' R' q' e => by
      subst e
      refine q' (.ref x :: vs) (.vl (.ref x) :: xs) _ _ ⟨_, _, .lent (j := Γ1.length) (e := .ob x dx C []) (by simp) rfl (args0 xs), by simp, ?_⟩ (.refl _ _) R' (.cons rfl ok2)
      refine hM _ _ _ _ _ (fun r outs ⟨fs, hr, ho, p⟩ => ?_) (fun _ _ z => z) (hA x dx)
      subst hr
      subst ho
      refine ⟨[.ob x dx C fs], [], rfl, .cons ⟨.ob x dx C [], by simp, rfl⟩ .nil, rfl, ?_⟩
      have e2 : sets (Γ1 ++ [Ent.ob x dx C []]) [Γ1.length] [Ent.ob x dx C fs] ++ [] = Γ1 ++ [Ent.ob x dx C fs] := by
        rw [List.append_nil]
        show (Γ1 ++ [Ent.ob x dx C []]).set Γ1.length (Ent.ob x dx C fs) = _
        rw [List.set_append, if_neg (Nat.lt_irrefl _), Nat.sub_self]; rfl
      rw [e2]
      exact p) σ H2 (fun v H' => v = .non ∧ Q (.ref x) H') R2 (fun v y Γ' H' ⟨hy, p⟩ s' R' okv => by
      subst hy
      exact ⟨Dz.none okv, q (.ref x) _ Γ' H' p ((s1.trans n2).trans s') R' rfl⟩)
    exact hc rfl
end
end Vl

set_option Elab.async false
set_option linter.all false
set_option maxRecDepth 100000
set_option maxHeartbeats 4000000
namespace Hw
open PySem L2 PyProof.Rows Vl
theorem readL_good : ∀ (ls : List Str) (k : Nat) (ds out : List PyData), readL ls k ds = .inr out → (∀ d ∈ ds, GoodD d) → (∀ d ∈ out, GoodD d) ∧ out.length = ds.length + ls.length
  | [], k, ds, out, h, g => by
    cases h
    exact ⟨g, rfl⟩
  | l :: ls, k, ds, out, h, g => by
    unfold readL at h
    split at h
    · next hs =>
      obtain ⟨a, b⟩ := readL_good ls (k + 1) _ out h (fun d hd => by
        rcases List.mem_append.mp hd with hd | hd
        · exact g d hd
        · rw [List.mem_singleton.mp hd]; exact stand_good hs)
      refine ⟨a, ?_⟩
      rw [b, List.length_append, List.length_cons (as := ls)]
      have e1 : [deedW (Txt.split l sBl)].length = 1 := rfl
      rw [e1]
      omega
    · cases h
def livingT (b : Bool) (ds : List PyData) : PyData := .tuple ((sortS (namesL b (livesF ds))).map PyData.str)
def histF (d : PyData) (ds : List PyData) : List (Str × Val) := [("text", .im d), ("deeds", .im (.tuple ds)), ("living", .im (livingT true ds)), ("dead", .im (livingT false ds))]
def A_initH (C Ch : Addr) (es : List Ent) (P : Val → List Ent → Prop) (EP : Addr → PyData → Prop) : Prop := ∃ x dx d, es = [.ob x dx Ch [], .im d] ∧ (∀ z, d = .str z → FineT z) ∧ (∀ ds, readT d = .inr ds → P (.im .none) [.ob x dx Ch (histF d ds)]) ∧ ∀ k : Nat, readT d = .inl k → EP C (.int k)
theorem A_initH_len (C Ch : Addr) (es : List Ent) (P : Val → List Ent → Prop) (EP : Addr → PyData → Prop) (h : A_initH C Ch es P EP) : es.length = 2 := by obtain ⟨x, dx, z, rfl, _⟩ := h; rfl
theorem A_initH_mono (C Ch : Addr) : MonoX (A_initH C Ch) := fun es P P' EP EP' m m2 ⟨x, dx, d, e, f, p, q⟩ => ⟨x, dx, d, e, f, fun ds h => m _ _ (p ds h), fun k h => m2 _ _ (q k h)⟩
def A_lenH (Ch : Addr) (es : List Ent) (P : Val → List Ent → Prop) : Prop := ∃ x dx d ds, es = [.ob x dx Ch (histF d ds)] ∧ P (.im (.int ds.length)) [.ob x dx Ch (histF d ds)]
section
variable {P : Program} {w : World} {K : PySem.W.Frag} {mg : Str → Option Value} {base : Heap}
theorem ok_initHV {f fR fL fN C c : Addr} {fd fdR fdL fdN : FuncData} {k : Nat} (F : Fun K "__init__" "History.__init__" sInitH f fd) (T : TxtH K mg C)
    (GR : FnOk P w K mg base (L2N.CX P w) k fR fdR ["text"] (SpVX (A_read_deeds c))) (gR : mg "read_deeds" = some (.ref fR)) (kR : PySem.W.keepIn K (.ref fR) = true) (bR : Binds K fdR ["text"] [])
    (GL : FnOk P w K mg base CX0 k fL fdL ["deeds"] (SpV A_lives_behind)) (gL : mg "lives_behind" = some (.ref fL)) (kL : PySem.W.keepIn K (.ref fL) = true) (bL : Binds K fdL ["deeds"] [])
    (GN : FnOk P w K mg base CX0 k fN fdN ["live", "lives"] (SpV A_names_that)) (gN : mg "names_that" = some (.ref fN)) (kN : PySem.W.keepIn K (.ref fN) = true) (bN : Binds K fdN ["live", "lives"] []) :
    FnOk P w K mg base (L2N.CX P w) (k + 1) f fd ["self", "text"] (SpVX (A_initH c C)) := by
  refine okN F scInitH (fun vs H Q E h => ?_) (fun cdv A outer s H vs Q E hr h => ?_)
  · exact lenVX (A_initH_len c C) h
  obtain ⟨S0, es, Tb, R, hlen, hA⟩ := h
  refine ⟨_, pss_cons (ps_set (i := 2) scInitH.nd rfl (.inl rfl) (pe_call GR hr (by rfl) gR kR bR .nil passN (pa_cons (pv 1) pa_nil)))
      (pss_cons (ps_set (i := 3) scInitH.nd rfl (.inl rfl) (pe_call GL hr (by rfl) gL kL bL .nil pass0 (pa_cons (pv 2) pa_nil)))
      (pss_cons (ps_fld (pv 0) (pv 1) rfl) (pss_cons (ps_fld (pv 0) (pv 2) rfl)
      (pss_cons (ps_fld (pv 0) (pe_call GN hr (by rfl) gN kN bN .nil pass0 (pa_cons pe_bl (pa_cons (pv 3) pa_nil))) rfl)
      (pss_one (ps_fld (pv 0) (pe_call GN hr (by rfl) gN kN bN .nil pass0 (pa_cons pe_bl (pa_cons (pv 3) pa_nil))) rfl)))))), ?_⟩
  obtain ⟨x, dx, d, rfl, fine, post, ep⟩ := hA
  have hx : Xok ⟨S0, H, Vl.In [.ob x dx C [], .im d], Tb⟩ E (fun C d => _) := XE.ok (es := [.ob x dx C [], .im d]) (fun C e p => p) fun b z => z
  have R : Rep _ 4 [.ob x dx C [], .im d, .no, .no] _ H := rep_start (N := ["self", "text", "deeds", "lives"]) R hlen (le_k rfl)
  refine vs_set R (by decide) (ve_callXG (A_read_deeds_mono c) hx (vas_cons (ve_var rfl (by decide) (vas_nil ⟨_, _, .im .nil, by simp, d, rfl, fine, fun ds hr => ⟨[], [], rfl, .nil, _, rfl, fun σ1 H1 R1 => ?_⟩, fun k hk => ep k hk⟩))))
  have R1 : Rep _ 4 [.ob x dx C [], .im d, .im (.tuple ds), .no] σ1 H1 := R1
  have post := post ds hr
  have hds : (∀ e ∈ ds, GoodD e) ∧ ds.length ≤ 90000 := by
    cases d with
    | str z =>
      obtain ⟨a, b⟩ := readL_good _ _ _ _ hr (fun _ z => nomatch z)
      refine ⟨a, ?_⟩
      have := (fine z rfl).few
      rw [b, List.length_nil]
      omega
    | _ => cases hr
  have hll := livesF_len ds
  have hnd := livesF_nodup ds
  refine vs_setO R1 (by decide) (ve_call A_lives_behind_mono (vas_cons (ve_var rfl (by decide) (vas_nil ⟨_, _, .im .nil, by simp, ds, rfl, hds.1, by omega, fun r => ⟨[], [.dk r (livK (livesF ds))], rfl, .nil, _, 4, _, rfl, le_k rfl, rfl, rfl, fun σ2 H2 R2 => ?_⟩⟩))))
  have R2 : Rep _ 4 [.ob x dx C [], .im d, .im (.tuple ds), .dk r (livK (livesF ds))] σ2 H2 := R2
  refine vs_fld R2 (ve_var rfl (by decide) (ve_varO rfl (by decide) rfl ⟨0, x, dx, C, _, rfl, rfl, T.cl, T.nT, by decide, fun H3 R3 => ?_⟩))
  have R3 : Rep _ 4 [.ob x dx C [("text", .im d)], .im d, .im (.tuple ds), .dk r (livK (livesF ds))] σ2 H3 := R3
  refine vs_fld R3 (ve_var rfl (by decide) (ve_varO rfl (by decide) rfl ⟨0, x, dx, C, _, rfl, rfl, T.cl, T.nD, le_k rfl, fun H4 R4 => ?_⟩))
  have R4 : Rep _ 4 [.ob x dx C [("text", .im d), ("deeds", .im (.tuple ds))], .im d, .im (.tuple ds), .dk r (livK (livesF ds))] σ2 H4 := R4
  refine vs_fld R4 (ve_call A_names_that_mono (vas_cons (ve_c (d := .bool true) rfl (vas_cons (ve_varO rfl (by decide) rfl (vas_nil ⟨_, _, .im (.lent (j := 3) rfl rfl .nil), by simp, true, r, livesF ds, rfl, hnd, by omega, [.dk r (livK (livesF ds))], [], rfl, .cons ⟨_, rfl, rfl⟩ .nil, ?_⟩))))))
  refine ve_varO rfl (by decide) rfl ⟨0, x, dx, C, _, rfl, rfl, T.cl, T.nL, le_k rfl, fun H5 R5 => ?_⟩
  have R5 : Rep _ 4 [.ob x dx C [("text", .im d), ("deeds", .im (.tuple ds)), ("living", .im (livingT true ds))], .im d, .im (.tuple ds), .dk r (livK (livesF ds))] σ2 H5 := R5
  refine vs_last (vs_fld R5 (ve_call A_names_that_mono (vas_cons (ve_c (d := .bool false) rfl (vas_cons (ve_varO rfl (by decide) rfl (vas_nil ⟨_, _, .im (.lent (j := 3) rfl rfl .nil), by simp, false, r, livesF ds, rfl, hnd, by omega, [.dk r (livK (livesF ds))], [], rfl, .cons ⟨_, rfl, rfl⟩ .nil, ?_⟩)))))))
  refine ve_varO rfl (by decide) rfl ⟨0, x, dx, C, _, rfl, rfl, T.cl, T.nE, le_k rfl, fun H6 R6 => ?_⟩
  have R6 : Rep _ 4 [.ob x dx C (histF d ds), .im d, .im (.tuple ds), .dk r (livK (livesF ds))] σ2 H6 := R6
  exact vs_endV (D := { nx := fun _ H' => Q .non H', rt := Q }) R6 (fun x outs p => p) (outs := [.ob x dx C (histF d ds)]) (js := [0]) (.cons rfl .nil) (by simp) post
theorem ok_lenHV {f C : Addr} {fd : FuncData} {k : Nat} (F : Fun K "__len__" "History.__len__" sLenH f fd) (T : TxtH K mg C) (B : Blt mg) : FnOk P w K mg base CX0 (k + 1) f fd ["self"] (SpV (A_lenH C)) := by
  refine F.ok scLenH (fun vs H Q E h => ?_) (fun cdv A outer s H vs Q E hr h => ?_)
  · exact lenV (m := 1) (fun es P h => by obtain ⟨x, dx, d, ds, rfl, _⟩ := h; rfl) h
  obtain ⟨S0, es, Tb, R, hlen, hA⟩ := h
  refine ⟨_, pss_one (ps_ret (pe_callB call_len_seq (by rfl) B.len PySem.boot_len (pa_cons (pe_fld (pv 0) rfl) pa_nil))), ?_⟩
  obtain ⟨x, dx, d, ds, rfl, post⟩ := hA
  have R : Rep _ 1 [.ob x dx C (histF d ds)] _ H := rep_start (N := ["self"]) R hlen (le_k rfl)
  exact vs_retV R (fun x outs p => p) (ve_cb (vas_cons (ve_fld (ve_varO rfl (by decide) rfl ⟨0, x, dx, C, _, .im (.tuple ds), rfl, rfl, T.cl, T.nD, rfl, vas_nil (cb_len (.tup ds) ⟨[.ob x dx C (histF d ds)], [0], .cons rfl .nil, by simp, post⟩)⟩))))
end
end Hw

set_option Elab.async false
set_option linter.all false
set_option maxRecDepth 100000
set_option maxHeartbeats 4000000
namespace Vl
open PySem PySem.Spec L2 LamX PyProof PyProof.Rows Hw
/-- an entry that others may not change -/
def hush : Ent → Ent
  | .im d => .im d
  | .vl v => .vl v
  | .iv v d => .iv v d
  | _ => .no
theorem hush_own (e : Ent) : (hush e).own = [] := by cases e <;> rfl
theorem hush_ok {S : Addr → Prop} {H : Hp} {e : Ent} {o : Option V} (h : e.ok S H o) : (hush e).ok S H o := by
  cases e <;> first | exact h | trivial
theorem hush_in {Γ : List Ent} {a : Addr} : ¬ In (Γ.map hush) a := fun ⟨e, he, ha⟩ => by
  obtain ⟨u, _, rfl⟩ := List.mem_map.mp he
  rw [hush_own] at ha; cases ha
section
variable {F : Frm} {n : Nat} {Γ : List Ent} {te : TE} {σ : L2.St} {H : Hp}
/-- the frame of what is run in between: all that is there now is kept -/
def inner (F : Frm) (Γ : List Ent) (H : Hp) : Frm := ⟨Ex F Γ, H, fun _ => False, F.T⟩
theorem Rep.inner (R : Rep F n Γ σ H) : Rep (inner F Γ H) n (Γ.map hush) σ H := by
  have ex : ∀ a, Ex (Vl.inner F Γ H) (Γ.map hush) a → Ex F Γ a := fun a ha => ha.elim id fun z => absurd z hush_in
  refine ⟨R.sl, by rw [List.length_map]; exact R.len, fun i e he => ?_, fun i j e e' a h1 h2 m1 m2 => ?_, fun a ha => ⟨R.exsP ha, fun z => z, hush_in⟩, fun b o _ _ e => e, fun t => t, fun a ha => absurd ha hush_in⟩
  · rw [List.getElem?_map] at he
    cases hu : Γ[i]? with
    | none => rw [hu] at he; cases he
    | some u =>
      rw [hu] at he
      cases he
      obtain ⟨o, h1, h2⟩ := R.ok i u hu
      exact ⟨o, h1, Ent.nxt (hush_ok h2) (.less ex) fun _ _ => rfl⟩
  · exact absurd ⟨e, List.mem_of_getElem? h1, m1⟩ hush_in
/-- all stays but for tables -/
theorem Rep.sameT (R : Rep F n Γ σ H) {H' : Hp} (s : ∀ b o, NT o → H b = some o → H' b = some o) (t : LamX.Tabs F.T H → LamX.Tabs F.T H') : Rep F n Γ σ H' ∧ Nxt (Ex F Γ) H (Ex F Γ) H' := by
  have nx : Nxt (Ex F Γ) H (Ex F Γ) H' := fun b o nb nt e => ⟨s b o nt e, nb⟩
  refine ⟨⟨R.sl, R.len, fun i e he => ?_, R.nd, R.s0, fun b o hb nt e => s b o nt (R.fr b o hb nt e), fun q => t (R.tb q), R.nw⟩, nx⟩
  · obtain ⟨o, h1, h2⟩ := R.ok i e he
    refine ⟨o, h1, Ent.nxt h2 nx fun a ha => ?_⟩
    obtain ⟨u, e1, e2, _⟩ := Ent.place h2 ha
    rw [s a u e2 e1, e1]
/-- _law_heard(lambda: ..) of k06: what the error of the one class tells, None without one -/
theorem ve_heard1 {X : Cx} {j : Nat} {q : Str} {CS c : Addr} {E : XK} {tb : XK → TE} {P : Val → List Ent → Prop} (h0 : LamX.Tabs F.T F.H0) (hC : ∀ dd, Caught X.K CS (.ref c) (some dd) c dd) (hk : PySem.W.kitOne X.K (.ref c) (.ref c) = some true)
    (h : ∀ (H : Hp) (E1 : XK), Xok (inner F Γ H) E1 (fun C d => C = c ∧ P (.im d) Γ) → VE (inner F Γ H) n (Γ.map hush) (tb E1) fun _ _ => P (.im .none) Γ) :
    VE F n Γ (tLamW (L2N.CX X.prog X.w) X F.T j q (spHeard1 X.prog X.w X.K X.mg X.base j CS c) [] E tNil tb) P := fun σ H Q R qq => ⟨R.tb h0, fun f c' H1 s1 t1 ec => fun fs h' ac => by
  obtain ⟨R1, n1⟩ := R.sameT (H' := H1) (fun b o nt e => s1 b o e nt) (fun _ => t1)
  refine ⟨f, _, _, rfl, ac, ec, ?_⟩
  refine h H1 _ (fun C d hp m Γ2 σ2 H2 R2 v dd H' nx kp x nd => ?_) σ H1 _ R1.inner (fun v y Γ2 H2 p nx R2 ok => ?_)
  · obtain ⟨rfl, p⟩ := hp
    obtain ⟨R3, n3⟩ := R1.sameT (H' := H') (fun b o nt e => kp.1 b o (fun z => z) nt e) kp.2
    have s4 := same_upd (o := .xd [("value", v)]) nd
    refine ⟨C, dd, [("value", v)], v, true, hC dd, upd_same, rfl, hk, ?_⟩
    show Q v _
    exact qq v (.im d) Γ _ p ((n1.trans n3).trans (.same s4)) (R3.same s4) (Dz.nxt (.same s4) _ _ x)
  · obtain ⟨R3, n3⟩ := R1.sameT (H' := H2) (fun b o nt e => R2.fr b o (fun z => z) nt e) R2.tb
    exact qq .non (.im .none) Γ H2 p (n1.trans n3) R3 (.flat rfl)⟩
theorem ve_heardC {P : Program} {w : World} {K : PySem.W.Frag} {mg : Str → Option Value} {base : Heap} {N : List Str} {qual : Str} {sc : Scope} {f : Addr} {cdv : Value} {A : Around} {outer : List Env} {s : Shared} {Hx : Hp} {Ex : XK} {j : Nat} {q : Str} {CS c : Addr} {E : XK} {tb : XK → TE} {P' : Val → List Ent → Prop} (h0 : LamX.Tabs F.T F.H0) (hC : ∀ dd, Caught K CS (.ref c) (some dd) c dd) (hk : PySem.W.kitOne K (.ref c) (.ref c) = some true)
    (h : ∀ (H : Hp) (E1 : XK), Xok (inner F Γ H) E1 (fun C d => C = c ∧ P' (.im d) Γ) → VE (inner F Γ H) n (Γ.map hush) (tb E1) fun _ _ => P' (.im .none) Γ) :
    VE F n Γ (tLamW (L2N.CX P w) (cxOf CX0 P w K mg base N qual sc f cdv A outer s Hx Ex).nox F.T j q (spHeard1 P w K mg base j CS c) [] E tNil tb) P' :=
  ve_heard1 (X := (cxOf CX0 P w K mg base N qual sc f cdv A outer s Hx Ex).nox) h0 hC hk h
/-- as SpV, tables known -/
def SpVT (T : List (Addr × Str)) (A : List Ent → (Val → List Ent → Prop) → Prop) : Sp := fun vs H Q E => LamX.Tabs T H ∧ ∃ (S0 : Addr → Prop) (es : List Ent), Rep ⟨S0, H, In es, T⟩ vs.length es (vs.map some) H ∧ es.length = vs.length ∧
  A es (fun x outs => ∀ v H', Rep ⟨S0, H, In es, T⟩ 0 outs [] H' → x.ok (Ex ⟨S0, H, In es, T⟩ outs) H' v → Q v H')
end
end Vl

set_option Elab.async false
set_option linter.all false
set_option maxRecDepth 100000
set_option maxHeartbeats 4000000
namespace Hw
open PySem L2 PyProof.Rows Vl
/-! lines that cannot stand behind a history -/
def deedD : Deed → PyData
  | .come n ts => .tuple [.str sCome, .str n, .tuple (ts.map PyData.str)]
  | .die n => .tuple [.str sDie, .str n]
theorem lkS_cons (p : Str × Bool) (kvs : Liv) (y : Str) : lkS (p :: kvs) y = if p.1 = y then some p.2 else lkS kvs y := by
  unfold lkS
  rw [List.find?_cons]
  by_cases h : p.1 = y
  · rw [decide_eq_true h, if_pos h]; rfl
  · rw [decide_eq_false h, if_neg h]
theorem lkS_mapN {z y : Str} {b : Bool} (hy : y ≠ z) : ∀ kvs : Liv, lkS (kvs.map fun p => if p.1 = z then (p.1, b) else p) y = lkS kvs y
  | [] => rfl
  | p :: kvs => by
    rw [List.map_cons, lkS_cons, lkS_cons, lkS_mapN hy kvs]
    by_cases hp : p.1 = z
    · rw [if_pos hp, if_neg (show ¬ p.1 = y from fun e => hy (by rw [← e]; exact hp)), if_neg (show ¬ p.1 = y from fun e => hy (by rw [← e]; exact hp))]
    · rw [if_neg hp]
theorem lkS_mapE {z : Str} {b : Bool} : ∀ kvs : Liv, (kvs.any fun p => decide (p.1 = z)) = true → lkS (kvs.map fun p => if p.1 = z then (p.1, b) else p) z = some b
  | [], h => by cases h
  | p :: kvs, h => by
    rw [List.map_cons, lkS_cons]
    by_cases hp : p.1 = z
    · rw [if_pos hp, if_pos (show p.1 = z from hp)]
    · rw [if_neg hp, if_neg hp]
      rw [List.any_cons, decide_eq_false hp, Bool.false_or] at h
      exact lkS_mapE kvs h
theorem lkS_app {z y : Str} {b : Bool} : ∀ kvs : Liv, ¬ (kvs.any fun p => decide (p.1 = z)) = true → lkS (kvs ++ [(z, b)]) y = if y = z then some b else lkS kvs y
  | [], _ => by
    rw [List.nil_append, lkS_cons]
    by_cases h : y = z
    · rw [if_pos h, if_pos (show z = y from h.symm)]
    · rw [if_neg h, if_neg (show ¬ z = y from fun e => h e.symm)]
  | p :: kvs, h => by
    rw [List.any_cons, Bool.or_eq_true] at h
    have hp : ¬ p.1 = z := fun e => h (.inl (decide_eq_true e))
    rw [List.cons_append, lkS_cons, lkS_cons, lkS_app kvs fun q => h (.inr q)]
    by_cases h1 : p.1 = y
    · rw [if_pos h1, if_pos h1, if_neg (fun e => hp (by rw [h1, e]))]
    · rw [if_neg h1, if_neg h1]
theorem lkS_put (kvs : Liv) (z y : Str) (b : Bool) : lkS (putS kvs z b) y = if y = z then some b else lkS kvs y := by
  unfold putS
  by_cases h : (kvs.any fun p => decide (p.1 = z)) = true
  · rw [if_pos h]
    by_cases hy : y = z
    · rw [if_pos hy, hy, lkS_mapE kvs h]
    · rw [if_neg hy, lkS_mapN hy]
  · rw [if_neg h, lkS_app kvs h]
theorem die_come : isS (.str sDie) sCome = false := by decide +kernel
theorem die_comeD (n : Str) : comD (.tuple [.str sDie, .str n]) = false := die_come
theorem come_comeD (n : Str) (t : PyData) : comD (.tuple [.str sCome, .str n, t]) = true := by
  show decide (sCome = sCome) = true
  exact decide_eq_true rfl
/-- what is known of the names behind a history -/
theorem lives_hist {ds : List Deed} (h : Hist ds) (z : Str) : lkS (livesF (ds.map deedD)) z = if z ∈ cameD ds then some (decide (z ∈ liv ds)) else none := by
  induction h with
  | nil => rfl
  | @come ds n ts h nm new asc sub ih =>
    rw [List.map_append, List.map_singleton, livesF_snoc, lkS_put, ih, came_snoc, liv_snoc]
    show (if z = n then some (comD (.tuple [.str sCome, .str n, _])) else _) = if z ∈ cameD ds ++ [n] then some (decide (z ∈ liv ds ++ [n])) else none
    rw [come_comeD]
    by_cases e : z = n
    · rw [if_pos e, if_pos (by rw [e]; simp), decide_eq_true (by rw [e]; simp)]
    · rw [if_neg e]
      have e1 : (z ∈ cameD ds ++ [n]) = (z ∈ cameD ds) := by simp [e]
      have e2 : (z ∈ liv ds ++ [n]) = (z ∈ liv ds) := by simp [e]
      simp only [e1, e2]
  | @die ds n h lv ih =>
    have ec : cameD (ds ++ [.die n]) = cameD ds := by rw [came_snoc]; exact List.append_nil _
    have el : liv (ds ++ [.die n]) = (liv ds).filter fun z => decide (z ≠ n) := liv_snoc ds (.die n)
    rw [List.map_append, List.map_singleton, livesF_snoc, lkS_put, ih]
    simp only [ec, el]
    show (if z = n then some (comD (.tuple [.str sDie, .str n])) else _) = _
    rw [die_comeD]
    by_cases e : z = n
    · rw [if_pos e, if_pos (by rw [e]; exact h.liv_came n lv), decide_eq_false (by rw [e]; simp)]
    · rw [if_neg e]
      have e2 : (z ∈ (liv ds).filter fun z => decide (z ≠ n)) = (z ∈ liv ds) := by simp [e]
      simp only [e2]
theorem livB_hist {ds : List Deed} (h : Hist ds) (z : Str) : livB (livesF (ds.map deedD)) (.str z) = decide (z ∈ liv ds) := by
  show (lkS _ z).getD false = _
  rw [lives_hist h]
  by_cases hc : z ∈ cameD ds
  · rw [if_pos hc]; rfl
  · rw [if_neg hc, decide_eq_false fun m => hc (h.liv_came z m)]; rfl
theorem strs_map (ts : List Str) : strsD (ts.map PyData.str) = ts := by
  induction ts with
  | nil => rfl
  | cons t ts ih => show t :: strsD (ts.map PyData.str) = _; rw [ih]
theorem asc_ascB {zs : List Str} (h : Asc zs) : ascB zs = true := by
  unfold ascB
  rw [List.all_eq_true]
  intro b hb
  unfold ascL at hb
  obtain ⟨p, hp, rfl⟩ := List.mem_map.mp hb
  obtain ⟨i, hi⟩ := List.mem_iff_getElem?.mp hp
  rw [List.getElem?_zip_eq_some, List.getElem?_drop] at hi
  exact decide_eq_true (asc_at h hi.1 (by rw [Nat.add_comm]; exact hi.2))
theorem nameS_nm {z : Str} (h : NmX z) : nameS z = true := by
  unfold nameS
  rw [decide_eq_true h.2.1, nm_ascii h, nm_alpha h, nm_lower h]; rfl
theorem lives_len_hist {ds : List Deed} (hl : ds.length ≤ 100) : (livesF (ds.map deedD)).length < 200 := by
  have := livesF_len (ds.map deedD)
  rw [List.length_map] at this
  omega
/-- each deed of a history can stand -/
theorem stand_hist {ds : List Deed} {d : Deed} (h : Hist (ds ++ [d])) (hl : ds.length < 100) : standB (livesF (ds.map deedD)) ds.length (deedD d) = true := by
  have h0 := h.pre
  cases d with
  | come n ts =>
    obtain ⟨h1, h2, h3, h4⟩ := h.last_come
    show (decide (ds.length < 400) && (isS (.str sCome) sCome && comeB _ (.str n) (.tuple (ts.map PyData.str)))) = true
    have e1 : isS (.str sCome) sCome = true := by
      show decide (sCome = sCome) = true
      exact decide_eq_true rfl
    have e2 : comeB (livesF (ds.map deedD)) (.str n) (.tuple (ts.map PyData.str)) = true := by
      show (nameS n && (!(lkS _ n).isSome && (decide (_ < 200) && livesB _ _))) = true
      rw [nameS_nm h1, lives_hist h0, if_neg h2, decide_eq_true (lives_len_hist (by omega))]
      show ((ts.map PyData.str).all (livB _) && ascB (strsD (ts.map PyData.str))) = true
      rw [strs_map, asc_ascB h3, Bool.and_true, List.all_map, List.all_eq_true]
      intro t ht
      show livB _ (.str t) = true
      rw [livB_hist h0]
      exact decide_eq_true (h4 t ht)
    rw [e1, e2, decide_eq_true (by omega)]; rfl
  | die n =>
    show (decide (ds.length < 400) && (isS (.str sDie) sDie && livB _ (.str n))) = true
    have e1 : isS (.str sDie) sDie = true := by
      show decide (sDie = sDie) = true
      exact decide_eq_true rfl
    rw [e1, livB_hist h0, decide_eq_true h.last_die, decide_eq_true (by omega)]; rfl
theorem deedW2 (w0 w1 : Str) (rest : List Str) : deedW (w0 :: w1 :: rest) = if w0 = sCome then .tuple [.str sCome, .str w1, .tuple (rest.map PyData.str)] else .tuple ((w0 :: w1 :: rest).map PyData.str) := rfl
theorem deedW_line {d : Deed} (f : FineD d) : deedW (Txt.split (deedLine d) sBl) = deedD d := by
  rw [f.split]
  cases d with
  | come n ts =>
    show deedW (sCome :: n :: ts) = _
    rw [deedW2, if_pos rfl]; rfl
  | die n =>
    show deedW [sDie, n] = _
    rw [deedW2, if_neg (by decide +kernel)]; rfl
/-- the deeds of a history are read -/
theorem readL_hist {ds : List Deed} (h : Hist ds) (hl : ds.length ≤ 100) (rest : List Str) : ∀ i, i ≤ ds.length → readL ((ds.drop (ds.length - i)).map deedLine ++ rest) (ds.length - i + 1) ((ds.take (ds.length - i)).map deedD) = readL rest (ds.length + 1) (ds.map deedD)
  | 0, _ => by
    rw [Nat.sub_zero, List.drop_length, List.take_length]; rfl
  | i + 1, hi => by
    have hlt : ds.length - (i + 1) < ds.length := by omega
    have ih := readL_hist h hl rest i (by omega)
    have e1 : ds.length - i = ds.length - (i + 1) + 1 := by omega
    rw [e1] at ih
    generalize ds.length - (i + 1) = k at ih hlt ⊢
    rw [List.drop_eq_getElem_cons hlt, List.map_cons, List.cons_append]
    have ht : ds.take (k + 1) = ds.take k ++ [ds[k]] := take_snoc (List.getElem?_eq_getElem hlt)
    have hh := h.take (k + 1)
    rw [ht] at hh
    have fd := FineD.of h hl (List.getElem_mem hlt)
    have hs := stand_hist hh (by rw [List.length_take]; omega)
    rw [List.length_take, Nat.min_eq_left (by omega)] at hs
    show (if standB (livesF ((ds.take k).map deedD)) ((ds.take k).map deedD).length (deedW (Txt.split (deedLine ds[k]) sBl)) = true then readL ((ds.drop (k + 1)).map deedLine ++ rest) (k + 1 + 1) ((ds.take k).map deedD ++ [deedW (Txt.split (deedLine ds[k]) sBl)]) else .inl (k + 1)) = _
    rw [deedW_line fd, List.length_map, List.length_take, Nat.min_eq_left (by omega), if_pos hs]
    rw [← ih, ht, List.map_append]; rfl
theorem readL_pre {ds : List Deed} (h : Hist ds) (hl : ds.length ≤ 100) (rest : List Str) : readL (ds.map deedLine ++ rest) 1 [] = readL rest (ds.length + 1) (ds.map deedD) := by
  have := readL_hist h hl rest ds.length (Nat.le_refl _)
  rw [Nat.sub_self, List.drop_zero, List.take_zero] at this
  exact this
/-- a line that cannot stand behind the deeds -/
structure Bad (ds : List Deed) (z : Str) : Prop where
  ex : ∃ ws, z = Txt.join sBl ws ∧ ws ≠ [] ∧ ws.length ≤ 9 ∧ (∀ w ∈ ws, 32 ∉ w.cps.toList ∧ 10 ∉ w.cps.toList ∧ w.length ≤ 20) ∧ standB (livesF (ds.map deedD)) ds.length (deedW ws) = false
theorem Bad.split {ds : List Deed} {z : Str} (b : Bad ds z) : ∃ ws, Txt.split z sBl = ws ∧ ws ≠ [] ∧ ws.length ≤ 9 ∧ (∀ w ∈ ws, w.length ≤ 20) ∧ z.length ≤ 200 ∧ 10 ∉ z.cps.toList ∧ standB (livesF (ds.map deedD)) ds.length (deedW ws) = false := by
  obtain ⟨ws, rfl, h1, h2, h3, h4⟩ := b.ex
  refine ⟨ws, split_bl h1 fun p hp => (h3 p hp).1, h1, h2, fun w hw => (h3 w hw).2.2, ?_, fun hm => ?_, h4⟩
  · refine Nat.le_trans (join_len _ _) ?_
    have hs := sum_le (ps := ws) (b := 20) fun p hp => (h3 p hp).2.2
    have e1 : sBl.length = 1 := by decide +kernel
    rw [e1]
    omega
  · rcases join_mem hm with h | ⟨p, hp, h⟩
    · exact absurd h (by decide +kernel)
    · exact (h3 p hp).2.1 h
end Hw

set_option Elab.async false
set_option linter.all false
set_option maxRecDepth 100000
set_option maxHeartbeats 4000000
namespace Hw
open PySem L2 PyProof.Rows Vl
section
variable {F : Frm} {n : Nat} {Γ : List Ent} {te : TE}
theorem dz_deed {S : Addr → Prop} {H : Hp} {v : V} {d : Deed} (h : Dz S H v (deedD d)) : ∃ q, v = .ref q ∧ DeedAt H q d := by
  cases d with
  | come n ts =>
    obtain ⟨q, xs, rfl, e, _, a⟩ := Dz.tuple h
    refine ⟨q, rfl, ?_⟩
    cases a with
    | cons a1 a =>
      cases a with
      | cons a2 a =>
        cases a with
        | cons a3 a =>
          cases a
          obtain ⟨t, ys, rfl, e2, _, a4⟩ := Dz.tuple a3
          rw [a1.str, a2.str] at e
          rw [DzAll.strs a4] at e2
          exact ⟨t, e, e2⟩
  | die n =>
    obtain ⟨q, xs, rfl, e, _, a⟩ := Dz.tuple h
    refine ⟨q, rfl, ?_⟩
    cases a with
    | cons a1 a =>
      cases a with
      | cons a2 a =>
        cases a
        rw [a1.str, a2.str] at e
        exact e
theorem dz_deeds {S : Addr → Prop} {H : Hp} : ∀ {vs : List V} {ds : List Deed}, DzAll S H vs (ds.map deedD) → ∃ qs : List Addr, vs = qs.map V.ref ∧ Paired (DeedAt H) qs ds
  | _, [], h => by cases h; exact ⟨[], rfl, .nil⟩
  | _, d :: ds, h => by
    cases h with
    | cons h1 h2 =>
      obtain ⟨q, rfl, e⟩ := dz_deed h1
      obtain ⟨qs, rfl, p⟩ := dz_deeds h2
      exact ⟨q :: qs, rfl, .cons e p⟩
theorem deed_dz {S : Addr → Prop} {H : Hp} (hS : ∀ b xs, H b = some (.tup xs) → ¬ S b) {q : Addr} {d : Deed} (h : DeedAt H q d) : Dz S H (.ref q) (deedD d) := by
  cases d with
  | come n ts =>
    obtain ⟨t, e1, e2⟩ := h
    exact .tup e1 (hS _ _ e1) (.cons (.flat rfl) (.cons (.flat rfl) (.cons (.tup e2 (hS _ _ e2) (DzAll.ofStrs ts)) .nil)))
  | die n => exact .tup h (hS _ _ h) (.cons (.flat rfl) (.cons (.flat rfl) .nil))
theorem deeds_dz {S : Addr → Prop} {H : Hp} (hS : ∀ b xs, H b = some (.tup xs) → ¬ S b) : ∀ {qs : List Addr} {ds : List Deed}, Paired (DeedAt H) qs ds → DzAll S H (qs.map V.ref) (ds.map deedD)
  | _, _, .nil => .nil
  | _, _, .cons h t => .cons (deed_dz hS h) (deeds_dz hS t)
/-- _law_living(deeds) -/
theorem ve_living {j : Nat} {l : Addr} {ta : TA} {E : XK} {P : Val → List Ent → Prop} (h : VAs F n Γ ta fun xs Γ1 => ∃ ds : List Deed, xs = [.vl (.ref l)] ∧ Γ1[j]? = some (.ls l (ds.map deedD)) ∧ Hist ds ∧ ds.length ≤ 100 ∧ ∀ t, P (.vl (.ref t)) (Γ1 ++ [.ls t ((sortS (liv ds)).map PyData.str)])) : VE F n Γ (tCall spLiving [] E ta) P := fun σ H Q R q =>
  h σ H _ R fun vs xs Γ1 H1 ⟨ds, hx, he, hH, hl, p⟩ s1 R1 ok => by
    subst hx
    cases ok with
    | cons o1 o2 =>
      cases o2
      have o1 : _ = V.ref l := o1
      subst o1
      obtain ⟨o, g1, g2, xs, e, al⟩ := R1.ok j _ he
      obtain ⟨qs, rfl, pq⟩ := dz_deeds al
      refine ⟨l, ds, rfl, ⟨qs, e, pq⟩, hH, hl, fun t H' s nt et => ?_⟩
      obtain ⟨R2, n2⟩ := R1.push (e := .ls t ((sortS (liv ds)).map PyData.str)) (o := some (.ref t)) s (fun a ha => by rw [List.mem_singleton.mp ha]; exact nt) ⟨rfl, _, et, DzAll.ofStrs _⟩
      exact q _ _ _ _ (p t) (s1.trans n2) R2 rfl
/-- _law_history(pot, places, more, wood), where the pot is all that is owned -/
theorem ve_hist {j : Nat} {a : Addr} {ta : TA} {E : XK} {P : Val → List Ent → Prop} (h : VAs F n Γ ta fun xs Γ1 => ∃ (pl mo : Nat) (wd : Bool) (N : Nat), xs = [.vl (.ref a), .im (.int pl), .im (.int mo), .im (.bool wd)] ∧ Γ1[j]? = some (.pot a N) ∧ (∀ b, Ex F Γ1 b → b = a) ∧ N < 200000000 ∧ 2 ≤ pl ∧ pl ≤ 30 ∧ mo ≤ 30 ∧
      ∀ ds : List Deed, Hist ds → ds.length ≤ pl + mo → P (.im (.list (ds.map deedD))) (Γ1.set j (.pot a (N + 3000)))) : VE F n Γ (tCall spHist [] E ta) P := fun σ H Q R q =>
  h σ H _ R fun vs xs Γ1 H1 ⟨pl, mo, wd, N, hx, he, hex, hN, p2, p30, m30, p⟩ s1 R1 ok => by
    subst hx
    cases ok with
    | cons o1 ok =>
      cases ok with
      | cons o2 ok =>
        cases ok with
        | cons o3 ok =>
          cases ok with
          | cons o4 ok =>
            cases ok
            have o1 : _ = V.ref a := o1
            subst o1
            have o2 := Dz.int o2
            have o3 := Dz.int o3
            have o4 := Dz.bool o4
            subst o2
            subst o3
            subst o4
            obtain ⟨o, g1, g2, pot⟩ := R1.ok j _ he
            refine ⟨a, pl, mo, wd, N, rfl, pot, hN, p2, p30, m30, fun t ds H' hH hl _ hd s P' => ?_⟩
            have wr := R1.write (e' := .pot a (N + 3000)) (H' := H') he (o' := o) g1 (fun b hb => .inl hb) (fun b w hb e => s b w (fun z => hb (by rw [z]; exact List.mem_cons_self)) e) ⟨g2, P'⟩
            have hin : j < Γ1.length := (List.getElem?_eq_some_iff.mp he).1
            have ex2 : ∀ b, Ex F (Γ1.set j (.pot a (N + 3000))) b → b = a := fun b hb => by
              rcases hb with z | ⟨u, hu, hau⟩
              · exact hex b (.inl z)
              · rcases List.mem_or_eq_of_mem_set hu with z | z
                · exact hex b (.inr ⟨u, z, hau⟩)
                · subst z; exact List.mem_singleton.mp hau
            obtain ⟨qs, e, pq⟩ := hd
            have hS : ∀ b xs, H' b = some (.tup xs) → ¬ Ex F (Γ1.set j (.pot a (N + 3000))) b := fun b xs eb z => pot_tup P' eb (ex2 b z)
            exact q _ _ _ _ (p ds hH hl) (s1.trans wr.2) wr.1 (.lst e (fun z => pot_ne_refs P' e (ex2 _ z).symm) (deeds_dz hS pq))
theorem o2_neNil {K : PySem.W.Frag} {x y : Val} {ds : List PyData} {P : Val → List Ent → Prop} (s1 : Sq Γ true x ds) (s2 : Sq Γ true y []) (p : P (.im (.bool (!ds.isEmpty))) Γ) : O2 F n (rNilL true K) x y Γ P := fun σ H v w Q R ok1 ok2 q => by
  obtain ⟨a, xs, rfl, al, e1⟩ := s1.get R ok1
  obtain ⟨b, ys, rfl, bl, e2⟩ := s2.get R ok2
  cases bl
  have e1 : H a = some (.lst xs) := e1
  have e2 : H b = some (.lst []) := e2
  have el : ds.isEmpty = xs.isEmpty := by cases al <;> rfl
  rw [el] at p
  exact ⟨a, b, xs, rfl, rfl, sql_of e1, sql_of e2, q.now R p (.flat rfl)⟩
theorem ve_upper {to : TE} {P : Val → List Ent → Prop} (h : VE F n Γ to fun x Γ1 => ∃ z : Str, x = .im (.str z) ∧ z.length ≤ 5592405 ∧ P (.im (.str (Txt.upper z))) Γ1) : VE F n Γ (tM0 (fun x xs H Q => ∃ a, x = V.str a ∧ xs = [] ∧ a.length ≤ 5592405 ∧ Q (V.str (Txt.upper a)) H) to) P := fun σ H Q R q =>
  h σ H _ R fun v x Γ1 H1 ⟨z, hx, hl, p⟩ s1 R1 ok => by
    subst hx
    have ok : Dz _ _ _ _ := ok
    have ok := ok.str
    subst ok
    exact ⟨⟨_, rfl⟩, z, rfl, rfl, hl, (q.pre s1).now R1 p (.flat rfl)⟩
end
/-! the lines -/
theorem app_assoc (x y z : Str) : (x ++ y) ++ z = x ++ (y ++ z) := str_ext (by rw [app_cps, app_cps, app_cps, app_cps, List.append_assoc])
theorem jn1 (a : Str) : Txt.join sBl [a] = a := by rw [TL.join_eq]; rfl
theorem jn2 (a b : Str) : Txt.join sBl [a, b] = a ++ (sBl ++ b) := by rw [TL.join_eq]; show a ++ sBl ++ b = _; rw [app_assoc]
theorem jn3 (a b c : Str) : Txt.join sBl [a, b, c] = a ++ (sBl ++ (b ++ (sBl ++ c))) := by rw [TL.join_eq]; show a ++ sBl ++ (b ++ sBl ++ c) = _; rw [app_assoc, app_assoc]
theorem jn4 (a b c d : Str) : Txt.join sBl [a, b, c, d] = a ++ (sBl ++ (b ++ (sBl ++ (c ++ (sBl ++ d))))) := by rw [TL.join_eq]; show a ++ sBl ++ (b ++ sBl ++ (c ++ sBl ++ d)) = _; rw [app_assoc, app_assoc, app_assoc]
def sNew : Str := Str.ofString "newest"
theorem bad_come {kvs : Liv} {m : Nat} {n : Str} {ts : List Str} (h : nameS n = false ∨ (lkS kvs n).isSome = true ∨ ts.all (fun t => livB kvs (.str t)) = false ∨ ascB ts = false) : standB kvs m (deedW (sCome :: n :: ts)) = false := by
  rw [deedW2, if_pos rfl]
  show (decide (m < 400) && (isS (.str sCome) sCome && comeB kvs (.str n) (.tuple (ts.map PyData.str)))) = false
  have e : comeB kvs (.str n) (.tuple (ts.map PyData.str)) = false := by
    show (nameS n && (!(lkS kvs n).isSome && (decide (kvs.length < 200) && ((ts.map PyData.str).all (livB kvs) && ascB (strsD (ts.map PyData.str)))))) = false
    rw [strs_map, List.all_map]
    rcases h with h | h | h | h
    · rw [h]; rfl
    · rw [h, Bool.not_true, Bool.false_and, Bool.and_false]
    · have h : ts.all (livB kvs ∘ PyData.str) = false := h
      rw [h, Bool.false_and, Bool.and_false, Bool.and_false, Bool.and_false]
    · rw [h, Bool.and_false, Bool.and_false, Bool.and_false, Bool.and_false]
  rw [e, Bool.and_false, Bool.and_false]
theorem bad_die {kvs : Liv} {m : Nat} {n : Str} (h : livB kvs (.str n) = false) : standB kvs m (deedW [sDie, n]) = false := by
  rw [deedW2, if_neg (by decide +kernel)]
  show (decide (m < 400) && (isS (.str sDie) sDie && livB kvs (.str n))) = false
  rw [h, Bool.and_false, Bool.and_false]
theorem bad_one {kvs : Liv} {m : Nat} {w : Str} : standB kvs m (deedW [w]) = false := rfl
theorem bad_two {kvs : Liv} {m : Nat} {w n : Str} (h1 : w ≠ sCome) (h2 : w ≠ sDie) : standB kvs m (deedW [w, n]) = false := by
  rw [deedW2, if_neg h1]
  show (decide (m < 400) && (decide (w = sDie) && livB kvs (.str n))) = false
  rw [decide_eq_false h2, Bool.false_and, Bool.and_false]
theorem bad_three {kvs : Liv} {m : Nat} {w a b : Str} (h1 : w ≠ sCome) : standB kvs m (deedW [w, a, b]) = false := by
  rw [deedW2, if_neg h1]
  show (decide (m < 400) && (decide (w = sCome) && comeB kvs (.str a) (.str b))) = false
  rw [decide_eq_false h1, Bool.false_and, Bool.and_false]
def WdOk (w : Str) : Prop := 32 ∉ w.cps.toList ∧ 10 ∉ w.cps.toList ∧ w.length ≤ 20
instance (w : Str) : Decidable (WdOk w) := by unfold WdOk; exact inferInstance
theorem wd_nm {z : Str} (h : NmX z) : WdOk z := ⟨nm_no h (by decide), nm_no h (by decide), by have := h.2.1; omega⟩
theorem nm_not {ds : List Deed} (h : Hist ds) {z : Str} (hz : ¬ NmX z) : livB (livesF (ds.map deedD)) (.str z) = false := by
  rw [livB_hist h]
  exact decide_eq_false fun m => hz (h.nm z (h.liv_came z m))
end Hw

set_option Elab.async false
set_option linter.all false
set_option maxRecDepth 100000
set_option maxHeartbeats 4000000
namespace Hw
open PySem L2 PyProof.Rows Vl
section
variable {F : Frm} {n : Nat} {Γ : List Ent} {te : TE}
theorem vs_ifJ {c : TT} {t1 t2 u : TS} {D : Ends} {σ : L2.St} {H : Hp} (R : Rep F n Γ σ H) (J : List Ent → Prop) (hj : ∀ Γ σ H, J Γ → Rep F n Γ σ H → u D σ H)
    (h : VT F n Γ c fun b Γ1 => ∀ H1, Rep F n (Γ1.take Γ.length) σ H1 → ∀ D' : Ends, (∀ Γ σ H, J Γ → Rep F n Γ σ H → D'.nx σ H) → D'.rt = D.rt → if b = true then t1 D' σ H1 else t2 D' σ H1) : tSeq (tIfS c t1 t2) u D σ H :=
  vs_if R (h.mono fun b Γ1 k H1 R1 => k H1 R1 { D with nx := u D } hj rfl)
theorem ve_of2 {K : PySem.W.Frag} {j : Nat} {a : Addr} {ta : TA} {E : XK} {P : Val → List Ent → Prop} (h : VAs F n Γ ta fun xs Γ1 => ∃ (y : Val) (ds : List PyData) (N : Nat), xs = [.vl (.ref a), y] ∧ Γ1[j]? = some (.pot a N) ∧ Sq Γ1 true y ds ∧ N < 1000000000 ∧ y ≠ .vl (.ref a) ∧ 0 < ds.length ∧ ds.length < 1000000000 ∧ ∀ d ∈ ds, P (.im d) (Γ1.set j (.pot a (N + 1)))) : VE F n Γ (tCall (spOf2 K) [] E ta) P := fun σ H Q R q =>
  h σ H _ R fun vs xs Γ1 H1 ⟨y, ds, N, hx, he, sq, hN, hne, l0, l1, p⟩ s1 R1 ok => by
    subst hx
    cases ok with
    | cons o1 o2 =>
      cases o2 with
      | cons o2 o3 =>
        cases o3
        have o1 : _ = V.ref a := o1
        subst o1
        obtain ⟨o, g1, g2, pot⟩ := R1.ok j _ he
        obtain ⟨b, ys, rfl, al, eb⟩ := sq.get R1 o2
        have eb : H1 b = some (.lst ys) := eb
        have inA : In Γ1 a := ⟨_, List.mem_of_getElem? he, List.mem_cons_self⟩
        have nab : a ≠ b := fun z => by
          subst z
          cases sq with
          | lst ds =>
            obtain ⟨p', _, e1, _, n1, _⟩ := Dz.list o2
            cases e1
            exact n1 (.inr inA)
          | own h =>
            have o2 : V.ref a = V.ref _ := o2
            cases o2
            exact hne rfl
          | inn h m =>
            have o2 : V.ref a = V.ref _ := o2
            cases o2
            exact hne rfl
        refine .inl ⟨a, b, ys, N, rfl, pot, hN, sql_of eb, nab, by rw [al.length]; exact l0, by rw [al.length]; exact l1, fun i v H' hv s P' => ?_⟩
        obtain ⟨d, hd, x⟩ := al.get hv
        have wr := R1.write (e' := .pot a (N + 1)) (H' := H') he (o' := o) g1 (fun b hb => .inl hb) (fun b w hb e => s b w (fun z => hb (by rw [z]; exact List.mem_cons_self)) e) ⟨g2, P'⟩
        exact q _ _ _ _ (p d (List.mem_of_getElem? hd)) (s1.trans wr.2) wr.1 (Dz.nxt wr.2 _ _ x)
end
theorem mkB {ds : List Deed} {z : Str} (ws : List Str) (e : z = Txt.join sBl ws) (h1 : ws ≠ []) (h2 : ws.length ≤ 9) (h3 : ∀ w ∈ ws, WdOk w) (h4 : standB (livesF (ds.map deedD)) ds.length (deedW ws) = false) : Bad ds z := ⟨⟨ws, e, h1, h2, h3, h4⟩⟩
theorem w1 {a : Str} (h : WdOk a) : ∀ w ∈ [a], WdOk w := fun w hw => by rw [List.mem_singleton.mp hw]; exact h
theorem w2 {a b : Str} (h : WdOk a) (h2 : WdOk b) : ∀ w ∈ [a, b], WdOk w := List.forall_mem_cons.mpr ⟨h, w1 h2⟩
theorem w3 {a b c : Str} (h : WdOk a) (h2 : WdOk b) (h3 : WdOk c) : ∀ w ∈ [a, b, c], WdOk w := List.forall_mem_cons.mpr ⟨h, w2 h2 h3⟩
theorem w4 {a b c d : Str} (h : WdOk a) (h2 : WdOk b) (h3 : WdOk c) (h4 : WdOk d) : ∀ w ∈ [a, b, c, d], WdOk w := List.forall_mem_cons.mpr ⟨h, w3 h2 h3 h4⟩
def nNew : Str := Str.ofString "new"
def lits1 : List Str := ["", " ", "come", "die", "go new", "Come new", "come New", "come ninesigns", "come new ", " come new"]
def lits2 : List Str := ["come  new", "die new", "come new new", "come new nosuch", "come n1", "die  a", "coming new", "new"]
theorem noLiv {ds : List Deed} (h : Hist ds) {z : Str} (hz : z ∉ cameD ds) : livB (livesF (ds.map deedD)) (.str z) = false := by
  rw [livB_hist h]
  exact decide_eq_false fun m => hz (h.liv_came z m)
theorem all_one {kvs : Liv} {t : Str} (h : livB kvs (.str t) = false) : ([t] : List Str).all (fun t => livB kvs (.str t)) = false := by
  rw [List.all_cons, h]; rfl
theorem lits1_bad {ds : List Deed} (h : Hist ds) (hn : nNew ∉ cameD ds) : ∀ z ∈ lits1, Bad ds z := by
  intro z hz
  simp only [lits1, List.mem_cons, List.not_mem_nil, or_false] at hz
  rcases hz with rfl | rfl | rfl | rfl | rfl | rfl | rfl | rfl | rfl | rfl
  · exact mkB [Str.ofString ""] (by decide +kernel) (by simp) (by decide) (by decide +kernel) bad_one
  · exact mkB [Str.ofString "", Str.ofString ""] (by decide +kernel) (by simp) (by decide) (by decide +kernel) (bad_two (by decide +kernel) (by decide +kernel))
  · exact mkB [Str.ofString "come"] (by decide +kernel) (by simp) (by decide) (by decide +kernel) bad_one
  · exact mkB [Str.ofString "die"] (by decide +kernel) (by simp) (by decide) (by decide +kernel) bad_one
  · exact mkB [Str.ofString "go", Str.ofString "new"] (by decide +kernel) (by simp) (by decide) (by decide +kernel) (bad_two (by decide +kernel) (by decide +kernel))
  · exact mkB [Str.ofString "Come", Str.ofString "new"] (by decide +kernel) (by simp) (by decide) (by decide +kernel) (bad_two (by decide +kernel) (by decide +kernel))
  · exact mkB [sCome, Str.ofString "New"] (by decide +kernel) (by simp) (by decide) (by decide +kernel) (bad_come (.inl (by decide +kernel)))
  · exact mkB [sCome, Str.ofString "ninesigns"] (by decide +kernel) (by simp) (by decide) (by decide +kernel) (bad_come (.inl (by decide +kernel)))
  · exact mkB [sCome, Str.ofString "new", Str.ofString ""] (by decide +kernel) (by simp) (by decide) (by decide +kernel) (bad_come (.inr (.inr (.inl (all_one (nm_not h (by decide +kernel)))))))
  · exact mkB [Str.ofString "", Str.ofString "come", Str.ofString "new"] (by decide +kernel) (by simp) (by decide) (by decide +kernel) (bad_three (by decide +kernel))
theorem lits2_bad {ds : List Deed} (h : Hist ds) (hn : nNew ∉ cameD ds) : ∀ z ∈ lits2, Bad ds z := by
  intro z hz
  simp only [lits2, List.mem_cons, List.not_mem_nil, or_false] at hz
  rcases hz with rfl | rfl | rfl | rfl | rfl | rfl | rfl | rfl
  · exact mkB [sCome, Str.ofString "", Str.ofString "new"] (by decide +kernel) (by simp) (by decide) (by decide +kernel) (bad_come (.inl (by decide +kernel)))
  · exact mkB [sDie, nNew] (by decide +kernel) (by simp) (by decide) (by decide +kernel) (bad_die (noLiv h hn))
  · exact mkB [sCome, nNew, nNew] (by decide +kernel) (by simp) (by decide) (by decide +kernel) (bad_come (.inr (.inr (.inl (all_one (noLiv h hn))))))
  · exact mkB [sCome, nNew, Str.ofString "nosuch"] (by decide +kernel) (by simp) (by decide) (by decide +kernel) (bad_come (.inr (.inr (.inl (all_one (nm_not h (by decide +kernel)))))))
  · exact mkB [sCome, Str.ofString "n1"] (by decide +kernel) (by simp) (by decide) (by decide +kernel) (bad_come (.inl (by decide +kernel)))
  · exact mkB [sDie, Str.ofString "", Str.ofString "a"] (by decide +kernel) (by simp) (by decide) (by decide +kernel) (bad_three (by decide +kernel))
  · exact mkB [Str.ofString "coming", Str.ofString "new"] (by decide +kernel) (by simp) (by decide) (by decide +kernel) (bad_two (by decide +kernel) (by decide +kernel))
  · exact mkB [Str.ofString "new"] (by decide +kernel) (by simp) (by decide) (by decide +kernel) bad_one
theorem e_come : Str.ofString "come " = sCome ++ sBl := by decide +kernel
theorem e_die : Str.ofString "die " = sDie ++ sBl := by decide +kernel
theorem e_die2 : Str.ofString "die  " = sDie ++ (sBl ++ (Str.ofString "" ++ sBl)) := by decide +kernel
theorem e_newest : Str.ofString "come newest " = sCome ++ (sBl ++ (sNew ++ sBl)) := by decide +kernel
theorem e_newest2 : Str.ofString "come newest  " = sCome ++ (sBl ++ (sNew ++ (sBl ++ (Str.ofString "" ++ sBl)))) := by decide +kernel
theorem e_bl : Str.ofString " " = sBl := rfl
theorem e_end (x : Str) : x ++ sBl = x ++ (sBl ++ Str.ofString "") := str_ext (by rw [app_cps, app_cps, app_cps]; rfl)
theorem wdC : WdOk sCome := by decide +kernel
theorem wdD : WdOk sDie := by decide +kernel
theorem wdN : WdOk sNew := by decide +kernel
theorem wdE : WdOk (Str.ofString "") := by decide +kernel
/-- the lines of a name that died -/
def linesD (name : Str) : List Str := [Str.ofString "come " ++ name, Str.ofString "die " ++ name, Str.ofString "come newest " ++ name]
theorem linesD_bad {ds : List Deed} (h : Hist ds) {name : Str} (hd : name ∈ deadD ds) : ∀ z ∈ linesD name, Bad ds z := by
  have hc := h.dead_came name hd
  have hl := h.dead_no name hd
  have hn := h.nm name hc
  have wn := wd_nm hn
  have lv : livB (livesF (ds.map deedD)) (.str name) = false := by rw [livB_hist h]; exact decide_eq_false hl
  intro z hz
  simp only [linesD, List.mem_cons, List.not_mem_nil, or_false] at hz
  rcases hz with rfl | rfl | rfl
  · exact mkB [sCome, name] (by rw [jn2, e_come, app_assoc]) (by simp) (by simp) (w2 wdC wn) (bad_come (.inr (.inl (by rw [lives_hist h, if_pos hc]; rfl))))
  · exact mkB [sDie, name] (by rw [jn2, e_die, app_assoc]) (by simp) (by simp) (w2 wdD wn) (bad_die lv)
  · exact mkB [sCome, sNew, name] (by rw [jn3, e_newest]; simp only [app_assoc]) (by simp) (by simp) (w3 wdC wdN wn) (bad_come (.inr (.inr (.inl (all_one lv)))))
def linesL1 (one : Str) : List Str := [Str.ofString "come " ++ one, Str.ofString "die " ++ one ++ Str.ofString " " ++ one, Str.ofString "come newest " ++ one ++ Str.ofString " " ++ one, Str.ofString "die " ++ one ++ Str.ofString " "]
def linesL2 (one : Str) : List Str := [Str.ofString "come newest  " ++ one, Str.ofString "come newest " ++ one ++ Str.ofString ",", Str.ofString "come newest " ++ Txt.upper one, Str.ofString "die  " ++ one]
theorem asc_same (z : Str) : ascB [z, z] = false := by
  show ([decide (z.cps.toList < z.cps.toList)]).all id = false
  rw [decide_eq_false (List.lt_irrefl _)]; rfl
theorem linesL1_bad {ds : List Deed} (h : Hist ds) {one : Str} (hl : one ∈ liv ds) : ∀ z ∈ linesL1 one, Bad ds z := by
  have hc := h.liv_came one hl
  have wn := wd_nm (h.nm one hc)
  intro z hz
  simp only [linesL1, List.mem_cons, List.not_mem_nil, or_false] at hz
  rcases hz with rfl | rfl | rfl | rfl
  · exact mkB [sCome, one] (by rw [jn2, e_come, app_assoc]) (by simp) (by simp) (w2 wdC wn) (bad_come (.inr (.inl (by rw [lives_hist h, if_pos hc]; rfl))))
  · exact mkB [sDie, one, one] (by rw [jn3, e_die, e_bl]; simp only [app_assoc]) (by simp) (by simp) (w3 wdD wn wn) (bad_three (by decide +kernel))
  · exact mkB [sCome, sNew, one, one] (by rw [jn4, e_newest, e_bl]; simp only [app_assoc]) (by simp) (by simp) (w4 wdC wdN wn wn) (bad_come (.inr (.inr (.inr (asc_same one)))))
  · exact mkB [sDie, one, Str.ofString ""] (by rw [jn3, e_die, e_bl, e_end]; simp only [app_assoc]) (by simp) (by simp) (w3 wdD wn wdE) (bad_three (by decide +kernel))
theorem up_eq {z : Str} (h : NmX z) : Txt.upper z = ⟨z.cps.map fun c => c - 32⟩ := by
  unfold Txt.upper
  rw [PyProof.Rows.placed_single z _ (fun c => c - 32) fun i c hc => ?_]
  obtain ⟨h1, h2⟩ := h.2.2 c (List.mem_of_getElem? hc)
  have a : ((List.range 26).all fun i => decide (Unicode.upperOf (97 + i) = [65 + i])) = true := by decide +kernel
  have := of_decide_eq_true (List.all_eq_true.mp a (c - 97) (List.mem_range.mpr (by omega)))
  rw [show 97 + (c - 97) = c by omega, show 65 + (c - 97) = c - 32 by omega] at this
  exact this
theorem up_codes {z : Str} (h : NmX z) : ∀ c ∈ (Txt.upper z).cps.toList, 65 ≤ c ∧ c ≤ 90 := by
  rw [up_eq h]
  intro c hc
  have hc : c ∈ (z.cps.map fun c => c - 32).toList := hc
  rw [Array.toList_map] at hc
  obtain ⟨x, hx, rfl⟩ := List.mem_map.mp hc
  have := h.2.2 x hx
  omega
theorem up_len {z : Str} (h : NmX z) : (Txt.upper z).length = z.length := by
  rw [up_eq h]
  show (z.cps.map fun c => c - 32).size = z.cps.size
  rw [Array.size_map]
theorem comma_wd {z : Str} (h : NmX z) : WdOk (z ++ Str.ofString ",") := by
  have w := wd_nm h
  have e : (Str.ofString ",").cps.toList = [44] := by decide +kernel
  refine ⟨fun m => ?_, fun m => ?_, ?_⟩
  · rw [app_cps, e] at m
    rcases List.mem_append.mp m with m | m
    · exact w.1 m
    · exact absurd (List.mem_singleton.mp m) (by decide)
  · rw [app_cps, e] at m
    rcases List.mem_append.mp m with m | m
    · exact w.2.1 m
    · exact absurd (List.mem_singleton.mp m) (by decide)
  · rw [app_len]
    have := h.2.1
    have e2 : (Str.ofString ",").length = 1 := by decide +kernel
    omega
theorem linesL2_bad {ds : List Deed} (h : Hist ds) {one : Str} (hl : one ∈ liv ds) : ∀ z ∈ linesL2 one, Bad ds z := by
  have hc := h.liv_came one hl
  have hn := h.nm one hc
  have wn := wd_nm hn
  have wu : WdOk (Txt.upper one) := ⟨fun m => by have := (up_codes hn _ m).1; omega, fun m => by have := (up_codes hn _ m).1; omega, by rw [up_len hn]; have := hn.2.1; omega⟩
  have nu : ¬ NmX (Txt.upper one) := fun z => by
    have l1 : 1 ≤ (Txt.upper one).length := by rw [up_len hn]; exact hn.1.1
    rw [len_cps] at l1
    have m := List.getElem_mem (l := (Txt.upper one).cps.toList) (n := 0) (by omega)
    have a := (up_codes hn _ m).2
    have b := (z.2.2 _ m).1
    omega
  have nc : ¬ NmX (one ++ Str.ofString ",") := fun z => by
    have e : (Str.ofString ",").cps.toList = [44] := by decide +kernel
    have := (z.2.2 44 (by rw [app_cps, e]; simp)).1
    omega
  intro z hz
  simp only [linesL2, List.mem_cons, List.not_mem_nil, or_false] at hz
  rcases hz with rfl | rfl | rfl | rfl
  · exact mkB [sCome, sNew, Str.ofString "", one] (by rw [jn4, e_newest2]; simp only [app_assoc]) (by simp) (by simp) (w4 wdC wdN wdE wn) (bad_come (.inr (.inr (.inl (by rw [List.all_cons, nm_not h (by decide +kernel)]; rfl)))))
  · exact mkB [sCome, sNew, one ++ Str.ofString ","] (by rw [jn3, e_newest]; simp only [app_assoc]) (by simp) (by simp) (w3 wdC wdN (comma_wd hn)) (bad_come (.inr (.inr (.inl (all_one (nm_not h nc))))))
  · exact mkB [sCome, sNew, Txt.upper one] (by rw [jn3, e_newest]; simp only [app_assoc]) (by simp) (by simp) (w3 wdC wdN wu) (bad_come (.inr (.inr (.inl (all_one (nm_not h nu))))))
  · exact mkB [sDie, Str.ofString "", one] (by rw [jn3, e_die2]; simp only [app_assoc]) (by simp) (by simp) (w3 wdD wdE wn) (bad_three (by decide +kernel))
def linesL3 (last first second : Str) : List Str := [Str.ofString "come newest " ++ last ++ Str.ofString " " ++ first, Str.ofString "die " ++ first ++ Str.ofString " " ++ second]
theorem linesL3_bad {ds : List Deed} (h : Hist ds) {last first second : Str} (h1 : last ∈ liv ds) (h2 : first ∈ liv ds) (h3 : second ∈ liv ds) (hlt : first.cps.toList < last.cps.toList) : ∀ z ∈ linesL3 last first second, Bad ds z := by
  have wl := wd_nm (h.nm _ (h.liv_came _ h1))
  have wf := wd_nm (h.nm _ (h.liv_came _ h2))
  have ws := wd_nm (h.nm _ (h.liv_came _ h3))
  intro z hz
  simp only [linesL3, List.mem_cons, List.not_mem_nil, or_false] at hz
  rcases hz with rfl | rfl
  · refine mkB [sCome, sNew, last, first] (by rw [jn4, e_newest, e_bl]; simp only [app_assoc]) (by simp) (by simp) (w4 wdC wdN wl wf) (bad_come (.inr (.inr (.inr ?_))))
    show ([decide (last.cps.toList < first.cps.toList)]).all id = false
    rw [decide_eq_false (fun z => List.lt_irrefl _ (List.lt_trans z hlt))]; rfl
  · exact mkB [sDie, first, second] (by rw [jn3, e_die, e_bl]; simp only [app_assoc]) (by simp) (by simp) (w3 wdD wf ws) (bad_three (by decide +kernel))
end Hw

set_option Elab.async false
set_option linter.all false
set_option maxRecDepth 100000
set_option maxHeartbeats 4000000
namespace Hw
open PySem L2 PyProof.Rows Vl
def isDieD : PyData → Bool
  | .tuple (x :: _) => isS x sDie
  | _ => false
def nmD : PyData → PyData
  | .tuple (_ :: y :: _) => y
  | _ => .none
theorem dead_filter : ∀ ds : List Deed, ((ds.map deedD).filter isDieD).map nmD = (deadD ds).map PyData.str
  | [] => rfl
  | d :: ds => by
    have ih := dead_filter ds
    have e : deadD (d :: ds) = (if d.isCome = true then [] else [d.name]) ++ deadD ds := rfl
    rw [e, List.map_cons, List.map_append, ← ih]
    cases d with
    | come n ts =>
      rw [List.filter_cons_of_neg (by show ¬ decide (sCome = sDie) = true; decide +kernel)]; rfl
    | die n =>
      rw [List.filter_cons_of_pos (by show decide (sDie = sDie) = true; exact decide_eq_true rfl)]; rfl
theorem cut_two (zs : List Str) : Vl.cutD (zs.map PyData.str) none (some 2) = (zs.take 2).map PyData.str := by
  unfold Vl.cutD
  rw [show HT.sIx (zs.map PyData.str).length (zs.map PyData.str).length (some 2) = min 2 (zs.map PyData.str).length from HT.sIx_nat _ _ 2, HT.sIx_none, List.drop_zero, Nat.sub_zero, List.map_take, List.length_map]
  by_cases h : 2 ≤ zs.length
  · rw [Nat.min_eq_left h]
  · rw [Nat.min_eq_right (by omega), List.take_of_length_le (by rw [List.length_map]; exact Nat.le_refl _), List.take_of_length_le (by rw [List.length_map]; omega)]
def A_bad_lines (es : List Ent) (P : Val → List Ent → Prop) : Prop := ∃ a N t, ∃ ds : List Deed, es = [.pot a N, .ls t (ds.map deedD)] ∧ N < 200000000 ∧ Hist ds ∧ ds.length ≤ 100 ∧ nNew ∉ cameD ds ∧
  ∀ r N', ∀ zs : List Str, N' ≤ N + 1 → zs ≠ [] → zs.length ≤ 100 → (∀ z ∈ zs, Bad ds z) → P (.vl (.ref r)) [.pot a N', .ls t (ds.map deedD), .ls r (zs.map PyData.str)]
theorem A_bad_lines_len (es : List Ent) (P : Val → List Ent → Prop) (h : A_bad_lines es P) : es.length = 2 := by obtain ⟨a, N, t, ds, rfl, _⟩ := h; rfl
theorem A_bad_lines_mono : Mono A_bad_lines := fun es P P' m ⟨a, N, t, ds, e, h1, h2, h3, h4, p⟩ => ⟨a, N, t, ds, e, h1, h2, h3, h4, fun r N' zs x1 x2 x3 x4 => m _ _ (p r N' zs x1 x2 x3 x4)⟩
theorem mem_app {α : Type} {p : α → Prop} {xs ys : List α} (h1 : ∀ z ∈ xs, p z) (h2 : ∀ z ∈ ys, p z) : ∀ z ∈ xs ++ ys, p z := fun z hz => (List.mem_append.mp hz).elim (h1 z) (h2 z)
theorem add_len {p x : Str} {k : Nat} (hp : p.length ≤ 100) (hx : x.length ≤ 100) : p.length + x.length ≤ sizeLine := by rw [sizeLine_eq]; omega
section
variable {P : Program} {w : World} {K : PySem.W.Frag} {mg : Str → Option Value} {base : Heap}
theorem slen5 {p x : Str} (hp : p.length ≤ 500) (hx : x.length ≤ 8) : p.length + x.length ≤ sizeLine := by rw [sizeLine_eq]; omega
abbrev sBadL : Stmt := topS 37
theorem scBadL : FnScope ["pot", "deeds", "living", "found", "name", "deed", "one"] ["pot", "deeds"] (defScope sBadL) := ⟨rfl, rfl, rfl, by decide +kernel, rfl, by decide +kernel, by decide +kernel⟩
theorem ok_bad {f f_law_of f_law_living : Addr} {fd fd_law_of fd_law_living : FuncData} {k : Nat} (F : L2.Fun K "_law_bad_lines" "_law_bad_lines" sBadL f fd) (B : Blt mg) 
    (G_law_of : FnOk P w K mg base CX0 k f_law_of fd_law_of ["pot", "some"] (spOf2 K)) (g_law_of : mg "_law_of" = some (.ref f_law_of)) (k_law_of : PySem.W.keepIn K (.ref f_law_of) = true) (b_law_of : Binds K fd_law_of ["pot", "some"] []) 
    (G_law_living : FnOk P w K mg base CX0 k f_law_living fd_law_living ["deeds"] spLiving) (g_law_living : mg "_law_living" = some (.ref f_law_living)) (k_law_living : PySem.W.keepIn K (.ref f_law_living) = true) (b_law_living : Binds K fd_law_living ["deeds"] []) :
    FnOk P w K mg base CX0 (k + 1) f fd ["pot", "deeds"] (SpV A_bad_lines) := by
  refine F.ok scBadL (fun vs H Q E h => ?_) (fun cdv A outer s H vs Q E hr h => ?_)
  · exact lenV A_bad_lines_len h
  obtain ⟨S0, es, Tb, R, hlen, hA⟩ := h
  have hu0 := Nat.lt_of_le_of_lt (Nat.le_add_right _ 1) (hu_of hr)
  refine ⟨_, (pss_cons (ps_set (i := 2) scBadL.nd rfl (.inl rfl) (pe_call G_law_living hr (by rfl) g_law_living k_law_living b_law_living .nil pass0 (pa_cons (pv 1) pa_nil)))
      (pss_cons (ps_set (i := 3) scBadL.nd rfl (.inl rfl) (pe_lst (pa_cons pe_str (pa_cons pe_str (pa_cons pe_str (pa_cons pe_str (pa_cons pe_str (pa_cons pe_str (pa_cons pe_str (pa_cons pe_str (pa_cons pe_str (pa_cons pe_str pa_nil))))))))))))
      (pss_cons (ps_expr (pe_bm PySem.F.plainAttrs_list PySem.F.slot_list_extend PySem.F.type_list_extend mt_extend (pv 3) (pa_cons (pe_lst (pa_cons pe_str (pa_cons pe_str (pa_cons pe_str (pa_cons pe_str (pa_cons pe_str (pa_cons pe_str (pa_cons pe_str (pa_cons pe_str pa_nil))))))))) pa_nil)))
      (pss_cons (ps_for PassesOwn.never rfl (pi_list (pe_slice sl_list (pe_lc (own := [("deed", 5)]) (g := (gName 5)) (te := tOp (rIxT K) (tVar 5) (tC (.int 1))) (tt := tTest (tOp rEq (tOp (rIxT K) (tVar 5) (tC (.int 0))) (tC (.str "die")))) (by rfl) scBadL.nd (pi_list (pv 1)) (blkOk_by (N := ["pot", "deeds", "living", "found", "name", "deed", "one"]) (sc := defScope sBadL) (by decide +kernel)) (fun _ _ _ _ _ => (pg_name (i := 5) scBadL.nd rfl (.inl rfl))) (fun _ _ _ _ _ => (pts_one (pt_cmpR op_eq (pe_ix ix_tup (pv 5) pe_int (fun _ _ => rfl)) pe_str (nomark _)))) (fun _ _ _ _ _ => (pe_ix ix_tup (pv 5) pe_int (fun _ _ => rfl)))) po_none (po_some pe_int))) (pg_name (i := 4) scBadL.nd rfl (.inl rfl))
        (pss_one (ps_expr (pe_bm PySem.F.plainAttrs_list PySem.F.slot_list_extend PySem.F.type_list_extend mt_extend (pv 3) (pa_cons (pe_lst (pa_cons (pe_op op_add_str pe_str (pv 4)) (pa_cons (pe_op op_add_str pe_str (pv 4)) (pa_cons (pe_op op_add_str pe_str (pv 4)) pa_nil)))) pa_nil)))))
      (pss_cons (ps_if (pt_cmpR (op_neNilL hu0) (pv 2) (pe_lst pa_nil) (nomark _)) (pss_cons (ps_set (i := 6) scBadL.nd rfl (.inl rfl) (pe_call G_law_of hr (by rfl) g_law_of k_law_of b_law_of .nil pass0 (pa_cons (pv 0) (pa_cons (pv 2) pa_nil))))
      (pss_cons (ps_expr (pe_bm PySem.F.plainAttrs_list PySem.F.slot_list_extend PySem.F.type_list_extend mt_extend (pv 3) (pa_cons (pe_lst (pa_cons (pe_op op_add_str pe_str (pv 6)) (pa_cons (pe_op op_add_str (pe_op op_add_str (pe_op op_add_str pe_str (pv 6)) pe_str) (pv 6)) (pa_cons (pe_op op_add_str (pe_op op_add_str (pe_op op_add_str pe_str (pv 6)) pe_str) (pv 6)) (pa_cons (pe_op op_add_str (pe_op op_add_str pe_str (pv 6)) pe_str) pa_nil))))) pa_nil)))
      (pss_one (ps_expr (pe_bm PySem.F.plainAttrs_list PySem.F.slot_list_extend PySem.F.type_list_extend mt_extend (pv 3) (pa_cons (pe_lst (pa_cons (pe_op op_add_str pe_str (pv 6)) (pa_cons (pe_op op_add_str (pe_op op_add_str pe_str (pv 6)) pe_str) (pa_cons (pe_op op_add_str pe_str (pe_m0 PySem.F.slot_str_upper PySem.F.type_str_upper mt_upper (pv 6))) (pa_cons (pe_op op_add_str pe_str (pv 6)) pa_nil))))) pa_nil)))))) pss_nil)
      (pss_cons (ps_if (pt_cmpR op_gt (pe_callB call_len_seq (by rfl) B.len PySem.boot_len (pa_cons (pv 2) pa_nil)) pe_int (nomark _)) (pss_one (ps_expr (pe_bm PySem.F.plainAttrs_list PySem.F.slot_list_extend PySem.F.type_list_extend mt_extend (pv 3) (pa_cons (pe_lst (pa_cons (pe_op op_add_str (pe_op op_add_str (pe_op op_add_str pe_str (pe_ix ix_list (pv 2) (pe_un un_neg pe_int) (fun _ _ => rfl))) pe_str) (pe_ix ix_list (pv 2) pe_int (fun _ _ => rfl))) (pa_cons (pe_op op_add_str (pe_op op_add_str (pe_op op_add_str pe_str (pe_ix ix_list (pv 2) pe_int (fun _ _ => rfl))) pe_str) (pe_ix ix_list (pv 2) pe_int (fun _ _ => rfl))) pa_nil))) pa_nil)))) pss_nil)
      (pss_one (ps_ret (pv 3))))))))), ?_⟩
  obtain ⟨a, N, t, ds, rfl, hN, hH, hl, hnew, post⟩ := hA
  have R : Rep _ 7 [.pot a N, .ls t (ds.map deedD), .no, .no, .no, .no, .no] _ H := rep_start (N := ["pot", "deeds", "living", "found", "name", "deed", "one"]) R hlen (le_k rfl)
  have szL : 1000 ≤ sizeLine := by rw [sizeLine_eq]; decide
  refine vs_setO R (by decide) (ve_living (j := 1) (vas_cons (ve_varO rfl (by decide) rfl (vas_nil ⟨ds, rfl, rfl, hH, hl, fun lt => ⟨_, 7, _, rfl, le_k rfl, rfl, rfl, fun σ1 H1 R1 => ?_⟩⟩))))
  have R1 : Rep _ 7 [.pot a N, .ls t (ds.map deedD), .ls lt ((sortS (liv ds)).map PyData.str), .no, .no, .no, .no] σ1 H1 := R1
  have memL : ∀ z ∈ sortS (liv ds), z ∈ liv ds := fun z hz => (sortS_perm (liv ds)).mem_iff.mp hz
  have ascL : Asc (sortS (liv ds)) := sortS_asc hH.liv_nodup
  have lenL : (sortS (liv ds)).length ≤ 100 := by rw [(sortS_perm (liv ds)).length_eq]; exact Nat.le_trans hH.liv_len hl
  generalize sortS (liv ds) = L at R1 memL ascL lenL
  have nmL : ∀ z ∈ L, z.length ≤ 8 := fun z hz => (hH.nm z (hH.liv_came z (memL z hz))).2.1
  refine vs_setO R1 (by decide) (ve_lst (vai_cons (ve_c rfl ⟨_, rfl, (vai_cons (ve_c rfl ⟨_, rfl, (vai_cons (ve_c rfl ⟨_, rfl, (vai_cons (ve_c rfl ⟨_, rfl, (vai_cons (ve_c rfl ⟨_, rfl, (vai_cons (ve_c rfl ⟨_, rfl, (vai_cons (ve_c rfl ⟨_, rfl, (vai_cons (ve_c rfl ⟨_, rfl, (vai_cons (ve_c rfl ⟨_, rfl, (vai_cons (ve_c rfl ⟨_, rfl, (vai_nil ⟨le_k rfl, fun ft => ⟨_, 7, _, rfl, le_k rfl, rfl, rfl, fun σ2 H2 R2 => ?_⟩⟩)⟩))⟩))⟩))⟩))⟩))⟩))⟩))⟩))⟩))⟩)))
  have R2 : Rep _ 7 [.pot a N, .ls t (ds.map deedD), .ls lt (L.map PyData.str), .ls ft (lits1.map PyData.str), .no, .no, .no] σ2 H2 := R2
  refine vs_extend (i := 3) R2 (by decide) rfl (ve_lst (vai_cons (ve_c rfl ⟨_, rfl, (vai_cons (ve_c rfl ⟨_, rfl, (vai_cons (ve_c rfl ⟨_, rfl, (vai_cons (ve_c rfl ⟨_, rfl, (vai_cons (ve_c rfl ⟨_, rfl, (vai_cons (ve_c rfl ⟨_, rfl, (vai_cons (ve_c rfl ⟨_, rfl, (vai_cons (ve_c rfl ⟨_, rfl, (vai_nil ⟨le_k rfl, fun et => ⟨lits1.map PyData.str, lits2.map PyData.str, .own (j := 7) rfl, rfl, le_k rfl, fun σ3 H3 R3 => ?_⟩⟩)⟩))⟩))⟩))⟩))⟩))⟩))⟩))⟩)))
  have R3 : Rep _ 7 [.pot a N, .ls t (ds.map deedD), .ls lt (L.map PyData.str), .ls ft ((lits1 ++ lits2).map PyData.str), .no, .no, .no] σ3 H3 := R3
  have b0 : ∀ z ∈ lits1 ++ lits2, Bad ds z := mem_app (lits1_bad hH hnew) (lits2_bad hH hnew)
  have l0 : (lits1 ++ lits2).length = 18 := rfl
  generalize (lits1 ++ lits2) = zs0 at R3 b0 l0
  -- the names that died
  refine vs_for (tg := fun d Γ => Γ.set 4 (.im d)) R3 (vi_list (ve_slL (ve_lcp (vs := [5]) (tg := fun d Γ => Γ.set 5 (.im d)) (by decide) (vi_list (ve_varO rfl (by decide) rfl ⟨_, _, rfl, .own (j := 1) rfl, ?_⟩)))))
  refine ⟨fun d hd => vgc_name (by decide), by rw [List.length_map]; omega, [.pot a N, .ls t (ds.map deedD), .ls lt (L.map PyData.str), .ls ft (zs0.map PyData.str), .no, .no, .no], rfl, fun e => .own (j := 1) rfl, le_k rfl, no1 rfl, isDieD, nmD, fun d hd acc D => ?_, fun D => ?_⟩
  · obtain ⟨e, _, rfl⟩ := List.mem_map.mp hd
    cases e with
    | come n ts =>
      refine vt_test (ve_op (ve_op (ve_var rfl (by decide) (ve_c rfl (o2_ixT (atI_nat (j := 0) rfl) (ve_c rfl (o2_eqS ⟨_, rfl, rfl, ?_⟩)))))))
      rw [decide_eq_false (by decide +kernel), if_neg Bool.false_ne_true]
      exact ⟨rfl, rfl⟩
    | die n =>
      refine vt_test (ve_op (ve_op (ve_var rfl (by decide) (ve_c rfl (o2_ixT (atI_nat (j := 0) rfl) (ve_c rfl (o2_eqS ⟨_, rfl, rfl, ?_⟩)))))))
      rw [decide_eq_true (show sDie = Str.ofString "die" from rfl), if_pos rfl]
      exact ve_op (ve_var rfl (by decide) (ve_c rfl (o2_ixT (atI_nat (j := 1) rfl) ⟨rfl, rfl, rfl⟩)))
  refine ⟨_, vo_no (vo_some (ve_c rfl ⟨2, rfl, .own (j := 7) rfl, fun t2 => ⟨_, _, rfl, .own (j := 8) rfl, ?_⟩⟩))⟩
  rw [dead_filter, cut_two]
  have hdd : ∀ z ∈ (deadD ds).take 2, z ∈ deadD ds := fun z hz => List.mem_of_mem_take hz
  have hdl : ((deadD ds).take 2).length ≤ 2 := by rw [List.length_take]; omega
  generalize (deadD ds).take 2 = dd at hdd hdl
  refine ⟨fun d hd => vg_name (by decide), fun k Γ => ∃ e4, ∃ zs : List Str, Γ = [.pot a N, .ls t (ds.map deedD), .ls lt (L.map PyData.str), .ls ft (zs.map PyData.str), e4, .no, .no, .ls D ((deadD ds).map PyData.str), .ls t2 (dd.map PyData.str)] ∧ (∀ z ∈ zs, Bad ds z) ∧ zs.length = 18 + 3 * k, ⟨_, zs0, rfl, b0, l0⟩, ?_, ?_, ?_⟩
  · rintro k Γ2 ⟨e4, zs, rfl, _⟩
    exact .own (j := 8) rfl
  · rintro k d Γ2 σ4 H4 hd ⟨e4, zs, rfl, bz, lz⟩ R4
    rw [List.getElem?_map] at hd
    obtain ⟨name, hname, rfl⟩ : ∃ name, dd[k]? = some name ∧ d = .str name := by
      cases e : dd[k]? with
      | none => rw [e] at hd; cases hd
      | some z => rw [e] at hd; exact ⟨z, rfl, (Option.some.inj hd).symm⟩
    have hk := (List.getElem?_eq_some_iff.mp hname).1
    have hdead := hdd name (List.mem_of_getElem? hname)
    have nl := (hH.nm name (hH.dead_came name hdead)).2.1
    have R4 : Rep _ 7 [.pot a N, .ls t (ds.map deedD), .ls lt (L.map PyData.str), .ls ft (zs.map PyData.str), .im (.str name), .no, .no, .ls D ((deadD ds).map PyData.str), .ls t2 (dd.map PyData.str)] σ4 H4 := R4
    refine vs_last (vs_extend (i := 3) R4 (by decide) rfl (ve_lst (vai_cons (ve_op (ve_c rfl (ve_var rfl (by decide) (o2_addS (slen5 (by decide +kernel) nl) ⟨_, rfl, ?_⟩)))))))
    refine vai_cons (ve_op (ve_c rfl (ve_var rfl (by decide) (o2_addS (slen5 (by decide +kernel) nl) ⟨_, rfl, ?_⟩))))
    refine vai_cons (ve_op (ve_c rfl (ve_var rfl (by decide) (o2_addS (slen5 (by decide +kernel) nl) ⟨_, rfl, vai_nil ⟨le_k rfl, fun et => ⟨_, (linesD name).map PyData.str, .own (j := 9) rfl, rfl, ?_, fun σ5 H5 R5 => ?_⟩⟩⟩))))
    · rw [List.length_map, lz]
      show 18 + 3 * k + 3 < 100000
      omega
    · refine ⟨_, ⟨.im (.str name), zs ++ linesD name, rfl, mem_app bz (linesD_bad hH hdead), by rw [List.length_append, lz]; show 18 + 3 * k + 3 = _; omega⟩, ?_⟩
      rw [List.map_append]
      exact R5
  rintro Γ2 σ4 H4 ⟨e4, zs, rfl, bz, lz⟩ R4
  have nz : zs ≠ [] := fun e => by rw [e, List.length_nil] at lz; omega
  have lz : zs.length ≤ 24 := by rw [lz, List.length_map]; omega
  have R4 := R4.take (m := 7) (le_k rfl)
  have R4 : Rep _ 7 [.pot a N, .ls t (ds.map deedD), .ls lt (L.map PyData.str), .ls ft (zs.map PyData.str), e4, .no, .no] σ4 H4 := R4
  -- one of the living
  refine vs_ifJ R4 (fun Γ => ∃ e4 e6 N', ∃ zs : List Str, Γ = [.pot a N', .ls t (ds.map deedD), .ls lt (L.map PyData.str), .ls ft (zs.map PyData.str), e4, .no, e6] ∧ N' ≤ N + 1 ∧ (∀ z ∈ zs, Bad ds z) ∧ zs.length ≤ 40 ∧ zs ≠ []) ?_ (vt_test (ve_op (ve_varO rfl (by decide) rfl (ve_lst (vai_nil ⟨le_k rfl, fun et => o2_neNil (.own (j := 2) rfl) (.own (j := 7) rfl) ⟨_, rfl, fun H5 R5 D' hD' hrt => ?_⟩⟩)))))
  rotate_left
  · have R5 : Rep _ 7 [.pot a N, .ls t (ds.map deedD), .ls lt (L.map PyData.str), .ls ft (zs.map PyData.str), e4, .no, .no] σ4 H5 := R5
    cases hL : L with
    | nil =>
      show if false = true then _ else _
      rw [if_neg Bool.false_ne_true]
      exact hD' _ _ _ ⟨e4, .no, N, zs, rfl, by omega, bz, by omega, nz⟩ R5
    | cons z0 L0 =>
      show if true = true then _ else _
      rw [if_pos rfl]
      have hL1 : 0 < L.length := by rw [hL]; exact Nat.succ_pos _
      refine vs_set R5 (by decide) (ve_of2 (j := 0) (vas_cons (ve_varO rfl (by decide) rfl (vas_cons (ve_varO rfl (by decide) rfl (vas_nil ⟨_, _, N, rfl, rfl, .own (j := 2) rfl, by omega, ?_, by rw [List.length_map]; exact hL1, by rw [List.length_map]; omega, fun d hd => ?_⟩))))))
      · intro z
        cases z
        exact absurd (R5.nd 0 2 _ _ _ rfl rfl List.mem_cons_self List.mem_cons_self) (by decide)
      obtain ⟨one, hone, rfl⟩ := List.mem_map.mp hd
      refine ⟨_, rfl, fun σ6 H6 R6 => ?_⟩
      have hlv := memL one hone
      have nl := nmL one hone
      have hnm := hH.nm one (hH.liv_came one hlv)
      have R6 : Rep _ 7 [.pot a (N + 1), .ls t (ds.map deedD), .ls lt (L.map PyData.str), .ls ft (zs.map PyData.str), e4, .no, .im (.str one)] σ6 H6 := R6
      have bl : (Str.ofString " ").length = 1 := by decide +kernel
      have c5 : (Str.ofString "come ").length = 5 := by decide +kernel
      have d4 : (Str.ofString "die ").length = 4 := by decide +kernel
      have c12 : (Str.ofString "come newest ").length = 12 := by decide +kernel
      have c13 : (Str.ofString "come newest  ").length = 13 := by decide +kernel
      have d5 : (Str.ofString "die  ").length = 5 := by decide +kernel
      have cm : (Str.ofString ",").length = 1 := by decide +kernel
      refine vs_extend (i := 3) R6 (by decide) rfl (ve_lst (vai_cons (ve_op (ve_c rfl (ve_var rfl (by decide) (o2_addS (by omega) ⟨_, rfl, ?_⟩))))))
      refine vai_cons (ve_op (ve_op (ve_op (ve_c rfl (ve_var rfl (by decide) (o2_addS (by omega) (ve_c rfl (o2_addS (by rw [app_len]; omega) (ve_var rfl (by decide) (o2_addS (by rw [app_len, app_len]; omega) ⟨_, rfl, ?_⟩))))))))))
      refine vai_cons (ve_op (ve_op (ve_op (ve_c rfl (ve_var rfl (by decide) (o2_addS (by omega) (ve_c rfl (o2_addS (by rw [app_len]; omega) (ve_var rfl (by decide) (o2_addS (by rw [app_len, app_len]; omega) ⟨_, rfl, ?_⟩))))))))))
      refine vai_cons (ve_op (ve_op (ve_c rfl (ve_var rfl (by decide) (o2_addS (by omega) (ve_c rfl (o2_addS (by rw [app_len]; omega) ⟨_, rfl, ?_⟩)))))))
      refine vai_nil ⟨le_k rfl, fun et => ⟨_, (linesL1 one).map PyData.str, .own (j := 7) rfl, rfl, by rw [List.length_map]; show _ + 4 < 100000; omega, fun σ7 H7 R7 => ?_⟩⟩
      have b7 : ∀ z ∈ zs ++ linesL1 one, Bad ds z := mem_app bz (linesL1_bad hH hlv)
      have l7 : (zs ++ linesL1 one).length ≤ 28 := by rw [List.length_append]; show _ + 4 ≤ _; omega
      have n7 : zs ++ linesL1 one ≠ [] := by simp [nz]
      have R7 : Rep _ 7 [.pot a (N + 1), .ls t (ds.map deedD), .ls lt (L.map PyData.str), .ls ft (zs.map PyData.str ++ (linesL1 one).map PyData.str), e4, .no, .im (.str one)] σ7 H7 := R7
      rw [← List.map_append] at R7
      generalize (zs ++ linesL1 one) = zs2 at R7 b7 l7 n7
      refine vs_last (vs_extend (i := 3) R7 (by decide) rfl (ve_lst (vai_cons (ve_op (ve_c rfl (ve_var rfl (by decide) (o2_addS (by omega) ⟨_, rfl, ?_⟩)))))))
      refine vai_cons (ve_op (ve_op (ve_c rfl (ve_var rfl (by decide) (o2_addS (by omega) (ve_c rfl (o2_addS (by rw [app_len]; omega) ⟨_, rfl, ?_⟩)))))))
      refine vai_cons (ve_op (ve_c rfl (ve_upper (ve_var rfl (by decide) ⟨one, rfl, by omega, o2_addS (by rw [up_len hnm]; omega) ⟨_, rfl, ?_⟩⟩))))
      refine vai_cons (ve_op (ve_c rfl (ve_var rfl (by decide) (o2_addS (by omega) ⟨_, rfl, ?_⟩))))
      refine vai_nil ⟨le_k rfl, fun et => ⟨_, (linesL2 one).map PyData.str, .own (j := 7) rfl, rfl, by rw [List.length_map]; show _ + 4 < 100000; omega, fun σ8 H8 R8 => ?_⟩⟩
      refine hD' _ _ _ ⟨e4, .im (.str one), N + 1, zs2 ++ linesL2 one, rfl, by omega, mem_app b7 (linesL2_bad hH hlv), by rw [List.length_append]; show _ + 4 ≤ _; omega, by simp [n7]⟩ ?_
      rw [List.map_append]
      exact R8
  rintro Γ σ5 H5 ⟨e4', e6, N', zs', rfl, hN', bz', lz', nz'⟩ R5
  -- two of the living
  refine vs_ifJ R5 (fun Γ => ∃ zs : List Str, Γ = [.pot a N', .ls t (ds.map deedD), .ls lt (L.map PyData.str), .ls ft (zs.map PyData.str), e4', .no, e6] ∧ (∀ z ∈ zs, Bad ds z) ∧ zs.length ≤ 50 ∧ zs ≠ []) ?_ (vt_test (ve_op (ve_cb (vas_cons (ve_varO rfl (by decide) rfl (vas_nil (cb_len (.own (j := 2) rfl) (ve_c rfl (o2_i rfl ⟨_, rfl, fun H6 R6 D' hD' hrt => ?_⟩)))))))))
  rotate_left
  · have R6 : Rep _ 7 [.pot a N', .ls t (ds.map deedD), .ls lt (L.map PyData.str), .ls ft (zs'.map PyData.str), e4', .no, e6] σ5 H6 := R6
    by_cases h2 : 1 < L.length
    · rw [decide_eq_true (by rw [List.length_map]; omega), if_pos rfl]
      have g0 : L[0]? = some L[0] := List.getElem?_eq_getElem (by omega)
      have g1 : L[1]? = some L[1] := List.getElem?_eq_getElem h2
      have gl : L[L.length - 1]? = some (L[L.length - 1]'(by omega)) := List.getElem?_eq_getElem (by omega)
      have m0 := memL _ (List.mem_of_getElem? g0)
      have m1 := memL _ (List.mem_of_getElem? g1)
      have ml := memL _ (List.mem_of_getElem? gl)
      have hlt : L[0].cps.toList < (L[L.length - 1]'(by omega)).cps.toList := of_decide_eq_true (List.pairwise_iff_getElem.mp ascL 0 (L.length - 1) (by omega) (by omega) (by omega))
      have n0 := nmL _ (List.mem_of_getElem? g0)
      have n1 := nmL _ (List.mem_of_getElem? g1)
      have nl := nmL _ (List.mem_of_getElem? gl)
      have a0 : atI (L.map PyData.str) (0 : Int) = some (.str L[0]) := atI_nat (j := 0) (by rw [List.getElem?_map, g0]; rfl)
      have a1 : atI (L.map PyData.str) (1 : Int) = some (.str L[1]) := atI_nat (j := 1) (by rw [List.getElem?_map, g1]; rfl)
      have al : atI (L.map PyData.str) (-1 : Int) = some (.str (L[L.length - 1]'(by omega))) := by
        have hne : L ≠ [] := fun e => by rw [e] at h2; exact absurd h2 (by decide)
        have e1 : L.map PyData.str = L.dropLast.map PyData.str ++ [PyData.str (L.getLast hne)] := by
          rw [← List.map_singleton, ← List.map_append, List.dropLast_concat_getLast]
        rw [e1, atI_last, List.getLast_eq_getElem]
      generalize L[0] = f0 at a0 m0 hlt n0
      generalize L[1] = f1 at a1 m1 n1
      generalize (L[L.length - 1]'(by omega)) = fl at al ml hlt nl
      have bl : (Str.ofString " ").length = 1 := by decide +kernel
      have d4 : (Str.ofString "die ").length = 4 := by decide +kernel
      have c12 : (Str.ofString "come newest ").length = 12 := by decide +kernel
      refine vs_last (vs_extend (i := 3) R6 (by decide) rfl (ve_lst (vai_cons (ve_op (ve_op (ve_op (ve_c rfl (ve_op (ve_varO rfl (by decide) rfl (ve_neg (ve_c (d := .int 1) rfl ⟨rfl, o2_ixL (.own (j := 2) rfl) al (o2_addS (by omega) ?_)⟩)))))))))))
      refine ve_c rfl (o2_addS (by rw [app_len]; omega) (ve_op (ve_varO rfl (by decide) rfl (ve_c rfl (o2_ixL (.own (j := 2) rfl) a0 (o2_addS (by rw [app_len, app_len]; omega) ⟨_, rfl, ?_⟩))))))
      refine vai_cons (ve_op (ve_op (ve_op (ve_c rfl (ve_op (ve_varO rfl (by decide) rfl (ve_c rfl (o2_ixL (.own (j := 2) rfl) a0 (o2_addS (by omega) ?_)))))))))
      refine ve_c rfl (o2_addS (by rw [app_len]; omega) (ve_op (ve_varO rfl (by decide) rfl (ve_c rfl (o2_ixL (.own (j := 2) rfl) a1 (o2_addS (by rw [app_len, app_len]; omega) ⟨_, rfl, ?_⟩))))))
      refine vai_nil ⟨le_k rfl, fun et => ⟨_, (linesL3 fl f0 f1).map PyData.str, .own (j := 7) rfl, rfl, by rw [List.length_map]; show _ + 2 < 100000; omega, fun σ7 H7 R7 => ?_⟩⟩
      refine hD' _ _ _ ⟨zs' ++ linesL3 fl f0 f1, rfl, mem_app bz' (linesL3_bad hH ml m0 m1 hlt), by rw [List.length_append]; show _ + 2 ≤ _; omega, by simp [nz']⟩ ?_
      rw [List.map_append]
      exact R7
    · rw [decide_eq_false (by rw [List.length_map]; omega), if_neg Bool.false_ne_true]
      exact hD' _ _ _ ⟨zs', rfl, bz', by omega, nz'⟩ R6
  rintro Γ σ6 H6 ⟨zs6, rfl, bz6, lz6, nz6⟩ R6
  exact vs_retV R6 (fun x outs p => p) (ve_varO rfl (by decide) rfl ⟨[.pot a N', .ls t (ds.map deedD), .ls ft (zs6.map PyData.str)], [0, 1, 3], .cons rfl (.cons rfl (.cons rfl .nil)), by decide, post ft N' zs6 hN' nz6 (by omega) bz6⟩)
end
end Hw

set_option Elab.async false
set_option linter.all false
set_option maxRecDepth 100000
set_option maxHeartbeats 4000000
namespace Hw
open PySem L2 PyProof.Rows Vl
section
variable {X : Cx} {CX : CXT} {k : Nat} {f C : Addr} {fd : FuncData} {ps ks : List Str} {sp : Sp} {E : XK} {x : Str} {p pos : Pos} {kws : List Keyword} {tk : TA} {g : List Value → List Value → List Value} {gV : List V → List V → List V}
theorem pe_makeK0 (M : L2.Mk X.K C f) (F : FnOk X.prog X.w X.K X.mg X.base CX k f fd ps sp) (hr : Room (k + 1) X.A) (hg : Gl X x) (hm : X.mg x = some (.ref C)) (hb : KBn X.K fd ps (0 + 1) ks g gV) (hx : Passes CX X E) (hkw : PK X kws tk)
    (hall : (backToKw pos (keywordEach kws X.env)).all (·.1.isSome) = true := by rfl) (hks : (backToKw pos (keywordEach kws X.env)).filterMap (·.1) = ks := by rfl) (hdb : (x == ("__debug__" : Str)) = false := by decide)
    (hpl : ((backTo pos (starEach [] X.env)).any (·.1) || (backToKw pos (keywordEach kws X.env)).any (·.1.isNone)) = false := by rfl) : PE X (.Call (.Name x p) [] kws pos) (tMakeN C 0 ks.length sp gV E tNil tk) := by
  refine ⟨fun pins s σ H Q I reading => ?_⟩
  have reading' : tk σ H fun zs H2 => ([] : List V).length = 0 ∧ zs.length = ks.length ∧ ∀ x dx, H2 x = none → H2 dx = none → dx ≠ x → sp (gV [.ref x] zs) (upd (upd H2 dx (.own x)) x (.ins C dx [])) (fun v H3 => v = .non ∧ Q (.ref x) H3) E := reading
  refine wpAny_Call_Name_kw (ld_glob I hg hm ?_ hdb)
  refine PySem.W.callWith_KW0 (h₀ := X.base) I.ok.mod.kin M.kp hall (thn (hkw.run pos pins s σ H _ I reading') fun ws s2 ⟨zs, H2, I2, rz, l1, l2, q2⟩ => ⟨I2.kIn, ?_⟩) hpl
  rw [hks]
  exact run_makeN M F hr hb hx I2 .nil rz l1 l2 q2
end
section
variable {F : Frm} {n : Nat} {Γ : List Ent} {te : TE}
theorem allV_len {S : Addr → Prop} {H : Hp} : ∀ {xs : List Val} {vs : List V}, AllV S H xs vs → vs.length = xs.length
  | _, _, .nil => rfl
  | _, _, .cons _ t => congrArg (· + 1) (allV_len t)
theorem ve_makeK {A : List Ent → (Val → List Ent → Prop) → (Addr → PyData → Prop) → Prop} {E : XK} {ta : TA} {P : Val → List Ent → Prop} {EP : Addr → PyData → Prop} {C : Addr} (hM : MonoX A) (hx : Xok F E EP)
    (h : VAs F n Γ ta fun xs Γ1 => xs.length = 1 ∧ ∀ x dx, A (.ob x dx C [] :: xs.map entOf) (fun r outs => ∃ fs, r = .im .none ∧ outs = [.ob x dx C fs] ∧ P (.vl (.ref x)) (Γ1 ++ [.ob x dx C fs])) EP) : VE F n Γ (tMakeN C 0 1 (SpVX A) (fun vs zs => vs ++ zs) E tNil ta) P := fun σ H Q R q =>
  h σ H _ R fun vs xs Γ1 H1 ⟨lx, hA⟩ s1 R1 ok => ⟨rfl, (allV_len ok).trans lx, fun x dx nx ndx ne => by
    have sm : Same H1 (upd (upd H1 dx (.own x)) x (.ins C dx [])) := fun b o e => by rw [upd_ne (ne_of_none e nx), upd_ne (ne_of_none e ndx)]; exact e
    obtain ⟨R2, n2⟩ := R1.push (e := .ob x dx C []) (o := some (.ref x)) sm (fun a ha => by
      rcases List.mem_cons.mp ha with rfl | ha
      · exact nx
      · rw [List.mem_singleton.mp ha]; exact ndx) ⟨rfl, Ne.symm ne, by rw [upd_ne ne, upd_same], [], upd_same, .nil⟩
    generalize hH2 : upd (upd H1 dx (.own x)) x (.ins C dx []) = H2 at sm R2 n2 ⊢
    have ok2 : AllV (Ex F (Γ1 ++ [.ob x dx C []])) H2 xs vs := AllV.nxt n2 ok
    have hc := ve_callXG (F := F) (n := n) (Γ := Γ1 ++ [.ob x dx C []]) (E := E) (EP := EP) (A := A) (ta := fun _ H' Q' => H' = H2 → Q' (.ref x :: vs) H') (P := fun r Γ' => r = .im .none ∧ P (.vl (.ref x)) Γ') hM hx (fun σ' H' Q' R' q' e => by
      subst e
      refine q' (.ref x :: vs) (.vl (.ref x) :: xs) _ _ ⟨_, _, .lent (j := Γ1.length) (e := .ob x dx C []) (by simp) rfl (args0 xs), by simp, ?_⟩ (.refl _ _) R' (.cons rfl ok2)
      refine hM _ _ _ _ _ (fun r outs ⟨fs, hr, ho, p⟩ => ?_) (fun _ _ z => z) (hA x dx)
      subst hr
      subst ho
      refine ⟨[.ob x dx C fs], [], rfl, .cons ⟨.ob x dx C [], by simp, rfl⟩ .nil, rfl, ?_⟩
      have e2 : sets (Γ1 ++ [Ent.ob x dx C []]) [Γ1.length] [Ent.ob x dx C fs] ++ [] = Γ1 ++ [Ent.ob x dx C fs] := by
        rw [List.append_nil]
        show (Γ1 ++ [Ent.ob x dx C []]).set Γ1.length (Ent.ob x dx C fs) = _
        rw [List.set_append, if_neg (Nat.lt_irrefl _), Nat.sub_self]; rfl
      rw [e2]
      exact p) σ H2 (fun v H' => v = .non ∧ Q (.ref x) H') R2 (fun v y Γ' H' ⟨hy, p⟩ s' R' okv => by
      subst hy
      exact ⟨Dz.none okv, q (.ref x) _ Γ' H' p ((s1.trans n2).trans s') R' rfl⟩)
    have hc2 : SpVX A ((V.ref x :: vs) ++ []) H2 (fun v H' => v = .non ∧ Q (.ref x) H') E := hc rfl
    rw [List.append_nil] at hc2
    exact hc2⟩
theorem ve_dnewI {P : Val → List Ent → Prop} (p : P (.im (.dict [])) Γ) : VE F n Γ tDNewK P := fun σ H Q R q t nt => by
  have s := same_upd (o := .dK []) nt
  exact q _ _ _ _ p (.same s) (R.same s) (.dct upd_same (fun z => R.exs z nt) (fun _ z => nomatch z) .nil)
theorem cb_repr {K : PySem.W.Frag} {d : PyData} {P : Val → List Ent → Prop} (nd : d.hasDict = false) (sh : d.showable = true) (dp : d.depth ≤ 60) (sl : d.shown.length ≤ sizeLine) (p : P (.im (.str d.shown)) Γ) : CB F n (rRepr K) [.im d] Γ P := fun σ H vs Q R ok q => by
  cases ok with
  | cons o1 o2 =>
    cases o2
    have o1 : Dz _ _ _ _ := o1
    exact ⟨_, d, rfl, .inl (Dz.dp K _ _ nd o1), sh, dp, sl, q.now R p (.flat rfl)⟩
theorem small_int {k : Nat} (h : k ≤ 401) : (PyData.int (k : Nat)).showable = true ∧ (PyData.int (k : Nat)).shown.length ≤ 13 := by
  have a : ((List.range 402).all fun n => (PyData.int (n : Int)).showable && decide ((PyData.int (n : Int)).shown.length ≤ 13)) = true := by decide +kernel
  have b := List.all_eq_true.mp a k (List.mem_range.mpr (by omega))
  simp only [Bool.and_eq_true, decide_eq_true_eq] at b
  exact b
theorem cb_reprI {K : PySem.W.Frag} {k : Nat} {P : Val → List Ent → Prop} (h : k ≤ 401) (p : P (.im (.str (PyData.int (k : Nat)).shown)) Γ) : CB F n (rRepr K) [.im (.int (k : Nat))] Γ P :=
  cb_repr (by rw [PyData.hasDict]) (small_int h).1 (by rw [PyData.depth]; decide) (Nat.le_trans (small_int h).2 (by rw [sizeLine_eq]; decide)) p
end
theorem fine_sum {e : Deed} (f : FineD e) : ((e.word :: e.name :: e.ties).map (·.length)).sum + (e.word :: e.name :: e.ties).length * sBl.length ≤ 1000 := by
  have hw : e.word.length ≤ 8 := by
    cases e with
    | come n ts => exact show sCome.length ≤ 8 by decide +kernel
    | die n => exact show sDie.length ≤ 8 by decide +kernel
  have hs := sum_le (ps := e.word :: e.name :: e.ties) (b := 8) fun p hp => by
    rcases List.mem_cons.mp hp with rfl | hp
    · exact hw
    · rcases List.mem_cons.mp hp with rfl | hp
      · exact f.nm.2.1
      · exact (f.ts p hp).2.1
  have e1 : sBl.length = 1 := by decide +kernel
  have el : (e.word :: e.name :: e.ties).length = e.ties.length + 2 := rfl
  have := f.few
  rw [el] at hs ⊢
  rw [e1]
  omega
def A_htext (es : List Ent) (P : Val → List Ent → Prop) : Prop := ∃ t, ∃ ds : List Deed, es = [.ls t (ds.map deedD)] ∧ (∀ d ∈ ds, FineD d) ∧ ds.length ≤ 100 ∧ P (.im (.str (histText ds))) [.ls t (ds.map deedD)]
theorem A_htext_len (es : List Ent) (P : Val → List Ent → Prop) (h : A_htext es P) : es.length = 1 := by obtain ⟨t, ds, rfl, _⟩ := h; rfl
theorem A_htext_mono : Mono A_htext := fun es P P' m ⟨t, ds, e, h1, h2, p⟩ => ⟨t, ds, e, h1, h2, m _ _ p⟩
section
variable {P : Program} {w : World} {K : PySem.W.Frag} {mg : Str → Option Value} {base : Heap}
theorem ok_htextV {f : Addr} {fd : FuncData} {k : Nat} (F : Fun K "_law_history_text" "_law_history_text" sHText f fd) (B : Blt mg) : FnOk P w K mg base CX0 (k + 1) f fd ["deeds"] (SpV A_htext) := by
  refine F.ok scHText (fun vs H Q E h => ?_) (fun cdv A outer s H vs Q E hr h => ?_)
  · exact lenV A_htext_len h
  obtain ⟨S0, es, Tb, R, hlen, hA⟩ := h
  refine ⟨_, pss_cons (ps_set (i := 1) scHText.nd rfl (.inl rfl) (pe_lst pa_nil))
      (pss_cons (ps_for PassesOwn.never rfl (pi_list (pv 0)) (pg_name (i := 2) scHText.nd rfl (.inl rfl))
        (pss_one (ps_expr (pe_bm PySem.F.plainAttrs_list PySem.F.slot_list_append PySem.F.type_list_append mt_append (pv 1) (pa_cons (pe_join pe_str (pe_op op_cat (pe_lst (pa_cons (pe_ix ix_tup (pv 2) pe_int (fun _ _ => rfl)) (pa_cons (pe_ix ix_tup (pv 2) pe_int (fun _ _ => rfl)) pa_nil)))
          (pe_ifExp (pt_cmpR op_eq (pe_ix ix_tup (pv 2) pe_int (fun _ _ => rfl)) pe_str (nomark _)) (pe_callTy call_list_of (by rfl) B.list PyProof.Rows.boot_list (pa_cons (pe_ix ix_tup (pv 2) pe_int (fun _ _ => rfl)) pa_nil)) (pe_lst pa_nil)))) pa_nil)))))
      (pss_one (ps_ret (pe_join pe_str (pv 1))))), ?_⟩
  obtain ⟨t, ds, rfl, fine, hl, post⟩ := hA
  have R : Rep _ 3 [.ls t (ds.map deedD), .no, .no] _ H := rep_start (N := ["deeds", "rows", "deed"]) R hlen (le_k rfl)
  refine vs_setO R (by decide) (ve_lst (vai_nil ⟨le_k rfl, fun rt => ⟨_, 3, _, rfl, le_k rfl, rfl, rfl, fun σ1 H1 R1 => ?_⟩⟩))
  have R1 : Rep _ 3 [.ls t (ds.map deedD), .ls rt [], .no] σ1 H1 := R1
  refine vs_for (tg := fun d Γ => Γ.set 2 (.im d)) R1 (vi_list (ve_varO rfl (by decide) rfl ⟨_, _, rfl, .own (j := 0) rfl, ?_⟩))
  refine ⟨fun d hd => vg_name (by decide), fun k Γ => ∃ e, Γ = [.ls t (ds.map deedD), .ls rt (((ds.take k).map deedLine).map PyData.str), e], ⟨_, rfl⟩, ?_, ?_, ?_⟩
  · rintro k Γ2 ⟨e, rfl⟩
    exact .own (j := 0) rfl
  · rintro k d Γ2 σ2 H2 hd ⟨e0, rfl⟩ R2
    rw [List.getElem?_map] at hd
    obtain ⟨e, he, rfl⟩ : ∃ e, ds[k]? = some e ∧ d = deedD e := by
      cases z : ds[k]? with
      | none => rw [z] at hd; cases hd
      | some e => rw [z] at hd; exact ⟨e, rfl, (Option.some.inj hd).symm⟩
    have fe := fine e (List.mem_of_getElem? he)
    have hk := (List.getElem?_eq_some_iff.mp he).1
    have R2 : Rep _ 3 [.ls t (ds.map deedD), .ls rt (((ds.take k).map deedLine).map PyData.str), .im (deedD e)] σ2 H2 := R2
    have lk : (((ds.take k).map deedLine).map PyData.str).length < 100000 := by rw [List.length_map, List.length_map, List.length_take]; omega
    have fin : ∀ σ3 H3, Rep _ 3 [.ls t (ds.map deedD), .ls rt (((ds.take k).map deedLine).map PyData.str ++ [.str (deedLine e)]), .im (deedD e)] σ3 H3 → ∃ Γ3, (∃ e', Γ3 = [.ls t (ds.map deedD), .ls rt (((ds.take (k + 1)).map deedLine).map PyData.str), e']) ∧ Rep ⟨S0, H, Vl.In [.ls t (ds.map deedD)], Tb⟩ 3 Γ3 σ3 H3 := fun σ3 H3 R3 => by
      refine ⟨_, ⟨.im (deedD e), rfl⟩, ?_⟩
      rw [take_snoc he, List.map_append, List.map_append]
      exact R3
    cases e with
    | come n ts =>
      refine vs_last (vs_append (i := 1) R2 (by decide) rfl rfl (ve_join (ve_c rfl ⟨_, rfl, ?_⟩)) ⟨_, rfl⟩)
      refine ve_op (ve_lst (vai_cons (ve_op (ve_var rfl (by decide) (ve_c rfl (o2_ixT (atI_nat (j := 0) rfl) ⟨_, rfl, ?_⟩))))))
      refine vai_cons (ve_op (ve_var rfl (by decide) (ve_c rfl (o2_ixT (atI_nat (j := 1) rfl) ⟨_, rfl, vai_nil ⟨le_k rfl, fun a1 => ?_⟩⟩))))
      refine ve_if (vt_test (ve_op (ve_op (ve_var rfl (by decide) (ve_c rfl (o2_ixT (atI_nat (j := 0) rfl) (ve_c rfl (o2_eqS ⟨_, rfl, ?_⟩))))))))
      rw [decide_eq_true (show sCome = Str.ofString "come" from rfl), if_pos rfl]
      refine ve_cb (vas_cons (ve_op (ve_var rfl (by decide) (ve_c rfl (o2_ixT (atI_nat (j := 2) rfl) (vas_nil (cb_list (.tup _) fun t2 => ?_)))))))
      refine o2_cat (.own (j := 3) rfl) (.own (j := 4) rfl) (by have := fe.few; show 2 + (ts.map PyData.str).length ≤ _; rw [List.length_map]; have : ts.length ≤ 100 := this; omega) fun t3 => ?_
      refine ⟨true, sCome :: n :: ts, .own (j := 5) rfl, Nat.le_trans (fine_sum fe) (by decide), _, _, rfl, rfl, lk, fun σ3 H3 R3 => fin σ3 H3 R3⟩
    | die n =>
      refine vs_last (vs_append (i := 1) R2 (by decide) rfl rfl (ve_join (ve_c rfl ⟨_, rfl, ?_⟩)) ⟨_, rfl⟩)
      refine ve_op (ve_lst (vai_cons (ve_op (ve_var rfl (by decide) (ve_c rfl (o2_ixT (atI_nat (j := 0) rfl) ⟨_, rfl, ?_⟩))))))
      refine vai_cons (ve_op (ve_var rfl (by decide) (ve_c rfl (o2_ixT (atI_nat (j := 1) rfl) ⟨_, rfl, vai_nil ⟨le_k rfl, fun a1 => ?_⟩⟩))))
      refine ve_if (vt_test (ve_op (ve_op (ve_var rfl (by decide) (ve_c rfl (o2_ixT (atI_nat (j := 0) rfl) (ve_c rfl (o2_eqS ⟨_, rfl, ?_⟩))))))))
      rw [decide_eq_false (by decide +kernel), if_neg Bool.false_ne_true]
      refine ve_lst (vai_nil ⟨le_k rfl, fun t2 => ?_⟩)
      refine o2_cat (.own (j := 3) rfl) (.own (j := 4) rfl) (le_k rfl) fun t3 => ?_
      refine ⟨true, [sDie, n], .own (j := 5) rfl, Nat.le_trans (fine_sum fe) (by decide), _, _, rfl, rfl, lk, fun σ3 H3 R3 => fin σ3 H3 R3⟩
  · rintro Γ2 σ2 H2 ⟨e, rfl⟩ R2
    rw [List.length_map, List.take_length] at R2
    have hb : ((ds.map deedLine).map (·.length)).sum + (ds.map deedLine).length * sNl.length ≤ 16777216 := by
      have hs := sum_le (ps := ds.map deedLine) (b := 1000) fun p hp => by
        obtain ⟨d, hd, rfl⟩ := List.mem_map.mp hp
        exact (fine d hd).len
      have e1 : sNl.length = 1 := by decide +kernel
      rw [List.length_map] at hs ⊢
      rw [e1]
      omega
    exact vs_retV R2 (fun x outs p => p) (ve_join (ve_c rfl ⟨sNl, rfl, ve_varO rfl (by decide) rfl ⟨true, ds.map deedLine, .own (j := 1) rfl, hb, [.ls t (ds.map deedD)], [0], .cons rfl .nil, by simp, post⟩⟩))
end
end Hw

set_option Elab.async false
set_option linter.all false
set_option maxRecDepth 100000
set_option maxHeartbeats 4000000
namespace Hw
open PySem L2 LamX PyProof.Rows Vl
section
variable {F : Frm} {n : Nat} {Γ : List Ent} {te : TE}
theorem vi_listI {K : PySem.W.Frag} {P : List PyData → (List Ent → Prop) → List Ent → Prop} (h : VE F n Γ te fun x Γ1 => ∃ ds, x = .im (.list ds) ∧ ∀ v, P ds (fun Γ2 => .iv v (.list ds) ∈ Γ2) (Γ1 ++ [.iv v (.list ds)])) : VI F n Γ (iList K te) P := fun σ H R0 R q =>
  h σ H _ R fun v x Γ1 H1 ⟨ds, hx, p⟩ s1 R1 ok => by
    subst hx
    obtain ⟨a, xs, rfl, e, na, al⟩ := Dz.list ok
    have pu := R1.push (e := .iv (.ref a) (.list ds)) (o := some (.ref a)) (Same.refl H1) (fun _ z => by cases z) ⟨rfl, Dz.nxt (.add (Same.refl H1) fun b hb => by
      rcases hb with z | z
      · exact .inl (.inl z)
      · rcases In.app.mp z with z | z
        · exact .inl (.inr z)
        · exact absurd (In.one.mp z) (by simp [Ent.own])) _ _ ok⟩
    have rd : ∀ (Γ2 : List Ent) (σ2 : L2.St) (H2 : Hp), Ent.iv (.ref a) (.list ds) ∈ Γ2 → Rep F n Γ2 σ2 H2 → ∃ xs, H2 a = some (.lst xs) ∧ DzAll (Ex F Γ2) H2 xs ds := fun Γ2 σ2 H2 g R2 => by
      obtain ⟨k, hk⟩ := List.mem_iff_getElem?.mp g
      obtain ⟨o, _, _, x⟩ := R2.ok k _ hk
      obtain ⟨p', xs, e1, e2, _, e3⟩ := Dz.list x
      cases e1
      exact ⟨xs, e2, e3⟩
    refine ⟨a, rfl, ⟨xs, sql_of e⟩, q _ ds _ _ _ (p (.ref a)) ⟨fun Γ2 σ2 H2 i g R2 hi => ?_, fun Γ2 σ2 H2 g R2 => ?_, fun Γ2 σ2 H2 i x H3 d g R2 hd y => ?_⟩ (s1.trans pu.2) pu.1⟩
    · obtain ⟨ys, e2, e3⟩ := rd Γ2 σ2 H2 g R2
      have : i < ys.length := by rw [e3.length]; exact hi
      exact ⟨ys, ys[i], sql_of e2, List.getElem?_eq_getElem this⟩
    · obtain ⟨ys, e2, e3⟩ := rd Γ2 σ2 H2 g R2
      exact ⟨ys, sql_of e2, by rw [e3.length]; exact Nat.le_refl _⟩
    · obtain ⟨ys, e2, e3⟩ := rd Γ2 σ2 H2 g R2
      obtain ⟨rfl, hy⟩ := y
      obtain ⟨w, h1, h2⟩ := e3.getD hd
      have := hy ys (sql_of e2)
      rw [h1] at this
      cases this
      exact ⟨Same.refl _, h2⟩
theorem ve_of3 {K : PySem.W.Frag} {j : Nat} {a : Addr} {ta : TA} {E : XK} {P : Val → List Ent → Prop} (h : VAs F n Γ ta fun xs Γ1 => ∃ (r : Addr) (i : Nat) (ds : List PyData) (N : Nat), xs = [.vl (.ref a), .vl (.ref r)] ∧ Γ1[j]? = some (.pot a N) ∧ Γ1[i]? = some (.ls r ds) ∧ N < 1000000000 ∧ i ≠ j ∧ 0 < ds.length ∧ ds.length < 1000000000 ∧ ∀ d ∈ ds, P (.im d) (Γ1.set j (.pot a (N + 1)))) : VE F n Γ (tCall (spOf2 K) [] E ta) P := fun σ H Q R q =>
  h σ H _ R fun vs xs Γ1 H1 ⟨r, i, ds, N, hx, he, hr, hN, hne, l0, l1, p⟩ s1 R1 ok => by
    subst hx
    cases ok with
    | cons o1 o2 =>
      cases o2 with
      | cons o2 o3 =>
        cases o3
        have o1 : _ = V.ref a := o1
        subst o1
        obtain ⟨o, g1, g2, pot⟩ := R1.ok j _ he
        obtain ⟨b, ys, rfl, al, eb⟩ := (Sq.own hr).get R1 o2
        have eb : H1 b = some (.lst ys) := eb
        have o2 : V.ref b = V.ref r := o2
        have hbr : b = r := V.ref.inj o2
        have nab : a ≠ b := fun z => hne (R1.nd i j _ _ b hr he (by rw [hbr]; exact List.mem_cons_self) (by rw [← z]; exact List.mem_cons_self))
        refine .inl ⟨a, b, ys, N, rfl, pot, hN, sql_of eb, nab, by rw [al.length]; exact l0, by rw [al.length]; exact l1, fun i v H' hv s P' => ?_⟩
        obtain ⟨d, hd, x⟩ := al.get hv
        have wr := R1.write (e' := .pot a (N + 1)) (H' := H') he (o' := o) g1 (fun b hb => .inl hb) (fun b w hb e => s b w (fun z => hb (by rw [z]; exact List.mem_cons_self)) e) ⟨g2, P'⟩
        exact q _ _ _ _ (p d (List.mem_of_getElem? hd)) (s1.trans wr.2) wr.1 (Dz.nxt wr.2 _ _ x)
end
abbrev sRt : Stmt := topS 38
theorem scRt : FnScope ["pot", "deeds", "deed", "lap", "at", "bad", "lines", "text", "odd"] ["pot"] (defScope sRt) := ⟨rfl, rfl, rfl, by decide +kernel, rfl, by decide +kernel, by decide +kernel⟩
def lamR : Str := (envOfC "_law_right" (defScope sRt) 0 0 .none).qual ++ "<lambda>"
theorem lamR_eq (L : Nat) (f : Addr) (cd : Value) : (envOfC "_law_right" (defScope sRt) L f cd).qual ++ "<lambda>" = lamR := rfl
theorem in_T {T : List (Addr × Str)} {P1 : Addr} {q x : Str} (e : x = q) (h : (P1, q) ∈ T) : (P1, x) ∈ T := by rw [e]; exact h
theorem uq_T {T : List (Addr × Str)} {P1 : Addr} {q x : Str} (e : x = q) (h : ∀ p ∈ T, p.1 = P1 → p.2 = q) : ∀ p ∈ T, p.1 = P1 → p.2 = x := by rw [e]; exact h
def spRightT (T : List (Addr × Str)) : Sp := fun vs H Q _ => ∃ (a : Addr) (N : Nat), vs = [.ref a] ∧ Pot H a N ∧ N < 100000 ∧ Tabs T H ∧ ∀ H', ExtA a H H' → Pot H' a (N + 4000) → Tabs T H' → Q (.bl true) H'
theorem rep_pot {H : Hp} {a : Addr} {N : Nat} {T : List (Addr × Str)} (hP : Pot H a N) : Rep ⟨fun _ => False, H, fun b => b = a, T⟩ ([V.ref a] : List V).length [.pot a N] (([V.ref a] : List V).map some) H := by
  refine ⟨rfl, Nat.le_refl _, fun i e h => ?_, fun i j e e' b h1 h2 _ _ => ?_, fun _ z => z.elim, fun b o _ _ e => e, fun t => t, fun b hb => .inl (List.mem_singleton.mp (In.one.mp hb))⟩
  · cases i with
    | zero => cases h; exact ⟨some (.ref a), fun _ => rfl, rfl, hP⟩
    | succ i => simp at h
  · cases i with
    | zero => cases j with
      | zero => rfl
      | succ j => simp at h2
    | succ i => simp at h1
def lineP : PyData → Str
  | .tuple [_, .str n, .tuple ts] => Txt.join sBl (sCome :: n :: strsD ts)
  | .tuple [_, .str n] => Txt.join sBl [sDie, n]
  | _ => Str.ofString ""
theorem lineP_deed (e : Deed) : lineP (deedD e) = deedLine e := by
  cases e with
  | come n ts =>
    show Txt.join sBl (sCome :: n :: strsD (ts.map PyData.str)) = _
    rw [strs_map]; rfl
  | die n => rfl
theorem text_one (e : Deed) : histText [e] = deedLine e := by
  show Txt.join sNl [deedLine e] = _
  rw [TL.join_eq]; rfl
theorem cutS_to {α : Type} (g : α → PyData) (zs : List α) (k : Nat) : Vl.cutD (zs.map g) none (some (k : Int)) = (zs.take k).map g := by
  unfold Vl.cutD
  rw [show HT.sIx (zs.map g).length (zs.map g).length (some (k : Int)) = min k (zs.map g).length from HT.sIx_nat _ _ k, HT.sIx_none, List.drop_zero, Nat.sub_zero, List.map_take, List.length_map]
  by_cases h : k ≤ zs.length
  · rw [Nat.min_eq_left h]
  · rw [Nat.min_eq_right (by omega), List.take_of_length_le (by rw [List.length_map]; exact Nat.le_refl _), List.take_of_length_le (by rw [List.length_map]; omega)]
theorem cutS_from {α : Type} (g : α → PyData) (zs : List α) (k : Nat) : Vl.cutD (zs.map g) (some (k : Int)) none = (zs.drop k).map g := by
  unfold Vl.cutD
  rw [show HT.sIx (zs.map g).length 0 (some (k : Int)) = min k (zs.map g).length from HT.sIx_nat _ 0 k, HT.sIx_none, List.map_drop, List.length_map]
  by_cases h : k ≤ zs.length
  · rw [Nat.min_eq_left h]
    exact List.take_of_length_le (by rw [List.length_drop, List.length_map]; exact Nat.le_refl _)
  · rw [Nat.min_eq_right (by omega), List.drop_of_length_le (by rw [List.length_map]; exact Nat.le_refl _), List.drop_of_length_le (by rw [List.length_map]; omega), List.take_nil]
/-- the text with a bad line in it is refused at that line -/
theorem bad_text {ds : List Deed} (h : Hist ds) (hl : ds.length ≤ 100) {at_ j : Nat} (ha : at_ ≤ ds.length) {z : Str} (b : Bad (ds.take at_) z) (hne : (Txt.join sNl ((ds.map deedLine).take at_ ++ [z] ++ (ds.map deedLine).drop (at_ + j))).length ≠ 0) :
    FineT (Txt.join sNl ((ds.map deedLine).take at_ ++ [z] ++ (ds.map deedLine).drop (at_ + j))) ∧ readT (.str (Txt.join sNl ((ds.map deedLine).take at_ ++ [z] ++ (ds.map deedLine).drop (at_ + j)))) = .inl (at_ + 1) := by
  obtain ⟨ws, e1, e2, e3, e4, e5, e6, e7⟩ := b.split
  have fineD : ∀ l ∈ ds.map deedLine, 10 ∉ l.cps.toList ∧ l.length ≤ 1000 ∧ FineL l := fun l hm => by
    obtain ⟨d, hd, rfl⟩ := List.mem_map.mp hm
    have f := FineD.of h hl hd
    refine ⟨f.nonl, f.len, by have := f.len; rw [sizeLine_eq]; omega, ?_, ?_, fun w hw => ?_⟩
    · rw [f.split]
      have := f.few
      show d.ties.length + 2 ≤ _
      omega
    · rw [f.split]; exact fun z => nomatch z
    · rw [f.split] at hw
      have : w.length ≤ 8 := by
        rcases List.mem_cons.mp hw with rfl | hw
        · cases d with
          | come n ts => exact show sCome.length ≤ 8 by decide +kernel
          | die n => exact show sDie.length ≤ 8 by decide +kernel
        · rcases List.mem_cons.mp hw with rfl | hw
          · exact f.nm.2.1
          · exact (f.ts w hw).2.1
      rw [sizeLine_eq]; omega
  have all : ∀ l ∈ (ds.map deedLine).take at_ ++ [z] ++ (ds.map deedLine).drop (at_ + j), 10 ∉ l.cps.toList ∧ l.length ≤ 1000 ∧ FineL l := fun l hm => by
    rcases List.mem_append.mp hm with hm | hm
    · rcases List.mem_append.mp hm with hm | hm
      · exact fineD l (List.mem_of_mem_take hm)
      · rw [List.mem_singleton.mp hm]
        refine ⟨e6, by omega, by rw [sizeLine_eq]; omega, by rw [e1]; omega, by rw [e1]; exact e2, fun w hw => ?_⟩
        rw [e1] at hw
        have := e4 w hw
        rw [sizeLine_eq]; omega
    · exact fineD l (List.mem_of_mem_drop hm)
  have hne2 : (ds.map deedLine).take at_ ++ [z] ++ (ds.map deedLine).drop (at_ + j) ≠ [] := by simp
  have sp := split_nl hne2 fun p hp => (all p hp).1
  have llen : ((ds.map deedLine).take at_ ++ [z] ++ (ds.map deedLine).drop (at_ + j)).length ≤ 201 := by
    rw [List.length_append, List.length_append, List.length_take, List.length_drop, List.length_map]
    show _ + 1 + _ ≤ _
    omega
  have lo : linesOf (Txt.join sNl ((ds.map deedLine).take at_ ++ [z] ++ (ds.map deedLine).drop (at_ + j))) = (ds.map deedLine).take at_ ++ [z] ++ (ds.map deedLine).drop (at_ + j) := by
    unfold linesOf
    rw [if_neg hne, sp]
  refine ⟨⟨?_, by rw [lo]; omega, fun l hm => by rw [lo] at hm; exact (all l hm).2.2⟩, ?_⟩
  · have h1 := join_len sNl ((ds.map deedLine).take at_ ++ [z] ++ (ds.map deedLine).drop (at_ + j))
    have hs := sum_le (b := 1000) fun p hp => (all p hp).2.1
    have e1 : sNl.length = 1 := by decide +kernel
    rw [e1] at h1
    rw [sizeLine_eq]
    omega
  · show readL (linesOf _) 1 [] = _
    rw [lo, List.append_assoc, ← List.map_take, readL_pre (h.take at_) (by rw [List.length_take]; omega)]
    show (if standB (livesF ((ds.take at_).map deedD)) ((ds.take at_).map deedD).length (deedW (Txt.split z sBl)) = true then _ else Sum.inl ((ds.take at_).length + 1)) = _
    rw [e1, List.length_map, e7, if_neg Bool.false_ne_true, List.length_take, Nat.min_eq_left ha]
theorem lines_bound {ds : List Deed} (h : Hist ds) (hl : ds.length ≤ 100) {at_ j : Nat} {z : Str} (b : z.length ≤ 200) : (((ds.map deedLine).take at_ ++ [z] ++ (ds.map deedLine).drop (at_ + j)).map (·.length)).sum + ((ds.map deedLine).take at_ ++ [z] ++ (ds.map deedLine).drop (at_ + j)).length * sNl.length ≤ 16777216 := by
  have hs := sum_le (ps := (ds.map deedLine).take at_ ++ [z] ++ (ds.map deedLine).drop (at_ + j)) (b := 1000) fun p hp => by
    have fineD : ∀ l ∈ ds.map deedLine, l.length ≤ 1000 := fun l hm => by
      obtain ⟨d, hd, rfl⟩ := List.mem_map.mp hm
      exact (FineD.of h hl hd).len
    rcases List.mem_append.mp hp with hm | hm
    · rcases List.mem_append.mp hm with hm | hm
      · exact fineD _ (List.mem_of_mem_take hm)
      · rw [List.mem_singleton.mp hm]; omega
    · exact fineD _ (List.mem_of_mem_drop hm)
  have llen : ((ds.map deedLine).take at_ ++ [z] ++ (ds.map deedLine).drop (at_ + j)).length ≤ 201 := by
    rw [List.length_append, List.length_append, List.length_take, List.length_drop, List.length_map]
    show _ + 1 + _ ≤ _
    omega
  have e1 : sNl.length = 1 := by decide +kernel
  rw [e1]
  omega
def odds : List PyData := [.none, .int 0, .bool true, .tuple [], .list [], .dict [], .tuple [.str "come a"], .list [.str "come a"]]
theorem odds_no : ∀ d ∈ odds, readT d = .inl 0 ∧ ∀ z, d ≠ .str z := by
  intro d hd
  simp only [odds, List.mem_cons, List.not_mem_nil, or_false] at hd
  rcases hd with rfl | rfl | rfl | rfl | rfl | rfl | rfl | rfl <;> exact ⟨rfl, fun z e => by cases e⟩
end Hw

set_option Elab.async false
set_option linter.all false
set_option maxRecDepth 100000
set_option maxHeartbeats 4000000
namespace Hw
open PySem PySem.Spec L2 LamX PyProof PyProof.Rows Vl
section
variable {P : Program} {w : World} {K : PySem.W.Frag} {mg : Str → Option Value} {base : Heap}

theorem ok_right {P1 cc CS C c f fH fI f_law_of f_law_take f_law_history_text f_law_bad_lines f_law_history : Addr} {fd fd_law_of fd_law_take fd_law_history_text fd_law_bad_lines fd_law_history : FuncData} {fdH fdI : FuncData} {k m jm : Nat} (hjm : jm + 1 ≤ m) {T : List (Addr × Str)} (F : FunC K "_law_right" "_law_right" sRt f fd cc) (TB : TabB base mg cc P1) (hm : (P1, lamR) ∈ T) (huq : ∀ p ∈ T, p.1 = P1 → p.2 = lamR) (TH : TxtH K mg C) (M : L2.Mk K C fI)
    (hC : ∀ dd, Caught K CS (.ref c) (some dd) c dd) (hkk : PySem.W.kitOne K (.ref c) (.ref c) = some true)
    (GH : FnGL P w K mg base CX0 k fH fdH ["call"] (spHeard1 P w K mg base m CS c)) (gH : mg "_law_heard" = some (.ref fH)) (kH : PySem.W.keepIn K (.ref fH) = true) (bH : Binds K fdH ["call"] [])
    (GI : FnOk P w K mg base (L2N.CX P w) jm fI fdI ["self", "text"] (SpVX (A_initH c C))) (bI : Binds K fdI ["self", "text"] []) (bIk : KBn K fdI ["self", "text"] (0 + 1) ["text"] (fun us ws => us ++ ws) (fun vs zs => vs ++ zs)) (B : Blt mg) (z_repr : mg "repr" = none) (z_any : mg "any" = none) 
    (G_law_of : FnOk P w K mg base CX0 k f_law_of fd_law_of ["pot", "some"] (spOf2 K)) (g_law_of : mg "_law_of" = some (.ref f_law_of)) (k_law_of : PySem.W.keepIn K (.ref f_law_of) = true) (b_law_of : Binds K fd_law_of ["pot", "some"] []) 
    (G_law_take : FnOk P w K mg base CX0 k f_law_take fd_law_take ["pot", "upto"] spTake) (g_law_take : mg "_law_take" = some (.ref f_law_take)) (k_law_take : PySem.W.keepIn K (.ref f_law_take) = true) (b_law_take : Binds K fd_law_take ["pot", "upto"] []) 
    (G_law_history_text : FnOk P w K mg base CX0 k f_law_history_text fd_law_history_text ["deeds"] (SpV A_htext)) (g_law_history_text : mg "_law_history_text" = some (.ref f_law_history_text)) (k_law_history_text : PySem.W.keepIn K (.ref f_law_history_text) = true) (b_law_history_text : Binds K fd_law_history_text ["deeds"] []) 
    (G_law_bad_lines : FnOk P w K mg base CX0 k f_law_bad_lines fd_law_bad_lines ["pot", "deeds"] (SpV A_bad_lines)) (g_law_bad_lines : mg "_law_bad_lines" = some (.ref f_law_bad_lines)) (k_law_bad_lines : PySem.W.keepIn K (.ref f_law_bad_lines) = true) (b_law_bad_lines : Binds K fd_law_bad_lines ["pot", "deeds"] []) 
    (G_law_history : FnOk P w K mg base CX0 k f_law_history fd_law_history ["pot", "places", "more", "wood"] spHist) (g_law_history : mg "_law_history" = some (.ref f_law_history)) (k_law_history : PySem.W.keepIn K (.ref f_law_history) = true) (b_law_history : Binds K fd_law_history ["pot", "places", "more", "wood"] []) :
    FnG P w K mg base CX0 (k + 1) f fd ["pot"] (spRightT T) := by
  refine funGC F scRt (fun vs H Q E h => ?_) (fun A outer s H vs Q E hr h => ?_)
  · obtain ⟨a, N, rfl, _⟩ := h
    rfl
  obtain ⟨a, N, rfl, hP0, hN, hT, q⟩ := h
  have hun := hr.r.un
  have h100 : (A.deeper (envOfC "_law_right" (defScope sRt) s.heap.objs.size f (.ref cc))).units + 100 < cLine := by omega
  refine ⟨_, (pss_cons (ps_set (i := 1) scRt.nd rfl (.inl rfl) (pe_call G_law_history hr.r (by rfl) g_law_history k_law_history b_law_history .nil pass0 (pa_cons (pv 0) (pa_cons (pe_call G_law_of hr.r (by rfl) g_law_of k_law_of b_law_of .nil pass0 (pa_cons (pv 0) (pa_cons (pe_lst (pa_cons pe_int (pa_cons pe_int pa_nil))) pa_nil))) (pa_cons pe_int (pa_cons pe_bl pa_nil))))))
      (pss_cons (ps_if (pt_val (pe_callB (cr_any rfl) (by rfl) z_any PyProof.Rows.boot_any (pa_cons (pe_lc (own := [("deed", 2)]) (g := (gName 2)) (te := tOp rEq (tOp (rIxT K) (tVar 2) (tC (.int 1))) (tC (.str "new"))) (by rfl) scRt.nd (pi_list (pv 1)) (blkOk_by (N := ["pot", "deeds", "deed", "lap", "at", "bad", "lines", "text", "odd"]) (sc := defScope sRt) (by decide +kernel)) (fun _ _ _ _ _ => (pg_name (i := 2) scRt.nd rfl (.inl rfl))) (fun _ _ _ _ _ => pts_nil) (fun _ _ _ _ _ => (pe_cmpR op_eq (pe_ix ix_tup (pv 2) pe_int (fun _ _ => rfl)) pe_str (nomark _)))) pa_nil))) (pss_one (ps_ret pe_bl)) pss_nil)
      (pss_cons (ps_for PassesOwn.never rfl (pi_range1 (by rfl) B.range (pa_cons pe_int pa_nil)) (pg_name (i := 3) scRt.nd rfl (.inl rfl))
        (pss_cons (ps_set (i := 4) scRt.nd rfl (.inl rfl) (pe_call G_law_take hr.r (by rfl) g_law_take k_law_take b_law_take .nil pass0 (pa_cons (pv 0) (pa_cons (pe_op op_add (pe_callB call_len_seq (by rfl) B.len PySem.boot_len (pa_cons (pv 1) pa_nil)) pe_int) pa_nil))))
      (pss_cons (ps_set (i := 5) scRt.nd rfl (.inl rfl) (pe_call G_law_of hr.r (by rfl) g_law_of k_law_of b_law_of .nil pass0 (pa_cons (pv 0) (pa_cons (pe_call G_law_bad_lines hr.r (by rfl) g_law_bad_lines k_law_bad_lines b_law_bad_lines .nil pass0 (pa_cons (pv 0) (pa_cons (pe_slice sl_list (pv 1) po_none (po_some (pv 4))) pa_nil))) pa_nil))))
      (pss_cons (ps_setLc (i := 6) (own := [("deed", 2)]) (g := (gName 2)) (te := tCall (SpV A_htext) [] E0 (tCons (tLst (tCons (tVar 2) tNil)) tNil)) (by rfl) scRt.nd rfl rfl (sw_true rfl rfl rfl (by decide +kernel)) (pi_list (pv 1)) (blkOk_by (N := ["pot", "deeds", "deed", "lap", "at", "bad", "lines", "text", "odd"]) (sc := defScope sRt) (by decide +kernel)) (fun _ _ _ _ _ => (pg_name (i := 2) scRt.nd rfl (.inl rfl))) (fun _ _ _ _ _ => pts_nil) (fun _ _ _ _ _ => (pe_call G_law_history_text hr.r (by rfl) g_law_history_text k_law_history_text b_law_history_text .nil pass0 (pa_cons (pe_lst (pa_cons (pv 2) pa_nil)) pa_nil))))
      (pss_cons (ps_set (i := 7) scRt.nd rfl (.inr rfl) (pe_join pe_str (pe_op op_cat (pe_op op_cat (pe_slice sl_list (pv 6) po_none (po_some (pv 4))) (pe_lst (pa_cons (pv 5) pa_nil))) (pe_slice sl_list (pv 6) (po_some (pe_op op_add (pv 4) (pe_call G_law_take hr.r (by rfl) g_law_take k_law_take b_law_take .nil pass0 (pa_cons (pv 0) (pa_cons pe_int pa_nil))))) po_none))))
      (pss_one (ps_if (PW.pt (pw_and (pt_cmpR op_ne (pv 7) pe_str (nomark _)) (pw_and1 (pt_cmpR op_ne (pe_callB (call_repr hr.g h100) (by rfl) z_repr PyProof.Rows.boot_repr (pa_cons (pe_lamW (tb := fun E1 => tMake C (SpVX (A_initH c C)) [] E1 (tCons (tVar 7) tNil)) (CXl := L2N.CX P w) (j := m) (T := T) GH hr (by rfl) gH kH bH .nil pass0 pa_nil TB rfl (in_T (lamR_eq _ _ _) hm) (uq_T (lamR_eq _ _ _) huq) (lamS_by (sc := defScope sRt) (by decide +kernel)) rfl (fun _ _ _ _ _ => rfl) (fun A' outer' s' H' E' f' c' hr' => pe_make M GI (hr'.mono hjm) (by rfl) TH.mH bI .nil (L2N.passes_call (L2N.takes_of rfl rfl rfl rfl) (fun _ _ _ _ h => h)) (pa_cons (pv 7) pa_nil))) pa_nil)) (pe_callB (call_repr hr.g h100) (by rfl) z_repr PyProof.Rows.boot_repr (pa_cons (pe_callTy call_int1 (by rfl) B.int PyProof.Rows.boot_int (pa_cons (pe_op op_add (pv 4) pe_int) pa_nil)) pa_nil)) (nomark _))))) (pss_one (ps_ret pe_bl)) pss_nil)))))))
      (pss_cons (ps_set (i := 8) scRt.nd rfl (.inr rfl) (pe_call G_law_of hr.r (by rfl) g_law_of k_law_of b_law_of .nil pass0 (pa_cons (pv 0) (pa_cons (pe_lst (pa_cons pe_non (pa_cons pe_int (pa_cons pe_bl (pa_cons (pe_tup pa_nil) (pa_cons (pe_lst pa_nil) (pa_cons pe_dnewK (pa_cons (pe_tup (pa_cons pe_str pa_nil)) (pa_cons (pe_lst (pa_cons pe_str pa_nil)) pa_nil))))))))) pa_nil))))
      (pss_one (ps_ret (pe_cmpR op_eq (pe_callB (call_repr hr.g h100) (by rfl) z_repr PyProof.Rows.boot_repr (pa_cons (pe_lamW (tb := fun E1 => tMakeN C 0 (["text"] : List Str).length (SpVX (A_initH c C)) (fun vs zs => vs ++ zs) E1 tNil (tCons (tVar 8) tNil)) (CXl := L2N.CX P w) (j := m) (T := T) GH hr (by rfl) gH kH bH .nil pass0 pa_nil TB rfl (in_T (lamR_eq _ _ _) hm) (uq_T (lamR_eq _ _ _) huq) (lamS_by (sc := defScope sRt) (by decide +kernel)) rfl (fun _ _ _ _ _ => rfl) (fun A' outer' s' H' E' f' c' hr' => pe_makeK0 M GI (hr'.mono hjm) (by rfl) TH.mH bIk (L2N.passes_call (L2N.takes_of rfl rfl rfl rfl) (fun _ _ _ _ h => h)) (pk_cons (pv 8) pk_nil))) pa_nil)) (pe_callB (call_repr hr.g h100) (by rfl) z_repr PyProof.Rows.boot_repr (pa_cons pe_int pa_nil)) (nomark _)))))))), ?_⟩
  have R : Rep ⟨fun _ => False, H, fun b => b = a, T⟩ 9 [.pot a N, .no, .no, .no, .no, .no, .no, .no, .no] _ H := rep_start (N := ["pot", "deeds", "deed", "lap", "at", "bad", "lines", "text", "odd"]) (rep_pot hP0) rfl (le_k rfl)
  have fin : ∀ (x : Val) outs, (x = .im (.bool true) ∧ ∃ N', N' ≤ N + 4000 ∧ outs = [.pot a N']) → ∀ v H', Rep ⟨fun _ => False, H, fun b => b = a, T⟩ 0 outs [] H' → x.ok (Ex ⟨fun _ => False, H, fun b => b = a, T⟩ outs) H' v → Q v H' := by
    rintro x outs ⟨rfl, N', hN', rfl⟩ v H' R' ok
    have ok := Dz.bool ok
    subst ok
    obtain ⟨o, _, _, pt⟩ := R'.ok 0 _ rfl
    exact q H' (fun b o nb nt e => R'.fr b o nb nt e) (pt.mono hN') (R'.tb hT)
  have hex : ∀ (Γ : List Ent) (N1 : Nat), (∀ e ∈ Γ, e.own = []) → ∀ b, Ex ⟨fun _ => False, H, fun b => b = a, T⟩ (.pot a N1 :: Γ) b → b = a := by
    rintro Γ N1 hΓ b (z | ⟨e, he, hb⟩)
    · exact z.elim
    · rcases List.mem_cons.mp he with rfl | he
      · exact List.mem_singleton.mp hb
      · rw [hΓ e he] at hb; cases hb
  -- the deeds
  refine vs_set R (by decide) (ve_hist (j := 0) (a := a) (vas_cons (ve_varO rfl (by decide) rfl (vas_cons (ve_of2 (j := 0) (a := a) (vas_cons (ve_varO rfl (by decide) rfl (vas_cons (ve_lstI (vai_cons (ve_c (d := .int 2) rfl ⟨_, rfl, vai_cons (ve_c (d := .int 8) rfl ⟨_, rfl, vai_nil ⟨le_k rfl, ?_⟩⟩)⟩)))))))))))
  refine vas_nil ⟨_, _, N, rfl, rfl, .lst _, by omega, (fun z => nomatch z), by decide, by decide, fun d hd => ?_⟩
  obtain ⟨pl, rfl, pl2, pl8⟩ : ∃ pl : Nat, d = .int (pl : Int) ∧ 2 ≤ pl ∧ pl ≤ 8 := by
    simp only [List.mem_cons, List.not_mem_nil, or_false] at hd
    rcases hd with rfl | rfl
    · exact ⟨2, rfl, by decide, by decide⟩
    · exact ⟨8, rfl, by decide, by decide⟩
  refine vas_cons (ve_c (d := .int (8 : Nat)) rfl (vas_cons (ve_c (d := .bool false) rfl (vas_nil ⟨pl, 8, false, N + 1, rfl, rfl, hex _ _ (by intro e he; simp only [List.mem_cons, List.not_mem_nil, or_false] at he; rcases he with rfl | rfl | rfl | rfl | rfl | rfl | rfl | rfl <;> rfl), by omega, pl2, by omega, by decide, fun ds hH hlen => ⟨_, rfl, fun σ1 H1 R1 => ?_⟩⟩))))
  have hl : ds.length ≤ 100 := by omega
  have R1 : Rep ⟨fun _ => False, H, fun b => b = a, T⟩ 9 [.pot a (N + 1 + 3000), .im (.list (ds.map deedD)), .no, .no, .no, .no, .no, .no, .no] σ1 H1 := R1
  -- no deed of a new name
  refine vs_if R1 (vt_b (ve_cb (vas_cons (ve_lcp (vs := [2]) (tg := fun d Γ => Γ.set 2 (.im d)) (by decide) (vi_listI (ve_var rfl (by decide) ⟨_, rfl, fun v => ?_⟩))))))
  refine ⟨fun d hd => vgc_name (by decide), by rw [List.length_map]; omega, [.pot a (N + 1 + 3000), .im (.list (ds.map deedD)), .no, .no, .no, .no, .no, .no, .no, .iv v (.list (ds.map deedD))], rfl, fun e => by simp, le_k rfl, no1 rfl, fun _ => true, fun d => .bool (decide (nameD d = Str.ofString "new")), fun d hd acc D => ?_, fun D => ?_⟩
  · obtain ⟨e, _, rfl⟩ := List.mem_map.mp hd
    cases e with
    | come n ts =>
      refine vt_yes ⟨rfl, ?_⟩
      rw [if_pos rfl]
      exact ve_op (ve_op (ve_var rfl (by decide) (ve_c rfl (o2_ixT (atI_nat (j := 1) rfl) (ve_c rfl (o2_eqS ⟨rfl, rfl, rfl⟩))))))
    | die n =>
      refine vt_yes ⟨rfl, ?_⟩
      rw [if_pos rfl]
      exact ve_op (ve_op (ve_var rfl (by decide) (ve_c rfl (o2_ixT (atI_nat (j := 1) rfl) (ve_c rfl (o2_eqS ⟨rfl, rfl, rfl⟩))))))
  refine vas_nil (cb_any (bs := ds.map fun e => decide (e.name = nNew)) (.own (j := 10) ?_) ⟨_, rfl, fun H2 R2 => ?_⟩)
  · rw [List.filter_eq_self.mpr fun _ _ => rfl, List.map_map, List.map_map]
    refine congrArg some (congrArg (Ent.ls D) (List.map_congr_left fun e _ => ?_))
    cases e <;> rfl
  have R2 : Rep ⟨fun _ => False, H, fun b => b = a, T⟩ 9 [.pot a (N + 1 + 3000), .im (.list (ds.map deedD)), .no, .no, .no, .no, .no, .no, .no] σ1 H2 := R2
  cases hany : (ds.map fun e => decide (e.name = nNew)).any id with
  | true =>
    rw [if_pos rfl]
    exact vs_retV R2 fin (ve_c rfl ⟨[.pot a (N + 1 + 3000)], [0], .cons rfl .nil, by simp, rfl, _, by omega, rfl⟩)
  | false =>
    rw [if_neg Bool.false_ne_true]
    have hnew : ∀ k, nNew ∉ cameD (ds.take k) := fun k hm => by
      obtain ⟨e, he, hz⟩ := List.mem_flatMap.mp hm
      have : e.name = nNew := by
        split at hz
        · exact (List.mem_singleton.mp hz).symm
        · cases hz
      have hf : ((ds.map fun e => decide (e.name = nNew)).any id) = true := List.any_eq_true.mpr ⟨true, List.mem_map.mpr ⟨e, List.mem_of_mem_take he, decide_eq_true this⟩, rfl⟩
      rw [hany] at hf; cases hf
    refine vs_for (tg := fun d Γ => Γ.set 3 (.im d)) R2 (vi_range1 (vas_cons (ve_c (d := .int 6) rfl (vas_nil ⟨6, rfl, by decide, by decide, ?_⟩))))
    refine ⟨fun d hd => vg_name (by decide), fun k Γ => ∃ N1 e2 e3 e4 e5 e6 e7, Γ = [.pot a N1, .im (.list (ds.map deedD)), e2, e3, e4, e5, e6, e7, .no] ∧ N1 ≤ N + 3001 + 4 * k, ⟨_, _, _, _, _, _, _, rfl, by omega⟩, fun _ _ _ => trivial, ?_, ?_⟩
    · rintro k d Γ2 σ3 H3 hd ⟨N1, e2, e3, e4, e5, e6, e7, rfl, hN1⟩ R3
      have hk : k < 6 := by
        have := (List.getElem?_eq_some_iff.mp hd).1
        rwa [List.length_map, List.length_range] at this
      have R3 : Rep ⟨fun _ => False, H, fun b => b = a, T⟩ 9 [.pot a N1, .im (.list (ds.map deedD)), e2, .im d, e4, e5, e6, e7, .no] σ3 H3 := R3
      refine vs_set R3 (by decide) (ve_take (j := 0) (N := 0) (a := a) (vas_cons (ve_varO rfl (by decide) rfl (vas_cons (ve_op (ve_cb (vas_cons (ve_var rfl (by decide) (vas_nil (cb_len (.lst _) (ve_c rfl (o2_i rfl ?_))))))))))))
      refine vas_nil ⟨_, N1, rfl, rfl, by omega, by omega, by rw [List.length_map]; omega, fun r r0 r1 => ⟨_, rfl, fun σ4 H4 R4 => ?_⟩⟩
      obtain ⟨at_, rfl⟩ := Int.eq_ofNat_of_zero_le r0
      rw [List.length_map] at r1
      have hat : at_ ≤ ds.length := by omega
      have R4 : Rep ⟨fun _ => False, H, fun b => b = a, T⟩ 9 [.pot a (N1 + 1), .im (.list (ds.map deedD)), e2, .im d, .im (.int (at_ : Nat)), e5, e6, e7, .no] σ4 H4 := R4
      -- the bad line
      refine vs_set R4 (by decide) (ve_of3 (j := 0) (a := a) (vas_cons (ve_varO rfl (by decide) rfl (vas_cons (ve_call A_bad_lines_mono (vas_cons (ve_varO rfl (by decide) rfl (vas_cons (ve_slL (ve_var rfl (by decide) ⟨_, vo_no (vo_some (ve_var rfl (by decide) ⟨_, rfl, .lst _, fun t => ?_⟩))⟩))))))))))
      rw [cutS_to]
      refine vas_nil ⟨_, _, .lent (j := 0) rfl rfl (.lent (j := 9) rfl rfl .nil), by decide, a, N1 + 1, t, ds.take at_, rfl, by omega, hH.take at_, by rw [List.length_take]; omega, hnew at_, fun r N' zs hN' hz hzl hb => ⟨[.pot a N', .ls t ((ds.take at_).map deedD)], [.ls r (zs.map PyData.str)], rfl, .cons ⟨_, rfl, rfl⟩ (.cons ⟨_, rfl, rfl⟩ .nil), ?_⟩⟩
      refine vas_nil ⟨r, 10, _, N', rfl, rfl, rfl, by omega, by decide, by rw [List.length_map]; exact List.length_pos_iff.mpr hz, by rw [List.length_map]; omega, fun b hbm => ?_⟩
      obtain ⟨z, hzm, rfl⟩ := List.mem_map.mp hbm
      refine ⟨_, rfl, fun σ5 H5 R5 => ?_⟩
      have bz := hb z hzm
      have R5 : Rep ⟨fun _ => False, H, fun b => b = a, T⟩ 9 [.pot a (N' + 1), .im (.list (ds.map deedD)), e2, .im d, .im (.int (at_ : Nat)), .im (.str z), e6, e7, .no] σ5 H5 := R5
      -- the lines
      refine vs_setO R5 (by decide) (ve_lcp (vs := [2]) (tg := fun d Γ => Γ.set 2 (.im d)) (by decide) (vi_listI (ve_var rfl (by decide) ⟨_, rfl, fun v => ?_⟩)))
      refine ⟨fun d hd => vgc_name (by decide), by rw [List.length_map]; omega, [.pot a (N' + 1), .im (.list (ds.map deedD)), .no, .im d, .im (.int (at_ : Nat)), .im (.str z), e6, e7, .no, .iv v (.list (ds.map deedD))], rfl, fun e => by simp, le_k rfl, no1 rfl, fun _ => true, fun d => .str (lineP d), fun d' hd' acc D => ?_, fun D => ?_⟩
      · obtain ⟨e, he, rfl⟩ := List.mem_map.mp hd'
        refine vt_yes ⟨rfl, ?_⟩
        rw [if_pos rfl]
        refine ve_call A_htext_mono (vas_cons (ve_lst (vai_cons (ve_var rfl (by decide) ⟨_, rfl, vai_nil ⟨le_k rfl, fun t2 => ?_⟩⟩))))
        refine vas_nil ⟨_, _, .lent (j := 11) rfl rfl .nil, by simp, t2, [e], rfl, fun d hd => by rw [List.mem_singleton.mp hd]; exact FineD.of hH hl he, by simp, [.ls t2 _], [], rfl, .cons ⟨_, rfl, rfl⟩ .nil, ?_, rfl, rfl⟩
        show Val.im (PyData.str (histText [e])) = Val.im (PyData.str (lineP (deedD e)))
        rw [text_one, lineP_deed]
      refine ⟨_, 10, _, rfl, le_k rfl, rfl, rfl, fun σ6 H6 R6 => ?_⟩
      have eL : ((ds.map deedD).filter fun _ => true).map (fun d => PyData.str (lineP d)) = (ds.map deedLine).map PyData.str := by
        rw [List.filter_eq_self.mpr fun _ _ => rfl, List.map_map, List.map_map]
        exact List.map_congr_left fun e _ => congrArg PyData.str (lineP_deed e)
      have R6 : Rep ⟨fun _ => False, H, fun b => b = a, T⟩ 9 [.pot a (N' + 1), .im (.list (ds.map deedD)), .no, .im d, .im (.int (at_ : Nat)), .im (.str z), .ls D (((ds.map deedD).filter fun _ => true).map fun d => PyData.str (lineP d)), e7, .no] σ6 H6 := R6
      rw [eL] at R6
      -- the text
      refine vs_set R6 (by decide) (ve_join (ve_c rfl ⟨sNl, rfl, ve_op (ve_op (ve_slL (ve_varO rfl (by decide) rfl ⟨_, vo_no (vo_some (ve_var rfl (by decide) ⟨_, rfl, .own (j := 6) rfl, fun t1 => ?_⟩))⟩)))⟩))
      rw [cutS_to]
      refine ve_lst (vai_cons (ve_var rfl (by decide) ⟨_, rfl, vai_nil ⟨le_k rfl, fun t2 => o2_cat (.own (j := 9) rfl) (.own (j := 10) rfl) ?_ fun t3 => ?_⟩⟩))
      · rw [List.length_map, List.length_take, List.length_map]
        show _ + 1 ≤ 100000
        omega
      refine ve_slL (ve_varO rfl (by decide) rfl ⟨(ds.map deedLine).map PyData.str, vo_some (ve_op (ve_var rfl (by decide) (ve_take (j := 0) (N := 0) (a := a) (vas_cons (ve_varO rfl (by decide) rfl (vas_cons (ve_c (d := .int 2) rfl (vas_nil ⟨2, N' + 1, rfl, rfl, by omega, by decide, by decide, fun r r0 r1 => ?_⟩))))))))⟩)
      obtain ⟨j, rfl⟩ := Int.eq_ofNat_of_zero_le r0
      refine o2_i (d := .int ((at_ + j : Nat) : Int)) rfl ⟨_, rfl, vo_no ⟨.own (j := 6) rfl, fun t4 => ?_⟩⟩
      rw [cutS_from]
      refine o2_cat (.own (j := 11) rfl) (.own (j := 12) rfl) ?_ fun t5 => ⟨true, (ds.map deedLine).take at_ ++ [z] ++ (ds.map deedLine).drop (at_ + j), .own (j := 13) ?_, ?_, _, rfl, fun σ7 H7 R7 => ?_⟩
      · rw [List.length_append, List.length_map, List.length_map, List.length_take, List.length_drop, List.length_map]
        show _ + 1 + _ ≤ 100000
        omega
      · rw [List.map_append, List.map_append]; rfl
      · obtain ⟨_, _, _, _, _, e5, _⟩ := bz.split
        exact lines_bound hH hl e5
      have R7 : Rep ⟨fun _ => False, H, fun b => b = a, T⟩ 9 [.pot a (N' + 1 + 1), .im (.list (ds.map deedD)), .no, .im d, .im (.int (at_ : Nat)), .im (.str z), .ls D ((ds.map deedLine).map PyData.str), .im (.str (Txt.join sNl ((ds.map deedLine).take at_ ++ [z] ++ (ds.map deedLine).drop (at_ + j)))), .no] σ7 H7 := R7
      have hbt := bad_text (j := j) hH hl hat bz
      generalize (Txt.join sNl ((ds.map deedLine).take at_ ++ [z] ++ (ds.map deedLine).drop (at_ + j))) = tx at R7 hbt
      have fin2 : ∀ H8, Rep ⟨fun _ => False, H, fun b => b = a, T⟩ 9 [.pot a (N' + 1 + 1), .im (.list (ds.map deedD)), .no, .im d, .im (.int (at_ : Nat)), .im (.str z), .ls D ((ds.map deedLine).map PyData.str), .im (.str tx), .no] σ7 H8 → ∃ Γ3, (∃ N1 e2 e3 e4 e5 e6 e7, Γ3 = [.pot a N1, .im (.list (ds.map deedD)), e2, e3, e4, e5, e6, e7, .no] ∧ N1 ≤ N + 3001 + 4 * (k + 1)) ∧ Rep ⟨fun _ => False, H, fun b => b = a, T⟩ 9 Γ3 σ7 H8 := fun H8 R8 => ⟨_, ⟨_, _, _, _, _, _, _, rfl, by omega⟩, R8⟩
      refine vs_ifE R7 (vt_and (vt_test (ve_op (ve_var rfl (by decide) (ve_c rfl (o2_neS ⟨_, rfl, ?_⟩))))))
      by_cases h0 : tx = Str.ofString ""
      · rw [decide_eq_true h0]
        show if false = true then _ else _
        rw [if_neg Bool.false_ne_true]
        intro H8 R8
        rw [if_neg Bool.false_ne_true]
        exact fin2 H8 R8
      · rw [decide_eq_false h0]
        show if true = true then _ else _
        rw [if_pos rfl]
        obtain ⟨ft, hr⟩ := hbt (fun e0 => h0 (str_ext (by
          have : tx.cps.toList = [] := List.length_eq_zero_iff.mp (by rw [← len_cps]; exact e0)
          rw [this]; rfl)))
        refine vt_test (ve_op (ve_cb (vas_cons (ve_heardC hT hC hkk fun HI E1 hx => ?_))))
        refine ve_make (A_initH_mono c C) hx (vas_cons (ve_var (i := 7) rfl (by decide) (vas_nil fun x dx => ⟨x, dx, .str tx, rfl, fun z e => (by cases e; exact ft), fun ds' hr' => (by rw [hr] at hr'; cases hr'), fun k' hk' => ⟨rfl, ?_⟩⟩)))
        rw [hr] at hk'
        cases hk'
        refine vas_nil (cb_reprI (k := at_ + 1) (by omega) (ve_cb (vas_cons (ve_cb (vas_cons (ve_op (ve_var rfl (by decide) (ve_c rfl (o2_i (d := .int ((at_ + 1 : Nat) : Int)) rfl ?_)))))))))
        refine vas_nil (cb_int (vas_nil (cb_reprI (k := at_ + 1) (by omega) (o2_neS ⟨_, rfl, ?_⟩))))
        rw [decide_eq_true rfl]
        intro H8 R8
        rw [if_neg (by decide)]
        exact fin2 H8 R8
    · rintro Γ2 σ3 H3 ⟨N1, e2, e3, e4, e5, e6, e7, rfl, hN1⟩ R3
      have hN1 : N1 ≤ N + 3025 := hN1
      refine vs_set R3 (by decide) (ve_of2 (j := 0) (a := a) (vas_cons (ve_varO rfl (by decide) rfl (vas_cons (ve_lstI ?_)))))
      refine vai_cons (ve_c (d := .none) rfl ⟨_, rfl, vai_cons (ve_c (d := .int 0) rfl ⟨_, rfl, vai_cons (ve_c (d := .bool true) rfl ⟨_, rfl, ?_⟩)⟩)⟩)
      refine vai_cons (ve_tup (vai_nil ⟨le_k rfl, ⟨_, rfl, ?_⟩⟩))
      refine vai_cons (ve_lstI (vai_nil ⟨le_k rfl, ⟨_, rfl, ?_⟩⟩))
      refine vai_cons (ve_dnewI ⟨_, rfl, ?_⟩)
      refine vai_cons (ve_tup (vai_cons (ve_c (d := .str "come a") rfl ⟨_, rfl, vai_nil ⟨le_k rfl, ⟨_, rfl, ?_⟩⟩⟩)))
      refine vai_cons (ve_lstI (vai_cons (ve_c (d := .str "come a") rfl ⟨_, rfl, vai_nil ⟨le_k rfl, ⟨_, rfl, ?_⟩⟩⟩)))
      refine vai_nil ⟨le_k rfl, vas_nil ⟨_, odds, N1, rfl, rfl, .lst _, by omega, (fun z => nomatch z), by decide, by decide, fun od hod => ?_⟩⟩
      obtain ⟨ro, no⟩ := odds_no od hod
      refine ⟨_, rfl, fun σ4 H4 R4 => ?_⟩
      have R4 : Rep ⟨fun _ => False, H, fun b => b = a, T⟩ 9 [.pot a (N1 + 1), .im (.list (ds.map deedD)), e2, e3, e4, e5, e6, e7, .im od] σ4 H4 := R4
      refine vs_retV R4 fin (ve_op (ve_cb (vas_cons (ve_heardC hT hC hkk fun HI E1 hx => ?_))))
      refine ve_makeK (A_initH_mono c C) hx (vas_cons (ve_var (i := 8) rfl (by decide) (vas_nil ⟨rfl, fun x dx => ⟨x, dx, od, rfl, fun z e => absurd e (no z), fun ds' hr' => (by rw [ro] at hr'; cases hr'), fun k' hk' => ⟨rfl, ?_⟩⟩⟩)))
      rw [ro] at hk'
      cases hk'
      refine vas_nil (cb_reprI (k := 0) (by omega) (ve_cb (vas_cons (ve_c (d := .int (0 : Nat)) rfl (vas_nil (cb_reprI (k := 0) (by omega) (o2_eqS ⟨[.pot a (N1 + 1)], [0], .cons rfl .nil, by simp, ?_, _, by omega, rfl⟩)))))))
      rw [decide_eq_true rfl]
end
end Hw

set_option Elab.async false
set_option linter.all false
set_option maxRecDepth 100000
set_option maxHeartbeats 4000000
namespace Hw
open PySem L2 LamX PyProof.Rows Vl
/-! long histories -/
theorem keys_hist {ds : List Deed} (h : Hist ds) : (livesF (ds.map deedD)).map (·.1) = cameD ds := by
  have anyK : ∀ (kvs : Liv) (n : Str), (kvs.any fun p => decide (p.1 = n)) = true ↔ n ∈ kvs.map (·.1) := fun kvs n => by
    rw [List.any_eq_true, List.mem_map]
    exact ⟨fun ⟨p, hp, e⟩ => ⟨p, hp, of_decide_eq_true e⟩, fun ⟨p, hp, e⟩ => ⟨p, hp, decide_eq_true e⟩⟩
  induction h with
  | nil => rfl
  | @come ds n ts h nm new asc sub ih =>
    rw [List.map_append, List.map_singleton, livesF_snoc, putS_keys, if_neg (fun z => new (by rw [← ih]; exact (anyK _ _).mp z)), ih, came_snoc]; rfl
  | @die ds n h lv ih =>
    have ec : cameD (ds ++ [.die n]) = cameD ds := by rw [came_snoc]; exact List.append_nil _
    rw [List.map_append, List.map_singleton, livesF_snoc, putS_keys, if_pos ((anyK _ _).mpr (by rw [ih]; exact h.liv_came n lv)), ih, ec]
theorem lives_len {ds : List Deed} (h : Hist ds) : (livesF (ds.map deedD)).length = (cameD ds).length := by rw [← keys_hist h, List.length_map]
theorem stand_histG {ds : List Deed} {d : Deed} (h : Hist (ds ++ [d])) (hl : ds.length < 400) (hc : (cameD (ds ++ [d])).length ≤ 200) : standB (livesF (ds.map deedD)) ds.length (deedD d) = true := by
  have h0 := h.pre
  cases d with
  | come n ts =>
    obtain ⟨h1, h2, h3, h4⟩ := h.last_come
    have hk : (cameD ds).length < 200 := by
      rw [came_snoc, List.length_append] at hc
      have : (if (Deed.come n ts).isCome = true then [(Deed.come n ts).name] else []).length = 1 := rfl
      omega
    show (decide (ds.length < 400) && (isS (.str sCome) sCome && comeB _ (.str n) (.tuple (ts.map PyData.str)))) = true
    have e1 : isS (.str sCome) sCome = true := by
      show decide (sCome = sCome) = true
      exact decide_eq_true rfl
    have e2 : comeB (livesF (ds.map deedD)) (.str n) (.tuple (ts.map PyData.str)) = true := by
      show (nameS n && (!(lkS _ n).isSome && (decide (_ < 200) && livesB _ _))) = true
      rw [nameS_nm h1, lives_hist h0, if_neg h2, lives_len h0, decide_eq_true hk]
      show ((ts.map PyData.str).all (livB _) && ascB (strsD (ts.map PyData.str))) = true
      rw [strs_map, asc_ascB h3, Bool.and_true, List.all_map, List.all_eq_true]
      intro t ht
      show livB _ (.str t) = true
      rw [livB_hist h0]
      exact decide_eq_true (h4 t ht)
    rw [e1, e2, decide_eq_true hl]; rfl
  | die n =>
    show (decide (ds.length < 400) && (isS (.str sDie) sDie && livB _ (.str n))) = true
    have e1 : isS (.str sDie) sDie = true := by
      show decide (sDie = sDie) = true
      exact decide_eq_true rfl
    rw [e1, livB_hist h0, decide_eq_true h.last_die, decide_eq_true hl]; rfl
theorem came_app (xs ys : List Deed) : cameD (xs ++ ys) = cameD xs ++ cameD ys := by unfold cameD; rw [List.flatMap_append]
theorem readL_histG {ds : List Deed} (h : Hist ds) (hl : ds.length ≤ 400) (hc : (cameD ds).length ≤ 200) (fine : ∀ d ∈ ds, FineD d) (rest : List Str) : ∀ i, i ≤ ds.length → readL ((ds.drop (ds.length - i)).map deedLine ++ rest) (ds.length - i + 1) ((ds.take (ds.length - i)).map deedD) = readL rest (ds.length + 1) (ds.map deedD)
  | 0, _ => by
    rw [Nat.sub_zero, List.drop_length, List.take_length]; rfl
  | i + 1, hi => by
    have hlt : ds.length - (i + 1) < ds.length := by omega
    have ih := readL_histG h hl hc fine rest i (by omega)
    have e1 : ds.length - i = ds.length - (i + 1) + 1 := by omega
    rw [e1] at ih
    generalize ds.length - (i + 1) = k at ih hlt ⊢
    rw [List.drop_eq_getElem_cons hlt, List.map_cons, List.cons_append]
    have ht : ds.take (k + 1) = ds.take k ++ [ds[k]] := take_snoc (List.getElem?_eq_getElem hlt)
    have hh := h.take (k + 1)
    have hcc : (cameD (ds.take (k + 1))).length ≤ 200 := by
      have := congrArg List.length (congrArg cameD (List.take_append_drop (k + 1) ds))
      rw [came_app, List.length_append] at this
      omega
    rw [ht] at hh hcc
    have hs := stand_histG hh (by rw [List.length_take]; omega) hcc
    rw [List.length_take, Nat.min_eq_left (by omega)] at hs
    show (if standB (livesF ((ds.take k).map deedD)) ((ds.take k).map deedD).length (deedW (Txt.split (deedLine ds[k]) sBl)) = true then readL ((ds.drop (k + 1)).map deedLine ++ rest) (k + 1 + 1) ((ds.take k).map deedD ++ [deedW (Txt.split (deedLine ds[k]) sBl)]) else .inl (k + 1)) = _
    rw [deedW_line (fine _ (List.getElem_mem hlt)), List.length_map, List.length_take, Nat.min_eq_left (by omega), if_pos hs]
    rw [← ih, ht, List.map_append]; rfl
theorem readL_preG {ds : List Deed} (h : Hist ds) (hl : ds.length ≤ 400) (hc : (cameD ds).length ≤ 200) (fine : ∀ d ∈ ds, FineD d) (rest : List Str) : readL (ds.map deedLine ++ rest) 1 [] = readL rest (ds.length + 1) (ds.map deedD) := by
  have := readL_histG h hl hc fine rest ds.length (Nat.le_refl _)
  rw [Nat.sub_self, List.drop_zero, List.take_zero] at this
  exact this
def comes (ns : List Str) : List Deed := ns.map fun n => .come n []
theorem hist_comes : ∀ (m : Nat) (ns : List Str), ns.length = m → ns.Nodup → (∀ n ∈ ns, NmX n) → Hist (comes ns) ∧ liv (comes ns) = ns ∧ cameD (comes ns) = ns
  | 0, ns, hm, _, _ => by rw [List.length_eq_zero_iff.mp hm]; exact ⟨.nil, rfl, rfl⟩
  | m + 1, ns, hm, nd, nm => by
    rcases nil_or_snoc ns with rfl | ⟨xs, x, rfl⟩
    · cases hm
    · rw [List.length_append] at hm
      have hm : xs.length = m := Nat.succ.inj hm
      rw [List.nodup_append] at nd
      obtain ⟨a, b, c⟩ := hist_comes m xs hm nd.1 fun n hn => nm n (List.mem_append_left _ hn)
      have e : comes (xs ++ [x]) = comes xs ++ [.come x []] := by unfold comes; rw [List.map_append]; rfl
      rw [e]
      refine ⟨.come a (nm x (by simp)) (by rw [c]; exact fun hx => nd.2.2 x hx x (by simp) rfl) List.Pairwise.nil (fun _ z => nomatch z), ?_, ?_⟩
      · rw [liv_snoc, b]; rfl
      · rw [came_snoc, c]; rfl
theorem hist_dies {ns : List Str} (nd : ns.Nodup) (nm : ∀ n ∈ ns, NmX n) : ∀ k, k ≤ ns.length → Hist (comes ns ++ (ns.take k).map .die) ∧ liv (comes ns ++ (ns.take k).map .die) = ns.drop k ∧ cameD (comes ns ++ (ns.take k).map .die) = ns
  | 0, _ => by
    obtain ⟨a, b, c⟩ := hist_comes _ ns rfl nd nm
    rw [List.take_zero, List.map_nil, List.append_nil]
    exact ⟨a, b, c⟩
  | k + 1, hk => by
    obtain ⟨a, b, c⟩ := hist_dies nd nm k (by omega)
    have hlt : k < ns.length := by omega
    have ht : ns.take (k + 1) = ns.take k ++ [ns[k]] := take_snoc (List.getElem?_eq_getElem hlt)
    have hd : ns.drop k = ns[k] :: ns.drop (k + 1) := List.drop_eq_getElem_cons hlt
    rw [ht, List.map_append, ← List.append_assoc]
    have ndd : (ns.drop k).Nodup := nd.sublist (List.drop_sublist k ns)
    rw [hd, List.nodup_cons] at ndd
    refine ⟨.die a (by rw [b, hd]; exact List.mem_cons_self), ?_, ?_⟩
    · show liv ((comes ns ++ (ns.take k).map .die) ++ [.die ns[k]]) = _
      rw [liv_snoc, b, hd]
      show (ns[k] :: ns.drop (k + 1)).filter (fun z => decide (z ≠ ns[k])) = _
      rw [List.filter_cons_of_neg (by simp), List.filter_eq_self.mpr]
      intro z hz
      exact decide_eq_true fun e => ndd.1 (by rw [← e]; exact hz)
    · show cameD ((comes ns ++ (ns.take k).map .die) ++ [.die ns[k]]) = _
      rw [came_snoc, c]; exact List.append_nil _
/-- lines as a text -/
theorem text_lines {L : List Str} (hne : L ≠ []) (all : ∀ l ∈ L, 10 ∉ l.cps.toList ∧ l.length ≤ 1000 ∧ FineL l ∧ l.length ≠ 0) (hl : L.length ≤ 5000) : FineT (Txt.join sNl L) ∧ linesOf (Txt.join sNl L) = L ∧ (L.map (·.length)).sum + L.length * sNl.length ≤ 16777216 := by
  have sp := split_nl hne fun p hp => (all p hp).1
  have n0 : (Txt.join sNl L).length ≠ 0 := fun e0 => by
    have e : Txt.join sNl L = Str.ofString "" := str_ext (by
      have : (Txt.join sNl L).cps.toList = [] := List.length_eq_zero_iff.mp (by rw [← len_cps]; exact e0)
      rw [this]; rfl)
    rw [e, show Txt.split (Str.ofString "") sNl = [Str.ofString ""] by decide +kernel] at sp
    exact (all _ (by rw [← sp]; exact List.mem_cons_self)).2.2.2 rfl
  have lo : linesOf (Txt.join sNl L) = L := by
    unfold linesOf
    rw [if_neg n0, sp]
  have h1 := join_len sNl L
  have hs := sum_le (b := 1000) fun p hp => (all p hp).2.1
  have e1 : sNl.length = 1 := by decide +kernel
  refine ⟨⟨?_, by rw [lo]; omega, fun l hm => by rw [lo] at hm; exact (all l hm).2.2.1⟩, lo, by rw [e1]; omega⟩
  rw [e1] at h1
  rw [sizeLine_eq]
  omega
def NM : List Str := ((alpha.cps.toList.take 8).flatMap fun a => alpha.cps.toList.map fun b => SL [a] ++ SL [b]).take 201
theorem nm_len : NM.length = 201 := by decide +kernel
theorem nm_nodup : NM.Nodup := by
  have h : (NM.map fun z => z.cps.toList).Nodup := by decide +kernel
  exact (List.pairwise_map.mp h).imp fun h e => h (by rw [e])
theorem nm_nm : ∀ n ∈ NM, NmX n := by decide +kernel
theorem line_come (n : Str) : Str.ofString "come " ++ n = deedLine (.come n []) := by
  show _ = Txt.join sBl [sCome, n]
  rw [jn2, e_come, app_assoc]
theorem line_die (n : Str) : Str.ofString "die " ++ n = deedLine (.die n) := by
  show _ = Txt.join sBl [sDie, n]
  rw [jn2, e_die, app_assoc]
section
variable {F : Frm} {n : Nat} {Γ : List Ent} {te : TE}
theorem vi_str {P : List PyData → (List Ent → Prop) → List Ent → Prop} (h : VE F n Γ te fun x Γ1 => ∃ z : Str, x = .im (.str z) ∧ P (z.cps.toList.map fun c => PyData.str (SL [c])) (fun _ => True) Γ1) : VI F n Γ (iStr te) P := fun σ H R0 R q =>
  h σ H _ R fun v x Γ1 H1 ⟨z, hx, p⟩ s1 R1 ok => by
    subst hx
    have ok : Dz _ _ _ _ := ok
    have ok := ok.str
    subst ok
    have hs : (z.cps.toList.map fun c => PyData.str (SL [c])).length = z.cps.size := by rw [List.length_map]; simp
    refine ⟨z, rfl, q _ _ _ _ _ p ⟨fun Γ2 σ2 H2 i g R2 hi => ?_, fun Γ2 σ2 H2 g R2 => ?_, fun Γ2 σ2 H2 i x H3 d g R2 hd y => ?_⟩ s1 R1⟩
    · show i < z.cps.size
      rw [← hs]; exact hi
    · show z.cps.size ≤ _
      rw [hs]; exact Nat.le_refl _
    · obtain ⟨rfl, c, hc, rfl⟩ := y
      refine ⟨Same.refl _, ?_⟩
      rw [List.getElem?_map] at hd
      have e : z.cps.toList[i]? = some c := by rw [Array.getElem?_toList]; exact hc
      rw [e] at hd
      cases hd
      exact .flat rfl
theorem ve_slS {tl th : TO} {P : Val → List Ent → Prop} (h : VE F n Γ te fun x Γ1 => ∃ z : Str, x = .im (.str z) ∧ z.length ≤ sizeLine ∧ VO F n Γ1 tl fun lo Γ2 => VO F n Γ2 th fun hi Γ3 => P (.im (.str (cutS z lo hi))) Γ3) : VE F n Γ (tSl rSlS te tl th) P := fun σ H Q R q =>
  h σ H _ R fun v x Γ1 H1 ⟨z, hx, hz, hr⟩ s1 R1 ok => hr σ H1 _ R1 fun lo Γ2 H2 hr2 s2 R2 => hr2 σ H2 _ R2 fun hi Γ3 H3 p s3 R3 => by
    subst hx
    have ok : Dz _ _ _ _ := ok
    have ok := ok.str
    subst ok
    exact ⟨z, rfl, hz, (q.pre ((s1.trans s2).trans s3)).now R3 p (.flat rfl)⟩
end
end Hw

set_option Elab.async false
set_option linter.all false
set_option maxRecDepth 100000
set_option maxHeartbeats 4000000
namespace Hw
open PySem PySem.Spec L2 LamX PyProof PyProof.Rows Vl
section
variable {F : Frm} {n : Nat} {Γ : List Ent} {te : TE}
theorem cb_lenU {A : List Ent → (Val → List Ent → Prop) → Prop} {E : XK} {P : Val → List Ent → Prop} {j : Nat} {x dx C : Addr} {fs : List (Str × Val)} (hM : Mono A) (h : Γ[j]? = some (.ob x dx C fs))
    (hA : A [.ob x dx C fs] fun r outs => ∃ k : Nat, r = .im (.int k) ∧ k ≤ 1000000 ∧ outs = [.ob x dx C fs] ∧ P (.im (.int k)) Γ) :
    CB F n (fun xs H Q => ∃ a dx fs, xs = [V.ref a] ∧ H a = some (.ins C dx fs) ∧ (SpV A) [.ref a] H (fun v H' => ∃ k : Nat, v = .int k ∧ k ≤ 1000000 ∧ Q (.int k) H') E) [.vl (.ref x)] Γ P := fun σ H vs Q R ok q => by
  cases ok with
  | cons o1 o2 =>
    cases o2
    have o1 : _ = V.ref x := o1
    subst o1
    obtain ⟨o, g1, g2, ne, g3, vs, e, pr⟩ := R.ok j _ h
    refine ⟨x, dx, vs, rfl, e, ?_⟩
    have hc := ve_callXG (F := F) (n := n) (Γ := Γ) (E := E) (EP := fun _ _ => False) (A := fun es P _ => A es P) (ta := fun _ H' Q' => H' = H → Q' [.ref x] H) (P := fun r Γ' => ∃ k : Nat, r = .im (.int k) ∧ k ≤ 1000000 ∧ P (.im (.int k)) Γ') (Mono.x hM) xok_never (fun σ' H' Q' R' q' e => by
      subst e
      refine q' [.ref x] [.vl (.ref x)] _ _ ⟨_, _, .lent (j := j) h rfl .nil, by simp, ?_⟩ (.refl _ _) R' (.cons rfl .nil)
      refine hM _ _ _ (fun r outs ⟨k, hr, hk, ho, p⟩ => ?_) hA
      subst ho
      refine ⟨[.ob x dx C fs], [], rfl, .cons ⟨_, h, rfl⟩ .nil, k, hr, hk, ?_⟩
      rw [List.append_nil]
      show P _ (Γ.set j _)
      rw [set_get_self h]
      exact p) σ H (fun v H' => ∃ k : Nat, v = .int k ∧ k ≤ 1000000 ∧ Q (.int k) H') R (fun v y Γ' H' ⟨k, hy, hk, p⟩ s' R' okv => by
      subst hy
      have e2 := Dz.int okv
      subst e2
      exact ⟨k, rfl, hk, q _ _ Γ' H' p s' R' okv⟩)
    exact hc rfl
end
theorem vs_ifN {F : Frm} {n : Nat} {Γ : List Ent} {c : TT} {t1 u : TS} {D : Ends} {σ : L2.St} {H : Hp} (R : Rep F n Γ σ H) (h : VT F n Γ c fun b Γ1 => b = false ∧ ∀ H1, Rep F n (Γ1.take Γ.length) σ H1 → u D σ H1) : tSeq (tIfS c t1 tNext) u D σ H :=
  vs_if R (h.mono fun b Γ1 ⟨hb, k⟩ H1 R1 => by
    subst hb
    rw [if_neg Bool.false_ne_true]
    exact k H1 R1)
theorem nx_ {D : Ends} {σ : L2.St} {H : Hp} (h : D.nx σ H) : tNext D σ H := h
theorem A_lenH_mono (C : Addr) : Mono (A_lenH C) := fun es P P' m ⟨x, dx, d, ds, e, p⟩ => ⟨x, dx, d, ds, e, m _ _ p⟩
theorem passNv {P : Program} {w : World} {X : Cx} : Passes (L2N.CX P w) X (fun _ _ _ => False) := fun _ _ _ _ _ _ _ ⟨_, _, _, _, _, _, _, _, _, _, _, _, h⟩ => h.elim
abbrev rAddS : R2 := fun x y H Q => ∃ i j, x = .str i ∧ y = .str j ∧ i.length + j.length ≤ sizeLine ∧ Q (.str (i ++ j)) H
abbrev sBt : Stmt := topS 39
theorem scBt : FnScope ["signs", "names", "one", "other", "lines", "name", "both"] [] (defScope sBt) := ⟨rfl, rfl, rfl, by decide +kernel, rfl, by decide +kernel, by decide +kernel⟩
def lamB : Str := (envOfC "_law_are_bounds_told" (defScope sBt) 0 0 .none).qual ++ "<lambda>"
theorem lamB_eq (L : Nat) (f : Addr) (cd : Value) : (envOfC "_law_are_bounds_told" (defScope sBt) L f cd).qual ++ "<lambda>" = lamB := rfl
def spBoundsT (T : List (Addr × Str)) : Sp := fun vs H Q _ => vs = [] ∧ Tabs T H ∧ ∀ H', (∀ b o, NT o → H b = some o → H' b = some o) → Tabs T H' → Q (.bl true) H'
/-- a line of a deed, looked at -/
theorem line_all {d : Deed} (f : FineD d) : 10 ∉ (deedLine d).cps.toList ∧ (deedLine d).length ≤ 1000 ∧ FineL (deedLine d) ∧ (deedLine d).length ≠ 0 := by
  have wl : ∀ w ∈ d.word :: d.name :: d.ties, w.length ≤ 8 := fun w hw => by
    rcases List.mem_cons.mp hw with rfl | hw
    · cases d with
      | come n ts => exact show sCome.length ≤ 8 by decide +kernel
      | die n => exact show sDie.length ≤ 8 by decide +kernel
    · rcases List.mem_cons.mp hw with rfl | hw
      · exact f.nm.2.1
      · exact (f.ts w hw).2.1
  refine ⟨f.nonl, f.len, ⟨by have := f.len; rw [sizeLine_eq]; omega, ?_, ?_, fun w hw => ?_⟩, fun e0 => ?_⟩
  · rw [f.split]
    have := f.few
    show d.ties.length + 2 ≤ _
    omega
  · rw [f.split]; exact fun z => nomatch z
  · rw [f.split] at hw
    have := wl w hw
    rw [sizeLine_eq]; omega
  · have e : deedLine d = Str.ofString "" := str_ext (by
      have : (deedLine d).cps.toList = [] := List.length_eq_zero_iff.mp (by rw [← len_cps]; exact e0)
      rw [this]; rfl)
    have h := f.split
    rw [e, show Txt.split (Str.ofString "") sBl = [Str.ofString ""] by decide +kernel] at h
    have := congrArg List.length h
    simp at this
theorem fine_come {n : Str} (h : NmX n) : FineD (.come n []) := ⟨h, (fun _ z => nomatch z), Nat.zero_le _⟩
theorem fine_die {n : Str} (h : NmX n) : FineD (.die n) := ⟨h, (fun _ z => nomatch z), Nat.zero_le _⟩
section
variable {ns : List Str} (hl : ns.length = 201) (nd : ns.Nodup) (nm : ∀ n ∈ ns, NmX n)
include hl nd nm
theorem fine_comes {xs : List Str} (h : ∀ x ∈ xs, x ∈ ns) : ∀ d ∈ comes xs, FineD d := fun d hd => by
  obtain ⟨n, hn, rfl⟩ := List.mem_map.mp hd
  exact fine_come (nm n (h n hn))
theorem fine_both : ∀ d ∈ comes (ns.take 200) ++ (ns.take 200).map Deed.die, FineD d := fun d hd => by
  rcases List.mem_append.mp hd with hd | hd
  · exact fine_comes hl nd nm (fun x hx => List.mem_of_mem_take hx) d hd
  · obtain ⟨n, hn, rfl⟩ := List.mem_map.mp hd
    exact fine_die (nm n (List.mem_of_mem_take hn))
theorem take_len200 : (ns.take 200).length = 200 := by rw [List.length_take]; omega
theorem nd200 : (ns.take 200).Nodup := nd.sublist (List.take_sublist 200 ns)
theorem read_of {L : List Str} (hne : L ≠ []) (all : ∀ l ∈ L, 10 ∉ l.cps.toList ∧ l.length ≤ 1000 ∧ FineL l ∧ l.length ≠ 0) (h5 : L.length ≤ 5000) : readT (.str (Txt.join sNl L)) = readL L 1 [] := by
  show readL (linesOf _) 1 [] = _
  rw [(text_lines hne all h5).2.1]
theorem all_deeds {ds : List Deed} (f : ∀ d ∈ ds, FineD d) : ∀ l ∈ ds.map deedLine, 10 ∉ l.cps.toList ∧ l.length ≤ 1000 ∧ FineL l ∧ l.length ≠ 0 := fun l hm => by
  obtain ⟨d, hd, rfl⟩ := List.mem_map.mp hm
  exact line_all (f d hd)
theorem comes_len (xs : List Str) : ((comes xs).map deedLine).length = xs.length := by unfold comes; rw [List.length_map, List.length_map]
theorem read201 : readL ((comes ns).map deedLine) 1 [] = .inl 201 := by
  have e : ns = ns.take 200 ++ [ns[200]] := by
    rw [← take_snoc (List.getElem?_eq_getElem (by omega)), List.take_of_length_le (by omega)]
  obtain ⟨a, b, c⟩ := hist_comes _ (ns.take 200) rfl (nd200 hl nd nm) fun n hn => nm n (List.mem_of_mem_take hn)
  have t2 := take_len200 hl nd nm
  have fz := nm ns[200] (List.getElem_mem _)
  have e3 : (comes ns).map deedLine = (comes (ns.take 200)).map deedLine ++ [deedLine (.come ns[200] [])] := by
    rw [← List.map_singleton, ← List.map_append]
    congr 1
    unfold comes
    rw [← List.map_singleton (f := fun n => Deed.come n []), ← List.map_append, ← e]
  have cl : (comes (ns.take 200)).length = 200 := by unfold comes; rw [List.length_map, t2]
  rw [e3, readL_preG a (by omega) (by rw [c]; omega) (fine_comes hl nd nm fun x hx => List.mem_of_mem_take hx)]
  show (if standB (livesF ((comes (ns.take 200)).map deedD)) ((comes (ns.take 200)).map deedD).length (deedW (Txt.split (deedLine (.come ns[200] [])) sBl)) = true then _ else Sum.inl ((comes (ns.take 200)).length + 1)) = _
  rw [deedW_line (fine_come fz), cl, if_neg]
  intro h
  have h : (decide (_ < 400) && (isS (.str sCome) sCome && comeB (livesF ((comes (ns.take 200)).map deedD)) (.str ns[200]) (.tuple ([].map PyData.str)))) = true := h
  rw [Bool.and_eq_true, Bool.and_eq_true] at h
  have h2 : (nameS ns[200] && (!(lkS _ ns[200]).isSome && (decide ((livesF ((comes (ns.take 200)).map deedD)).length < 200) && _))) = true := h.2.2
  rw [lives_len a, c, t2, decide_eq_false (by decide), Bool.false_and, Bool.and_false, Bool.and_false] at h2
  cases h2
theorem read200 : readL ((comes (ns.take 200)).map deedLine) 1 [] = .inr ((comes (ns.take 200)).map deedD) := by
  obtain ⟨a, b, c⟩ := hist_comes _ (ns.take 200) rfl (nd200 hl nd nm) fun n hn => nm n (List.mem_of_mem_take hn)
  have t2 := take_len200 hl nd nm
  have cl : (comes (ns.take 200)).length = 200 := by unfold comes; rw [List.length_map, t2]
  have := readL_preG a (by omega) (by rw [c]; omega) (fine_comes hl nd nm fun x hx => List.mem_of_mem_take hx) []
  rw [List.append_nil] at this
  exact this
theorem both_len : (comes (ns.take 200) ++ (ns.take 200).map Deed.die).length = 400 := by
  have t2 := take_len200 hl nd nm
  unfold comes
  rw [List.length_append, List.length_map, List.length_map, t2]
theorem read_both (rest : List Str) : readL ((comes (ns.take 200) ++ (ns.take 200).map Deed.die).map deedLine ++ rest) 1 [] = readL rest 401 ((comes (ns.take 200) ++ (ns.take 200).map Deed.die).map deedD) := by
  have t2 := take_len200 hl nd nm
  obtain ⟨a, b, c⟩ := hist_dies (nd200 hl nd nm) (fun n hn => nm n (List.mem_of_mem_take hn)) 200 (by omega)
  rw [List.take_take, Nat.min_self] at a b c
  have bl := both_len hl nd nm
  rw [readL_preG a (by omega) (by rw [c]; omega) (fine_both hl nd nm), bl]
theorem read401 (z : Str) : readL ((comes (ns.take 200) ++ (ns.take 200).map Deed.die).map deedLine ++ [z]) 1 [] = .inl 401 := by
  rw [read_both hl nd nm]
  show (if standB _ ((comes (ns.take 200) ++ (ns.take 200).map Deed.die).map deedD).length (deedW (Txt.split z sBl)) = true then _ else Sum.inl 401) = _
  rw [List.length_map, both_len hl nd nm, stand_many (by decide), if_neg Bool.false_ne_true]
end
section
variable {P : Program} {w : World} {K : PySem.W.Frag} {mg : Str → Option Value} {base : Heap}

theorem ok_bounds {P1 cc CS C c f fH fI fZ : Addr} {fd fdH fdI fdZ : FuncData} {k m jm : Nat} (hjm : jm + 1 ≤ m) (hjk : jm + 1 ≤ k) {T : List (Addr × Str)} (F : FunC K "_law_are_bounds_told" "_law_are_bounds_told" sBt f fd cc) (TB : TabB base mg cc P1) (hm : (P1, lamB) ∈ T) (huq : ∀ p ∈ T, p.1 = P1 → p.2 = lamB) (TH : TxtH K mg C) (M : L2.Mk K C fI)
    (hC : ∀ dd, Caught K CS (.ref c) (some dd) c dd) (hkk : PySem.W.kitOne K (.ref c) (.ref c) = some true) (B : Blt mg) (z_repr : mg "repr" = none)
    (GH : FnGL P w K mg base CX0 k fH fdH ["call"] (spHeard1 P w K mg base m CS c)) (gH : mg "_law_heard" = some (.ref fH)) (kH : PySem.W.keepIn K (.ref fH) = true) (bH : Binds K fdH ["call"] [])
    (GI : FnOk P w K mg base (L2N.CX P w) jm fI fdI ["self", "text"] (SpVX (A_initH c C))) (bI : Binds K fdI ["self", "text"] [])
    (ML : Meth K C "__len__" fZ) (GZ : FnOk P w K mg base CX0 jm fZ fdZ ["self"] (SpV (A_lenH C))) (bZ : Binds K fdZ ["self"] []) :
    FnG P w K mg base CX0 (k + 1) f fd [] (spBoundsT T) := by
  refine funGC F scBt (fun vs H Q E h => ?_) (fun A outer s H vs Q E hr h => ?_)
  · obtain ⟨rfl, _⟩ := h
    rfl
  obtain ⟨rfl, hT, q⟩ := h
  have hun := hr.r.un
  have h100 : (A.deeper (envOfC "_law_are_bounds_told" (defScope sBt) s.heap.objs.size f (.ref cc))).units + 100 < cLine := by omega
  refine ⟨_, (pss_cons (ps_set (i := 0) scBt.nd rfl (.inl rfl) pe_str)
      (pss_cons (ps_set (i := 1) scBt.nd rfl (.inl rfl) (pe_lst pa_nil))
      (pss_cons (ps_for PassesOwn.never rfl (pi_str (pe_slice sl_str (pv 0) po_none (po_some pe_int))) (pg_name (i := 2) scBt.nd rfl (.inr rfl))
        (pss_one (ps_expr (pe_bm PySem.F.plainAttrs_list PySem.F.slot_list_extend PySem.F.type_list_extend mt_extend (pv 1) (pa_cons (pe_lc (own := [("other", 3)]) (g := (gName 3)) (te := tOp rAddS (tVar 2) (tVar 3)) (by rfl) scBt.nd (pi_str (pv 0)) (blkOk_by (N := ["signs", "names", "one", "other", "lines", "name", "both"]) (sc := defScope sBt) (by decide +kernel)) (fun _ _ _ _ _ => (pg_name (i := 3) scBt.nd rfl (.inl rfl))) (fun _ _ _ _ _ => pts_nil) (fun _ _ _ _ _ => (pe_op op_add_str (pv 2) (pv 3)))) pa_nil)))))
      (pss_cons (ps_set (i := 1) scBt.nd rfl (.inl rfl) (pe_slice sl_list (pv 1) po_none (po_some pe_int)))
      (pss_cons (ps_set (i := 4) scBt.nd rfl (.inr rfl) (pe_lc (own := [("name", 5)]) (g := (gName 5)) (te := tOp rAddS (tC (.str "come ")) (tVar 5)) (by rfl) scBt.nd (pi_list (pv 1)) (blkOk_by (N := ["signs", "names", "one", "other", "lines", "name", "both"]) (sc := defScope sBt) (by decide +kernel)) (fun _ _ _ _ _ => (pg_name (i := 5) scBt.nd rfl (.inl rfl))) (fun _ _ _ _ _ => pts_nil) (fun _ _ _ _ _ => (pe_op op_add_str pe_str (pv 5)))))
      (pss_cons (ps_if (pt_cmpR op_ne (pe_callB (call_repr hr.g h100) (by rfl) z_repr PyProof.Rows.boot_repr (pa_cons (pe_lamW (tb := fun E1 => tMake C (SpVX (A_initH c C)) [] E1 (tCons (tM1 (fun x xs H Q => ∃ a p, ∃ ys : List Str, x = .str a ∧ xs = [.ref p] ∧ (SqL K H p (ys.map V.str) ∨ SqT K H p (ys.map V.str)) ∧ (ys.map (·.length)).sum + ys.length * a.length ≤ 16777216 ∧ Q (.str (Txt.join a ys)) H) (tC (.str "\n")) (tVar 4)) tNil)) (CXl := L2N.CX P w) (j := m) (T := T) GH hr (by rfl) gH kH bH .nil pass0 pa_nil TB rfl (in_T (lamB_eq _ _ _) hm) (uq_T (lamB_eq _ _ _) huq) (lamS_by (sc := defScope sBt) (by decide +kernel)) rfl (fun _ _ _ _ _ => rfl) (fun A' outer' s' H' E' f' c' hr' => pe_make M GI (hr'.mono hjm) (by rfl) TH.mH bI .nil (L2N.passes_call (L2N.takes_of rfl rfl rfl rfl) (fun _ _ _ _ h => h)) (pa_cons (pe_join pe_str (pv 4)) pa_nil))) pa_nil)) (pe_callB (call_repr hr.g h100) (by rfl) z_repr PyProof.Rows.boot_repr (pa_cons pe_int pa_nil)) (nomark _)) (pss_one (ps_ret pe_bl)) pss_nil)
      (pss_cons (ps_if (pt_cmpR op_ne (pe_callB (call_lenU GZ bZ pass0 ML.at_ ML.fn (hr.r.mono hjk)) (by rfl) B.len PySem.boot_len (pa_cons (pe_make M GI (hr.r.mono hjk) (by rfl) TH.mH bI .nil passNv (pa_cons (pe_join pe_str (pe_slice sl_list (pv 4) po_none (po_some pe_int))) pa_nil)) pa_nil)) pe_int (nomark _)) (pss_one (ps_ret pe_bl)) pss_nil)
      (pss_cons (ps_set (i := 6) scBt.nd rfl (.inr rfl) (pe_op op_cat (pe_slice sl_list (pv 4) po_none (po_some pe_int)) (pe_lc (own := [("name", 5)]) (g := (gName 5)) (te := tOp rAddS (tC (.str "die ")) (tVar 5)) (by rfl) scBt.nd (pi_list (pe_slice sl_list (pv 1) po_none (po_some pe_int))) (blkOk_by (N := ["signs", "names", "one", "other", "lines", "name", "both"]) (sc := defScope sBt) (by decide +kernel)) (fun _ _ _ _ _ => (pg_name (i := 5) scBt.nd rfl (.inl rfl))) (fun _ _ _ _ _ => pts_nil) (fun _ _ _ _ _ => (pe_op op_add_str pe_str (pv 5))))))
      (pss_cons (ps_if (pt_cmpR op_ne (pe_callB (call_lenU GZ bZ pass0 ML.at_ ML.fn (hr.r.mono hjk)) (by rfl) B.len PySem.boot_len (pa_cons (pe_make M GI (hr.r.mono hjk) (by rfl) TH.mH bI .nil passNv (pa_cons (pe_join pe_str (pv 6)) pa_nil)) pa_nil)) pe_int (nomark _)) (pss_one (ps_ret pe_bl)) pss_nil)
      (pss_one (ps_ret (pe_cmpR op_eq (pe_callB (call_repr hr.g h100) (by rfl) z_repr PyProof.Rows.boot_repr (pa_cons (pe_lamW (tb := fun E1 => tMake C (SpVX (A_initH c C)) [] E1 (tCons (tM1 (fun x xs H Q => ∃ a p, ∃ ys : List Str, x = .str a ∧ xs = [.ref p] ∧ (SqL K H p (ys.map V.str) ∨ SqT K H p (ys.map V.str)) ∧ (ys.map (·.length)).sum + ys.length * a.length ≤ 16777216 ∧ Q (.str (Txt.join a ys)) H) (tC (.str "\n")) (tOp rCat (tVar 6) (tLst (tCons (tC (.str "die aa")) tNil)))) tNil)) (CXl := L2N.CX P w) (j := m) (T := T) GH hr (by rfl) gH kH bH .nil pass0 pa_nil TB rfl (in_T (lamB_eq _ _ _) hm) (uq_T (lamB_eq _ _ _) huq) (lamS_by (sc := defScope sBt) (by decide +kernel)) rfl (fun _ _ _ _ _ => rfl) (fun A' outer' s' H' E' f' c' hr' => pe_make M GI (hr'.mono hjm) (by rfl) TH.mH bI .nil (L2N.passes_call (L2N.takes_of rfl rfl rfl rfl) (fun _ _ _ _ h => h)) (pa_cons (pe_join pe_str (pe_op op_cat (pv 6) (pe_lst (pa_cons pe_str pa_nil)))) pa_nil))) pa_nil)) (pe_callB (call_repr hr.g h100) (by rfl) z_repr PyProof.Rows.boot_repr (pa_cons pe_int pa_nil)) (nomark _))))))))))))), ?_⟩
  have R0 : Rep ⟨fun _ => False, H, fun _ => False, T⟩ ([] : List V).length [] (([] : List V).map some) H := ⟨rfl, Nat.le_refl _, fun i e h => by simp at h, fun i j e e' b h1 _ _ _ => by simp at h1, fun _ z => z.elim, fun b o _ _ e => e, fun t => t, fun b hb => by obtain ⟨e, he, _⟩ := hb; cases he⟩
  have R : Rep ⟨fun _ => False, H, fun _ => False, T⟩ 7 [.no, .no, .no, .no, .no, .no, .no] _ H := rep_start (N := ["signs", "names", "one", "other", "lines", "name", "both"]) R0 rfl (le_k rfl)
  have fin : ∀ (x : Val) outs, (x = .im (.bool true) ∧ outs = []) → ∀ v H', Rep ⟨fun _ => False, H, fun _ => False, T⟩ 0 outs [] H' → x.ok (Ex ⟨fun _ => False, H, fun _ => False, T⟩ outs) H' v → Q v H' := by
    rintro x outs ⟨rfl, rfl⟩ v H' R' ok
    have ok := Dz.bool ok
    subst ok
    exact q H' (fun b o nt e => R'.fr b o (fun z => z) nt e) (R'.tb hT)
  refine vs_set R (by decide) (ve_c (d := .str alpha) rfl ⟨_, rfl, fun σ1 H1 R1 => ?_⟩)
  have R1 : Rep ⟨fun _ => False, H, fun _ => False, T⟩ 7 [.im (.str alpha), .no, .no, .no, .no, .no, .no] σ1 H1 := R1
  refine vs_setO R1 (by decide) (ve_lst (vai_nil ⟨le_k rfl, fun nt => ⟨_, 7, _, rfl, le_k rfl, rfl, rfl, fun σ2 H2 R2 => ?_⟩⟩))
  have R2 : Rep ⟨fun _ => False, H, fun _ => False, T⟩ 7 [.im (.str alpha), .ls nt [], .no, .no, .no, .no, .no] σ2 H2 := R2
  refine vs_for (tg := fun d Γ => Γ.set 2 (.im d)) R2 (vi_str (ve_slS (ve_var rfl (by decide) ⟨alpha, rfl, by rw [sizeLine_eq, alpha_len]; decide, vo_no (vo_some (ve_c (d := .int 8) rfl ⟨8, rfl, _, rfl, ?_⟩))⟩)))
  have ec : (cutS alpha none (some 8)).cps.toList = alpha.cps.toList.take 8 := by decide +kernel
  rw [ec]
  have el8 : (alpha.cps.toList.take 8).length = 8 := by decide +kernel
  have el26 : alpha.cps.toList.length = 26 := by decide +kernel
  refine ⟨fun d hd => vg_name (by decide), fun k Γ => ∃ e2, Γ = [.im (.str alpha), .ls nt ((((alpha.cps.toList.take 8).take k).flatMap fun a => alpha.cps.toList.map fun b => SL [a] ++ SL [b]).map PyData.str), e2, .no, .no, .no, .no] ∧ ((((alpha.cps.toList.take 8).take k).flatMap fun a => alpha.cps.toList.map fun b => SL [a] ++ SL [b]).map PyData.str).length = 26 * k, ⟨_, rfl, rfl⟩, fun _ _ _ => trivial, ?_, ?_⟩
  · rintro k d Γ2 σ3 H3 hd ⟨e2, rfl, hl⟩ R3
    rw [List.getElem?_map] at hd
    obtain ⟨a, ha, rfl⟩ : ∃ a, (alpha.cps.toList.take 8)[k]? = some a ∧ d = .str (SL [a]) := by
      cases e : (alpha.cps.toList.take 8)[k]? with
      | none => rw [e] at hd; cases hd
      | some a => rw [e] at hd; exact ⟨a, rfl, (Option.some.inj hd).symm⟩
    have hk := (List.getElem?_eq_some_iff.mp ha).1
    rw [el8] at hk
    have R3 : Rep ⟨fun _ => False, H, fun _ => False, T⟩ 7 [.im (.str alpha), .ls nt ((((alpha.cps.toList.take 8).take k).flatMap fun a => alpha.cps.toList.map fun b => SL [a] ++ SL [b]).map PyData.str), .im (.str (SL [a])), .no, .no, .no, .no] σ3 H3 := R3
    have ht : ((alpha.cps.toList.take 8).take (k + 1)).flatMap (fun a => alpha.cps.toList.map fun b => SL [a] ++ SL [b]) = ((alpha.cps.toList.take 8).take k).flatMap (fun a => alpha.cps.toList.map fun b => SL [a] ++ SL [b]) ++ alpha.cps.toList.map fun b => SL [a] ++ SL [b] := by
      rw [take_snoc ha, List.flatMap_append]; simp
    generalize ((alpha.cps.toList.take 8).take k).flatMap (fun a => alpha.cps.toList.map fun b => SL [a] ++ SL [b]) = zs at R3 ht hl
    refine vs_last (vs_extend (i := 1) R3 (by decide) rfl (ve_lcp (vs := [3]) (tg := fun d Γ => Γ.set 3 (.im d)) (by decide) (vi_str (ve_var rfl (by decide) ⟨alpha, rfl, ?_⟩))))
    refine ⟨fun d hd => vgc_name (by decide), by rw [List.length_map]; omega, [.im (.str alpha), .ls nt (zs.map PyData.str), .im (.str (SL [a])), .no, .no, .no, .no], rfl, fun _ => trivial, le_k rfl, no1 rfl, fun _ => true, fun d => match d with | .str b => .str (SL [a] ++ b) | _ => .none, fun d hd acc D => ?_, fun D => ?_⟩
    · obtain ⟨b, _, rfl⟩ := List.mem_map.mp hd
      refine vt_yes ⟨rfl, ?_⟩
      rw [if_pos rfl]
      exact ve_op (ve_var rfl (by decide) (ve_var rfl (by decide) (o2_addS (by rw [SL_len, SL_len, sizeLine_eq]; exact le_k rfl) ⟨rfl, rfl, rfl⟩)))
    have eL : (((alpha.cps.toList.map fun c => PyData.str (SL [c])).filter fun _ => true).map fun d => (match d with | .str b => PyData.str (SL [a] ++ b) | _ => .none)) = (alpha.cps.toList.map fun b => SL [a] ++ SL [b]).map PyData.str := by
      rw [List.filter_eq_self.mpr fun _ _ => rfl, List.map_map, List.map_map]; rfl
    refine ⟨_, (alpha.cps.toList.map fun b => SL [a] ++ SL [b]).map PyData.str, .own (j := 7) (congrArg some (congrArg (Ent.ls D) eL)), rfl, by rw [hl, List.length_map, List.length_map, el26]; omega, fun σ4 H4 R4 => ?_⟩
    refine ⟨_, ⟨.im (.str (SL [a])), rfl, ?_⟩, ?_⟩
    · rw [ht, List.map_append, List.length_append, hl, List.length_map, List.length_map, el26]; omega
    · rw [ht, List.map_append]
      exact R4
  rintro Γ2 σ3 H3 ⟨e2, rfl, _⟩ R3
  rw [List.length_map, el8] at R3
  have eN : (((alpha.cps.toList.take 8).take 8).flatMap fun a => alpha.cps.toList.map fun b => SL [a] ++ SL [b]).take 201 = NM := by
    unfold NM
    rw [List.take_take, Nat.min_self]
  generalize (((alpha.cps.toList.take 8).take 8).flatMap fun a => alpha.cps.toList.map fun b => SL [a] ++ SL [b]) = zs at R3 eN
  have hl := nm_len
  have nd := nm_nodup
  have nm := nm_nm
  generalize NM = ns at eN hl nd nm
  -- the names
  refine vs_set R3 (by decide) (ve_frz (ve_slL (ve_varO rfl (by decide) rfl ⟨zs.map PyData.str, vo_no (vo_some (ve_c (d := .int (201 : Nat)) rfl ⟨_, rfl, .own (j := 1) rfl, fun t => ?_⟩))⟩)))
  refine ⟨_, t, _, rfl, rfl, le_k rfl, _, rfl, fun σ4 H4 R4 => ?_⟩
  have R4 : Rep ⟨fun _ => False, H, fun _ => False, T⟩ 7 [.im (.str alpha), .im (.list (Vl.cutD (zs.map PyData.str) none (some ((201 : Nat) : Int)))), e2, .no, .no, .no, .no] σ4 H4 := R4
  rw [cutS_to, eN] at R4
  -- the lines
  refine vs_set R4 (by decide) (ve_frz (ve_lcp (vs := [5]) (tg := fun d Γ => Γ.set 5 (.im d)) (by decide) (vi_listI (ve_var rfl (by decide) ⟨_, rfl, fun v => ?_⟩))))
  refine ⟨fun d hd => vgc_name (by decide), by rw [List.length_map, hl]; decide, [.im (.str alpha), .im (.list (ns.map PyData.str)), e2, .no, .no, .no, .no, .iv v (.list (ns.map PyData.str))], rfl, fun e => by simp, le_k rfl, no1 rfl, fun _ => true, fun d => match d with | .str b => .str (Str.ofString "come " ++ b) | _ => .none, fun d hd acc D => ?_, fun D => ?_⟩
  · obtain ⟨b, hb, rfl⟩ := List.mem_map.mp hd
    refine vt_yes ⟨rfl, ?_⟩
    rw [if_pos rfl]
    exact ve_op (ve_c rfl (ve_var rfl (by decide) (o2_addS (slen5 (by decide +kernel) (nm b hb).2.1) ⟨rfl, rfl, rfl⟩)))
  refine ⟨_, D, _, rfl, rfl, le_k rfl, _, rfl, fun σ5 H5 R5 => ?_⟩
  have eL : (((ns.map PyData.str).filter fun _ => true).map fun d => (match d with | .str b => PyData.str (Str.ofString "come " ++ b) | _ => .none)) = ((comes ns).map deedLine).map PyData.str := by
    unfold comes
    rw [List.filter_eq_self.mpr fun _ _ => rfl, List.map_map, List.map_map, List.map_map]
    exact List.map_congr_left fun n _ => congrArg PyData.str (line_come n)
  have R5 : Rep ⟨fun _ => False, H, fun _ => False, T⟩ 7 [.im (.str alpha), .im (.list (ns.map PyData.str)), e2, .no, .im (.list (((ns.map PyData.str).filter fun _ => true).map fun d => (match d with | .str b => PyData.str (Str.ofString "come " ++ b) | _ => .none))), .no, .no] σ5 H5 := R5
  rw [eL] at R5
  have al := all_deeds hl nd nm (fine_comes hl nd nm (xs := ns) fun x hx => hx)
  have cl := comes_len hl nd nm ns
  have ne1 : (comes ns).map deedLine ≠ [] := fun e => by rw [e, hl] at cl; cases cl
  obtain ⟨ft1, _, sb1⟩ := text_lines ne1 al (by omega)
  have rd1 := (read_of hl nd nm ne1 al (by omega)).trans (read201 hl nd nm)
  -- one too many
  refine vs_ifN R5 (vt_test (ve_op (ve_cb (vas_cons (ve_heardC hT hC hkk fun HI E1 hx => ?_)))))
  refine ve_make (A_initH_mono c C) hx (vas_cons (ve_join (ve_c (d := .str sNl) rfl ⟨sNl, rfl, ve_var (i := 4) rfl (by decide) ⟨true, (comes ns).map deedLine, .lst _, sb1, ?_⟩⟩)))
  refine vas_nil fun x dx => ⟨x, dx, _, rfl, fun z e => (by cases e; exact ft1), fun ds' hr' => (by rw [rd1] at hr'; cases hr'), fun k' hk' => ⟨rfl, ?_⟩⟩
  rw [rd1] at hk'
  cases hk'
  refine vas_nil (cb_reprI (k := 201) (by omega) (ve_cb (vas_cons (ve_c (d := .int (201 : Nat)) rfl (vas_nil (cb_reprI (k := 201) (by omega) (o2_neS ⟨_, rfl, ?_⟩)))))))
  refine ⟨by rw [decide_eq_true rfl]; rfl, fun H6 R6 => ?_⟩
  have R6 : Rep ⟨fun _ => False, H, fun _ => False, T⟩ 7 [.im (.str alpha), .im (.list (ns.map PyData.str)), e2, .no, .im (.list (((comes ns).map deedLine).map PyData.str)), .no, .no] σ5 H6 := R6
  -- just as many
  have eL2 : ((comes ns).map deedLine).take 200 = (comes (ns.take 200)).map deedLine := by
    unfold comes
    rw [List.map_take, List.map_take]
  have al2 := all_deeds hl nd nm (fine_comes hl nd nm (xs := ns.take 200) fun x hx => List.mem_of_mem_take hx)
  have t2 := take_len200 hl nd nm
  have cl2 := comes_len hl nd nm (ns.take 200)
  rw [t2] at cl2
  have ne2 : (comes (ns.take 200)).map deedLine ≠ [] := fun e => by rw [e] at cl2; cases cl2
  obtain ⟨ft2, _, sb2⟩ := text_lines ne2 al2 (by omega)
  obtain ⟨ds2, rd2, len2⟩ : ∃ ds2, readT (.str (Txt.join sNl ((comes (ns.take 200)).map deedLine))) = .inr ds2 ∧ ds2.length = 200 := ⟨_, (read_of hl nd nm ne2 al2 (by omega)).trans (read200 hl nd nm), by unfold comes; rw [List.length_map, List.length_map, t2]⟩
  refine vs_ifN R6 ?_
  refine vt_test (ve_op ?_)
  refine ve_cb (vas_cons ?_)
  refine ve_make (A_initH_mono c C) xok_never ?_
  refine vas_cons (ve_join (ve_c (d := .str sNl) rfl ⟨sNl, rfl, ?_⟩))
  refine ve_slL (ve_var (i := 4) rfl (by decide) ⟨_, vo_no (vo_some (ve_c (d := .int (200 : Nat)) rfl ⟨_, rfl, .lst _, fun t => ?_⟩))⟩)
  rw [cutS_to, eL2]
  refine ⟨true, (comes (ns.take 200)).map deedLine, .own (j := 7) rfl, sb2, vas_nil fun x dx => ⟨x, dx, _, rfl, fun z e => (by cases e; exact ft2), fun ds' hr' => ?_, fun k' hk' => (by rw [rd2] at hk'; cases hk')⟩⟩
  rw [rd2] at hr'
  cases hr'
  refine ⟨_, rfl, rfl, vas_nil (cb_lenU (A_lenH_mono C) (j := 8) rfl ⟨x, dx, _, ds2, rfl, ds2.length, rfl, by omega, rfl, ?_⟩)⟩
  refine ve_c (d := .int (200 : Nat)) rfl (o2_neI ⟨_, rfl, ?_⟩)
  refine ⟨by rw [decide_eq_true (by rw [len2])]; rfl, fun H7 R7 => ?_⟩
  have R7 : Rep ⟨fun _ => False, H, fun _ => False, T⟩ 7 [.im (.str alpha), .im (.list (ns.map PyData.str)), e2, .no, .im (.list (((comes ns).map deedLine).map PyData.str)), .no, .no] σ5 H7 := R7
  -- comings and deaths
  refine vs_set R7 (by decide) (ve_frz (ve_op (ve_slL (ve_var (i := 4) rfl (by decide) ⟨_, vo_no (vo_some (ve_c (d := .int (200 : Nat)) rfl ⟨_, rfl, .lst _, fun t1 => ?_⟩))⟩))))
  rw [cutS_to, eL2]
  refine ve_lcp (vs := [5]) (tg := fun d Γ => Γ.set 5 (.im d)) (by decide) (vi_list (ve_slL (ve_var (i := 1) rfl (by decide) ⟨_, vo_no (vo_some (ve_c (d := .int (200 : Nat)) rfl ⟨_, rfl, .lst _, fun tb2 => ⟨_, _, rfl, .own (j := 8) rfl, ?_⟩⟩))⟩)))
  rw [cutS_to]
  refine ⟨fun d hd => vgc_name (by decide), by rw [List.length_map, t2]; decide, [.im (.str alpha), .im (.list (ns.map PyData.str)), e2, .no, .im (.list (((comes ns).map deedLine).map PyData.str)), .no, .no, .ls t1 (((comes (ns.take 200)).map deedLine).map PyData.str), .ls tb2 ((ns.take 200).map PyData.str)], rfl, fun e => .own (j := 8) rfl, le_k rfl, no1 rfl, fun _ => true, fun d => match d with | .str b => .str (Str.ofString "die " ++ b) | _ => .none, fun d hd acc D => ?_, fun D => ?_⟩
  · obtain ⟨b, hb, rfl⟩ := List.mem_map.mp hd
    refine vt_yes ⟨rfl, ?_⟩
    rw [if_pos rfl]
    exact ve_op (ve_c rfl (ve_var rfl (by decide) (o2_addS (slen5 (by decide +kernel) (nm b (List.mem_of_mem_take hb)).2.1) ⟨rfl, rfl, rfl⟩)))
  have eD : ((((ns.take 200).map PyData.str).filter fun _ => true).map fun d => (match d with | .str b => PyData.str (Str.ofString "die " ++ b) | _ => .none)) = (((ns.take 200).map Deed.die).map deedLine).map PyData.str := by
    rw [List.filter_eq_self.mpr fun _ _ => rfl, List.map_map, List.map_map, List.map_map]
    exact List.map_congr_left fun n _ => congrArg PyData.str (line_die n)
  refine o2_cat (.own (j := 7) rfl) (.own (j := 9) (congrArg some (congrArg (Ent.ls D) eD))) (by rw [List.length_map, cl2, List.length_map, List.length_map, List.length_map, t2]; decide) fun t3 => ⟨_, t3, _, rfl, rfl, le_k rfl, _, rfl, fun σ8 H8 R8 => ?_⟩
  have R8 : Rep ⟨fun _ => False, H, fun _ => False, T⟩ 7 [.im (.str alpha), .im (.list (ns.map PyData.str)), e2, .no, .im (.list (((comes ns).map deedLine).map PyData.str)), .no, .im (.list (((comes (ns.take 200)).map deedLine).map PyData.str ++ (((ns.take 200).map Deed.die).map deedLine).map PyData.str))] σ8 H8 := R8
  rw [← List.map_append, ← List.map_append] at R8
  have bl := both_len hl nd nm
  have rb := read_both hl nd nm []
  have r4 := read401 hl nd nm (Str.ofString "die aa")
  have al4 := all_deeds hl nd nm (fine_both hl nd nm)
  generalize comes (ns.take 200) ++ (ns.take 200).map Deed.die = bo at R8 bl rb r4 al4
  rw [List.append_nil] at rb
  have lb : (bo.map deedLine).length = 400 := by rw [List.length_map, bl]
  have ne4 : bo.map deedLine ≠ [] := fun e => by rw [e] at lb; cases lb
  obtain ⟨ft4, _, sb4⟩ := text_lines ne4 al4 (by omega)
  obtain ⟨ds4, rd4, len4⟩ : ∃ ds4, readT (.str (Txt.join sNl (bo.map deedLine))) = .inr ds4 ∧ ds4.length = 400 := ⟨_, (read_of hl nd nm ne4 al4 (by omega)).trans rb, by rw [List.length_map, bl]⟩
  refine vs_ifN R8 ?_
  refine vt_test (ve_op ?_)
  refine ve_cb (vas_cons ?_)
  refine ve_make (A_initH_mono c C) xok_never ?_
  refine vas_cons (ve_join (ve_c (d := .str sNl) rfl ⟨sNl, rfl, ve_var (i := 6) rfl (by decide) ⟨true, bo.map deedLine, .lst _, sb4, ?_⟩⟩))
  refine vas_nil fun x dx => ⟨x, dx, _, rfl, fun z e => (by cases e; exact ft4), fun ds' hr' => ?_, fun k' hk' => (by rw [rd4] at hk'; cases hk')⟩
  rw [rd4] at hr'
  cases hr'
  refine ⟨_, rfl, rfl, vas_nil (cb_lenU (A_lenH_mono C) (j := 7) rfl ⟨x, dx, _, ds4, rfl, ds4.length, rfl, by omega, rfl, ?_⟩)⟩
  refine ve_c (d := .int (400 : Nat)) rfl (o2_neI ⟨_, rfl, ?_⟩)
  refine ⟨by rw [decide_eq_true (by rw [len4])]; rfl, fun H9 R9 => ?_⟩
  have R9 : Rep ⟨fun _ => False, H, fun _ => False, T⟩ 7 [.im (.str alpha), .im (.list (ns.map PyData.str)), e2, .no, .im (.list (((comes ns).map deedLine).map PyData.str)), .no, .im (.list ((bo.map deedLine).map PyData.str))] σ8 H9 := R9
  -- one deed too many
  have al5 : ∀ l ∈ bo.map deedLine ++ [Str.ofString "die aa"], 10 ∉ l.cps.toList ∧ l.length ≤ 1000 ∧ FineL l ∧ l.length ≠ 0 := fun l hm => by
    rcases List.mem_append.mp hm with hm | hm
    · exact al4 l hm
    · rw [List.mem_singleton.mp hm, show Str.ofString "die aa" = deedLine (.die (Str.ofString "aa")) by decide +kernel]
      exact line_all (fine_die (by decide +kernel))
  have l5 : (bo.map deedLine ++ [Str.ofString "die aa"]).length = 401 := by rw [List.length_append, lb]; rfl
  have ne5 : bo.map deedLine ++ [Str.ofString "die aa"] ≠ [] := by simp
  obtain ⟨ft5, _, sb5⟩ := text_lines ne5 al5 (by omega)
  have rd5 := (read_of hl nd nm ne5 al5 (by omega)).trans r4
  refine vs_retV R9 fin (ve_op (ve_cb (vas_cons (ve_heardC hT hC hkk fun HI E1 hx => ?_))))
  refine ve_make (A_initH_mono c C) hx (vas_cons (ve_join (ve_c (d := .str sNl) rfl ⟨sNl, rfl, ve_op (ve_var (i := 6) rfl (by decide) (ve_lst (vai_cons (ve_c (d := .str (Str.ofString "die aa")) rfl ⟨_, rfl, vai_nil ⟨le_k rfl, fun t => o2_cat (.lst _) (.own (j := 7) rfl) ?_ fun t2 => ?_⟩⟩))))⟩)))
  · rw [List.length_map, lb]; decide
  refine ⟨true, bo.map deedLine ++ [Str.ofString "die aa"], .own (j := 8) (by rw [List.map_append]; rfl), sb5, vas_nil fun x dx => ⟨x, dx, _, rfl, fun z e => (by cases e; exact ft5), fun ds' hr' => (by rw [rd5] at hr'; cases hr'), fun k' hk' => ⟨rfl, ?_⟩⟩⟩
  rw [rd5] at hk'
  cases hk'
  refine vas_nil (cb_reprI (k := 401) (by omega) (ve_cb (vas_cons (ve_c (d := .int (401 : Nat)) rfl (vas_nil (cb_reprI (k := 401) (by omega) (o2_eqS ⟨[], [], .nil, .nil, ?_, rfl⟩)))))))
  rw [decide_eq_true rfl]
end
end Hw

set_option Elab.async false
set_option linter.all false
set_option maxRecDepth 100000
set_option maxHeartbeats 4000000
namespace Hw
open PySem L2 LamX PyProof.Rows
theorem Pot.put {H : Hp} {x D : Addr} {N : Nat} {o : HO} (h : Pot H x N) (ne : x ≠ D) : Pot (upd H D o) x N := by
  obtain ⟨u, v, z, e, hh⟩ := h.ex
  exact ⟨u, v, z, by rw [upd_ne ne]; exact e, hh⟩
theorem Pot.extA {H H' : Hp} {x a : Addr} {N : Nat} (h : Pot H x N) (ne : x ≠ a) (s : ExtA a H H') : Pot H' x N := by
  obtain ⟨u, v, z, e, hh⟩ := h.ex
  exact ⟨u, v, z, s.lst ne e, hh⟩
def spLawT (K : PySem.W.Frag) (T : List (Addr × Str)) : Sp := fun vs H Q _ => ∃ (a : Addr) (ns : List Int), vs = [.ref a] ∧ SqL K H a (ns.map V.int) ∧ ns.length ≤ 63 ∧ Tabs T H ∧ ∀ H', Q (.bl true) H'
abbrev sLaw : Stmt := topS 40
theorem scLaw : FnScope ["script", "pots", "place", "pot"] ["script"] (defScope sLaw) := ⟨rfl, rfl, rfl, by decide +kernel, rfl, by decide +kernel, by decide +kernel⟩
section
variable {P : Program} {w : World} {K : PySem.W.Frag} {mg : Str → Option Value} {base : Heap}
theorem ok_law {f f_law_take f_law_right f_law_pot f_law_cells : Addr} {fd fd_law_take fd_law_right fd_law_pot fd_law_cells : FuncData} {k : Nat} {T : List (Addr × Str)} {fB : Addr} {fdB : FuncData} (F : L2.Fun K "law" "law" sLaw f fd) (z_all : mg "all" = none) 
    (G_law_take : FnOk P w K mg base CX0 k f_law_take fd_law_take ["pot", "upto"] spTake) (g_law_take : mg "_law_take" = some (.ref f_law_take)) (k_law_take : PySem.W.keepIn K (.ref f_law_take) = true) (b_law_take : Binds K fd_law_take ["pot", "upto"] []) 
    (G_b : FnG P w K mg base CX0 k fB fdB [] (spBoundsT T)) (g_b : mg "_law_are_bounds_told" = some (.ref fB)) (k_b : PySem.W.keepIn K (.ref fB) = true) (b_b : Binds K fdB [] [])
    (G_law_right : FnG P w K mg base CX0 k f_law_right fd_law_right ["pot"] (spRightT T)) (g_law_right : mg "_law_right" = some (.ref f_law_right)) (k_law_right : PySem.W.keepIn K (.ref f_law_right) = true) (b_law_right : Binds K fd_law_right ["pot"] []) 
    (G_law_pot : FnOk P w K mg base CX0 k f_law_pot fd_law_pot ["script", "place"] (spPot K)) (g_law_pot : mg "_law_pot" = some (.ref f_law_pot)) (k_law_pot : PySem.W.keepIn K (.ref f_law_pot) = true) (b_law_pot : Binds K fd_law_pot ["script", "place"] []) 
    (G_law_cells : FnOk P w K mg base CX0 k f_law_cells fd_law_cells ["script", "most"] (spCells K)) (g_law_cells : mg "_law_cells" = some (.ref f_law_cells)) (k_law_cells : PySem.W.keepIn K (.ref f_law_cells) = true) (b_law_cells : Binds K fd_law_cells ["script", "most"] []) :
    FnG P w K mg base CX0 (k + 1) f fd ["script"] (spLawT K T) := by
  refine funG F scLaw (fun vs H Q E h => ?_) (fun cdv A outer s H vs Q E hg h => ?_)
  · obtain ⟨a, ns, rfl, _⟩ := h
    rfl
  · obtain ⟨a, ns, rfl, hS, hl, hT, q⟩ := h
    have hr := hg.r
    have hu64 := hr.units
    refine ⟨_, (pss_cons (ps_setLc (i := 1) (own := [("place", 2)]) (g := (gName 2)) (te := tCall (spPot K) [] E0 (tCons (tVar 0) (tCons (tVar 2) tNil))) (by rfl) scLaw.nd rfl rfl (sw_true rfl rfl rfl (by decide +kernel)) (pi_list (pe_call G_law_cells hr (by rfl) g_law_cells k_law_cells b_law_cells .nil pass0 (pa_cons (pv 0) (pa_cons pe_int pa_nil)))) (blkOk_by (N := ["script", "pots", "place", "pot"]) (sc := defScope sLaw) (by decide +kernel)) (fun _ _ _ _ _ => (pg_name (i := 2) scLaw.nd rfl (.inl rfl))) (fun _ _ _ _ _ => pts_nil) (fun _ _ _ _ _ => (pe_call G_law_pot hr (by rfl) g_law_pot k_law_pot b_law_pot .nil pass0 (pa_cons (pv 0) (pa_cons (pv 2) pa_nil)))))
      (pss_cons (ps_if (pt_not (pt_val (pe_callB (cr_all rfl) (by rfl) z_all PyProof.Rows.boot_all (pa_cons (pe_lc (own := [("pot", 3)]) (g := (gName 3)) (te := tCall (spRightT T) [] E0 (tCons (tVar 3) tNil)) (by rfl) scLaw.nd (pi_list (pv 1)) (blkOk_by (N := ["script", "pots", "place", "pot"]) (sc := defScope sLaw) (by decide +kernel)) (fun _ _ _ _ _ => (pg_name (i := 3) scLaw.nd rfl (.inl rfl))) (fun _ _ _ _ _ => pts_nil) (fun _ _ _ _ _ => (pe_callG G_law_right hg (by rfl) g_law_right k_law_right b_law_right .nil pass0 (pa_cons (pv 3) pa_nil)))) pa_nil)))) (pss_one (ps_ret pe_bl)) pss_nil)
      (pss_one (ps_ret (pe_or (pe_cmpR op_gt (pe_call G_law_take hr (by rfl) g_law_take k_law_take b_law_take .nil pass0 (pa_cons (pe_ix ix_list (pv 1) pe_int (fun _ _ => rfl)) (pa_cons pe_int pa_nil))) pe_int (nomark _)) (pe_one (pe_call0G G_b hg (by rfl) g_b k_b b_b .nil pass0))))))), ?_⟩
    refine rs_set ?_
    refine ⟨.ref a, rfl, a, ns.map V.int, 3, rfl, hS, by rw [List.length_map]; exact hl, by decide, by decide, fun n p H1 n0 n3 s1 np hp => ?_⟩
    refine ⟨p, rfl, ⟨_, sql_of hp⟩, fun D hD => ?_⟩
    have lenr : ((List.range n).map fun i : Nat => V.int (i : Int)).length = n := by rw [List.length_map, List.length_range]
    refine lc_list (xs := (List.range n).map fun i : Nat => V.int (i : Int)) (fun i H' => ∃ ps : List Addr, ps.length = i ∧ Same H1 H' ∧ H' D = some (.lst (ps.map V.ref)) ∧ ps.Nodup ∧ ∀ x ∈ ps, Pot H' x 0) ⟨[], rfl, same_upd hD, upd_same, .nil, fun _ z => nomatch z⟩ (fun i H' _ ⟨_, _, s, _⟩ => sql_of (s _ _ hp)) ?_ ?_
    · rintro i x H2 hx ⟨ps, pl, s2, eD, hn, hpp⟩
      rw [List.getElem?_map] at hx
      have hi : i < n := by
        cases e : (List.range n)[i]? with
        | none => rw [e] at hx; cases hx
        | some y =>
          have z := (List.getElem?_eq_some_iff.mp e).1
          rwa [List.length_range] at z
      rw [List.getElem?_range hi] at hx
      obtain rfl : V.int (i : Int) = x := Option.some.inj hx
      refine ⟨rfl, r_yes ?_⟩
      refine r_call (r_cons (r_var (v := .ref a) rfl (r_cons (r_var (v := .int (i : Int)) rfl ⟨a, ns, i, rfl, (s1.trans s2).seq hS, hl, by omega, by omega, fun pp H3 s3 np3 hp3 => ?_⟩))))
      have eD3 := s3 _ _ eD
      have ppD : pp ≠ D := fun z => by rw [z, eD] at np3; cases np3
      refine ⟨_, eD3, smallM (by rw [List.length_map]; omega), ps ++ [pp], by rw [List.length_append, pl]; rfl, fun b o e => ?_, by rw [upd_same, List.map_append]; rfl, ?_, fun y hy => ?_⟩
      · rw [upd_ne (ne_of_none e hD)]; exact s3 _ _ (s2 _ _ e)
      · rw [List.nodup_append]
        exact ⟨hn, by simp, fun x hx y hy e => (hpp x hx).some (by rw [e, List.mem_singleton.mp hy]; exact np3)⟩
      · rcases List.mem_append.mp hy with hy | hy
        · exact ((hpp y hy).same s3).put (pot_ne_refs ((hpp y hy).same s3) eD3)
        · rw [List.mem_singleton.mp hy]
          exact hp3.put ppD
    rintro H2 ⟨ps, pl, s2, eD, hn, hpp⟩
    rw [lenr] at pl
    have eD7 := eD
    have hp7 := hpp
    have plen : ps.length ≤ 3 := by omega
    have hT2 : Tabs T H2 := tabs_same hT (s1.trans s2)
    refine rs_no ?_
    refine ⟨.ref D, rfl, D, rfl, ⟨_, sql_of eD7⟩, fun D2 nD2 => ?_⟩
    have D2D : D2 ≠ D := fun z => by rw [z, eD7] at nD2; cases nD2
    have D2p : ∀ x ∈ ps, x ≠ D2 := fun x hx z => (hp7 x hx).some (z ▸ nD2)
    have Dp : ∀ x ∈ ps, x ≠ D := fun x hx => pot_ne_refs (hp7 x hx) eD7
    have n1 : 1 ≤ ps.length := by omega
    refine lc_list (xs := ps.map V.ref) (fun i H' => H' D = some (.lst (ps.map V.ref)) ∧ (∀ (j : Nat) (x : Addr), ps[j]? = some x → i ≤ j → Pot H' x 0) ∧ (∀ x, ps[0]? = some x → Pot H' x 4000) ∧ Tabs T H' ∧ H' D2 = some (.lst ((List.replicate i true).map V.bl)))
      ⟨by rw [upd_ne (Ne.symm D2D)]; exact eD7, fun j x hx _ => (hp7 x (List.mem_of_getElem? hx)).put (D2p x (List.mem_of_getElem? hx)), fun x hx => ((hp7 x (List.mem_of_getElem? hx)).put (D2p x (List.mem_of_getElem? hx))).mono (by omega), tabs_same hT2 (same_upd nD2), upd_same⟩ (fun i H' _ ⟨w, _⟩ => sql_of w) ?_ ?_
    · rintro i v H' hv ⟨eD', hpj, hp0, hTi, eD2⟩
      obtain ⟨x, hx, rfl⟩ := map_get hv
      have hxm := List.mem_of_getElem? hx
      have hi := (List.getElem?_eq_some_iff.mp hx).1
      refine ⟨rfl, r_yes ?_⟩
      refine ⟨.ref x, rfl, x, 0, rfl, hpj i x hx (Nat.le_refl _), by decide, hTi, fun H8 s8 hp8 hT8 => ?_⟩
      have e8 := s8.lst (Ne.symm (D2p x hxm)) eD2
      refine ⟨_, e8, smallM (by rw [List.length_map, List.length_replicate]; omega), ?_, fun j y hy hij => ?_, fun y hy => ?_, tabs_put hT8 e8, ?_⟩
      · rw [upd_ne (Ne.symm D2D)]; exact s8.lst (Ne.symm (Dp x hxm)) eD'
      · have yx : y ≠ x := fun z => by
          obtain ⟨b1, b2⟩ := List.getElem?_eq_some_iff.mp hy
          obtain ⟨c1, c2⟩ := List.getElem?_eq_some_iff.mp hx
          exact List.pairwise_iff_getElem.mp hn i j c1 b1 (by omega) (by rw [c2, b2, z])
        exact ((hpj j y hy (by omega)).extA yx s8).put (D2p y (List.mem_of_getElem? hy))
      · by_cases yx : y = x
        · rw [yx]; exact (hp8.mono (by omega)).put (D2p x hxm)
        · exact ((hp0 y hy).extA yx s8).put (D2p y (List.mem_of_getElem? hy))
      · rw [upd_same, List.replicate_succ', List.map_append]; rfl
    · rintro H' ⟨eD', _, hp0, hTi, eD2⟩
      refine ⟨D2, _, rfl, sql_of eD2, ?_⟩
      have e : (List.replicate (ps.map V.ref).length true).all id = true := by simp
      rw [e]
      refine ⟨true, rfl, ?_⟩
      show if false = true then _ else _
      rw [if_neg Bool.false_ne_true]
      have g0 : ps[0]? = some ps[0] := List.getElem?_eq_getElem (by omega)
      have ga : atI (ps.map V.ref) (0 : Int) = some (.ref ps[0]) := atI_nat (j := 0) (by rw [List.getElem?_map, g0]; rfl)
      refine r_ret ?_
      refine ⟨.ref D, rfl, D, _, 0, _, rfl, rfl, sql_of eD', ga, ps[0], 12, 4000, rfl, hp0 _ g0, by decide, by decide, by decide, fun r H9 r0 r1 s9 P9 => ?_⟩
      have hT9 := tabs_sx hTi (hp0 _ g0) s9
      refine ⟨r, 0, rfl, rfl, decide (r > 0), rfl, ?_⟩
      by_cases h0 : r > 0
      · rw [decide_eq_true h0, if_pos rfl]
        exact q H9
      · rw [decide_eq_false h0, if_neg Bool.false_ne_true]
        exact ⟨rfl, hT9, fun H10 _ _ => q H10⟩
end
end Hw

set_option Elab.async false
set_option linter.all false
set_option maxRecDepth 100000
set_option maxHeartbeats 4000000
namespace Hw
open PySem L2 LamX PyProof.Rows
abbrev sIniH : Stmt := inClass (topS 6) 0
abbrev sHeard : Stmt := topS 36
section
variable {P : Program} {w : World} {K : PySem.W.Frag} {mg : Str → Option Value} {base : Heap}
theorem scIniH : FnScope ["self", "value"] ["self", "value"] (defScope sIniH) := ⟨rfl, rfl, rfl, by decide +kernel, rfl, by decide +kernel, by decide +kernel⟩
/-- HealError.__init__ -/
theorem ok_iniH {f : Addr} {fd : FuncData} {k : Nat} (F : Fun K "__init__" "HealError.__init__" sIniH f fd) : FnOk P w K mg base CX0 (k + 1) f fd ["self", "value"] (spIniX K) := by
  refine F.ok scIniH (fun vs H Q E h => ?_) (fun cdv A outer s H vs Q E hr h => ?_)
  · obtain ⟨a, C, fI, v, rfl, _⟩ := h
    rfl
  · obtain ⟨a, C, fI, v, rfl, T, ha, q⟩ := h
    refine ⟨_, pss_one (ps_ost (pv 0) (pv 1) rfl), ?_⟩
    exact ⟨v, rfl, .ref a, rfl, a, C, rfl, T.o, T.noV, .inl ⟨ha, q⟩⟩
theorem ok_heard {f CS c : Addr} {fd : FuncData} {k : Nat} (F : L2.Fun K "_law_heard" "_law_heard" sHeard f fd) (bi : mg "isinstance" = none) (me : mg "HealError" = some (.ref CS)) (m1 : mg "BadHistory" = some (.ref c)) : FnGL P w K mg base CX0 (k + 2) f fd ["call"] (spHeard1 P w K mg base k CS c) :=
  heard1_ok F ⟨rfl, rfl, rfl, by decide +kernel, rfl, by decide +kernel, by decide +kernel⟩ rfl (by decide +kernel) (by decide +kernel) (by decide +kernel) (by decide +kernel) (by decide +kernel) me bi m1 (by decide) (by decide)
end
end Hw

set_option Elab.async false
set_option linter.all false
set_option maxRecDepth 100000
set_option maxHeartbeats 4000000
namespace Hw
open PySem L2 PyProof.Rows
theorem sub_bt {K : PySem.W.Frag} {T : String} {C : Addr} {l : List Value} (h : fastBuiltinMro T = some l) (hl : l.contains (.ref C) = false) : PySem.W.subIn K (.type T) (.ref C) = some false := by
  show (fastBuiltinMro T).map (·.contains (.ref C)) = some false
  rw [h]
  show some (l.contains (.ref C)) = some false
  rw [hl]
theorem kit_no {K : PySem.W.Frag} {T : String} {C : Addr} (hd : PySem.W.hasDictIn K C = true) (hy : PySem.W.typeIn K (.ref C) = some (.type "type")) (hs : PySem.W.subIn K (.type T) (.ref C) = some false) : PySem.W.kitOne K (.type T) (.ref C) = some false := by
  have hc : (PySem.W.clsIn K C).isSome = true := by
    obtain ⟨cd, hc, _⟩ := PySem.W.any_some hd
    rw [hc]; rfl
  unfold PySem.W.kitOne
  rw [if_neg (by simp)]
  show (if ((PySem.W.clsIn K C).isSome && PySem.W.typeIn K (.ref C) == some (.type "type")) = true then PySem.W.subIn K (.type T) (.ref C) else none) = some false
  rw [if_pos (by rw [hc, hy]; simp), hs]

theorem all_mk {l : PySem.W.OpenLaw} {w : World} {K : PySem.W.Frag} {h : Heap} {mg : Str → Option Value} {fa C f0 f1 f2 f3 f4 f5 f6 f7 f8 f9 f10 f11 f12 f13 f14 f15 f16 f17 f18 f19 f20 f21 f22 f23 f24 f25 f26 f27 f28 f29 f30 fCm0 fCm1 : Addr} {CS fI E0 cc28 P28 cc29 P29 : Addr} (X : K.In h) (G : h.Ns mainGlobals mg) (hfa : mg "law" = some (.ref fa))
    {odI anI : Option Addr} {slI : Array (Option Value)} {ocI kVI dcI pmI cdI ctI : Value}
    {od0 an0 od1 an1 od2 an2 od3 an3 od4 an4 od5 an5 od6 an6 od7 an7 od8 an8 od9 an9 od10 an10 od11 an11 od12 an12 od13 an13 od14 an14 od15 an15 od16 an16 od17 an17 od18 an18 od19 an19 od20 an20 od21 an21 od22 an22 od23 an23 od24 an24 od25 an25 od26 an26 od27 an27 od28 an28 od29 an29 od30 an30 odCm0 anCm0 odCm1 anCm1 : Option Addr} {sl0 sl1 sl2 sl3 sl4 sl5 sl6 sl7 sl8 sl9 sl10 sl11 sl12 sl13 sl14 sl15 sl16 sl17 sl18 sl19 sl20 sl21 sl22 sl23 sl24 sl25 sl26 sl27 sl28 sl29 sl30 slCm0 slCm1 : Array (Option Value)} {oc0 kV0 dc0 pm0 cd0 ct0 oc1 kV1 dc1 pm1 cd1 ct1 oc2 kV2 dc2 pm2 cd2 ct2 oc3 kV3 dc3 pm3 cd3 ct3 oc4 kV4 dc4 pm4 cd4 ct4 oc5 kV5 dc5 pm5 cd5 ct5 oc6 kV6 dc6 pm6 cd6 ct6 oc7 kV7 dc7 pm7 cd7 ct7 oc8 kV8 dc8 pm8 cd8 ct8 oc9 kV9 dc9 pm9 cd9 ct9 oc10 kV10 dc10 pm10 cd10 ct10 oc11 kV11 dc11 pm11 cd11 ct11 oc12 kV12 dc12 pm12 cd12 ct12 oc13 kV13 dc13 pm13 cd13 ct13 oc14 kV14 dc14 pm14 cd14 ct14 oc15 kV15 dc15 pm15 cd15 ct15 oc16 kV16 dc16 pm16 cd16 ct16 oc17 kV17 dc17 pm17 cd17 ct17 oc18 kV18 dc18 pm18 cd18 ct18 oc19 kV19 dc19 pm19 cd19 ct19 oc20 kV20 dc20 pm20 cd20 ct20 oc21 kV21 dc21 pm21 cd21 ct21 oc22 kV22 dc22 pm22 cd22 ct22 oc23 kV23 dc23 pm23 cd23 ct23 oc24 kV24 dc24 pm24 cd24 ct24 oc25 kV25 dc25 pm25 cd25 ct25 oc26 kV26 dc26 pm26 cd26 ct26 oc27 kV27 dc27 pm27 cd27 ct27 oc28 kV28 dc28 pm28 ct28 oc29 kV29 dc29 pm29 ct29 oc30 kV30 dc30 pm30 cd30 ct30 ocCm0 kVCm0 dcCm0 pmCm0 cdCm0 ctCm0 ocCm1 kVCm1 dcCm1 pmCm1 cdCm1 ctCm1 : Value} {tk0 tk1 tk2 : Tok}
    (a0 : PySem.W.nsIn K mainGlobals "is_name" = some (some (.ref f0)))
    (l0 : K.lookup f0 = some ⟨oc0, od0, .func (PySem.W.fnOf "is_name" "is_name" (defArgs sIsName) (defBody sIsName) (defScope sIsName) .none kV0 dc0 pm0 an0 cd0 ct0), sl0⟩)
    (c0 : PySem.W.codeIn K cd0 "is_name" = true)
    (k0 : PySem.W.keepIn K (.ref f0) = true)
    (a1 : PySem.W.nsIn K mainGlobals "ascends" = some (some (.ref f1)))
    (l1 : K.lookup f1 = some ⟨oc1, od1, .func (PySem.W.fnOf "ascends" "ascends" (defArgs sAsc) (defBody sAsc) (defScope sAsc) .none kV1 dc1 pm1 an1 cd1 ct1), sl1⟩)
    (c1 : PySem.W.codeIn K cd1 "ascends" = true)
    (k1 : PySem.W.keepIn K (.ref f1) = true)
    (a2 : PySem.W.nsIn K mainGlobals "read_deeds" = some (some (.ref f2)))
    (l2 : K.lookup f2 = some ⟨oc2, od2, .func (PySem.W.fnOf "read_deeds" "read_deeds" (defArgs sReadDs) (defBody sReadDs) (defScope sReadDs) .none kV2 dc2 pm2 an2 cd2 ct2), sl2⟩)
    (c2 : PySem.W.codeIn K cd2 "read_deeds" = true)
    (k2 : PySem.W.keepIn K (.ref f2) = true)
    (a3 : PySem.W.nsIn K mainGlobals "read_deed" = some (some (.ref f3)))
    (l3 : K.lookup f3 = some ⟨oc3, od3, .func (PySem.W.fnOf "read_deed" "read_deed" (defArgs sReadD1) (defBody sReadD1) (defScope sReadD1) .none kV3 dc3 pm3 an3 cd3 ct3), sl3⟩)
    (c3 : PySem.W.codeIn K cd3 "read_deed" = true)
    (k3 : PySem.W.keepIn K (.ref f3) = true)
    (a4 : PySem.W.nsIn K mainGlobals "lives_behind" = some (some (.ref f4)))
    (l4 : K.lookup f4 = some ⟨oc4, od4, .func (PySem.W.fnOf "lives_behind" "lives_behind" (defArgs sLivesB) (defBody sLivesB) (defScope sLivesB) .none kV4 dc4 pm4 an4 cd4 ct4), sl4⟩)
    (c4 : PySem.W.codeIn K cd4 "lives_behind" = true)
    (k4 : PySem.W.keepIn K (.ref f4) = true)
    (a5 : PySem.W.nsIn K mainGlobals "names_that" = some (some (.ref f5)))
    (l5 : K.lookup f5 = some ⟨oc5, od5, .func (PySem.W.fnOf "names_that" "names_that" (defArgs sNamesT) (defBody sNamesT) (defScope sNamesT) .none kV5 dc5 pm5 an5 cd5 ct5), sl5⟩)
    (c5 : PySem.W.codeIn K cd5 "names_that" = true)
    (k5 : PySem.W.keepIn K (.ref f5) = true)
    (a6 : PySem.W.nsIn K mainGlobals "can_stand" = some (some (.ref f6)))
    (l6 : K.lookup f6 = some ⟨oc6, od6, .func (PySem.W.fnOf "can_stand" "can_stand" (defArgs sCanStand) (defBody sCanStand) (defScope sCanStand) .none kV6 dc6 pm6 an6 cd6 ct6), sl6⟩)
    (c6 : PySem.W.codeIn K cd6 "can_stand" = true)
    (k6 : PySem.W.keepIn K (.ref f6) = true)
    (a7 : PySem.W.nsIn K mainGlobals "can_come" = some (some (.ref f7)))
    (l7 : K.lookup f7 = some ⟨oc7, od7, .func (PySem.W.fnOf "can_come" "can_come" (defArgs sCanCome) (defBody sCanCome) (defScope sCanCome) .none kV7 dc7 pm7 an7 cd7 ct7), sl7⟩)
    (c7 : PySem.W.codeIn K cd7 "can_come" = true)
    (k7 : PySem.W.keepIn K (.ref f7) = true)
    (a8 : PySem.W.nsIn K mainGlobals "are_living" = some (some (.ref f8)))
    (l8 : K.lookup f8 = some ⟨oc8, od8, .func (PySem.W.fnOf "are_living" "are_living" (defArgs sAreLiv) (defBody sAreLiv) (defScope sAreLiv) .none kV8 dc8 pm8 an8 cd8 ct8), sl8⟩)
    (c8 : PySem.W.codeIn K cd8 "are_living" = true)
    (k8 : PySem.W.keepIn K (.ref f8) = true)
    (a9 : PySem.W.nsIn K mainGlobals "is_living" = some (some (.ref f9)))
    (l9 : K.lookup f9 = some ⟨oc9, od9, .func (PySem.W.fnOf "is_living" "is_living" (defArgs sIsLiv) (defBody sIsLiv) (defScope sIsLiv) .none kV9 dc9 pm9 an9 cd9 ct9), sl9⟩)
    (c9 : PySem.W.codeIn K cd9 "is_living" = true)
    (k9 : PySem.W.keepIn K (.ref f9) = true)
    (a10 : PySem.W.nsIn K mainGlobals "_law_pot" = some (some (.ref f10)))
    (l10 : K.lookup f10 = some ⟨oc10, od10, .func (PySem.W.fnOf "_law_pot" "_law_pot" (defArgs sPot) (defBody sPot) (defScope sPot) .none kV10 dc10 pm10 an10 cd10 ct10), sl10⟩)
    (c10 : PySem.W.codeIn K cd10 "_law_pot" = true)
    (k10 : PySem.W.keepIn K (.ref f10) = true)
    (a11 : PySem.W.nsIn K mainGlobals "_law_take" = some (some (.ref f11)))
    (l11 : K.lookup f11 = some ⟨oc11, od11, .func (PySem.W.fnOf "_law_take" "_law_take" (defArgs sTake) (defBody sTake) (defScope sTake) .none kV11 dc11 pm11 an11 cd11 ct11), sl11⟩)
    (c11 : PySem.W.codeIn K cd11 "_law_take" = true)
    (k11 : PySem.W.keepIn K (.ref f11) = true)
    (a12 : PySem.W.nsIn K mainGlobals "_law_of" = some (some (.ref f12)))
    (l12 : K.lookup f12 = some ⟨oc12, od12, .func (PySem.W.fnOf "_law_of" "_law_of" (defArgs sOf) (defBody sOf) (defScope sOf) .none kV12 dc12 pm12 an12 cd12 ct12), sl12⟩)
    (c12 : PySem.W.codeIn K cd12 "_law_of" = true)
    (k12 : PySem.W.keepIn K (.ref f12) = true)
    (a13 : PySem.W.nsIn K mainGlobals "_law_some" = some (some (.ref f13)))
    (l13 : K.lookup f13 = some ⟨oc13, od13, .func (PySem.W.fnOf "_law_some" "_law_some" (defArgs sSome) (defBody sSome) (defScope sSome) .none kV13 dc13 pm13 an13 cd13 ct13), sl13⟩)
    (c13 : PySem.W.codeIn K cd13 "_law_some" = true)
    (k13 : PySem.W.keepIn K (.ref f13) = true)
    (a14 : PySem.W.nsIn K mainGlobals "_law_cells" = some (some (.ref f14)))
    (l14 : K.lookup f14 = some ⟨oc14, od14, .func (PySem.W.fnOf "_law_cells" "_law_cells" (defArgs sCells) (defBody sCells) (defScope sCells) .none kV14 dc14 pm14 an14 cd14 ct14), sl14⟩)
    (c14 : PySem.W.codeIn K cd14 "_law_cells" = true)
    (k14 : PySem.W.keepIn K (.ref f14) = true)
    (a15 : PySem.W.nsIn K mainGlobals "_law_names" = some (some (.ref f15)))
    (l15 : K.lookup f15 = some ⟨oc15, od15, .func (PySem.W.fnOf "_law_names" "_law_names" (defArgs sNames) (defBody sNames) (defScope sNames) .none kV15 dc15 pm15 an15 cd15 ct15), sl15⟩)
    (c15 : PySem.W.codeIn K cd15 "_law_names" = true)
    (k15 : PySem.W.keepIn K (.ref f15) = true)
    (a16 : PySem.W.nsIn K mainGlobals "_law_tie" = some (some (.ref f16)))
    (l16 : K.lookup f16 = some ⟨oc16, od16, .func (PySem.W.fnOf "_law_tie" "_law_tie" (defArgs sTie) (defBody sTie) (defScope sTie) .none kV16 dc16 pm16 an16 cd16 ct16), sl16⟩)
    (c16 : PySem.W.codeIn K cd16 "_law_tie" = true)
    (k16 : PySem.W.keepIn K (.ref f16) = true)
    (a17 : PySem.W.nsIn K mainGlobals "_law_history_text" = some (some (.ref f17)))
    (l17 : K.lookup f17 = some ⟨oc17, od17, .func (PySem.W.fnOf "_law_history_text" "_law_history_text" (defArgs sHText) (defBody sHText) (defScope sHText) .none kV17 dc17 pm17 an17 cd17 ct17), sl17⟩)
    (c17 : PySem.W.codeIn K cd17 "_law_history_text" = true)
    (k17 : PySem.W.keepIn K (.ref f17) = true)
    (a18 : PySem.W.nsIn K mainGlobals "_law_living" = some (some (.ref f18)))
    (l18 : K.lookup f18 = some ⟨oc18, od18, .func (PySem.W.fnOf "_law_living" "_law_living" (defArgs sLiving) (defBody sLiving) (defScope sLiving) .none kV18 dc18 pm18 an18 cd18 ct18), sl18⟩)
    (c18 : PySem.W.codeIn K cd18 "_law_living" = true)
    (k18 : PySem.W.keepIn K (.ref f18) = true)
    (a19 : PySem.W.nsIn K mainGlobals "_law_elder" = some (some (.ref f19)))
    (l19 : K.lookup f19 = some ⟨oc19, od19, .func (PySem.W.fnOf "_law_elder" "_law_elder" (defArgs sElder) (defBody sElder) (defScope sElder) .none kV19 dc19 pm19 an19 cd19 ct19), sl19⟩)
    (c19 : PySem.W.codeIn K cd19 "_law_elder" = true)
    (k19 : PySem.W.keepIn K (.ref f19) = true)
    (a20 : PySem.W.nsIn K mainGlobals "_law_counts" = some (some (.ref f20)))
    (l20 : K.lookup f20 = some ⟨oc20, od20, .func (PySem.W.fnOf "_law_counts" "_law_counts" (defArgs sCounts) (defBody sCounts) (defScope sCounts) .none kV20 dc20 pm20 an20 cd20 ct20), sl20⟩)
    (c20 : PySem.W.codeIn K cd20 "_law_counts" = true)
    (k20 : PySem.W.keepIn K (.ref f20) = true)
    (a21 : PySem.W.nsIn K mainGlobals "_law_come_ties" = some (some (.ref f21)))
    (l21 : K.lookup f21 = some ⟨oc21, od21, .func (PySem.W.fnOf "_law_come_ties" "_law_come_ties" (defArgs sComeT) (defBody sComeT) (defScope sComeT) .none kV21 dc21 pm21 an21 cd21 ct21), sl21⟩)
    (c21 : PySem.W.codeIn K cd21 "_law_come_ties" = true)
    (k21 : PySem.W.keepIn K (.ref f21) = true)
    (a22 : PySem.W.nsIn K mainGlobals "_law_shape_ties" = some (some (.ref f22)))
    (l22 : K.lookup f22 = some ⟨oc22, od22, .func (PySem.W.fnOf "_law_shape_ties" "_law_shape_ties" (defArgs sShape) (defBody sShape) (defScope sShape) .none kV22 dc22 pm22 an22 cd22 ct22), sl22⟩)
    (c22 : PySem.W.codeIn K cd22 "_law_shape_ties" = true)
    (k22 : PySem.W.keepIn K (.ref f22) = true)
    (a23 : PySem.W.nsIn K mainGlobals "_law_grown" = some (some (.ref f23)))
    (l23 : K.lookup f23 = some ⟨oc23, od23, .func (PySem.W.fnOf "_law_grown" "_law_grown" (defArgs sGrown) (defBody sGrown) (defScope sGrown) .none kV23 dc23 pm23 an23 cd23 ct23), sl23⟩)
    (c23 : PySem.W.codeIn K cd23 "_law_grown" = true)
    (k23 : PySem.W.keepIn K (.ref f23) = true)
    (a24 : PySem.W.nsIn K mainGlobals "_law_next_dead" = some (some (.ref f24)))
    (l24 : K.lookup f24 = some ⟨oc24, od24, .func (PySem.W.fnOf "_law_next_dead" "_law_next_dead" (defArgs sNextD) (defBody sNextD) (defScope sNextD) .none kV24 dc24 pm24 an24 cd24 ct24), sl24⟩)
    (c24 : PySem.W.codeIn K cd24 "_law_next_dead" = true)
    (k24 : PySem.W.keepIn K (.ref f24) = true)
    (a25 : PySem.W.nsIn K mainGlobals "_law_history" = some (some (.ref f25)))
    (l25 : K.lookup f25 = some ⟨oc25, od25, .func (PySem.W.fnOf "_law_history" "_law_history" (defArgs sHist) (defBody sHist) (defScope sHist) .none kV25 dc25 pm25 an25 cd25 ct25), sl25⟩)
    (c25 : PySem.W.codeIn K cd25 "_law_history" = true)
    (k25 : PySem.W.keepIn K (.ref f25) = true)
    (a26 : PySem.W.nsIn K mainGlobals "_law_heard" = some (some (.ref f26)))
    (l26 : K.lookup f26 = some ⟨oc26, od26, .func (PySem.W.fnOf "_law_heard" "_law_heard" (defArgs sHeard) (defBody sHeard) (defScope sHeard) .none kV26 dc26 pm26 an26 cd26 ct26), sl26⟩)
    (c26 : PySem.W.codeIn K cd26 "_law_heard" = true)
    (k26 : PySem.W.keepIn K (.ref f26) = true)
    (a27 : PySem.W.nsIn K mainGlobals "_law_bad_lines" = some (some (.ref f27)))
    (l27 : K.lookup f27 = some ⟨oc27, od27, .func (PySem.W.fnOf "_law_bad_lines" "_law_bad_lines" (defArgs sBadL) (defBody sBadL) (defScope sBadL) .none kV27 dc27 pm27 an27 cd27 ct27), sl27⟩)
    (c27 : PySem.W.codeIn K cd27 "_law_bad_lines" = true)
    (k27 : PySem.W.keepIn K (.ref f27) = true)
    (a28 : PySem.W.nsIn K mainGlobals "_law_right" = some (some (.ref f28)))
    (l28 : K.lookup f28 = some ⟨oc28, od28, .func (PySem.W.fnOf "_law_right" "_law_right" (defArgs sRt) (defBody sRt) (defScope sRt) .none kV28 dc28 pm28 an28 (.ref cc28) ct28), sl28⟩)
    (c28 : PySem.W.codeIn K (.ref cc28) "_law_right" = true)
    (k28 : PySem.W.keepIn K (.ref f28) = true)
    (a29 : PySem.W.nsIn K mainGlobals "_law_are_bounds_told" = some (some (.ref f29)))
    (l29 : K.lookup f29 = some ⟨oc29, od29, .func (PySem.W.fnOf "_law_are_bounds_told" "_law_are_bounds_told" (defArgs sBt) (defBody sBt) (defScope sBt) .none kV29 dc29 pm29 an29 (.ref cc29) ct29), sl29⟩)
    (c29 : PySem.W.codeIn K (.ref cc29) "_law_are_bounds_told" = true)
    (k29 : PySem.W.keepIn K (.ref f29) = true)
    (a30 : PySem.W.nsIn K mainGlobals "law" = some (some (.ref f30)))
    (l30 : K.lookup f30 = some ⟨oc30, od30, .func (PySem.W.fnOf "law" "law" (defArgs sLaw) (defBody sLaw) (defScope sLaw) .none kV30 dc30 pm30 an30 cd30 ct30), sl30⟩)
    (c30 : PySem.W.codeIn K cd30 "law" = true)
    (k30 : PySem.W.keepIn K (.ref f30) = true)
    (aC : PySem.W.nsIn K mainGlobals "History" = some (some (.ref C)))
    (aCm0 : PySem.W.findIn K (.ref C) "__init__" = some (some (.ref fCm0)))
    (lCm0 : K.lookup fCm0 = some ⟨ocCm0, odCm0, .func (PySem.W.fnOf "__init__" "History.__init__" (defArgs sInitH) (defBody sInitH) (defScope sInitH) .none kVCm0 dcCm0 pmCm0 anCm0 cdCm0 ctCm0), slCm0⟩)
    (cCm0 : PySem.W.codeIn K cdCm0 "History.__init__" = true)
    (kCm0 : PySem.W.keepIn K (.ref fCm0) = true)
    (iCm0 : PySem.W.isFn K (.ref fCm0) = true)
    (aCm1 : PySem.W.findIn K (.ref C) "__len__" = some (some (.ref fCm1)))
    (lCm1 : K.lookup fCm1 = some ⟨ocCm1, odCm1, .func (PySem.W.fnOf "__len__" "History.__len__" (defArgs sLenH) (defBody sLenH) (defScope sLenH) .none kVCm1 dcCm1 pmCm1 anCm1 cdCm1 ctCm1), slCm1⟩)
    (cCm1 : PySem.W.codeIn K cdCm1 "History.__len__" = true)
    (kCm1 : PySem.W.keepIn K (.ref fCm1) = true)
    (iCm1 : PySem.W.isFn K (.ref fCm1) = true)
    (pgC : PySem.W.plainGet K C Str.empty = true)
    (hdC : PySem.W.hasDictIn K C = true)
    (poC : PySem.W.plainOver K C = true)
    (saC : PySem.W.findIn K (.ref C) "__setattr__" = some (some (.builtin "object.__setattr__")))
    (mkC : PySem.W.makesIn K C = true)
    (kCC : PySem.W.keepIn K (.ref C) = true)
    (eNC : PySem.W.findIn K (.ref C) "__ne__" = some (some (.builtin "object.__ne__")))
    (eHC : PySem.W.findIn K (.ref C) "__class__" = some (some (.builtin "object.__class__")))
    (eMC : PySem.W.mroIn K C (.type "object") = some true)
    (eYC : PySem.W.typeIn K (.ref C) = some (.type "type"))
    (nC_text : PySem.W.findIn K (.ref C) "text" = some none)
    (nC_deeds : PySem.W.findIn K (.ref C) "deeds" = some none)
    (nC_living : PySem.W.findIn K (.ref C) "living" = some none)
    (nC_dead : PySem.W.findIn K (.ref C) "dead" = some none)
    (fCS_ : PySem.W.notFirst K C (.type "str") = true)
    (fCN_ : PySem.W.notFirst K C (.type "NoneType") = true)
    (fCT_ : PySem.W.notFirst K C (.type "tuple") = true)
    (fCI_ : PySem.W.notFirst K C (.type "int") = true)
    (eG : PySem.W.specialIn K (.builtin "object.__class__") "__get__" = some (some (.builtin "getset_descriptor.__get__")))
    (eT : PySem.W.takesIn K (.builtin "object.__class__") = some true)
    (g_LONGEST_NAME : PySem.W.nsIn K mainGlobals "LONGEST_NAME" = some (some (.int 8 tk0)))
    (g_MOST_PLACES : PySem.W.nsIn K mainGlobals "MOST_PLACES" = some (some (.int 200 tk1)))
    (g_MOST_DEEDS : PySem.W.nsIn K mainGlobals "MOST_DEEDS" = some (some (.int 400 tk2)))
    (z0 : PySem.W.nsIn K mainGlobals "len" = some none)
    (z1 : PySem.W.nsIn K mainGlobals "sum" = some none)
    (z2 : PySem.W.nsIn K mainGlobals "int" = some none)
    (z3 : PySem.W.nsIn K mainGlobals "abs" = some none)
    (z4 : PySem.W.nsIn K mainGlobals "list" = some none)
    (z5 : PySem.W.nsIn K mainGlobals "range" = some none)
    (z6 : PySem.W.nsIn K mainGlobals "max" = some none)
    (z7 : PySem.W.nsIn K mainGlobals "min" = some none)
    (z8 : PySem.W.nsIn K mainGlobals "isinstance" = some none)
    (z9 : PySem.W.nsIn K mainGlobals "str" = some none)
    (z10 : PySem.W.nsIn K mainGlobals "tuple" = some none)
    (z11 : PySem.W.nsIn K mainGlobals "all" = some none)
    (z12 : PySem.W.nsIn K mainGlobals "any" = some none)
    (z13 : PySem.W.nsIn K mainGlobals "zip" = some none)
    (z14 : PySem.W.nsIn K mainGlobals "enumerate" = some none)
    (z15 : PySem.W.nsIn K mainGlobals "dict" = some none)
    (z16 : PySem.W.nsIn K mainGlobals "sorted" = some none)
    (z17 : PySem.W.nsIn K mainGlobals "repr" = some none)
    (aCS : PySem.W.nsIn K mainGlobals "HealError" = some (some (.ref CS)))
    (aE0 : PySem.W.nsIn K mainGlobals "BadHistory" = some (some (.ref E0)))
    (iI : PySem.W.findIn K (.ref CS) "__init__" = some (some (.ref fI)))
    (lI : K.lookup fI = some ⟨ocI, odI, .func (PySem.W.fnOf "__init__" "HealError.__init__" (defArgs sIniH) (defBody sIniH) (defScope sIniH) .none kVI dcI pmI anI cdI ctI), slI⟩)
    (cI : PySem.W.codeIn K cdI "HealError.__init__" = true)
    (kI : PySem.W.keepIn K (.ref fI) = true)
    (xE0 : xclsB K fI E0 = true)
    (hE0 : caughtB K CS E0 = true)
    (tE0_0 : PySem.W.kitOne K (.ref E0) (.ref E0) = some true)
    (tb28 : PySem.W.tabIn K "_law_right" = some (cc28, P28))
    (hd28 : PySem.W.codeHdIn K cc28 P28 = true)
    (ow28 : K.lookup P28 = none)
    (tt28 : h.get? P28 = some { cls := .none, data := .fields #[] })
    (tb29 : PySem.W.tabIn K "_law_are_bounds_told" = some (cc29, P29))
    (hd29 : PySem.W.codeHdIn K cc29 P29 = true)
    (ow29 : K.lookup P29 = none)
    (tt29 : h.get? P29 = some { cls := .none, data := .fields #[] })
    (neP : P29 ≠ P28)
    : ∃ fd cs sp, LawG l w K 14 63 "script" mg fa h fd cs sp := by
  have e := hfa.symm.trans (PySem.W.mg_of X G a30)
  cases e
  have B : Blt mg := ⟨PySem.W.mg_none_of X G z0, PySem.W.mg_none_of X G z1, PySem.W.mg_none_of X G z2, PySem.W.mg_none_of X G z3, PySem.W.mg_none_of X G z4, PySem.W.mg_none_of X G z5, PySem.W.mg_none_of X G z6, PySem.W.mg_none_of X G z7⟩
  have h_LONGEST_NAME : ∃ t, mg "LONGEST_NAME" = some (.int 8 t) := ⟨_, PySem.W.mg_of X G g_LONGEST_NAME⟩
  have h_MOST_PLACES : ∃ t, mg "MOST_PLACES" = some (.int 200 t) := ⟨_, PySem.W.mg_of X G g_MOST_PLACES⟩
  have h_MOST_DEEDS : ∃ t, mg "MOST_DEEDS" = some (.int 400 t) := ⟨_, PySem.W.mg_of X G g_MOST_DEEDS⟩
  have B3 : Blt3 mg := ⟨PySem.W.mg_none_of X G z8, PySem.W.mg_none_of X G z9, PySem.W.mg_none_of X G z10, PySem.W.mg_none_of X G z11, PySem.W.mg_none_of X G z13, PySem.W.mg_none_of X G z14, PySem.W.mg_none_of X G z15, PySem.W.mg_none_of X G z16, h_LONGEST_NAME, h_MOST_PLACES⟩
  have TH : TxtH K mg C := ⟨⟨pgC, hdC, poC, saC⟩, nC_text, nC_deeds, nC_living, nC_dead, PySem.W.mg_of X G aC⟩
  have Mk0 : L2.Mk K C fCm0 := ⟨mkC, aCm0, iCm0, kCC⟩
  have ML0 : Meth K C "__len__" fCm1 := ⟨aCm1, iCm1, kCm1⟩
  have F0 := fun_mk (st := sIsName) l0 c0 k0
  have b0 := F0.binds (ps := ["value"]) fun _ _ _ _ _ _ us hl => match us, hl with | [_], _ => rfl
  have F1 := fun_mk (st := sAsc) l1 c1 k1
  have b1 := F1.binds (ps := ["values"]) fun _ _ _ _ _ _ us hl => match us, hl with | [_], _ => rfl
  have F2 := fun_mk (st := sReadDs) l2 c2 k2
  have b2 := F2.binds (ps := ["text"]) fun _ _ _ _ _ _ us hl => match us, hl with | [_], _ => rfl
  have F3 := fun_mk (st := sReadD1) l3 c3 k3
  have b3 := F3.binds (ps := ["line"]) fun _ _ _ _ _ _ us hl => match us, hl with | [_], _ => rfl
  have F4 := fun_mk (st := sLivesB) l4 c4 k4
  have b4 := F4.binds (ps := ["deeds"]) fun _ _ _ _ _ _ us hl => match us, hl with | [_], _ => rfl
  have F5 := fun_mk (st := sNamesT) l5 c5 k5
  have b5 := F5.binds (ps := ["live", "lives"]) fun _ _ _ _ _ _ us hl => match us, hl with | [_, _], _ => rfl
  have F6 := fun_mk (st := sCanStand) l6 c6 k6
  have b6 := F6.binds (ps := ["value", "lives", "many"]) fun _ _ _ _ _ _ us hl => match us, hl with | [_, _, _], _ => rfl
  have F7 := fun_mk (st := sCanCome) l7 c7 k7
  have b7 := F7.binds (ps := ["name", "ties", "lives"]) fun _ _ _ _ _ _ us hl => match us, hl with | [_, _, _], _ => rfl
  have F8 := fun_mk (st := sAreLiv) l8 c8 k8
  have b8 := F8.binds (ps := ["value", "lives"]) fun _ _ _ _ _ _ us hl => match us, hl with | [_, _], _ => rfl
  have F9 := fun_mk (st := sIsLiv) l9 c9 k9
  have b9 := F9.binds (ps := ["value", "lives"]) fun _ _ _ _ _ _ us hl => match us, hl with | [_, _], _ => rfl
  have F10 := fun_mk (st := sPot) l10 c10 k10
  have b10 := F10.binds (ps := ["script", "place"]) fun _ _ _ _ _ _ us hl => match us, hl with | [_, _], _ => rfl
  have F11 := fun_mk (st := sTake) l11 c11 k11
  have b11 := F11.binds (ps := ["pot", "upto"]) fun _ _ _ _ _ _ us hl => match us, hl with | [_, _], _ => rfl
  have F12 := fun_mk (st := sOf) l12 c12 k12
  have b12 := F12.binds (ps := ["pot", "some"]) fun _ _ _ _ _ _ us hl => match us, hl with | [_, _], _ => rfl
  have F13 := fun_mk (st := sSome) l13 c13 k13
  have b13 := F13.binds (ps := ["pot", "pool", "many"]) fun _ _ _ _ _ _ us hl => match us, hl with | [_, _, _], _ => rfl
  have F14 := fun_mk (st := sCells) l14 c14 k14
  have b14 := F14.binds (ps := ["script", "most"]) fun _ _ _ _ _ _ us hl => match us, hl with | [_, _], _ => rfl
  have F15 := fun_mk (st := sNames) l15 c15 k15
  have b15 := F15.binds (ps := ["pot", "many"]) fun _ _ _ _ _ _ us hl => match us, hl with | [_, _], _ => rfl
  have F16 := fun_mk (st := sTie) l16 c16 k16
  have b16 := F16.binds (ps := ["one", "other"]) fun _ _ _ _ _ _ us hl => match us, hl with | [_, _], _ => rfl
  have F17 := fun_mk (st := sHText) l17 c17 k17
  have b17 := F17.binds (ps := ["deeds"]) fun _ _ _ _ _ _ us hl => match us, hl with | [_], _ => rfl
  have F18 := fun_mk (st := sLiving) l18 c18 k18
  have b18 := F18.binds (ps := ["deeds"]) fun _ _ _ _ _ _ us hl => match us, hl with | [_], _ => rfl
  have F19 := fun_mk (st := sElder) l19 c19 k19
  have b19 := F19.binds (ps := ["deeds"]) fun _ _ _ _ _ _ us hl => match us, hl with | [_], _ => rfl
  have F20 := fun_mk (st := sCounts) l20 c20 k20
  have b20 := F20.binds (ps := ["deeds"]) fun _ _ _ _ _ _ us hl => match us, hl with | [_], _ => rfl
  have F21 := fun_mk (st := sComeT) l21 c21 k21
  have b21 := F21.binds (ps := ["pot", "living", "wood"]) fun _ _ _ _ _ _ us hl => match us, hl with | [_, _, _], _ => rfl
  have F22 := fun_mk (st := sShape) l22 c22 k22
  have b22 := F22.binds (ps := ["pot", "here", "shape", "wide", "wood"]) fun _ _ _ _ _ _ us hl => match us, hl with | [_, _, _, _, _], _ => rfl
  have F23 := fun_mk (st := sGrown) l23 c23 k23
  have b23 := F23.binds (ps := ["pot", "names", "wood"]) fun _ _ _ _ _ _ us hl => match us, hl with | [_, _, _], _ => rfl
  have F24 := fun_mk (st := sNextD) l24 c24 k24
  have b24 := F24.binds (ps := ["pot", "deeds", "living", "way"]) fun _ _ _ _ _ _ us hl => match us, hl with | [_, _, _, _], _ => rfl
  have F25 := fun_mk (st := sHist) l25 c25 k25
  have b25 := F25.binds (ps := ["pot", "places", "more", "wood"]) fun _ _ _ _ _ _ us hl => match us, hl with | [_, _, _, _], _ => rfl
  have F26 := fun_mk (st := sHeard) l26 c26 k26
  have b26 := F26.binds (ps := ["call"]) fun _ _ _ _ _ _ us hl => match us, hl with | [_], _ => rfl
  have F27 := fun_mk (st := sBadL) l27 c27 k27
  have b27 := F27.binds (ps := ["pot", "deeds"]) fun _ _ _ _ _ _ us hl => match us, hl with | [_, _], _ => rfl
  have F28 : FunC K "_law_right" "_law_right" sRt f28 _ cc28 := ⟨_, _, _, _, _, _, _, _, rfl, l28, c28⟩
  have b28 : Binds K (PySem.W.fnOf "_law_right" "_law_right" (defArgs sRt) (defBody sRt) (defScope sRt) .none kV28 dc28 pm28 an28 (.ref cc28) ct28) ["pot"] [] := .all fun us hl => match us, hl with | [_], _ => rfl
  have F29 : FunC K "_law_are_bounds_told" "_law_are_bounds_told" sBt f29 _ cc29 := ⟨_, _, _, _, _, _, _, _, rfl, l29, c29⟩
  have b29 : Binds K (PySem.W.fnOf "_law_are_bounds_told" "_law_are_bounds_told" (defArgs sBt) (defBody sBt) (defScope sBt) .none kV29 dc29 pm29 an29 (.ref cc29) ct29) [] [] := .all fun us hl => match us, hl with | [], _ => rfl
  have F30 := fun_mk (st := sLaw) l30 c30 k30
  have b30 := F30.binds (ps := ["script"]) fun _ _ _ _ _ _ us hl => match us, hl with | [_], _ => rfl
  have FCm0 := fun_mk (st := sInitH) lCm0 cCm0 kCm0
  have bCm0 := FCm0.binds (ps := ["self", "text"]) fun _ _ _ _ _ _ us hl => match us, hl with | [_, _], _ => rfl
  have FCm1 := fun_mk (st := sLenH) lCm1 cCm1 kCm1
  have bCm1 := FCm1.binds (ps := ["self"]) fun _ _ _ _ _ _ us hl => match us, hl with | [_], _ => rfl
  have FI := fun_mk (st := sIniH) lI cI kI
  have bI := FI.binds (ps := ["self", "value"]) fun _ _ _ _ _ _ us hl => match us, hl with | [_, _], _ => rfl
  have X0 : XCls K fI E0 := xclsB_ok xE0
  refine ⟨(PySem.W.fnOf "law" "law" (defArgs sLaw) (defBody sLaw) (defScope sLaw) .none kV30 dc30 pm30 an30 cd30 ct30), [(cc28, P28), (cc29, P29)], (spLawT K [(P28, lamR), (P29, lamB)]), ⟨(fun p hp => by
      rcases List.mem_cons.mp hp with rfl | hp
      · exact tt28
      · rw [List.mem_singleton.mp hp]; exact tt29), (fun p hp => by
      rcases List.mem_cons.mp hp with rfl | hp
      · exact ow28
      · rw [List.mem_singleton.mp hp]; exact ow29), (fun p hp => by
      rcases List.mem_cons.mp hp with rfl | hp
      · exact PySem.W.codeHd_of_K X hd28
      · rw [List.mem_singleton.mp hp]; exact PySem.W.codeHd_of_K X hd29), fun s v => .of_eq rfl, (fun H a ns hl _ hT hS => ⟨a, ns, rfl, hS, hl, (fun p hp => by
      rcases List.mem_cons.mp hp with rfl | hp
      · exact LamX.TabS.nil (hT _ List.mem_cons_self)
      · rw [List.mem_singleton.mp hp]; exact LamX.TabS.nil (hT _ (List.mem_cons_of_mem _ List.mem_cons_self))), fun _ => rfl⟩), fun base _ _ hTB => ?_⟩⟩
  have TB28 := hTB (cc28, P28) List.mem_cons_self
  have TB29 := hTB (cc29, P29) (List.mem_cons_of_mem _ List.mem_cons_self)
  have GI0 : FnOk l.prog w K mg base CX0 1 fI _ ["self", "value"] (spIniX K) := ok_iniH FI
  have G_read_deed_ok_readd1V : FnOk l.prog w K mg base _ 1 f3 _ _ _ := Hw.ok_readd1V (k := 0) F3 B B3
  have G_is_name_ok_isnameV : FnOk l.prog w K mg base _ 1 f0 _ _ _ := Hw.ok_isnameV (k := 0) F0 B B3
  have G_is_living_ok_islivV : FnOk l.prog w K mg base _ 1 f9 _ _ _ := Hw.ok_islivV (k := 0) F9 B3
  have G_ascends_ok_ascV : FnOk l.prog w K mg base _ 1 f1 _ _ _ := Hw.ok_ascV (k := 0) F1 B3
  have G_are_living_ok_arelivV : FnOk l.prog w K mg base _ 2 f8 _ _ _ := Hw.ok_arelivV (k := 1) F8 B3 G_is_living_ok_islivV (PySem.W.mg_of X G a9) k9 b9 G_ascends_ok_ascV (PySem.W.mg_of X G a1) k1 b1
  have G_can_come_ok_cancomeV : FnOk l.prog w K mg base _ 3 f7 _ _ _ := Hw.ok_cancomeV (k := 2) F7 B B3 (G_is_name_ok_isnameV.mono (show 1 ≤ 2 by decide)) (PySem.W.mg_of X G a0) k0 b0 G_are_living_ok_arelivV (PySem.W.mg_of X G a8) k8 b8
  have G_can_stand_ok_canstandV : FnOk l.prog w K mg base _ 4 f6 _ _ _ := Hw.ok_canstandV (k := 3) F6 B B3 h_MOST_DEEDS G_can_come_ok_cancomeV (PySem.W.mg_of X G a7) k7 b7 (G_is_living_ok_islivV.mono (show 1 ≤ 3 by decide)) (PySem.W.mg_of X G a9) k9 b9
  have G_read_deeds_ok_readdsV : FnOk l.prog w K mg base _ 5 f2 _ _ _ := Hw.ok_readdsV (j := 1) (k := 4) (by decide) F2 B B3 X0 (PySem.W.mg_of X G aE0) GI0 bI (G_read_deed_ok_readd1V.mono (show 1 ≤ 4 by decide)) (PySem.W.mg_of X G a3) k3 b3 G_can_stand_ok_canstandV (PySem.W.mg_of X G a6) k6 b6
  have G_lives_behind_ok_livesbV : FnOk l.prog w K mg base _ 1 f4 _ _ _ := Hw.ok_livesbV (k := 0) F4
  have G_names_that_ok_namestV : FnOk l.prog w K mg base _ 1 f5 _ _ _ := Hw.ok_namestV (k := 0) F5 (PySem.W.mg_none_of X G z16) (PySem.W.mg_none_of X G z10)
  have G_History___init___ok_initHV : FnOk l.prog w K mg base _ 6 fCm0 _ _ _ := Hw.ok_initHV (k := 5) FCm0 TH G_read_deeds_ok_readdsV (PySem.W.mg_of X G a2) k2 b2 (G_lives_behind_ok_livesbV.mono (show 1 ≤ 5 by decide)) (PySem.W.mg_of X G a4) k4 b4 (G_names_that_ok_namestV.mono (show 1 ≤ 5 by decide)) (PySem.W.mg_of X G a5) k5 b5
  have GIm := G_History___init___ok_initHV.mono (show 6 ≤ 9 by decide)
  have G_History___len___ok_lenHV : FnOk l.prog w K mg base _ 1 fCm1 _ _ _ := Hw.ok_lenHV (k := 0) FCm1 TH B
  have GZm := G_History___len___ok_lenHV.mono (show 1 ≤ 9 by decide)
  have bIk : KBn K (PySem.W.fnOf "__init__" "History.__init__" (defArgs sInitH) (defBody sInitH) (defScope sInitH) .none kVCm0 dcCm0 pmCm0 anCm0 cdCm0 ctCm0) ["self", "text"] (0 + 1) ["text"] (fun us ws => us ++ ws) (fun vs zs => vs ++ zs) := ⟨fun s us ws _ l1 l2 => match us, ws, l1, l2 with | [_], [_], _, _ => .of_eq rfl, fun r1 r2 => r1.append r2⟩
  have G__law_take_ok_take : FnOk l.prog w K mg base _ 1 f11 _ _ _ := Hw.ok_take (k := 0) F11 B
  have G__law_heard_ok_heard : FnGL l.prog w K mg base _ 12 f26 _ _ _ := Hw.ok_heard (k := 10) F26 (PySem.W.mg_none_of X G z8) (PySem.W.mg_of X G aCS) (PySem.W.mg_of X G aE0)
  have G__law_are_bounds_told_ok_bounds : FnG l.prog w K mg base _ 13 f29 _ _ _ := Hw.ok_bounds (jm := 9) (k := 12) (m := 10) (T := [(P28, lamR), (P29, lamB)]) (by decide) (by decide) F29 TB29 (List.mem_cons_of_mem _ List.mem_cons_self) (fun p hp e => by
    rcases List.mem_cons.mp hp with rfl | hp
    · exact (neP e.symm).elim
    · rw [List.mem_singleton.mp hp]) TH Mk0 (fun dd => caught_by hE0) tE0_0 B (PySem.W.mg_none_of X G z17) G__law_heard_ok_heard (PySem.W.mg_of X G a26) k26 b26 GIm bCm0 ML0 GZm bCm1
  have G__law_of_ok_of2 : FnOk l.prog w K mg base _ 2 f12 _ _ _ := Hw.ok_of2 (k := 1) F12 B G__law_take_ok_take (PySem.W.mg_of X G a11) k11 b11
  have G__law_history_text_ok_htextV : FnOk l.prog w K mg base _ 1 f17 _ _ _ := Hw.ok_htextV (k := 0) F17 B
  have G__law_living_ok_living : FnOk l.prog w K mg base _ 1 f18 _ _ _ := Hw.ok_living (k := 0) F18 B (PySem.W.mg_none_of X G z16)
  have G__law_bad_lines_ok_bad : FnOk l.prog w K mg base _ 3 f27 _ _ _ := Hw.ok_bad (k := 2) F27 B G__law_of_ok_of2 (PySem.W.mg_of X G a12) k12 b12 (G__law_living_ok_living.mono (show 1 ≤ 2 by decide)) (PySem.W.mg_of X G a18) k18 b18
  have G__law_names_ok_names : FnOk l.prog w K mg base _ 3 f15 _ _ _ := Hw.ok_names (k := 2) F15 B (G__law_take_ok_take.mono (show 1 ≤ 2 by decide)) (PySem.W.mg_of X G a11) k11 b11 G__law_of_ok_of2 (PySem.W.mg_of X G a12) k12 b12
  have G__law_some_ok_some : FnOk l.prog w K mg base _ 2 f13 _ _ _ := Hw.ok_some (k := 1) F13 B G__law_take_ok_take (PySem.W.mg_of X G a11) k11 b11
  have G__law_come_ties_ok_comeT : FnOk l.prog w K mg base _ 3 f21 _ _ _ := Hw.ok_comeT (k := 2) F21 B (PySem.W.mg_none_of X G z16) (PySem.W.mg_none_of X G z10) (G__law_take_ok_take.mono (show 1 ≤ 2 by decide)) (PySem.W.mg_of X G a11) k11 b11 G__law_of_ok_of2 (PySem.W.mg_of X G a12) k12 b12 G__law_some_ok_some (PySem.W.mg_of X G a13) k13 b13
  have G__law_shape_ties_ok_shape : FnOk l.prog w K mg base _ 4 f22 _ _ _ := Hw.ok_shape (k := 3) F22 B (PySem.W.mg_none_of X G z16) (PySem.W.mg_none_of X G z10) G__law_come_ties_ok_comeT (PySem.W.mg_of X G a21) k21 b21
  have G__law_grown_ok_grown : FnOk l.prog w K mg base _ 5 f23 _ _ _ := Hw.ok_grown (k := 4) F23 (G__law_take_ok_take.mono (show 1 ≤ 4 by decide)) (PySem.W.mg_of X G a11) k11 b11 G__law_shape_ties_ok_shape (PySem.W.mg_of X G a22) k22 b22
  have G__law_counts_ok_counts : FnOk l.prog w K mg base _ 1 f20 _ _ _ := Hw.ok_counts (k := 0) F20 B
  have G__law_tie_ok_tie : FnOk l.prog w K mg base _ 1 f16 _ _ _ := Hw.ok_tie (k := 0) F16 B
  have G__law_elder_ok_elder : FnOk l.prog w K mg base _ 2 f19 _ _ _ := Hw.ok_elder (k := 1) F19 B (PySem.W.mg_none_of X G z16) G__law_tie_ok_tie (PySem.W.mg_of X G a16) k16 b16
  have G__law_next_dead_ok_nextd : FnOk l.prog w K mg base _ 3 f24 _ _ _ := Hw.ok_nextd (k := 2) F24 B (PySem.W.mg_none_of X G z16) (PySem.W.mg_none_of X G z15) G__law_of_ok_of2 (PySem.W.mg_of X G a12) k12 b12 (G__law_counts_ok_counts.mono (show 1 ≤ 2 by decide)) (PySem.W.mg_of X G a20) k20 b20 G__law_elder_ok_elder (PySem.W.mg_of X G a19) k19 b19
  have G__law_history_ok_hist : FnOk l.prog w K mg base _ 6 f25 _ _ _ := Hw.ok_hist (k := 5) F25 B (G__law_take_ok_take.mono (show 1 ≤ 5 by decide)) (PySem.W.mg_of X G a11) k11 b11 (G__law_of_ok_of2.mono (show 2 ≤ 5 by decide)) (PySem.W.mg_of X G a12) k12 b12 (G__law_names_ok_names.mono (show 3 ≤ 5 by decide)) (PySem.W.mg_of X G a15) k15 b15 G__law_grown_ok_grown (PySem.W.mg_of X G a23) k23 b23 (G__law_living_ok_living.mono (show 1 ≤ 5 by decide)) (PySem.W.mg_of X G a18) k18 b18 (G__law_come_ties_ok_comeT.mono (show 3 ≤ 5 by decide)) (PySem.W.mg_of X G a21) k21 b21 (G__law_next_dead_ok_nextd.mono (show 3 ≤ 5 by decide)) (PySem.W.mg_of X G a24) k24 b24
  have G__law_right_ok_right : FnG l.prog w K mg base _ 13 f28 _ _ _ := Hw.ok_right (jm := 9) (k := 12) (m := 10) (T := [(P28, lamR), (P29, lamB)]) (by decide) F28 TB28 List.mem_cons_self (fun p hp e => by
    rcases List.mem_cons.mp hp with rfl | hp
    · rfl
    · rw [List.mem_singleton.mp hp] at e; exact (neP e).elim) TH Mk0 (fun dd => caught_by hE0) tE0_0 G__law_heard_ok_heard (PySem.W.mg_of X G a26) k26 b26 GIm bCm0 bIk B (PySem.W.mg_none_of X G z17) (PySem.W.mg_none_of X G z12) (G__law_of_ok_of2.mono (show 2 ≤ 12 by decide)) (PySem.W.mg_of X G a12) k12 b12 (G__law_take_ok_take.mono (show 1 ≤ 12 by decide)) (PySem.W.mg_of X G a11) k11 b11 (G__law_history_text_ok_htextV.mono (show 1 ≤ 12 by decide)) (PySem.W.mg_of X G a17) k17 b17 (G__law_bad_lines_ok_bad.mono (show 3 ≤ 12 by decide)) (PySem.W.mg_of X G a27) k27 b27 (G__law_history_ok_hist.mono (show 6 ≤ 12 by decide)) (PySem.W.mg_of X G a25) k25 b25
  have G__law_pot_ok_pot : FnOk l.prog w K mg base _ 1 f10 _ _ _ := Hw.ok_pot (k := 0) F10 B
  have G__law_cells_ok_cells : FnOk l.prog w K mg base _ 1 f14 _ _ _ := Hw.ok_cells (k := 0) F14 B
  exact Hw.ok_law (k := 13) (T := [(P28, lamR), (P29, lamB)]) F30 (PySem.W.mg_none_of X G z11) (G__law_take_ok_take.mono (show 1 ≤ 13 by decide)) (PySem.W.mg_of X G a11) k11 b11 G__law_are_bounds_told_ok_bounds (PySem.W.mg_of X G a29) k29 b29 G__law_right_ok_right (PySem.W.mg_of X G a28) k28 b28 (G__law_pot_ok_pot.mono (show 1 ≤ 13 by decide)) (PySem.W.mg_of X G a10) k10 b10 (G__law_cells_ok_cells.mono (show 1 ≤ 13 by decide)) (PySem.W.mg_of X G a14) k14 b14
end Hw

set_option Elab.async false
open PySem PySem.W PyProof.Rows
set_option maxRecDepth 100000 in
set_option maxHeartbeats 0 in
theorem PySem.Challenge.cw_healedwebs_k06_lines_of_no_history_holds : PySem.Challenge.rw_healedwebs_k06_lines_of_no_history.Holds := by
  w_on; o_law; k_head; (case hw => w_witness2)
  k_fill
  refine Hw.walkGT (l := PySem.Challenge.rw_healedwebs_k06_lines_of_no_history) (n := 63) (k := 14) (x := "script") rfl (by decide) rfl ⟨rfl, by decide, by decide⟩ (fun w h Y => PySem.W.km_in_of Y) ?F
  case F =>
    intro w mg fa h Y KX G hmg
    refine' Hw.all_mk KX G hmg ?q_a0 ?q_l0 ?q_c0 ?q_k0 ?q_a1 ?q_l1 ?q_c1 ?q_k1 ?q_a2 ?q_l2 ?q_c2 ?q_k2 ?q_a3 ?q_l3 ?q_c3 ?q_k3 ?q_a4 ?q_l4 ?q_c4 ?q_k4 ?q_a5 ?q_l5 ?q_c5 ?q_k5 ?q_a6 ?q_l6 ?q_c6 ?q_k6 ?q_a7 ?q_l7 ?q_c7 ?q_k7 ?q_a8 ?q_l8 ?q_c8 ?q_k8 ?q_a9 ?q_l9 ?q_c9 ?q_k9 ?q_a10 ?q_l10 ?q_c10 ?q_k10 ?q_a11 ?q_l11 ?q_c11 ?q_k11 ?q_a12 ?q_l12 ?q_c12 ?q_k12 ?q_a13 ?q_l13 ?q_c13 ?q_k13 ?q_a14 ?q_l14 ?q_c14 ?q_k14 ?q_a15 ?q_l15 ?q_c15 ?q_k15 ?q_a16 ?q_l16 ?q_c16 ?q_k16 ?q_a17 ?q_l17 ?q_c17 ?q_k17 ?q_a18 ?q_l18 ?q_c18 ?q_k18 ?q_a19 ?q_l19 ?q_c19 ?q_k19 ?q_a20 ?q_l20 ?q_c20 ?q_k20 ?q_a21 ?q_l21 ?q_c21 ?q_k21 ?q_a22 ?q_l22 ?q_c22 ?q_k22 ?q_a23 ?q_l23 ?q_c23 ?q_k23 ?q_a24 ?q_l24 ?q_c24 ?q_k24 ?q_a25 ?q_l25 ?q_c25 ?q_k25 ?q_a26 ?q_l26 ?q_c26 ?q_k26 ?q_a27 ?q_l27 ?q_c27 ?q_k27 ?q_a28 ?q_l28 ?q_c28 ?q_k28 ?q_a29 ?q_l29 ?q_c29 ?q_k29 ?q_a30 ?q_l30 ?q_c30 ?q_k30 ?q_aC ?q_aCm0 ?q_lCm0 ?q_cCm0 ?q_kCm0 ?q_iCm0 ?q_aCm1 ?q_lCm1 ?q_cCm1 ?q_kCm1 ?q_iCm1 ?q_pgC ?q_hdC ?q_poC ?q_saC ?q_mkC ?q_kCC ?q_eNC ?q_eHC ?q_eMC ?q_eYC ?q_nC_text ?q_nC_deeds ?q_nC_living ?q_nC_dead ?q_fCS_ ?q_fCN_ ?q_fCT_ ?q_fCI_ ?q_eG ?q_eT ?q_g_LONGEST_NAME ?q_g_MOST_PLACES ?q_g_MOST_DEEDS ?q_z0 ?q_z1 ?q_z2 ?q_z3 ?q_z4 ?q_z5 ?q_z6 ?q_z7 ?q_z8 ?q_z9 ?q_z10 ?q_z11 ?q_z12 ?q_z13 ?q_z14 ?q_z15 ?q_z16 ?q_z17 ?q_aCS ?q_aE0 ?q_iI ?q_lI ?q_cI ?q_kI ?q_xE0 ?q_hE0 ?q_tE0_0 ?q_tb28 ?q_hd28 ?q_ow28 ?q_tt28 ?q_tb29 ?q_hd29 ?q_ow29 ?q_tt29 ?q_neP
    (case q_a0 => k_is)
    (case q_a1 => k_is)
    (case q_a2 => k_is)
    (case q_a3 => k_is)
    (case q_a4 => k_is)
    (case q_a5 => k_is)
    (case q_a6 => k_is)
    (case q_a7 => k_is)
    (case q_a8 => k_is)
    (case q_a9 => k_is)
    (case q_a10 => k_is)
    (case q_a11 => k_is)
    (case q_a12 => k_is)
    (case q_a13 => k_is)
    (case q_a14 => k_is)
    (case q_a15 => k_is)
    (case q_a16 => k_is)
    (case q_a17 => k_is)
    (case q_a18 => k_is)
    (case q_a19 => k_is)
    (case q_a20 => k_is)
    (case q_a21 => k_is)
    (case q_a22 => k_is)
    (case q_a23 => k_is)
    (case q_a24 => k_is)
    (case q_a25 => k_is)
    (case q_a26 => k_is)
    (case q_a27 => k_is)
    (case q_a28 => k_is)
    (case q_a29 => k_is)
    (case q_a30 => k_is)
    (case q_aC => k_is)
    (case q_aCS => k_is)
    (case q_aE0 => k_is)
    (case q_aCm0 => k_is)
    (case q_aCm1 => k_is)
    (case q_iI => k_is)
    (case q_tb28 => first | exact rfl | k_is | kernel_rfl)
    (case q_tb29 => first | exact rfl | k_is | kernel_rfl)
    (case q_l0 => k_is)
    (case q_c0 => k_is)
    (case q_k0 => k_is)
    (case q_l1 => k_is)
    (case q_c1 => k_is)
    (case q_k1 => k_is)
    (case q_l2 => k_is)
    (case q_c2 => k_is)
    (case q_k2 => k_is)
    (case q_l3 => k_is)
    (case q_c3 => k_is)
    (case q_k3 => k_is)
    (case q_l4 => k_is)
    (case q_c4 => k_is)
    (case q_k4 => k_is)
    (case q_l5 => k_is)
    (case q_c5 => k_is)
    (case q_k5 => k_is)
    (case q_l6 => k_is)
    (case q_c6 => k_is)
    (case q_k6 => k_is)
    (case q_l7 => k_is)
    (case q_c7 => k_is)
    (case q_k7 => k_is)
    (case q_l8 => k_is)
    (case q_c8 => k_is)
    (case q_k8 => k_is)
    (case q_l9 => k_is)
    (case q_c9 => k_is)
    (case q_k9 => k_is)
    (case q_l10 => k_is)
    (case q_c10 => k_is)
    (case q_k10 => k_is)
    (case q_l11 => k_is)
    (case q_c11 => k_is)
    (case q_k11 => k_is)
    (case q_l12 => k_is)
    (case q_c12 => k_is)
    (case q_k12 => k_is)
    (case q_l13 => k_is)
    (case q_c13 => k_is)
    (case q_k13 => k_is)
    (case q_l14 => k_is)
    (case q_c14 => k_is)
    (case q_k14 => k_is)
    (case q_l15 => k_is)
    (case q_c15 => k_is)
    (case q_k15 => k_is)
    (case q_l16 => k_is)
    (case q_c16 => k_is)
    (case q_k16 => k_is)
    (case q_l17 => k_is)
    (case q_c17 => k_is)
    (case q_k17 => k_is)
    (case q_l18 => k_is)
    (case q_c18 => k_is)
    (case q_k18 => k_is)
    (case q_l19 => k_is)
    (case q_c19 => k_is)
    (case q_k19 => k_is)
    (case q_l20 => k_is)
    (case q_c20 => k_is)
    (case q_k20 => k_is)
    (case q_l21 => k_is)
    (case q_c21 => k_is)
    (case q_k21 => k_is)
    (case q_l22 => k_is)
    (case q_c22 => k_is)
    (case q_k22 => k_is)
    (case q_l23 => k_is)
    (case q_c23 => k_is)
    (case q_k23 => k_is)
    (case q_l24 => k_is)
    (case q_c24 => k_is)
    (case q_k24 => k_is)
    (case q_l25 => k_is)
    (case q_c25 => k_is)
    (case q_k25 => k_is)
    (case q_l26 => k_is)
    (case q_c26 => k_is)
    (case q_k26 => k_is)
    (case q_l27 => k_is)
    (case q_c27 => k_is)
    (case q_k27 => k_is)
    (case q_l28 => k_is)
    (case q_c28 => k_is)
    (case q_k28 => k_is)
    (case q_l29 => k_is)
    (case q_c29 => k_is)
    (case q_k29 => k_is)
    (case q_l30 => k_is)
    (case q_c30 => k_is)
    (case q_k30 => k_is)
    (case q_lCm0 => k_is)
    (case q_cCm0 => k_is)
    (case q_kCm0 => k_is)
    (case q_iCm0 => k_is)
    (case q_lCm1 => k_is)
    (case q_cCm1 => k_is)
    (case q_kCm1 => k_is)
    (case q_iCm1 => k_is)
    (case q_pgC => k_is)
    (case q_hdC => first | k_is | kernel_rfl | rfl | decide +kernel)
    (case q_poC => k_is)
    (case q_saC => k_is)
    (case q_mkC => k_is)
    (case q_kCC => k_is)
    (case q_eNC => k_is)
    (case q_eHC => k_is)
    (case q_eMC => k_is)
    (case q_eYC => k_is)
    (case q_nC_text => k_is)
    (case q_nC_deeds => k_is)
    (case q_nC_living => k_is)
    (case q_nC_dead => k_is)
    (case q_fCS_ => k_is)
    (case q_fCN_ => k_is)
    (case q_fCT_ => k_is)
    (case q_fCI_ => k_is)
    (case q_eG => k_is)
    (case q_eT => k_is)
    (case q_g_LONGEST_NAME => k_is)
    (case q_g_MOST_PLACES => k_is)
    (case q_g_MOST_DEEDS => k_is)
    (case q_z0 => k_is)
    (case q_z1 => k_is)
    (case q_z2 => k_is)
    (case q_z3 => k_is)
    (case q_z4 => k_is)
    (case q_z5 => k_is)
    (case q_z6 => k_is)
    (case q_z7 => k_is)
    (case q_z8 => k_is)
    (case q_z9 => k_is)
    (case q_z10 => k_is)
    (case q_z11 => k_is)
    (case q_z12 => k_is)
    (case q_z13 => k_is)
    (case q_z14 => k_is)
    (case q_z15 => k_is)
    (case q_z16 => k_is)
    (case q_z17 => k_is)
    (case q_lI => k_is)
    (case q_cI => k_is)
    (case q_kI => k_is)
    (case q_xE0 => first | k_is | kernel_rfl | rfl | decide +kernel)
    (case q_hE0 => first | k_is | kernel_rfl | rfl | decide +kernel)
    (case q_tE0_0 => first | kernel_rfl | rfl | decide +kernel)
    (case q_hd28 => first | k_is | kernel_rfl | rfl | decide +kernel)
    (case q_ow28 => first | k_is | kernel_rfl | rfl | decide +kernel)
    (case q_tt28 => exact PySem.W.km_tabs_of Y _ (by k_mem))
    (case q_hd29 => first | k_is | kernel_rfl | rfl | decide +kernel)
    (case q_ow29 => first | k_is | kernel_rfl | rfl | decide +kernel)
    (case q_tt29 => exact PySem.W.km_tabs_of Y _ (by k_mem))
    (case q_neP => decide)

import PyProof.Rows.All
import Wide.All
import OpenK.AllK
import Wide.FinOn
import HandS.ForMost
import HandS.ForExc
import HandS.DictComp
import KE.KExcIs
import HandS.ExcInit
import HandS.ExcField
import HandS.IsInst
import HandS.SetFor
import HandS.Flow
import HandS.Walk
import HandS.Evl
import HandS.Conv
import KE.GoesEnumKw
import KE.SortData
import HandS.TupLe
import Flt.Ops
import HandS.Zip
import HandS.TupAny
import PyProof.CollectIter
import KE.DataMinMax
import KE.KTupSum
import KE.GoesEnum
import HandS.OwnEq
import HandS.FStr
import HandS.Star
import HandS.WordsDict
import HandS.WideBits
import HandS.Style
import PyProof.Rows.StrJoinMade
import HandS.Lambda
import HandS.ExcCtx
import HandS.HotCalls
import HandS.Comp
import HandS.Iter
import HandS.ExcIs
import HandS.Dict
import HandS.EndTab
import PyProof.NeKinds
import HandS.TupMul
import PySem.Challenge.RW_healedwebs_k45_limits_and_numbers_refuse
set_option Elab.async false
set_option linter.all false
set_option maxRecDepth 100000
set_option maxHeartbeats 2000000
namespace Hw
open PySem L2 PyProof.Rows

/-! generic: powers of great ints, heaps but one place -/
def CPowW (i j : Int) : Prop := 0 ≤ j ∧ (Builtin.Int.intBits i : Int) * j ≤ 2 ^ 27
theorem op_powW {X : Cx} : OpR X (binaryOp .Pow) (rI CPowW fun i j => .int (i ^ j.toNat)) :=
  opI fun _ _ _ _ _ _ _ hc q => pow_int hc.1 hc.2 q
/-- all that is tracked but at a stays -/
def SameX (a : Addr) (H H' : Hp) : Prop := ∀ b o, b ≠ a → H b = some o → H' b = some o
theorem SameX.refl (a : Addr) (H : Hp) : SameX a H H := fun _ _ _ h => h
theorem SameX.trans {a : Addr} {H H1 H2 : Hp} (x : SameX a H H1) (y : SameX a H1 H2) : SameX a H H2 := fun b o hb h => y b o hb (x b o hb h)
theorem SameX.of {a : Addr} {H H' : Hp} (s : Same H H') : SameX a H H' := fun b o _ h => s b o h
theorem SameX.put {a : Addr} {H H' : Hp} {o : HO} (s : SameX a H H') : SameX a H (upd H' a o) := fun b u hb h => by
  rw [upd_ne hb]; exact s b u hb h
theorem SameX.free {a b : Addr} {H H' : Hp} (s : SameX a H H') (ha : H' a ≠ none) (h : H' b = none) : H b = none := by
  cases q : H b with
  | none => rfl
  | some o =>
    have hb : b ≠ a := fun e => ha (e ▸ h)
    rw [s b o hb q] at h; cases h
theorem same_upd {H : Hp} {p : Addr} {o : HO} (h : H p = none) : Same H (upd H p o) := fun b x e => by
  rw [upd_ne (ne_of_none e h)]; exact e
theorem sql_of {K : PySem.W.Frag} {H : Hp} {a : Addr} {xs : List V} (h : H a = some (.lst xs)) : SqL K H a xs := .inl (.inl h)
theorem sqt_of {K : PySem.W.Frag} {H : Hp} {a : Addr} {xs : List V} (h : H a = some (.tup xs)) : SqT K H a xs := .inl (.inl h)

/-! a pot: three ints, the third at most N -/
structure Pot (H : Hp) (a : Addr) (N : Nat) : Prop where
  ex : ∃ x y z : Int, H a = some (.lst [.int x, .int y, .int z]) ∧ 0 ≤ x ∧ 0 ≤ y ∧ y < 2 ^ 61 ∧ 0 ≤ z ∧ z ≤ N
theorem Pot.mono {H : Hp} {a : Addr} {N M : Nat} (p : Pot H a N) (h : N ≤ M) : Pot H a M := by
  obtain ⟨x, y, z, e, h1, h2, h3, h4, h5⟩ := p.ex
  exact ⟨x, y, z, e, h1, h2, h3, h4, by omega⟩
theorem Pot.same {H H' : Hp} {a : Addr} {N : Nat} (p : Pot H a N) (s : Same H H') : Pot H' a N := by
  obtain ⟨x, y, z, e, h⟩ := p.ex
  exact ⟨x, y, z, s _ _ e, h⟩
theorem Pot.some {H : Hp} {a : Addr} {N : Nat} (p : Pot H a N) : H a ≠ none := by
  obtain ⟨x, y, z, e, _⟩ := p.ex
  rw [e]; exact fun q => nomatch q
/-- what a place of the script is worth to a draw: any int -/
def spPot (K : PySem.W.Frag) : Sp := fun vs H Q _ => ∃ (a : Addr) (ns : List Int) (i : Int), vs = [.ref a, .int i] ∧ SqL K H a (ns.map V.int) ∧ ns.length ≤ 63 ∧ 0 ≤ i ∧ i < 1000 ∧
  ∀ p H', Same H H' → H p = none → Pot H' p 0 → Q (.ref p) H'
/-- a draw below u -/
def spTake : Sp := fun vs H Q _ => ∃ (a : Addr) (u : Int) (N : Nat), vs = [.ref a, .int u] ∧ Pot H a N ∧ N < 1000000000 ∧ 0 < u ∧ u < 1000000000 ∧
  ∀ r H', 0 ≤ r → r < u → SameX a H H' → Pot H' a (N + 1) → Q (.int r) H'
/-- one of the items of a list -/
def spOf (K : PySem.W.Frag) : Sp := fun vs H Q _ => ∃ (a b : Addr) (xs : List V) (N : Nat), vs = [.ref a, .ref b] ∧ Pot H a N ∧ N < 1000000000 ∧ SqL K H b xs ∧ a ≠ b ∧ 0 < xs.length ∧ xs.length < 1000000000 ∧
  ∀ (i : Nat) v H', xs[i]? = some v → SameX a H H' → Pot H' a (N + 1) → Q v H'
/-- the places of the script that are looked at -/
def spCells (K : PySem.W.Frag) : Sp := fun vs H Q _ => ∃ (a : Addr) (xs : List V) (m : Int), vs = [.ref a, .int m] ∧ SqL K H a xs ∧ xs.length ≤ 63 ∧ 0 < m ∧ m < 1000 ∧
  ∀ (n : Nat) p H', 0 < n → (n : Int) ≤ m → Same H H' → H p = none → H' p = some (.lst ((List.range n).map fun i : Nat => V.int (i : Int))) → Q (.ref p) H'
theorem bits_nat {i : Int} {n : Nat} (h : i.natAbs < 2 ^ n) : Builtin.Int.intBits i ≤ n := intBits_le h
end Hw

set_option Elab.async false
set_option linter.all false
set_option maxRecDepth 100000
set_option maxHeartbeats 4000000
namespace Hw
open PySem L2 PyProof.Rows
/-! defs that know that no repr runs around them -/
structure RoomG (k : Nat) (A : Around) : Prop where
  r : Room k A
  g : A.guards = some []
theorem RoomG.mono {j k : Nat} {A : Around} (r : RoomG k A) (h : j ≤ k) : RoomG j A := ⟨r.r.mono h, r.g⟩
theorem RoomG.deeper {k : Nat} {A : Around} (r : RoomG (k + 1) A) (env : Env) : RoomG k (A.deeper env) := ⟨r.r.deeper env, r.g⟩
theorem RoomG.make {k : Nat} {A : Around} (r : RoomG (k + 1) A) (C : Addr) (us : List Value) (kw : List (Str × Value)) : RoomG k (A.under (.builtin "type.__call__" ⟨.ref C :: us, kw⟩)) :=
  ⟨r.r.make C us kw, by
    have e : (A.under (.builtin "type.__call__" ⟨.ref C :: us, kw⟩)).guards = A.guards := by
      first | rfl | simp [Around.under, Code.guards, pushGuards, Code.isGuard, guardIds]
    rw [e]; exact r.g⟩
section
variable (P : Program) (w : World) (K : PySem.W.Frag) (mg : Str → Option Value) (base : Heap)
structure FnG (CX : CXT) (k : Nat) (f : Addr) (fd : FuncData) (ps : List Str) (sp : Sp) : Prop where
  len : ∀ vs H Q E, sp vs H Q E → vs.length = ps.length
  run : ∀ (A : Around) (outer : List Env) (s : Shared) (H : Hp) (args : Args) (us : List Value) (vs : List V) (Q : VK) (E : XK), RoomG k A → Env0 P w K mg base A outer s H →
    BindsTo s fd args (ps.zip us) → Vals vs us → sp vs H Q E → codeAny (model P w) A (.call (.ref f) args) (CR CX outer P w H s Q E) s
end
section
variable {P : Program} {w : World} {K : PySem.W.Frag} {mg : Str → Option Value} {base : Heap} {CX : CXT} {k : Nat} {f : Addr} {fd : FuncData} {ps : List Str} {sp sp' : Sp}
theorem toG (F : FnOk P w K mg base CX k f fd ps sp) : FnG P w K mg base CX k f fd ps sp := ⟨F.len, fun A o s H a us vs Q E hr => F.run A o s H a us vs Q E hr.r⟩
theorem FnG.mono {j : Nat} (F : FnG P w K mg base CX j f fd ps sp) (h : j ≤ k) : FnG P w K mg base CX k f fd ps sp := ⟨F.len, fun A o s H a us vs Q E hr => F.run A o s H a us vs Q E (hr.mono h)⟩
theorem FnG.imp (F : FnG P w K mg base CX k f fd ps sp) (h : ∀ vs H Q E, sp' vs H Q E → sp vs H Q E) : FnG P w K mg base CX k f fd ps sp' :=
  ⟨fun vs H Q E q => F.len vs H Q E (h _ _ _ _ q), fun A o s H a us vs Q E hr he hb hv hs => F.run A o s H a us vs Q E hr he hb hv (h _ _ _ _ hs)⟩
end
section
variable {X : Cx} {CX : CXT} {k : Nat} {f C : Addr} {fd : FuncData} {ps : List Str} {sp : Sp} {dvs : List V} {ds : List Value} {E : XK} {x m : Str} {p pos apos : Pos} {e o : Expr} {es : List Expr} {ta : TE} {t : TA}
theorem runG {pins : List (Addr × Obj)} {σ : L2.St} {H : Hp} {s : Shared} {Q : VK} {us : List Value} {vs : List V} (F : FnG X.prog X.w X.K X.mg X.base CX k f fd ps sp) (hr : RoomG k X.A) (hb : Binds X.K fd ps ds) (hd : Vals dvs ds)
    (hx : Passes CX X E) (I : Inv X pins σ H s) (r : Vals vs us) (h : sp (vs ++ dvs) H Q E) : wpAny (model X.prog X.w) X.A (call (.ref f) us) (EP X pins σ Q) X.xe s := by
  have rr : Vals (vs ++ dvs) (us ++ ds) := r.append hd
  have ll : (us ++ ds).length = ps.length := rr.length.symm.trans (F.len _ _ _ _ h)
  refine wpAny_call (codeAny_mono (F.run X.A X.stack s H ⟨us, []⟩ (us ++ ds) (vs ++ dvs) Q E hr I.env0 (hb s us I.kIn ll) rr h) fun r' s' hq => ?_)
  match r', hq with
  | .error er, hq => exact hx pins σ H s er s' I hq
  | .ok (.ret u), hq => exact I.after hq
  | .ok .next, hq => exact False.elim hq
  | .ok .brk, hq => exact False.elim hq
  | .ok .cont, hq => exact False.elim hq
theorem pe_callG (F : FnG X.prog X.w X.K X.mg X.base CX k f fd ps sp) (hr : RoomG k X.A) (hg : Gl X x) (hm : X.mg x = some (.ref f)) (hk : PySem.W.keepIn X.K (.ref f) = true) (hb : Binds X.K fd ps ds) (hd : Vals dvs ds)
    (hx : Passes CX X E) (ha : PA X (e :: es) t) (hdb : (x == ("__debug__" : Str)) = false := by decide) (he : starEach (e :: es) X.env = (false, eval e X.env) :: starEach es X.env := by rfl)
    (hpl : (backTo pos (starEach es X.env)).any (·.1) = false := by rfl) : PE X (.Call (.Name x p) (e :: es) [] pos) (tCall sp dvs E t) :=
  ⟨fun pins s σ H Q I h => wpAny_Call_Name_kw (ld_glob I hg hm (PySem.W.callWith_K (h₀ := X.base) I.ok.mod.kin hk (thn (ha.run pos pins s σ H _ I h) fun us s1 ⟨vs, H1, I1, r, q⟩ => ⟨I1.kIn, runG F hr hb hd hx I1 r q⟩) he hpl) hdb)⟩
theorem pe_call0G (F : FnG X.prog X.w X.K X.mg X.base CX k f fd ps sp) (hr : RoomG k X.A) (hg : Gl X x) (hm : X.mg x = some (.ref f)) (hk : PySem.W.keepIn X.K (.ref f) = true) (hb : Binds X.K fd ps ds) (hd : Vals dvs ds)
    (hx : Passes CX X E) (hdb : (x == ("__debug__" : Str)) = false := by decide) : PE X (.Call (.Name x p) [] [] pos) (tCall sp dvs E tNil) :=
  ⟨fun pins s σ H Q I h => wpAny_Call_Name_kw (ld_glob I hg hm (PySem.W.callWith_K0 I.kIn hk (runG (us := []) F hr hb hd hx I .nil h)) hdb)⟩
end
/-- a def by its body -/
theorem fnG_of {CX : CXT} {P : Program} {w : World} {K : PySem.W.Frag} {mg : Str → Option Value} {base : Heap} {k : Nat} {f : Addr} {name qual : Str} {params : Arguments} {body : List Stmt} {scope : Scope} {dV kV doc pm cdv ct oc : Value} {an od : Option Addr}
    {osl : Array (Option Value)} {N ps : List Str} {sp : Sp} (lk : K.lookup f = some ⟨oc, od, .func (PySem.W.fnOf name qual params body scope dV kV doc pm an cdv ct), osl⟩) (hcd : PySem.W.codeIn K cdv qual = true)
    (S : FnScope N ps scope) (len : ∀ vs H Q E, sp vs H Q E → vs.length = ps.length)
    (hbody : ∀ (A : Around) (outer : List Env) (s : Shared) (H : Hp) (vs : List V) (Q : VK) (E : XK), RoomG k (A.deeper (envOfC qual scope s.heap.objs.size f cdv)) → sp vs H Q E →
      ∃ t, PSs (cxOf CX P w K mg base N qual scope f cdv A outer s H E) body t ∧ t { nx := fun _ H' => Q .non H', rt := Q } (start N vs) H) :
    FnG P w K mg base CX (k + 1) f (PySem.W.fnOf name qual params body scope dV kV doc pm an cdv ct) ps sp := by
  refine ⟨len, fun A outer s H args us vs Q E hr e0 hb r hsp => ?_⟩
  have nl := len _ _ _ _ hsp
  have kin : K.In s.heap := e0.mod.kin.keeps fun b o e => (e0.bs b o e).1
  have nolim : s.heap.NoLimit := e0.mod.nolimit.keeps fun b o e => (e0.bs b o e).1
  have kinds : ∀ y ∈ ps.zip us, scope.names.lookup y.1 = some .local ∨ (scope.names.lookup y.1 = some .cell ∧ ((cellsFrom (s.heap.objs.size + 1) scope.names []).lookup y.1).isSome = true) := by
    rintro ⟨n, v⟩ hy
    rcases S.par n (List.of_mem_zip hy).1 with q | q
    · left; exact q
    · right; exact ⟨q, PySem.W.cellsFrom_some _ _ _ (.inl q)⟩
  refine codeAny_call_function hr.r.depth (kin _ _ lk) rfl S.co S.gen rfl (PySem.W.codeRec_of kin hcd) (hb _ _ _ _ ?_)
  refine wpAny_newFunctionEnv_cells S.kind kinds fun env he s1 x => ?_
  subst he
  refine ⟨nolim.keeps x.toInCall.keep, codeAny_func ?_⟩
  obtain ⟨t, ht, hq⟩ := hbody A outer s H vs Q E (hr.deeper _) hsp
  have I0 : Inv (cxOf CX P w K mg base N qual scope f cdv A outer s H E) [] (start N vs) H s1 := inv_start S hr.r.hd e0 nl r x
  refine wpAny_mono (ht.run [] s1 (start N vs) H _ I0 hq) (fun fl s' hs => ?_) fun _ _ hs => hs
  have done : ∀ {σ' : L2.St} {H' : Hp} {v : V} {u : Value}, Inv (cxOf CX P w K mg base N qual scope f cdv A outer s H E) [] σ' H' s' → RelV v u → Q v H' → CE outer P w H s Q u s' :=
    fun {_ H' v _} J rv q => ⟨v, H', J.os, J.bare, J.base, J.hok, rv, q⟩
  match fl, hs with
  | .ret u, ⟨v, σ', H', J, rv, q⟩ => exact done J rv q
  | .next, ⟨σ', H', J, q⟩ => exact done (v := V.non) (u := Value.none) J rfl q
  | .brk, ⟨_, _, _, q⟩ => exact False.elim q
  | .cont, ⟨_, _, _, q⟩ => exact False.elim q
section
variable {P : Program} {w : World} {K : PySem.W.Frag} {mg : Str → Option Value} {base : Heap}
theorem funG {x qual : Str} {st : Stmt} {f : Addr} {fd : FuncData} {N ps : List Str} {k : Nat} {sp : Sp} (F : Fun K x qual st f fd) (S : FnScope N ps (defScope st)) (len : ∀ vs H Q E, sp vs H Q E → vs.length = ps.length)
    (hbody : ∀ (cdv : Value) (A : Around) (outer : List Env) (s : Shared) (H : Hp) (vs : List V) (Q : VK) (E : XK), RoomG k (A.deeper (envOfC qual (defScope st) s.heap.objs.size f cdv)) → sp vs H Q E →
      ∃ t, PSs (cxOf CX0 P w K mg base N qual (defScope st) f cdv A outer s H E).nox (defBody st) t ∧ t { nx := fun _ H' => Q .non H', rt := Q } (start N vs) H) : FnG P w K mg base CX0 (k + 1) f fd ps sp := by
  obtain ⟨oc, od, kV, doc, pm, an, cdv, ct, osl, rfl, lk, hcd⟩ := F.ex
  exact fnG_of lk hcd S len fun A outer s H vs Q E hr hsp => by
    obtain ⟨t, h, q⟩ := hbody cdv A outer s H vs Q E hr hsp
    exact ⟨t, h.nox, q⟩
theorem funGX {x qual : Str} {st : Stmt} {f : Addr} {fd : FuncData} {N ps : List Str} {k : Nat} {sp : Sp} (F : Fun K x qual st f fd) (S : FnScope N ps (defScope st)) (len : ∀ vs H Q E, sp vs H Q E → vs.length = ps.length)
    (hbody : ∀ (cdv : Value) (A : Around) (outer : List Env) (s : Shared) (H : Hp) (vs : List V) (Q : VK) (E : XK), RoomG k (A.deeper (envOfC qual (defScope st) s.heap.objs.size f cdv)) → sp vs H Q E →
      ∃ t, PSs (cxOf (L2.CX P w) P w K mg base N qual (defScope st) f cdv A outer s H E) (defBody st) t ∧ t { nx := fun _ H' => Q .non H', rt := Q } (start N vs) H) : FnG P w K mg base (L2.CX P w) (k + 1) f fd ps sp := by
  obtain ⟨oc, od, kV, doc, pm, an, cdv, ct, osl, rfl, lk, hcd⟩ := F.ex
  exact fnG_of lk hcd S len fun A outer s H vs Q E hr hsp => hbody cdv A outer s H vs Q E hr hsp
end
/-- the law's call -/
theorem lawG {P : Program} {w : World} {K : PySem.W.Frag} {mg mb : Str → Option Value} {k : Nat} {fa a : Addr} {fd : FuncData} {x : Str} {sp : Sp} {s1 : Shared} {vs : List Value} {ns : List Int}
    (KX : K.In s1.heap) (hns : s1.heap.Ns mainGlobals mg) (hb : s1.heap.Ns builtinsNs mb) (hbb : ∀ x : Str, x ≠ "__name__" → mb x = bootBuiltins x) (hlim : s1.heap.NoLimit) (hgen : s1.gens = #[])
    (ha : s1.heap.get? a = some { cls := .type "list", data := .seq vs.toArray }) (hi : IntsAre vs ns) (hl : ns.length ≤ sizeLine) (hr : Room k callerA)
    (F : ∀ base : Heap, K.In base → base.Ns mainGlobals mg → FnG P w K mg base CX0 k fa fd [x] sp) (hbind : ∀ (s : Shared) (u : Value), BindsTo s fd ⟨[u], []⟩ [(x, u)])
    (hsp : ∀ H : Hp, Only H → SqL K H a (ns.map V.int) → sp [.ref a] H (fun v _ => v = .bl true) E0) :
    codeAny (model P w) callerA (.call (.ref fa) ⟨[.ref a], []⟩) (fun r s' => r = .ok (.ret (.bool true)) ∧ OldK s1.heap s'.heap ∧ s'.os = s1.os ∧ AllBare s'.gens) s1 := by
  have rv := vals_ints hi
  have core : ∀ H : Hp, Only H → SqL K H a (ns.map V.int) → HOk P w H s1.heap → (∀ b, H b ≠ none → b = a) → (H a ≠ none → K.lookup a = none) →
      codeAny (model P w) callerA (.call (.ref fa) ⟨[.ref a], []⟩) (fun r s' => r = .ok (.ret (.bool true)) ∧ OldK s1.heap s'.heap ∧ s'.os = s1.os ∧ AllBare s'.gens) s1 := by
    intro H hO hS hok onlyA notK
    have hid : ∀ {b : Addr} {o : Obj}, s1.heap.get? b = some o → H b = none → (hidT s1.heap H).get? b = some o := fun e n => hidT_get e n
    have free : ∀ {b : Addr}, (b = a → False) → H b = none := fun {b} h => by
      cases q : H b with
      | none => rfl
      | some u => exact (h (onlyA b (by rw [q]; simp))).elim
    have nsH : ∀ {b : Addr} {m : Str → Option Value}, s1.heap.Ns b m → (hidT s1.heap H).Ns b m := fun {b m} ⟨o, es, ep, e, d, r⟩ => by
      refine ⟨o, es, ep, hid e (free fun z => ?_), d, r⟩
      subst z
      rw [ha] at e
      have e' := Option.some.inj e
      rw [← e'] at d
      cases d
    have kinH : K.In (hidT s1.heap H) := fun b o e => by
      refine hid (KX b o e) ?_
      by_cases hba : b = a
      · subst hba
        cases q : H b with
        | none => rfl
        | some u =>
          have z := notK (by rw [q]; simp)
          rw [e] at z; cases z
      · exact free hba
    have modH : Mod K mg (hidT s1.heap H) := ⟨kinH, nsH hns, ⟨mb, nsH hb, hbb⟩, let ⟨mc, h1, h2⟩ := hlim; ⟨mc, nsH h1, h2⟩⟩
    have env0 : Env0 P w K mg (hidT s1.heap H) callerA [] s1 H := ⟨rfl, modH, fun b o e => of_hidT e, Nat.le_of_eq (hidT_size _ _), trivial, fun b hb => (by cases hb), hok, .of_eq hgen⟩
    refine codeAny_mono ((F _ kinH (nsH hns)).run callerA [] s1 H ⟨[.ref a], []⟩ [.ref a] [.ref a] _ _ ⟨hr, rfl⟩ env0 (hbind s1 (.ref a)) (.cons rfl .nil) (hsp H hO hS)) fun r s' h => ?_
    match r, h with
    | .error e, h => exact False.elim h
    | .ok .next, h => exact False.elim h
    | .ok .brk, h => exact False.elim h
    | .ok .cont, h => exact False.elim h
    | .ok (.ret u), h =>
      obtain ⟨v, H', os, bare, un, hok', r', q⟩ := h
      obtain rfl : v = .bl true := q
      obtain rfl : u = Value.bool true := r'
      refine ⟨rfl, OldK.of_keep fun b o e => ?_, os, bare⟩
      cases q : H b with
      | none => exact un.keep b o e q (by intro z; cases z) (by intro z; cases z)
      | some u =>
        obtain ⟨ob, xs, z⟩ : ∃ o xs, H b = some (.frz o (.lst xs)) := (hO b).resolve_left (by rw [q]; simp)
        have e1 := (hok b _ z).1
        have e2 := (hok' b _ (un.frzs b ob _ z)).1
        rw [e] at e1
        cases e1
        exact e2
  cases hk : K.lookup a with
  | some o =>
    have e := KX a o hk
    rw [ha] at e
    cases e
    exact core (fun _ => none) (fun _ => .inl rfl) (.inr ⟨_, vs.toArray, _, hk, rfl, rfl, rfl, by rw [List.size_toArray, hi.length]; exact hl, by simpa using rv⟩) (fun b u z => by cases (show (none : Option HO) = some u from z)) (fun b z => absurd rfl z) fun z => absurd rfl z
  | none =>
    have at_ : ∀ {b : Addr}, b ≠ a → (if b = a then some (HO.frz { cls := .type "list", data := .seq vs.toArray } (.lst (ns.map V.int))) else none) = none := fun h => if_neg h
    refine core (fun b => if b = a then some (.frz { cls := .type "list", data := .seq vs.toArray } (.lst (ns.map V.int))) else none) (fun b => ?_) (.inl (.inr ⟨{ cls := .type "list", data := .seq vs.toArray }, if_pos rfl⟩)) (fun b u z => ?_) (fun b z => ?_) fun _ => hk
    · by_cases hba : b = a
      · exact .inr ⟨_, _, if_pos hba⟩
      · exact .inl (at_ hba)
    · by_cases hba : b = a
      · subst hba
        have z' := (if_pos rfl).symm.trans z
        cases z'
        exact ⟨ha, by rw [List.length_map]; exact hl, vs, _, rv, ha⟩
      · have z' := (at_ hba).symm.trans z
        cases z'
    · by_cases hba : b = a
      · exact hba
      · exact absurd (at_ hba) z
theorem walkG {l : PySem.W.OpenLaw} {n k : Nat} {q : Program} {loose : List Str} {XP : (Str → Option Value) → Heap → Prop} {YP : World → Heap → Prop} {d : DefRec} {K : Params → PySem.W.Frag} {sp : World → Sp} {x : Str}
    (hn : l.most = some n) (hn2 : n ≤ sizeLine) (hdf : d.params.defaults = []) (hr : Room k callerA) (hY : ∀ (w : World) (h : Heap), YP w h → (K w.params).In h)
    (F : ∀ (w : World) (mg : Str → Option Value) (fa : Addr) (h : Heap), (K w.params).In h → h.Ns mainGlobals mg → mg d.name = some (.ref fa) →
      ∃ fd : FuncData, (∀ (s : Shared) (u : Value), BindsTo s fd ⟨[u], []⟩ [(x, u)]) ∧ ∀ base : Heap, (K w.params).In base → base.Ns mainGlobals mg → FnG l.prog w (K w.params) mg base CX0 k fa fd [x] (sp w))
    (hsp : ∀ (w : World) (H : Hp) (a : Addr) (ns : List Int), ns.length ≤ n → Only H → SqL (K w.params) H a (ns.map V.int) → sp w [.ref a] H (fun v _ => v = .bl true) E0) :
    PySem.W.WalkO q loose XP YP l.row.toRowW d [] (fun f vs => PySem.call f vs) := by
  refine Att.attach_call hn hdf fun w s0 s1 mg mb fa o pm cd doc a vs ns G Y ho hd hcd hmg hobj hints hlen hgen => ?_
  have KX := hY w _ Y
  obtain ⟨fd, hb, hF⟩ := F w mg fa _ KX G.T.g hmg
  exact lawG KX G.T.g G.T.b G.T.builtins G.T.nolimit hgen hobj hints (Nat.le_trans hlen hn2) hr hF hb (fun H hO hS => hsp w H a ns hlen hO hS)
end Hw

set_option Elab.async false
set_option linter.all false
set_option maxRecDepth 100000
set_option maxHeartbeats 4000000
namespace Hw
open PySem L2 PyProof.Rows
/-! repr of data -/
mutual
theorem Dp_noDict {K : PySem.W.Frag} {H : Hp} : ∀ (d : PyData) (v : V), Dp K H v d → d.hasDict = false
  | .none, _, _ => by simp only [PyData.hasDict]
  | .bool _, _, _ => by simp only [PyData.hasDict]
  | .int _, _, _ => by simp only [PyData.hasDict]
  | .str _, _, _ => by simp only [PyData.hasDict]
  | .list ds, _, h => by
    cases h with
    | lst _ ha => simp only [PyData.hasDict]; exact DpAll_noDict ds _ ha
  | .tuple ds, _, h => by
    cases h with
    | tup _ ha => simp only [PyData.hasDict]; exact DpAll_noDict ds _ ha
  | .dict _, _, h => nomatch h
theorem DpAll_noDict {K : PySem.W.Frag} {H : Hp} : ∀ (ds : List PyData) (vs : List V), DpAll K H vs ds → PyData.hasDictAll ds = false
  | [], _, _ => by simp only [PyData.hasDictAll]
  | d :: ds, _, h => by
    cases h with
    | cons h1 h2 =>
      simp only [PyData.hasDictAll]
      rw [Dp_noDict d _ h1, DpAll_noDict ds _ h2]; rfl
end
/-- what is flat, as data -/
def flatPD : V → Option PyData
  | .non => some .none
  | .bl b => some (.bool b)
  | .int i => some (.int i)
  | .str x => some (.str x)
  | _ => none
def keyPD : Key → PyData
  | .inl i => .int i
  | .inr x => .str x
/-- a dict with flat values, as data -/
def DpK (H : Hp) (v : V) (d : PyData) : Prop := ∃ (a : Addr) (kvs : List (Key × V)) (ds : List (PyData × PyData)), v = .ref a ∧ H a = some (.dK kvs) ∧ d = .dict ds ∧
  Paired (fun p q => q.1 = keyPD p.1 ∧ flatPD p.2 = some q.2) kvs ds
def rRepr (K : PySem.W.Frag) : List V → Hp → VK → Prop := fun xs H Q => ∃ (x : V) (d : PyData), xs = [x] ∧ (Dp K H x d ∨ DpK H x d) ∧ d.showable = true ∧ d.depth ≤ 60 ∧ d.shown.length ≤ sizeLine ∧ Q (.str d.shown) H
theorem flat_reads {h : Heap} {v : V} {d : PyData} {u : Value} (e : flatPD v = some d) (r : RelV v u) : Reads h u d [] := by
  cases v with
  | non => cases e; cases r; exact .none
  | bl b => cases e; cases r; exact .bool b
  | int i => cases e; obtain ⟨t, rfl⟩ := r; exact .int i t
  | str x => cases e; obtain ⟨t, rfl⟩ := r; exact .str x t
  | byt b => cases e
  | flt b => cases e
  | ref a => cases e
  | ty n => cases e
theorem key_reads {P : Program} {w : World} {h : Heap} {k : Key} {u : Value} (e : (mixKind P w).is k u = true) : Reads h u (keyPD k) [] := by
  rcases keyIs_shape e with ⟨i, t, rfl, rfl⟩ | ⟨x, t, rfl, rfl⟩
  · exact .int i t
  · exact .str x t
theorem dict_reads {P : Program} {w : World} {h : Heap} : ∀ {kvs : List (Key × V)} {ds : List (PyData × PyData)} {vs : List (Key × Value)} {es : List DictEntry}, Paired (fun p q => q.1 = keyPD p.1 ∧ flatPD p.2 = some q.2) kvs ds → KV kvs vs → PySem.Pairs (mixKind P w) es vs →
    ReadsAll h (es.map (·.key)) (ds.map (·.1)) [] ∧ ReadsAll h (es.map (·.val)) (ds.map (·.2)) []
  | [], _, _, _, .nil, kv, pr => by cases kv; cases pr; exact ⟨.nil, .nil⟩
  | p :: kvs, q :: ds, _, _, .cons a t, kv, pr => by
    cases kv with
    | cons k1 k2 =>
      cases pr with
      | cons p1 p2 p3 =>
        obtain ⟨r1, r2⟩ := dict_reads t k2 p3
        obtain ⟨e1, e2⟩ := a
        refine ⟨?_, ?_⟩
        · have z : ReadsAll h _ _ ([] ++ []) := .cons (key_reads (h := h) p1) r1
          rw [← k1.1, ← e1] at z
          exact z
        · have y := flat_reads (h := h) e2 k1.2
          rw [← p2] at y
          exact (ReadsAll.cons y r2 : ReadsAll h _ _ ([] ++ []))
section
variable {X : Cx}
theorem call_repr (hg : X.A.guards = some []) (hu : X.A.units + 100 < cLine) : CallR X (.builtin "repr") (rRepr X.K) := by
  intro pins s σ H xs us Q I r h
  obtain ⟨x, d, rfl, hd, hs, hdp, hz, q⟩ := h
  obtain ⟨u, w', rfl, ru, rw'⟩ : ∃ u w', us = [u] ∧ RelV x u ∧ w' = us := by
    cases r with
    | cons a t => cases t; exact ⟨_, _, rfl, a, rfl⟩
  have fin : ∀ h' (tk : Tok) (tk' : Nat), (∀ b o, s.heap.get? b = some o → h'.get? b = some o) → EP X pins σ Q (.str d.shown tk) { s with heap := h', toks := tk' } := fun h' tk tk' k => ⟨.str d.shown, H, I.kept (t' := tk') k, ⟨tk, rfl⟩, q⟩
  have big : ∀ {a : Addr} {as : List Addr}, Reads s.heap (.ref a) d as → (d.hasDict = true → sysModules ∉ as) → wpAny (model X.prog X.w) X.A (call (.builtin "repr") [.ref a]) (EP X pins σ Q) X.xe s := fun {a as} r1 hm =>
    repr_of_reads' (h₀ := s.heap) r1 hs hm hg (by omega) (fun _ _ e => e) (fun h' u tk k => fin h' u tk k) hz
  rcases hd with hd | ⟨a, kvs, ds, rfl, ha, rfl, hp⟩
  · have nd := Dp_noDict d x hd
    obtain ⟨as, r1⟩ := Dp.reads I d x u hd ru
    cases hd with
    | non => cases ru; exact P.repr_of_none (fin s.heap _ _ fun _ _ e => e)
    | bl b =>
      cases ru
      refine P.repr_of_bool ?_
      have z := fin s.heap s.toks (s.toks + 1) fun _ _ e => e
      simpa only [PyData.shown] using z
    | int i =>
      obtain ⟨t, rfl⟩ := ru
      refine P.repr_of_int (by simpa only [PyData.showable, decide_eq_true_eq] using hs) ?_
      have z := fin s.heap s.toks (s.toks + 1) fun _ _ e => e
      simpa only [PyData.shown] using z
    | str y =>
      obtain ⟨t, rfl⟩ := ru
      refine P.repr_of_str ?_ (by simpa only [PyData.shown] using hz)
      have z := fin s.heap s.toks (s.toks + 1) fun _ _ e => e
      simpa only [PyData.shown] using z
    | lst h1 h2 => cases ru; exact big r1 (by rw [nd]; exact fun z => nomatch z)
    | tup h1 h2 => cases ru; exact big r1 (by rw [nd]; exact fun z => nomatch z)
  · cases ru
    obtain ⟨hl, hsys, vs, kv, o, es, ep, ho, hex, hdat, _, hpr, _⟩ := dk_of I.hok ha
    obtain ⟨r1, r2⟩ := dict_reads (h := s.heap) hp kv hpr
    refine big (.dict ho hex.1 hdat r1 r2) fun _ hm => ?_
    have e : sysModules = a := by simpa using hm
    rw [← e] at hsys
    simp at hsys
end
end Hw

set_option Elab.async false
set_option linter.all false
set_option maxRecDepth 100000
set_option maxHeartbeats 4000000
namespace Hw
open PySem L2 PyProof.Rows
/-! an exception held as a value: the object at a, its own dict at d -/
def XAt (H : Hp) (a C d : Addr) (v : V) : Prop := H a = some (exo a C (some d)) ∧ H d = some (exd d [("value", v)])
theorem XAt.same {H H' : Hp} {a C d : Addr} {v : V} (x : XAt H a C d v) (s : Same H H') : XAt H' a C d v := ⟨s _ _ x.1, s _ _ x.2⟩
theorem XAt.sameX {H H' : Hp} {a C d p : Addr} {v : V} (x : XAt H a C d v) (s : SameX p H H') (ha : a ≠ p) (hd : d ≠ p) : XAt H' a C d v := ⟨s _ _ ha x.1, s _ _ hd x.2⟩
/-- what the written part says of such a class -/
structure XCls (K : PySem.W.Frag) (fI C : Addr) : Prop where
  o : OexC K C
  x : XfC K C
  noV : PySem.W.findIn K (.ref C) "value" = some none
  ini : PySem.W.findIn K (.ref C) "__init__" = some (some (.ref fI))
  tI : PySem.W.typeIn K (.ref fI) = some (.type "function")
  cl : (PySem.W.clsIn K C).isSome = true
  ha : PySem.W.findIn K (.ref C) "__class__" = some (some (.builtin "object.__class__"))
  hn : PySem.W.specialIn K (.builtin "object.__class__") "__get__" = some (some (.builtin "getset_descriptor.__get__"))
  ht : PySem.W.takesIn K (.builtin "object.__class__") = some true
  hm : PySem.W.mroIn K C (.type "object") = some true
def oexB (K : PySem.W.Frag) (C : Addr) : Bool := match K.lookup C with
  | some ⟨.type "type", _, .cls cd, sl⟩ => (match cd.mro, sl.toList with
    | .ref C' :: bm, [_, _, _, _, some (.builtin n), _] => C' == C && (n == "ValueError.__new__" && (!cd.hasDel && (cd.hasDict && PySem.HandSPX.refsVE bm)))
    | _, _ => false)
  | _ => false
theorem oexB_ok {K : PySem.W.Frag} {C : Addr} (q : oexB K C = true) :
    ∃ nm q N bs bm sn sub ab col dd k0 k1 k2 k3 k5, K.lookup C = some (excClassObj nm q C N bs bm true sn sub ab col dd k0 k1 k2 k3 k5 "ValueError.__new__") ∧ PySem.HandSPX.refsVE bm = true := by
  unfold oexB at q
  split at q
  · rename_i dd cd sl ho
    split at q
    · rename_i C' bm k0 k1 k2 k3 n k5 hm hs
      simp only [Bool.and_eq_true, beq_iff_eq, Bool.not_eq_true'] at q
      obtain ⟨rfl, rfl, hdel, hdi, hve⟩ := q
      obtain ⟨nm, bs, mro, ns, qn, hd, sn, sub, ab, col, del⟩ := cd
      dsimp only at hm hdel hdi
      subst hm hdel hdi
      have hsl : sl = #[k0, k1, k2, k3, some (.builtin "ValueError.__new__"), k5] := by
        obtain ⟨l⟩ := sl
        simp only at hs
        rw [hs]
      subst hsl
      exact ⟨nm, qn, ns, bs, bm, sn, sub, ab, col, dd, k0, k1, k2, k3, k5, ho, hve⟩
    · cases q
  · cases q
def xclsB (K : PySem.W.Frag) (fI C : Addr) : Bool :=
  oexB K C && (decide (PySem.W.findIn K (.ref C) "__setattr__" = some (some (.builtin "object.__setattr__"))) && (decide (PySem.W.subIn K (.ref C) (.type "BaseException") = some true) && (decide (PySem.W.typeIn K (.ref C) = some (.type "type")) && (PySem.W.keepIn K (.ref C) &&
  (xfB K C && (decide (PySem.W.findIn K (.ref C) "value" = some none) && (decide (PySem.W.findIn K (.ref C) "__init__" = some (some (.ref fI))) && (decide (PySem.W.typeIn K (.ref fI) = some (.type "function")) && ((PySem.W.clsIn K C).isSome &&
  (decide (PySem.W.findIn K (.ref C) "__class__" = some (some (.builtin "object.__class__"))) && (decide (PySem.W.specialIn K (.builtin "object.__class__") "__get__" = some (some (.builtin "getset_descriptor.__get__"))) &&
  (decide (PySem.W.takesIn K (.builtin "object.__class__") = some true) && decide (PySem.W.mroIn K C (.type "object") = some true)))))))))))))
theorem xclsB_ok {K : PySem.W.Frag} {fI C : Addr} (h : xclsB K fI C = true) : XCls K fI C := by
  unfold xclsB at h
  simp only [Bool.and_eq_true, decide_eq_true_eq] at h
  obtain ⟨a1, a2, a3, a4, a5, a6, a7, a8, a9, b1, b2, b3, b4, b5⟩ := h
  exact ⟨⟨oexB_ok a1, a2, a3, a4, a5⟩, xfB_ok a6, a7, a8, a9, b1, b2, b3, b4, b5⟩
/-- the promise of __init__(self, value) -/
def spIniX (K : PySem.W.Frag) : Sp := fun vs H Q _ => ∃ (a C fI : Addr) (v : V), vs = [.ref a, v] ∧ XCls K fI C ∧ H a = some (exo a C none) ∧
  ∀ dx, H dx = none → dx ≠ a → Q .non (upd (upd H dx (exd dx [("value", v)])) a (exo a C (some dx)))
/-- C(e): a new exception -/
def tMkX (C : Addr) (ta : TA) : TE := fun σ H Q => ta σ H fun vs H1 => ∃ v, vs = [v] ∧ ∀ a d, H1 a = none → H1 d = none → d ≠ a → Q (.ref a) (upd (upd H1 d (exd d [("value", v)])) a (exo a C (some d)))
/-- x.value of a held exception -/
def tXv (K : PySem.W.Frag) (n : Str) (te : TE) : TE := fun σ H Q => te σ H fun x H1 => ∃ (a C d fI : Addr) (v : V), x = .ref a ∧ n = "value" ∧ XCls K fI C ∧ XAt H1 a C d v ∧ Q v H1
/-- isinstance(x, c) of a held exception -/
def rIsX (K : PySem.W.Frag) : List V → Hp → VK → Prop := fun xs H Q => ∃ (a C d fI : Addr) (v c : V) (u : Value) (b : Bool), xs = [.ref a, c] ∧ ClsV c u ∧ XCls K fI C ∧ XAt H a C d v ∧ PySem.W.kitOne K (.ref C) u = some b ∧ Q (.bl b) H
section
variable {X : Cx}
theorem pe_mkX {x : Str} {C fI : Addr} {k : Nat} {fd : FuncData} {e : Expr} {es : List Expr} {ta : TA} {p pos : Pos} (T : XCls X.K fI C) (F1 : FnOk X.prog X.w X.K X.mg X.base CX0 k fI fd ["self", "value"] (spIniX X.K)) (hr : Room (k + 1) X.A) (hb : Binds X.K fd ["self", "value"] [])
    (hg : Gl X x) (hm : X.mg x = some (.ref C)) (ha : PA X (e :: es) ta) (hdb : (x == ("__debug__" : Str)) = false := by decide) (hs : starEach (e :: es) X.env = (false, eval e X.env) :: starEach es X.env := by rfl) (hpl : (backTo pos (starEach es X.env)).any (·.1) = false := by rfl) :
    PE X (.Call (.Name x p) (e :: es) [] pos) (tMkX C ta) := by
  refine ⟨fun pins s σ H Q I h => ?_⟩
  obtain ⟨nm, q, N, bs, bm, sn, sub, ab, col, dd, k0, k1, k2, k3, k5, hC, hbm⟩ := T.o.cls
  refine wpAny_Call_Name_kw (ld_glob I hg hm ?_ hdb)
  refine PySem.W.callWith_K (h₀ := X.base) I.ok.mod.kin T.o.kC (thn (ha.run pos pins s σ H _ I h) fun us s1 ⟨vs, H1, I1, r1, v, ev, q1⟩ => ⟨I1.kIn, ?_⟩) hs hpl
  subst ev
  show wpAny _ _ (call (.ref C) us) _ _ _
  obtain ⟨hp, g, dr, tk, os⟩ := s1
  have hsz : hp.objs.size ≤ hp.objs.size + 1 := Nat.le_succ _
  have hn : H1 (hp.objs.size + 1) = none := I1.hok.fresh hsz
  have keeps : ∀ b o, hp.get? b = some o → ((hp.push (PySem.W.kdv_tup us)).push (PySem.HandSPX.excO C hp.objs.size)).get? b = some o := fun b o e => Heap.get?_push_of_some _ (Heap.get?_push_of_some _ e)
  have made : ((hp.push (PySem.W.kdv_tup us)).push (PySem.HandSPX.excO C hp.objs.size)).get? (hp.objs.size + 1) = some (PySem.HandSPX.excO C hp.objs.size) := by heap_get
  have I2 : Inv X pins σ (upd H1 (hp.objs.size + 1) (exo (hp.objs.size + 1) C none)) ⟨(hp.push (PySem.W.kdv_tup us)).push (PySem.HandSPX.excO C hp.objs.size), g, dr, tk, os⟩ :=
    I1.laid (t' := tk) keeps hsz (exo_ok made)
  have r2 : Vals (V.ref (hp.objs.size + 1) :: [v]) (Value.ref (hp.objs.size + 1) :: us) := .cons rfl r1
  have hl : (Value.ref (hp.objs.size + 1) :: us).length = (["self", "value"] : List Str).length := by
    rw [← r2.length]; rfl
  have hus : us.length ≤ sizeLine := by
    rw [← Paired.length r1, sizeLine_eq]; show 1 ≤ 16777216; decide
  have hsp : spIniX X.K (V.ref (hp.objs.size + 1) :: [v]) (upd H1 (hp.objs.size + 1) (exo (hp.objs.size + 1) C none)) (fun v' H2 => v' = .non ∧ ∃ d, H1 d = none ∧ d ≠ hp.objs.size + 1 ∧ H2 = upd (upd H1 d (exd d [("value", v)])) (hp.objs.size + 1) (exo (hp.objs.size + 1) C (some d))) E0 := by
    refine ⟨_, C, fI, v, rfl, T, upd_same, fun dx n1 n2 => ⟨rfl, dx, ?_, n2, ?_⟩⟩
    · rw [upd_ne n2] at n1; exact n1
    · funext b
      by_cases hb : b = hp.objs.size + 1
      · rw [hb, upd_same, upd_same]
      · rw [upd_ne hb, upd_ne hb]
        by_cases hd : b = dx
        · rw [hd, upd_same, upd_same]
        · rw [upd_ne hd, upd_ne hd, upd_ne hb]
  refine wpAny_call (PySem.HandSPX.call_own F.excBase_ValueError (fun Y => PySem.HandSPX.refsVE_contains Y bm hbm) (I1.kIn _ _ hC) (PySem.W.looks_findIn I1.kIn T.ini) (fun self => PySem.W.bind_fn I1.kIn self T.tI) hus
    (codeAny_mono (F1.run _ X.stack _ _ ⟨Value.ref (hp.objs.size + 1) :: us, []⟩ (Value.ref (hp.objs.size + 1) :: us) _ _ E0 (hr.make C us []) (I2.env0.make C us []) (by have z := hb _ (Value.ref (hp.objs.size + 1) :: us) I2.kIn (by simpa using hl); simpa using z) r2 hsp) fun r s' hq' => ?_))
  cases r with
  | error er => exact hq'.elim
  | ok fl =>
    cases fl with
    | ret u =>
      obtain ⟨v', H2, os2, bare2, un2, hok2, rv, ev, d, nd, nda, rfl⟩ := hq'
      subst ev
      exact ⟨rv, .ref _, _, I2.call' (ch := []) os2 un2 hok2 bare2 (fun b z => absurd z (by simp)), rfl, q1 _ d hn nd nda⟩
    | next => exact False.elim hq'
    | brk => exact False.elim hq'
    | cont => exact False.elim hq'
theorem xinst {pins : List (Addr × Obj)} {σ : L2.St} {H : Hp} {s : Shared} {a C d : Addr} {v : V} (I : Inv X pins σ H s) (x : XAt H a C d v) :
    ∃ ox od mA, PySem.W.InstAt s.heap a ox C (some od) ∧ s.heap.Ns1 d mA ∧ (∀ f, RelO (List.lookup f [(("value" : Str), v)]) (mA f)) ∧ s.heap.get? d = some od := by
  obtain ⟨t1, e1⟩ := exo_at I.hok x.1
  obtain ⟨mA, hns, rel⟩ := exd_at I.hok x.2
  obtain ⟨od, es, ep, ho, rest⟩ := id hns
  exact ⟨_, od, mA, ⟨e1, rfl, rfl, ho⟩, hns, rel, ho⟩
theorem pe_xv {e : Expr} {te : TE} {pos : Pos} {n : Str} (he : PE X e te) (hb : attributeBase e n X.env (eval e X.env) = eval e X.env := by rfl) : PE X (.Attribute e n pos) (tXv X.K n te) := by
  refine ⟨fun pins s σ H Q I h => ?_⟩
  refine attr_of hb (thn (he.run pins s σ H _ I h) fun u s1 ⟨x, H1, I1, rx, a, C, d, fI, v, ex, en, T, xa, q⟩ => ?_)
  subst ex en
  obtain rfl : u = Value.ref a := rx
  obtain ⟨mA, hns, rel⟩ := exd_at I1.hok xa.2
  obtain ⟨t1, e1⟩ := exo_at I1.hok xa.1
  obtain ⟨od, ho, hl⟩ := lookIn_ns hns
  obtain ⟨u, hu, ru⟩ := RelO.some_of (v := v) (o := mA ("value" : Str)) (by have z := rel ("value" : Str); rwa [lookup_put, if_pos rfl] at z)
  have J : PySem.W.InstAt s1.heap a _ C (some od) := ⟨e1, rfl, rfl, ho⟩
  exact HandSPX.exc_get I1.kIn J T.x.ga T.x.gg T.x.exC (PySem.W.findObj_own T.x.hdC T.noV rfl (by rw [hl, hu])) (handed_of ru) ⟨v, H1, I1.tok _, ru, q⟩
theorem call_isX : CallR X (.builtin "isinstance") (rIsX X.K) := by
  intro pins s σ H xs us Q I r h
  obtain ⟨a, C, d, fI, v, c, u, b, rfl, hc, T, xa, e, q⟩ := h
  obtain ⟨u1, u2, rfl, r1, r2⟩ := vals2 r
  cases (show u1 = Value.ref a from r1)
  have e2 := hc.eq r2
  subst e2
  obtain ⟨ox, od, mA, J, _⟩ := xinst I xa
  exact PySem.W.kia_one (PySem.W.kitx_exc T.cl T.x.ga T.x.gg T.x.exC T.ha T.hn T.ht T.hm) I.kIn J e (fun z => nomatch z) fun tk => ⟨.bl b, H, I.tok tk, rfl, q⟩
end
end Hw

set_option Elab.async false
set_option linter.all false
set_option maxRecDepth 100000
set_option maxHeartbeats 4000000
namespace Hw
open PySem L2 PyProof.Rows
/-! written data, laid beside a place a -/
mutual
inductive Dx (a : Addr) (H : Hp) : V → PyData → Prop
  | flat {v : V} {d : PyData} : flatPD v = some d → Dx a H v d
  | lst {p : Addr} {xs : List V} {ds : List PyData} : H p = some (.lst xs) → p ≠ a → DxAll a H xs ds → Dx a H (.ref p) (.list ds)
  | tup {p : Addr} {xs : List V} {ds : List PyData} : H p = some (.tup xs) → p ≠ a → DxAll a H xs ds → Dx a H (.ref p) (.tuple ds)
  | dct {p : Addr} {kvs : List (Key × V)} {ds : List (PyData × PyData)} : H p = some (.dK kvs) → p ≠ a → (∀ q ∈ kvs, valV kvs q.1 = some q.2 ∧ flatB q.2 = true) → Paired (fun q e => e.1 = keyPD q.1 ∧ flatPD q.2 = some e.2) kvs ds → Dx a H (.ref p) (.dict ds)
inductive DxAll (a : Addr) (H : Hp) : List V → List PyData → Prop
  | nil : DxAll a H [] []
  | cons {v : V} {vs : List V} {d : PyData} {ds : List PyData} : Dx a H v d → DxAll a H vs ds → DxAll a H (v :: vs) (d :: ds)
end
section
variable {a : Addr} {H H' : Hp}
mutual
theorem Dx.keep (s : SameX a H H') : ∀ (v : V) (d : PyData), Dx a H v d → Dx a H' v d
  | _, .list ds, h => by
    cases h with
    | flat e => exact .flat e
    | lst h1 h2 h3 => exact .lst (s _ _ h2 h1) h2 (DxAll.keep s _ ds h3)
  | _, .tuple ds, h => by
    cases h with
    | flat e => exact .flat e
    | tup h1 h2 h3 => exact .tup (s _ _ h2 h1) h2 (DxAll.keep s _ ds h3)
  | _, .dict ds, h => by
    cases h with
    | flat e => exact .flat e
    | dct h1 h2 h3 h4 => exact .dct (s _ _ h2 h1) h2 h3 h4
  | _, .none, h => by cases h with | flat e => exact .flat e
  | _, .bool _, h => by cases h with | flat e => exact .flat e
  | _, .int _, h => by cases h with | flat e => exact .flat e
  | _, .str _, h => by cases h with | flat e => exact .flat e
theorem DxAll.keep (s : SameX a H H') : ∀ (vs : List V) (ds : List PyData), DxAll a H vs ds → DxAll a H' vs ds
  | _, [], h => by cases h; exact .nil
  | _, d :: ds, h => by
    cases h with
    | cons h1 h2 => exact .cons (Dx.keep s _ d h1) (DxAll.keep s _ ds h2)
end
theorem DxAll.length : ∀ {vs : List V} {ds : List PyData}, DxAll a H vs ds → vs.length = ds.length
  | _, _, .nil => rfl
  | _, _, .cons _ t => congrArg (· + 1) (DxAll.length t)
theorem DxAll.append : ∀ {vs ws : List V} {ds es : List PyData}, DxAll a H vs ds → DxAll a H ws es → DxAll a H (vs ++ ws) (ds ++ es)
  | _, _, _, _, .nil, t => t
  | _, _, _, _, .cons x y, t => .cons x (DxAll.append y t)
theorem DxAll.at : ∀ {vs : List V} {ds : List PyData} {i : Nat} {v : V}, DxAll a H vs ds → vs[i]? = some v → ∃ d, d ∈ ds ∧ Dx a H v d
  | _, _, _, _, .nil, e => by simp at e
  | _, _, 0, _, .cons x _, e => by
    simp at e; subst e
    exact ⟨_, List.mem_cons_self, x⟩
  | _, _, i + 1, v, .cons _ t, e => by
    obtain ⟨d, h1, h2⟩ := DxAll.at (i := i) t (by simpa using e)
    exact ⟨d, List.mem_cons_of_mem _ h1, h2⟩
theorem Dp_flat {K : PySem.W.Frag} {v : V} {d : PyData} (e : flatPD v = some d) : Dp K H v d := by
  cases v with
  | non => cases e; exact .non
  | bl b => cases e; exact .bl b
  | int i => cases e; exact .int i
  | str x => cases e; exact .str x
  | byt b => cases e
  | flt b => cases e
  | ref a => cases e
  | ty n => cases e
mutual
theorem Dx.dp (K : PySem.W.Frag) : ∀ (v : V) (d : PyData), d.hasDict = false → Dx a H v d → Dp K H v d
  | _, .list ds, n, h => by
    cases h with
    | flat e => exact Dp_flat e
    | lst h1 h2 h3 => exact .lst (sql_of h1) (DxAll.dp K _ ds (by simpa only [PyData.hasDict] using n) h3)
  | _, .tuple ds, n, h => by
    cases h with
    | flat e => exact Dp_flat e
    | tup h1 h2 h3 => exact .tup (sqt_of h1) (DxAll.dp K _ ds (by simpa only [PyData.hasDict] using n) h3)
  | _, .dict ds, n, h => by simp [PyData.hasDict] at n
  | _, .none, _, h => by cases h with | flat e => exact Dp_flat e
  | _, .bool _, _, h => by cases h with | flat e => exact Dp_flat e
  | _, .int _, _, h => by cases h with | flat e => exact Dp_flat e
  | _, .str _, _, h => by cases h with | flat e => exact Dp_flat e
theorem DxAll.dp (K : PySem.W.Frag) : ∀ (vs : List V) (ds : List PyData), PyData.hasDictAll ds = false → DxAll a H vs ds → DpAll K H vs ds
  | _, [], _, h => by cases h; exact .nil
  | _, d :: ds, n, h => by
    simp only [PyData.hasDictAll, Bool.or_eq_false_iff] at n
    cases h with
    | cons h1 h2 => exact .cons (Dx.dp K _ d n.1 h1) (DxAll.dp K _ ds n.2 h2)
end
end
/-! displays that lay data -/
def MkD (te : TE) (d : PyData) : Prop := ∀ (a : Addr) (σ : L2.St) (H : Hp) (Q : VK), H a ≠ none → (∀ v H', Same H H' → Dx a H' v d → Q v H') → te σ H Q
def MkA (ta : TA) (ds : List PyData) : Prop := ∀ (a : Addr) (σ : L2.St) (H : Hp) (Q : List V → Hp → Prop), H a ≠ none → (∀ vs H', Same H H' → DxAll a H' vs ds → Q vs H') → ta σ H Q
theorem same_some {a : Addr} {H H' : Hp} (s : Same H H') (h : H a ≠ none) : H' a ≠ none := by
  cases e : H a with
  | none => exact absurd e h
  | some o => rw [s _ _ e]; exact fun z => nomatch z
theorem mkA_nil : MkA tNil [] := fun _ _ H _ _ q => q [] H (Same.refl H) .nil
theorem mkA_cons {te : TE} {ta : TA} {d : PyData} {ds : List PyData} (h1 : MkD te d) (h2 : MkA ta ds) : MkA (tCons te ta) (d :: ds) := fun a σ H Q ha q =>
  h1 a σ H _ ha fun v H1 s1 x1 => h2 a σ H1 _ (same_some s1 ha) fun vs H2 s2 x2 => q (v :: vs) H2 (s1.trans s2) (.cons (Dx.keep (.of s2) _ _ x1) x2)
theorem mk_c {v : V} {d : PyData} (h : flatPD v = some d) : MkD (tC v) d := fun a σ H Q _ q => q v H (Same.refl H) (.flat h)
theorem mk_neg {i : Int} : MkD (tUn (rU fun i => .int (-i)) (tC (.int i))) (.int (-i)) := fun a σ H Q _ q => ⟨i, rfl, q _ H (Same.refl H) (.flat rfl)⟩
theorem mk_tup {ta : TA} {ds : List PyData} (h : MkA ta ds) (hl : ds.length ≤ 1000) : MkD (tTup ta) (.tuple ds) := fun a σ H Q ha q => h a σ H _ ha fun vs H1 s1 x1 =>
  ⟨Nat.le_of_lt (small1000 (by rw [x1.length]; exact hl)), fun p hp => q _ _ (s1.trans (same_upd hp)) (.tup upd_same (fun e => same_some s1 ha (e ▸ hp)) (DxAll.keep (.of (same_upd hp)) _ _ x1))⟩
theorem mk_lst {ta : TA} {ds : List PyData} (h : MkA ta ds) (hl : ds.length ≤ 1000) : MkD (tLst ta) (.list ds) := fun a σ H Q ha q => h a σ H _ ha fun vs H1 s1 x1 =>
  ⟨Nat.le_of_lt (small1000 (by rw [x1.length]; exact hl)), fun p hp => q _ _ (s1.trans (same_upd hp)) (.lst upd_same (fun e => same_some s1 ha (e ▸ hp)) (DxAll.keep (.of (same_upd hp)) _ _ x1))⟩
theorem mk_dnew : MkD tDNewK (.dict []) := fun a σ H Q ha q p hp => q _ _ (same_upd hp) (.dct upd_same (fun e => ha (e ▸ hp)) (fun _ z => nomatch z) .nil)
theorem mk_dict1 {k : Str} {i : Int} : MkD (tDisp [(tC (.str k), tC (.int i))]) (.dict [(.str k, .int i)]) := fun a σ H Q ha q p hp => by
  refine ⟨upd_same, [(Sum.inr k, .int i)], rfl, by show 1 ≤ 15; decide, ?_⟩
  refine q _ _ (fun b o e => ?_) (.dct upd_same (fun e => ha (e ▸ hp)) (kvs := [(Sum.inr k, .int i)]) ?_ (.cons ⟨rfl, rfl⟩ .nil))
  · have hb := ne_of_none e hp
    rw [upd_ne hb, upd_ne hb]; exact e
  · intro z hz
    rcases List.mem_cons.mp hz with rfl | hz
    · exact ⟨valV_pos (p := ((Sum.inr k : Key), V.int i)) (r := []) rfl, rfl⟩
    · cases hz
/-- what is shown of such data, and is equal to itself -/
def fineD (d : PyData) : Bool := d.showable && (decide (d.depth ≤ 60) && (decide (d.shown.length ≤ 1000) && (match d with | .dict _ => true | d => !d.hasDict && (SeqAt.shaped d && PyData.eqv d d))))
section
variable {X : Cx}
def rNeO (K : PySem.W.Frag) : R2 := fun x y H Q => ∃ (a : Addr) (d : PyData), y = x ∧ Dx a H x d ∧ fineD d = true ∧ Q (.bl false) H
theorem op_neO (hu : X.A.units + 64 < cLine) : OpR X (compareOp .NotEq) (rNeO X.K) := by
  intro pins s σ H x y v u Q I rx ry h
  obtain ⟨a, d, rfl, hd, hf, q⟩ := h
  unfold fineD at hf
  simp only [Bool.and_eq_true] at hf
  obtain ⟨_, _, _, hf⟩ := hf
  by_cases hdict : ∃ ds, d = .dict ds
  · obtain ⟨ds, rfl⟩ := hdict
    cases hd with
    | flat e => cases y <;> cases e
    | dct h1 h2 h3 h4 => exact op_ne_dictA (by omega) pins s σ H _ _ v u Q I rx ry ⟨_, _, _, _, rfl, rfl, h1, h1, rfl, h3, q⟩
  · have hf' : (!d.hasDict && (SeqAt.shaped d && PyData.eqv d d)) = true := by
      revert hf
      cases d with
      | dict ds => exact absurd ⟨ds, rfl⟩ hdict
      | _ => exact fun z => z
    simp only [Bool.and_eq_true, Bool.not_eq_true'] at hf'
    have z := Dx.dp X.K _ d hf'.1 hd
    exact op_neD hu pins s σ H _ _ v u Q I rx ry ⟨d, d, z, z, hf'.2.1, hf'.2.1, by rw [hf'.2.2]; exact q⟩
def rReprO : List V → Hp → VK → Prop := fun xs H Q => ∃ (x : V) (a : Addr) (d : PyData), xs = [x] ∧ Dx a H x d ∧ fineD d = true ∧ Q (.str d.shown) H
theorem call_reprO (hg : X.A.guards = some []) (hu : X.A.units + 100 < cLine) : CallR X (.builtin "repr") rReprO := by
  intro pins s σ H xs us Q I r h
  obtain ⟨x, a, d, rfl, hd, hf, q⟩ := h
  unfold fineD at hf
  simp only [Bool.and_eq_true, decide_eq_true_eq] at hf
  obtain ⟨h1, h2, h3, hf⟩ := hf
  refine call_repr hg hu pins s σ H _ us Q I r ⟨x, d, rfl, ?_, h1, h2, Nat.le_of_lt (small1000 h3), q⟩
  by_cases hdict : ∃ ds, d = .dict ds
  · obtain ⟨ds, rfl⟩ := hdict
    cases hd with
    | flat e => cases x <;> cases e
    | dct k1 k2 k3 k4 => exact .inr ⟨_, _, ds, rfl, k1, rfl, k4⟩
  · have hf' : (!d.hasDict && (SeqAt.shaped d && PyData.eqv d d)) = true := by
      revert hf
      cases d with
      | dict ds => exact absurd ⟨ds, rfl⟩ hdict
      | _ => exact fun z => z
    simp only [Bool.and_eq_true, Bool.not_eq_true'] at hf'
    exact .inl (Dx.dp X.K _ d hf'.1 hd)
/-- count(True) of bools -/
def isT : Value → Bool
  | .bool b => b
  | _ => false
def rCntT (K : PySem.W.Frag) : V → List V → Hp → VK → Prop := fun x xs H Q => ∃ (p : Addr) (bs : List Bool), x = .ref p ∧ xs = [.bl true] ∧ SqL K H p (bs.map V.bl) ∧ Q (.int (bs.count true : Nat)) H
theorem cnt_isT : ∀ {bs : List Bool} {us : List Value}, Vals (bs.map V.bl) us → us.countP isT = bs.count true
  | [], _, r => by cases r; rfl
  | b :: bs, _, r => by
    cases r with
    | cons r1 r2 =>
      have ih := cnt_isT r2
      rename_i u us'
      obtain rfl : u = Value.bool b := r1
      rw [List.countP_cons, ih, List.count_cons]
      cases b <;> rfl
theorem mem_vals : ∀ {bs : List Bool} {us : List Value}, Vals (bs.map V.bl) us → ∀ y ∈ us, ∃ b, y = Value.bool b
  | [], _, r, y, hy => by cases r; cases hy
  | b :: bs, _, r, y, hy => by
    cases r with
    | cons r1 r2 =>
      rcases List.mem_cons.mp hy with rfl | hy
      · exact ⟨b, r1⟩
      · exact mem_vals r2 y hy
theorem mt_cntT : MtR X "list.count" (rCntT X.K) := by
  intro pins s σ H x xs v us Q I rx rxs h
  obtain ⟨p, bs, rfl, rfl, hs, q⟩ := h
  cases rx
  obtain ⟨u, rfl, ru⟩ := rxs.one
  obtain rfl : u = Value.bool true := ru
  obtain ⟨its, rv, ⟨⟨cls, dd, data, sl⟩, n, ho, hc, hdn, hd⟩, hlen⟩ := I.list hs
  simp only at hc hd
  subst hc hd
  refine call_meets PySem.F.slot_list_count ⟨_, ho, rfl⟩ PySem.F.entry_list_count (PySem.F.args_list_count_2 _ _)
    (SeqAt.list_countAt p its.toArray n dd sl (.bool true) isT) ⟨ho, fun y hy => ?_, ?_⟩
  · obtain ⟨b, rfl⟩ := mem_vals rv y (by simpa using hy)
    have z := eqAt_V (A := X.A.in1) (s := s) (y := .bl b) (x := .bl true) (u := .bool b) (v := .bool true) rfl rfl rfl rfl
    have e : eqV (.bl b) (.bl true) = isT (.bool b) := by cases b <;> rfl
    rw [e] at z
    exact z
  · refine ⟨.int (bs.count true : Nat), H, I.tok _, ⟨s.toks, ?_⟩, q⟩
    have ec : its.toArray.toList.countP isT = bs.count true := cnt_isT rv
    rw [ec]
end
end Hw

set_option Elab.async false
set_option linter.all false
set_option maxRecDepth 100000
set_option maxHeartbeats 4000000
namespace Hw
open PySem L2 PyProof.Rows
section
variable {t u : TS} {te ta tb : TE} {g : TG} {D : Ends} {σ : L2.St} {H : Hp} {Q : VK} {tl tr : TA} {r : R2} {QA : List V → Hp → Prop} {sp : Sp} {dvs : List V} {E : XK}
theorem r_seq (h : t { D with nx := u D } σ H) : tSeq t u D σ H := h
theorem r_asg (h : te σ H fun x H1 => g x σ H1 D.nx) : tAsg te g D σ H := h
theorem r_ret (h : te σ H D.rt) : tRet te D σ H := h
theorem r_cons (h : te σ H fun x H1 => tr σ H1 fun xs H2 => QA (x :: xs) H2) : tCons te tr σ H QA := h
theorem r_op (h : ta σ H fun x H1 => tb σ H1 fun y H2 => r x y H2 Q) : tOp r ta tb σ H Q := h
theorem r_call (h : tl σ H fun vs H1 => sp (vs ++ dvs) H1 Q E) : tCall sp dvs E tl σ H Q := h
theorem r_var {i : Nat} {v : V} (e : σ[i]? = some (some v)) (h : Q v H) : tVar i σ H Q := ⟨v, e, h⟩
end
theorem lst_use {ta : TA} {ds : List PyData} {a : Addr} {σ : L2.St} {H : Hp} {Q : VK} (ha : H a ≠ none) (q : ∀ p xs H', Same H H' → H' p = some (.lst xs) → p ≠ a → DxAll a H' xs ds → Q (.ref p) H') (m : MkA ta ds) (hl : ds.length ≤ 1000) : tLst ta σ H Q :=
  mk_lst m hl a σ H Q ha fun v H' s x => by
    cases x with
    | flat e => cases v <;> cases e
    | lst h1 n1 x1 => exact q _ _ H' s h1 n1 x1
section
variable {t u : TS} {te to : TE} {D : Ends} {σ : L2.St} {H : Hp} {i : Nat} {c : TT} {ta : TA} {K : PySem.W.Frag} {T : String} {r : V → List V → Hp → VK → Prop}
theorem rs_set (h : te σ H fun x H1 => u D (σ.set i (some x)) H1) : tSeq (tAsg te (gName i)) u D σ H := h
theorem rs_bm (h : to σ H fun x H1 => tyV K T x H1 ∧ ta σ H1 fun xs H2 => r x xs H2 fun _ H3 => u D σ H3) : tSeq (tDrop (tBM K T r to ta)) u D σ H := h
theorem rs_ifR (h : c σ H fun b H1 => if b = true then te σ H1 D.rt else u D σ H1) : tSeq (tIfS c (tRet te) tNext) u D σ H := h
theorem r1_ifR (h : c σ H fun b H1 => if b = true then te σ H1 D.rt else D.nx σ H1) : tIfS c (tRet te) tNext D σ H := h
end
/-! tests that come out false, new objects apart -/
def AnsF (t : TT) (σ : L2.St) (H : Hp) : Prop := ∀ Q : Bool → Hp → Prop, (∀ H', Same H H' → Q false H') → t σ H Q
section
variable {t u : TT} {σ : L2.St} {H : Hp} {te : TE} {us : TS} {D : Ends}
theorem ansF_or (h1 : AnsF t σ H) (h2 : ∀ H', Same H H' → AnsF u σ H') : AnsF (tOr t u) σ H := fun Q q =>
  h1 _ fun H1 s1 => by
    show if false = true then Q true H1 else u σ H1 Q
    rw [if_neg Bool.false_ne_true]
    exact h2 H1 s1 Q fun H2 s2 => q H2 (s1.trans s2)
theorem rs_skip (h1 : AnsF t σ H) (h : ∀ H', Same H H' → us D σ H') : tSeq (tIfS t (tRet te) tNext) us D σ H := h1 _ fun H1 s1 => by
  show if false = true then _ else _
  rw [if_neg Bool.false_ne_true]
  exact h H1 s1
theorem r1_skip (h1 : AnsF t σ H) (h : ∀ H', Same H H' → D.nx σ H') : tIfS t (tRet te) tNext D σ H := h1 _ fun H1 s1 => by
  show if false = true then _ else _
  rw [if_neg Bool.false_ne_true]
  exact h H1 s1
end
section
variable {u : TS} {D : Ends} {σ : L2.St} {H : Hp} {i j : Nat} {ta : TA} {v : V} {Q : L2.St → Hp → Prop}
theorem rs_par (h : ta σ H fun vs H1 => ∃ v w, vs = [v, w] ∧ u D ((σ.set i (some v)).set j (some w)) H1) : tSeq (tPar i j ta) u D σ H := h
theorem r_gname (h : Q (σ.set i (some v)) H) : gName i v σ H Q := h
end
theorem rs_enum {K : PySem.W.Frag} {u tb : TS} {g : TG} {D : Ends} {σ : L2.St} {H : Hp} {i : Nat} {p : Addr} {xs : List V} (e : σ[i]? = some (some (.ref p))) (hs : SqL K H p xs) (Pv : Nat → L2.St → Hp → Prop) (h0 : Pv 0 σ H)
    (hG : ∀ j σ H, j ≤ xs.length → Pv j σ H → SqL K H p xs)
    (turn : ∀ j x σ H T, j < xs.length → Pv j σ H → H T = none → xs[j]? = some x → g (.ref T) σ (upd H T (.tup [.int (j : Int), x])) fun σ2 H2 => tb { D with nx := Pv (j + 1), ct := Pv (j + 1), bk := u D } σ2 H2)
    (done : ∀ σ H, Pv xs.length σ H → u D σ H) : tSeq (tFor (iEnum K (tCons (tVar i) tNil)) g tb) u D σ H :=
  ⟨.ref p, e, p, xs, rfl, hs, for_it walk_enum Pv h0 hG (fun j x σ H H' hj hp ⟨T, xa, ya, ex, nT, eH, e1, e2⟩ => by
    subst ex eH
    obtain rfl : V.int (j : Int) = xa := Option.some.inj e1
    exact turn j ya σ H T hj hp nT e2) done⟩
theorem paired_at {α β : Type} {F : α → β → Prop} : ∀ {xs : List α} {ys : List β} {i : Nat} {y : β}, Paired F xs ys → ys[i]? = some y → ∃ x, xs[i]? = some x ∧ F x y
  | _, _, _, _, .nil, e => by simp at e
  | _, _, 0, _, .cons a _, e => by simp at e; subst e; exact ⟨_, rfl, a⟩
  | _, _, i + 1, y, .cons _ t, e => by
    obtain ⟨x, h1, h2⟩ := paired_at (i := i) t (by simpa using e)
    exact ⟨x, by simpa using h1, h2⟩
theorem r_yes {σ : L2.St} {H : Hp} {te : TE} {Q1 : VK} {B : Prop} (h : te σ H Q1) : tYes σ H fun b H3 => if b = true then te σ H3 Q1 else B := by
  show if true = true then te σ H Q1 else B
  rw [if_pos rfl]
  exact h
end Hw

set_option Elab.async false
set_option linter.all false
set_option maxRecDepth 100000
set_option maxHeartbeats 4000000
namespace Hw
open PySem L2 PyProof.Rows
/-! a built-in class called with keywords -/
theorem callWith_tyK {M : Model} {A : Around} {E : Value → Shared → Prop} {s : Shared} {pos : Pos} {T : String} {first : List Value} {args : List (Bool × Sem Value)} {keywords : List (Option Str × Sem Value)} {Q : Value → Shared → Prop}
    (hp : args.any (·.1) = false) (hk : keywords.any (·.1.isNone) = false) (h : wpAny M A (evalArgs (.type T) true args keywords) (fun a s1 => wpAny M A (call (.type T) (first ++ a.pos) a.kw) Q E s1) E s) :
    wpAny M A (callWith pos (.type T) first args keywords) Q E s := by
  unfold callWith
  refine wpAny_bind (wpAny_holding (wpAny_mono h (fun a s1 h1 => wpAny_bind (wpAny_standAt ?_)) fun _ _ z => z))
  simp only [hp, hk, Bool.or_false]
  refine wpAny_bind (wpAny_pure ?_)
  exact wpAny_bind (wpAny_mono h1 (fun r s2 hr => wpAny_bind (wpAny_holding (wpAny_point (wpAny_pure hr)))) fun _ _ z => z)
/-! enumerate(list, start=k) -/
def IteK (K : PySem.W.Frag) (a : Addr) (k0 : Int) : It :=
  ⟨fun i H => ∃ (xs : List V) (x : V), SqL K H a xs ∧ xs[i]? = some x, fun i H v H' => ∃ T x, v = .ref T ∧ H T = none ∧ H' = upd H T (.tup [.int (k0 + (i : Nat)), x]) ∧ ∀ xs, SqL K H a xs → xs[i]? = some x, fun i H => ∃ xs : List V, SqL K H a xs ∧ xs.length = i⟩
theorem turn_enumK {P : Program} {w : World} {K : PySem.W.Frag} {elts : List Expr} {kk : Nat} {tpos : Pos} (k0 : Int) (a e it : Addr) :
    Turn P w K (.Tuple elts kk tpos) (IteK K a k0) [e, it] e (fun i h => (∃ old, IsEnum h e it (k0 + (i : Nat)) old) ∧ h.IsListIter it a i ∧ e ≠ it) where
  mem := by simp
  obj := fun i h st b hb => by
    obtain ⟨⟨old, he⟩, ⟨o, ho, hc, hd⟩, _⟩ := st
    rcases (show b = e ∨ b = it by simpa using hb) with z | z
    · subst z; exact ⟨_, he, fun v q => nomatch q⟩
    · subst z; exact ⟨o, ho, fun v q => by rw [hd] at q; cases q⟩
  keep := fun i h h' st k => by
    obtain ⟨⟨old, he⟩, hi, hne⟩ := st
    exact ⟨⟨old, k e (by simp) _ he⟩, hi.at fun o q => k it (by simp) o q, hne⟩
  item := by
    intro X hP hw hK hc i pins s σ H E I hf st hg
    subst hP hw hK
    obtain ⟨⟨old, he⟩, hit, hne⟩ := st
    obtain ⟨xs, x, hq, hx⟩ := hg
    obtain ⟨its, rv, p, hz⟩ := I.list hq
    obtain ⟨u, hu, ru⟩ := rv.get hx
    have hel : e < s.heap.objs.size := Heap.lt_size he
    have hil : it < s.heap.objs.size := by
      obtain ⟨_, q, _⟩ := hit
      exact Heap.lt_size q
    have hae : a ≠ e := fun z => by
      obtain ⟨o1, q1, q2, _⟩ := p.isList
      subst z
      rw [show s.heap.get? a = _ from he] at q1
      obtain rfl := Option.some.inj q1
      injection q2 with q2
      exact absurd q2 (by decide)
    have hai : a ≠ it := fun z => by
      obtain ⟨o1, q1, q2, _⟩ := p.isList
      obtain ⟨o2, q3, q4, _⟩ := hit
      subst z
      rw [q3] at q1
      obtain rfl := Option.some.inj q1
      rw [q4] at q2
      injection q2 with q2
      exact absurd q2 (by decide)
    have hlt : i < its.toArray.size := by
      have := (List.getElem?_eq_some_iff.mp hu).1
      simpa using this
    refine wpAny_pyNext_enum_itemC (Draws.list (A := X.A.in1) (I.ok.hd hc) it a hai its.toArray) he ⟨hit, p.isList⟩ hlt hne (by simp [Ne.symm hae, hne]) fun x' h' tk hx' ho hst' hT hsz hk => ⟨_, rfl, wpAny_letOwnedTupleGo_enum (s := { s with heap := h', toks := tk + 1 }) ho fun h2 he' sb => ?_⟩
    obtain ⟨hit', hl'⟩ := hst'
    obtain rfl : u = x' := by
      rw [show its.toArray[i]? = its[i]? by simp] at hx'
      rw [hu] at hx'
      exact Option.some.inj hx'
    have hT2 : h2.get? s.heap.objs.size = some { cls := .type "tuple", data := .seq #[.int (k0 + (i : Nat)) tk, u] } := (sb.2 _ (Nat.ne_of_gt hel)).trans hT
    have new : ObjOk X.prog X.w (upd H s.heap.objs.size (.tup [.int (k0 + (i : Nat)), x])) h2 s.heap.objs.size (.tup [.int (k0 + (i : Nat)), x]) :=
      ⟨by show 2 ≤ sizeLine; decide, [.int (k0 + (i : Nat)) tk, u], .cons ⟨_, rfl⟩ (.cons ru .nil), ⟨_, hT2, rfl, _, rfl⟩⟩
    have I1 : Inv X pins σ (upd H s.heap.objs.size (.tup [.int (k0 + (i : Nat)), x])) { s with heap := h2, toks := tk + 1 } :=
      I.turnedNew (ch := [e, it]) (fun b ob hb q => (sb.2 b (fun z => hb (by simp [z]))).trans (hk b ob (fun z => hb (by simp [z])) (fun z => hb (by simp [z])) q)) hf (Nat.le_refl _) new
    refine ⟨.ref s.heap.objs.size, _, I1, rfl, ⟨_, x, rfl, I.hok.fresh (Nat.le_refl _), rfl, fun ys hy => by rw [I.list_inj hy hq]; exact hx⟩, ⟨⟨u, ?_⟩, hit'.at fun o q => (sb.2 it (Ne.symm hne)).trans q, hne⟩, fun b hb => ?_⟩
    · have e1 : k0 + ((i + 1 : Nat) : Int) = k0 + (i : Nat) + 1 := by omega
      rw [e1]; exact he'
    · have hb' : b < s.heap.objs.size := by
        rcases (show b = e ∨ b = it by simpa using hb) with z | z
        · rw [z]; exact hel
        · rw [z]; exact hil
      rw [upd_ne (Nat.ne_of_lt hb')]
      exact (hf b hb).1
  done := by
    intro X hP hw hK hc i pins s σ H E I hf st hg
    subst hP hw hK
    obtain ⟨⟨old, he⟩, hit, hne⟩ := st
    obtain ⟨xs, hq, hx⟩ := hg
    obtain ⟨its, rv, p, hz⟩ := I.list hq
    obtain ⟨f0, f1, f2, f3, f4, f5⟩ := hf it (by simp)
    have hl := rv.length
    have hai : a ≠ it := fun z => by
      obtain ⟨o1, q1, q2, _⟩ := p.isList
      obtain ⟨o2, q3, q4, _⟩ := hit
      subst z
      rw [q3] at q1
      obtain rfl := Option.some.inj q1
      rw [q4] at q2
      injection q2 with q2
      exact absurd q2 (by decide)
    have ei : its.toArray.size = i := by simp; omega
    refine wpAny_pyNext_enum_endD (Draws.list (A := X.A.in1) (I.ok.hd hc) it a hai its.toArray) he ⟨by rw [ei]; exact hit, p.isList⟩ fun h' eb => ⟨rfl, I.turned (t' := s.toks) (fun b o hb q => eb b o hb q) f0 f1 f3 f4 f5⟩
  self := fun A i s Q E st h => by
    obtain ⟨⟨_, he⟩, _⟩ := st
    exact wpAny_pyIter_enum he h
def iEnumK (K : PySem.W.Frag) (ta tk : TA) : TI := fun σ H R => ta σ H fun vs H1 => tk σ H1 fun zs H2 => ∃ a xs k, vs = [.ref a] ∧ zs = [.int k] ∧ -(2 ^ 62) ≤ k ∧ k < 2 ^ 62 ∧ SqL K H2 a xs ∧ R (IteK K a k) H2
theorem pi_enumK {X : Cx} {e ke : Expr} {ta tk : TA} {p pos tpos kp : Pos} {elts : List Expr} {kk : Nat} (hg : Gl X "enumerate") (hm : X.mg "enumerate" = none) (ha : PA X [e] ta) (hk : PK X [⟨some (Str.ofString "start"), ke, kp⟩] tk)
    (he : backTo pos (starEach [e] X.env) = (false, eval e X.env) :: backTo pos (starEach [] X.env) := by rfl) (hpl : (backTo pos (starEach [e] X.env)).any (·.1) = false := by rfl)
    (hall : (backToKw pos (keywordEach [⟨some (Str.ofString "start"), ke, kp⟩] X.env)).all (·.1.isSome) = true := by rfl) (hnone : (backToKw pos (keywordEach [⟨some (Str.ofString "start"), ke, kp⟩] X.env)).any (·.1.isNone) = false := by rfl)
    (hks : (backToKw pos (keywordEach [⟨some (Str.ofString "start"), ke, kp⟩] X.env)).filterMap (·.1) = [Str.ofString "start"] := by rfl) :
    PI X (.Tuple elts kk tpos) (.Call (.Name "enumerate" p) [e] [⟨some (Str.ofString "start"), ke, kp⟩] pos) (iEnumK X.K ta tk) := by
  refine ⟨fun pins s σ H R I h => ?_⟩
  refine wpAny_Call_Name_kw (ld_blt I hg hm boot_enumerate ?_ (by decide) (by decide))
  refine callWith_tyK hpl hnone ?_
  rw [he]
  refine evalArgs_kwB hall ?_
  rw [← he]
  refine thn (ha.run pos pins s σ H _ I h) fun us s1 ⟨vs, H1, I1, r1, q1⟩ => thn (hk.run pos pins s1 σ H1 _ I1 q1) fun ws s2 ⟨zs, H2, I2, r2, a, xs, k, ex, ez, k0, k1, hq, q⟩ => ?_
  subst ex ez
  rw [hks]
  obtain ⟨u, rfl, ru⟩ := r1.one
  obtain ⟨v, rfl, rv⟩ := r2.one
  obtain rfl : u = Value.ref a := ru
  obtain ⟨t, rfl⟩ := rv
  obtain ⟨its, rvs, p', hz⟩ := I2.list hq
  refine enum_begins_start (begins_list a its.toArray) p'.isList (by omega) (by omega) fun h' hen hit hsz hkp => ?_
  refine wpAny_pyIter_enum hen ?_
  have I3 : Inv X pins σ H2 { s2 with heap := h' } := I2.kept (t' := s2.toks) hkp
  have li : h'.IsListIter s2.heap.objs.size a 0 := ⟨_, hit, rfl, rfl⟩
  refine ⟨s2.heap.objs.size + 1, [s2.heap.objs.size + 1, s2.heap.objs.size], _, _, H2, rfl, I3, turn_enumK k a (s2.heap.objs.size + 1) s2.heap.objs.size, ⟨⟨.none, by rw [show k + ((0 : Nat) : Int) = k by omega]; exact hen⟩, li, Nat.succ_ne_self _⟩, fun b hb => ?_, q⟩
  have hle : s2.heap.objs.size ≤ b := by
    rcases (show b = s2.heap.objs.size + 1 ∨ b = s2.heap.objs.size by simpa using hb) with z | z
    · rw [z]; exact Nat.le_add_right _ _
    · rw [z]; exact Nat.le_refl _
  exact I2.fpOk hle (I2.hok.fresh hle)
theorem walk_enumK {K : PySem.W.Frag} {a : Addr} {xs : List V} {k : Int} : Walk (IteK K a k) xs.length (fun H => SqL K H a xs) (YPair (fun i => some (.int (k + (i : Nat)))) (fun i => xs[i]?)) := by
  refine ⟨fun i _ hi q => ⟨xs, xs[i], q, by simp [hi]⟩, fun _ q => ⟨xs, q, rfl⟩, fun i H v H' _ q y => ?_⟩
  obtain ⟨T, x, h1, h2, h3, h4⟩ := y
  exact ⟨T, .int (k + (i : Nat)), x, h1, h2, h3, rfl, h4 xs q⟩
/-! a def called with keywords alone -/
section
variable {X : Cx} {CX : CXT} {k : Nat} {f : Addr} {fd : FuncData} {ps ks : List Str} {sp : Sp} {E : XK} {x : Str} {p pos : Pos} {kws : List Keyword} {tk : TA} {g : List Value → List Value → List Value} {gV : List V → List V → List V}
def tCallK0 (sp : Sp) (gV : List V → List V → List V) (E : XK) (tk : TA) : TE := fun σ H Q => tk σ H fun zs H2 => sp (gV [] zs) H2 Q E
theorem pe_callK0 (F : FnOk X.prog X.w X.K X.mg X.base CX k f fd ps sp) (hr : Room k X.A) (hg : Gl X x) (hm : X.mg x = some (.ref f)) (hk : PySem.W.keepIn X.K (.ref f) = true) (hb : KBinds X.K fd ps ks g gV) (hx : Passes CX X E) (hkw : PK X kws tk)
    (hall : (backToKw pos (keywordEach kws X.env)).all (·.1.isSome) = true := by rfl) (hks : (backToKw pos (keywordEach kws X.env)).filterMap (·.1) = ks := by rfl) (hdb : (x == ("__debug__" : Str)) = false := by decide)
    (hpl : ((backTo pos (starEach [] X.env)).any (·.1) || (backToKw pos (keywordEach kws X.env)).any (·.1.isNone)) = false := by rfl) : PE X (.Call (.Name x p) [] kws pos) (tCallK0 sp gV E tk) := by
  refine ⟨fun pins s σ H Q I h => ?_⟩
  refine wpAny_Call_Name_kw (ld_glob I hg hm ?_ hdb)
  refine PySem.W.callWith_KW0 (h₀ := X.base) I.ok.mod.kin hk hall (thn (hkw.run pos pins s σ H _ I h) fun ws s2 ⟨zs, H2, I2, rz, q2⟩ => ⟨I2.kIn, ?_⟩) hpl
  rw [hks]
  exact run_fnk F hr hb hx I2 .nil rz q2
end
end Hw

set_option Elab.async false
set_option linter.all false
set_option maxRecDepth 100000
set_option maxHeartbeats 4000000
namespace Hw
open PySem L2 PyProof.Rows
/-! the less and the greater of two texts -/
def strLt (a b : Str) : Bool := decide (a.cps.toList < b.cps.toList)
def txtV : Value → Str
  | .str x _ => x
  | _ => Str.ofString ""
def IsS (v : Value) : Prop := ∃ x t, v = .str x t
theorem cmpS_lt {prog : Program} {w : World} {A : Around} (vs : Array Value) (hn : ∀ v ∈ vs, IsS v) :
    CmpOf prog w A .Lt (fun i v => vs[i]? = some v) (fun i j => strLt (txtV (vs.getD i .none)) (txtV (vs.getD j .none))) := fun i j vi vj s Q E hi hj h => by
  have e1 : vs.getD i .none = vi := by simp [Array.getD_eq_getD_getElem?, hi]
  have e2 : vs.getD j .none = vj := by simp [Array.getD_eq_getD_getElem?, hj]
  simp only [e1, e2] at h
  obtain ⟨x, t, rfl⟩ := hn _ (Array.mem_of_getElem? hi)
  obtain ⟨y, u, rfl⟩ := hn _ (Array.mem_of_getElem? hj)
  exact PyProof.Rows.lt_str h
theorem cmpS_gt {prog : Program} {w : World} {A : Around} (vs : Array Value) (hn : ∀ v ∈ vs, IsS v) :
    CmpOf prog w A .Gt (fun i v => vs[i]? = some v) (fun i j => strLt (txtV (vs.getD j .none)) (txtV (vs.getD i .none))) := fun i j vi vj s Q E hi hj h => by
  have e1 : vs.getD i .none = vi := by simp [Array.getD_eq_getD_getElem?, hi]
  have e2 : vs.getD j .none = vj := by simp [Array.getD_eq_getD_getElem?, hj]
  simp only [e1, e2] at h
  obtain ⟨x, t, rfl⟩ := hn _ (Array.mem_of_getElem? hi)
  obtain ⟨y, u, rfl⟩ := hn _ (Array.mem_of_getElem? hj)
  exact PySem.P.gt_str h
theorem max_two_S {prog : Program} {w : World} {A : Around} {E : Value → Shared → Prop} {s : Shared} {Q : Value → Shared → Prop} {a b : Value} (hh : A.handled = none) (ha : IsS a) (hb : IsS b)
    (h : ∀ h' tk, (∀ c o, s.heap.get? c = some o → h'.get? c = some o) → Q (if strLt (txtV a) (txtV b) then b else a) { s with heap := h', toks := tk }) :
    wpAny (model prog w) A (call (.builtin "max") [a, b]) Q E s := by
  have hT : (s.heap.push { cls := .type "tuple", data := .seq #[a, b] }).IsTuple s.heap.objs.size #[a, b] := ⟨_, Heap.get?_push_size _ rfl, rfl, 0, rfl⟩
  refine call_max_two (wpAny_pyIter_tuple hT ?_)
  have hsz : (s.heap.push { cls := .type "tuple", data := .seq #[a, b] }).objs.size = s.heap.objs.size + 1 := Heap.size_push ..
  refine ⟨_, [_, s.heap.objs.size], [_], _, _, _, _, rfl, Walks.tuple (A := A.in1) hh _ s.heap.objs.size (by rw [hsz]; exact Nat.ne_of_lt (Nat.lt_succ_self _)) #[a, b],
    ⟨⟨_, Heap.get?_push_size _ rfl, rfl, rfl⟩, hT.push _⟩, fun c hc => ?_, by simp, cmpS_gt #[a, b] (by simp [ha, hb]), fun v h' tk hP hk => ?_⟩
  · show c < ((s.heap.push _).push _).objs.size
    rw [Heap.size_push, hsz]
    rcases List.mem_cons.mp hc with rfl | hc
    · rw [hsz]; exact Nat.lt_succ_self _
    · rcases List.mem_cons.mp hc with rfl | hc
      · exact Nat.lt_succ_of_lt (Nat.lt_succ_self _)
      · cases hc
  · have hold : ∀ c o, s.heap.get? c = some o → h'.get? c = some o := fun c o e => by
      refine hk c o (fun hm => ?_) (Heap.get?_push_of_some _ (Heap.get?_push_of_some _ e))
      rcases List.mem_cons.mp hm with e1 | hm
      · have := Heap.lt_size e; rw [e1, hsz] at this; exact Nat.lt_irrefl _ (Nat.lt_of_succ_lt this)
      · cases hm
    have := h h' tk hold
    have hv : v = if strLt (txtV a) (txtV b) then b else a := by
      cases hc : strLt (txtV a) (txtV b) <;> simp [argBest, hc] at hP <;> simp [hP]
    rw [hv]; exact this
theorem min_two_S {prog : Program} {w : World} {A : Around} {E : Value → Shared → Prop} {s : Shared} {Q : Value → Shared → Prop} {a b : Value} (hh : A.handled = none) (ha : IsS a) (hb : IsS b)
    (h : ∀ h' tk, (∀ c o, s.heap.get? c = some o → h'.get? c = some o) → Q (if strLt (txtV b) (txtV a) then b else a) { s with heap := h', toks := tk }) :
    wpAny (model prog w) A (call (.builtin "min") [a, b]) Q E s := by
  have hT : (s.heap.push { cls := .type "tuple", data := .seq #[a, b] }).IsTuple s.heap.objs.size #[a, b] := ⟨_, Heap.get?_push_size _ rfl, rfl, 0, rfl⟩
  refine call_min_two (wpAny_pyIter_tuple hT ?_)
  have hsz : (s.heap.push { cls := .type "tuple", data := .seq #[a, b] }).objs.size = s.heap.objs.size + 1 := Heap.size_push ..
  refine ⟨_, [_, s.heap.objs.size], [_], _, _, _, _, rfl, Walks.tuple (A := A.in1) hh _ s.heap.objs.size (by rw [hsz]; exact Nat.ne_of_lt (Nat.lt_succ_self _)) #[a, b],
    ⟨⟨_, Heap.get?_push_size _ rfl, rfl, rfl⟩, hT.push _⟩, fun c hc => ?_, by simp, cmpS_lt #[a, b] (by simp [ha, hb]), fun v h' tk hP hk => ?_⟩
  · show c < ((s.heap.push _).push _).objs.size
    rw [Heap.size_push, hsz]
    rcases List.mem_cons.mp hc with rfl | hc
    · rw [hsz]; exact Nat.lt_succ_self _
    · rcases List.mem_cons.mp hc with rfl | hc
      · exact Nat.lt_succ_of_lt (Nat.lt_succ_self _)
      · cases hc
  · have hold : ∀ c o, s.heap.get? c = some o → h'.get? c = some o := fun c o e => by
      refine hk c o (fun hm => ?_) (Heap.get?_push_of_some _ (Heap.get?_push_of_some _ e))
      rcases List.mem_cons.mp hm with e1 | hm
      · have := Heap.lt_size e; rw [e1, hsz] at this; exact Nat.lt_irrefl _ (Nat.lt_of_succ_lt this)
      · cases hm
    have := h h' tk hold
    have hv : v = if strLt (txtV b) (txtV a) then b else a := by
      cases hc : strLt (txtV b) (txtV a) <;> simp [argBest, hc] at hP <;> simp [hP]
    rw [hv]; exact this
section
variable {X : Cx}
theorem call_maxS (hc : X.calm = true) : CallR X (.builtin "max") (fun xs H Q => ∃ a b, xs = [.str a, .str b] ∧ Q (.str (if strLt a b = true then b else a)) H) := by
  intro pins s σ H xs us Q I r h
  obtain ⟨i, j, rfl, q⟩ := h
  obtain ⟨u, w', rfl, ⟨t, rfl⟩, ⟨t', rfl⟩⟩ := vals2 r
  refine max_two_S (I.ok.hd hc) ⟨_, _, rfl⟩ ⟨_, _, rfl⟩ fun h' tk k => ⟨_, H, I.kept k, ?_, q⟩
  show RelV _ (if strLt i j = true then _ else _)
  by_cases hj : strLt i j = true
  · rw [if_pos hj, if_pos hj]; exact ⟨_, rfl⟩
  · rw [if_neg hj, if_neg hj]; exact ⟨_, rfl⟩
theorem call_minS (hc : X.calm = true) : CallR X (.builtin "min") (fun xs H Q => ∃ a b, xs = [.str a, .str b] ∧ Q (.str (if strLt b a = true then b else a)) H) := by
  intro pins s σ H xs us Q I r h
  obtain ⟨i, j, rfl, q⟩ := h
  obtain ⟨u, w', rfl, ⟨t, rfl⟩, ⟨t', rfl⟩⟩ := vals2 r
  refine min_two_S (I.ok.hd hc) ⟨_, _, rfl⟩ ⟨_, _, rfl⟩ fun h' tk k => ⟨_, H, I.kept k, ?_, q⟩
  show RelV _ (if strLt j i = true then _ else _)
  by_cases hj : strLt j i = true
  · rw [if_pos hj, if_pos hj]; exact ⟨_, rfl⟩
  · rw [if_neg hj, if_neg hj]; exact ⟨_, rfl⟩
/-! sorted over data, any number -/
def rSortB (K : PySem.W.Frag) : List V → Hp → VK → Prop := fun vs H Q => ∃ (a : Addr) (bs : List (V × PyData)), vs = [V.ref a] ∧ SqL K H a (bs.map (·.1)) ∧ (∀ b ∈ bs, Dp K H b.1 b.2 ∧ b.2.depth ≤ 50) ∧ PySem.W.AllAlike (bs.map (·.2)) ∧ PySem.W.Sortable (bs.map (·.2)) ∧ bs.length ≤ sizeLine ∧
  ∀ p, H p = none → Q (.ref p) (upd H p (.lst ((bs.mergeSort (PySem.W.dataLe false (·.2))).map (·.1))))
theorem each_of_vals {K : PySem.W.Frag} {P : Program} : ∀ {bs : List (V × PyData)} {us : List Value}, Vals (bs.map (·.1)) us → PySem.W.EachIs (fun (v : Value) (b : V × PyData) => RelV b.1 v) us bs
  | [], _, r => by cases r; exact .nil
  | b :: bs, _, r => by
    cases r with
    | cons r1 r2 => exact .cons r1 (each_of_vals (K := K) (P := P) r2)
theorem vals_of_each : ∀ {bs : List (V × PyData)} {us : List Value}, PySem.W.EachIs (fun (v : Value) (b : V × PyData) => RelV b.1 v) us bs → Vals (bs.map (·.1)) us
  | _, _, .nil => .nil
  | _, _, .cons r t => .cons r (vals_of_each t)
theorem reads_each {X : Cx} {pins : List (Addr × Obj)} {s : Shared} {σ : L2.St} {H : Hp} (I : Inv X pins σ H s) : ∀ {bs : List (V × PyData)} {us : List Value}, (∀ b ∈ bs, Dp X.K H b.1 b.2) → Vals (bs.map (·.1)) us → PySem.W.EachIs (fun (v : Value) (b : V × PyData) => ∃ as, Reads s.heap v b.2 as) us bs
  | [], _, _, r => by cases r; exact .nil
  | b :: bs, _, h, r => by
    cases r with
    | cons r1 r2 => exact .cons (Dp.reads I b.2 b.1 _ (h b List.mem_cons_self) r1) (reads_each I (fun b hb => h b (List.mem_cons_of_mem _ hb)) r2)
theorem cr_sortB (hu : X.A.units + 64 < cLine) : CallR X (.builtin "sorted") (rSortB X.K) := by
  intro pins s σ H vs us Q I r h
  obtain ⟨a, bs, rfl, hs, hd, hal, hk, hL, q⟩ := h
  obtain ⟨its, rv, hl, _⟩ := I.list hs
  rw [Vals.ref1 r]
  refine PySem.W.sorted_data (β := V × PyData) (vs := its) (bs := bs) (enc := (·.2)) (R := fun v b => RelV b.1 v) hl.isList (each_of_vals (K := X.K) (P := X.prog) rv) (reads_each I (fun b hb => (hd b hb).1) rv) hal hk hL (fun b hb => by have := (hd b hb).2; omega) fun out ho he => ?_
  have hv := vals_of_each he
  obtain ⟨ep, he'⟩ := PyProof.Rows.sortedAll_at s.heap its out.toArray
  have hlen : ((bs.mergeSort (PySem.W.dataLe false (·.2))).map (·.1)).length ≤ sizeLine := by rw [List.length_map, List.length_mergeSort]; exact hL
  exact ⟨.ref _, upd H (s.heap.objs.size + 1) (.lst ((bs.mergeSort (PySem.W.dataLe false (·.2))).map (·.1))), I.laid (t' := s.toks) (fun _ _ => PyProof.Rows.sortedAll_old) (Nat.le_succ _) ⟨hlen, out, ep, hv, he'⟩, rfl, q _ (I.hok.fresh (Nat.le_succ _))⟩
end

theorem walk_zipT {K : PySem.W.Frag} {a b : Addr} {xs ys : List V} {n : Nat} (hn : n = min xs.length ys.length) : Walk (RZ.ItzT K a b) n (fun H => SqT K H a xs ∧ SqT K H b ys) (YPair (fun i => xs[i]?) (fun i => ys[i]?)) := by
  subst hn
  refine ⟨fun i _ hi q => ?_, fun _ q => ⟨xs, ys, q.1, q.2, by omega⟩, fun i H v H' _ q y => ?_⟩
  · have h1 : i < xs.length := by omega
    have h2 : i < ys.length := by omega
    exact ⟨xs, ys, xs[i], ys[i], q.1, q.2, by simp [h1], by simp [h2]⟩
  · obtain ⟨T, x, z, h1, h2, h3, h4, h5⟩ := y
    exact ⟨T, x, z, h1, h2, h3, h4 xs q.1, h5 ys q.2⟩
/-! `<=` of two tuples of texts -/
theorem RcOp.le_str {A : Around} {s : Shared} (a b : Str) (t u : Tok) : Ob.RcOp .LtE A s (.str a t) (.str b u) (!strLt b a) := fun _ _ _ _ h => PySem.P.le_str h
def rLeS (K : PySem.W.Frag) : R2 := fun x y H Q => ∃ (a b : Addr) (ns ms : List Str), x = .ref a ∧ y = .ref b ∧ SqT K H a (ns.map V.str) ∧ SqT K H b (ms.map V.str) ∧
  Q (.bl (Ob.lexAt (fun j => ns.getD j (Str.ofString "") == ms.getD j (Str.ofString "")) (fun j => !strLt (ms.getD j (Str.ofString "")) (ns.getD j (Str.ofString ""))) (decide (ns.length ≤ ms.length)) 0 (min ns.length ms.length))) H
theorem str_item {us : List Value} {xs : List Str} (r : Vals (xs.map V.str) us) (j : Nat) (h : j < us.toArray.size) : ∃ t, us.toArray[j] = .str (xs.getD j (Str.ofString "")) t := by
  have h' : j < us.length := by simpa using h
  have hl := r.length
  rw [List.length_map] at hl
  obtain ⟨u, hu, ru⟩ := r.get (i := j) (x := V.str (xs.getD j (Str.ofString ""))) (by
    rw [List.getElem?_map, List.getElem?_eq_getElem (by omega : j < xs.length), List.getD_eq_getElem?_getD, List.getElem?_eq_getElem (by omega : j < xs.length)]; rfl)
  obtain ⟨t, rfl⟩ := ru
  refine ⟨t, ?_⟩
  rw [List.getElem?_eq_getElem h'] at hu
  simpa using Option.some.inj hu
theorem op_leS {X : Cx} (hu : X.A.units < cLine) : OpR X (compareOp .LtE) (rLeS X.K) := by
  intro pins s σ H x y v u Q I rx ry h
  obtain ⟨a, b, ns, ms, rfl, rfl, ha, hb, q⟩ := h
  cases rx
  cases ry
  obtain ⟨its, r1, p1, _⟩ := I.tuple ha
  obtain ⟨its2, r2, p2, _⟩ := I.tuple hb
  have e1 : its.toArray.size = ns.length := by rw [List.size_toArray, ← r1.length, List.length_map]
  have e2 : its2.toArray.size = ms.length := by rw [List.size_toArray, ← r2.length, List.length_map]
  have R := Ob.RcOp.tuples_le (A := X.A) (s := s) (e := fun j => ns.getD j (Str.ofString "") == ms.getD j (Str.ofString "")) (r := fun j => !strLt (ms.getD j (Str.ofString "")) (ns.getD j (Str.ofString ""))) p1 p2 hu (fun j h1 h2 => by
    obtain ⟨t, et⟩ := str_item r1 j h1
    obtain ⟨t', et'⟩ := str_item r2 j h2
    rw [et, et']
    exact SeqAt.EqAt.str_str _ _ _ _) (fun j h1 h2 _ => by
    obtain ⟨t, et⟩ := str_item r1 j h1
    obtain ⟨t', et'⟩ := str_item r2 j h2
    rw [et, et']
    exact RcOp.le_str _ _ _ _)
  rw [e1, e2] at R
  have z : wpAny (model X.prog X.w) X.A (compareOp .LtE (.ref a) (.ref b)) (EP X pins σ Q) X.xe s := R X.prog X.w X.xe (EP X pins σ Q) ⟨.bl _, H, I, rfl, q⟩
  exact z

/-! `v in x`, `v not in x` by the class's own `__contains__` -/
section
variable {X : Cx} {CX : CXT} {k : Nat} {f C : Addr} {fd : FuncData} {ps : List Str} {sp : Sp} {dvs : List V} {ds : List Value} {E : XK}
def rInM (C : Addr) (sp : Sp) (dvs : List V) (E : XK) (neg : Bool) : R2 := fun x y H Q => ∃ p dx fs, y = .ref p ∧ H p = some (.ins C dx fs) ∧ sp ([.ref p, x] ++ dvs) H (fun r H' => ∃ b, r = .bl b ∧ Q (.bl (if neg = true then !b else b)) H') E
theorem has_M {pins : List (Addr × Obj)} {s : Shared} {σ : L2.St} {H : Hp} {x : V} {v : Value} {p dx : Addr} {fs : List (Str × V)} {Qb : Bool → Shared → Prop} {Q' : VK} (I : Inv X pins σ H s) (rx : RelV x v) (hp : H p = some (.ins C dx fs)) (hm : Meth X.K C "__contains__" f) (F : FnOk X.prog X.w X.K X.mg X.base CX k f fd ps sp) (hr : Room k X.A) (hb : Binds X.K fd ps ds) (hd : Vals dvs ds) (hx : Passes CX X E)
    (h : sp ([.ref p, x] ++ dvs) H Q' E) (hq : ∀ u s1, EP X pins σ Q' u s1 → ∃ b, u = .bool b ∧ Qb b s1) : wpAny (model X.prog X.w) X.A (contains (.ref p) v) Qb X.xe s := by
  obtain ⟨mA, O, r, _⟩ := ins_get I.hok hp
  obtain ⟨od, J, hl⟩ := O.look
  unfold contains
  refine wpAny_holding (wpAny_bind (wpAny_bind (J.type.here ((PySem.W.looks_findIn I.kIn hm.at_).here ?_))))
  rw [if_neg (by simp)]
  refine wpAny_bind (PySem.W.unlessNone_K I.kIn J hm.at_ hm.fn ?_)
  refine thn (run_fn (us := [.ref p, v]) (vs := [.ref p, x]) F hr hb hd hx I (.cons rfl (.cons rx .nil)) h) fun u s1 hu => ?_
  obtain ⟨b, rfl, q⟩ := hq u s1 hu
  exact wpAny_truthy_bool q
theorem op_inM (hm : Meth X.K C "__contains__" f) (F : FnOk X.prog X.w X.K X.mg X.base CX k f fd ps sp) (hr : Room k X.A) (hb : Binds X.K fd ps ds) (hd : Vals dvs ds) (hx : Passes CX X E) : OpR X (compareOp .In) (rInM C sp dvs E false) := by
  intro pins s σ H x y v u Q I rx ry h
  obtain ⟨p, dx, fs, rfl, hp, h⟩ := h
  obtain rfl : u = Value.ref p := ry
  refine wpAny_bind (has_M (Qb := fun b s1 => wpAny (model X.prog X.w) X.A (pure (Value.bool b)) (EP X pins σ Q) X.xe s1) I rx hp hm F hr hb hd hx h fun u s1 hu => ?_)
  obtain ⟨z, H', I', rz, b, rfl, q⟩ := hu
  cases rz
  exact ⟨b, rfl, wpAny_pure ⟨.bl b, H', I', rfl, q⟩⟩
theorem op_notInM (hm : Meth X.K C "__contains__" f) (F : FnOk X.prog X.w X.K X.mg X.base CX k f fd ps sp) (hr : Room k X.A) (hb : Binds X.K fd ps ds) (hd : Vals dvs ds) (hx : Passes CX X E) : OpR X (compareOp .NotIn) (rInM C sp dvs E true) := by
  intro pins s σ H x y v u Q I rx ry h
  obtain ⟨p, dx, fs, rfl, hp, h⟩ := h
  obtain rfl : u = Value.ref p := ry
  refine wpAny_bind (has_M (Qb := fun b s1 => wpAny (model X.prog X.w) X.A (pure (Value.bool (!b))) (EP X pins σ Q) X.xe s1) I rx hp hm F hr hb hd hx h fun u s1 hu => ?_)
  obtain ⟨z, H', I', rz, b, rfl, q⟩ := hu
  cases rz
  exact ⟨b, rfl, wpAny_pure ⟨.bl (!b), H', I', rfl, q⟩⟩
end
end Hw

set_option Elab.async false
set_option linter.all false
set_option maxRecDepth 100000
namespace Hw
open PySem L2 PyProof.Rows
/-! texts as lists of codes -/
def SL (l : List Nat) : Str := ⟨l.toArray⟩
theorem SL_cps (l : List Nat) : (SL l).cps.toList = l := rfl
theorem SL_of (z : Str) : SL z.cps.toList = z := by obtain ⟨a⟩ := z; rfl
theorem str_ext {x y : Str} (h : x.cps.toList = y.cps.toList) : x = y := by rw [← SL_of x, ← SL_of y, h]
theorem SL_len (l : List Nat) : (SL l).length = l.length := by show l.toArray.size = l.length; simp
theorem len_cps (z : Str) : z.length = z.cps.toList.length := by obtain ⟨a⟩ := z; simp [Str.length]
theorem app_cps (x y : Str) : (x ++ y).cps.toList = x.cps.toList ++ y.cps.toList := by
  show (x.cps ++ y.cps).toList = _
  simp
theorem app_len (x y : Str) : (x ++ y).length = x.length + y.length := by rw [len_cps, len_cps, len_cps, app_cps, List.length_append]
theorem sjoin_cps0 : ∀ (cs : List Str), (Str.join (Str.ofString "") cs).cps.toList = cs.flatMap fun z => z.cps.toList
  | [] => rfl
  | [x] => by simp [Str.join]
  | x :: y :: r => by
    have ih := sjoin_cps0 (y :: r)
    have e : Str.join (Str.ofString "") (x :: y :: r) = x ++ Str.ofString "" ++ Str.join (Str.ofString "") (y :: r) := rfl
    rw [e, app_cps, app_cps, ih]
    show x.cps.toList ++ [] ++ _ = _
    rw [List.append_nil]; rfl
theorem join_cps0 (cs : List Str) : (Txt.join (Str.ofString "") cs).cps.toList = cs.flatMap fun z => z.cps.toList := by rw [TL.join_eq]; exact sjoin_cps0 cs
/-- a name: one to eight letters -/
def Nm (z : Str) : Prop := 1 ≤ z.length ∧ z.length ≤ 8 ∧ ∀ c ∈ z.cps.toList, 97 ≤ c ∧ c ≤ 122
instance (z : Str) : Decidable (Nm z) := by unfold Nm; exact inferInstance
/-- the words that are tried in the place of a word that is known -/
def cand (w : Str) : Nat → Str
  | 0 => w
  | k + 1 => SL ([97 + k / 26, 97 + k % 26] ++ w.cps.toList.drop 2)
theorem cand_drop (w : Str) : ∀ k, (cand w k).cps.toList.drop 2 = w.cps.toList.drop 2
  | 0 => rfl
  | k + 1 => by
    show (SL ([97 + k / 26, 97 + k % 26] ++ w.cps.toList.drop 2)).cps.toList.drop 2 = _
    rw [SL_cps]; rfl
theorem cand_nm {w : Str} (h : Nm w) {k : Nat} (hk : k ≤ 676) : Nm (cand w k) := by
  cases k with
  | zero => exact h
  | succ k =>
    obtain ⟨h1, h2, h3⟩ := h
    have e : (cand w (k + 1)).cps.toList = [97 + k / 26, 97 + k % 26] ++ w.cps.toList.drop 2 := SL_cps _
    have l : (cand w (k + 1)).length = 2 + (w.length - 2) := by
      rw [len_cps, e, List.length_append, List.length_drop, ← len_cps]; rfl
    refine ⟨by omega, by omega, fun c hc => ?_⟩
    rw [e] at hc
    rcases List.mem_append.mp hc with hc | hc
    · simp only [List.mem_cons, List.not_mem_nil, or_false] at hc
      rcases hc with rfl | rfl <;> omega
    · exact h3 c (List.mem_of_mem_drop hc)
theorem cand_inj {w : Str} {i j : Nat} (h : cand w (i + 1) = cand w (j + 1)) : i = j := by
  have e : ([97 + i / 26, 97 + i % 26] ++ w.cps.toList.drop 2) = ([97 + j / 26, 97 + j % 26] ++ w.cps.toList.drop 2) := by
    have z := congrArg (fun s : Str => s.cps.toList) h
    exact z
  injection e with e1 e2
  injection e2 with e2 e3
  omega
theorem sub_len {α : Type} [DecidableEq α] : ∀ {l m : List α}, l.Nodup → (∀ x ∈ l, x ∈ m) → l.length ≤ m.length
  | [], _, _, _ => Nat.zero_le _
  | a :: l, m, hn, hs => by
    obtain ⟨ha, hl⟩ := List.nodup_cons.mp hn
    have hm : a ∈ m := hs a List.mem_cons_self
    have ih := sub_len (m := m.erase a) hl fun x hx => by
      refine (List.mem_erase_of_ne ?_).mpr (hs x (List.mem_cons_of_mem _ hx))
      rintro rfl; exact ha hx
    have e := List.length_erase_of_mem hm
    have p : 0 < m.length := List.length_pos_of_mem hm
    rw [List.length_cons]; omega
theorem cand_few {w : Str} {ks : List Str} {k : Nat} (h : ∀ j, j < k → cand w j ∈ ks) : k ≤ ks.length + 1 := by
  cases k with
  | zero => omega
  | succ k =>
    have z := sub_len (l := (List.range k).map fun j => cand w (j + 1)) (m := ks) ?_ ?_
    · rw [List.length_map, List.length_range] at z; omega
    · rw [List.Nodup, List.pairwise_map]
      exact List.Pairwise.imp (fun {i j} hij e => hij (cand_inj e)) (List.nodup_range (n := k))
    · intro x hx
      obtain ⟨j, hj, rfl⟩ := List.mem_map.mp hx
      exact h (j + 1) (by have := List.mem_range.mp hj; omega)
def alpha : Str := Str.ofString "abcdefghijklmnopqrstuvwxyz"
theorem alpha_at : ∀ k, k < 26 → alpha.cps.toList[k]? = some (97 + k) := by decide +kernel
theorem alpha_mem : ∀ c ∈ alpha.cps.toList, 97 ≤ c ∧ c ≤ 122 := by decide +kernel
theorem alpha_len : alpha.length = 26 := by decide +kernel
theorem ones_join (cs : List Nat) : (Txt.join (Str.ofString "") (cs.map fun c => SL [c])).cps.toList = cs := by
  rw [join_cps0, List.flatMap_map]
  induction cs with
  | nil => rfl
  | cons c cs ih =>
    rw [List.flatMap_cons, ih]; rfl
end Hw

set_option Elab.async false
set_option linter.all false
set_option maxRecDepth 100000
set_option maxHeartbeats 4000000
namespace Hw
open PySem PySem.Spec L2 PyProof.Rows
/-! the order of texts and of pairs of texts -/
theorem strLt_irr (a : Str) : strLt a a = false := decide_eq_false (List.lt_irrefl _)
theorem strLt_tr {a b c : Str} (h : strLt a b = true) (h' : strLt b c = true) : strLt a c = true := decide_eq_true (List.lt_trans (of_decide_eq_true h) (of_decide_eq_true h'))
theorem strLt_as {a b : Str} (h : strLt a b = true) : strLt b a = false := by
  cases e : strLt b a with
  | false => rfl
  | true => have := strLt_tr h e; rw [strLt_irr] at this; cases this
theorem strLt_tri {a b : Str} (h : strLt a b = false) (h' : strLt b a = false) : a = b := by
  refine str_ext (List.le_antisymm ?_ ?_)
  · exact List.not_lt.mp (of_decide_eq_false h')
  · exact List.not_lt.mp (of_decide_eq_false h)
theorem strLt_ne {a b : Str} (h : strLt a b = true) : a ≠ b := fun e => by rw [e, strLt_irr] at h; cases h
def leS (a b : Str) : Bool := !strLt b a
theorem leS_tr (a b c : Str) (h : leS a b = true) (h' : leS b c = true) : leS a c = true := by
  unfold leS at *
  cases e : strLt c a with
  | false => rfl
  | true =>
    cases e1 : strLt b a with
    | true => rw [e1] at h; cases h
    | false =>
      cases e2 : strLt a b with
      | true => rw [strLt_tr e e2] at h'; cases h'
      | false => rw [strLt_tri e1 e2, e] at h'; cases h'
theorem leS_tot (a b : Str) : (leS a b || leS b a) = true := by
  unfold leS
  cases e : strLt b a with
  | false => rfl
  | true => rw [strLt_as e]; rfl
theorem leS_anti {a b : Str} (h : leS a b = true) (h' : leS b a = true) : a = b := by
  unfold leS at h h'
  exact strLt_tri (by simpa using h') (by simpa using h)
def sortS (l : List Str) : List Str := l.mergeSort leS
def Asc (l : List Str) : Prop := l.Pairwise fun a b => strLt a b = true
theorem sortS_perm (l : List Str) : (sortS l).Perm l := List.mergeSort_perm l leS
theorem sortS_le (l : List Str) : (sortS l).Pairwise fun a b => leS a b = true := List.pairwise_mergeSort leS_tr leS_tot l
theorem asc_of_le {l : List Str} (h : l.Pairwise fun a b => leS a b = true) (hn : l.Nodup) : Asc l := by
  refine (h.and hn).imp ?_
  rintro a b ⟨h1, h2⟩
  cases e : strLt a b with
  | true => rfl
  | false => exact absurd (strLt_tri e (by simpa [leS] using h1)) h2
theorem sortS_asc {l : List Str} (h : l.Nodup) : Asc (sortS l) := asc_of_le (sortS_le l) ((sortS_perm l).nodup_iff.mpr h)
theorem Asc.nodup {l : List Str} (h : Asc l) : l.Nodup := h.imp fun q => strLt_ne q
theorem Asc.le {l : List Str} (h : Asc l) : l.Pairwise fun a b => leS a b = true := h.imp fun q => by unfold leS; rw [strLt_as q]; rfl
theorem sortS_eq {l m : List Str} (h : m.Perm l) (hm : m.Pairwise fun a b => leS a b = true) : m = sortS l :=
  List.Perm.eq_of_pairwise (le := fun a b => leS a b = true) (fun a b _ _ h1 h2 => leS_anti h1 h2) hm (sortS_le l) (h.trans (sortS_perm l).symm)
theorem sortS_asc_id {l : List Str} (h : Asc l) : sortS l = l := (sortS_eq (.refl _) h.le).symm
theorem sortS_of_perm {l m : List Str} (h : l.Perm m) : sortS l = sortS m := sortS_eq ((sortS_perm l).trans h) (sortS_le l)
theorem risingS_le : ∀ (l : List Str) (p : Str), risingS p l = true → (p :: l).Pairwise fun a b => leS a b = true
  | [], _, _ => List.pairwise_singleton _ _
  | x :: r, p, h => by
    have h' : (!ltCps x.cps.toList p.cps.toList && risingS x r) = true := h
    rw [Bool.and_eq_true] at h'
    have ih := risingS_le r x h'.2
    have hpx : leS p x = true := by
      have := h'.1
      rw [PyProof.Rows.ltCps_eq] at this
      exact this
    refine List.pairwise_cons.mpr ⟨fun y hy => ?_, ih⟩
    rcases List.mem_cons.mp hy with rfl | hy
    · exact hpx
    · exact leS_tr _ _ _ hpx ((List.pairwise_cons.mp ih).1 y hy)
theorem sortedS_le : ∀ {l : List Str}, sortedS l = true → l.Pairwise fun a b => leS a b = true
  | [], _ => .nil
  | x :: r, h => risingS_le r x h
theorem sortedS_eq {l m : List Str} (h : m.Perm l) (hm : sortedS m = true) : m = sortS l := sortS_eq h (sortedS_le hm)
abbrev Tie := Str × Str
def ltP (p q : Tie) : Bool := if p.1 == q.1 then strLt p.2 q.2 else strLt p.1 q.1
def leP (p q : Tie) : Bool := !ltP q p
theorem ltP_irr (p : Tie) : ltP p p = false := by unfold ltP; rw [if_pos (beq_self_eq_true _), strLt_irr]
theorem ltP_iff {p q : Tie} : ltP p q = true ↔ strLt p.1 q.1 = true ∨ p.1 = q.1 ∧ strLt p.2 q.2 = true := by
  unfold ltP
  by_cases h : p.1 = q.1
  · rw [if_pos (beq_iff_eq.mpr h), h, strLt_irr]; simp
  · rw [if_neg (by simpa using h)]; simp [h]
theorem ltP_tr {p q r : Tie} (h : ltP p q = true) (h' : ltP q r = true) : ltP p r = true := by
  rw [ltP_iff] at *
  rcases h with h | ⟨e, h⟩ <;> rcases h' with h' | ⟨e', h'⟩
  · exact .inl (strLt_tr h h')
  · exact .inl (e' ▸ h)
  · exact .inl (e ▸ h')
  · exact .inr ⟨e.trans e', strLt_tr h h'⟩
theorem ltP_tri {p q : Tie} (h : ltP p q = false) (h' : ltP q p = false) : p = q := by
  have a : ¬ (ltP p q = true) := by rw [h]; exact Bool.false_ne_true
  have b : ¬ (ltP q p = true) := by rw [h']; exact Bool.false_ne_true
  rw [ltP_iff] at a b
  have e : p.1 = q.1 := strLt_tri (by simpa using fun z => a (.inl z)) (by simpa using fun z => b (.inl z))
  have e2 : p.2 = q.2 := strLt_tri (by simpa using fun z => a (.inr ⟨e, z⟩)) (by simpa using fun z => b (.inr ⟨e.symm, z⟩))
  exact Prod.ext e e2
theorem ltP_as {p q : Tie} (h : ltP p q = true) : ltP q p = false := by
  cases e : ltP q p with
  | false => rfl
  | true => have := ltP_tr h e; rw [ltP_irr] at this; cases this
theorem leP_tr (a b c : Tie) (h : leP a b = true) (h' : leP b c = true) : leP a c = true := by
  unfold leP at *
  cases e : ltP c a with
  | false => rfl
  | true =>
    cases e1 : ltP b a with
    | true => rw [e1] at h; cases h
    | false =>
      cases e2 : ltP a b with
      | true => rw [ltP_tr e e2] at h'; cases h'
      | false => rw [ltP_tri e1 e2, e] at h'; cases h'
theorem leP_tot (a b : Tie) : (leP a b || leP b a) = true := by
  unfold leP
  cases e : ltP b a with
  | false => rfl
  | true => rw [ltP_as e]; rfl
def sortP (l : List Tie) : List Tie := l.mergeSort leP
def AscP (l : List Tie) : Prop := l.Pairwise fun a b => ltP a b = true
theorem sortP_perm (l : List Tie) : (sortP l).Perm l := List.mergeSort_perm l leP
theorem sortP_le (l : List Tie) : (sortP l).Pairwise fun a b => leP a b = true := List.pairwise_mergeSort leP_tr leP_tot l
theorem sortP_asc {l : List Tie} (hn : l.Nodup) : AscP (sortP l) := by
  refine ((sortP_le l).and ((sortP_perm l).nodup_iff.mpr hn)).imp ?_
  rintro a b ⟨h1, h2⟩
  cases e : ltP a b with
  | true => rfl
  | false => exact absurd (ltP_tri e (by simpa [leP] using h1)) h2
/-! sorted of texts, of pairs of texts -/
def tieD (p : Tie) : PyData := .tuple [.str p.1, .str p.2]
theorem dataLe_tie (p q : Tie) : PySem.W.dataLe false id (tieD p) (tieD q) = leP p q := by
  rw [PySem.W.dataLe_eq]
  show (!PySem.W.dataLt (tieD q) (tieD p)) = _
  unfold tieD leP ltP
  rw [PySem.W.dataLt_pair (by simp [PySem.W.alike]) (by simp [PySem.W.alike]), PySem.W.dataLt_str, PySem.W.dataLt_str]
  simp only [PyData.eqv]
  by_cases h1 : q.1 = p.1
  · by_cases h2 : q.2 = p.2
    · simp [h1, h2, strLt]
    · simp [h1, h2, strLt]
  · simp [h1, strLt]
section
variable {X : Cx}
def rSortT (K : PySem.W.Frag) : List V → Hp → VK → Prop := fun vs H Q => ∃ (a : Addr) (zs : List Str), vs = [V.ref a] ∧ SqL K H a (zs.map V.str) ∧ zs.length ≤ sizeLine ∧ ∀ p, H p = none → Q (.ref p) (upd H p (.lst ((sortS zs).map V.str)))
theorem cr_sortT (hu : X.A.units + 64 < cLine) : CallR X (.builtin "sorted") (rSortT X.K) := by
  intro pins s σ H vs us Q I r h
  obtain ⟨a, zs, rfl, hs, hz, q⟩ := h
  have e1 : (zs.map fun z => (V.str z, PyData.str z)).map (·.1) = zs.map V.str := by rw [List.map_map]; rfl
  have e2 : (zs.map fun z => (V.str z, PyData.str z)).map (·.2) = zs.map PyData.str := by rw [List.map_map]; rfl
  refine cr_sortB hu pins s σ H _ us Q I r ⟨a, zs.map fun z => (V.str z, PyData.str z), rfl, by rw [e1]; exact hs, fun b hb => ?_, ?_, ?_, by rw [List.length_map]; exact hz, fun p hp => ?_⟩
  · obtain ⟨z, _, rfl⟩ := List.mem_map.mp hb
    exact ⟨Dp_flat rfl, by show PyData.depth (.str z) ≤ 50; rw [PyData.depth]; decide⟩
  · rw [e2]; exact PySem.W.AllAlike.of fun _ _ => by simp [PySem.W.alike]
  · rw [e2]; exact PySem.W.Sortable.others (enc := PyData.str) fun z => ⟨(fun e => nomatch e), fun xs e => nomatch e⟩
  · have e : (zs.map fun z => (V.str z, PyData.str z)).mergeSort (PySem.W.dataLe false (·.2)) = (sortS zs).map fun z => (V.str z, PyData.str z) := by
      refine (List.map_mergeSort fun a _ b _ => ?_).symm
      rw [PySem.W.dataLe_eq]
      show leS a b = !PySem.W.dataLt (.str b) (.str a)
      rw [PySem.W.dataLt_str]; rfl
    rw [e, List.map_map]
    exact q p hp

def TieAt (K : PySem.W.Frag) (H : Hp) (q : Addr) (p : Tie) : Prop := SqT K H q [.str p.1, .str p.2]
theorem zip_of {α β : Type} {F : α → β → Prop} : ∀ {xs : List α} {ys : List β}, Paired F xs ys → ∃ l : List (α × β), l.map (·.1) = xs ∧ l.map (·.2) = ys ∧ ∀ p ∈ l, F p.1 p.2
  | _, _, .nil => ⟨[], rfl, rfl, fun _ z => nomatch z⟩
  | _, _, .cons (a := a) (b := b) h t => by
    obtain ⟨l, rfl, rfl, h3⟩ := zip_of t
    refine ⟨(a, b) :: l, rfl, rfl, fun p hp => ?_⟩
    rcases List.mem_cons.mp hp with rfl | hp
    · exact h
    · exact h3 p hp
theorem paired_of {α β : Type} {F : α → β → Prop} : ∀ {l : List (α × β)}, (∀ p ∈ l, F p.1 p.2) → Paired F (l.map (·.1)) (l.map (·.2))
  | [], _ => .nil
  | p :: l, h => .cons (h p List.mem_cons_self) (paired_of fun q hq => h q (List.mem_cons_of_mem _ hq))
theorem paired_mem {α β : Type} {F : α → β → Prop} : ∀ {l : List (α × β)}, Paired F (l.map (·.1)) (l.map (·.2)) → ∀ p ∈ l, F p.1 p.2
  | [], _, _, z => nomatch z
  | q :: l, h, p, hp => by
    cases h with
    | cons h1 h2 =>
      rcases List.mem_cons.mp hp with rfl | hp
      · exact h1
      · exact paired_mem h2 p hp
def rSortTP (K : PySem.W.Frag) : List V → Hp → VK → Prop := fun vs H Q => ∃ (a : Addr) (qs : List Addr) (ps : List Tie), vs = [V.ref a] ∧ SqL K H a (qs.map V.ref) ∧ Paired (TieAt K H) qs ps ∧ ps.length ≤ sizeLine ∧
  ∀ p qs', H p = none → (∀ R : Addr → Tie → Prop, Paired R qs ps → Paired R qs' (sortP ps)) → Q (.ref p) (upd H p (.lst (qs'.map V.ref)))
theorem cr_sortTP (hu : X.A.units + 64 < cLine) : CallR X (.builtin "sorted") (rSortTP X.K) := by
  intro pins s σ H vs us Q I r h
  obtain ⟨a, qs, ps, rfl, hs, hp, hz, q⟩ := h
  obtain ⟨l, rfl, rfl, hl⟩ := zip_of hp
  have e1 : (l.map fun x => (V.ref x.1, tieD x.2)).map (·.1) = (l.map (·.1)).map V.ref := by rw [List.map_map, List.map_map]; rfl
  have e2 : (l.map fun x => (V.ref x.1, tieD x.2)).map (·.2) = (l.map (·.2)).map tieD := by rw [List.map_map, List.map_map]; rfl
  rw [List.length_map] at hz
  refine cr_sortB hu pins s σ H _ us Q I r ⟨a, l.map fun x => (V.ref x.1, tieD x.2), rfl, by rw [e1]; exact hs, fun b hb => ?_, ?_, ?_, by rw [List.length_map]; exact hz, fun p hp => ?_⟩
  · obtain ⟨z, hz, rfl⟩ := List.mem_map.mp hb
    refine ⟨.tup (hl z hz) (.cons (Dp_flat rfl) (.cons (Dp_flat rfl) .nil)), ?_⟩
    show PyData.depth (tieD z.2) ≤ 50
    unfold tieD
    simp [PyData.depth, PyData.depthAll]
  · rw [e2]; exact PySem.W.AllAlike.of fun _ _ => by simp [PySem.W.alike, PySem.W.alikeAll, tieD]
  · rw [e2]; exact PySem.W.Sortable.tuples (enc := tieD) fun z => ⟨_, _, rfl⟩
  · have e : (l.map fun x => (V.ref x.1, tieD x.2)).mergeSort (PySem.W.dataLe false (·.2)) = (l.mergeSort fun x y => leP x.2 y.2).map fun x => (V.ref x.1, tieD x.2) := by
      refine (List.map_mergeSort fun a _ b _ => ?_).symm
      exact (dataLe_tie a.2 b.2).symm
    have e3 : (l.mergeSort fun x y => leP x.2 y.2).map (·.2) = sortP (l.map (·.2)) := List.map_mergeSort fun a _ b _ => rfl
    rw [e, List.map_map]
    have := q p ((l.mergeSort fun x y => leP x.2 y.2).map (·.1)) hp (fun R hR => by
      rw [← e3]
      exact paired_of fun x hx => paired_mem hR x (List.mem_mergeSort.mp hx))
    rw [List.map_map] at this
    exact this
end
end Hw

set_option Elab.async false
set_option linter.all false
set_option maxRecDepth 100000
set_option maxHeartbeats 4000000
namespace Hw
open PySem L2 PyProof.Rows
/-! max(xs), xs a list of data -/
def rMaxB (K : PySem.W.Frag) : List V → Hp → VK → Prop := fun vs H Q => ∃ (a : Addr) (b0 : V × PyData) (bs : List (V × PyData)), vs = [V.ref a] ∧ SqL K H a ((b0 :: bs).map (·.1)) ∧ (∀ b ∈ b0 :: bs, Dp K H b.1 b.2 ∧ b.2.depth ≤ 50) ∧ PySem.W.AlikeAll ((b0 :: bs).map (·.2)) ∧
  ∀ b ∈ b0 :: bs, b.2 = PySem.W.maxD b0.2 (bs.map (·.2)) → Q b.1 H
theorem readsAll_vals {X : Cx} {pins : List (Addr × Obj)} {s : Shared} {σ : L2.St} {H : Hp} (I : Inv X pins σ H s) : ∀ {bs : List (V × PyData)} {us : List Value}, (∀ b ∈ bs, Dp X.K H b.1 b.2) → Vals (bs.map (·.1)) us → ∃ as, ReadsAll s.heap us (bs.map (·.2)) as
  | [], _, _, r => by cases r; exact ⟨_, .nil⟩
  | b :: bs, _, h, r => by
    cases r with
    | cons r1 r2 =>
      obtain ⟨as, x⟩ := Dp.reads I b.2 b.1 _ (h b List.mem_cons_self) r1
      obtain ⟨as', y⟩ := readsAll_vals I (fun b hb => h b (List.mem_cons_of_mem _ hb)) r2
      exact ⟨_, .cons x y⟩
theorem depthAll_le50 : ∀ {ds : List PyData} {n : Nat}, (∀ d ∈ ds, d.depth ≤ n) → PyData.depthAll ds ≤ n
  | [], _, _ => by rw [PyData.depthAll]; exact Nat.zero_le _
  | d :: ds, n, h => by
    rw [PyData.depthAll]
    have h1 := h d List.mem_cons_self
    have h2 := depthAll_le50 fun x hx => h x (List.mem_cons_of_mem _ hx)
    omega
section
variable {X : Cx}
theorem cr_maxB (hc : X.calm = true) (hu : X.A.units + 64 < cLine) : CallR X (.builtin "max") (rMaxB X.K) := by
  intro pins s σ H vs us Q I r h
  obtain ⟨a, b0, bs, rfl, hs, hd, hal, q⟩ := h
  obtain ⟨its, rv, hl, _⟩ := I.list hs
  rw [Vals.ref1 r]
  obtain ⟨as, hr⟩ := readsAll_vals I (fun b hb => (hd b hb).1) rv
  have hdep : PyData.depthAll ((b0 :: bs).map (·.2)) ≤ 50 := depthAll_le50 fun d hd' => by
    obtain ⟨b, hb, rfl⟩ := List.mem_map.mp hd'
    exact (hd b hb).2
  have hr' : ReadsAll s.heap its.toArray.toList (b0.2 :: bs.map (·.2)) as := hr
  refine PySem.W.max_list_data (x := b0.2) (xs := bs.map fun b : V × PyData => b.2) (I.ok.hd hc) hl.isList hr' hal (by
    have e : PyData.depthAll (b0.2 :: bs.map (·.2)) ≤ 50 := hdep
    omega) fun i v h' tk bs' hv hR hk => ?_
  have hv' : its[i]? = some v := by simpa using hv
  have hlen := rv.length
  obtain ⟨b, hb, rb⟩ : ∃ b, (b0 :: bs)[i]? = some b ∧ RelV b.1 v := by
    have hi := (List.getElem?_eq_some_iff.mp hv').1
    have hi2 : i < (b0 :: bs).length := by rw [List.length_map] at hlen; omega
    have e1 : ((b0 :: bs).map (·.1))[i]? = some ((b0 :: bs)[i]).1 := by rw [List.getElem?_map, List.getElem?_eq_getElem hi2]; rfl
    obtain ⟨u, hu1, hu2⟩ := rv.get e1
    rw [hv'] at hu1
    cases hu1
    exact ⟨_, List.getElem?_eq_getElem hi2, hu2⟩
  have hbm := List.mem_of_getElem? hb
  obtain ⟨as2, hR2⟩ := Dp.reads I b.2 b.1 _ (hd b hbm).1 rb
  have e := (reads_det (fun c o e _ => hk c o e) hR2 hR).1
  exact ⟨b.1, H, I.kept hk, rb, q b hbm e.symm⟩
end
/-! x, *y = a list -/
section
variable {X : Cx}
theorem walks_tail {prog : Program} {w : World} {A : Around} (hh : A.handled = none) (I ax : Addr) (hne : ax ≠ I) (items : Array Value) :
    Walks prog w A I [I, ax] [I] (items.size - 1) (fun i v => items[i + 1]? = some v) (fun i h => h.IsListIter I ax (i + 1) ∧ h.IsList ax items ∧ 0 < items.size) where
  sub := fun b hb => by simp at hb; simp [hb]
  frame := fun _ _ _ st hk => ⟨st.1.at fun o e => hk I (by simp) o e, st.2.1.at fun o e => hk ax (by simp) o e, st.2.2⟩
  item := fun i s Q E hi st hQ => by
    refine wpAny_pyNext_list_item st.1 st.2.1 (x := items[i + 1]) (by simp) fun h' hit' hs' => ?_
    exact hQ _ h' s.toks (by simp) ⟨hit', st.2.1.extBut hs'.extBut hne, st.2.2⟩ fun b o hb e => hs'.extBut b o (fun h => hb (by simp [h])) e
  done := fun s Q E st hQ => wpAny_pyNext_list_end hh st.1 st.2.1 (by have := st.2.2; simp; omega) fun h' he' => hQ h' s.toks fun b o hb e => he' b o (fun h => hb (by simp [h])) e
  self := fun _ _ _ _ st hQ => wpAny_pyIter_listiter st.1 hQ
theorem unpack_star {prog : Program} {w : World} {A : Around} {E : Value → Shared → Prop} {s : Shared} {l : Addr} {its : List Value} {x : Value} {Q : List Value → Shared → Prop} (hh : A.handled = none) (hl : s.heap.IsList l (x :: its).toArray) (hn : its.length < sizeLine)
    (h : ∀ (hp : Heap) (tk : Nat), (∀ b o, s.heap.get? b = some o → hp.get? b = some o) → Q [x, .ref hp.objs.size] { s with heap := hp.push { cls := .type "list", data := .seq its.toArray }, toks := tk }) :
    wpAny (model prog w) A (unpackItems (.ref l) 2 (some 1)) Q E s := by
  have hlt : l < s.heap.objs.size := by obtain ⟨_, e, _⟩ := hl; exact Heap.lt_size e
  unfold unpackItems
  refine wpAny_bind ?_
  unfold notIterableAtAll
  refine wpAny_bind (wpAny_specialOf hl.typeIs F.slot_list_iter.lookup ?_)
  refine wpAny_pure ?_
  simp only [Bool.false_eq_true, if_false]
  refine wpAny_bind (wpAny_holding (wpAny_pyIter_list hl ?_))
  have hit : (s.heap.push { cls := .type "list_iterator", data := .fields #[.ref l, .int 0 0] }).IsListIter s.heap.objs.size l 0 := ⟨_, Heap.get?_push_size _ rfl, rfl, rfl⟩
  have hne : l ≠ s.heap.objs.size := Nat.ne_of_lt hlt
  refine wpAny_bind (wpAny_holding ?_)
  show wpAny _ _ (pyNext (.ref s.heap.objs.size) >>= _) _ _ _
  refine wpAny_bind (wpAny_pyNext_list_item hit (hl.push _) (x := x) (by simp) fun h₁ hit₁ hs₁ => ?_)
  refine wpAny_bind (wpAny_holding ?_)
  show wpAny _ _ (pure []) _ _ _
  refine wpAny_pure (wpAny_pure ?_)
  rw [if_neg (by simp)]
  have hl₁ : h₁.IsList l (x :: its).toArray := (hl.push _).extBut hs₁.extBut hne
  have k₁ : ∀ b o, s.heap.get? b = some o → h₁.get? b = some o := fun b o e => hs₁.extBut b o (Nat.ne_of_lt (Heap.lt_size e)) (Heap.get?_push_of_some _ e)
  have hsz1 : s.heap.objs.size < h₁.objs.size := by obtain ⟨_, e, _⟩ := hit₁; exact Heap.lt_size e
  have hl1lt : l < h₁.objs.size := by obtain ⟨_, e, _⟩ := hl₁; exact Heap.lt_size e
  refine wpAny_bind (wpAny_holding ?_)
  refine wpAny_collect_iter (s := { s with heap := h₁ }) (T := "list_iterator") (.inr (.inr (.inl rfl))) (walks_tail (A := A.in1) hh s.heap.objs.size l hne (x :: its).toArray).toS (fun i s' st => st.1.typeIs) ⟨hit₁, hl₁, by simp⟩ (fun b hb => ?_) (by simp) (fun s' acc m hI => ?_) (by simp; omega)
  · rcases List.mem_cons.mp hb with rfl | hb
    · exact hsz1
    · rcases List.mem_cons.mp hb with rfl | hb
      · exact hl1lt
      · cases hb
  have hacc : acc.toList = its := by
    obtain ⟨e1, e2⟩ := hI
    have e1 : acc.size = its.length := by rw [e1]; simp
    refine List.ext_getElem (by simpa using e1) fun i h1 h2 => ?_
    have h3 : i < acc.size := by simpa using h1
    have := e2 i acc[i] (by simp [h3])
    have e4 : (x :: its)[i + 1]? = some acc[i] := by simpa using this
    rw [List.getElem?_cons_succ, List.getElem?_eq_getElem h2] at e4
    simpa using (Option.some.inj e4).symm
  rw [hacc]
  show wpAny _ _ (if its.length < 2 - 1 - 1 then _ else _) _ _ _
  rw [if_neg (by omega)]
  show wpAny _ _ (newList (its.take (its.length - (2 - 1 - 1))) >>= _) _ _ _
  have e0 : its.take (its.length - (2 - 1 - 1)) = its := by rw [show its.length - (2 - 1 - 1) = its.length from by omega, List.take_length]
  rw [e0]
  have e9 : its.drop (its.length - (2 - 1 - 1)) = [] := by rw [show its.length - (2 - 1 - 1) = its.length from by omega, List.drop_length]
  refine wpAny_bind (wpAny_newList ?_ (by omega))
  refine wpAny_pure ?_
  rw [e9]
  obtain ⟨hp, g, d, tk, os⟩ := s'
  have eg : g = s.gens := m.gens
  have ed : d = s.drawn := m.drawn
  have eo : os = s.os := m.os
  subst eg; subst ed; subst eo
  have k₂ : ∀ b o, s.heap.get? b = some o → hp.get? b = some o := fun b o e => m.heap b o (fun hb => by
    rw [List.mem_singleton.mp hb] at e
    exact absurd (Heap.lt_size e) (Nat.lt_irrefl _)) (k₁ b o e)
  exact h hp tk k₂
def gStar2 (K : PySem.W.Frag) (g1 g2 : TG) : TG := fun v σ H Q => ∃ (a : Addr) (x : V) (xs : List V), v = .ref a ∧ SqL K H a (x :: xs) ∧ xs.length < sizeLine ∧ ∀ p, H p = none → g1 x σ (upd H p (.lst xs)) fun σ1 H1 => g2 (.ref p) σ1 H1 Q
theorem pg_star2 {e1 e2 : Expr} {k : Nat} {pos sp : Pos} {g1 g2 : TG} (hc : X.calm = true) (h1 : PG X e1 g1) (h2 : PG X e2 g2) (hae : assignEach [e1, .Starred e2 sp] X.env = [(false, assign e1 X.env), (true, assign e2 X.env)] := by rfl) : PG X (.Tuple [e1, .Starred e2 sp] k pos) (gStar2 X.K g1 g2) := by
  refine ⟨fun pins s σ H v u Q I r hw => ?_⟩
  obtain ⟨a, x, xs, rfl, hq, hl, hw⟩ := hw
  cases r
  obtain ⟨its, rv, hl2, _⟩ := I.list hq
  rw [assign_Tuple]
  refine wpAny_bind (wpAny_standAt ?_)
  unfold unpack
  rw [hae]
  cases rv with
  | @cons _ u _ us r1 r2 =>
    refine wpAny_bind (wpAny_holding (unpack_star (I.ok.hd hc) hl2.isList (by have := r2.length; omega) fun hp tk k => ?_))
    have I1 : Inv X pins σ H { s with heap := hp, toks := tk } := I.kept (t' := tk) k
    have hget : (hp.push { cls := .type "list", data := .seq us.toArray }).get? hp.objs.size = some { cls := .type "list", data := .seq us.toArray } := Heap.get?_push_size _ rfl
    have I2 := I1.laid (t' := tk) (a := hp.objs.size) (o := .lst xs) (h' := hp.push { cls := .type "list", data := .seq us.toArray }) (fun b o e => Heap.get?_push_of_some _ e) (Nat.le_refl _) ⟨Nat.le_of_lt hl, us, _, r2, hget⟩
    have fin := hw hp.objs.size (I1.hok.fresh (Nat.le_refl _))
    show wpAny _ _ (assignInOrder [assign e1 X.env, assign e2 X.env] [u, .ref hp.objs.size]) _ _ _
    refine assignInOrder_cons (thn (h1.run pins _ σ _ _ _ _ I2 r1 fin) fun _ s1 ⟨σ1, H1, I3, q1⟩ => ?_)
    refine assignInOrder_cons (thn (h2.run pins s1 σ1 H1 (.ref hp.objs.size) _ _ I3 rfl q1) fun _ s2 ⟨σ2, H2, I4, q2⟩ => ?_)
    exact assignInOrder_nil ⟨σ2, H2, I4, q2⟩
end
/-- a dict comprehension, over anything that is walked -/
theorem dct_it {J : It} {n : Nat} {G : Hp → Prop} {Y : Nat → Hp → V → Hp → Prop} (wk : Walk J n G Y) {g : TG} {tt : TT} {tk tv : TE} {vs : List Nat} {σ : L2.St} {H1 : Hp} {D : Addr} {Qd : Hp → Prop} (Pv : Nat → Hp → Prop) (h0 : Pv 0 (upd H1 D (.dK []))) (hG : ∀ i H, i ≤ n → Pv i H → G H)
    (turn : ∀ i x H H', i < n → Pv i H → Y i H x H' → g x (wipe σ vs) H' fun σ2 H2 => wipe σ2 vs = wipe σ vs ∧ tt σ2 H2 fun b H3 =>
      if b = true then tk σ2 H3 fun y H4 => tv σ2 H4 fun z H5 => ∃ kvs k, y = kV k ∧ H5 D = some (.dK kvs) ∧ kvs.length < sizeLine ∧ Pv (i + 1) (upd H5 D (.dK (putK kvs k z))) else Pv (i + 1) H3) (hd : ∀ H, Pv n H → Qd H) :
    ∃ W : Nat → Nat → Hp → Prop, (∃ m, W 0 m (upd H1 D (.dK []))) ∧ ∀ i m H, W i m H →
      (J.stop i H ∧ Qd H) ∨ (J.go i H ∧ ∃ Nx : Hp → Prop, (∀ H', Nx H' → ∃ m', m' < m ∧ W (i + 1) m' H') ∧ ∀ x H', J.yld i H x H' → g x (wipe σ vs) H' fun σ2 H2 => wipe σ2 vs = wipe σ vs ∧ tt σ2 H2 fun b H3 =>
        if b = true then tk σ2 H3 fun y H4 => tv σ2 H4 fun z H5 => ∃ kvs k, y = kV k ∧ H5 D = some (.dK kvs) ∧ kvs.length < sizeLine ∧ Nx (upd H5 D (.dK (putK kvs k z))) else Nx H3) := by
  refine ⟨fun i m H => m = n - i ∧ i ≤ n ∧ Pv i H, ⟨n, (Nat.sub_zero n).symm, Nat.zero_le _, h0⟩, ?_⟩
  rintro i m H ⟨em, hi, p⟩
  subst em
  have gH := hG i H hi p
  rcases Nat.lt_or_ge i n with lt | ge
  · exact .inr ⟨wk.goes i H lt gH, Pv (i + 1), fun H' p' => ⟨n - (i + 1), by omega, rfl, lt, p'⟩, fun x H' y => turn i x H H' lt p (wk.yields i H x H' lt gH y)⟩
  · obtain rfl : i = n := by omega
    exact .inl ⟨wk.stops H gH, hd H p⟩
theorem cr_sumT {X : Cx} (hc : X.calm = true) : CallR X (.builtin "sum") (fun vs H Q => ∃ (a : Addr) (ns : List Int), vs = [V.ref a] ∧ SqT X.K H a (ns.map V.int) ∧ Q (.int ns.sum) H) := by
  intro pins s σ H vs us Q I r h
  obtain ⟨a, ns, rfl, hs, q⟩ := h
  obtain ⟨its, rv, hl, _⟩ := I.tuple hs
  rw [Vals.ref1 r]
  obtain ⟨xs, e⟩ := rv.ints.allInts.items
  have hn : numsOf (intItems xs).toList = ns := by rw [← e]; exact rv.ints.numsOf
  rw [nums_intItems] at hn
  have hl' : s.heap.IsTuple a (intItems xs) := by rw [← e]; exact hl
  refine PySem.W.ktm_sumG (I.ok.hd hc) hl' fun h' tk t' hk => ?_
  refine ⟨.int ns.sum, H, I.kept hk, ⟨t', ?_⟩, q⟩
  rw [preSum_eq, List.take_of_length_le (by simp), hn]
end Hw

set_option Elab.async false
set_option linter.all false
set_option maxRecDepth 100000
set_option maxHeartbeats 4000000
namespace Hw
open PySem PySem.Spec L2 PyProof.Rows
/-! for i, x in enumerate(t), t a tuple -/
theorem enum_new1 {v : Value} {o : Obj} {G : Heap → Prop} (B : Begins v o G) :
    Meets (Builtin.«enumerate.__new__» ⟨[.type "enumerate", v], []⟩) (fun _ R s => G s.heap ∧
      R (.ok (.ret (.ref (s.heap.push o).objs.size))) { s with heap := (s.heap.push o).push { cls := .type "enumerate", data := .fields #[.none, .bool false, .ref s.heap.objs.size, rawInt 0, .none, .none] } }) :=
  .of_wp fun prog w A R s h => by
    obtain ⟨hp, g, d, tk, os⟩ := s
    obtain ⟨h1, h⟩ := h
    have hsub := sub_enumerate
    have go : ∀ {A' : Around} {E : Value → Shared → Prop} {Q : Value → Shared → Prop}, Q (.ref hp.objs.size) ⟨hp.push o, g, d, tk, os⟩ → wpAny (model prog w) A' (pyIter v) Q E ⟨hp, g, d, tk, os⟩ :=
      fun q => B.iter prog w _ _ ⟨hp, g, d, tk, os⟩ _ h1 q
    wp_walk
    refine wpAny_stack_any fun st => wpAny_pure ?_
    split
    · rename_i c _ _ _ _ _
      cases (c == Value.type "enumerate")
      · wp_walk using go
        exact ⟨_, rfl, h⟩
      · wp_walk using go
        exact ⟨_, rfl, h⟩
    · wp_walk using go
      exact ⟨_, rfl, h⟩
theorem enum_call1 {prog : Program} {w : World} {A : Around} {E : Value → Shared → Prop} {s : Shared} {v : Value} {o : Obj} {G : Heap → Prop} {Q : Value → Shared → Prop} (B : Begins v o G) (h1 : G s.heap)
    (h : ∀ h', IsEnum h' (s.heap.objs.size + 1) s.heap.objs.size 0 .none → h'.get? s.heap.objs.size = some o → (∀ b o, s.heap.get? b = some o → h'.get? b = some o) → Q (.ref (s.heap.objs.size + 1)) { s with heap := h' }) :
    wpAny (model prog w) A (call (.type "enumerate") [v]) Q E s := by
  refine callType_new F.called_enumerate (by decide) (F.typeCall_enumerate_1 _) (F.newCall_enumerate_1 _) (fun obj => F.args_object_init_2 obj _) F.entry_enumerate_new (enum_new1 B) ⟨h1, ?_⟩
  have hz : (s.heap.push o).objs.size = s.heap.objs.size + 1 := Heap.size_push ..
  have he : ((s.heap.push o).push { cls := .type "enumerate", data := .fields #[.none, .bool false, .ref s.heap.objs.size, rawInt 0, .none, .none] }).get? (s.heap.push o).objs.size = some { cls := .type "enumerate", data := .fields #[.none, .bool false, .ref s.heap.objs.size, rawInt 0, .none, .none] } := Heap.get?_push_size _ rfl
  show _ ∧ _
  rw [hz] at he ⊢
  exact ⟨⟨_, he, rfl⟩, h _ he (Heap.get?_push_of_some _ (Heap.get?_push_size _ B.free)) fun b o x => Heap.get?_push_of_some _ (Heap.get?_push_of_some _ x)⟩
/-- the tuple at a as it stands at each turn, each item in a new pair -/
def IteT (K : PySem.W.Frag) (a : Addr) : It :=
  ⟨fun i H => ∃ (xs : List V) (x : V), SqT K H a xs ∧ xs[i]? = some x, fun i H v H' => ∃ T x, v = .ref T ∧ H T = none ∧ H' = upd H T (.tup [.int (i : Nat), x]) ∧ ∀ xs, SqT K H a xs → xs[i]? = some x, fun i H => ∃ xs : List V, SqT K H a xs ∧ xs.length = i⟩
theorem iter_at {h h' : Heap} {it a : Addr} {i : Nat} (x : h.IsTupleIter it a i) (k : ∀ o, h.get? it = some o → h'.get? it = some o) : h'.IsTupleIter it a i := by
  obtain ⟨o, e, r⟩ := x
  exact ⟨o, k o e, r⟩
theorem turn_enumT {P : Program} {w : World} {K : PySem.W.Frag} {elts : List Expr} {kk : Nat} {tpos : Pos} (a e it : Addr) (hae : a ≠ e) (hai : a ≠ it) :
    Turn P w K (.Tuple elts kk tpos) (IteT K a) [e, it] e (fun i h => (∃ old, IsEnum h e it ((i : Nat) : Int) old) ∧ h.IsTupleIter it a i ∧ e ≠ it) where
  mem := List.mem_cons_self
  obj := fun i h st b hb => by
    obtain ⟨⟨old, he⟩, ⟨o, ho, hc, hd⟩, _⟩ := st
    rcases List.mem_cons.mp hb with rfl | hb
    · exact ⟨_, he, fun v q => nomatch q⟩
    · rw [List.mem_singleton.mp hb]
      exact ⟨o, ho, fun v q => by rw [hd] at q; cases q⟩
  keep := fun i h h' st k => ⟨st.1.imp fun old he => k e List.mem_cons_self _ he, iter_at st.2.1 fun o q => k it (List.mem_cons_of_mem _ List.mem_cons_self) o q, st.2.2⟩
  item := by
    rintro X rfl rfl rfl hc i pins s σ H E I hf ⟨⟨old, he⟩, hit, hne⟩ ⟨xs, x, hq, hx⟩
    obtain ⟨its, rv, p, hz⟩ := I.tuple hq
    obtain ⟨u, hu, ru⟩ := rv.get hx
    have hlt : i < its.toArray.size := by simpa using (List.getElem?_eq_some_iff.mp hu).1
    have hel : e < s.heap.objs.size := Heap.lt_size he
    have hil : it < s.heap.objs.size := by obtain ⟨_, q, _⟩ := hit; exact Heap.lt_size q
    refine wpAny_pyNext_enum_itemD (Draws.tuple (A := X.A.in1) (I.ok.hd hc) it a hai its.toArray) he ⟨hit, p⟩ hlt hne (fun z => by
      rcases List.mem_cons.mp z with z | z
      · exact hne z
      · exact hae (List.mem_singleton.mp z).symm) fun y h' tk hy ho hst' hT hsz hk => ?_
    have ey : y = u := by
      have hu' : its.toArray[i]? = some u := by simpa using hu
      have hy : its.toArray[i]? = some y := hy
      rw [hu'] at hy
      exact (Option.some.inj hy).symm
    subst ey
    refine ⟨_, rfl, wpAny_letOwnedTupleGo_enum (s := { s with heap := h', toks := tk + 1 }) ho fun h'' he' sb => ?_⟩
    have hT2 : h''.get? s.heap.objs.size = some { cls := .type "tuple", data := .seq #[.int i tk, y] } := (sb.2 _ (Nat.ne_of_gt hel)).trans hT
    have I1 : Inv X pins σ (upd H s.heap.objs.size (.tup [.int (i : Nat), x])) { s with heap := h'', toks := tk + 1 } :=
      I.turnedNew (t' := tk + 1) (ch := [e, it]) (fun b ob hb q => (sb.2 b (fun z => hb (by simp [z]))).trans (hk b ob (fun z => hb (by simp [z])) (fun z => hb (by simp [z])) q)) hf (Nat.le_refl _)
        ⟨by show 2 ≤ sizeLine; decide, [.int i tk, y], .cons ⟨_, rfl⟩ (.cons ru .nil), ⟨_, hT2, rfl, _, rfl⟩⟩
    refine ⟨.ref s.heap.objs.size, _, I1, rfl, ⟨_, x, rfl, I.hok.fresh (Nat.le_refl _), rfl, fun ys hy => by rw [I.tuple_inj hy hq]; exact hx⟩, ⟨⟨y, ?_⟩, iter_at hst'.1 fun o q => (sb.2 it (Ne.symm hne)).trans q, hne⟩, fun b hb => ?_⟩
    · rw [show ((i + 1 : Nat) : Int) = (i : Int) + 1 from by omega]
      exact he'
    · have hb' : b < s.heap.objs.size := by
        rcases List.mem_cons.mp hb with rfl | hb2
        · exact hel
        · rw [List.mem_singleton.mp hb2]; exact hil
      rw [upd_ne (Nat.ne_of_lt hb')]
      exact (hf b hb).1
  done := by
    rintro X rfl rfl rfl hc i pins s σ H E I hf ⟨⟨old, he⟩, hit, hne⟩ ⟨xs, hq, hx⟩
    obtain ⟨its, rv, p, hz⟩ := I.tuple hq
    obtain ⟨f0, f1, f2, f3, f4, f5⟩ := hf it (List.mem_cons_of_mem _ List.mem_cons_self)
    have hl := rv.length
    have hi : i = its.toArray.size := by rw [← hx, hl]; simp
    subst hi
    exact wpAny_pyNext_enum_endD (Draws.tuple (prog := X.prog) (w := X.w) (A := X.A.in1) (I.ok.hd hc) it a hai its.toArray) he ⟨hit, p⟩ fun h' eb => ⟨rfl, I.turned (t' := s.toks) (fun b o hb q => eb b o hb q) f0 f1 f3 f4 f5⟩
  self := fun A i s Q E st h => st.1.elim fun _ he => wpAny_pyIter_enum he h
def iEnumT (K : PySem.W.Frag) (ta : TA) : TI := fun σ H R => ta σ H fun vs H1 => ∃ a xs, vs = [.ref a] ∧ SqT K H1 a xs ∧ R (IteT K a) H1
theorem pi_enumT {X : Cx} {e : Expr} {ta : TA} {p pos tpos : Pos} {elts : List Expr} {kk : Nat} (hg : Gl X "enumerate") (hm : X.mg "enumerate" = none) (ha : PA X [e] ta) (hs : starEach [e] X.env = [(false, eval e X.env)] := by rfl) :
    PI X (.Tuple elts kk tpos) (.Call (.Name "enumerate" p) [e] [] pos) (iEnumT X.K ta) := by
  refine ⟨fun pins s σ H R I h => Call_ (ld_blt I hg hm boot_enumerate (PyProof.Rows.callWith_type1 (thn (ha.run pos pins s σ H _ I h) fun us s1 ⟨vs, H1, I1, r1, q1⟩ => ?_) hs rfl))⟩
  obtain ⟨a, xs, rfl, hq, q⟩ := q1
  rw [Vals.ref1 r1]
  obtain ⟨its, rv, p', hz⟩ := I1.tuple hq
  have hal : a < s1.heap.objs.size := by obtain ⟨_, e, _⟩ := p'; exact Heap.lt_size e
  refine enum_call1 (begins_tuple a its.toArray) p' fun h' he hit hk => wpAny_pyIter_enum he ?_
  have I2 : Inv X pins σ H1 { s1 with heap := h' } := I1.kept (t' := s1.toks) hk
  refine ⟨s1.heap.objs.size + 1, [s1.heap.objs.size + 1, s1.heap.objs.size], _, _, H1, rfl, I2, turn_enumT a _ _ (Nat.ne_of_lt (Nat.lt_succ_of_lt hal)) (Nat.ne_of_lt hal), ⟨⟨.none, he⟩, ⟨_, hit, rfl, rfl⟩, Nat.succ_ne_self _⟩, fun b hb => ?_, q⟩
  have hle : s1.heap.objs.size ≤ b := by
    rcases List.mem_cons.mp hb with rfl | hb
    · exact Nat.le_succ _
    · rw [List.mem_singleton.mp hb]; exact Nat.le_refl _
  exact I1.fpOk hle (I1.hok.fresh hle)
theorem walk_enumT {K : PySem.W.Frag} {a : Addr} {xs : List V} : Walk (IteT K a) xs.length (fun H => SqT K H a xs) (YPair (fun i => some (.int (i : Nat))) (fun i => xs[i]?)) := by
  refine ⟨fun i H hi q => ⟨xs, xs[i], q, by simp [hi]⟩, fun H q => ⟨xs, q, rfl⟩, fun i H v H' hi q y => ?_⟩
  obtain ⟨T, x, h1, h2, h3, h4⟩ := y
  exact ⟨T, _, x, h1, h2, h3, rfl, h4 xs q⟩
end Hw

set_option Elab.async false
set_option linter.all false
set_option maxRecDepth 100000
set_option maxHeartbeats 4000000
namespace Hw
open PySem L2 PyProof.Rows
section
variable {P : Program} {w : World} {K : PySem.W.Frag} {mg : Str → Option Value} {base : Heap}
theorem rs_no {t : TT} {A u : TS} {D : Ends} {σ : L2.St} {H : Hp} (h : t σ H fun b H1 => if b = true then A { D with nx := u D } σ H1 else u D σ H1) : tSeq (tIfS t A tNext) u D σ H := h
theorem rs_listR {K : PySem.W.Frag} {te : TE} {g : TG} {tb u : TS} {D : Ends} {σ : L2.St} {H : Hp} (P0 : Addr → List V → Hp → Prop) (Pv : Addr → List V → Hp → Nat → L2.St → Hp → Prop) (hw : ∀ Q : VK, (∀ l xs H1, P0 l xs H1 → Q (.ref l) H1) → te σ H Q) (h0 : ∀ l xs H1, P0 l xs H1 → Pv l xs H1 0 σ H1)
    (hl : ∀ l xs H1 i σ H, Pv l xs H1 i σ H → SqL K H l xs) (hs : ∀ l xs H1 i x σ H, P0 l xs H1 → xs[i]? = some x → Pv l xs H1 i σ H → g x σ H fun σ2 H2 => tb { D with nx := Pv l xs H1 (i + 1), ct := Pv l xs H1 (i + 1), bk := u D } σ2 H2)
    (hd : ∀ l xs H1 σ H, P0 l xs H1 → Pv l xs H1 xs.length σ H → u D σ H) : tSeq (tFor (iList K te) g tb) u D σ H :=
  hw _ fun l xs H1 p => ⟨l, rfl, ⟨_, hl _ _ _ _ _ _ (h0 l xs H1 p)⟩, for_list (D := { D with nx := u D }) (xs := xs) (Pv l xs H1) (h0 l xs H1 p) (fun i σ H _ q => hl _ _ _ _ _ _ q) (fun i x σ H hx q => hs l xs H1 i x σ H p hx q) (fun σ H q => hd l xs H1 σ H p q)⟩
theorem rs_t {te : TE} {g : TG} {u : TS} {D : Ends} {σ : L2.St} {H : Hp} (h : te σ H fun x H1 => g x σ H1 (u D)) : tSeq (tAsg te g) u D σ H := h
theorem g2_of {K : PySem.W.Frag} {σ : L2.St} {H : Hp} {i j : Nat} {p : Addr} {x y : V} {R : L2.St → Hp → Prop} (e : SqT K H p [x, y]) (h : R ((σ.set i (some x)).set j (some y)) H) : gTup K 2 (gCons (gName i) (gCons (gName j) gNil)) (.ref p) σ H R :=
  ⟨p, [x, y], rfl, e, rfl, _, [y], rfl, _, [], rfl, rfl, h⟩
end
end Hw

set_option Elab.async false
set_option linter.all false
set_option maxRecDepth 100000
set_option maxHeartbeats 4000000
namespace HN
open PySem PySem.Spec PyProof.Rows PySem.SeqAt
section
variable {prog : Program} {w : World} {A : Around} {E : Value → Shared → Prop} {s : Shared} {K : PySem.W.Frag} {x C f : Addr} {ox : Obj} {od : Option Obj} {b tb : Value}
/-- how an answer is turned about -/
def NotBack (Q : Value → Shared → Prop) (v : Value) (s' : Shared) : Prop := ∃ r, v = .bool r ∧ Q (.bool (!r)) s'
theorem ne_entry {Q : Fin → Shared → Prop} (hu : A.units < cLine) (X : K.In s.heap) (I : PySem.W.InstAt s.heap x ox C od) (hs : PySem.W.findIn K (.ref C) "__eq__" = some (some (.ref f))) (hf : PySem.W.isFn K (.ref f) = true)
    (h : wpAny (model prog w) A (call (.ref f) [.ref x, b]) (NotBack fun v s' => Q (.done (.ret v)) s') E s) : wpAny (model prog w) A (Builtin.«object.__ne__» ⟨[.ref x, b], []⟩) Q E s := by
  have one : wpAny (model prog w) A (callSpecialIfBound? (.ref x) "__eq__" [b]) (fun r s' => ∃ q, r = some (.bool q) ∧ Q (.done (.ret (.bool (!q)))) s') E s :=
    PySem.W.ifBound_K X I hs hf (wpAny_mono h (fun v s' z => by
      obtain ⟨r, e, q⟩ := z
      exact ⟨r, by rw [e], q⟩) fun _ _ e => e)
  unfold Builtin.«object.__ne__»
  repeat (first
    | with_reducible refine wpAny_cRoomFor hu ?_
    | (refine wpAny_bind (m := callSpecialIfBound? (.ref x) (Str.ofString "__eq__") [b]) (wpAny_mono one (fun r s' z => by
        obtain ⟨q, e, hq⟩ := z
        subst e
        repeat (first | exact hq | exact wpAny_pure hq | exact wpAny_truthy_bool hq | (refine wpAny_bind (m := truthy (.bool _)) (wpAny_truthy_bool ?_)) | wp_step)) fun _ _ e => e))
    | wp_step)
theorem ifBound_objNe {M : Model} {args : List Value} {Q : Option Value → Shared → Prop} (X : K.In s.heap) (I : PySem.W.InstAt s.heap x ox C od) (hs : PySem.W.findIn K (.ref C) "__ne__" = some (some (.builtin "object.__ne__")))
    (h : wpAny M A (call (.builtin "object.__ne__") (.ref x :: args)) (fun v => Q (some v)) E s) : wpAny M A (callSpecialIfBound? (.ref x) "__ne__" args) Q E s := by
  simp only [callSpecialIfBound?, bindSpecialIfBound?]
  refine wpAny_holding (wpAny_bind (wpAny_bind (wpAny_bind (I.type.here ((PySem.W.looks_findIn X hs).here ?_)))))
  refine wpAny_bind (wpAny_askSetting (wpAny_ite ?_))
  have last : wpAny M A (call (.builtin "object.__ne__") ([.ref x] ++ args) >>= fun v => pure (some v)) Q E s := wpAny_bind (wpAny_mono h (fun v s' z => wpAny_pure z) fun _ _ z => z)
  have nb := F.cmp_object.ne.bind
  split
  · exact wpAny_bind (wpAny_of_eq (nb _) (wpAny_pure (by exact last)))
  · exact wpAny_tryCatch (wpAny_bind (wpAny_of_eq (nb _) (wpAny_pure (by exact last))))
theorem rich_ne {Q : Value → Shared → Prop} (hu : A.units + 1 < cLine) (X : K.In s.heap) (I : PySem.W.InstAt s.heap x ox C od) (hb : PySem.W.Looks (model prog w) s.heap (typeOf b) tb) (hn : PySem.W.notFirst K C tb = true)
    (hm : PySem.W.mroIn K C (.type "object") = some true) (hs : PySem.W.findIn K (.ref C) "__eq__" = some (some (.ref f))) (hf : PySem.W.isFn K (.ref f) = true) (hne : PySem.W.findIn K (.ref C) "__ne__" = some (some (.builtin "object.__ne__")))
    (h : wpAny (model prog w) A.in1 (call (.ref f) [.ref x, b]) (NotBack Q) E s) : wpAny (model prog w) A (richCompare .NotEq (.ref x) b) Q E s := by
  have one : wpAny (model prog w) A (tryCompare (.ref x) "__ne__" b) (fun r s' => ∃ v, r = some v ∧ Q v s') E s := by
    unfold tryCompare
    refine wpAny_bind (ifBound_objNe X I hne (wpAny_call (codeAny_call_builtin F.cmp_object.ne.plain F.cmpEntry_ne (PySem.W.check_slot F.cmpKind_ne F.cmpSplit_ne (I.type.andThen (PySem.W.looks_mroIn X hm)) (F.cmpArgs_ne _ _) (ne_entry (A := A.in1) hu X I hs hf (wpAny_mono h (fun v s' z => ?_) fun _ _ e => e))))))
    obtain ⟨r, e, q⟩ := z
    refine ⟨r, e, ?_⟩
    exact wpAny_pure ⟨_, rfl, q⟩
  simp only [richCompare, cmpInfo_NotEq, oneThing_ref]
  refine wpAny_holding (wpAny_bind (wpAny_cRoomFor (Nat.lt_of_succ_lt hu) ?_))
  refine wpAny_bind (I.type.here (wpAny_bind (hb.here ?_)))
  split
  · rename_i q
    have e : PySem.W.subIn K tb (.ref C) = some false := by
      have hn' := hn
      unfold PySem.W.notFirst at hn'
      rcases Bool.or_eq_true_iff.mp hn' with e | e
      · rw [beq_iff_eq.mp e] at q; simp at q
      · exact beq_iff_eq.mp e
    refine wpAny_bind ((PySem.W.looks_subIn X e).here ?_)
    simp only [Bool.false_eq_true, if_false]
    refine wpAny_bind (wpAny_mono one (fun r s' z => ?_) fun _ _ z => z)
    obtain ⟨v, e, hq⟩ := z
    subst e
    exact wpAny_pure hq
  · refine wpAny_bind (wpAny_pure ?_)
    simp only [Bool.false_eq_true, if_false]
    refine wpAny_bind (wpAny_mono one (fun r s' z => ?_) fun _ _ z => z)
    obtain ⟨v, e, hq⟩ := z
    subst e
    exact wpAny_pure hq
end
end HN
namespace Hw
open PySem L2 PyProof.Rows
/-- x == y (or !=) where x has a class of the text with its own == -/
def rEqU (K : PySem.W.Frag) (C : Addr) (sp : Sp) (E : XK) (neg : Bool) : R2 := fun x y H Q => ∃ a dx fs t, x = .ref a ∧ H a = some (.ins C dx fs) ∧ TyX K H y t ∧ PySem.W.notFirst K C t = true ∧ sp [.ref a, y] H (fun v H' => ∃ b, v = .bl b ∧ Q (.bl (b != neg)) H') E
/-- the class's own comparison -/
structure EqM (K : PySem.W.Frag) (C f : Addr) : Prop where
  eq : PySem.W.findIn K (.ref C) "__eq__" = some (some (.ref f))
  fn : PySem.W.isFn K (.ref f) = true
  ne : PySem.W.findIn K (.ref C) "__ne__" = some (some (.builtin "object.__ne__"))
  obj : PySem.W.mroIn K C (.type "object") = some true
section
variable {X : Cx} {n : Nat} {CX : CXT} {C f : Addr} {fd : FuncData} {ps : List Str} {sp : Sp} {E : XK}
theorem own_run (F : FnOk X.prog X.w X.K X.mg X.base CX n f fd ps sp) (hb : Binds X.K fd ps []) (hx : Passes CX X E) {A : Around} (hr : Room n A) (hfr : A.frames = X.A.frames) {pins : List (Addr × Obj)} {σ : L2.St} {H : Hp} {s : Shared} {vs : List V} {us : List Value} (I : Inv X pins σ H s) (r2 : Vals vs us) {R : VK}
    (hsp : sp vs H R E) {QQ : Value → Shared → Prop} (hq : ∀ z u H' s', Inv X pins σ H' s' → RelV z u → R z H' → QQ u s') : wpAny (model X.prog X.w) A (call (.ref f) us) QQ X.xe s := by
  have e0 : Env0 X.prog X.w X.K X.mg X.base A X.stack s H := by
    have e := I.env0
    exact ⟨by rw [hfr]; exact e.frames, e.mod, e.bs, e.bsz, e.funs, e.frf, e.hok, e.bare⟩
  have hl := F.len _ _ _ _ hsp
  have hl2 : us.length = vs.length := (Vals.length r2).symm
  refine wpAny_call (codeAny_mono (F.run A X.stack s H ⟨us, []⟩ us vs _ E hr e0 (by
    have := hb s us I.kIn (by simpa [hl2] using hl)
    simpa using this) r2 hsp) fun r s' z => ?_)
  cases r with
  | error e => exact hx pins σ H s e s' I z
  | ok fl =>
    cases fl with
    | ret u =>
      obtain ⟨z, H', I', rz, q⟩ := I.after z
      exact hq z u H' s' I' rz q
    | next => exact False.elim z
    | brk => exact False.elim z
    | cont => exact False.elim z
theorem eqU_run (F : FnOk X.prog X.w X.K X.mg X.base CX n f fd ps sp) (hb : Binds X.K fd ps []) (hx : Passes CX X E) {A : Around} (hr : Room n A) (hfr : A.frames = X.A.frames) {pins : List (Addr × Obj)} {σ : L2.St} {H : Hp} {s : Shared} {a : Addr} {y : V} {v : Value} (I : Inv X pins σ H s) (ry : RelV y v) {R : Bool → Hp → Prop}
    (hsp : sp [.ref a, y] H (fun z H' => ∃ b, z = .bl b ∧ R b H') E) {QQ : Value → Shared → Prop} (hq : ∀ b H' s', Inv X pins σ H' s' → R b H' → QQ (.bool b) s') : wpAny (model X.prog X.w) A (call (.ref f) [.ref a, v]) QQ X.xe s :=
  own_run F hb hx hr hfr I (.cons (show RelV (V.ref a) (Value.ref a) from rfl) (.cons ry .nil)) hsp fun z u H' s' I' rz ⟨b, ez, q⟩ => by
    subst ez
    cases rz
    exact hq b H' s' I' q
/-- len of an object with its own __len__ -/
theorem call_lenU (F : FnOk X.prog X.w X.K X.mg X.base CX n f fd ps sp) (hb : Binds X.K fd ps []) (hx : Passes CX X E) (hs : PySem.W.findIn X.K (.ref C) "__len__" = some (some (.ref f))) (hf : PySem.W.isFn X.K (.ref f) = true) (hr : Room (n + 1) X.A) :
    CallR X (.builtin "len") (fun xs H Q => ∃ a dx fs, xs = [V.ref a] ∧ H a = some (.ins C dx fs) ∧ sp [.ref a] H (fun v H' => ∃ k : Nat, v = .int k ∧ k ≤ 1000000 ∧ Q (.int k) H') E) := by
  intro pins s σ H xs us Q I r h
  obtain ⟨a, dx, fs, rfl, ha, hsp⟩ := h
  obtain ⟨u, rfl, ru⟩ := vals1 r
  cases ru
  obtain ⟨m1, J, _⟩ := ins_get I.hok ha
  obtain ⟨od, J, _⟩ := J.look
  obtain ⟨m, hF⟩ := I.fr
  refine PySem.W.len_K hF I.ok.mod.kin J hs hf ?_
  refine own_run F hb hx hr.in1 rfl I (.cons (show RelV (V.ref a) (Value.ref a) from rfl) .nil) hsp fun z u H' s' I' rz q => ?_
  obtain ⟨k, ez, hk, q⟩ := q
  subst ez
  obtain ⟨t, rfl⟩ := rz
  exact ⟨⟨by omega, by have : (2 : Int) ^ 63 = 9223372036854775808 := by decide
                       omega⟩, .int k, H', I'.tok _, ⟨_, rfl⟩, q⟩
theorem op_eqU (F : FnOk X.prog X.w X.K X.mg X.base CX n f fd ps sp) (hb : Binds X.K fd ps []) (hx : Passes CX X E) (M : EqM X.K C f) (hr : Room n X.A) : OpR X (compareOp .Eq) (rEqU X.K C sp E false) := by
  intro pins s σ H x y v u Q I rx ry hq
  obtain ⟨a, dx, fs, t, rfl, ha, ty, nf, hsp⟩ := hq
  cases rx
  obtain ⟨m1, J, _⟩ := ins_get I.hok ha
  obtain ⟨od, J, _⟩ := J.look
  obtain ⟨m, hF⟩ := I.fr
  obtain ⟨Pk, Z, pk, _⟩ := kit_of I ry ty
  refine PySem.W.cmp_K (op := .Eq) (tb := t) hr.units0 hF I.ok.mod.kin J (Z.ty _ _ I.kIn pk) nf M.eq M.fn ?_
  exact eqU_run F hb hx hr rfl I ry hsp fun b H' s' I' q => ⟨.bl b, H', I', rfl, by simpa using q⟩
theorem op_neU (F : FnOk X.prog X.w X.K X.mg X.base CX n f fd ps sp) (hb : Binds X.K fd ps []) (hx : Passes CX X E) (M : EqM X.K C f) (hr : Room (n + 1) X.A) : OpR X (compareOp .NotEq) (rEqU X.K C sp E true) := by
  intro pins s σ H x y v u Q I rx ry hq
  obtain ⟨a, dx, fs, t, rfl, ha, ty, nf, hsp⟩ := hq
  cases rx
  obtain ⟨m1, J, _⟩ := ins_get I.hok ha
  obtain ⟨od, J, _⟩ := J.look
  obtain ⟨Pk, Z, pk, _⟩ := kit_of I ry ty
  refine HN.rich_ne (tb := t) (by have := hr.units; omega) I.kIn J (Z.ty _ _ I.kIn pk) nf M.obj M.eq M.fn M.ne ?_
  exact eqU_run F hb hx hr.in1 rfl I ry hsp fun b H' s' I' q => ⟨b, rfl, ⟨.bl (!b), H', I', rfl, by cases b <;> simpa using q⟩⟩
end
end Hw

set_option Elab.async false
set_option linter.all false
set_option maxRecDepth 100000
set_option maxHeartbeats 4000000
namespace Hw
open PySem L2 PyProof.Rows
def topS (i : Nat) : Stmt := PySem.Challenge.pw_healedwebs_k45_limits_and_numbers_refuse.main.body.getD i (.Pass ⟨0, 0, 0, 0⟩)
abbrev sPot : Stmt := topS 32
abbrev sTake : Stmt := topS 33
abbrev sOf : Stmt := topS 34
abbrev sCells : Stmt := topS 35
section
variable {P : Program} {w : World} {K : PySem.W.Frag} {mg : Str → Option Value} {base : Heap}
theorem scPot : FnScope ["script", "place", "cell", "own", "small"] ["script", "place"] (defScope sPot) := ⟨rfl, rfl, rfl, by decide +kernel, rfl, by decide +kernel, by decide +kernel⟩
theorem scTake : FnScope ["pot", "upto", "digit", "prime", "blend"] ["pot", "upto"] (defScope sTake) := ⟨rfl, rfl, rfl, by decide +kernel, rfl, by decide +kernel, by decide +kernel⟩
theorem scOf : FnScope ["pot", "some"] ["pot", "some"] (defScope sOf) := ⟨rfl, rfl, rfl, by decide +kernel, rfl, by decide +kernel, by decide +kernel⟩
theorem scCells : FnScope ["script", "most"] ["script", "most"] (defScope sCells) := ⟨rfl, rfl, rfl, by decide +kernel, rfl, by decide +kernel, by decide +kernel⟩
theorem b01 (b : Prop) [Decidable b] : -(2 ^ 64) < (if b then (1 : Int) else 0) ∧ (if b then (1 : Int) else 0) < 2 ^ 64 := by
  split <;> exact ⟨by decide, by decide⟩
/-- names of the built-ins -/
structure Blt (mg : Str → Option Value) : Prop where
  len : mg "len" = none
  sum : mg "sum" = none
  int : mg "int" = none
  abs : mg "abs" = none
  list : mg "list" = none
  range : mg "range" = none
  max : mg "max" = none
  min : mg "min" = none
theorem ok_pot {f : Addr} {fd : FuncData} {k : Nat} (F : Fun K "_law_pot" "_law_pot" sPot f fd) (B : Blt mg) : FnOk P w K mg base CX0 (k + 1) f fd ["script", "place"] (spPot K) := by
  refine F.ok scPot (fun vs H Q E h => ?_) (fun cdv A outer s H vs Q E hr h => ?_)
  · obtain ⟨a, ns, i, rfl, _⟩ := h
    rfl
  · obtain ⟨a, ns, i, rfl, hS, hlen, h0, h1, q⟩ := h
    refine ⟨_, Evl.pss_cut (ps_set (i := 2) scPot.nd rfl (.inl rfl) (pe_ifExp (pt_cmpR op_lt (pv 1) (pe_callB call_len_seq (by rfl) B.len PySem.boot_len (pa_cons (pv 0) pa_nil)) (nomark _))
        (pe_ix ix_list (pv 0) (pv 1) (fun _ _ => rfl))
        (pe_op op_add (pe_op op_add (pe_op op_mod (pe_callB (cr_sum rfl) (by rfl) B.sum PyProof.Rows.boot_sum (pa_cons (pe_slice sl_list (pv 0) po_none (po_some pe_int)) pa_nil)) pe_int) (pe_op op_mul pe_int (pv 1))) pe_int)))
      (pss_cons (ps_set (i := 3) scPot.nd rfl (.inl rfl) (pe_op op_mul (pe_op op_mod (pe_callTy call_int1 (by rfl) B.int PyProof.Rows.boot_int (pa_cons (pe_callB call_abs (by rfl) B.abs PyProof.Rows.boot_abs (pa_cons (pv 2) pa_nil)) pa_nil))
          (pe_op op_powW (pe_op op_powW pe_int pe_int) pe_int))
          (pe_callTy call_int1 (by rfl) B.int PyProof.Rows.boot_int (pa_cons (pe_cmpR op_ge (pe_callB call_abs (by rfl) B.abs PyProof.Rows.boot_abs (pa_cons (pv 2) pa_nil)) (pe_op op_powW pe_int pe_int) (nomark _)) pa_nil))))
      (pss_cons (ps_set (i := 4) scPot.nd rfl (.inl rfl) (pe_op op_mod (pe_callTy call_int1 (by rfl) B.int PyProof.Rows.boot_int (pa_cons (pv 2) pa_nil)) pe_int))
      (pss_one (ps_ret (pe_lst (pa_cons (pv 3) (pa_cons (pe_op op_mod (pe_callTy call_int1 (by rfl) B.int PyProof.Rows.boot_int (pa_cons
        (pe_op op_add (pe_op op_add (pe_op op_mul (pv 4) pe_int) (pe_op op_mul (pe_op op_mul pe_int (pv 1)) (pv 1))) pe_int) pa_nil)) pe_int) (pa_cons pe_int pa_nil)))))))), ?_⟩
    -- the cell: any int, whatever the way
    refine ⟨fun σ' H' => ∃ c : Int, σ' = [some (.ref a), some (.int i), some (.int c), none, none] ∧ Same H H', ?_, ?_⟩
    · refine ⟨_, rfl, .ref a, rfl, a, ns.map V.int, rfl, .inl hS, _, _, rfl, rfl, _, rfl, ite2 (fun e => ?_) (fun e => ?_)⟩
      · have e' : i < (ns.map V.int).length := of_decide_eq_true e
        obtain ⟨j, rfl⟩ : ∃ j : Nat, i = (j : Int) := ⟨i.toNat, by omega⟩
        have hj : j < ns.length := by rw [List.length_map] at e'; omega
        refine ⟨.ref a, rfl, .int (j : Int), rfl, a, _, _, .int ns[j], rfl, rfl, hS, atI_nat (j := j) ?_, ns[j], rfl, Same.refl H⟩
        rw [List.getElem?_map, List.getElem?_eq_getElem hj]; rfl
      · refine ⟨.ref a, rfl, 1, rfl, a, _, rfl, hS, fun c nc => ?_⟩
        have s1 : Same H (upd H c (.lst (cutV (ns.map V.int) none (some 1)))) := same_upd nc
        have ec : cutV (ns.map V.int) none (some 1) = (ns.take 1).map V.int := by
          unfold cutV
          rw [show HT.sIx (ns.map V.int).length (ns.map V.int).length (some 1) = min 1 (ns.map V.int).length from HT.sIx_nat _ _ 1, HT.sIx_none]
          rw [List.length_map, List.drop_zero, Nat.sub_zero, List.map_take]
          rw [List.take_eq_take_iff, List.length_map]; omega
        refine ⟨c, ns.take 1, rfl, sql_of (by rw [upd_same, ec]), ?_⟩
        refine ⟨_, _, rfl, rfl, (by show (0 : Int) < 1000003; decide), .int i, rfl, _, _, rfl, rfl, .inl ⟨by decide, by decide⟩, _, _, rfl, rfl, _, _, rfl, rfl, _, rfl, s1⟩
    · rintro σ' H1 ⟨c, rfl, s1⟩
      refine ⟨.int c, rfl, c, rfl, .inl ⟨_, rfl, _, _, rfl, rfl, ⟨by decide, by decide +kernel⟩, _, _, rfl, rfl, ⟨by decide, by decide +kernel⟩, _, _, rfl, rfl, (by show (0 : Int) < ((10 : Int) ^ Int.toNat 60) ^ Int.toNat 5; decide +kernel), ?_⟩⟩
      refine ⟨.int c, rfl, c, rfl, _, _, rfl, rfl, ⟨by decide, by decide +kernel⟩, _, _, rfl, rfl, .inr ⟨_, rfl, _, _, rfl, rfl, .inr ?_, ?_⟩⟩
      · exact b01 _
      have own0 : ∀ (x m : Int) (b : Prop) [Decidable b], m ≠ 0 → 0 ≤ x % m * (if b then 1 else 0) := fun x m b _ hm => Int.mul_nonneg (Int.emod_nonneg _ hm) (by split <;> decide)
      refine ⟨.int c, rfl, .inl ⟨_, rfl, _, _, rfl, rfl, (by show (0 : Int) < 2305843009213693951; decide), ?_⟩⟩
      have e0 := Int.emod_nonneg c (show (2305843009213693951 : Int) ≠ 0 by decide)
      have e1 := Int.emod_lt_of_pos c (show (0 : Int) < 2305843009213693951 by decide)
      refine ⟨_, rfl, .int (c % 2305843009213693951), rfl, _, _, rfl, rfl, .inl ⟨by omega, by omega⟩, .int i, rfl, _, _, rfl, rfl, .inl ⟨by decide, by decide⟩, .int i, rfl, _, _, rfl, rfl, .inr ⟨by omega, by omega⟩,
        _, _, rfl, rfl, _, _, rfl, rfl, .inl ⟨_, rfl, _, _, rfl, rfl, (by show (0 : Int) < 2305843009213693921; decide), by show 3 ≤ sizeLine; decide, fun p hp => ?_⟩⟩
      refine q p _ (s1.trans (same_upd hp)) (s1.free hp) ⟨⟨_, _, _, upd_same, own0 _ _ _ (by decide +kernel), Int.emod_nonneg _ (by decide), ?_, by decide, by decide⟩⟩
      exact Int.lt_of_lt_of_le (Int.emod_lt_of_pos _ (by decide)) (by decide)
theorem ok_take {f : Addr} {fd : FuncData} {k : Nat} (F : Fun K "_law_take" "_law_take" sTake f fd) (B : Blt mg) : FnOk P w K mg base CX0 (k + 1) f fd ["pot", "upto"] spTake := by
  refine F.ok scTake (fun vs H Q E h => ?_) (fun cdv A outer s H vs Q E hr h => ?_)
  · obtain ⟨a, u, N, rfl, _⟩ := h
    rfl
  · obtain ⟨a, u, N, rfl, hP, hN, hu0, hu1, q⟩ := h
    refine ⟨_, pss_cons (ps_if (pt_cmpR op_gt (pe_ix ix_list (pv 0) pe_int (fun _ _ => rfl)) pe_int (nomark _))
        (pss_cons (ps_set (i := 2) scTake.nd rfl (.inl rfl) (pe_op op_mod (pe_callTy call_int1 (by rfl) B.int PyProof.Rows.boot_int (pa_cons (pe_ix ix_list (pv 0) pe_int (fun _ _ => rfl)) pa_nil)) (pv 1)))
        (pss_cons (ps_asg (pe_op op_fdiv (pe_ix ix_list (pv 0) pe_int (fun _ _ => rfl)) (pv 1)) (pg_sub (pv 0) pe_int set_list))
        (pss_one (ps_ret (pv 2))))) pss_nil)
      (pss_cons (ps_asg (pe_op op_add (pe_ix ix_list (pv 0) pe_int (fun _ _ => rfl)) pe_int) (pg_sub (pv 0) pe_int set_list))
      (pss_cons (ps_set (i := 3) scTake.nd rfl (.inl rfl) (pe_ix ix_list (pe_lst (pa_cons pe_int (pa_cons pe_int (pa_cons pe_int (pa_cons pe_int (pa_cons pe_int pa_nil))))))
          (pe_op op_mod (pe_callTy call_int1 (by rfl) B.int PyProof.Rows.boot_int (pa_cons (pe_ix ix_list (pv 0) pe_int (fun _ _ => rfl)) pa_nil)) pe_int) (fun _ _ => rfl)))
      (pss_cons (ps_set (i := 4) scTake.nd rfl (.inl rfl) (pe_op op_mod (pe_callTy call_int1 (by rfl) B.int PyProof.Rows.boot_int (pa_cons (pe_op op_powW (pe_callTy call_int1 (by rfl) B.int PyProof.Rows.boot_int (pa_cons
          (pe_op op_add (pe_op op_add (pe_ix ix_list (pv 0) pe_int (fun _ _ => rfl)) (pe_op op_mul (pe_op op_mul pe_int (pe_ix ix_list (pv 0) pe_int (fun _ _ => rfl))) (pe_ix ix_list (pv 0) pe_int (fun _ _ => rfl)))) pe_int) pa_nil)) pe_int) pa_nil)) (pv 3)))
      (pss_cons (ps_set (i := 4) scTake.nd rfl (.inl rfl) (pe_op op_mod (pe_callTy call_int1 (by rfl) B.int PyProof.Rows.boot_int (pa_cons (pe_op op_mul (pv 4) (pe_op op_add (pe_op op_mod (pe_callTy call_int1 (by rfl) B.int PyProof.Rows.boot_int (pa_cons (pv 4) pa_nil)) pe_int)
          (pe_op op_mul pe_int (pe_ix ix_list (pv 0) pe_int (fun _ _ => rfl))))) pa_nil)) pe_int))
      (pss_one (ps_ret (pe_op op_mod (pe_callTy call_int1 (by rfl) B.int PyProof.Rows.boot_int (pa_cons (pe_op op_fdiv (pv 4) pe_int) pa_nil)) (pv 1)))))))), ?_⟩
    obtain ⟨x, y, z, e, hx, hy, hy1, hz, hz1⟩ := hP.ex
    have hS : SqL K H a [.int x, .int y, .int z] := sql_of e
    refine ⟨.ref a, rfl, a, _, 0, .int x, rfl, rfl, hS, rfl, _, _, rfl, rfl, _, rfl, ite2 (fun c => ?_) (fun c => ?_)⟩
    · have c' : 0 < x := of_decide_eq_true c
      refine ⟨.ref a, rfl, a, _, 0, .int x, rfl, rfl, hS, rfl, .inl ⟨x, rfl, .int u, rfl, _, _, rfl, rfl, hu0, ?_⟩⟩
      refine ⟨.ref a, rfl, a, _, 0, .int x, rfl, rfl, hS, rfl, .int u, rfl, _, _, rfl, rfl, ⟨hu0, by omega⟩, .ref a, rfl, a, _, 0, 0, rfl, rfl, e, rfl, ?_⟩
      refine ⟨.int (x % u), rfl, ?_⟩
      exact q _ _ (Int.emod_nonneg _ (by omega)) (Int.emod_lt_of_pos _ hu0) ((SameX.refl a H).put) ⟨⟨_, y, z, upd_same, Int.ediv_nonneg hx (by omega), hy, hy1, hz, by omega⟩⟩
    · refine ⟨.ref a, rfl, a, _, 2, .int z, rfl, rfl, hS, rfl, _, _, rfl, rfl, .ref a, rfl, a, _, 2, 2, rfl, rfl, e, rfl, ?_⟩
      have e2 : upd H a (.lst ([V.int x, .int y, .int z].set 2 (.int (z + 1)))) a = some (.lst [.int x, .int y, .int (z + 1)]) := upd_same
      generalize hH2 : upd H a (.lst ([V.int x, .int y, .int z].set 2 (.int (z + 1)))) = H2 at e2 ⊢
      have s2 : SameX a H H2 := by rw [← hH2]; exact (SameX.refl a H).put
      refine ⟨by show 5 ≤ sizeLine; decide, fun p hp => ?_⟩
      have s3 : Same H2 (upd H2 p (.lst [.int 2147483647, .int 2147483629, .int 2147483587, .int 2147483579, .int 2147483563])) := same_upd hp
      have hp1 : (upd H2 p (.lst [.int 2147483647, .int 2147483629, .int 2147483587, .int 2147483579, .int 2147483563])) p = some (.lst [.int 2147483647, .int 2147483629, .int 2147483587, .int 2147483579, .int 2147483563]) := upd_same
      have e3 := s3 _ _ e2
      have s4 := s2.trans (.of s3)
      generalize (upd H2 p (.lst [.int 2147483647, .int 2147483629, .int 2147483587, .int 2147483579, .int 2147483563])) = H3 at s3 hp1 e3 s4 ⊢
      have hS3 : SqL K H3 a [.int x, .int y, .int (z + 1)] := sql_of e3
      refine ⟨.ref a, rfl, a, _, 2, .int (z + 1), rfl, rfl, hS3, rfl, .inl ⟨_, rfl, _, _, rfl, rfl, (by show (0 : Int) < 5; decide), ?_⟩⟩
      have m0 := Int.emod_nonneg (z + 1) (show (5 : Int) ≠ 0 by decide)
      have m1 := Int.emod_lt_of_pos (z + 1) (show (0 : Int) < 5 by decide)
      obtain ⟨pr, hpr, hp0, hp2⟩ : ∃ pr : Int, atI [V.int 2147483647, .int 2147483629, .int 2147483587, .int 2147483579, .int 2147483563] ((z + 1) % 5) = some (.int pr) ∧ 0 < pr ∧ pr < 2 ^ 31 := by
        generalize (z + 1) % 5 = m at m0 m1
        obtain h | h | h | h | h : m = 0 ∨ m = 1 ∨ m = 2 ∨ m = 3 ∨ m = 4 := by omega
        all_goals (subst h; exact ⟨_, rfl, by decide, by decide⟩)
      refine ⟨p, _, _, .int pr, rfl, rfl, sql_of hp1, hpr, ?_⟩
      -- blend
      refine ⟨.ref a, rfl, a, _, 1, .int y, rfl, rfl, hS3, rfl, .ref a, rfl, a, _, 2, .int (z + 1), rfl, rfl, hS3, rfl, _, _, rfl, rfl, .inl ⟨by decide, by decide⟩,
        .ref a, rfl, a, _, 2, .int (z + 1), rfl, rfl, hS3, rfl, _, _, rfl, rfl, .inr ⟨by omega, by omega⟩, _, _, rfl, rfl, _, _, rfl, rfl, .inl ⟨_, rfl, _, _, rfl, rfl, ⟨by decide, ?_⟩, .inl ⟨_, rfl, .int pr, rfl, _, _, rfl, rfl, hp0, ?_⟩⟩⟩
      · have w0 : 0 ≤ (z + 1) * (z + 1) := Int.mul_nonneg (by omega) (by omega)
        have w1 : (z + 1) * (z + 1) ≤ 1073741824 * 1073741824 := Int.mul_le_mul (by omega) (by omega) (by omega) (by omega)
        have hb : Builtin.Int.intBits (y + 98343 * (z + 1) * (z + 1) + 477) ≤ 100 := by
          refine bits_nat ?_
          rw [Int.mul_assoc]
          generalize (z + 1) * (z + 1) = ww at w0 w1
          omega
        omega
      generalize ((y + 98343 * (z + 1) * (z + 1) + 477) ^ Int.toNat 3) = big
      have b0 := Int.emod_nonneg big (show pr ≠ 0 by omega)
      have b1 := Int.emod_lt_of_pos big hp0
      refine ⟨.int (big % pr), rfl, .int (big % pr), rfl, .inl ⟨_, rfl, _, _, rfl, rfl, (by show (0 : Int) < 10009; decide), .ref a, rfl, a, _, 2, .int (z + 1), rfl, rfl, hS3, rfl, _, _, rfl, rfl, .inl ⟨by decide, by decide⟩, _, _, rfl, rfl,
        _, _, rfl, rfl, .inl ⟨by omega, by omega⟩, .inl ⟨_, rfl, _, _, rfl, rfl, (by show (0 : Int) < 2305843009213693907; decide), ?_⟩⟩⟩
      refine ⟨_, rfl, _, _, rfl, rfl, ⟨by decide, by decide⟩, .inl ⟨_, rfl, .int u, rfl, _, _, rfl, rfl, hu0, ?_⟩⟩
      exact q _ _ (Int.emod_nonneg _ (by omega)) (Int.emod_lt_of_pos _ hu0) s4 ⟨⟨x, y, z + 1, e3, hx, hy, hy1, by omega, by omega⟩⟩
theorem ok_of {f fT : Addr} {fd fdT : FuncData} {k : Nat} (F : Fun K "_law_of" "_law_of" sOf f fd) (B : Blt mg) (GT : FnOk P w K mg base CX0 k fT fdT ["pot", "upto"] spTake) (gT : mg "_law_take" = some (.ref fT)) (kT : PySem.W.keepIn K (.ref fT) = true) (bT : Binds K fdT ["pot", "upto"] []) :
    FnOk P w K mg base CX0 (k + 1) f fd ["pot", "some"] (spOf K) := by
  refine F.ok scOf (fun vs H Q E h => ?_) (fun cdv A outer s H vs Q E hr h => ?_)
  · obtain ⟨a, b, xs, N, rfl, _⟩ := h
    rfl
  · obtain ⟨a, b, xs, N, rfl, hP, hN, hS, hab, h0, h1, q⟩ := h
    refine ⟨_, pss_one (ps_ret (pe_ix ix_list (pv 1) (pe_call GT hr (by rfl) gT kT bT .nil pass0 (pa_cons (pv 0) (pa_cons (pe_callB call_len_seq (by rfl) B.len PySem.boot_len (pa_cons (pv 1) pa_nil)) pa_nil))) (fun _ _ => rfl))), ?_⟩
    refine ⟨.ref b, rfl, .ref a, rfl, .ref b, rfl, b, xs, rfl, .inl hS, a, (xs.length : Int), N, rfl, hP, hN, by omega, by omega, fun r H' r0 r1 sx hP' => ?_⟩
    have hj : r.toNat < xs.length := by omega
    have hS' : SqL K H' b xs := by
      rcases hS with (h | ⟨o, h⟩) | h
      · exact .inl (.inl (sx _ _ (Ne.symm hab) h))
      · exact .inl (.inr ⟨o, sx _ _ (Ne.symm hab) h⟩)
      · exact .inr h
    refine ⟨b, xs, r, xs[r.toNat], rfl, rfl, hS', ?_, q r.toNat _ H' (List.getElem?_eq_getElem hj) sx hP'⟩
    exact at_of (j := r.toNat) (by omega) (List.getElem?_eq_getElem hj)
theorem ok_cells {f : Addr} {fd : FuncData} {k : Nat} (F : Fun K "_law_cells" "_law_cells" sCells f fd) (B : Blt mg) : FnOk P w K mg base CX0 (k + 1) f fd ["script", "most"] (spCells K) := by
  refine F.ok scCells (fun vs H Q E h => ?_) (fun cdv A outer s H vs Q E hr h => ?_)
  · obtain ⟨a, xs, m, rfl, _⟩ := h
    rfl
  · obtain ⟨a, xs, m, rfl, hS, hl, h0, h1, q⟩ := h
    refine ⟨_, pss_one (ps_ret (pe_listRg rfl (by rfl) B.list (prg_1 (by rfl) B.range (pe_callB (call_max2 rfl) (by rfl) B.max PyProof.Rows.boot_max (pa_cons pe_int (pa_cons
      (pe_callB (call_min2 rfl) (by rfl) B.min PyProof.Rows.boot_min (pa_cons (pv 1) (pa_cons (pe_callB call_len_seq (by rfl) B.len PySem.boot_len (pa_cons (pv 0) pa_nil)) pa_nil))) pa_nil)))))), ?_⟩
    refine ⟨.int m, rfl, .ref a, rfl, a, xs, rfl, .inl hS, _, _, rfl, _, _, rfl, _, rfl, ?_⟩
    have key : ∀ v : Int, 0 < v → v ≤ m → v ≤ 1000 → RgOk 0 v ∧ ∀ p, H p = none → Q (.ref p) (upd H p (.lst (rgV 0 v))) := fun v v0 v1 v2 => ⟨.of_le (by omega) (by omega) (by omega) (by omega), fun p hp => by
      refine q v.toNat p _ (by omega) (by omega) (same_upd hp) hp ?_
      rw [upd_same]
      unfold rgV
      rw [Int.sub_zero]
      refine congrArg (fun l => some (HO.lst l)) (List.map_congr_left fun i _ => ?_)
      rw [Int.zero_add]⟩
    refine key _ ?_ ?_ ?_
    all_goals (repeat' split) <;> omega
end
end Hw

set_option Elab.async false
set_option linter.all false
set_option maxRecDepth 100000
set_option maxHeartbeats 4000000
namespace Hw
open PySem L2 PyProof.Rows
theorem valV_seen {ns : List Str} (w : Str) : valV (ns.map fun z => ((Sum.inr z : Key), V.bl true)) (Sum.inr w) = if w ∈ ns then some (V.bl true) else none := by
  induction ns with
  | nil => exact valV_nil
  | cons z ns ih =>
    rw [List.map_cons]
    by_cases h : z = w
    · subst h
      rw [valV_pos rfl, if_pos List.mem_cons_self]
    · rw [valV_neg (fun e => h (Sum.inr.inj e)), ih]
      by_cases hm : w ∈ ns
      · rw [if_pos hm, if_pos (List.mem_cons_of_mem _ hm)]
      · rw [if_neg hm, if_neg (fun e => by rcases List.mem_cons.mp e with rfl | e; exact h rfl; exact hm e)]
theorem rs_while {c : TT} {tb u : TS} {D : Ends} {σ : L2.St} {H : Hp} (Pv : L2.St → Hp → Prop) (μ : L2.St → Hp → Nat) (h0 : Pv σ H)
    (hs : ∀ σ H, Pv σ H → ∃ b : Bool, (∀ Q : Bool → Hp → Prop, Q b H → c σ H Q) ∧ (b = true → tb { D with nx := fun σ' H' => Pv σ' H' ∧ μ σ' H' < μ σ H, ct := fun σ' H' => Pv σ' H' ∧ μ σ' H' < μ σ H, bk := u D } σ H) ∧ (b = false → u D σ H)) :
    tSeq (tWhile c tb) u D σ H := by
  refine ⟨fun m σ H => m = μ σ H ∧ Pv σ H, ⟨_, rfl, h0⟩, ?_⟩
  rintro m σ H ⟨rfl, p⟩
  obtain ⟨b, hc, h1, h2⟩ := hs σ H p
  refine hc _ ?_
  cases b with
  | true => exact ⟨_, fun σ' H' ⟨p', l⟩ => ⟨_, l, rfl, p'⟩, h1 rfl⟩
  | false => exact h2 rfl
def at7 (σ : L2.St) : Nat := match σ[7]? with
  | some (some (V.int k)) => (400 - k).toNat
  | _ => 0
theorem cut2 (w : Str) : cutS w (some 2) none = SL (w.cps.toList.drop 2) := by
  unfold cutS SL
  rw [show HT.sIx w.length 0 (some 2) = min 2 w.length from HT.sIx_nat w.length 0 2, HT.sIx_none]
  refine congrArg (fun l : List Nat => (⟨l.toArray⟩ : Str)) ?_
  rw [len_cps]
  have e : w.cps.toList.drop (min 2 w.cps.toList.length) = w.cps.toList.drop 2 := by
    by_cases h : 2 ≤ w.cps.toList.length
    · rw [Nat.min_eq_left h]
    · rw [Nat.min_eq_right (by omega), List.drop_of_length_le (Nat.le_refl _), List.drop_of_length_le (by omega)]
  rw [e]
  refine List.take_of_length_le ?_
  rw [List.length_drop]; omega
theorem cand_succ (w : Str) (k : Nat) : (SL [97 + k / 26] ++ SL [97 + k % 26]) ++ cutS (cand w k) (some 2) none = cand w (k + 1) := by
  refine str_ext ?_
  rw [app_cps, app_cps, cut2, cand_drop]; rfl
def wordsD : List V := [.str "places", .str "tie", .str "come", .str "die", .str "ring", .str "all", .str "least"]
theorem words_nm : ∀ v ∈ wordsD, ∃ z, v = V.str z ∧ Nm z := by
  intro v hv
  simp only [wordsD, List.mem_cons, List.not_mem_nil, or_false] at hv
  rcases hv with rfl | rfl | rfl | rfl | rfl | rfl | rfl <;> exact ⟨_, rfl, by decide +kernel⟩
def fewD : List V := [.int 0, .int 1, .int 1, .int 2, .int 7]
theorem few_int : ∀ v ∈ fewD, ∃ x : Nat, v = V.int (x : Int) ∧ x ≤ 7 := by
  intro v hv
  simp only [fewD, List.mem_cons, List.not_mem_nil, or_false] at hv
  rcases hv with rfl | rfl | rfl | rfl | rfl
  · exact ⟨0, rfl, by decide⟩
  · exact ⟨1, rfl, by decide⟩
  · exact ⟨1, rfl, by decide⟩
  · exact ⟨2, rfl, by decide⟩
  · exact ⟨7, rfl, by decide⟩
/-- one of the signs of a text, or of the items of a list -/
def spOfS : Sp := fun vs H Q _ => ∃ (a : Addr) (z : Str) (N : Nat), vs = [.ref a, .str z] ∧ Pot H a N ∧ N < 1000000000 ∧ 0 < z.length ∧ z.length < 1000 ∧ ∀ c H', c ∈ z.cps.toList → SameX a H H' → Pot H' a (N + 1) → Q (.str (SL [c])) H'
def spOf2 (K : PySem.W.Frag) : Sp := fun vs H Q E => spOf K vs H Q E ∨ spOfS vs H Q E
/-- many unlike names -/
def spNames : Sp := fun vs H Q _ => ∃ (a : Addr) (m N : Nat), vs = [.ref a, .int m] ∧ Pot H a N ∧ N + 11 * m < 900000000 ∧ m ≤ 300 ∧
  ∀ p (ns : List Str) H', ns.length = m → ns.Nodup → (∀ z ∈ ns, Nm z) → SameX a H H' → H p = none → H' p = some (.lst (ns.map V.str)) → Pot H' a (N + 11 * m) → Q (.ref p) H'
section
variable {P : Program} {w : World} {K : PySem.W.Frag} {mg : Str → Option Value} {base : Heap}
theorem ok_of2 {f fT : Addr} {fd fdT : FuncData} {k : Nat} (F : Fun K "_law_of" "_law_of" sOf f fd) (B : Blt mg) (GT : FnOk P w K mg base CX0 k fT fdT ["pot", "upto"] spTake) (gT : mg "_law_take" = some (.ref fT)) (kT : PySem.W.keepIn K (.ref fT) = true) (bT : Binds K fdT ["pot", "upto"] []) :
    FnOk P w K mg base CX0 (k + 1) f fd ["pot", "some"] (spOf2 K) := by
  refine F.ok scOf (fun vs H Q E h => ?_) (fun cdv A outer s H vs Q E hr h => ?_)
  · rcases h with h | h
    · obtain ⟨a, b, xs, N, rfl, _⟩ := h
      rfl
    · obtain ⟨a, z, N, rfl, _⟩ := h
      rfl
  · refine ⟨_, pss_one (ps_ret (pe_ix (ix_list.or ix_str) (pv 1) (pe_call GT hr (by rfl) gT kT bT .nil pass0 (pa_cons (pv 0) (pa_cons (pe_callB (call_len_seq.or call_len_str) (by rfl) B.len PySem.boot_len (pa_cons (pv 1) pa_nil)) pa_nil))) (fun _ _ => rfl))), ?_⟩
    rcases h with ⟨a, b, xs, N, rfl, hP, hN, hS, hab, h0, h1, q⟩ | ⟨a, z, N, rfl, hP, hN, h0, h1, q⟩
    · refine ⟨.ref b, rfl, .ref a, rfl, .ref b, rfl, .inl ⟨b, xs, rfl, .inl hS, a, (xs.length : Int), N, rfl, hP, hN, by omega, by omega, fun r H' r0 r1 sx hP' => ?_⟩⟩
      have hj : r.toNat < xs.length := by omega
      have hS' : SqL K H' b xs := by
        rcases hS with (h | ⟨o, h⟩) | h
        · exact .inl (.inl (sx _ _ (Ne.symm hab) h))
        · exact .inl (.inr ⟨o, sx _ _ (Ne.symm hab) h⟩)
        · exact .inr h
      refine .inl ⟨b, xs, r, xs[r.toNat], rfl, rfl, hS', ?_, q r.toNat _ H' (List.getElem?_eq_getElem hj) sx hP'⟩
      exact at_of (j := r.toNat) (by omega) (List.getElem?_eq_getElem hj)
    · refine ⟨.str z, rfl, .ref a, rfl, .str z, rfl, .inr ⟨z, rfl, Nat.le_of_lt (small1000 (by omega)), a, (z.length : Int), N, rfl, hP, hN, by omega, by omega, fun r H' r0 r1 sx hP' => ?_⟩⟩
      have hj : r.toNat < z.cps.toList.length := by rw [← len_cps]; omega
      refine .inr ⟨z, r, z.cps.toList[r.toNat], rfl, rfl, Nat.le_of_lt (small1000 (by omega)), ?_, q _ H' (List.getElem_mem hj) sx hP'⟩
      have hh := atI_nat (List.getElem?_eq_getElem hj)
      rw [Int.toNat_of_nonneg r0] at hh
      exact hh
theorem lc_range {g : TG} {tt : TT} {te : TE} {vs : List Nat} {σ : L2.St} {H1 : Hp} {D : Addr} {Qd : Hp → Prop} (n : Nat) (Pv : Nat → Hp → Prop) (h0 : Pv 0 (upd H1 D (.lst [])))
    (hs : ∀ i H, i < n → Pv i H → g (.int (0 + (i : Int))) (wipe σ vs) H fun σ2 H2 => wipe σ2 vs = wipe σ vs ∧ tt σ2 H2 fun b H3 => if b = true then te σ2 H3 fun y H4 => ∃ acc, H4 D = some (.lst acc) ∧ acc.length < sizeLine ∧ Pv (i + 1) (upd H4 D (.lst (acc ++ [y]))) else Pv (i + 1) H3)
    (hd : ∀ H, Pv n H → Qd H) : ∃ W : Nat → Nat → Hp → Prop, (∃ m, W 0 m (upd H1 D (.lst []))) ∧ ∀ i m H, W i m H →
      ((Itr 0 n).stop i H ∧ Qd H) ∨ ((Itr 0 n).go i H ∧ ∃ Nx : Hp → Prop, (∀ H', Nx H' → ∃ m', m' < m ∧ W (i + 1) m' H') ∧ ∀ x H', (Itr 0 n).yld i H x H' → g x (wipe σ vs) H' fun σ2 H2 => wipe σ2 vs = wipe σ vs ∧ tt σ2 H2 fun b H3 =>
        if b = true then te σ2 H3 fun y H4 => ∃ acc, H4 D = some (.lst acc) ∧ acc.length < sizeLine ∧ Nx (upd H4 D (.lst (acc ++ [y]))) else Nx H3) :=
  lc_it (walk_range (lo := 0) (n := n)) Pv h0 (fun _ _ _ _ => trivial) (fun i x H H' hi hp ⟨e1, e2⟩ => by subst e1 e2; exact hs i _ hi hp) hd
def nN : List Str := ["pot", "many", "signs", "found", "known", "lap", "word", "at", "sign"]
end
end Hw

set_option Elab.async false
set_option linter.all false
set_option maxRecDepth 100000
set_option maxHeartbeats 4000000
namespace Hw
open PySem L2 PyProof.Rows
def tieOf (a b : Str) : Tie := (if strLt b a = true then b else a, if strLt a b = true then b else a)
def spTie : Sp := fun vs H Q _ => ∃ a b : Str, vs = [.str a, .str b] ∧ ∀ p, H p = none → Q (.ref p) (upd H p (.tup [.str (tieOf a b).1, .str (tieOf a b).2]))
section
variable {P : Program} {w : World} {K : PySem.W.Frag} {mg : Str → Option Value} {base : Heap}
def encT (ts : List Tie) : List (List Key × V) := ts.map fun t => (([Sum.inr t.1, Sum.inr t.2] : List Key), V.bl true)
theorem encT_any (ts : List Tie) (t : Tie) : ((encT ts).any fun kv => decide (kv.1 = ([Sum.inr t.1, Sum.inr t.2] : List Key))) = decide (t ∈ ts) := by
  rw [encT, List.any_map, Bool.eq_iff_iff, List.any_eq_true, decide_eq_true_iff]
  constructor
  · rintro ⟨u, hu, e⟩
    have e' := of_decide_eq_true e
    injection e' with e1 e2
    injection e2 with e2 _
    injection e1 with e1
    injection e2 with e2
    exact (show u = t from Prod.ext e1 e2) ▸ hu
  · intro h
    exact ⟨t, h, decide_eq_true rfl⟩
theorem putT_tie (ts : List Tie) (t : Tie) : putK (encT ts) ([Sum.inr t.1, Sum.inr t.2] : List Key) (V.bl true) = encT (if t ∈ ts then ts else ts ++ [t]) := by
  unfold putK
  rw [encT_any]
  by_cases h : t ∈ ts
  · rw [if_pos (decide_eq_true h), if_pos h]
    unfold encT
    rw [List.map_map]
    refine List.map_congr_left fun u _ => ?_
    show (if _ then _ else _) = _
    split <;> rfl
  · rw [if_neg (by simpa using h), if_neg h]
    unfold encT
    rw [List.map_append]; rfl
theorem tieOf_lt {u v : Str} (h : u ≠ v) : strLt (tieOf u v).1 (tieOf u v).2 = true ∧ ((tieOf u v).1 = u ∨ (tieOf u v).1 = v) ∧ ((tieOf u v).2 = u ∨ (tieOf u v).2 = v) := by
  unfold tieOf
  cases e1 : strLt v u with
  | true =>
    rw [strLt_as e1]
    exact ⟨by simpa using e1, .inr (by simp), .inl (by simp)⟩
  | false =>
    cases e2 : strLt u v with
    | true => exact ⟨by simpa using e2, .inl (by simp), .inr (by simp)⟩
    | false => exact absurd (strLt_tri e2 e1) h
/-- a drawn web while it is drawn: its places at pl, its ties in the dict at d -/
def WB (a pl d : Addr) (ns : List Str) (H0 : Hp) (N c : Nat) (H : Hp) : Prop := SameX a H0 H ∧ Pot H a N ∧ H pl = some (.lst (ns.map V.str)) ∧ pl ≠ d ∧ pl ≠ a ∧ d ≠ a ∧ ∃ ts : List Tie, H d = some (.dT (encT ts)) ∧ ts.Nodup ∧ (∀ t ∈ ts, t.1 ∈ ns ∧ t.2 ∈ ns ∧ strLt t.1 t.2 = true) ∧ ts.length ≤ c
theorem WB.step {a pl d : Addr} {ns : List Str} {H0 H H' : Hp} {N N' c : Nat} (w : WB a pl d ns H0 N c H) (s : SameX a H H') (p : Pot H' a N') : WB a pl d ns H0 N' c H' := by
  obtain ⟨sx, hp, h1, n1, n2, n3, ts, h2, hr⟩ := w
  exact ⟨sx.trans s, p, s _ _ n2 h1, n1, n2, n3, ts, s _ _ n3 h2, hr⟩
theorem WB.mono {a pl d : Addr} {ns : List Str} {H0 H : Hp} {N N' c c' : Nat} (w : WB a pl d ns H0 N c H) (hN : N ≤ N') (hc : c ≤ c') : WB a pl d ns H0 N' c' H := by
  obtain ⟨sx, hp, h1, n1, n2, n3, ts, h2, h3, h4, h5⟩ := w
  exact ⟨sx, hp.mono hN, h1, n1, n2, n3, ts, h2, h3, h4, Nat.le_trans h5 hc⟩
theorem put_tie {a pl d : Addr} {ns : List Str} {H0 H : Hp} {N c : Nat} {u v : Str} {E : XK} {Q : Hp → Prop} (w : WB a pl d ns H0 N c H) (hd0 : H0 d = none) (hc : c ≤ 1000) (hu : u ∈ ns) (hv : v ∈ ns) (hne : u ≠ v)
    (q : ∀ Hn, WB a pl d ns H0 N (c + 1) Hn → Q Hn) : spTie [.str u, .str v] H (fun k H1 => ∃ d' Hn, V.ref d = .ref d' ∧ DPut H1 d' k (.bl true) Hn ∧ Q Hn) E := by
  obtain ⟨sx, hp, h1, n1, n2, n3, ts, h2, h3, h4, h5⟩ := w
  refine ⟨u, v, rfl, fun p hp0 => ?_⟩
  have npd : d ≠ p := ne_of_none h2 hp0
  have ed : (upd H p (.tup [.str (tieOf u v).1, .str (tieOf u v).2])) d = some (.dT (encT ts)) := by rw [upd_ne npd]; exact h2
  have et : (upd H p (.tup [.str (tieOf u v).1, .str (tieOf u v).2])) p = some (.tup (([Sum.inr (tieOf u v).1, Sum.inr (tieOf u v).2] : List Key).map kV)) := upd_same
  refine ⟨d, _, rfl, DPut.t ed et (by rw [encT, List.length_map]; exact small1000 (by omega)), q _ ?_⟩
  rw [putT_tie]
  obtain ⟨l1, l2, l3⟩ := tieOf_lt hne
  have m1 : (tieOf u v).1 ∈ ns := by rcases l2 with e | e <;> rw [e] <;> assumption
  have m2 : (tieOf u v).2 ∈ ns := by rcases l3 with e | e <;> rw [e] <;> assumption
  refine ⟨fun b o hb e => ?_, ?_, ?_, n1, n2, n3, _, upd_same, ?_, ?_, ?_⟩
  · have e1 : b ≠ d := ne_of_none e hd0
    have e2 := sx _ _ hb e
    rw [upd_ne e1, upd_ne (ne_of_none e2 hp0)]
    exact e2
  · obtain ⟨xx, yy, zz, e, hh⟩ := hp.ex
    exact ⟨xx, yy, zz, by rw [upd_ne (Ne.symm n3), upd_ne (ne_of_none e hp0)]; exact e, hh⟩
  · rw [upd_ne n1, upd_ne (ne_of_none h1 hp0)]; exact h1
  · by_cases hm : tieOf u v ∈ ts
    · rw [if_pos hm]; exact h3
    · rw [if_neg hm, List.nodup_append]
      exact ⟨h3, by simp, fun x hx y hy e => hm (by rw [List.mem_singleton.mp hy] at e; exact e ▸ hx)⟩
  · intro t ht
    by_cases hm : tieOf u v ∈ ts
    · rw [if_pos hm] at ht; exact h4 t ht
    · rw [if_neg hm] at ht
      rcases List.mem_append.mp ht with ht | ht
      · exact h4 t ht
      · rw [List.mem_singleton.mp ht]; exact ⟨m1, m2, l1⟩
  · by_cases hm : tieOf u v ∈ ts
    · rw [if_pos hm]; omega
    · rw [if_neg hm, List.length_append]
      show ts.length + 1 ≤ c + 1
      omega
end
end Hw

set_option Elab.async false
set_option linter.all false
set_option maxRecDepth 100000
set_option maxHeartbeats 4000000
namespace Hw
open PySem L2 PyProof.Rows
/-- an own web: its places ascending, its ties ascending -/
structure OwnW (ns : List Str) (ts : List Tie) : Prop where
  asc : Asc ns
  nm : ∀ z ∈ ns, Nm z
  few : ns.length ≤ 200
  tasc : AscP ts
  tie : ∀ t ∈ ts, t.1 ∈ ns ∧ t.2 ∈ ns ∧ strLt t.1 t.2 = true
  tfew : ts.length ≤ 1000
/-- an own web as it lies: a pair of lists -/
def WebAt (H : Hp) (p : Addr) (ns : List Str) (ts : List Tie) : Prop := ∃ (pl tl : Addr) (qs : List Addr), H p = some (.tup [.ref pl, .ref tl]) ∧ H pl = some (.lst (ns.map V.str)) ∧ H tl = some (.lst (qs.map V.ref)) ∧ Paired (fun q (t : Tie) => H q = some (.tup [.str t.1, .str t.2])) qs ts
def spWeb : Sp := fun vs H Q _ => ∃ (a : Addr) (m N : Nat), vs = [.ref a, .int m] ∧ Pot H a N ∧ N < 400000000 ∧ m ≤ 200 ∧
  ∀ p ns ts H', OwnW ns ts → ns.length ≤ m → ts.length ≤ 900 → WebAt H' p ns ts → SameX a H H' → Pot H' a (N + 4000) → Q (.ref p) H'
def nW : List Str := ["pot", "most", "places", "way", "ties", "at", "lap"]
theorem at_ns {ns : List Str} {r : Int} {j : Nat} (e : r = (j : Int)) (h : j < ns.length) : atI (ns.map V.str) r = some (.str ns[j]) := by
  subst e
  exact atI_nat (by rw [List.getElem?_map, List.getElem?_eq_getElem h]; rfl)
theorem at_last {ns : List Str} (h : 0 < ns.length) : atI (ns.map V.str) (-1) = some (.str (ns[ns.length - 1]'(by omega))) := by
  have hne : ns ≠ [] := fun e => by rw [e] at h; exact absurd h (by decide)
  have e1 : ns.map V.str = ns.dropLast.map V.str ++ [V.str (ns.getLast hne)] := by
    rw [← List.map_singleton, ← List.map_append, List.dropLast_concat_getLast]
  rw [e1, atI_last, List.getLast_eq_getElem]
theorem paired_mono {α β : Type} {F G : α → β → Prop} (h : ∀ x y, F x y → G x y) : ∀ {xs : List α} {ys : List β}, Paired F xs ys → Paired G xs ys
  | _, _, .nil => .nil
  | _, _, .cons a t => .cons (h _ _ a) (paired_mono h t)
theorem keys_ties {H : Hp} : ∀ {ts : List Tie} {bs : List Addr}, IsKeys H (encT ts) bs → Paired (fun q (t : Tie) => H q = some (.tup [.str t.1, .str t.2])) bs ts
  | [], _, h => by
    have h' : IsKeys H [] _ := h
    cases h'; exact .nil
  | t :: ts, _, h => by
    have h' : IsKeys H ((([Sum.inr t.1, Sum.inr t.2] : List Key), V.bl true) :: encT ts) _ := h
    cases h' with
    | cons h1 h2 => exact .cons h1 (keys_ties h2)
theorem nodup_ne {ns : List Str} (h : ns.Nodup) {i j : Nat} (hi : i < ns.length) (hj : j < ns.length) (hij : i < j) : ns[i] ≠ ns[j] := List.pairwise_iff_getElem.mp h i j hi hj hij
theorem if_any {t : TT} {A B : TS} {D : Ends} {σ : L2.St} {H : Hp} (ht : ∀ Q : Bool → Hp → Prop, Q true H → Q false H → t σ H Q) (h1 : A D σ H) (h2 : B D σ H) : tIfS t A B D σ H :=
  ht _ (show if true = true then A D σ H else B D σ H by rw [if_pos rfl]; exact h1) (show if false = true then A D σ H else B D σ H by rw [if_neg Bool.false_ne_true]; exact h2)
theorem rs_rng {wi : TI} {g : TG} {tb u : TS} {D : Ends} {σ : L2.St} {H : Hp} (lo : Int) (n : Nat) (P0 : Hp → Prop) (Pv : Nat → L2.St → Hp → Prop) (hw : ∀ R : It → Hp → Prop, (∀ H1, P0 H1 → R (Itr lo n) H1) → wi σ H R) (h0 : ∀ H1, P0 H1 → Pv 0 σ H1)
    (hs : ∀ i σ H, i < n → Pv i σ H → g (.int (lo + i)) σ H fun σ2 H2 => tb { D with nx := Pv (i + 1), ct := Pv (i + 1), bk := u D } σ2 H2) (hd : ∀ σ H, Pv n σ H → u D σ H) : tSeq (tFor wi g tb) u D σ H :=
  hw _ fun H1 p => for_range (D := { D with nx := u D }) Pv (h0 H1 p) hs hd
theorem rs_if_put {t : TT} {A B u : TS} {D : Ends} {σ : L2.St} {H : Hp} (P1 : Bool → Hp → Prop) (P2 : Hp → Prop) (ht : ∀ Q : Bool → Hp → Prop, (∀ b H', P1 b H' → Q b H') → t σ H Q) (h3 : ∀ H', P2 H' → u D σ H')
    (h1 : ∀ (D' : Ends) H', (∀ H4, P2 H4 → D'.nx σ H4) → P1 true H' → A D' σ H') (h2 : ∀ (D' : Ends) H', (∀ H4, P2 H4 → D'.nx σ H4) → P1 false H' → B D' σ H') : tSeq (tIfS t A B) u D σ H :=
  ht _ fun b H' p => by
    show if b = true then A { D with nx := u D } σ H' else B { D with nx := u D } σ H'
    cases b with
    | true => rw [if_pos rfl]; exact h1 _ H' h3 p
    | false => rw [if_neg Bool.false_ne_true]; exact h2 _ H' h3 p
def lapsD : List V := [.int 0, .int 1, .int 1, .int 2]
theorem laps_int : ∀ v ∈ lapsD, ∃ x : Nat, v = V.int (x : Int) ∧ x ≤ 2 := by
  intro v hv
  simp only [lapsD, List.mem_cons, List.not_mem_nil, or_false] at hv
  rcases hv with rfl | rfl | rfl | rfl
  · exact ⟨0, rfl, by decide⟩
  · exact ⟨1, rfl, by decide⟩
  · exact ⟨1, rfl, by decide⟩
  · exact ⟨2, rfl, by decide⟩
section
variable {P : Program} {w : World} {K : PySem.W.Frag} {mg : Str → Option Value} {base : Heap}
end
end Hw

set_option Elab.async false
set_option linter.all false
set_option maxRecDepth 100000
set_option maxHeartbeats 4000000
namespace Hw
open PySem L2 PyProof.Rows
def sBl : Str := Str.ofString " "
def sNl : Str := Str.ofString "\n"
def placesLine (ns : List Str) : Str := Txt.join sBl (Str.ofString "places" :: ns)
def tieLine (t : Tie) : Str := Txt.join sBl [Str.ofString "tie", t.1, t.2]
def webLines (ns : List Str) (ts : List Tie) : List Str := placesLine ns :: ts.map tieLine
def webText (ns : List Str) (ts : List Tie) : Str := Txt.join sNl (webLines ns ts)
theorem paired_get {α β : Type} {F : α → β → Prop} : ∀ {xs : List α} {ys : List β} {i : Nat} {x : α}, Paired F xs ys → xs[i]? = some x → ∃ y, ys[i]? = some y ∧ F x y
  | _, _, _, _, .nil, e => by simp at e
  | _, _, 0, _, .cons a _, e => by simp at e; subst e; exact ⟨_, rfl, a⟩
  | _, _, i + 1, y, .cons _ t, e => by
    obtain ⟨x, h1, h2⟩ := paired_get (i := i) t (by simpa using e)
    exact ⟨x, by simpa using h1, h2⟩
theorem join_len (y : Str) : ∀ ps : List Str, (Txt.join y ps).length ≤ (ps.map (·.length)).sum + ps.length * y.length
  | [] => by rw [TL.join_eq]; exact Nat.zero_le _
  | [p] => by rw [TL.join_eq]; simp [Str.join]
  | p :: q :: r => by
    have ih := join_len y (q :: r)
    rw [TL.join_eq] at ih ⊢
    have e : Str.join y (p :: q :: r) = p ++ y ++ Str.join y (q :: r) := rfl
    rw [e, app_len, app_len]
    simp only [List.map_cons, List.sum_cons, List.length_cons] at ih ⊢
    have : (r.length + 1 + 1) * y.length = (r.length + 1) * y.length + y.length := by rw [Nat.add_mul (r.length + 1) 1, Nat.one_mul]
    omega
theorem sum_le {ps : List Str} {b : Nat} (h : ∀ p ∈ ps, p.length ≤ b) : (ps.map (·.length)).sum ≤ ps.length * b := by
  induction ps with
  | nil => exact Nat.zero_le _
  | cons p ps ih =>
    have h1 := h p List.mem_cons_self
    have h2 := ih fun q hq => h q (List.mem_cons_of_mem _ hq)
    rw [List.map_cons, List.sum_cons, List.length_cons, Nat.add_mul, Nat.one_mul]
    omega
theorem OwnW.first {ns : List Str} {ts : List Tie} (o : OwnW ns ts) : ((Str.ofString "places" :: ns).map (·.length)).sum + (Str.ofString "places" :: ns).length * sBl.length ≤ 2000 := by
  have h := sum_le (ps := ns) (b := 8) fun p hp => (o.nm p hp).2.1
  have h1 := o.few
  have e1 : (Str.ofString "places").length = 6 := by decide +kernel
  have e2 : sBl.length = 1 := by decide +kernel
  rw [List.map_cons, List.sum_cons, List.length_cons, e1, e2]
  omega
theorem OwnW.tl {ns : List Str} {ts : List Tie} (o : OwnW ns ts) {t : Tie} (ht : t ∈ ts) : (([Str.ofString "tie", t.1, t.2] : List Str).map (·.length)).sum + ([Str.ofString "tie", t.1, t.2] : List Str).length * sBl.length ≤ 22 := by
  obtain ⟨h1, h2, _⟩ := o.tie t ht
  have a := (o.nm _ h1).2.1
  have b := (o.nm _ h2).2.1
  have e1 : (Str.ofString "tie").length = 3 := by decide +kernel
  have e2 : sBl.length = 1 := by decide +kernel
  simp only [List.map_cons, List.map_nil, List.sum_cons, List.sum_nil, List.length_cons, List.length_nil, e1, e2]
  omega
theorem OwnW.lines {ns : List Str} {ts : List Tie} (o : OwnW ns ts) : ((webLines ns ts).map (·.length)).sum + (webLines ns ts).length * sNl.length ≤ 16777216 := by
  have h1 : ∀ p ∈ webLines ns ts, p.length ≤ 2000 := by
    intro p hp
    rcases List.mem_cons.mp hp with rfl | hp
    · exact Nat.le_trans (join_len _ _) o.first
    · obtain ⟨t, ht, rfl⟩ := List.mem_map.mp hp
      exact Nat.le_trans (join_len _ _) (Nat.le_trans (o.tl ht) (by decide))
  have h2 := sum_le h1
  have e2 : sNl.length = 1 := by decide +kernel
  have e3 : (webLines ns ts).length ≤ 1001 := by
    show (ts.map tieLine).length + 1 ≤ 1001
    rw [List.length_map]; have := o.tfew; omega
  rw [e2]
  have : (webLines ns ts).length * 2000 ≤ 1001 * 2000 := Nat.mul_le_mul_right _ e3
  omega
def rJn (K : PySem.W.Frag) : V → List V → Hp → VK → Prop := fun x xs H Q => ∃ a p, ∃ ys : List Str, x = .str a ∧ xs = [.ref p] ∧ (SqL K H p (ys.map V.str) ∨ SqT K H p (ys.map V.str)) ∧ (ys.map (·.length)).sum + ys.length * a.length ≤ 16777216 ∧ Q (.str (Txt.join a ys)) H
def spText : Sp := fun vs H Q _ => ∃ p ns ts, vs = [.ref p] ∧ OwnW ns ts ∧ WebAt H p ns ts ∧ ∀ H', Same H H' → Q (.str (webText ns ts)) H'
section
variable {P : Program} {w : World} {K : PySem.W.Frag} {mg : Str → Option Value} {base : Heap}
end
end Hw

set_option Elab.async false
set_option linter.all false
set_option maxRecDepth 100000
set_option maxHeartbeats 4000000
namespace Hw
open PySem L2 PyProof.Rows
/-! the rows of neighbours -/
def nbr (ts : List Tie) (n : Str) : List Str := ts.flatMap fun t => (if t.1 = n then [t.2] else []) ++ (if t.2 = n then [t.1] else [])
theorem nbr_len (ts : List Tie) (n : Str) : (nbr ts n).length ≤ 2 * ts.length := by
  induction ts with
  | nil => exact Nat.zero_le _
  | cons t ts ih =>
    have e : nbr (t :: ts) n = ((if t.1 = n then [t.2] else []) ++ (if t.2 = n then [t.1] else [])) ++ nbr ts n := by simp [nbr]
    rw [e, List.length_append, List.length_append, List.length_cons]
    have h1 : (if t.1 = n then [t.2] else []).length ≤ 1 := by split <;> simp
    have h2 : (if t.2 = n then [t.1] else []).length ≤ 1 := by split <;> simp
    omega
theorem nbr_mem {ns : List Str} {ts : List Tie} (h : ∀ t ∈ ts, t.1 ∈ ns ∧ t.2 ∈ ns ∧ strLt t.1 t.2 = true) {n m : Str} (hm : m ∈ nbr ts n) : m ∈ ns := by
  obtain ⟨t, ht, hm⟩ := List.mem_flatMap.mp hm
  obtain ⟨h1, h2, _⟩ := h t ht
  rcases List.mem_append.mp hm with hm | hm
  · split at hm
    · rw [List.mem_singleton.mp hm]; exact h2
    · cases hm
  · split at hm
    · rw [List.mem_singleton.mp hm]; exact h1
    · cases hm
theorem valV_names {g : Str → V} {ns : List Str} (w : Str) : valV (ns.map fun z => ((Sum.inr z : Key), g z)) (Sum.inr w) = if w ∈ ns then some (g w) else none := by
  induction ns with
  | nil => exact valV_nil
  | cons z ns ih =>
    rw [List.map_cons]
    by_cases h : z = w
    · subst h
      rw [valV_pos rfl, if_pos List.mem_cons_self]
    · rw [valV_neg (fun e => h (Sum.inr.inj e)), ih]
      by_cases hm : w ∈ ns
      · rw [if_pos hm, if_pos (List.mem_cons_of_mem _ hm)]
      · rw [if_neg hm, if_neg (fun e => by rcases List.mem_cons.mp e with rfl | e; exact h rfl; exact hm e)]
/-- a dict at d of lists, one for each name -/
structure NearL (f : Str → Addr) (H : Hp) (d : Addr) (ns : List Str) (L : Str → List Str) : Prop where
  dict : H d = some (.dK (ns.map fun n => ((Sum.inr n : Key), V.ref (f n))))
  lst : ∀ n ∈ ns, H (f n) = some (.lst ((L n).map V.str))
  inj : ∀ m ∈ ns, ∀ n ∈ ns, f m = f n → m = n
theorem NearL.get {f : Str → Addr} {H : Hp} {d : Addr} {ns : List Str} {L : Str → List Str} (w : NearL f H d ns L) {n : Str} (h : n ∈ ns) : DGet H d (.str n) (some (.ref (f n))) := by
  have := DGet.k (k := Sum.inr n) w.dict
  rw [valV_names (g := fun n => V.ref (f n)), if_pos h] at this
  exact this
theorem NearL.keep {f : Str → Addr} {H H' : Hp} {d : Addr} {ns : List Str} {L : Str → List Str} (w : NearL f H d ns L) (s : Same H H') : NearL f H' d ns L :=
  ⟨s _ _ w.dict, fun n hn => s _ _ (w.lst n hn), w.inj⟩
theorem NearL.congr {f : Str → Addr} {H : Hp} {d : Addr} {ns : List Str} {L M : Str → List Str} (w : NearL f H d ns L) (h : ∀ n ∈ ns, L n = M n) : NearL f H d ns M :=
  ⟨w.dict, fun n hn => by rw [← h n hn]; exact w.lst n hn, w.inj⟩
theorem NearL.push {f : Str → Addr} {H : Hp} {d : Addr} {ns : List Str} {L : Str → List Str} (w : NearL f H d ns L) {x y : Str} (hx : x ∈ ns) : NearL f (upd H (f x) (.lst ((L x).map V.str ++ [.str y]))) d ns (fun n => if n = x then L n ++ [y] else L n) := by
  refine ⟨?_, fun n hn => ?_, w.inj⟩
  · rw [upd_ne (ne_of w.dict (w.lst x hx) (fun z => nomatch z))]; exact w.dict
  · by_cases h : n = x
    · subst h
      rw [upd_same, if_pos rfl, List.map_append]; rfl
    · rw [upd_ne (fun e => h (w.inj n hn x hx e)), if_neg h]; exact w.lst n hn
theorem nbr_snoc (ts : List Tie) (t : Tie) (n : Str) : nbr (ts ++ [t]) n = nbr ts n ++ ((if t.1 = n then [t.2] else []) ++ (if t.2 = n then [t.1] else [])) := by simp [nbr]
theorem nbr_push {ts : List Tie} {t : Tie} (h : t.1 ≠ t.2) (n : Str) : (if n = t.2 then (if n = t.1 then nbr ts n ++ [t.2] else nbr ts n) ++ [t.1] else (if n = t.1 then nbr ts n ++ [t.2] else nbr ts n)) = nbr (ts ++ [t]) n := by
  rw [nbr_snoc]
  by_cases h1 : n = t.1
  · have h2 : n ≠ t.2 := fun e => h (h1.symm.trans e)
    rw [if_neg h2, if_pos h1, if_pos h1.symm, if_neg (Ne.symm h2)]; simp
  · by_cases h2 : n = t.2
    · rw [if_pos h2, if_neg h1, if_neg (Ne.symm h1), if_pos h2.symm]; simp
    · rw [if_neg h2, if_neg h1, if_neg (Ne.symm h1), if_neg (Ne.symm h2)]; simp
theorem mergeK_new : ∀ {more kvs : List (Key × V)}, ((kvs ++ more).map (·.1)).Nodup → mergeK kvs more = kvs ++ more
  | [], kvs, _ => by simp [mergeK]
  | p :: more, kvs, h => by
    have hn : valV kvs p.1 = none := by
      unfold valV
      rw [List.find?_eq_none.mpr]
      · rfl
      · intro q hq hc
        have e := of_decide_eq_true hc
        rw [List.map_append, List.nodup_append] at h
        exact h.2.2 q.1 (List.mem_map.mpr ⟨q, hq, rfl⟩) p.1 (List.mem_map.mpr ⟨p, List.mem_cons_self, rfl⟩) e
    have ih := mergeK_new (more := more) (kvs := kvs ++ [p]) (by rw [List.append_assoc]; exact h)
    show mergeK (putK kvs p.1 p.2) more = _
    rw [putK_new _ hn]
    exact ih.trans (by simp)
end Hw

set_option Elab.async false
set_option linter.all false
set_option maxRecDepth 100000
set_option maxHeartbeats 4000000
namespace Hw
open PySem L2 PyProof.Rows
abbrev TieL (H : Hp) (q : Addr) (t : Tie) : Prop := H q = some (.tup [.str t.1, .str t.2])
def spNear : Sp := fun vs H Q _ => ∃ (p tl : Addr) (ns : List Str) (ts : List Tie) (qs : List Addr), vs = [.ref p, .ref tl] ∧ OwnW ns ts ∧ H p = some (.lst (ns.map V.str)) ∧ H tl = some (.lst (qs.map V.ref)) ∧ Paired (TieL H) qs ts ∧
  ∀ d f H', Same H H' → NearL f H' d ns (nbr ts) → H d = none → (∀ n ∈ ns, H (f n) = none) → Q (.ref d) H'
theorem nodup_take {ns : List Str} (h : ns.Nodup) {i : Nat} {x : Str} (hx : ns[i]? = some x) : x ∉ ns.take i := by
  intro hm
  obtain ⟨j, hj, e⟩ := List.mem_iff_getElem.mp hm
  rw [List.length_take] at hj
  obtain ⟨hi, rfl⟩ := List.getElem?_eq_some_iff.mp hx
  rw [List.getElem_take] at e
  exact nodup_ne h (by omega) hi (by omega) e
/-- the rows while they are made -/
def NearUp (H0 : Hp) (D : Addr) (ns : List Str) (f : Str → Addr) (H : Hp) : Prop := Same H0 H ∧ (∀ n ∈ ns, H (f n) = some (.lst []) ∧ H0 (f n) = none ∧ f n ≠ D) ∧ ∀ m ∈ ns, ∀ n ∈ ns, f m = f n → m = n
theorem NearUp.keep {H0 H H' : Hp} {D : Addr} {ns : List Str} {f : Str → Addr} (w : NearUp H0 D ns f H) (s : Same H H') : NearUp H0 D ns f H' := ⟨w.1.trans s, fun n hn => ⟨s _ _ (w.2.1 n hn).1, (w.2.1 n hn).2⟩, w.2.2⟩
theorem NearUp.put {H0 H : Hp} {D : Addr} {ns : List Str} {f : Str → Addr} {o : HO} (w : NearUp H0 D ns f H) (hD : H0 D = none) : NearUp H0 D ns f (upd H D o) :=
  ⟨fun b u e => by rw [upd_ne (ne_of_none e hD)]; exact w.1 _ _ e, fun n hn => ⟨by rw [upd_ne (w.2.1 n hn).2.2]; exact (w.2.1 n hn).1, (w.2.1 n hn).2⟩, w.2.2⟩
theorem NearUp.new {H0 H : Hp} {D l : Addr} {ns : List Str} {f : Str → Addr} {x : Str} (w : NearUp H0 D ns f H) (hx : x ∉ ns) (nl : H l = none) (hl : l ≠ D) : NearUp H0 D (ns ++ [x]) (fun n => if n = x then l else f n) (upd H l (.lst [])) := by
  have hf : ∀ n ∈ ns, (if n = x then l else f n) = f n := fun n hn => if_neg fun e => hx (by rw [← e]; exact hn)
  have hxl : (if x = x then l else f x) = l := if_pos rfl
  refine ⟨w.1.trans (same_upd nl), fun n hn => ?_, fun m hm n hn e => ?_⟩
  · rcases List.mem_append.mp hn with hn | hn
    · dsimp only
      rw [hf n hn]
      exact ⟨(same_upd nl) _ _ (w.2.1 n hn).1, (w.2.1 n hn).2⟩
    · rw [List.mem_singleton.mp hn]
      dsimp only
      rw [hxl]
      exact ⟨upd_same, w.1.free nl, hl⟩
  · have e : (if m = x then l else f m) = (if n = x then l else f n) := e
    have ne : ∀ n ∈ ns, f n ≠ l := fun n hn z => by
      have := (w.2.1 n hn).1
      rw [z, nl] at this; cases this
    rcases List.mem_append.mp hm with hm | hm <;> rcases List.mem_append.mp hn with hn | hn
    · rw [hf m hm, hf n hn] at e; exact w.2.2 m hm n hn e
    · rw [List.mem_singleton.mp hn, hf m hm, hxl] at e; exact absurd e (ne m hm)
    · rw [List.mem_singleton.mp hm, hf n hn, hxl] at e; exact absurd e.symm (ne n hn)
    · rw [List.mem_singleton.mp hm, List.mem_singleton.mp hn]
theorem NearUp.done {H0 H : Hp} {D d : Addr} {ns : List Str} {f : Str → Addr} (w : NearUp H0 D ns f H) (hd : H d = some (.dK (ns.map fun n => ((Sum.inr n : Key), V.ref (f n))))) : NearL f H d ns (nbr []) :=
  ⟨hd, fun n hn => (w.2.1 n hn).1, w.2.2⟩
/-- one tie more -/
theorem tie_push {H0 H : Hp} {d : Addr} {ns : List Str} {f : Str → Addr} {ts : List Tie} {t : Tie} (s : Same H0 H) (w : NearL f H d ns (nbr ts)) (h0 : ∀ n ∈ ns, H0 (f n) = none) (h1 : t.1 ∈ ns) (h2 : t.2 ∈ ns) (hne : t.1 ≠ t.2) :
    ∃ L1, NearL f (upd H (f t.1) (.lst ((nbr ts t.1).map V.str ++ [.str t.2]))) d ns L1 ∧ L1 t.2 = nbr ts t.2 ∧
      Same H0 (upd (upd H (f t.1) (.lst ((nbr ts t.1).map V.str ++ [.str t.2]))) (f t.2) (.lst ((nbr ts t.2).map V.str ++ [.str t.1]))) ∧
      NearL f (upd (upd H (f t.1) (.lst ((nbr ts t.1).map V.str ++ [.str t.2]))) (f t.2) (.lst ((nbr ts t.2).map V.str ++ [.str t.1]))) d ns (nbr (ts ++ [t])) := by
  have w1 := w.push (y := t.2) h1
  have e2 : (if t.2 = t.1 then nbr ts t.2 ++ [t.2] else nbr ts t.2) = nbr ts t.2 := if_neg (Ne.symm hne)
  have w2 := w1.push (y := t.1) h2
  rw [e2] at w2
  refine ⟨_, w1, e2, fun b o e => ?_, w2.congr fun n _ => nbr_push hne n⟩
  rw [upd_ne (ne_of_none e (h0 _ h2)), upd_ne (ne_of_none e (h0 _ h1))]
  exact s _ _ e
theorem near_turn {K : PySem.W.Frag} {D' : Ends} {i2 i3 i4 : Nat} {σ : L2.St} {H0 H : Hp} {d : Addr} {ns : List Str} {f : Str → Addr} {ts : List Tie} {t : Tie} (v2 : σ[i2]? = some (some (.ref d))) (v3 : σ[i3]? = some (some (.str t.1))) (v4 : σ[i4]? = some (some (.str t.2)))
    (s : Same H0 H) (w : NearL f H d ns (nbr ts)) (h0 : ∀ n ∈ ns, H0 (f n) = none) (h1 : t.1 ∈ ns) (h2 : t.2 ∈ ns) (hne : t.1 ≠ t.2) (hl : ts.length ≤ 100000) (fin : ∀ H', Same H0 H' → NearL f H' d ns (nbr (ts ++ [t])) → D'.nx σ H') :
    tSeq (tDrop (tBM K "list" rAppend (tDGet (tVar i2) (tVar i3)) (tCons (tVar i4) tNil))) (tDrop (tBM K "list" rAppend (tDGet (tVar i2) (tVar i4)) (tCons (tVar i3) tNil))) D' σ H := by
  obtain ⟨L1, w1, eL, s2, w2⟩ := tie_push s w h0 h1 h2 hne
  have q2 := w1.lst t.2 h2
  rw [eL] at q2
  have l1 := nbr_len ts t.1
  have l2 := nbr_len ts t.2
  refine rs_bm ⟨.ref d, v2, .str t.1, v3, d, .ref (f t.1), rfl, w.get h1, .inl ⟨rfl, _, sql_of (w.lst _ h1)⟩, .str t.2, v4, f t.1, _, _, rfl, rfl, w.lst _ h1, by rw [List.length_map, sizeLine_eq]; omega, ?_⟩
  exact ⟨.ref d, v2, .str t.2, v4, d, .ref (f t.2), rfl, w1.get h2, .inl ⟨rfl, _, sql_of q2⟩, .str t.1, v3, f t.2, _, _, rfl, rfl, q2, by rw [List.length_map, sizeLine_eq]; omega, fin _ s2 w2⟩
theorem rs_list {K : PySem.W.Frag} {te : TE} {g : TG} {tb u : TS} {D : Ends} {σ : L2.St} {H : Hp} (a : Addr) (xs : List V) (ha : ∀ Q : VK, Q (.ref a) H → te σ H Q) (Pv : Nat → L2.St → Hp → Prop) (h0 : Pv 0 σ H) (hl : ∀ i σ H, i ≤ xs.length → Pv i σ H → SqL K H a xs)
    (hs : ∀ i x σ H, xs[i]? = some x → Pv i σ H → g x σ H fun σ2 H2 => tb { D with nx := Pv (i + 1), ct := Pv (i + 1), bk := u D } σ2 H2) (hd : ∀ σ H, Pv xs.length σ H → u D σ H) : tSeq (tFor (iList K te) g tb) u D σ H :=
  ha _ ⟨a, rfl, ⟨xs, hl 0 σ H (Nat.zero_le _) h0⟩, for_list (D := { D with nx := u D }) Pv h0 hl hs hd⟩
theorem rs_tup {K : PySem.W.Frag} {te : TE} {g : TG} {tb u : TS} {D : Ends} {σ : L2.St} {H : Hp} (a : Addr) (xs : List V) (ha : ∀ Q : VK, Q (.ref a) H → te σ H Q) (Pv : Nat → L2.St → Hp → Prop) (h0 : Pv 0 σ H) (hl : ∀ i σ H, i ≤ xs.length → Pv i σ H → SqT K H a xs)
    (hs : ∀ i x σ H, xs[i]? = some x → Pv i σ H → g x σ H fun σ2 H2 => tb { D with nx := Pv (i + 1), ct := Pv (i + 1), bk := u D } σ2 H2) (hd : ∀ σ H, Pv xs.length σ H → u D σ H) : tSeq (tFor (iTup K te) g tb) u D σ H :=
  ha _ ⟨a, rfl, ⟨xs, hl 0 σ H (Nat.zero_le _) h0⟩, for_tup (D := { D with nx := u D }) Pv h0 hl hs hd⟩
theorem map_get {α : Type} {g : α → V} {xs : List α} {i : Nat} {x : V} (h : (xs.map g)[i]? = some x) : ∃ z, xs[i]? = some z ∧ x = g z := by
  rw [List.getElem?_map] at h
  cases hh : xs[i]? with
  | none => rw [hh] at h; cases h
  | some z => rw [hh] at h; exact ⟨z, rfl, (Option.some.inj h).symm⟩
theorem take_snoc {α : Type} {xs : List α} {i : Nat} {x : α} (h : xs[i]? = some x) : xs.take (i + 1) = xs.take i ++ [x] := by rw [List.take_succ, h]; rfl
theorem paired_in {α β : Type} {F G : α → β → Prop} : ∀ {xs : List α} {ys : List β}, (∀ x y, y ∈ ys → F x y → G x y) → Paired F xs ys → Paired G xs ys
  | _, _, _, .nil => .nil
  | _, _, h, .cons a t => .cons (h _ _ List.mem_cons_self a) (paired_in (fun x y hy => h x y (List.mem_cons_of_mem _ hy)) t)
theorem paired_map {α β γ : Type} {F : α → γ → Prop} {g : β → γ} : ∀ {xs : List α} {ys : List β}, Paired (fun x y => F x (g y)) xs ys → Paired F xs (ys.map g)
  | _, _, .nil => .nil
  | _, _, .cons a t => .cons a (paired_map t)
section
variable {P : Program} {w : World} {K : PySem.W.Frag} {mg : Str → Option Value} {base : Heap}
end
end Hw

set_option Elab.async false
set_option linter.all false
set_option maxRecDepth 100000
set_option maxHeartbeats 4000000
namespace Hw
open PySem L2 PyProof.Rows
abbrev AnyBlk (X : Cx) (scope : Scope) (R : Cx → Prop) : Prop := ∀ (s : Shared) (H : Hp) (C : Addr) (cl : List (Str × Addr)) (fp : List Addr), R (X.blk s H scope (compEnvC scope cl C X.env) fp)
section
variable {X : Cx}
theorem sw_dc {kx vx : Expr} {gs : List Comprehension} {scope : Scope} {pos py : Pos} {y : Str} {l : Nat} {env : Env} (h1 : env.scope.kind = .function) (h2 : env.scope.names.lookup y = some .local) (h3 : (py.line == pos.line) = true)
    (h4 : (scope.names.any fun (n, k) => n == y && (k == .local || k == .cell)) = false) : swapsWith (.DictComp kx vx gs scope pos) (some (.Name y py)) l env = pure true := by
  have a : env.blockKind = .function := by unfold Env.blockKind; rw [h1]; rfl
  have b : env.kindOf y = some .local := h2
  unfold swapsWith
  simp only [a, b, h4, Expr.pos, h3]
  rfl
/-- y = {k: v for ..}, stored while the block stands -/
theorem ps_setDc {i : Nat} {y : Str} {py pos spos : Pos} {kx vx tg iter : Expr} {ifs : List Expr} {scope : Scope} {own : List (Str × Nat)} {wi : TI} {g : TG} {tt : TT} {tk tv : TE} (calm : X.calm = true) (nd : X.N.Nodup) (hy : X.N[i]? = some y) (hyl : X.env.scope.names.lookup y = some .local)
    (sw : swapsWith (.DictComp kx vx [⟨tg, iter, ifs, 0⟩] scope pos) (some (.Name y py)) spos.line X.env = pure true) (walks : PI X tg iter wi) (blk : BlkOk X.N X.env.scope scope own)
    (target : AnyBlk X scope fun Y => PG Y tg g) (tests : AnyBlk X scope fun Y => PTs Y ifs tt) (keys : AnyBlk X scope fun Y => PE Y kx tk) (vals : AnyBlk X scope fun Y => PE Y vx tv) (hs : ∀ x, foldedSetIterable iter X.env x = pure x := by intro _; rfl) :
    PS X (.Assign [.Name y py] (.DictComp kx vx [⟨tg, iter, ifs, 0⟩] scope pos) spos) (tAsg (tDc wi g tt tk tv (own.map (·.2))) (gName i)) := by
  refine ⟨fun pins s σ H D I reading => ?_⟩
  rw [exec_Assign_Name_used _ _ _ _ sw]
  refine wpAny_bind (wpAny_standAt (wpAny_bind ?_))
  show wpAny _ X.A (do let _ ← comprehension (.DictComp kx vx [⟨tg, iter, ifs, 0⟩] scope pos) scope X.env (firstIterPos [⟨tg, iter, ifs, 0⟩] pos) newDict false (eval iter X.env) (some (assign (.Name y py) X.env))) _ _ s
  have reading' : tDc wi g tt tk tv (own.map (·.2)) σ H (fun x H1 => gName i x σ H1 D.nx) := reading
  refine wpAny_bind (thn (dc_core (Qf := fun _ s' => SP X pins D .next s') calm nd I walks blk target tests keys vals hs reading' ?_) fun _ s' done => wpAny_pure (wpAny_pure done))
  intro L C s' m H' I' q ns f
  show wpAny _ _ (assign (.Name y py) X.env (.ref L)) _ _ _
  refine wpAny_assign_Name (store_ok2 (v := V.ref L) I' nd hy (.inl hyl) rfl (fun s2 I2 put => ?_) (.inr hyl))
  obtain ⟨a, sb, ha⟩ := put
  obtain ⟨f0, f1, f2, f3, f4, f5⟩ := f
  have ne : C ≠ a := ha.elim (fun z => by rw [z]; exact f1) (fun z e => f4 y a z e.symm)
  exact ⟨m, ns.sameBut sb ne, fun h3 sb3 => ⟨_, H', I2.turned (t' := s2.toks) (fun b o hb e => (sb3.2 b hb).trans e) f0 f1 f3 f4 f5, q⟩⟩
end
end Hw

set_option Elab.async false
set_option linter.all false
set_option maxRecDepth 100000
set_option maxHeartbeats 4000000
namespace Hw
open PySem L2 PyProof.Rows
abbrev sTied : Stmt := topS 11
/-- places, ties as tuples, and what is told of them -/
structure FineW (ns : List Str) (ts : List Tie) : Prop where
  nd : ns.Nodup
  few : ns.length ≤ 200
  tie : ∀ t ∈ ts, t.1 ∈ ns ∧ t.2 ∈ ns ∧ strLt t.1 t.2 = true
  tfew : ts.length ≤ 100000
def spTied : Sp := fun vs H Q _ => ∃ (p tl : Addr) (ns : List Str) (ts : List Tie) (qs : List Addr), vs = [.ref p, .ref tl] ∧ FineW ns ts ∧ H p = some (.tup (ns.map V.str)) ∧ H tl = some (.tup (qs.map V.ref)) ∧ Paired (TieL H) qs ts ∧
  ∀ d f H', Same H H' → NearL f H' d ns (nbr ts) → H d = none → (∀ n ∈ ns, H (f n) = none) → Q (.ref d) H'
theorem putK_names {ns : List Str} {f : Str → Addr} {z : Str} {l : Addr} (h : z ∉ ns) : putK (ns.map fun n => ((Sum.inr n : Key), V.ref (f n))) (Sum.inr z) (V.ref l) = (ns ++ [z]).map fun n => ((Sum.inr n : Key), V.ref (if n = z then l else f n)) := by
  rw [putK_new _ (by rw [valV_names (g := fun n => V.ref (f n)), if_neg h]), List.map_append]
  congr 1
  · exact List.map_congr_left fun n hn => by rw [if_neg (fun e => h (by rw [← e]; exact hn))]
  · simp
section
variable {P : Program} {w : World} {K : PySem.W.Frag} {mg : Str → Option Value} {base : Heap}
theorem scTied : FnScope ["places", "ties", "tied", "one", "other", "place"] ["places", "ties"] (defScope sTied) := ⟨rfl, rfl, rfl, by decide +kernel, rfl, by decide +kernel, by decide +kernel⟩
theorem ok_tied {f : Addr} {fd : FuncData} {k : Nat} (F : Fun K "tied_by" "tied_by" sTied f fd) : FnOk P w K mg base CX0 (k + 1) f fd ["places", "ties"] spTied := by
  refine F.ok scTied (fun vs H Q E h => ?_) (fun cdv A outer s H vs Q E hr h => ?_)
  · obtain ⟨p, tl, ns, ts, qs, rfl, _⟩ := h
    rfl
  · obtain ⟨p, tl, ns, ts, qs, rfl, own, e1, e3, e4, q⟩ := h
    have hu := hu_of hr
    refine ⟨_, pss_cons (ps_setDc (i := 2) (own := [("place", 5)]) (g := gName 5) (tt := tYes) rfl scTied.nd rfl rfl (sw_dc rfl rfl rfl (by decide +kernel)) (pi_tup (pv 0))
        (blkOk_by (N := ["places", "ties", "tied", "one", "other", "place"]) (sc := defScope sTied) (by decide +kernel)) (fun _ _ _ _ _ => pg_name (i := 5) scTied.nd rfl (Or.inl rfl)) (fun _ _ _ _ _ => pts_nil)
        (fun _ _ _ _ _ => pv 5) (fun _ _ _ _ _ => pe_lst pa_nil))
      (pss_cons (ps_for PassesOwn.never rfl (pi_tup (pv 1)) (pg_tup rfl (pgs_cons (pg_name (i := 3) scTied.nd rfl (Or.inl rfl)) (pgs_cons (pg_name (i := 4) scTied.nd rfl (Or.inl rfl)) pgs_nil)))
        (pss_cons (ps_expr (pe_bm PySem.F.plainAttrs_list PySem.F.slot_list_append PySem.F.type_list_append mt_append (pe_dget hu (pv 2) (pv 3) (fun _ _ => rfl)) (pa_cons (pv 4) pa_nil)))
        (pss_one (ps_expr (pe_bm PySem.F.plainAttrs_list PySem.F.slot_list_append PySem.F.type_list_append mt_append (pe_dget hu (pv 2) (pv 4) (fun _ _ => rfl)) (pa_cons (pv 3) pa_nil))))))
      (pss_one (ps_ret (pv 2)))), ?_⟩
    have l40 := own.few
    have l1000 := own.tfew
    have hnd := own.nd
    refine rs_set ?_
    refine ⟨.ref p, rfl, p, rfl, ⟨_, sqt_of e1⟩, fun D nD => dc_tup (xs := ns.map V.str) (fun i H' => ∃ f, NearUp H D (ns.take i) f H' ∧ H' D = some (.dK ((ns.take i).map fun n => ((Sum.inr n : Key), V.ref (f n)))))
      ⟨fun _ => 0, ⟨same_upd nD, (fun _ z => nomatch z), (fun _ z => nomatch z)⟩, upd_same⟩ (fun i H' _ ⟨f, w, _⟩ => sqt_of (w.1 _ _ e1)) ?_ ?_⟩
    · rintro i x H' hx ⟨f, w, eD⟩
      obtain ⟨z, hz, rfl⟩ := map_get hx
      have hzt := nodup_take hnd hz
      refine ⟨rfl, r_yes ?_⟩
      refine ⟨.str z, rfl, Nat.zero_le _, fun l nl => ?_⟩
      have hl : l ≠ D := fun e => by rw [e, eD] at nl; cases nl
      have w1 := w.new hzt nl hl
      refine ⟨_, Sum.inr z, rfl, (same_upd nl) _ _ eD, small1000 (by rw [List.length_map, List.length_take]; omega), fun n => if n = z then l else f n, by rw [take_snoc hz]; exact w1.put nD, ?_⟩
      rw [upd_same, take_snoc hz, putK_names hzt]
    · rintro H1 ⟨f, w, eD⟩
      rw [List.length_map, List.take_length] at w eD
      have nl0 := w.done eD
      have s0 := w.1
      have hf0 : ∀ n ∈ ns, H (f n) = none := fun n hn => (w.2.1 n hn).2.1
      refine rs_tup tl (qs.map V.ref) (fun Q1 q1 => ⟨_, rfl, q1⟩) (fun i σ' H' => ∃ o3 o4, σ' = [some (.ref p), some (.ref tl), some (.ref D), o3, o4, none] ∧ Same H H' ∧ NearL f H' D ns (nbr (ts.take i)))
        ⟨_, _, rfl, s0, nl0⟩ (fun i σ' H' _ ⟨o3, o4, _, sx, _⟩ => sqt_of (sx _ _ e3)) ?_ ?_
      · rintro i x σ2 H2 hx ⟨o3, o4, rfl, sx, nl⟩
        obtain ⟨q', hq', rfl⟩ := map_get hx
        obtain ⟨t, ht, et⟩ := paired_get e4 hq'
        obtain ⟨m1, m2, m3⟩ := own.tie t (List.mem_of_getElem? ht)
        refine ⟨q', [.str t.1, .str t.2], rfl, sqt_of (sx _ _ et), rfl, _, [.str t.2], rfl, _, [], rfl, rfl, ?_⟩
        refine near_turn (t := t) (ts := ts.take i) rfl rfl rfl sx nl hf0 m1 m2 (strLt_ne m3) (by rw [List.length_take]; omega) (fun H3 s3 n3 => ⟨_, _, rfl, s3, by rw [take_snoc ht]; exact n3⟩)
      · rintro σ2 H2 ⟨o3, o4, rfl, sx, nl⟩
        rw [List.length_map, Paired.length e4, List.take_length] at nl
        exact ⟨.ref D, rfl, q D f H2 sx nl nD hf0⟩
end
end Hw

set_option Elab.async false
set_option linter.all false
set_option maxRecDepth 100000
set_option maxHeartbeats 4000000
namespace Hw
open PySem L2 PyProof.Rows
/-! how far, level by level -/
abbrev Far := List (Str × Nat)
def lookF (far : Far) (n : Str) : Nat := ((far.find? fun p => decide (p.1 = n)).map (·.2)).getD 0
def encF (far : Far) : List (Key × V) := far.map fun p => ((Sum.inr p.1 : Key), V.int (p.2 : Int))
theorem valV_far (far : Far) (n : Str) : valV (encF far) (Sum.inr n) = if n ∈ far.map (·.1) then some (.int (lookF far n : Nat)) else none := by
  induction far with
  | nil => exact valV_nil
  | cons p far ih =>
    show valV (((Sum.inr p.1 : Key), V.int (p.2 : Int)) :: encF far) _ = _
    by_cases h : p.1 = n
    · rw [valV_pos (congrArg Sum.inr h), if_pos (by rw [← h]; exact List.mem_cons_self)]
      show some (V.int _) = some (V.int _)
      unfold lookF
      rw [List.find?_cons_of_pos (by exact decide_eq_true h)]
      rfl
    · rw [valV_neg (fun e => h (Sum.inr.inj e)), ih]
      have e : lookF (p :: far) n = lookF far n := by
        unfold lookF
        rw [List.find?_cons_of_neg (by simpa using h)]
      rw [e, List.map_cons]
      by_cases hm : n ∈ far.map (·.1)
      · rw [if_pos hm, if_pos (List.mem_cons_of_mem _ hm)]
      · rw [if_neg hm, if_neg (fun z => by rcases List.mem_cons.mp z with z | z; exact h z.symm; exact hm z)]
def stepO (one : Str) (s : Far × List Str) (o : Str) : Far × List Str := if o ∈ s.1.map (·.1) then s else (s.1 ++ [(o, lookF s.1 one + 1)], s.2 ++ [o])
def stepE (nb : Str → List Str) (s : Far × List Str) (one : Str) : Far × List Str := (nb one).foldl (stepO one) s
def lvl (nb : Str → List Str) (s : Far × List Str) : Far × List Str := s.2.foldl (stepE nb) (s.1, [])
def lev (nb : Str → List Str) (p : Str) : Nat → Far × List Str
  | 0 => ([(p, 0)], [p])
  | i + 1 => lvl nb (lev nb p i)
/-- what stands at every moment -/
structure FarOk (ns : List Str) (n0 : Nat) (s : Far × List Str) : Prop where
  nd : (s.1.map (·.1)).Nodup
  sub : ∀ n ∈ s.1.map (·.1), n ∈ ns
  bey : ∀ n ∈ s.2, n ∈ s.1.map (·.1)
  len : s.1.length = n0 + s.2.length
theorem FarOk.few {ns : List Str} {n0 : Nat} {s : Far × List Str} (f : FarOk ns n0 s) : s.1.length ≤ ns.length := by
  have := sub_len f.nd f.sub
  rw [List.length_map] at this
  exact this
theorem FarOk.stepO {ns : List Str} {n0 : Nat} {s : Far × List Str} (f : FarOk ns n0 s) {one o : Str} (ho : o ∈ ns) : FarOk ns n0 (stepO one s o) ∧ ∀ n ∈ s.1.map (·.1), n ∈ (Hw.stepO one s o).1.map (·.1) := by
  unfold Hw.stepO
  by_cases h : o ∈ s.1.map (·.1)
  · rw [if_pos h]; exact ⟨f, fun _ z => z⟩
  · rw [if_neg h]
    refine ⟨⟨?_, ?_, ?_, ?_⟩, ?_⟩
    · show ((s.1 ++ [(o, lookF s.1 one + 1)]).map (·.1)).Nodup
      rw [List.map_append, List.nodup_append]
      exact ⟨f.nd, by simp, fun x hx y hy e => h (by rw [List.mem_singleton.mp hy] at e; rw [show x = o from e] at hx; exact hx)⟩
    · intro n hn
      have hn : n ∈ (s.1 ++ [(o, lookF s.1 one + 1)]).map (·.1) := hn
      rw [List.map_append] at hn
      rcases List.mem_append.mp hn with hn | hn
      · exact f.sub n hn
      · rw [List.mem_singleton.mp hn]; exact ho
    · intro n hn
      show n ∈ (s.1 ++ [(o, lookF s.1 one + 1)]).map (·.1)
      rw [List.map_append]
      rcases List.mem_append.mp hn with hn | hn
      · exact List.mem_append_left _ (f.bey n hn)
      · exact List.mem_append_right _ (by rw [List.mem_singleton.mp hn]; exact List.mem_cons_self)
    · show (s.1 ++ [_]).length = n0 + (s.2 ++ [_]).length
      rw [List.length_append, List.length_append, f.len]; rfl
    · intro n hn
      show n ∈ (s.1 ++ [(o, lookF s.1 one + 1)]).map (·.1)
      rw [List.map_append]
      exact List.mem_append_left _ hn
theorem FarOk.foldO {ns : List Str} {n0 : Nat} {one : Str} : ∀ {os : List Str} {s : Far × List Str}, FarOk ns n0 s → (∀ o ∈ os, o ∈ ns) → FarOk ns n0 (os.foldl (Hw.stepO one) s) ∧ ∀ n ∈ s.1.map (·.1), n ∈ (os.foldl (Hw.stepO one) s).1.map (·.1)
  | [], _, f, _ => ⟨f, fun _ z => z⟩
  | o :: os, s, f, h => by
    obtain ⟨f1, k1⟩ := f.stepO (one := one) (h o List.mem_cons_self)
    obtain ⟨f2, k2⟩ := FarOk.foldO (one := one) f1 fun o ho => h o (List.mem_cons_of_mem _ ho)
    exact ⟨f2, fun n hn => k2 n (k1 n hn)⟩
theorem FarOk.foldE {ns : List Str} {n0 : Nat} {nb : Str → List Str} (hnb : ∀ n ∈ ns, ∀ o ∈ nb n, o ∈ ns) : ∀ {es : List Str} {s : Far × List Str}, FarOk ns n0 s → (∀ o ∈ es, o ∈ ns) → FarOk ns n0 (es.foldl (stepE nb) s) ∧ ∀ n ∈ s.1.map (·.1), n ∈ (es.foldl (stepE nb) s).1.map (·.1)
  | [], _, f, _ => ⟨f, fun _ z => z⟩
  | o :: os, s, f, h => by
    obtain ⟨f1, k1⟩ := f.foldO (one := o) (hnb o (h o List.mem_cons_self))
    obtain ⟨f2, k2⟩ := FarOk.foldE hnb f1 fun o ho => h o (List.mem_cons_of_mem _ ho)
    exact ⟨f2, fun n hn => k2 n (k1 n hn)⟩
theorem FarOk.lvl {ns : List Str} {n0 : Nat} {nb : Str → List Str} (hnb : ∀ n ∈ ns, ∀ o ∈ nb n, o ∈ ns) {s : Far × List Str} (f : FarOk ns n0 s) : FarOk ns s.1.length (lvl nb s) :=
  (FarOk.foldE hnb (s := (s.1, [])) ⟨f.nd, f.sub, (fun _ z => nomatch z), rfl⟩ fun o ho => f.sub o (f.bey o ho)).1
theorem lev_ok {ns : List Str} {nb : Str → List Str} (hnb : ∀ n ∈ ns, ∀ o ∈ nb n, o ∈ ns) {p : Str} (hp : p ∈ ns) : ∀ i, ∃ n0, FarOk ns n0 (lev nb p i)
  | 0 => ⟨0, by simp [lev], by simp [lev, hp], by simp [lev], by simp [lev]⟩
  | i + 1 => by
    obtain ⟨n0, f⟩ := lev_ok hnb hp i
    exact ⟨_, f.lvl hnb⟩
def muF (ns : List Str) (s : Far × List Str) : Nat := 2 * (ns.length - s.1.length) + (if s.2 = [] then 0 else 1)
theorem mu_lvl {ns : List Str} {n0 : Nat} {nb : Str → List Str} (hnb : ∀ n ∈ ns, ∀ o ∈ nb n, o ∈ ns) {s : Far × List Str} (f : FarOk ns n0 s) (hs : s.2 ≠ []) : muF ns (lvl nb s) < muF ns s := by
  have f1 := f.lvl hnb
  have l1 := f1.len
  have l2 := f1.few
  have l3 := f.few
  unfold muF
  rw [if_neg hs]
  by_cases h : (Hw.lvl nb s).2 = []
  · rw [if_pos h]
    rw [h] at l1
    have : (Hw.lvl nb s).1.length = s.1.length := l1
    omega
  · rw [if_neg h]
    have : 0 < (Hw.lvl nb s).2.length := List.length_pos_iff.mpr h
    omega
/-- all that is joined to p, with how far it is -/
def Bfs (nb : Str → List Str) (p : Str) (far : Far) : Prop := ∃ i, lev nb p i = (far, [])
theorem lev_stay {nb : Str → List Str} {p : Str} {far : Far} {i : Nat} (h : lev nb p i = (far, [])) : ∀ k, lev nb p (i + k) = (far, [])
  | 0 => h
  | k + 1 => by
    show lvl nb (lev nb p (i + k)) = _
    rw [lev_stay h k]; rfl
theorem Bfs.uniq {nb : Str → List Str} {p : Str} {far far' : Far} (h : Bfs nb p far) (h' : Bfs nb p far') : far = far' := by
  obtain ⟨i, h⟩ := h
  obtain ⟨j, h'⟩ := h'
  have a := lev_stay h j
  have b := lev_stay h' i
  rw [Nat.add_comm] at b
  rw [a] at b
  exact congrArg Prod.fst b
end Hw

set_option Elab.async false
set_option linter.all false
set_option maxRecDepth 100000
set_option maxHeartbeats 4000000
namespace Hw
open PySem L2 PyProof.Rows
structure BfsH (H0 : Hp) (fd el bl : Addr) (s : Far × List Str) (edge : List Str) (H : Hp) : Prop where
  same : Same H0 H
  far : H fd = some (.dK (encF s.1))
  edge : H el = some (.lst (edge.map V.str))
  bey : H bl = some (.lst (s.2.map V.str))
  f0 : H0 fd = none
  b0 : H0 bl = none
  ne : el ≠ bl
def oneB (K : PySem.W.Frag) : TS := tIfS (tB (tDNotIn (tVar 6) (tVar 2))) (tSeq (sDPut (tVar 2) (tVar 6) (tOp (rI0 fun i j => V.int (i + j)) (tDGet (tVar 2) (tVar 5)) (tC (V.int 1)))) (tDrop (tBM K "list" rAppend (tVar 4) (tCons (tVar 6) tNil)))) tNext
def lapB (K : PySem.W.Frag) (te : TE) : TS := tSeq (tAsg (tLst tNil) (gName 4)) (tSeq (tFor (iList K (tVar 3)) (gName 5) (tFor (iList K te) (gName 6) (oneB K))) (tAsg (tVar 4) (gName 3)))
theorem bfs_one {K : PySem.W.Frag} {D : Ends} {s0 s1 : Option V} {H0 H : Hp} {fd el bl : Addr} {s : Far × List Str} {edge ns : List Str} {n0 : Nat} {one o : Str} (h : BfsH H0 fd el bl s edge H) (f : FarOk ns n0 s) (hl : ns.length ≤ 1000) (h1 : one ∈ s.1.map (·.1)) (ho : o ∈ ns)
    (fin : ∀ H', BfsH H0 fd el bl (stepO one s o) edge H' → D.nx [s0, s1, some (.ref fd), some (.ref el), some (.ref bl), some (.str one), some (.str o)] H') : oneB K D [s0, s1, some (.ref fd), some (.ref el), some (.ref bl), some (.str one), some (.str o)] H := by
  have few := f.few
  have len := f.len
  refine ⟨.str o, rfl, .ref fd, rfl, fd, _, rfl, DGet.k (k := Sum.inr o) h.far, _, rfl, ?_⟩
  rw [valV_far]
  by_cases hm : o ∈ s.1.map (·.1)
  · rw [if_pos hm]
    have := fin H (by unfold stepO; rw [if_pos hm]; exact h)
    exact this
  · rw [if_neg hm]
    have g1 : DGet H fd (.str one) (some (.int (lookF s.1 one : Nat))) := by
      have := DGet.k (k := Sum.inr one) h.far
      rw [valV_far, if_pos h1] at this
      exact this
    refine ⟨.ref fd, rfl, .str one, rfl, fd, _, rfl, g1, _, _, rfl, rfl, .ref fd, rfl, .str o, rfl, fd, _, rfl, DPut.k (k := Sum.inr o) h.far (by unfold encF; rw [List.length_map]; exact small1000 (by omega)), ?_⟩
    have hn : valV (encF s.1) (Sum.inr o) = none := by rw [valV_far, if_neg hm]
    rw [putK_new _ hn]
    have nfb : bl ≠ fd := ne_of h.bey h.far (fun z => nomatch z)
    have nef : el ≠ fd := ne_of h.edge h.far (fun z => nomatch z)
    refine ⟨.ref bl, rfl, .inl ⟨rfl, _, sql_of (by rw [upd_ne nfb]; exact h.bey)⟩, .str o, rfl, bl, _, _, rfl, rfl, by rw [upd_ne nfb]; exact h.bey, small1000 (by rw [List.length_map]; omega), fin _ ?_⟩
    unfold stepO
    rw [if_neg hm]
    refine ⟨fun b u e => ?_, ?_, ?_, ?_, h.f0, h.b0, h.ne⟩
    · rw [upd_ne (ne_of_none e h.b0), upd_ne (ne_of_none e h.f0)]
      exact h.same _ _ e
    · rw [upd_ne (Ne.symm nfb), upd_same]
      show some (HO.dK (encF s.1 ++ [_])) = some (HO.dK (encF (s.1 ++ [_])))
      unfold encF
      rw [List.map_append]
      rfl
    · rw [upd_ne h.ne, upd_ne nef]; exact h.edge
    · rw [upd_same]
      show _ = some (HO.lst ((s.2 ++ [o]).map V.str))
      rw [List.map_append]; rfl
theorem foldl_snoc {α β : Type} {g : β → α → β} {xs : List α} {i : Nat} {x : α} {b : β} (h : xs[i]? = some x) : (xs.take (i + 1)).foldl g b = g ((xs.take i).foldl g b) x := by
  rw [take_snoc h, List.foldl_append]; rfl
/-- the neighbours of one place -/
theorem bfs_all {K : PySem.W.Frag} {D : Ends} {te : TE} {s0 s1 o6 : Option V} {H0 H : Hp} {fd el bl : Addr} {s : Far × List Str} {edge ns : List Str} {nb : Str → List Str} {n0 : Nat} {one : Str} {a : Addr} (h : BfsH H0 fd el bl s edge H) (f : FarOk ns n0 s) (hl : ns.length ≤ 1000) (h1 : one ∈ s.1.map (·.1)) (hnb : ∀ o ∈ nb one, o ∈ ns)
    (ha : H0 a = some (.lst ((nb one).map V.str))) (hte : ∀ Q : VK, Q (.ref a) H → te [s0, s1, some (.ref fd), some (.ref el), some (.ref bl), some (.str one), o6] H Q)
    (fin : ∀ H' o6', BfsH H0 fd el bl (stepE nb s one) edge H' → D.nx [s0, s1, some (.ref fd), some (.ref el), some (.ref bl), some (.str one), o6'] H') : tFor (iList K te) (gName 6) (oneB K) D [s0, s1, some (.ref fd), some (.ref el), some (.ref bl), some (.str one), o6] H := by
  refine hte _ ⟨a, rfl, ⟨_, sql_of (h.same _ _ ha)⟩, for_list (xs := (nb one).map V.str) (fun i σ' H' => ∃ o6', σ' = [s0, s1, some (.ref fd), some (.ref el), some (.ref bl), some (.str one), o6'] ∧ BfsH H0 fd el bl (((nb one).take i).foldl (stepO one) s) edge H') ⟨_, rfl, h⟩ (fun i σ' H' _ ⟨_, _, w⟩ => sql_of (w.same _ _ ha)) ?_ ?_⟩
  · rintro i x σ' H' hx ⟨o6', rfl, w⟩
    obtain ⟨o, ho, rfl⟩ := map_get hx
    obtain ⟨fi, ki⟩ := f.foldO (one := one) (os := (nb one).take i) fun o ho => hnb o (List.mem_of_mem_take ho)
    exact bfs_one w fi hl (ki _ h1) (hnb o (List.mem_of_getElem? ho)) fun H'' w' => ⟨_, rfl, by rw [foldl_snoc ho]; exact w'⟩
  · rintro σ' H' ⟨o6', rfl, w⟩
    rw [List.length_map, List.take_length] at w
    exact fin H' o6' w
/-- a level -/
theorem bfs_lap {K : PySem.W.Frag} {D : Ends} {te : TE} {s0 s1 o4 o5 o6 : Option V} {H0 H : Hp} {fd el : Addr} {s : Far × List Str} {ns : List Str} {nb : Str → List Str} {n0 : Nat} {fa : Str → Addr} (e1 : Same H0 H) (e2 : H fd = some (.dK (encF s.1))) (e3 : H el = some (.lst (s.2.map V.str))) (f0 : H0 fd = none) (f : FarOk ns n0 s) (hl : ns.length ≤ 1000) (hnb : ∀ n ∈ ns, ∀ o ∈ nb n, o ∈ ns)
    (ha : ∀ n ∈ ns, H0 (fa n) = some (.lst ((nb n).map V.str))) (hte : ∀ n ∈ ns, ∀ (bl : Addr) (o6 : Option V) (H' : Hp) (Q : VK), Same H0 H' → Q (.ref (fa n)) H' → te [s0, s1, some (.ref fd), some (.ref el), some (.ref bl), some (.str n), o6] H' Q)
    (fin : ∀ H' bl o5' o6', Same H0 H' → H' fd = some (.dK (encF (lvl nb s).1)) → H' bl = some (.lst ((lvl nb s).2.map V.str)) → D.nx [s0, s1, some (.ref fd), some (.ref bl), some (.ref bl), o5', o6'] H') : lapB K te D [s0, s1, some (.ref fd), some (.ref el), o4, o5, o6] H := by
  refine rs_set ⟨Nat.zero_le _, fun bl nbl => ?_⟩
  have nel : el ≠ bl := ne_of_none e3 nbl
  have w0 : BfsH H0 fd el bl (s.1, []) s.2 (upd H bl (.lst [])) := ⟨e1.trans (same_upd nbl), (same_upd nbl) _ _ e2, (same_upd nbl) _ _ e3, upd_same, f0, e1.free nbl, nel⟩
  have f1 : FarOk ns s.1.length (s.1, []) := ⟨f.nd, f.sub, (fun _ z => nomatch z), rfl⟩
  refine rs_list el (s.2.map V.str) (fun Q q => ⟨_, rfl, q⟩) (fun i σ' H' => ∃ o5' o6', σ' = [s0, s1, some (.ref fd), some (.ref el), some (.ref bl), o5', o6'] ∧ BfsH H0 fd el bl ((s.2.take i).foldl (stepE nb) (s.1, [])) s.2 H') ⟨_, _, rfl, w0⟩ (fun i σ' H' _ ⟨_, _, _, w⟩ => sql_of w.edge) ?_ ?_
  · rintro i x σ' H' hx ⟨o5', o6', rfl, w⟩
    obtain ⟨one, ho, rfl⟩ := map_get hx
    have h1 := f.bey one (List.mem_of_getElem? ho)
    have hin := f.sub one h1
    obtain ⟨fi, ki⟩ := f1.foldE hnb (es := s.2.take i) fun o ho => f.sub o (f.bey o (List.mem_of_mem_take ho))
    refine r_gname ?_
    exact bfs_all w fi hl (ki _ h1) (hnb one hin) (ha one hin) (fun Q q => hte one hin bl o6' H' Q w.same q) fun H'' o6'' w' => ⟨_, _, rfl, by rw [foldl_snoc ho]; exact w'⟩
  · rintro σ' H' ⟨o5', o6', rfl, w⟩
    rw [List.length_map, List.take_length] at w
    exact ⟨.ref bl, rfl, fin H' bl o5' o6' w.same w.far w.bey⟩
end Hw

set_option Elab.async false
set_option linter.all false
set_option maxRecDepth 100000
set_option maxHeartbeats 4000000
namespace HI
open PySem L2 PyProof.Rows Hw
abbrev Tie := Int × Int
theorem nodup_ne {ns : List Int} (h : ns.Nodup) {i j : Nat} (hi : i < ns.length) (hj : j < ns.length) (hij : i < j) : ns[i] ≠ ns[j] := List.pairwise_iff_getElem.mp h i j hi hj hij
def nbr (ts : List Tie) (n : Int) : List Int := ts.flatMap fun t => (if t.1 = n then [t.2] else []) ++ (if t.2 = n then [t.1] else [])
theorem nbr_len (ts : List Tie) (n : Int) : (nbr ts n).length ≤ 2 * ts.length := by
  induction ts with
  | nil => exact Nat.zero_le _
  | cons t ts ih =>
    have e : nbr (t :: ts) n = ((if t.1 = n then [t.2] else []) ++ (if t.2 = n then [t.1] else [])) ++ nbr ts n := by simp [nbr]
    rw [e, List.length_append, List.length_append, List.length_cons]
    have h1 : (if t.1 = n then [t.2] else []).length ≤ 1 := by split <;> simp
    have h2 : (if t.2 = n then [t.1] else []).length ≤ 1 := by split <;> simp
    omega
theorem nbr_mem {ns : List Int} {ts : List Tie} (h : ∀ t ∈ ts, t.1 ∈ ns ∧ t.2 ∈ ns ∧ t.1 < t.2) {n m : Int} (hm : m ∈ nbr ts n) : m ∈ ns := by
  obtain ⟨t, ht, hm⟩ := List.mem_flatMap.mp hm
  obtain ⟨h1, h2, _⟩ := h t ht
  rcases List.mem_append.mp hm with hm | hm
  · split at hm
    · rw [List.mem_singleton.mp hm]; exact h2
    · cases hm
  · split at hm
    · rw [List.mem_singleton.mp hm]; exact h1
    · cases hm
theorem valV_names {g : Int → V} {ns : List Int} (w : Int) : valV (ns.map fun z => ((Sum.inl z : Key), g z)) (Sum.inl w) = if w ∈ ns then some (g w) else none := by
  induction ns with
  | nil => exact valV_nil
  | cons z ns ih =>
    rw [List.map_cons]
    by_cases h : z = w
    · subst h
      rw [valV_pos rfl, if_pos List.mem_cons_self]
    · rw [valV_neg (fun e => h (Sum.inl.inj e)), ih]
      by_cases hm : w ∈ ns
      · rw [if_pos hm, if_pos (List.mem_cons_of_mem _ hm)]
      · rw [if_neg hm, if_neg (fun e => by rcases List.mem_cons.mp e with rfl | e; exact h rfl; exact hm e)]
structure NearL (f : Int → Addr) (H : Hp) (d : Addr) (ns : List Int) (L : Int → List Int) : Prop where
  dict : H d = some (.dK (ns.map fun n => ((Sum.inl n : Key), V.ref (f n))))
  lst : ∀ n ∈ ns, H (f n) = some (.lst ((L n).map V.int))
  inj : ∀ m ∈ ns, ∀ n ∈ ns, f m = f n → m = n
theorem NearL.get {f : Int → Addr} {H : Hp} {d : Addr} {ns : List Int} {L : Int → List Int} (w : NearL f H d ns L) {n : Int} (h : n ∈ ns) : DGet H d (.int n) (some (.ref (f n))) := by
  have := DGet.k (k := Sum.inl n) w.dict
  rw [valV_names (g := fun n => V.ref (f n)), if_pos h] at this
  exact this
theorem NearL.keep {f : Int → Addr} {H H' : Hp} {d : Addr} {ns : List Int} {L : Int → List Int} (w : NearL f H d ns L) (s : Same H H') : NearL f H' d ns L :=
  ⟨s _ _ w.dict, fun n hn => s _ _ (w.lst n hn), w.inj⟩
theorem NearL.congr {f : Int → Addr} {H : Hp} {d : Addr} {ns : List Int} {L M : Int → List Int} (w : NearL f H d ns L) (h : ∀ n ∈ ns, L n = M n) : NearL f H d ns M :=
  ⟨w.dict, fun n hn => by rw [← h n hn]; exact w.lst n hn, w.inj⟩
theorem NearL.push {f : Int → Addr} {H : Hp} {d : Addr} {ns : List Int} {L : Int → List Int} (w : NearL f H d ns L) {x y : Int} (hx : x ∈ ns) : NearL f (upd H (f x) (.lst ((L x).map V.int ++ [.int y]))) d ns (fun n => if n = x then L n ++ [y] else L n) := by
  refine ⟨?_, fun n hn => ?_, w.inj⟩
  · rw [upd_ne (ne_of w.dict (w.lst x hx) (fun z => nomatch z))]; exact w.dict
  · by_cases h : n = x
    · subst h
      rw [upd_same, if_pos rfl, List.map_append]; rfl
    · rw [upd_ne (fun e => h (w.inj n hn x hx e)), if_neg h]; exact w.lst n hn
theorem nbr_snoc (ts : List Tie) (t : Tie) (n : Int) : nbr (ts ++ [t]) n = nbr ts n ++ ((if t.1 = n then [t.2] else []) ++ (if t.2 = n then [t.1] else [])) := by simp [nbr]
theorem nbr_push {ts : List Tie} {t : Tie} (h : t.1 ≠ t.2) (n : Int) : (if n = t.2 then (if n = t.1 then nbr ts n ++ [t.2] else nbr ts n) ++ [t.1] else (if n = t.1 then nbr ts n ++ [t.2] else nbr ts n)) = nbr (ts ++ [t]) n := by
  rw [nbr_snoc]
  by_cases h1 : n = t.1
  · have h2 : n ≠ t.2 := fun e => h (h1.symm.trans e)
    rw [if_neg h2, if_pos h1, if_pos h1.symm, if_neg (Ne.symm h2)]; simp
  · by_cases h2 : n = t.2
    · rw [if_pos h2, if_neg h1, if_neg (Ne.symm h1), if_pos h2.symm]; simp
    · rw [if_neg h2, if_neg h1, if_neg (Ne.symm h1), if_neg (Ne.symm h2)]; simp
abbrev TieL (H : Hp) (q : Addr) (t : Tie) : Prop := H q = some (.tup [.int t.1, .int t.2])
theorem nodup_take {ns : List Int} (h : ns.Nodup) {i : Nat} {x : Int} (hx : ns[i]? = some x) : x ∉ ns.take i := by
  intro hm
  obtain ⟨j, hj, e⟩ := List.mem_iff_getElem.mp hm
  rw [List.length_take] at hj
  obtain ⟨hi, rfl⟩ := List.getElem?_eq_some_iff.mp hx
  rw [List.getElem_take] at e
  exact nodup_ne h (by omega) hi (by omega) e
def NearUp (H0 : Hp) (D : Addr) (ns : List Int) (f : Int → Addr) (H : Hp) : Prop := Same H0 H ∧ (∀ n ∈ ns, H (f n) = some (.lst []) ∧ H0 (f n) = none ∧ f n ≠ D) ∧ ∀ m ∈ ns, ∀ n ∈ ns, f m = f n → m = n
theorem NearUp.keep {H0 H H' : Hp} {D : Addr} {ns : List Int} {f : Int → Addr} (w : NearUp H0 D ns f H) (s : Same H H') : NearUp H0 D ns f H' := ⟨w.1.trans s, fun n hn => ⟨s _ _ (w.2.1 n hn).1, (w.2.1 n hn).2⟩, w.2.2⟩
theorem NearUp.put {H0 H : Hp} {D : Addr} {ns : List Int} {f : Int → Addr} {o : HO} (w : NearUp H0 D ns f H) (hD : H0 D = none) : NearUp H0 D ns f (upd H D o) :=
  ⟨fun b u e => by rw [upd_ne (ne_of_none e hD)]; exact w.1 _ _ e, fun n hn => ⟨by rw [upd_ne (w.2.1 n hn).2.2]; exact (w.2.1 n hn).1, (w.2.1 n hn).2⟩, w.2.2⟩
theorem NearUp.new {H0 H : Hp} {D l : Addr} {ns : List Int} {f : Int → Addr} {x : Int} (w : NearUp H0 D ns f H) (hx : x ∉ ns) (nl : H l = none) (hl : l ≠ D) : NearUp H0 D (ns ++ [x]) (fun n => if n = x then l else f n) (upd H l (.lst [])) := by
  have hf : ∀ n ∈ ns, (if n = x then l else f n) = f n := fun n hn => if_neg fun e => hx (by rw [← e]; exact hn)
  have hxl : (if x = x then l else f x) = l := if_pos rfl
  refine ⟨w.1.trans (same_upd nl), fun n hn => ?_, fun m hm n hn e => ?_⟩
  · rcases List.mem_append.mp hn with hn | hn
    · dsimp only
      rw [hf n hn]
      exact ⟨(same_upd nl) _ _ (w.2.1 n hn).1, (w.2.1 n hn).2⟩
    · rw [List.mem_singleton.mp hn]
      dsimp only
      rw [hxl]
      exact ⟨upd_same, w.1.free nl, hl⟩
  · have e : (if m = x then l else f m) = (if n = x then l else f n) := e
    have ne : ∀ n ∈ ns, f n ≠ l := fun n hn z => by
      have := (w.2.1 n hn).1
      rw [z, nl] at this; cases this
    rcases List.mem_append.mp hm with hm | hm <;> rcases List.mem_append.mp hn with hn | hn
    · rw [hf m hm, hf n hn] at e; exact w.2.2 m hm n hn e
    · rw [List.mem_singleton.mp hn, hf m hm, hxl] at e; exact absurd e (ne m hm)
    · rw [List.mem_singleton.mp hm, hf n hn, hxl] at e; exact absurd e.symm (ne n hn)
    · rw [List.mem_singleton.mp hm, List.mem_singleton.mp hn]
theorem NearUp.done {H0 H : Hp} {D d : Addr} {ns : List Int} {f : Int → Addr} (w : NearUp H0 D ns f H) (hd : H d = some (.dK (ns.map fun n => ((Sum.inl n : Key), V.ref (f n))))) : NearL f H d ns (nbr []) :=
  ⟨hd, fun n hn => (w.2.1 n hn).1, w.2.2⟩
theorem tie_push {H0 H : Hp} {d : Addr} {ns : List Int} {f : Int → Addr} {ts : List Tie} {t : Tie} (s : Same H0 H) (w : NearL f H d ns (nbr ts)) (h0 : ∀ n ∈ ns, H0 (f n) = none) (h1 : t.1 ∈ ns) (h2 : t.2 ∈ ns) (hne : t.1 ≠ t.2) :
    ∃ L1, NearL f (upd H (f t.1) (.lst ((nbr ts t.1).map V.int ++ [.int t.2]))) d ns L1 ∧ L1 t.2 = nbr ts t.2 ∧
      Same H0 (upd (upd H (f t.1) (.lst ((nbr ts t.1).map V.int ++ [.int t.2]))) (f t.2) (.lst ((nbr ts t.2).map V.int ++ [.int t.1]))) ∧
      NearL f (upd (upd H (f t.1) (.lst ((nbr ts t.1).map V.int ++ [.int t.2]))) (f t.2) (.lst ((nbr ts t.2).map V.int ++ [.int t.1]))) d ns (nbr (ts ++ [t])) := by
  have w1 := w.push (y := t.2) h1
  have e2 : (if t.2 = t.1 then nbr ts t.2 ++ [t.2] else nbr ts t.2) = nbr ts t.2 := if_neg (Ne.symm hne)
  have w2 := w1.push (y := t.1) h2
  rw [e2] at w2
  refine ⟨_, w1, e2, fun b o e => ?_, w2.congr fun n _ => nbr_push hne n⟩
  rw [upd_ne (ne_of_none e (h0 _ h2)), upd_ne (ne_of_none e (h0 _ h1))]
  exact s _ _ e
theorem near_turn {K : PySem.W.Frag} {D' : Ends} {i2 i3 i4 : Nat} {σ : L2.St} {H0 H : Hp} {d : Addr} {ns : List Int} {f : Int → Addr} {ts : List Tie} {t : Tie} (v2 : σ[i2]? = some (some (.ref d))) (v3 : σ[i3]? = some (some (.int t.1))) (v4 : σ[i4]? = some (some (.int t.2)))
    (s : Same H0 H) (w : NearL f H d ns (nbr ts)) (h0 : ∀ n ∈ ns, H0 (f n) = none) (h1 : t.1 ∈ ns) (h2 : t.2 ∈ ns) (hne : t.1 ≠ t.2) (hl : ts.length ≤ 100000) (fin : ∀ H', Same H0 H' → NearL f H' d ns (nbr (ts ++ [t])) → D'.nx σ H') :
    tSeq (tDrop (tBM K "list" rAppend (tDGet (tVar i2) (tVar i3)) (tCons (tVar i4) tNil))) (tDrop (tBM K "list" rAppend (tDGet (tVar i2) (tVar i4)) (tCons (tVar i3) tNil))) D' σ H := by
  obtain ⟨L1, w1, eL, s2, w2⟩ := tie_push s w h0 h1 h2 hne
  have q2 := w1.lst t.2 h2
  rw [eL] at q2
  have l1 := nbr_len ts t.1
  have l2 := nbr_len ts t.2
  refine rs_bm ⟨.ref d, v2, .int t.1, v3, d, .ref (f t.1), rfl, w.get h1, .inl ⟨rfl, _, sql_of (w.lst _ h1)⟩, .int t.2, v4, f t.1, _, _, rfl, rfl, w.lst _ h1, by rw [List.length_map, sizeLine_eq]; omega, ?_⟩
  exact ⟨.ref d, v2, .int t.2, v4, d, .ref (f t.2), rfl, w1.get h2, .inl ⟨rfl, _, sql_of q2⟩, .int t.1, v3, f t.2, _, _, rfl, rfl, q2, by rw [List.length_map, sizeLine_eq]; omega, fin _ s2 w2⟩
section
variable {P : Program} {w : World} {K : PySem.W.Frag} {mg : Str → Option Value} {base : Heap}
end
abbrev sTied : Stmt := topS 11
structure FineW (ns : List Int) (ts : List Tie) : Prop where
  nd : ns.Nodup
  few : ns.length ≤ 200
  tie : ∀ t ∈ ts, t.1 ∈ ns ∧ t.2 ∈ ns ∧ t.1 < t.2
  tfew : ts.length ≤ 100000
def spTied : Sp := fun vs H Q _ => ∃ (p tl : Addr) (ns : List Int) (ts : List Tie) (qs : List Addr), vs = [.ref p, .ref tl] ∧ FineW ns ts ∧ H p = some (.lst (ns.map V.int)) ∧ H tl = some (.tup (qs.map V.ref)) ∧ Paired (TieL H) qs ts ∧
  ∀ d f H', Same H H' → NearL f H' d ns (nbr ts) → H d = none → (∀ n ∈ ns, H (f n) = none) → Q (.ref d) H'
theorem putK_names {ns : List Int} {f : Int → Addr} {z : Int} {l : Addr} (h : z ∉ ns) : putK (ns.map fun n => ((Sum.inl n : Key), V.ref (f n))) (Sum.inl z) (V.ref l) = (ns ++ [z]).map fun n => ((Sum.inl n : Key), V.ref (if n = z then l else f n)) := by
  rw [putK_new _ (by rw [valV_names (g := fun n => V.ref (f n)), if_neg h]), List.map_append]
  congr 1
  · exact List.map_congr_left fun n hn => by rw [if_neg (fun e => h (by rw [← e]; exact hn))]
  · simp
section
variable {P : Program} {w : World} {K : PySem.W.Frag} {mg : Str → Option Value} {base : Heap}
theorem scTied : FnScope ["places", "ties", "tied", "one", "other", "place"] ["places", "ties"] (defScope sTied) := ⟨rfl, rfl, rfl, by decide +kernel, rfl, by decide +kernel, by decide +kernel⟩
theorem ok_tied {f : Addr} {fd : FuncData} {k : Nat} (F : Fun K "tied_by" "tied_by" sTied f fd) : FnOk P w K mg base CX0 (k + 1) f fd ["places", "ties"] spTied := by
  refine F.ok scTied (fun vs H Q E h => ?_) (fun cdv A outer s H vs Q E hr h => ?_)
  · obtain ⟨p, tl, ns, ts, qs, rfl, _⟩ := h
    rfl
  · obtain ⟨p, tl, ns, ts, qs, rfl, own, e1, e3, e4, q⟩ := h
    have hu := hu_of hr
    refine ⟨_, pss_cons (ps_setDc (i := 2) (own := [("place", 5)]) (g := gName 5) (tt := tYes) rfl scTied.nd rfl rfl (sw_dc rfl rfl rfl (by decide +kernel)) (pi_list (pv 0))
        (blkOk_by (N := ["places", "ties", "tied", "one", "other", "place"]) (sc := defScope sTied) (by decide +kernel)) (fun _ _ _ _ _ => pg_name (i := 5) scTied.nd rfl (Or.inl rfl)) (fun _ _ _ _ _ => pts_nil)
        (fun _ _ _ _ _ => pv 5) (fun _ _ _ _ _ => pe_lst pa_nil))
      (pss_cons (ps_for PassesOwn.never rfl (pi_tup (pv 1)) (pg_tup rfl (pgs_cons (pg_name (i := 3) scTied.nd rfl (Or.inl rfl)) (pgs_cons (pg_name (i := 4) scTied.nd rfl (Or.inl rfl)) pgs_nil)))
        (pss_cons (ps_expr (pe_bm PySem.F.plainAttrs_list PySem.F.slot_list_append PySem.F.type_list_append mt_append (pe_dget hu (pv 2) (pv 3) (fun _ _ => rfl)) (pa_cons (pv 4) pa_nil)))
        (pss_one (ps_expr (pe_bm PySem.F.plainAttrs_list PySem.F.slot_list_append PySem.F.type_list_append mt_append (pe_dget hu (pv 2) (pv 4) (fun _ _ => rfl)) (pa_cons (pv 3) pa_nil))))))
      (pss_one (ps_ret (pv 2)))), ?_⟩
    have l40 := own.few
    have l1000 := own.tfew
    have hnd := own.nd
    refine rs_set ?_
    refine ⟨.ref p, rfl, p, rfl, ⟨_, sql_of e1⟩, fun D nD => dct_it (walk_list (xs := ns.map V.int)) (fun i H' => ∃ f, NearUp H D (ns.take i) f H' ∧ H' D = some (.dK ((ns.take i).map fun n => ((Sum.inl n : Key), V.ref (f n)))))
      ⟨fun _ => 0, ⟨same_upd nD, (fun _ z => nomatch z), (fun _ z => nomatch z)⟩, upd_same⟩ (fun i H' _ ⟨f, w, _⟩ => sql_of (w.1 _ _ e1)) ?_ ?_⟩
    · rintro i x H'' H' hi ⟨f, w, eD⟩ ⟨rfl, hx⟩
      obtain ⟨z, hz, rfl⟩ := map_get hx
      have hzt := nodup_take hnd hz
      refine ⟨rfl, r_yes ?_⟩
      refine ⟨.int z, rfl, Nat.zero_le _, fun l nl => ?_⟩
      have hl : l ≠ D := fun e => by rw [e, eD] at nl; cases nl
      have w1 := w.new hzt nl hl
      refine ⟨_, Sum.inl z, rfl, (same_upd nl) _ _ eD, small1000 (by rw [List.length_map, List.length_take]; omega), fun n => if n = z then l else f n, by rw [take_snoc hz]; exact w1.put nD, ?_⟩
      rw [upd_same, take_snoc hz, putK_names hzt]
    · rintro H1 ⟨f, w, eD⟩
      rw [List.length_map, List.take_length] at w eD
      have nl0 := w.done eD
      have s0 := w.1
      have hf0 : ∀ n ∈ ns, H (f n) = none := fun n hn => (w.2.1 n hn).2.1
      refine rs_tup tl (qs.map V.ref) (fun Q1 q1 => ⟨_, rfl, q1⟩) (fun i σ' H' => ∃ o3 o4, σ' = [some (.ref p), some (.ref tl), some (.ref D), o3, o4, none] ∧ Same H H' ∧ NearL f H' D ns (nbr (ts.take i)))
        ⟨_, _, rfl, s0, nl0⟩ (fun i σ' H' _ ⟨o3, o4, _, sx, _⟩ => sqt_of (sx _ _ e3)) ?_ ?_
      · rintro i x σ2 H2 hx ⟨o3, o4, rfl, sx, nl⟩
        obtain ⟨q', hq', rfl⟩ := map_get hx
        obtain ⟨t, ht, et⟩ := Hw.paired_get e4 hq'
        obtain ⟨m1, m2, m3⟩ := own.tie t (List.mem_of_getElem? ht)
        refine ⟨q', [.int t.1, .int t.2], rfl, sqt_of (sx _ _ et), rfl, _, [.int t.2], rfl, _, [], rfl, rfl, ?_⟩
        refine near_turn (t := t) (ts := ts.take i) rfl rfl rfl sx nl hf0 m1 m2 (Int.ne_of_lt m3) (by rw [List.length_take]; omega) (fun H3 s3 n3 => ⟨_, _, rfl, s3, by rw [take_snoc ht]; exact n3⟩)
      · rintro σ2 H2 ⟨o3, o4, rfl, sx, nl⟩
        rw [List.length_map, Paired.length e4, List.take_length] at nl
        exact ⟨.ref D, rfl, q D f H2 sx nl nD hf0⟩
end
abbrev Far := List (Int × Nat)
def lookF (far : Far) (n : Int) : Nat := ((far.find? fun p => decide (p.1 = n)).map (·.2)).getD 0
def encF (far : Far) : List (Key × V) := far.map fun p => ((Sum.inl p.1 : Key), V.int (p.2 : Int))
theorem valV_far (far : Far) (n : Int) : valV (encF far) (Sum.inl n) = if n ∈ far.map (·.1) then some (.int (lookF far n : Nat)) else none := by
  induction far with
  | nil => exact valV_nil
  | cons p far ih =>
    show valV (((Sum.inl p.1 : Key), V.int (p.2 : Int)) :: encF far) _ = _
    by_cases h : p.1 = n
    · rw [valV_pos (congrArg Sum.inl h), if_pos (by rw [← h]; exact List.mem_cons_self)]
      show some (V.int _) = some (V.int _)
      unfold lookF
      rw [List.find?_cons_of_pos (by exact decide_eq_true h)]
      rfl
    · rw [valV_neg (fun e => h (Sum.inl.inj e)), ih]
      have e : lookF (p :: far) n = lookF far n := by
        unfold lookF
        rw [List.find?_cons_of_neg (by simpa using h)]
      rw [e, List.map_cons]
      by_cases hm : n ∈ far.map (·.1)
      · rw [if_pos hm, if_pos (List.mem_cons_of_mem _ hm)]
      · rw [if_neg hm, if_neg (fun z => by rcases List.mem_cons.mp z with z | z; exact h z.symm; exact hm z)]
def stepO (one : Int) (s : Far × List Int) (o : Int) : Far × List Int := if o ∈ s.1.map (·.1) then s else (s.1 ++ [(o, lookF s.1 one + 1)], s.2 ++ [o])
def stepE (nb : Int → List Int) (s : Far × List Int) (one : Int) : Far × List Int := (nb one).foldl (stepO one) s
def lvl (nb : Int → List Int) (s : Far × List Int) : Far × List Int := s.2.foldl (stepE nb) (s.1, [])
def lev (nb : Int → List Int) (p : Int) : Nat → Far × List Int
  | 0 => ([(p, 0)], [p])
  | i + 1 => lvl nb (lev nb p i)
structure FarOk (ns : List Int) (n0 : Nat) (s : Far × List Int) : Prop where
  nd : (s.1.map (·.1)).Nodup
  sub : ∀ n ∈ s.1.map (·.1), n ∈ ns
  bey : ∀ n ∈ s.2, n ∈ s.1.map (·.1)
  len : s.1.length = n0 + s.2.length
theorem FarOk.few {ns : List Int} {n0 : Nat} {s : Far × List Int} (f : FarOk ns n0 s) : s.1.length ≤ ns.length := by
  have := sub_len f.nd f.sub
  rw [List.length_map] at this
  exact this
theorem FarOk.stepO {ns : List Int} {n0 : Nat} {s : Far × List Int} (f : FarOk ns n0 s) {one o : Int} (ho : o ∈ ns) : FarOk ns n0 (stepO one s o) ∧ ∀ n ∈ s.1.map (·.1), n ∈ (HI.stepO one s o).1.map (·.1) := by
  unfold HI.stepO
  by_cases h : o ∈ s.1.map (·.1)
  · rw [if_pos h]; exact ⟨f, fun _ z => z⟩
  · rw [if_neg h]
    refine ⟨⟨?_, ?_, ?_, ?_⟩, ?_⟩
    · show ((s.1 ++ [(o, lookF s.1 one + 1)]).map (·.1)).Nodup
      rw [List.map_append, List.nodup_append]
      exact ⟨f.nd, by simp, fun x hx y hy e => h (by rw [List.mem_singleton.mp hy] at e; rw [show x = o from e] at hx; exact hx)⟩
    · intro n hn
      have hn : n ∈ (s.1 ++ [(o, lookF s.1 one + 1)]).map (·.1) := hn
      rw [List.map_append] at hn
      rcases List.mem_append.mp hn with hn | hn
      · exact f.sub n hn
      · rw [List.mem_singleton.mp hn]; exact ho
    · intro n hn
      show n ∈ (s.1 ++ [(o, lookF s.1 one + 1)]).map (·.1)
      rw [List.map_append]
      rcases List.mem_append.mp hn with hn | hn
      · exact List.mem_append_left _ (f.bey n hn)
      · exact List.mem_append_right _ (by rw [List.mem_singleton.mp hn]; exact List.mem_cons_self)
    · show (s.1 ++ [_]).length = n0 + (s.2 ++ [_]).length
      rw [List.length_append, List.length_append, f.len]; rfl
    · intro n hn
      show n ∈ (s.1 ++ [(o, lookF s.1 one + 1)]).map (·.1)
      rw [List.map_append]
      exact List.mem_append_left _ hn
theorem FarOk.foldO {ns : List Int} {n0 : Nat} {one : Int} : ∀ {os : List Int} {s : Far × List Int}, FarOk ns n0 s → (∀ o ∈ os, o ∈ ns) → FarOk ns n0 (os.foldl (HI.stepO one) s) ∧ ∀ n ∈ s.1.map (·.1), n ∈ (os.foldl (HI.stepO one) s).1.map (·.1)
  | [], _, f, _ => ⟨f, fun _ z => z⟩
  | o :: os, s, f, h => by
    obtain ⟨f1, k1⟩ := f.stepO (one := one) (h o List.mem_cons_self)
    obtain ⟨f2, k2⟩ := FarOk.foldO (one := one) f1 fun o ho => h o (List.mem_cons_of_mem _ ho)
    exact ⟨f2, fun n hn => k2 n (k1 n hn)⟩
theorem FarOk.foldE {ns : List Int} {n0 : Nat} {nb : Int → List Int} (hnb : ∀ n ∈ ns, ∀ o ∈ nb n, o ∈ ns) : ∀ {es : List Int} {s : Far × List Int}, FarOk ns n0 s → (∀ o ∈ es, o ∈ ns) → FarOk ns n0 (es.foldl (stepE nb) s) ∧ ∀ n ∈ s.1.map (·.1), n ∈ (es.foldl (stepE nb) s).1.map (·.1)
  | [], _, f, _ => ⟨f, fun _ z => z⟩
  | o :: os, s, f, h => by
    obtain ⟨f1, k1⟩ := f.foldO (one := o) (hnb o (h o List.mem_cons_self))
    obtain ⟨f2, k2⟩ := FarOk.foldE hnb f1 fun o ho => h o (List.mem_cons_of_mem _ ho)
    exact ⟨f2, fun n hn => k2 n (k1 n hn)⟩
theorem FarOk.lvl {ns : List Int} {n0 : Nat} {nb : Int → List Int} (hnb : ∀ n ∈ ns, ∀ o ∈ nb n, o ∈ ns) {s : Far × List Int} (f : FarOk ns n0 s) : FarOk ns s.1.length (lvl nb s) :=
  (FarOk.foldE hnb (s := (s.1, [])) ⟨f.nd, f.sub, (fun _ z => nomatch z), rfl⟩ fun o ho => f.sub o (f.bey o ho)).1
theorem lev_ok {ns : List Int} {nb : Int → List Int} (hnb : ∀ n ∈ ns, ∀ o ∈ nb n, o ∈ ns) {p : Int} (hp : p ∈ ns) : ∀ i, ∃ n0, FarOk ns n0 (lev nb p i)
  | 0 => ⟨0, by simp [lev], by simp [lev, hp], by simp [lev], by simp [lev]⟩
  | i + 1 => by
    obtain ⟨n0, f⟩ := lev_ok hnb hp i
    exact ⟨_, f.lvl hnb⟩
def muF (ns : List Int) (s : Far × List Int) : Nat := 2 * (ns.length - s.1.length) + (if s.2 = [] then 0 else 1)
theorem mu_lvl {ns : List Int} {n0 : Nat} {nb : Int → List Int} (hnb : ∀ n ∈ ns, ∀ o ∈ nb n, o ∈ ns) {s : Far × List Int} (f : FarOk ns n0 s) (hs : s.2 ≠ []) : muF ns (lvl nb s) < muF ns s := by
  have f1 := f.lvl hnb
  have l1 := f1.len
  have l2 := f1.few
  have l3 := f.few
  unfold muF
  rw [if_neg hs]
  by_cases h : (HI.lvl nb s).2 = []
  · rw [if_pos h]
    rw [h] at l1
    have : (HI.lvl nb s).1.length = s.1.length := l1
    omega
  · rw [if_neg h]
    have : 0 < (HI.lvl nb s).2.length := List.length_pos_iff.mpr h
    omega
def Bfs (nb : Int → List Int) (p : Int) (far : Far) : Prop := ∃ i, lev nb p i = (far, [])
theorem lev_stay {nb : Int → List Int} {p : Int} {far : Far} {i : Nat} (h : lev nb p i = (far, [])) : ∀ k, lev nb p (i + k) = (far, [])
  | 0 => h
  | k + 1 => by
    show lvl nb (lev nb p (i + k)) = _
    rw [lev_stay h k]; rfl
theorem Bfs.uniq {nb : Int → List Int} {p : Int} {far far' : Far} (h : Bfs nb p far) (h' : Bfs nb p far') : far = far' := by
  obtain ⟨i, h⟩ := h
  obtain ⟨j, h'⟩ := h'
  have a := lev_stay h j
  have b := lev_stay h' i
  rw [Nat.add_comm] at b
  rw [a] at b
  exact congrArg Prod.fst b
structure BfsH (H0 : Hp) (fd el bl : Addr) (s : Far × List Int) (edge : List Int) (H : Hp) : Prop where
  same : Same H0 H
  far : H fd = some (.dK (encF s.1))
  edge : H el = some (.lst (edge.map V.int))
  bey : H bl = some (.lst (s.2.map V.int))
  f0 : H0 fd = none
  b0 : H0 bl = none
  ne : el ≠ bl
def oneB (K : PySem.W.Frag) : TS := tIfS (tB (tDNotIn (tVar 6) (tVar 2))) (tSeq (sDPut (tVar 2) (tVar 6) (tOp (rI0 fun i j => V.int (i + j)) (tDGet (tVar 2) (tVar 5)) (tC (V.int 1)))) (tDrop (tBM K "list" rAppend (tVar 4) (tCons (tVar 6) tNil)))) tNext
def lapB (K : PySem.W.Frag) (te : TE) : TS := tSeq (tAsg (tLst tNil) (gName 4)) (tSeq (tFor (iList K (tVar 3)) (gName 5) (tFor (iList K te) (gName 6) (oneB K))) (tAsg (tVar 4) (gName 3)))
theorem bfs_one {K : PySem.W.Frag} {D : Ends} {s0 s1 : Option V} {H0 H : Hp} {fd el bl : Addr} {s : Far × List Int} {edge ns : List Int} {n0 : Nat} {one o : Int} (h : BfsH H0 fd el bl s edge H) (f : FarOk ns n0 s) (hl : ns.length ≤ 1000) (h1 : one ∈ s.1.map (·.1)) (ho : o ∈ ns)
    (fin : ∀ H', BfsH H0 fd el bl (stepO one s o) edge H' → D.nx [s0, s1, some (.ref fd), some (.ref el), some (.ref bl), some (.int one), some (.int o)] H') : oneB K D [s0, s1, some (.ref fd), some (.ref el), some (.ref bl), some (.int one), some (.int o)] H := by
  have few := f.few
  have len := f.len
  refine ⟨.int o, rfl, .ref fd, rfl, fd, _, rfl, DGet.k (k := Sum.inl o) h.far, _, rfl, ?_⟩
  rw [valV_far]
  by_cases hm : o ∈ s.1.map (·.1)
  · rw [if_pos hm]
    have := fin H (by unfold stepO; rw [if_pos hm]; exact h)
    exact this
  · rw [if_neg hm]
    have g1 : DGet H fd (.int one) (some (.int (lookF s.1 one : Nat))) := by
      have := DGet.k (k := Sum.inl one) h.far
      rw [valV_far, if_pos h1] at this
      exact this
    refine ⟨.ref fd, rfl, .int one, rfl, fd, _, rfl, g1, _, _, rfl, rfl, .ref fd, rfl, .int o, rfl, fd, _, rfl, DPut.k (k := Sum.inl o) h.far (by unfold encF; rw [List.length_map]; exact small1000 (by omega)), ?_⟩
    have hn : valV (encF s.1) (Sum.inl o) = none := by rw [valV_far, if_neg hm]
    rw [putK_new _ hn]
    have nfb : bl ≠ fd := ne_of h.bey h.far (fun z => nomatch z)
    have nef : el ≠ fd := ne_of h.edge h.far (fun z => nomatch z)
    refine ⟨.ref bl, rfl, .inl ⟨rfl, _, sql_of (by rw [upd_ne nfb]; exact h.bey)⟩, .int o, rfl, bl, _, _, rfl, rfl, by rw [upd_ne nfb]; exact h.bey, small1000 (by rw [List.length_map]; omega), fin _ ?_⟩
    unfold stepO
    rw [if_neg hm]
    refine ⟨fun b u e => ?_, ?_, ?_, ?_, h.f0, h.b0, h.ne⟩
    · rw [upd_ne (ne_of_none e h.b0), upd_ne (ne_of_none e h.f0)]
      exact h.same _ _ e
    · rw [upd_ne (Ne.symm nfb), upd_same]
      show some (HO.dK (encF s.1 ++ [_])) = some (HO.dK (encF (s.1 ++ [_])))
      unfold encF
      rw [List.map_append]
      rfl
    · rw [upd_ne h.ne, upd_ne nef]; exact h.edge
    · rw [upd_same]
      show _ = some (HO.lst ((s.2 ++ [o]).map V.int))
      rw [List.map_append]; rfl
theorem foldl_snoc {α β : Type} {g : β → α → β} {xs : List α} {i : Nat} {x : α} {b : β} (h : xs[i]? = some x) : (xs.take (i + 1)).foldl g b = g ((xs.take i).foldl g b) x := by
  rw [take_snoc h, List.foldl_append]; rfl
theorem bfs_all {K : PySem.W.Frag} {D : Ends} {te : TE} {s0 s1 o6 : Option V} {H0 H : Hp} {fd el bl : Addr} {s : Far × List Int} {edge ns : List Int} {nb : Int → List Int} {n0 : Nat} {one : Int} {a : Addr} (h : BfsH H0 fd el bl s edge H) (f : FarOk ns n0 s) (hl : ns.length ≤ 1000) (h1 : one ∈ s.1.map (·.1)) (hnb : ∀ o ∈ nb one, o ∈ ns)
    (ha : H0 a = some (.lst ((nb one).map V.int))) (hte : ∀ Q : VK, Q (.ref a) H → te [s0, s1, some (.ref fd), some (.ref el), some (.ref bl), some (.int one), o6] H Q)
    (fin : ∀ H' o6', BfsH H0 fd el bl (stepE nb s one) edge H' → D.nx [s0, s1, some (.ref fd), some (.ref el), some (.ref bl), some (.int one), o6'] H') : tFor (iList K te) (gName 6) (oneB K) D [s0, s1, some (.ref fd), some (.ref el), some (.ref bl), some (.int one), o6] H := by
  refine hte _ ⟨a, rfl, ⟨_, sql_of (h.same _ _ ha)⟩, for_list (xs := (nb one).map V.int) (fun i σ' H' => ∃ o6', σ' = [s0, s1, some (.ref fd), some (.ref el), some (.ref bl), some (.int one), o6'] ∧ BfsH H0 fd el bl (((nb one).take i).foldl (stepO one) s) edge H') ⟨_, rfl, h⟩ (fun i σ' H' _ ⟨_, _, w⟩ => sql_of (w.same _ _ ha)) ?_ ?_⟩
  · rintro i x σ' H' hx ⟨o6', rfl, w⟩
    obtain ⟨o, ho, rfl⟩ := map_get hx
    obtain ⟨fi, ki⟩ := f.foldO (one := one) (os := (nb one).take i) fun o ho => hnb o (List.mem_of_mem_take ho)
    exact bfs_one w fi hl (ki _ h1) (hnb o (List.mem_of_getElem? ho)) fun H'' w' => ⟨_, rfl, by rw [foldl_snoc ho]; exact w'⟩
  · rintro σ' H' ⟨o6', rfl, w⟩
    rw [List.length_map, List.take_length] at w
    exact fin H' o6' w
theorem bfs_lap {K : PySem.W.Frag} {D : Ends} {te : TE} {s0 s1 o4 o5 o6 : Option V} {H0 H : Hp} {fd el : Addr} {s : Far × List Int} {ns : List Int} {nb : Int → List Int} {n0 : Nat} {fa : Int → Addr} (e1 : Same H0 H) (e2 : H fd = some (.dK (encF s.1))) (e3 : H el = some (.lst (s.2.map V.int))) (f0 : H0 fd = none) (f : FarOk ns n0 s) (hl : ns.length ≤ 1000) (hnb : ∀ n ∈ ns, ∀ o ∈ nb n, o ∈ ns)
    (ha : ∀ n ∈ ns, H0 (fa n) = some (.lst ((nb n).map V.int))) (hte : ∀ n ∈ ns, ∀ (bl : Addr) (o6 : Option V) (H' : Hp) (Q : VK), Same H0 H' → Q (.ref (fa n)) H' → te [s0, s1, some (.ref fd), some (.ref el), some (.ref bl), some (.int n), o6] H' Q)
    (fin : ∀ H' bl o5' o6', Same H0 H' → H' fd = some (.dK (encF (lvl nb s).1)) → H' bl = some (.lst ((lvl nb s).2.map V.int)) → D.nx [s0, s1, some (.ref fd), some (.ref bl), some (.ref bl), o5', o6'] H') : lapB K te D [s0, s1, some (.ref fd), some (.ref el), o4, o5, o6] H := by
  refine rs_set ⟨Nat.zero_le _, fun bl nbl => ?_⟩
  have nel : el ≠ bl := ne_of_none e3 nbl
  have w0 : BfsH H0 fd el bl (s.1, []) s.2 (upd H bl (.lst [])) := ⟨e1.trans (same_upd nbl), (same_upd nbl) _ _ e2, (same_upd nbl) _ _ e3, upd_same, f0, e1.free nbl, nel⟩
  have f1 : FarOk ns s.1.length (s.1, []) := ⟨f.nd, f.sub, (fun _ z => nomatch z), rfl⟩
  refine rs_list el (s.2.map V.int) (fun Q q => ⟨_, rfl, q⟩) (fun i σ' H' => ∃ o5' o6', σ' = [s0, s1, some (.ref fd), some (.ref el), some (.ref bl), o5', o6'] ∧ BfsH H0 fd el bl ((s.2.take i).foldl (stepE nb) (s.1, [])) s.2 H') ⟨_, _, rfl, w0⟩ (fun i σ' H' _ ⟨_, _, _, w⟩ => sql_of w.edge) ?_ ?_
  · rintro i x σ' H' hx ⟨o5', o6', rfl, w⟩
    obtain ⟨one, ho, rfl⟩ := map_get hx
    have h1 := f.bey one (List.mem_of_getElem? ho)
    have hin := f.sub one h1
    obtain ⟨fi, ki⟩ := f1.foldE hnb (es := s.2.take i) fun o ho => f.sub o (f.bey o (List.mem_of_mem_take ho))
    refine r_gname ?_
    exact bfs_all w fi hl (ki _ h1) (hnb one hin) (ha one hin) (fun Q q => hte one hin bl o6' H' Q w.same q) fun H'' o6'' w' => ⟨_, _, rfl, by rw [foldl_snoc ho]; exact w'⟩
  · rintro σ' H' ⟨o5', o6', rfl, w⟩
    rw [List.length_map, List.take_length] at w
    exact ⟨.ref bl, rfl, fin H' bl o5' o6' w.same w.far w.bey⟩
def spFars : Sp := fun vs H Q _ => ∃ (d : Addr) (p : Int) (f : Int → Addr) (ns : List Int) (ts : List Tie), vs = [.ref d, .int p] ∧ NearL f H d ns (nbr ts) ∧ p ∈ ns ∧ ns.length ≤ 1000 ∧ (∀ n ∈ ns, ∀ o ∈ nbr ts n, o ∈ ns) ∧
  ∀ far fd H', Bfs (nbr ts) p far → (∃ n0, FarOk ns n0 (far, [])) → Same H H' → H' fd = some (.dK (encF far)) → H fd = none → Q (.ref fd) H'
theorem rs_whileM {c : TT} {tb u : TS} {D : Ends} {σ : L2.St} {H : Hp} (Pv : Nat → L2.St → Hp → Prop) (m0 : Nat) (h0 : Pv m0 σ H)
    (hs : ∀ m σ H, Pv m σ H → ∃ b : Bool, (∀ Q : Bool → Hp → Prop, (∀ H', Same H H' → Q b H') → c σ H Q) ∧ (b = true → ∀ H', Same H H' → ∀ D' : Ends, (∀ σ'' H'', (∃ m', m' < m ∧ Pv m' σ'' H'') → D'.nx σ'' H'') → tb D' σ H') ∧ (b = false → ∀ H', Same H H' → u D σ H')) :
    tSeq (tWhile c tb) u D σ H := by
  refine ⟨Pv, ⟨m0, h0⟩, fun m σ H p => ?_⟩
  obtain ⟨b, hc, h1, h2⟩ := hs m σ H p
  refine hc _ fun H' s' => ?_
  cases b with
  | true => exact ⟨fun σ'' H'' => ∃ m', m' < m ∧ Pv m' σ'' H'', fun σ' H' ⟨m', l, p'⟩ => ⟨m', l, p'⟩, h1 rfl H' s' _ fun σ'' H'' z => z⟩
  | false => exact h2 rfl H' s'
def LevAt (H0 : Hp) (s0 s1 : Option V) (fd : Addr) (ns : List Int) (nb : Int → List Int) (p : Int) (m : Nat) (σ : L2.St) (H : Hp) : Prop := ∃ i el o4 o5 o6, σ = [s0, s1, some (.ref fd), some (.ref el), o4, o5, o6] ∧ Same H0 H ∧ H fd = some (.dK (encF (lev nb p i).1)) ∧ H el = some (.lst ((lev nb p i).2.map V.int)) ∧ m = muF ns (lev nb p i)
theorem bfs_way {K : PySem.W.Frag} {c : TT} {u : TS} {D : Ends} {te : TE} {s0 s1 o4 o5 o6 : Option V} {H0 H : Hp} {fd el : Addr} {p : Int} {ns : List Int} {nb : Int → List Int} {fa : Int → Addr} (e1 : Same H0 H) (e2 : H fd = some (.dK (encF [(p, 0)]))) (e3 : H el = some (.lst [.int p])) (f0 : H0 fd = none) (hp : p ∈ ns) (hl : ns.length ≤ 1000) (hnb : ∀ n ∈ ns, ∀ o ∈ nb n, o ∈ ns)
    (ha : ∀ n ∈ ns, H0 (fa n) = some (.lst ((nb n).map V.int))) (hte : ∀ n ∈ ns, ∀ (el bl : Addr) (o6 : Option V) (H' : Hp) (Q : VK), Same H0 H' → Q (.ref (fa n)) H' → te [s0, s1, some (.ref fd), some (.ref el), some (.ref bl), some (.int n), o6] H' Q)
    (hc : ∀ (el : Addr) (xs : List Int) (σ : L2.St) (H' : Hp) (Q : Bool → Hp → Prop), σ[3]? = some (some (.ref el)) → H' el = some (.lst (xs.map V.int)) → (∀ x ∈ xs, x ∈ ns) → (∀ H'', Same H' H'' → Q (!xs.isEmpty) H'') → c σ H' Q)
    (fin : ∀ far H' σ', σ'[2]? = some (some (.ref fd)) → Bfs nb p far → (∃ n0, FarOk ns n0 (far, [])) → Same H0 H' → H' fd = some (.dK (encF far)) → u D σ' H') : tSeq (tWhile c (lapB K te)) u D [s0, s1, some (.ref fd), some (.ref el), o4, o5, o6] H := by
  refine rs_whileM (LevAt H0 s0 s1 fd ns nb p) _ ⟨0, el, _, _, _, rfl, e1, e2, e3, rfl⟩ ?_
  rintro m σ H1 ⟨i, el1, o4', o5', o6', rfl, sx, efd, eel, rfl⟩
  obtain ⟨n0, f⟩ := lev_ok hnb hp i
  refine ⟨!(lev nb p i).2.isEmpty, fun Q q => hc el1 _ _ H1 Q rfl eel (fun x hx => f.sub x (f.bey x hx)) q, fun hb H2 s2 D' hD => ?_, fun hb H2 s2 => ?_⟩
  · have hne : (lev nb p i).2 ≠ [] := fun e => by rw [e] at hb; cases hb
    refine bfs_lap (fa := fa) (sx.trans s2) (s2 _ _ efd) (s2 _ _ eel) f0 f hl hnb ha (fun n hn bl o6'' H' Q s' q' => hte n hn el1 bl o6'' H' Q s' q') fun H' bl o5'' o6'' s' e' b' => hD _ _ ⟨_, mu_lvl hnb f hne, i + 1, bl, _, _, _, rfl, s', e', b', rfl⟩
  · have he : (lev nb p i).2 = [] := by
      cases h : (lev nb p i).2 with
      | nil => rfl
      | cons x xs => rw [h] at hb; cases hb
    have hb' : lev nb p i = ((lev nb p i).1, []) := Prod.ext rfl he
    exact fin _ _ _ rfl ⟨i, hb'⟩ ⟨n0, by rw [hb'] at f; exact f⟩ (sx.trans s2) (s2 _ _ efd)
theorem strs_dp {K : PySem.W.Frag} {H : Hp} : ∀ xs : List Int, DpAll K H (xs.map V.int) (xs.map PyData.int)
  | [] => .nil
  | x :: xs => .cons (.int x) (strs_dp xs)
section
variable {P : Program} {w : World} {K : PySem.W.Frag} {mg : Str → Option Value} {base : Heap}
end
abbrev sAlong : Stmt := topS 12
def FullF (ns : List Int) (s : Far × List Int) : Prop := ∀ n ∈ ns, n ∈ s.1.map (·.1)
theorem full_of {ns : List Int} {n0 : Nat} {s : Far × List Int} (f : FarOk ns n0 s) (e : s.1.length = ns.length) : FullF ns s := by
  intro n hn
  by_cases h : n ∈ s.1.map (·.1)
  · exact h
  · exfalso
    have := sub_len (l := n :: s.1.map (·.1)) (m := ns) (List.nodup_cons.mpr ⟨h, f.nd⟩) (fun z hz => by
      rcases List.mem_cons.mp hz with hz | hz
      · rw [hz]; exact hn
      · exact f.sub z hz)
    rw [List.length_cons, List.length_map] at this
    omega
theorem FullF.stepO {ns : List Int} {s : Far × List Int} (f : FullF ns s) {one o : Int} (ho : o ∈ ns) : HI.stepO one s o = s := by
  unfold HI.stepO
  rw [if_pos (f o ho)]
theorem FullF.foldO {ns : List Int} {one : Int} : ∀ {os : List Int} {s : Far × List Int}, FullF ns s → (∀ o ∈ os, o ∈ ns) → os.foldl (HI.stepO one) s = s
  | [], _, _, _ => rfl
  | o :: os, s, f, h => by
    rw [List.foldl_cons, f.stepO (h o List.mem_cons_self)]
    exact FullF.foldO f fun o ho => h o (List.mem_cons_of_mem _ ho)
theorem FullF.foldE {ns : List Int} {nb : Int → List Int} (hnb : ∀ n ∈ ns, ∀ o ∈ nb n, o ∈ ns) : ∀ {es : List Int} {s : Far × List Int}, FullF ns s → (∀ o ∈ es, o ∈ ns) → es.foldl (stepE nb) s = s
  | [], _, _, _ => rfl
  | o :: os, s, f, h => by
    rw [List.foldl_cons, show stepE nb s o = s from f.foldO (hnb o (h o List.mem_cons_self))]
    exact FullF.foldE hnb f fun o ho => h o (List.mem_cons_of_mem _ ho)
theorem full_bfs {ns : List Int} {nb : Int → List Int} (hnb : ∀ n ∈ ns, ∀ o ∈ nb n, o ∈ ns) {p : Int} (hp : p ∈ ns) {k i : Nat} {s : Far × List Int} (e : s = ((lev nb p k).2.take i).foldl (stepE nb) ((lev nb p k).1, [])) (f : FullF ns s) : Bfs nb p s.1 ∧ ∃ n0, FarOk ns n0 (s.1, []) := by
  obtain ⟨n0, f0⟩ := lev_ok hnb hp k
  have h1 : lev nb p (k + 1) = s := by
    show (lev nb p k).2.foldl (stepE nb) ((lev nb p k).1, []) = s
    rw [← List.take_append_drop i (lev nb p k).2, List.foldl_append, ← e]
    exact f.foldE hnb fun o ho => f0.sub o (f0.bey o (List.mem_of_mem_drop ho))
  obtain ⟨n1, f1⟩ := lev_ok hnb hp (k + 1)
  have h2 : lev nb p (k + 1 + 1) = (s.1, []) := by
    show lvl nb (lev nb p (k + 1)) = _
    rw [h1]
    rw [h1] at f1
    have ff : FullF ns (s.1, []) := f
    exact ff.foldE hnb fun o ho => f1.sub o (f1.bey o ho)
  obtain ⟨n2, f2⟩ := lev_ok hnb hp (k + 1 + 1)
  rw [h2] at f2
  exact ⟨⟨_, h2⟩, n2, f2⟩
theorem rs_whileR {c : TT} {tb u : TS} {D : Ends} {σ : L2.St} {H : Hp} (Pv : Nat → L2.St → Hp → Prop) (m0 : Nat) (h0 : Pv m0 σ H)
    (hs : ∀ m σ H, Pv m σ H → ∃ b : Bool, (∀ Q : Bool → Hp → Prop, (∀ H', Same H H' → Q b H') → c σ H Q) ∧ (b = true → ∀ H', Same H H' → ∀ D' : Ends, D'.rt = D.rt → (∀ σ'' H'', (∃ m', m' < m ∧ Pv m' σ'' H'') → D'.nx σ'' H'') → tb D' σ H') ∧ (b = false → ∀ H', Same H H' → u D σ H')) :
    tSeq (tWhile c tb) u D σ H := by
  refine ⟨Pv, ⟨m0, h0⟩, fun m σ H p => ?_⟩
  obtain ⟨b, hc, h1, h2⟩ := hs m σ H p
  refine hc _ fun H' s' => ?_
  cases b with
  | true => exact ⟨fun σ'' H'' => ∃ m', m' < m ∧ Pv m' σ'' H'', fun σ' H' ⟨m', l, p'⟩ => ⟨m', l, p'⟩, h1 rfl H' s' _ rfl fun σ'' H'' z => z⟩
  | false => exact h2 rfl H' s'
def lapC (K : PySem.W.Frag) (tc : TT) (te : TE) : TS := tSeq (tAsg (tLst tNil) (gName 4)) (tSeq (tFor (iList K (tVar 3)) (gName 5) (tSeq (tIfS tc (tRet (tVar 2)) tNext) (tFor (iList K te) (gName 6) (oneB K)))) (tAsg (tVar 4) (gName 3)))
theorem along_lap {K : PySem.W.Frag} {D : Ends} {tc : TT} {te : TE} {s0 s1 o4 o5 o6 : Option V} {H0 H : Hp} {fd el : Addr} {p : Int} {k : Nat} {ns : List Int} {nb : Int → List Int} {n0 : Nat} {fa : Int → Addr} (e1 : Same H0 H) (e2 : H fd = some (.dK (encF (lev nb p k).1))) (e3 : H el = some (.lst ((lev nb p k).2.map V.int))) (f0 : H0 fd = none) (f : FarOk ns n0 (lev nb p k)) (hp : p ∈ ns) (hl : ns.length ≤ 1000) (hnb : ∀ n ∈ ns, ∀ o ∈ nb n, o ∈ ns)
    (ha : ∀ n ∈ ns, H0 (fa n) = some (.lst ((nb n).map V.int))) (hte : ∀ n ∈ ns, ∀ (bl : Addr) (o6 : Option V) (H' : Hp) (Q : VK), Same H0 H' → Q (.ref (fa n)) H' → te [s0, s1, some (.ref fd), some (.ref el), some (.ref bl), some (.int n), o6] H' Q)
    (htc : ∀ (far : Far) (o3 o4 o5 o6 : Option V) (H' : Hp) (Q : Bool → Hp → Prop), Same H0 H' → H' fd = some (.dK (encF far)) → Q (decide (far.length = ns.length)) H' → tc [s0, s1, some (.ref fd), o3, o4, o5, o6] H' Q)
    (ret : ∀ far H', Bfs nb p far → (∃ n0, FarOk ns n0 (far, [])) → Same H0 H' → H' fd = some (.dK (encF far)) → D.rt (.ref fd) H')
    (fin : ∀ H' bl o5' o6', Same H0 H' → H' fd = some (.dK (encF (lev nb p (k + 1)).1)) → H' bl = some (.lst ((lev nb p (k + 1)).2.map V.int)) → D.nx [s0, s1, some (.ref fd), some (.ref bl), some (.ref bl), o5', o6'] H') : lapC K tc te D [s0, s1, some (.ref fd), some (.ref el), o4, o5, o6] H := by
  refine rs_set ⟨Nat.zero_le _, fun bl nbl => ?_⟩
  have nel : el ≠ bl := ne_of_none e3 nbl
  have w0 : BfsH H0 fd el bl ((lev nb p k).1, []) (lev nb p k).2 (upd H bl (.lst [])) := ⟨e1.trans (same_upd nbl), (same_upd nbl) _ _ e2, (same_upd nbl) _ _ e3, upd_same, f0, e1.free nbl, nel⟩
  have f1 : FarOk ns (lev nb p k).1.length ((lev nb p k).1, []) := ⟨f.nd, f.sub, (fun _ z => nomatch z), rfl⟩
  refine rs_list el ((lev nb p k).2.map V.int) (fun Q q => ⟨_, rfl, q⟩) (fun i σ' H' => ∃ o5' o6', σ' = [s0, s1, some (.ref fd), some (.ref el), some (.ref bl), o5', o6'] ∧ BfsH H0 fd el bl (((lev nb p k).2.take i).foldl (stepE nb) ((lev nb p k).1, [])) (lev nb p k).2 H') ⟨_, _, rfl, w0⟩ (fun i σ' H' _ ⟨_, _, _, w⟩ => sql_of w.edge) ?_ ?_
  · rintro i x σ' H' hx ⟨o5', o6', rfl, w⟩
    obtain ⟨one, ho, rfl⟩ := map_get hx
    have h1 := f.bey one (List.mem_of_getElem? ho)
    have hin := f.sub one h1
    obtain ⟨fi, ki⟩ := f1.foldE hnb (es := (lev nb p k).2.take i) fun o ho => f.sub o (f.bey o (List.mem_of_mem_take ho))
    refine r_gname ?_
    refine htc _ _ _ _ _ H' _ w.same w.far ?_
    show if decide _ = true then _ else _
    by_cases hf : (((lev nb p k).2.take i).foldl (stepE nb) ((lev nb p k).1, [])).1.length = ns.length
    · rw [if_pos (decide_eq_true hf)]
      obtain ⟨b, n2, g⟩ := full_bfs hnb hp rfl (full_of fi hf)
      exact ⟨.ref fd, rfl, ret _ H' b ⟨n2, g⟩ w.same w.far⟩
    · rw [if_neg (by simpa using hf)]
      exact bfs_all w fi hl (ki _ h1) (hnb one hin) (ha one hin) (fun Q q => hte one hin bl o6' H' Q w.same q) fun H'' o6'' w' => ⟨_, _, rfl, by rw [foldl_snoc ho]; exact w'⟩
  · rintro σ' H' ⟨o5', o6', rfl, w⟩
    rw [List.length_map, List.take_length] at w
    exact ⟨.ref bl, rfl, fin H' bl o5' o6' w.same w.far w.bey⟩
theorem along_way {K : PySem.W.Frag} {c : TT} {u : TS} {D : Ends} {tc : TT} {te : TE} {s0 s1 o4 o5 o6 : Option V} {H0 H : Hp} {fd el : Addr} {p : Int} {ns : List Int} {nb : Int → List Int} {fa : Int → Addr} (e1 : Same H0 H) (e2 : H fd = some (.dK (encF [(p, 0)]))) (e3 : H el = some (.lst [.int p])) (f0 : H0 fd = none) (hp : p ∈ ns) (hl : ns.length ≤ 1000) (hnb : ∀ n ∈ ns, ∀ o ∈ nb n, o ∈ ns)
    (ha : ∀ n ∈ ns, H0 (fa n) = some (.lst ((nb n).map V.int))) (hte : ∀ n ∈ ns, ∀ (el bl : Addr) (o6 : Option V) (H' : Hp) (Q : VK), Same H0 H' → Q (.ref (fa n)) H' → te [s0, s1, some (.ref fd), some (.ref el), some (.ref bl), some (.int n), o6] H' Q)
    (htc : ∀ (far : Far) (o3 o4 o5 o6 : Option V) (H' : Hp) (Q : Bool → Hp → Prop), Same H0 H' → H' fd = some (.dK (encF far)) → Q (decide (far.length = ns.length)) H' → tc [s0, s1, some (.ref fd), o3, o4, o5, o6] H' Q)
    (hc : ∀ (el : Addr) (xs : List Int) (σ : L2.St) (H' : Hp) (Q : Bool → Hp → Prop), σ[3]? = some (some (.ref el)) → H' el = some (.lst (xs.map V.int)) → (∀ x ∈ xs, x ∈ ns) → (∀ H'', Same H' H'' → Q (!xs.isEmpty) H'') → c σ H' Q)
    (ret : ∀ far H', Bfs nb p far → (∃ n0, FarOk ns n0 (far, [])) → Same H0 H' → H' fd = some (.dK (encF far)) → D.rt (.ref fd) H')
    (fin : ∀ far H' σ', σ'[2]? = some (some (.ref fd)) → Bfs nb p far → (∃ n0, FarOk ns n0 (far, [])) → Same H0 H' → H' fd = some (.dK (encF far)) → u D σ' H') : tSeq (tWhile c (lapC K tc te)) u D [s0, s1, some (.ref fd), some (.ref el), o4, o5, o6] H := by
  refine rs_whileR (LevAt H0 s0 s1 fd ns nb p) _ ⟨0, el, _, _, _, rfl, e1, e2, e3, rfl⟩ ?_
  rintro m σ H1 ⟨i, el1, o4', o5', o6', rfl, sx, efd, eel, rfl⟩
  obtain ⟨n0, f⟩ := lev_ok hnb hp i
  refine ⟨!(lev nb p i).2.isEmpty, fun Q q => hc el1 _ _ H1 Q rfl eel (fun x hx => f.sub x (f.bey x hx)) q, fun hb H2 s2 D' hr hD => ?_, fun hb H2 s2 => ?_⟩
  · have hne : (lev nb p i).2 ≠ [] := fun e => by rw [e] at hb; cases hb
    refine along_lap (fa := fa) (sx.trans s2) (s2 _ _ efd) (s2 _ _ eel) f0 f hp hl hnb ha (fun n hn bl o6'' H' Q s' q' => hte n hn el1 bl o6'' H' Q s' q') htc (fun far H' b g s' e' => by rw [hr]; exact ret far H' b g s' e') fun H' bl o5'' o6'' s' e' b' => hD _ _ ⟨_, mu_lvl hnb f hne, i + 1, bl, _, _, _, rfl, s', e', b', rfl⟩
  · have he : (lev nb p i).2 = [] := by
      cases h : (lev nb p i).2 with
      | nil => rfl
      | cons x xs => rw [h] at hb; cases hb
    have hb' : lev nb p i = ((lev nb p i).1, []) := Prod.ext rfl he
    exact fin _ _ _ rfl ⟨i, hb'⟩ ⟨n0, by rw [hb'] at f; exact f⟩ (sx.trans s2) (s2 _ _ efd)
section
variable {P : Program} {w : World} {K : PySem.W.Frag} {mg : Str → Option Value} {base : Heap}
theorem scAlong : FnScope ["tied", "place", "far", "edge", "beyond", "one", "other"] ["tied", "place"] (defScope sAlong) := ⟨rfl, rfl, rfl, by decide +kernel, rfl, by decide +kernel, by decide +kernel⟩
theorem ok_along {f : Addr} {fd : FuncData} {k : Nat} (F : Fun K "far_along" "far_along" sAlong f fd) (B : Blt mg) : FnOk P w K mg base CX0 (k + 1) f fd ["tied", "place"] spFars := by
  refine F.ok scAlong (fun vs H Q E h => ?_) (fun cdv A outer s H vs Q E hr h => ?_)
  · obtain ⟨d, p, f, ns, ts, rfl, _⟩ := h
    rfl
  · obtain ⟨d, p, f, ns, ts, rfl, nl, hp, hl, hnb, q⟩ := h
    have hu := hu_of hr
    have hu64 := hr.units
    refine ⟨_, pss_cons (ps_set (i := 2) scAlong.nd rfl (.inl rfl) (pe_disp (pps_cons (pv 1) pe_int pps_nil) (by rfl) (by rfl) (fun z => by cases z) (by decide)))
      (pss_cons (ps_set (i := 3) scAlong.nd rfl (.inl rfl) (pe_lst (pa_cons (pv 1) pa_nil)))
      (pss_cons (ps_while PassesOwn.never (pt_truth (pv 3) (by intro _; rfl))
        (pss_cons (ps_set (i := 4) scAlong.nd rfl (.inl rfl) (pe_lst pa_nil))
        (pss_cons (ps_for PassesOwn.never rfl (pi_list (pv 3)) (pg_name (i := 5) scAlong.nd rfl (.inl rfl))
          (pss_cons (ps_if (pt_cmpR op_eq (pe_callB call_lenD (by rfl) B.len PySem.boot_len (pa_cons (pv 2) pa_nil)) (pe_callB call_lenD (by rfl) B.len PySem.boot_len (pa_cons (pv 0) pa_nil)) (nomark _)) (pss_one (ps_ret (pv 2))) pss_nil)
          (pss_one (ps_for PassesOwn.never rfl (pi_list (pe_dget hu (pv 0) (pv 5) (fun _ _ => rfl))) (pg_name (i := 6) scAlong.nd rfl (.inl rfl))
            (pss_one (ps_if (pt_cmp (pc_dnotin hu (pv 6) (pv 2)))
              (pss_cons (ps_dput hu (pv 2) (pv 6) (pe_op op_add (pe_dget hu (pv 2) (pv 5) (fun _ _ => rfl)) pe_int) rfl)
              (pss_one (ps_expr (pe_bm PySem.F.plainAttrs_list PySem.F.slot_list_append PySem.F.type_list_append mt_append (pv 4) (pa_cons (pv 6) pa_nil))))) pss_nil))))))
        (pss_one (ps_set (i := 3) scAlong.nd rfl (.inl rfl) (pv 4))))))
      (pss_one (ps_ret (pv 2))))), ?_⟩
    refine rs_set ?_
    intro fd' nfd
    refine ⟨.int p, rfl, upd_same, [(Sum.inl p, .int 0)], rfl, by show 1 ≤ 15; decide, ?_⟩
    have sf : Same H (upd (upd H fd' (.dK [])) fd' (.dK (mergeK [] [((Sum.inl p : Key), V.int 0)]))) := fun b o e => by
      have hb := ne_of_none e nfd
      rw [upd_ne hb, upd_ne hb]; exact e
    have ef : (upd (upd H fd' (.dK [])) fd' (.dK (mergeK [] [((Sum.inl p : Key), V.int 0)]))) fd' = some (.dK (encF [(p, 0)])) := upd_same
    generalize (upd (upd H fd' (.dK [])) fd' (.dK (mergeK [] [((Sum.inl p : Key), V.int 0)]))) = H1 at sf ef ⊢
    refine rs_set ?_
    refine ⟨.int p, rfl, by show 1 ≤ sizeLine; decide, fun el nel => ?_⟩
    refine along_way (fa := f) (sf.trans (same_upd nel)) ((same_upd nel) _ _ ef) upd_same nfd hp hl hnb nl.lst (fun n hn el' bl o6 H' Q s' q' => ⟨.ref d, rfl, .int n, rfl, d, .ref (f n), rfl, (nl.keep s').get hn, q'⟩) (fun far o3 o4 o5 o6 H' Q s' e q' => ?_) (fun el' xs σ' H' Q hσ e hx q' => ?_) (fun far H' b hf s' e => q far fd' H' b hf s' e nfd) (fun far H' σ' hσ b hf s' e => ⟨.ref fd', hσ, q far fd' H' b hf s' e nfd⟩)
    · refine ⟨.ref fd', rfl, fd', _, rfl, e, .ref d, rfl, d, _, rfl, s' _ _ nl.dict, ?_⟩
      have eb : decide (V.int ((encF far).length : Nat) = V.int ((ns.map fun n => ((Sum.inl n : Key), V.ref (f n))).length : Nat)) = decide (far.length = ns.length) := by
        rw [List.length_map]
        unfold encF
        rw [List.length_map]
        rw [decide_eq_decide]
        constructor
        · intro e
          injection e with e
          omega
        · intro e
          rw [e]
      exact ⟨rfl, _, rfl, by rw [← eb] at q'; exact q'⟩
    · refine ⟨.ref el', hσ, _, .inl ⟨_, sql_of e, rfl⟩, ?_⟩
      have eb : (xs.map V.int).isEmpty = xs.isEmpty := by cases xs <;> rfl
      rw [eb]
      exact q' _ (Same.refl _)
end
end HI

set_option Elab.async false
set_option linter.all false
set_option maxRecDepth 100000
set_option maxHeartbeats 4000000
namespace HI
open PySem L2 PyProof.Rows Hw
/-- the one to whom a place is tied in the low tree: its room's number i -/
def par (d i : Nat) : Nat := if i < d then 0 else (i - d) / (d - 1) + 1
def tiesL (d n : Nat) : List Tie := (List.range (n - 1)).map fun i => (((par d i : Nat) : Int), ((i + 1 : Nat) : Int))
def ltPr (a b : Nat × Int) : Bool := decide (a.1 < b.1) || (decide (a.1 = b.1) && decide (a.2 < b.2))
def maxPr (x : Nat × Int) (xs : List (Nat × Int)) : Nat × Int := xs.foldl (fun a y => if ltPr a y then y else a) x
def lastR (ts : List Tie) (n : Nat) (p : Int) : Nat × Int := match ((lev (nbr ts) p n).1.map fun q => (q.2, q.1)) with
  | [] => (0, 0)
  | x :: xs => maxPr x xs
def endOk (ts : List Tie) (n : Nat) (p : Int) : Bool := (lev (nbr ts) p n).2.isEmpty
def leastV (d n : Nat) : Nat := (lastR (tiesL d n) n (lastR (tiesL d n) n 0).2).1
def chk (d n : Nat) : Bool := endOk (tiesL d n) n 0 && endOk (tiesL d n) n (lastR (tiesL d n) n 0).2 && decide ((lastR (tiesL d n) n 0).2 ∈ (List.range n).map fun i => ((i : Nat) : Int))
end HI

set_option Elab.async false
set_option linter.all false
set_option maxRecDepth 100000
set_option maxHeartbeats 4000000
namespace HI
open PySem L2 PyProof.Rows Hw
abbrev sWithin : Stmt := topS 1
abbrev sPair : Stmt := topS 3
abbrev sLayers : Stmt := topS 29
abbrev sTreeRoom : Stmt := topS 28
abbrev sWebFloor : Stmt := topS 30
def layS : Nat → Int → Int
  | 0, _ => 0
  | n + 1, m => layS n m + (m - 1) ^ n
def roomV (f : Nat) (m : Int) : Int := if f % 2 = 0 then 1 + m * layS (f / 2) m else 2 * layS (f / 2 + 1) m
theorem pow_nn {m : Int} (h : 1 ≤ m) (n : Nat) : 0 ≤ (m - 1) ^ n := Int.pow_nonneg (by omega)
theorem lay_nn {m : Int} (h : 1 ≤ m) : ∀ n, 0 ≤ layS n m
  | 0 => Int.le_refl _
  | n + 1 => by
    have a := lay_nn h n
    have b := pow_nn h n
    show 0 ≤ layS n m + (m - 1) ^ n
    omega
theorem lay_one {m : Int} (h : 1 ≤ m) : ∀ n, 0 < n → 1 ≤ layS n m
  | 0, z => absurd z (by omega)
  | 1, _ => by
    show 1 ≤ 0 + (m - 1) ^ 0
    rw [Int.pow_zero]; decide
  | n + 2, _ => by
    have a := lay_one h (n + 1) (by omega)
    have b := pow_nn h (n + 1)
    show 1 ≤ layS (n + 1) m + (m - 1) ^ (n + 1)
    omega
theorem pow_one {m : Int} (h : 2 ≤ m) (n : Nat) : 1 ≤ (m - 1) ^ n := by
  induction n with
  | zero => rw [Int.pow_zero]; decide
  | succ n ih =>
    rw [Int.pow_succ]
    have h1 : (1 : Int) ≤ m - 1 := by omega
    have : (1 : Int) * 1 ≤ (m - 1) ^ n * (m - 1) := Int.mul_le_mul ih h1 (by decide) (by omega)
    omega
theorem lay_ge {m : Int} (h : 2 ≤ m) : ∀ n : Nat, (n : Int) ≤ layS n m
  | 0 => Int.le_refl _
  | n + 1 => by
    have a := lay_ge h n
    have b := pow_one h n
    show ((n + 1 : Nat) : Int) ≤ layS n m + (m - 1) ^ n
    omega
theorem lay_mul (m : Int) (r : Nat) : 1 + m * layS (r + 1) m = 1 + m * layS r m + m * (m - 1) ^ r := by
  show 1 + m * (layS r m + (m - 1) ^ r) = _
  rw [Int.mul_add]; omega
def IsFloor (many most : Int) (r : Nat) : Prop := (∀ i : Nat, i < r → 1 + most * layS i most < many) ∧ ¬ (1 + most * layS r most < many)
theorem IsFloor.uniq {many most : Int} {r r' : Nat} (h : IsFloor many most r) (h' : IsFloor many most r') : r = r' := by
  rcases Nat.lt_trichotomy r r' with a | a | a
  · exact absurd (h'.1 r a) h.2
  · exact a
  · exact absurd (h.1 r' a) h'.2
theorem floor_lt {many most : Int} (h1 : 1 ≤ many) (h2 : 1 ≤ most) (h3 : most = 1 → many ≤ 2) {r : Nat} (h : 1 + most * layS r most < many) : (r : Int) < many := by
  by_cases hm : most = 1
  · by_cases hr : r = 0
    · subst hr; omega
    · have := lay_one h2 r (by omega)
      have := h3 hm
      subst hm
      rw [Int.one_mul] at h
      omega
  · have g := lay_ge (m := most) (by omega) r
    have nn := lay_nn h2 r
    have : 1 * layS r most ≤ most * layS r most := Int.mul_le_mul_of_nonneg_right h2 nn
    omega
def spWithin : Sp := fun vs H Q _ => ∃ v a b : Int, vs = [.int v, .int a, .int b] ∧ Q (.bl (decide (a ≤ v ∧ v ≤ b))) H
def spPairI : Sp := fun vs H Q _ => ∃ a b : Int, vs = [.int a, .int b] ∧ a < b ∧ ∀ p, H p = none → Q (.ref p) (upd H p (.tup [.int a, .int b]))
def spLayers : Sp := fun vs H Q _ => ∃ (n : Nat) (m : Int), vs = [.int n, .int m] ∧ n ≤ 1000 ∧ 1 ≤ m ∧ m ≤ 200 ∧ Q (.int (layS n m)) H
def spTreeRoom : Sp := fun vs H Q _ => ∃ (f : Nat) (m : Int), vs = [.int f, .int m] ∧ f ≤ 40 ∧ 1 ≤ m ∧ m ≤ 200 ∧ Q (.int (roomV f m)) H
def spLRoom : Sp := fun vs H Q _ => ∃ (f : Nat) (m : Int), vs = [.int f, .int m] ∧ f ≤ 1000 ∧ 1 ≤ m ∧ m ≤ 200 ∧ ∀ H', Same H H' → Q (.int (roomV f m)) H'
def spFloor : Sp := fun vs H Q _ => ∃ many most : Int, vs = [.int many, .int most] ∧ 1 ≤ many ∧ many ≤ 1000000 ∧ 1 ≤ most ∧ most ≤ 200 ∧ (most = 1 → many ≤ 2) ∧ ∀ (r : Nat) H', IsFloor many most r → Same H H' → Q (.int r) H'
section
variable {P : Program} {w : World} {K : PySem.W.Frag} {mg : Str → Option Value} {base : Heap}
theorem scWithin : FnScope ["value", "least", "most"] ["value", "least", "most"] (defScope sWithin) := ⟨rfl, rfl, rfl, by decide +kernel, rfl, by decide +kernel, by decide +kernel⟩
theorem ok_within {f : Addr} {fd : FuncData} {k : Nat} (F : Fun K "is_within" "is_within" sWithin f fd) (B : Blt mg) (bi : mg "isinstance" = none) (bb : mg "bool" = none) : FnOk P w K mg base CX0 (k + 1) f fd ["value", "least", "most"] spWithin := by
  refine F.ok scWithin (fun vs H Q E h => ?_) (fun cdv A outer s H vs Q E hr h => ?_)
  · obtain ⟨v, a, b, rfl, _⟩ := h
    rfl
  · obtain ⟨v, a, b, rfl, q⟩ := h
    refine ⟨_, pss_cons (ps_if (PW.pt (pw_or (pt_not (pt_val (pe_callB call_isi (by rfl) bi PyProof.Rows.boot_isinstance (pa_cons (pv 0) (pa_cons (pe_bltn (v := .ty "int") (by rfl) B.int (by decide +kernel) rfl) pa_nil)))))
        (pw_or1 (pt_val (pe_callB call_isi (by rfl) bi PyProof.Rows.boot_isinstance (pa_cons (pv 0) (pa_cons (pe_bltn (v := .ty "bool") (by rfl) bb (by decide +kernel) rfl) pa_nil))))))) (pss_one (ps_ret pe_bl)) pss_nil)
      (pss_one (ps_ret (pe_chain op_le op_le (pv 1) (pv 0) (pv 2)))), ?_⟩
    refine rs_no ?_
    refine ⟨.int v, rfl, .int v, .ty "int", .type "int", .type "int", true, rfl, .ty _, .base (.int v), kit_ty (by decide +kernel), true, rfl, ?_⟩
    refine ⟨.int v, rfl, .int v, .ty "bool", .type "int", .type "bool", false, rfl, .ty _, .base (.int v), kit_ty (by decide +kernel), false, rfl, ?_⟩
    refine ⟨.int a, rfl, .int v, rfl, a, v, rfl, rfl, decide (a ≤ v), rfl, ?_⟩
    by_cases h1 : a ≤ v
    · rw [decide_eq_true h1]
      refine ⟨.int b, rfl, v, b, rfl, rfl, ?_⟩
      have e : decide (v ≤ b) = decide (a ≤ v ∧ v ≤ b) := by simp [h1]
      show Q (.bl (decide (v ≤ b))) H
      rw [e]; exact q
    · rw [decide_eq_false h1]
      have e : decide (a ≤ v ∧ v ≤ b) = false := decide_eq_false fun z => h1 z.1
      rw [e] at q; exact q
theorem scPair : FnScope ["one", "other"] ["one", "other"] (defScope sPair) := ⟨rfl, rfl, rfl, by decide +kernel, rfl, by decide +kernel, by decide +kernel⟩
theorem ok_pairI {f : Addr} {fd : FuncData} {k : Nat} (F : Fun K "pair_of" "pair_of" sPair f fd) : FnOk P w K mg base CX0 (k + 1) f fd ["one", "other"] spPairI := by
  refine F.ok scPair (fun vs H Q E h => ?_) (fun cdv A outer s H vs Q E hr h => ?_)
  · obtain ⟨a, b, rfl, _⟩ := h
    rfl
  · obtain ⟨a, b, rfl, hab, q⟩ := h
    refine ⟨_, pss_one (ps_ret (pe_ifExp (pt_cmpR op_lt (pv 0) (pv 1) (nomark _)) (pe_tup (pa_cons (pv 0) (pa_cons (pv 1) pa_nil))) (pe_tup (pa_cons (pv 1) (pa_cons (pv 0) pa_nil))))), ?_⟩
    refine ⟨.int a, rfl, .int b, rfl, a, b, rfl, rfl, _, rfl, ?_⟩
    rw [decide_eq_true hab]
    show if true = true then _ else _
    rw [if_pos rfl]
    exact ⟨.int a, rfl, .int b, rfl, by show 2 ≤ sizeLine; decide, fun p np => q p np⟩
theorem scLayers : FnScope ["many", "most", "total", "layer", "_"] ["many", "most"] (defScope sLayers) := ⟨rfl, rfl, rfl, by decide +kernel, rfl, by decide +kernel, by decide +kernel⟩
theorem ok_layers {f : Addr} {fd : FuncData} {k : Nat} (F : Fun K "layers" "layers" sLayers f fd) (B : Blt mg) : FnOk P w K mg base CX0 (k + 1) f fd ["many", "most"] spLayers := by
  refine F.ok scLayers (fun vs H Q E h => ?_) (fun cdv A outer s H vs Q E hr h => ?_)
  · obtain ⟨n, m, rfl, _⟩ := h
    rfl
  · obtain ⟨n, m, rfl, hn, h1, h2, q⟩ := h
    refine ⟨_, pss_cons (ps_set (i := 2) scLayers.nd rfl (.inl rfl) pe_int) (pss_cons (ps_set (i := 3) scLayers.nd rfl (.inl rfl) pe_int)
      (pss_cons (ps_for PassesOwn.never rfl (pi_range1 (by rfl) B.range (pa_cons (pv 0) pa_nil)) (pg_name (i := 4) scLayers.nd rfl (.inl rfl))
        (pss_cons (ps_aug (i := 2) scLayers.nd rfl (.inl rfl) (pv 3) ip_add) (pss_one (ps_aug (i := 3) scLayers.nd rfl (.inl rfl) (pe_op op_sub (pv 1) pe_int) iop_mul))))
      (pss_one (ps_ret (pv 2))))), ?_⟩
    refine rs_set ?_
    refine rs_set ?_
    refine rs_rng 0 ((n : Nat) : Int).toNat (fun H' => H' = H) (fun i σ' H' => ∃ o4, σ' = [some (.int n), some (.int m), some (.int (layS i m)), some (.int ((m - 1) ^ i)), o4] ∧ H' = H)
      (fun R hR => ⟨.int n, rfl, (n : Int), rfl, by omega, by omega, hR H rfl⟩) (fun H' e => ⟨none, by rw [Int.pow_zero]; rfl, e⟩) ?_ ?_
    · rintro i σ' H' hi ⟨o4, rfl, rfl⟩
      refine r_gname ?_
      refine r_seq ⟨_, rfl, .int ((m - 1) ^ i), rfl, _, _, rfl, rfl, ?_⟩
      refine ⟨_, rfl, .int m, rfl, _, _, rfl, rfl, _, _, rfl, rfl, .inr ⟨by omega, by omega⟩, ?_⟩
      refine ⟨some (.int (0 + (i : Int))), ?_, rfl⟩
      rw [Int.pow_succ]
      rfl
    · rintro σ' H' ⟨o4, rfl, rfl⟩
      rw [Int.toNat_natCast]
      exact ⟨.int (layS n m), rfl, q⟩
end
end HI

set_option Elab.async false
set_option linter.all false
set_option maxRecDepth 100000
set_option maxHeartbeats 4000000
namespace HI
open PySem L2 PyProof.Rows Hw
theorem no_skip {A u : TS} {D : Ends} {σ : L2.St} {H : Hp} {b : Bool} (hb : b = true) (h : u D σ H) : ∃ b', V.bl b = .bl b' ∧ (if (!b') = true then A { D with nx := u D } σ H else u D σ H) :=
  ⟨b, rfl, by rw [hb]; exact h⟩
section
variable {P : Program} {w : World} {K : PySem.W.Frag} {mg : Str → Option Value} {base : Heap}
theorem scTreeRoom : FnScope ["far", "most"] ["far", "most"] (defScope sTreeRoom) := ⟨rfl, rfl, rfl, by decide +kernel, rfl, by decide +kernel, by decide +kernel⟩
theorem ok_treeroom {f fW fL : Addr} {fd fdW fdL : FuncData} {k : Nat} (F : Fun K "tree_room" "tree_room" sTreeRoom f fd) (hF : ∃ t, mg "MOST_FAR" = some (.int 40 t)) (hT : ∃ t, mg "MOST_TIES" = some (.int 200 t))
    (GW : FnOk P w K mg base CX0 k fW fdW ["value", "least", "most"] spWithin) (gW : mg "is_within" = some (.ref fW)) (kW : PySem.W.keepIn K (.ref fW) = true) (bW : Binds K fdW ["value", "least", "most"] [])
    (GL : FnOk P w K mg base CX0 k fL fdL ["many", "most"] spLayers) (gL : mg "layers" = some (.ref fL)) (kL : PySem.W.keepIn K (.ref fL) = true) (bL : Binds K fdL ["many", "most"] []) :
    FnOk P w K mg base CX0 (k + 1) f fd ["far", "most"] spTreeRoom := by
  refine F.ok scTreeRoom (fun vs H Q E h => ?_) (fun cdv A outer s H vs Q E hr h => ?_)
  · obtain ⟨n, m, rfl, _⟩ := h
    rfl
  · obtain ⟨n, m, rfl, hn, h1, h2, q⟩ := h
    obtain ⟨t1, g1⟩ := hF
    obtain ⟨t2, g2⟩ := hT
    refine ⟨_, pss_cons (ps_if (pt_not (pt_val (pe_call GW hr (by rfl) gW kW bW .nil pass0 (pa_cons (pv 0) (pa_cons pe_int (pa_cons (pe_glob (v := .int 40) (by rfl) g1 ⟨_, rfl⟩) pa_nil)))))) (pss_one ps_never) pss_nil)
      (pss_cons (ps_if (pt_not (pt_val (pe_call GW hr (by rfl) gW kW bW .nil pass0 (pa_cons (pv 1) (pa_cons pe_int (pa_cons (pe_glob (v := .int 200) (by rfl) g2 ⟨_, rfl⟩) pa_nil)))))) (pss_one ps_never) pss_nil)
      (pss_cons (ps_if (pt_cmpR op_eq (pe_op op_mod (pv 0) pe_int) pe_int (nomark _)) (pss_one (ps_ret (pe_op op_add pe_int (pe_op op_mul (pv 1) (pe_call GL hr (by rfl) gL kL bL .nil pass0 (pa_cons (pe_op op_fdiv (pv 0) pe_int) (pa_cons (pv 1) pa_nil))))))) pss_nil)
      (pss_one (ps_ret (pe_op op_mul pe_int (pe_call GL hr (by rfl) gL kL bL .nil pass0 (pa_cons (pe_op op_add (pe_op op_fdiv (pv 0) pe_int) pe_int) (pa_cons (pv 1) pa_nil)))))))), ?_⟩
    refine rs_no ?_
    refine ⟨.int n, rfl, (n : Int), 0, 40, rfl, ?_⟩
    refine no_skip (decide_eq_true ⟨by omega, by omega⟩) ?_
    refine rs_no ?_
    refine ⟨.int m, rfl, m, 1, 200, rfl, ?_⟩
    refine no_skip (decide_eq_true ⟨by omega, by omega⟩) ?_
    refine rs_no ?_
    refine ⟨.int n, rfl, _, _, rfl, rfl, (show (0 : Int) < 2 by decide), rfl, _, rfl, ?_⟩
    by_cases hp : n % 2 = 0
    · rw [decide_eq_true (show V.int ((n : Int) % 2) = V.int 0 from congrArg V.int (by omega))]
      show if true = true then _ else _
      rw [if_pos rfl]
      refine ⟨.int m, rfl, .int n, rfl, _, _, rfl, rfl, ⟨by decide, by decide⟩, .int m, rfl, n / 2, m, rfl, by omega, h1, h2, ?_⟩
      refine ⟨_, _, rfl, rfl, .inl ⟨by omega, by omega⟩, _, _, rfl, rfl, ?_⟩
      unfold roomV at q
      rw [if_pos hp] at q
      exact q
    · rw [decide_eq_false (show ¬ V.int ((n : Int) % 2) = V.int 0 from fun e => by injection e with e; omega)]
      show if false = true then _ else _
      rw [if_neg Bool.false_ne_true]
      refine ⟨.int n, rfl, _, _, rfl, rfl, ⟨by decide, by decide⟩, _, _, rfl, rfl, .int m, rfl, n / 2 + 1, m, rfl, by omega, h1, h2, ?_⟩
      refine ⟨_, _, rfl, rfl, .inl ⟨by decide, by decide⟩, ?_⟩
      unfold roomV at q
      rw [if_neg hp] at q
      exact q
end
end HI

set_option Elab.async false
set_option linter.all false
set_option maxRecDepth 100000
set_option maxHeartbeats 4000000
namespace HI
open PySem L2 PyProof.Rows Hw
section
variable {P : Program} {w : World} {K : PySem.W.Frag} {mg : Str → Option Value} {base : Heap}
theorem scWebFloor : FnScope ["many", "most", "far", "reached", "layer"] ["many", "most"] (defScope sWebFloor) := ⟨rfl, rfl, rfl, by decide +kernel, rfl, by decide +kernel, by decide +kernel⟩
theorem ok_webfloor {f fW : Addr} {fd fdW : FuncData} {k : Nat} (F : Fun K "web_floor" "web_floor" sWebFloor f fd) (hF : ∃ t, mg "MOST_MANY" = some (.int 1000000 t)) (hT : ∃ t, mg "MOST_TIES" = some (.int 200 t))
    (GW : FnOk P w K mg base CX0 k fW fdW ["value", "least", "most"] spWithin) (gW : mg "is_within" = some (.ref fW)) (kW : PySem.W.keepIn K (.ref fW) = true) (bW : Binds K fdW ["value", "least", "most"] []) :
    FnOk P w K mg base CX0 (k + 1) f fd ["many", "most"] spFloor := by
  refine F.ok scWebFloor (fun vs H Q E h => ?_) (fun cdv A outer s H vs Q E hr h => ?_)
  · obtain ⟨n, m, rfl, _⟩ := h
    rfl
  · obtain ⟨n, m, rfl, n1, n2, h1, h2, h3, q⟩ := h
    obtain ⟨t1, g1⟩ := hF
    obtain ⟨t2, g2⟩ := hT
    refine ⟨_, pss_cons (ps_if (pt_not (pt_val (pe_call GW hr (by rfl) gW kW bW .nil pass0 (pa_cons (pv 0) (pa_cons pe_int (pa_cons (pe_glob (v := .int 1000000) (by rfl) g1 ⟨_, rfl⟩) pa_nil)))))) (pss_one ps_never) pss_nil)
      (pss_cons (ps_if (pt_not (pt_val (pe_call GW hr (by rfl) gW kW bW .nil pass0 (pa_cons (pv 1) (pa_cons pe_int (pa_cons (pe_glob (v := .int 200) (by rfl) g2 ⟨_, rfl⟩) pa_nil)))))) (pss_one ps_never) pss_nil)
      (pss_cons (ps_if (PW.pt (pw_and (pt_cmpR op_eq (pv 1) pe_int (nomark _)) (pw_and1 (pt_cmpR op_gt (pv 0) pe_int (nomark _))))) (pss_one ps_never) pss_nil)
      (pss_cons (ps_set (i := 2) scWebFloor.nd rfl (.inl rfl) pe_int) (pss_cons (ps_set (i := 3) scWebFloor.nd rfl (.inl rfl) pe_int) (pss_cons (ps_set (i := 4) scWebFloor.nd rfl (.inl rfl) (pv 1))
      (pss_cons (ps_while PassesOwn.never (pt_cmpR op_lt (pv 3) (pv 0) (nomark _))
        (pss_cons (ps_aug (i := 2) scWebFloor.nd rfl (.inl rfl) pe_int ip_add) (pss_cons (ps_aug (i := 3) scWebFloor.nd rfl (.inl rfl) (pv 4) ip_add) (pss_one (ps_aug (i := 4) scWebFloor.nd rfl (.inl rfl) (pe_op op_sub (pv 1) pe_int) iop_mul)))))
      (pss_one (ps_ret (pv 2))))))))), ?_⟩
    refine rs_no ?_
    refine ⟨.int n, rfl, n, 1, 1000000, rfl, ?_⟩
    refine no_skip (decide_eq_true ⟨by omega, by omega⟩) ?_
    refine rs_no ?_
    refine ⟨.int m, rfl, m, 1, 200, rfl, ?_⟩
    refine no_skip (decide_eq_true ⟨by omega, by omega⟩) ?_
    have start : ∀ u : TS, ∀ D : Ends, (∀ σ, σ = [some (V.int n), some (V.int m), none, none, none] → u D σ H) → True := fun _ _ _ => True.intro
    clear start
    refine rs_no ?_
    refine ⟨.int m, rfl, rfl, _, rfl, ?_⟩
    have go : ∀ (D : Ends), D.rt = Q → tSeq (tAsg (tC (.int 0)) (gName 2)) (tSeq (tAsg (tC (.int 1)) (gName 3)) (tSeq (tAsg (tVar 1) (gName 4)) (tSeq (tWhile (tTest (tOp (rI0 fun i j => .bl (decide (i < j))) (tVar 3) (tVar 0))) (tSeq (tAug 2 (tC (.int 1)) (ipI fun i j => i + j)) (tSeq (tAug 3 (tVar 4) (ipI fun i j => i + j)) (tAug 4 (tOp (rI0 fun i j => .int (i - j)) (tVar 1) (tC (.int 1))) (rI CMul fun i j => .int (i * j)))))) (tRet (tVar 2))))) D [some (V.int n), some (V.int m), none, none, none] H := by
      intro D hD
      refine rs_set ?_
      refine rs_set ?_
      refine rs_set ⟨.int m, rfl, ?_⟩
      refine rs_whileM (fun μ σ H' => ∃ r : Nat, σ = [some (.int n), some (.int m), some (.int r), some (.int (1 + m * layS r m)), some (.int (m * (m - 1) ^ r))] ∧ Same H H' ∧ (∀ i : Nat, i < r → 1 + m * layS i m < n) ∧ μ = n.toNat - r) n.toNat
        ⟨0, by rw [Int.pow_zero, Int.mul_one]; show _ = [_, _, _, some (V.int (1 + m * 0)), _]; rw [Int.mul_zero]; rfl, Same.refl _, (fun i hi => absurd hi (Nat.not_lt_zero _)), rfl⟩ ?_
      rintro μ σ H' ⟨r, rfl, sx, hc, rfl⟩
      refine ⟨decide (1 + m * layS r m < n), fun Q1 q1 => ⟨.int (1 + m * layS r m), rfl, .int n, rfl, _, _, rfl, rfl, _, rfl, q1 H' (Same.refl _)⟩, fun hb H2 s2 D' hD' => ?_, fun hb H2 s2 => ?_⟩
      · have hb := of_decide_eq_true hb
        have hlt := floor_lt n1 h1 h3 hb
        refine r_seq ⟨_, rfl, _, _, rfl, rfl, ?_⟩
        refine r_seq ⟨_, rfl, .int (m * (m - 1) ^ r), rfl, _, _, rfl, rfl, ?_⟩
        refine ⟨_, rfl, .int m, rfl, _, _, rfl, rfl, _, _, rfl, rfl, .inr ⟨by omega, by omega⟩, hD' _ _ ⟨n.toNat - (r + 1), by omega, r + 1, ?_, sx.trans s2, fun i hi => ?_, rfl⟩⟩
        · rw [lay_mul, Int.pow_succ, ← Int.mul_assoc]
          rfl
        · rcases Nat.lt_or_ge i r with a | a
          · exact hc i a
          · have : i = r := by omega
            subst this; exact hb
      · have hb := of_decide_eq_false hb
        exact ⟨.int r, rfl, by rw [hD]; exact q r H2 ⟨hc, hb⟩ (sx.trans s2)⟩
    by_cases hm : m = 1
    · subst hm
      have h3 := h3 rfl
      rw [decide_eq_true (show V.int (1 : Int) = V.int 1 from rfl)]
      show if true = true then _ else _
      rw [if_pos rfl]
      refine ⟨.int n, rfl, n, 2, rfl, rfl, _, rfl, ?_⟩
      rw [decide_eq_false (show ¬ (2 : Int) < n by omega)]
      show if false = true then _ else _
      rw [if_neg Bool.false_ne_true]
      exact go _ rfl
    · rw [decide_eq_false (show ¬ V.int m = V.int 1 from fun e => hm (by injection e))]
      show if false = true then _ else _
      rw [if_neg Bool.false_ne_true]
      exact go _ rfl
theorem rs_par3 {i j l : Nat} {ta : TA} {u : TS} {D : Ends} {σ : L2.St} {H : Hp} (h : ta σ H fun vs H1 => ∃ x y z, vs = [x, y, z] ∧ u D (((σ.set i (some x)).set j (some y)).set l (some z)) H1) : tSeq (tPar3 i j l ta) u D σ H := h
end
end HI

set_option Elab.async false
set_option linter.all false
set_option maxRecDepth 100000
set_option maxHeartbeats 4000000
namespace HI
open PySem L2 PyProof.Rows Hw
abbrev sLast : Stmt := topS 24
abbrev sWay : Stmt := topS 23
def prD (q : Nat × Int) : PyData := .tuple [.int (q.1 : Nat), .int q.2]
theorem dataLt_pr (a b : Nat × Int) : PySem.W.dataLt (prD a) (prD b) = ltPr a b := by
  unfold prD ltPr
  rw [PySem.W.dataLt_pair (by simp [PySem.W.alike]) (by simp [PySem.W.alike]), PySem.W.dataLt_int, PySem.W.dataLt_int]
  simp only [PyData.eqv]
  by_cases h1 : a.1 = b.1
  · by_cases h2 : a.2 = b.2 <;> simp [h1, h2]
  · have h3 : ¬ ((a.1 : Int) = (b.1 : Int)) := by omega
    simp [h1, h3]
theorem maxD_pr (x : Nat × Int) (xs : List (Nat × Int)) : PySem.W.maxD (prD x) (xs.map prD) = prD (maxPr x xs) := by
  unfold PySem.W.maxD maxPr
  induction xs generalizing x with
  | nil => rfl
  | cons y xs ih =>
    rw [List.map_cons, List.foldl_cons, List.foldl_cons, dataLt_pr]
    by_cases h : ltPr x y = true
    · rw [if_pos h, if_pos h]; exact ih y
    · rw [if_neg h, if_neg h]; exact ih x
theorem prD_inj {a b : Nat × Int} (h : prD a = prD b) : a = b := by
  unfold prD at h
  injection h with h
  injection h with h1 h2
  injection h2 with h2 _
  injection h1 with h1
  injection h2 with h2
  exact Prod.ext (by omega) h2
theorem alike_pr (xs : List (Nat × Int)) : PySem.W.AlikeAll (xs.map prD) := by
  refine ⟨fun d hd d' hd' => ?_, fun d hd => ?_⟩
  · obtain ⟨a, _, rfl⟩ := List.mem_map.mp hd
    obtain ⟨b, _, rfl⟩ := List.mem_map.mp hd'
    unfold prD
    simp [PySem.W.alike, PySem.W.alikeAll]
  · obtain ⟨a, _, rfl⟩ := List.mem_map.mp hd
    exact fun e => nomatch e
theorem depth_pr (a : Nat × Int) : (prD a).depth ≤ 50 := by
  unfold prD
  simp [PyData.depth, PyData.depthAll]
theorem lev_self {ns : List Int} {nb : Int → List Int} (hnb : ∀ n ∈ ns, ∀ o ∈ nb n, o ∈ ns) {p : Int} (hp : p ∈ ns) : ∀ i, p ∈ (lev nb p i).1.map (·.1)
  | 0 => List.mem_cons_self
  | i + 1 => by
    obtain ⟨n0, f⟩ := lev_ok hnb hp i
    exact (FarOk.foldE hnb (s := ((lev nb p i).1, [])) ⟨f.nd, f.sub, (fun _ z => nomatch z), rfl⟩ fun o ho => f.sub o (f.bey o ho)).2 p (lev_self hnb hp i)
theorem lookF_mem {far : Far} (nd : (far.map (·.1)).Nodup) {z : Int × Nat} (hz : z ∈ far) : lookF far z.1 = z.2 := by
  unfold lookF
  induction far with
  | nil => cases hz
  | cons y far ih =>
    rw [List.map_cons, List.nodup_cons] at nd
    rcases List.mem_cons.mp hz with rfl | hm
    · rw [List.find?_cons_of_pos (by exact decide_eq_true rfl)]; rfl
    · rw [List.find?_cons_of_neg (by
        have : y.1 ≠ z.1 := fun e => nd.1 (by rw [e]; exact List.mem_map.mpr ⟨z, hm, rfl⟩)
        simpa using this)]
      exact ih nd.2 hm
theorem smallM2 {n : Nat} (h : n ≤ 100000) : n < sizeLine := by rw [sizeLine_eq]; omega
theorem snocP {α β : Type} {F : α → β → Prop} {x : α} {y : β} (f : F x y) : ∀ {xs : List α} {ys : List β}, Paired F xs ys → Paired F (xs ++ [x]) (ys ++ [y])
  | _, _, .nil => .cons f .nil
  | _, _, .cons h t => .cons h (snocP f t)
abbrev PrT (H : Hp) (a : Addr) (q : Nat × Int) : Prop := H a = some (.tup [.int (q.1 : Nat), .int q.2])
def spLast : Sp := fun vs H Q _ => ∃ (d : Addr) (p : Int) (f : Int → Addr) (ns : List Int) (ts : List Tie) (n : Nat), vs = [.ref d, .int p] ∧ NearL f H d ns (nbr ts) ∧ p ∈ ns ∧ ns.length ≤ 200 ∧ (∀ n ∈ ns, ∀ o ∈ nbr ts n, o ∈ ns) ∧ endOk ts n p = true ∧
  ∀ q H', Same H H' → PrT H' q (lastR ts n p) → Q (.ref q) H'
section
variable {P : Program} {w : World} {K : PySem.W.Frag} {mg : Str → Option Value} {base : Heap}
theorem scLast : FnScope ["tied", "place", "far", "other"] ["tied", "place"] (defScope sLast) := ⟨rfl, rfl, rfl, by decide +kernel, rfl, by decide +kernel, by decide +kernel⟩
theorem ok_last {f fA : Addr} {fd fdA : FuncData} {k : Nat} (F : Fun K "last_reached" "last_reached" sLast f fd) (B : Blt mg)
    (GA : FnOk P w K mg base CX0 k fA fdA ["tied", "place"] spFars) (gA : mg "far_along" = some (.ref fA)) (kA : PySem.W.keepIn K (.ref fA) = true) (bA : Binds K fdA ["tied", "place"] []) :
    FnOk P w K mg base CX0 (k + 1) f fd ["tied", "place"] spLast := by
  refine F.ok scLast (fun vs H Q E h => ?_) (fun cdv A outer s H vs Q E hr h => ?_)
  · obtain ⟨d, p, f, ns, ts, n, rfl, _⟩ := h
    rfl
  · obtain ⟨d, p, fa, ns, ts, n, rfl, nl, hp, hl, hnb, he, q⟩ := h
    have hu := hu_of hr
    have hu64 := hr.units
    refine ⟨_, pss_cons (ps_set (i := 2) scLast.nd rfl (.inr rfl) (pe_call GA hr (by rfl) gA kA bA .nil pass0 (pa_cons (pv 0) (pa_cons (pv 1) pa_nil))))
      (pss_one (ps_ret (pe_callB (cr_maxB rfl hu64) (by rfl) B.max PyProof.Rows.boot_max (pa_cons (pe_lock (pe_lc (own := [("other", 3)]) (g := gName 3) (tt := tYes) (te := tTup (tCons (tDGet (tVar 2) (tVar 3)) (tCons (tVar 3) tNil))) rfl scLast.nd (pi_keys (pv 2))
          (blkOk_by (N := ["tied", "place", "far", "other"]) (sc := defScope sLast) (by decide +kernel)) (fun _ _ _ _ _ => pg_name (i := 3) scLast.nd rfl (Or.inl rfl)) (fun _ _ _ _ _ => pts_nil)
          (fun _ _ _ _ _ => pe_tup (pa_cons (pe_dget hu (pv 2) (pv 3) (fun _ _ => rfl)) (pa_cons (pv 3) pa_nil))))) pa_nil)))), ?_⟩
    refine rs_set ?_
    refine ⟨.ref d, rfl, .int p, rfl, d, p, fa, ns, ts, rfl, nl, hp, by omega, hnb, fun far fd' H1 hb hf s1 e1 n1 => ?_⟩
    have hlev : lev (nbr ts) p n = ((lev (nbr ts) p n).1, []) := Prod.ext rfl (List.isEmpty_iff.mp he)
    have efar : far = (lev (nbr ts) p n).1 := hb.uniq ⟨n, hlev⟩
    obtain ⟨n0, fk⟩ := hf
    have few : far.length ≤ ns.length := fk.few
    refine ⟨fd', .dK (encF far), e1, trivial, fun od => ?_⟩
    refine ⟨.ref fd', rfl, fd', od, rfl, .inl ⟨encF far, upd_same, fun D nD => ?_⟩⟩
    have nfD : D ≠ fd' := fun z => by rw [z, upd_same] at nD; cases nD
    have nD1 : H1 D = none := by rw [upd_ne nfD] at nD; exact nD
    have hel : (encF far).length = far.length := by unfold encF; rw [List.length_map]
    refine lc_it walk_keys (fun i H' => SameX fd' H1 H' ∧ H' fd' = some (.frz od (.dK (encF far))) ∧ ∃ tp : List Addr, H' D = some (.lst (tp.map V.ref)) ∧ Paired (PrT H') tp ((far.take i).map fun q => (q.2, q.1)))
      ⟨fun b o hb e => by rw [upd_ne (ne_of_none e nD1), upd_ne hb]; exact e, by rw [upd_ne (Ne.symm nfD)]; exact upd_same, [], upd_same, .nil⟩ (fun i H' _ h => h.2.1) ?_ ?_
    · rintro i x H3 H2 hi ⟨sx, ed, tp, eD, hpp⟩ ⟨rfl, kk, v, hk, rfl⟩
      obtain ⟨z, hz, ez⟩ : ∃ z, far[i]? = some z ∧ (kk, v) = ((Sum.inl z.1 : Key), V.int (z.2 : Int)) := by
        unfold encF at hk
        rw [List.getElem?_map] at hk
        cases e : far[i]? with
        | none => rw [e] at hk; cases hk
        | some z => rw [e] at hk; exact ⟨z, rfl, (Option.some.inj hk).symm⟩
      cases ez
      have hzk : z.1 ∈ far.map (·.1) := List.mem_map.mpr ⟨z, List.mem_of_getElem? hz, rfl⟩
      have hval : valV (encF far) (Sum.inl z.1) = some (V.int (z.2 : Int)) := by
        rw [valV_far, if_pos hzk]
        rw [lookF_mem fk.nd (List.mem_of_getElem? hz)]
      have htp : tp.length ≤ 200 := by
        rw [Paired.length hpp, List.length_map, List.length_take]; omega
      refine ⟨rfl, r_yes ?_⟩
      have dg : DGet H2 fd' (.int z.1) (valV (encF far) (Sum.inl z.1)) := .inl ⟨_, Sum.inl z.1, .inr ⟨_, ed⟩, rfl, rfl⟩
      rw [hval] at dg
      refine ⟨.ref fd', rfl, .int z.1, rfl, fd', _, rfl, dg, .int z.1, rfl, by show 2 ≤ sizeLine; decide, fun a na => ?_⟩
      have s2 := same_upd (o := .tup [.int (z.2 : Int), .int z.1]) na
      have naD : a ≠ D := fun y => by rw [y, eD] at na; cases na
      refine ⟨_, s2 _ _ eD, smallM2 (by rw [List.length_map]; omega), fun b o hb e => ?_, ?_, tp ++ [a], by rw [upd_same, List.map_append]; rfl, ?_⟩
      · rw [upd_ne (ne_of_none e nD1)]
        exact s2 _ _ (sx _ _ hb e)
      · rw [upd_ne (Ne.symm nfD)]; exact s2 _ _ ed
      · rw [take_snoc hz, List.map_append]
        refine snocP ?_ (paired_mono (fun q n e => ?_) hpp)
        · show (upd _ D _) a = _
          rw [upd_ne naD, upd_same]
        · have e : H2 q = _ := e
          show (upd _ D _) q = _
          rw [upd_ne (fun y => by rw [y, eD] at e; cases e)]
          exact s2 _ _ e
    · rintro H2 ⟨sx, ed, tp, eD, hpp⟩
      rw [hel, List.take_length] at hpp
      refine ⟨ed, ?_⟩
      have nfD2 : D ≠ fd' := nfD
      have sF : Same H1 (upd H2 fd' (.dK (encF far))) := fun b o e => by
        by_cases hb : b = fd'
        · subst hb
          rw [upd_same, ← e1]; exact e
        · rw [upd_ne hb]; exact sx _ _ hb e
      have eD2 : (upd H2 fd' (.dK (encF far))) D = some (.lst (tp.map V.ref)) := by rw [upd_ne nfD]; exact eD
      have hp2 : Paired (PrT (upd H2 fd' (.dK (encF far)))) tp (far.map fun q => (q.2, q.1)) := paired_mono (fun q n e => by
        have e : H2 q = _ := e
        show (upd H2 fd' _) q = _
        rw [upd_ne (fun z => by rw [z, ed] at e; cases e)]
        exact e) hpp
      generalize (upd H2 fd' (.dK (encF far))) = H4 at sF eD2 hp2
      obtain ⟨l, hl1, hl2, hl3⟩ := zip_of hp2
      cases l with
      | nil =>
        exfalso
        have : far = [] := by
          have h2 : ([] : List (Nat × Int)) = far.map fun q => (q.2, q.1) := hl2
          exact List.map_eq_nil_iff.mp h2.symm
        have hs := lev_self hnb hp n
        rw [← efar, this] at hs
        cases hs
      | cons x0 l =>
        have eb1 : ((V.ref x0.1, prD x0.2) :: l.map fun x => (V.ref x.1, prD x.2)).map (·.1) = tp.map V.ref := by rw [← hl1]; simp
        have eb2 : ((V.ref x0.1, prD x0.2) :: l.map fun x => (V.ref x.1, prD x.2)).map (·.2) = ((x0 :: l).map (·.2)).map prD := by simp
        refine ⟨D, (V.ref x0.1, prD x0.2), l.map fun x => (V.ref x.1, prD x.2), rfl, by rw [eb1]; exact sql_of eD2, fun b hb => ?_, by rw [eb2]; exact alike_pr _, fun b hb e => ?_⟩
        · obtain ⟨x, hx, rfl⟩ : ∃ x ∈ x0 :: l, b = (V.ref x.1, prD x.2) := by
            rcases List.mem_cons.mp hb with rfl | hb
            · exact ⟨x0, List.mem_cons_self, rfl⟩
            · obtain ⟨x, hx, rfl⟩ := List.mem_map.mp hb
              exact ⟨x, List.mem_cons_of_mem _ hx, rfl⟩
          exact ⟨.tup (sqt_of (hl3 x hx)) (.cons (.int _) (.cons (.int _) .nil)), depth_pr _⟩
        · obtain ⟨x, hx, rfl⟩ : ∃ x ∈ x0 :: l, b = (V.ref x.1, prD x.2) := by
            rcases List.mem_cons.mp hb with rfl | hb
            · exact ⟨x0, List.mem_cons_self, rfl⟩
            · obtain ⟨x, hx, rfl⟩ := List.mem_map.mp hb
              exact ⟨x, List.mem_cons_of_mem _ hx, rfl⟩
          have e3 : PySem.W.maxD (prD x0.2) ((l.map fun x => (V.ref x.1, prD x.2)).map (·.2)) = prD (maxPr x0.2 (l.map (·.2))) := by
            rw [List.map_map, ← maxD_pr, List.map_map]; rfl
          have e4 := prD_inj (e.trans e3)
          refine q x.1 H4 (s1.trans sF) ?_
          have e5 : lastR ts n p = x.2 := by
            unfold lastR
            rw [← efar, ← hl2]
            show maxPr x0.2 (l.map (·.2)) = x.2
            exact e4.symm
          rw [e5]
          exact hl3 x hx
end
end HI

set_option Elab.async false
set_option linter.all false
set_option maxRecDepth 100000
set_option maxHeartbeats 4000000
namespace HI
open PySem L2 PyProof.Rows Hw
abbrev sChkL : Stmt := topS 18
abbrev sChkT : Stmt := topS 19
def limsV (d n : Nat) : List V := List.replicate n (.int (d : Int))
def nsI (n : Nat) : List Int := (List.range n).map fun i => ((i : Nat) : Int)
def GoodL (d n : Nat) : Prop := 2 ≤ d ∧ d ≤ 5 ∧ 2 ≤ n ∧ n ≤ 61
def spChk : Sp := fun vs H Q _ => ∃ (a : Addr) (d n : Nat), vs = [.ref a] ∧ H a = some (.tup (limsV d n)) ∧ GoodL d n ∧ ∀ H', Same H H' → Q .non H'
theorem lims_len (d n : Nat) : (limsV d n).length = n := by unfold limsV; rw [List.length_replicate]
theorem lims_at {d n i : Nat} {x : V} (h : (limsV d n)[i]? = some x) : x = .int (d : Int) := List.eq_of_mem_replicate (List.mem_of_getElem? h)
theorem all_repI (n : Nat) : (List.replicate n true).all id = true := by
  rw [List.all_eq_true]
  intro b hb
  rw [List.eq_of_mem_replicate hb]; rfl
def spWay : Sp := fun vs H Q _ => ∃ (t : Addr) (d n : Nat) (qs : List Addr), vs = [.int (n : Nat), .ref t] ∧ GoodL d n ∧ H t = some (.tup (qs.map V.ref)) ∧ Paired (TieL H) qs (tiesL d n) ∧ ∀ H', Same H H' → Q (.int (leastV d n : Nat)) H'
theorem par_le {d i : Nat} (hd : 2 ≤ d) : par d i ≤ i := by
  unfold par
  by_cases h : i < d
  · rw [if_pos h]; exact Nat.zero_le _
  · rw [if_neg h]
    have := Nat.div_le_self (i - d) (d - 1)
    omega
theorem par_mono {d i j : Nat} (h : i ≤ j) : par d i ≤ par d j := by
  unfold par
  by_cases h1 : i < d
  · rw [if_pos h1]; exact Nat.zero_le _
  · rw [if_neg h1, if_neg (show ¬ j < d by omega)]
    have := Nat.div_le_div_right (c := d - 1) (show i - d ≤ j - d by omega)
    omega
theorem mem_ns {n : Nat} {i : Nat} (h : i < n) : ((i : Nat) : Int) ∈ nsI n := List.mem_map.mpr ⟨i, List.mem_range.mpr h, rfl⟩
theorem ns_nd (n : Nat) : (nsI n).Nodup := List.Pairwise.map _ (fun a b h e => h (by omega)) List.nodup_range
theorem ns_len (n : Nat) : (nsI n).length = n := by unfold nsI; rw [List.length_map, List.length_range]
theorem ties_fine {d n : Nat} (g : GoodL d n) : FineW (nsI n) (tiesL d n) := by
  obtain ⟨g1, g2, g3, g4⟩ := g
  refine ⟨ns_nd n, by rw [ns_len]; omega, fun t ht => ?_, by unfold tiesL; rw [List.length_map, List.length_range]; omega⟩
  obtain ⟨i, hi, rfl⟩ := List.mem_map.mp ht
  have hi := List.mem_range.mp hi
  have := par_le (d := d) (i := i) g1
  exact ⟨mem_ns (by omega), mem_ns (by omega), by show ((par d i : Nat) : Int) < ((i + 1 : Nat) : Int); omega⟩
def chkAll (d n : Nat) : Bool := endOk (tiesL d n) n 0 && endOk (tiesL d n) n (lastR (tiesL d n) n 0).2 && decide ((lastR (tiesL d n) n 0).2 ∈ nsI n) && decide (1 ≤ leastV d n) && decide (leastV d n ≤ 100) && decide ((n : Int) ≤ roomV (leastV d n) d) && decide (roomV (leastV d n - 1) d < (n : Int)) && decide ((n : Int) ≤ 1 + (d : Int) * layS (leastV d n) d)
end HI

set_option Elab.async false
set_option linter.all false
set_option maxRecDepth 100000
set_option maxHeartbeats 4000000
namespace HI
open PySem L2 PyProof.Rows Hw
section
variable {P : Program} {w : World} {K : PySem.W.Frag} {mg : Str → Option Value} {base : Heap}
theorem scChkL : FnScope ["value", "limit"] ["value"] (defScope sChkL) := ⟨rfl, rfl, rfl, by decide +kernel, rfl, by decide +kernel, by decide +kernel⟩
theorem ok_chkl {f fW : Addr} {fd fdW : FuncData} {k : Nat} (F : Fun K "check_limits" "check_limits" sChkL f fd) (B : Blt mg) (bi : mg "isinstance" = none) (bt : mg "tuple" = none) (ba : mg "all" = none) (hL : ∃ t, mg "MOST_LIMITS" = some (.int 200 t)) (hT : ∃ t, mg "MOST_TIES" = some (.int 200 t))
    (GW : FnOk P w K mg base CX0 k fW fdW ["value", "least", "most"] spWithin) (gW : mg "is_within" = some (.ref fW)) (kW : PySem.W.keepIn K (.ref fW) = true) (bW : Binds K fdW ["value", "least", "most"] []) :
    FnOk P w K mg base CX0 (k + 1) f fd ["value"] spChk := by
  refine F.ok scChkL (fun vs H Q E h => ?_) (fun cdv A outer s H vs Q E hr h => ?_)
  · obtain ⟨a, d, n, rfl, _⟩ := h
    rfl
  · obtain ⟨a, d, n, rfl, e1, ⟨g1, g2, g3, g4⟩, q⟩ := h
    obtain ⟨t1, gL⟩ := hL
    obtain ⟨t2, gT⟩ := hT
    refine ⟨_, pss_one (ps_if (pt_not (PW.pt (pw_and (pt_val (pe_callB call_isi (by rfl) bi PyProof.Rows.boot_isinstance (pa_cons (pv 0) (pa_cons (pe_bltn (v := .ty "tuple") (by rfl) bt (by decide +kernel) rfl) pa_nil))))
      (pw_and (pt_chain op_le op_le pe_int (pe_callB call_len_seq (by rfl) B.len PySem.boot_len (pa_cons (pv 0) pa_nil)) (pe_glob (v := .int 200) (by rfl) gL ⟨_, rfl⟩))
      (pw_and1 (pt_val (pe_callB (cr_all rfl) (by rfl) ba PyProof.Rows.boot_all (pa_cons (pe_lc (own := [("limit", 1)]) (g := gName 1) (tt := tYes) rfl scChkL.nd (pi_tup (pv 0)) (blkOk_by (N := ["value", "limit"]) (sc := defScope sChkL) (by decide +kernel))
          (fun _ _ _ _ _ => pg_name (i := 1) scChkL.nd rfl (Or.inl rfl)) (fun _ _ _ _ _ => pts_nil) (fun _ _ _ _ _ => pe_call GW hr (by rfl) gW kW bW .nil pass0 (pa_cons (pv 1) (pa_cons pe_int (pa_cons (pe_glob (v := .int 200) (by rfl) gT ⟨_, rfl⟩) pa_nil))))) pa_nil)))))))) (pss_one ps_never) pss_nil), ?_⟩
    refine ⟨.ref a, rfl, .ref a, .ty "tuple", .type "tuple", .type "tuple", true, rfl, .ty _, .base (.tup e1), kit_ty (by decide +kernel), true, rfl, ?_⟩
    refine ⟨.ref a, rfl, a, limsV d n, rfl, .inr (sqt_of e1), _, _, rfl, rfl, true, congrArg V.bl (decide_eq_true (by rw [lims_len]; omega)), ?_⟩
    refine ⟨_, _, rfl, rfl, true, congrArg V.bl (decide_eq_true (by rw [lims_len]; omega)), ?_⟩
    refine ⟨.ref a, rfl, a, rfl, ⟨_, sqt_of e1⟩, fun D hD => lc_tup (xs := limsV d n) (fun i H' => Same H H' ∧ H' D = some (.lst ((List.replicate i true).map V.bl))) ⟨same_upd hD, upd_same⟩ (fun i H' _ h => sqt_of (h.1 _ _ e1)) ?_ ?_⟩
    · rintro i x H' hx ⟨sx, eD⟩
      obtain rfl := lims_at hx
      have hi := (List.getElem?_eq_some_iff.mp hx).1
      rw [lims_len] at hi
      refine ⟨rfl, r_yes ?_⟩
      refine ⟨.int (d : Int), rfl, (d : Int), 0, 200, rfl, _, eD, smallM2 (by rw [List.length_map, List.length_replicate]; omega), ?_, ?_⟩
      · intro b o e
        rw [upd_ne (ne_of_none e hD)]
        exact sx _ _ e
      · rw [upd_same, List.replicate_succ', List.map_append, decide_eq_true (show (0 : Int) ≤ d ∧ (d : Int) ≤ 200 by omega)]; rfl
    · rintro H' ⟨sx, eD⟩
      refine ⟨D, _, rfl, sql_of eD, true, congrArg V.bl (all_repI _), ?_⟩
      exact q H' sx
theorem scChkT : FnScope ["limits", "many"] ["limits"] (defScope sChkT) := ⟨rfl, rfl, rfl, by decide +kernel, rfl, by decide +kernel, by decide +kernel⟩
theorem sum_rep (d : Int) : ∀ n : Nat, (List.replicate n d).sum = (n : Int) * d
  | 0 => by simp
  | n + 1 => by
    rw [List.replicate_succ, List.sum_cons, sum_rep d n]
    rw [show ((n + 1 : Nat) : Int) = (n : Int) + 1 from by omega, Int.add_mul]
    omega
theorem ok_chkt {f : Addr} {fd : FuncData} {k : Nat} (F : Fun K "check_tree" "check_tree" sChkT f fd) (B : Blt mg) : FnOk P w K mg base CX0 (k + 1) f fd ["limits"] spChk := by
  refine F.ok scChkT (fun vs H Q E h => ?_) (fun cdv A outer s H vs Q E hr h => ?_)
  · obtain ⟨a, d, n, rfl, _⟩ := h
    rfl
  · obtain ⟨a, d, n, rfl, e1, ⟨g1, g2, g3, g4⟩, q⟩ := h
    refine ⟨_, pss_cons (ps_set (i := 1) scChkT.nd rfl (.inl rfl) (pe_callB call_len_seq (by rfl) B.len PySem.boot_len (pa_cons (pv 0) pa_nil)))
      (pss_one (ps_if (PW.pt (pw_and (pt_cmpR op_gt (pv 1) pe_int (nomark _)) (pw_and1 (PW.pt (pw_or (pt_cmpR op_in_seq pe_int (pv 0) (by rfl)) (pw_or1 (pt_cmpR op_lt (pe_callB (cr_sumT rfl) (by rfl) B.sum PyProof.Rows.boot_sum (pa_cons (pv 0) pa_nil)) (pe_op op_mul pe_int (pe_op op_sub (pv 1) pe_int)) (nomark _)))))))) (pss_one ps_never) pss_nil)), ?_⟩
    refine rs_set ?_
    refine ⟨.ref a, rfl, a, limsV d n, rfl, .inr (sqt_of e1), ?_⟩
    rw [lims_len]
    refine ⟨.int (n : Int), rfl, _, _, rfl, rfl, true, congrArg V.bl (decide_eq_true (by omega)), ?_⟩
    have hin : inV (.int 0) (limsV d n) = false := by
      unfold inV limsV
      rw [List.any_eq_false]
      intro y hy
      rw [List.eq_of_mem_replicate hy]
      show ¬ ((d : Int) == 0) = true
      simp
      omega
    refine ⟨.ref a, rfl, a, limsV d n, rfl, .inr (sqt_of e1), rfl, ?_, false, congrArg V.bl hin, ?_⟩
    · rw [List.all_eq_true]
      intro y hy
      rw [List.eq_of_mem_replicate hy]; rfl
    refine ⟨.ref a, rfl, a, List.replicate n (d : Int), rfl, by rw [List.map_replicate]; exact sqt_of e1, ?_⟩
    refine ⟨.int (n : Int), rfl, _, _, rfl, rfl, _, _, rfl, rfl, .inl ⟨by decide, by decide⟩, _, _, rfl, rfl, false, congrArg V.bl (decide_eq_false ?_), ?_⟩
    · rw [sum_rep]
      have : (n : Int) * 2 ≤ (n : Int) * d := Int.mul_le_mul_of_nonneg_left (by omega) (by omega)
      omega
    · exact q H (Same.refl _)
end
end HI

set_option Elab.async false
set_option linter.all false
set_option maxRecDepth 100000
set_option maxHeartbeats 4000000
namespace Hw
open PySem PySem.Spec L2 PyProof.Rows LamX
/-! a thing that can be called without arguments, handed from def to def -/
/-- from the moment (fs, H0, h0) on: whoever calls f, in whatever frames, where G holds, sees tl -/
structure Act (CXl : CXT) (P : Program) (w : World) (K : PySem.W.Frag) (mg : Str → Option Value) (base : Heap) (k : Nat) (f : Addr) (fs : List Addr) (H0 : Hp) (h0 : Heap) (G : Hp → Prop) (tl : XK → Hp → VK → Prop) : Prop where
  at_ : ∃ (n q : Str) (ps : Arguments) (b : Expr) (sc : Scope) (cl : List (Str × Addr)) (pm : Value) (c : Addr) (ct : Value), h0.get? f = some (PySem.W.kla_obj n q ps b sc cl pm c ct)
  free : H0 f = none
  out : f ∉ fs
  call : ∀ (A : Around) (outer : List Env) (s : Shared) (H : Hp) (Q : VK) (E : XK), Room (k + 1) A → Env0 P w K mg base A outer s H → Un fs [] H0 H h0 s.heap → G H → tl E H Q →
    codeAny (model P w) A (.call (.ref f) ⟨[], []⟩) (CR CXl outer P w H s Q E) s
/-- a lambda's context, CXl being what is said of what it lets out -/
abbrev lamCW (CXl : CXT) (X : Cx) (A : Around) (outer : List Env) (s : Shared) (H : Hp) (E : XK) (scope : Scope) (f c' : Addr) : Cx :=
  (lamCx X A outer s H E scope f c').wish fun e s' => wpAny (model X.prog X.w) (A.deeper (lamEnv X scope s.heap.objs.size f c')) (leaving (lamEnv X scope s.heap.objs.size f c') e) (fun _ s'' => CXl outer H s E e s'') (fun e' s'' => CXl outer H s E e' s'') s'
section
variable {CXl : CXT} {X : Cx} {pins : List (Addr × Obj)} {σ : L2.St} {H : Hp} {s : Shared}
/-- a lambda just made -/
theorem act_of {f c' : Addr} {pm ctv : Value} {params : Arguments} {body : Expr} {scope : Scope} {k : Nat} {t : XK → TE} (I : Inv X pins σ H s) (L : LamS X.env.scope scope)
    (hf : s.heap.get? f = some (PySem.W.kla_obj "<lambda>" (X.env.qual ++ "<lambda>") params body scope (cloFrom X.env.cells scope.names []) pm c' ctv)) (hfn : H f = none) (hfr : f ∉ frs X.stack)
    (hbind : bindArgs (PySem.W.kla_fn "<lambda>" (X.env.qual ++ "<lambda>") params body scope (cloFrom X.env.cells scope.names []) pm (.ref c') ctv) ⟨[], []⟩ = pure [])
    (hbody : ∀ (A : Around) (outer : List Env) (s : Shared) (H : Hp) (E : XK), Room k (A.deeper (lamEnv X scope s.heap.objs.size f c')) → PE (lamCW CXl X A outer s H E scope f c') body (t E)) :
    Act CXl X.prog X.w X.K X.mg X.base k f (frs X.stack) H s.heap (fun H1 => H1 c' = some (CodeO c' (X.env.qual ++ "<lambda>"))) (fun E H1 Q => t E σ H1 Q) := by
  refine ⟨⟨_, _, _, _, _, _, _, _, _, hf⟩, hfn, hfr, fun A outer s1 H1 Q E hr e0 un hc ht => ?_⟩
  have here := un.keep f _ hf hfn hfr (List.not_mem_nil)
  obtain ⟨⟨oc, vs, tk, c1, c2, c3⟩, _, _⟩ := e0.hok c' _ hc
  have lim : s1.heap.NoLimit := e0.mod.nolimit.keeps fun b o e => (e0.bs b o e).1
  refine PySem.W.kla_callFunE hr.depth here rfl L.co L.gen rfl ⟨c', oc, vs, tk, rfl, c1, c2, c3⟩ ?_
  rw [hbind]
  refine wpAny_pure (wpAny_newFunctionEnv (fun y hy => (L.own y hy).2) (fun y hy => nomatch hy) (fun h2 ns sb => ⟨lim.fresh _ sb, ?_⟩) L.kind)
  have kept : ∀ b o, s1.heap.get? b = some o → h2.get? b = some o := fun b o e => sb.extBut b o (Nat.ne_of_lt (Heap.lt_size e)) (Heap.get?_push_of_some _ e)
  have J := lam_start2 (E := E) (f := f) (c' := c') (tk := s1.toks + ([] : List (Str × Value)).length) I L e0 hr.hd un ns kept
  refine PySem.W.kla_codeExpr (wpAny_mono ((hbody A outer s1 H1 E (hr.deeper _)).run [] _ _ H1 Q (J.wish _) ht) (fun v s' hq => ?_) fun e s' hq => hq)
  obtain ⟨x, H2, J2, rv, q⟩ := hq
  have J2 := J2.unwish
  exact ⟨x, H2, J2.os, J2.bare, J2.base, J2.hok, rv, q⟩
/-- two stretches of a way, the second one seen from a frame more -/
theorem un_join {fs : List Addr} {L : Addr} {H0 H1 H2 : Hp} {h0 h1 h2 : Heap} {gs : List Addr} (a : Un fs [] H0 H1 h0 h1) (b : Un gs [] H1 H2 h1 h2) (hg : ∀ x, x ∈ gs → x ∈ fs ∨ x = L) (hf : ∀ x, x ∈ fs → x ∈ gs) (hL : h0.objs.size ≤ L) : Un fs [] H0 H2 h0 h2 where
  keep := fun c o e n hc _ => b.keep c o (a.keep c o e n hc List.not_mem_nil) (a.free c o e n List.not_mem_nil) (fun m => (hg c m).elim hc fun z => absurd (Heap.lt_size e) (by rw [z]; exact Nat.not_lt_of_le hL)) List.not_mem_nil
  slot := fun c o e n hc _ => by
    obtain ⟨sl, e1⟩ := a.slot c o e n hc List.not_mem_nil
    obtain ⟨sl', e2⟩ := b.slot c _ e1 (a.free c o e n List.not_mem_nil) (hf c hc) List.not_mem_nil
    exact ⟨sl', e2⟩
  free := fun c o e n _ => by
    obtain ⟨o', e1⟩ := a.there c o e List.not_mem_nil
    exact b.free c o' e1 (a.free c o e n List.not_mem_nil) List.not_mem_nil
  there := fun c o e _ => by
    obtain ⟨o', e1⟩ := a.there c o e List.not_mem_nil
    exact b.there c o' e1 List.not_mem_nil
  tups := fun c xs e => b.tups c xs (a.tups c xs e)
  frzs := fun c o u e => b.frzs c o u (a.frzs c o u e)
  tbls := fun c ps e => by
    obtain ⟨m1, e1⟩ := a.tbls c ps e
    obtain ⟨m2, e2⟩ := b.tbls c _ e1
    exact ⟨m1 ++ m2, by rw [e2, Array.append_assoc]⟩
/-- within a def that got it: it may be handed on -/
theorem Act.down {k : Nat} {f : Addr} {G : Hp → Prop} {tl : XK → Hp → VK → Prop} (hex : X.ex = []) (ac : Act CXl X.prog X.w X.K X.mg X.base k f X.fs X.H_0 X.s_0.heap G tl) (hs : X.stack = X.env :: X.outer) (hfm : X.env.frame = some X.env.locals) (I : Inv X pins σ H s) :
    Act CXl X.prog X.w X.K X.mg X.base k f (frs X.stack) H s.heap G tl := by
  have ub : Un X.fs [] X.H_0 H X.s_0.heap s.heap := by
    have := I.base
    rwa [hex] at this
  have hfr : frs X.stack = X.env.locals :: X.fs := by
    rw [hs]
    show List.filterMap _ _ = _
    rw [List.filterMap_cons, hfm]; rfl
  obtain ⟨n, q, ps, b, sc, cl, pm, c, ct, e⟩ := ac.at_
  refine ⟨⟨n, q, ps, b, sc, cl, pm, c, ct, ub.keep f _ e ac.free ac.out List.not_mem_nil⟩, ub.free f _ e ac.free List.not_mem_nil, fun m => ?_, fun A outer s1 H1 Q E hr e0 un hg ht => ac.call A outer s1 H1 Q E hr e0 (un_join (L := X.env.locals) ub un (fun x m => ?_) (fun x m => ?_) I.ok.above) hg ht⟩
  · rw [hfr] at m
    rcases List.mem_cons.mp m with z | z
    · have := Heap.lt_size e
      rw [z] at this
      exact absurd this (Nat.not_lt_of_le I.ok.above)
    · exact ac.out z
  · rw [hfr] at m
    exact (List.mem_cons.mp m).elim .inr .inl
  · rw [hfr]
    exact List.mem_cons_of_mem _ m
end
end Hw

set_option Elab.async false
set_option linter.all false
set_option maxRecDepth 100000
set_option maxHeartbeats 4000000
namespace Hw
open PySem PySem.Spec L2 PyProof PyProof.Rows LamX
/-! defs that get a callable and call it: what they want may speak of the frames and the heap they start in -/
abbrev SpL := List Addr → Heap → Sp
section
variable (P : Program) (w : World) (K : PySem.W.Frag) (mg : Str → Option Value) (base : Heap)
structure FnGL (CX : CXT) (k : Nat) (f : Addr) (fd : FuncData) (ps : List Str) (sp : SpL) : Prop where
  len : ∀ fs h vs H Q E, sp fs h vs H Q E → vs.length = ps.length
  run : ∀ (A : Around) (outer : List Env) (s : Shared) (H : Hp) (args : Args) (us : List Value) (vs : List V) (Q : VK) (E : XK), RoomG k A → Env0 P w K mg base A outer s H →
    BindsTo s fd args (ps.zip us) → Vals vs us → sp (frs outer) s.heap vs H Q E → codeAny (model P w) A (.call (.ref f) args) (CR CX outer P w H s Q E) s
end
section
variable {P : Program} {w : World} {K : PySem.W.Frag} {mg : Str → Option Value} {base : Heap} {CX : CXT} {k : Nat} {f : Addr} {fd : FuncData} {ps : List Str} {sp sp' : SpL}
theorem toGL {sp : Sp} (F : FnG P w K mg base CX k f fd ps sp) : FnGL P w K mg base CX k f fd ps (fun _ _ => sp) := ⟨fun _ _ => F.len, fun A o s H a us vs Q E hr he hb hv hs => F.run A o s H a us vs Q E hr he hb hv hs⟩
theorem FnGL.mono {j : Nat} (F : FnGL P w K mg base CX j f fd ps sp) (h : j ≤ k) : FnGL P w K mg base CX k f fd ps sp := ⟨F.len, fun A o s H a us vs Q E hr => F.run A o s H a us vs Q E (hr.mono h)⟩
theorem FnGL.imp (F : FnGL P w K mg base CX k f fd ps sp) (h : ∀ fs h vs H Q E, sp' fs h vs H Q E → sp fs h vs H Q E) : FnGL P w K mg base CX k f fd ps sp' :=
  ⟨fun fs g vs H Q E q => F.len fs g vs H Q E (h _ _ _ _ _ _ q), fun A o s H a us vs Q E hr he hb hv hs => F.run A o s H a us vs Q E hr he hb hv (h _ _ _ _ _ _ hs)⟩
end
/-- a def by its body -/
theorem fnGL_of {CX : CXT} {P : Program} {w : World} {K : PySem.W.Frag} {mg : Str → Option Value} {base : Heap} {k : Nat} {f : Addr} {name qual : Str} {params : Arguments} {body : List Stmt} {scope : Scope} {dV kV doc pm cdv ct oc : Value} {an od : Option Addr}
    {osl : Array (Option Value)} {N ps : List Str} {sp : SpL} (lk : K.lookup f = some ⟨oc, od, .func (PySem.W.fnOf name qual params body scope dV kV doc pm an cdv ct), osl⟩) (hcd : PySem.W.codeIn K cdv qual = true)
    (S : FnScope N ps scope) (len : ∀ fs h vs H Q E, sp fs h vs H Q E → vs.length = ps.length)
    (hbody : ∀ (A : Around) (outer : List Env) (s : Shared) (H : Hp) (vs : List V) (Q : VK) (E : XK), RoomG k (A.deeper (envOfC qual scope s.heap.objs.size f cdv)) → sp (frs outer) s.heap vs H Q E →
      ∃ t, PSs (cxOf CX P w K mg base N qual scope f cdv A outer s H E) body t ∧ t { nx := fun _ H' => Q .non H', rt := Q } (start N vs) H) :
    FnGL P w K mg base CX (k + 1) f (PySem.W.fnOf name qual params body scope dV kV doc pm an cdv ct) ps sp := by
  refine ⟨len, fun A outer s H args us vs Q E hr e0 hb r hsp => ?_⟩
  have nl := len _ _ _ _ _ _ hsp
  have kin : K.In s.heap := e0.mod.kin.keeps fun b o e => (e0.bs b o e).1
  have nolim : s.heap.NoLimit := e0.mod.nolimit.keeps fun b o e => (e0.bs b o e).1
  have kinds : ∀ y ∈ ps.zip us, scope.names.lookup y.1 = some .local ∨ (scope.names.lookup y.1 = some .cell ∧ ((cellsFrom (s.heap.objs.size + 1) scope.names []).lookup y.1).isSome = true) := by
    rintro ⟨n, v⟩ hy
    rcases S.par n (List.of_mem_zip hy).1 with q | q
    · left; exact q
    · right; exact ⟨q, PySem.W.cellsFrom_some _ _ _ (.inl q)⟩
  refine codeAny_call_function hr.r.depth (kin _ _ lk) rfl S.co S.gen rfl (PySem.W.codeRec_of kin hcd) (hb _ _ _ _ ?_)
  refine wpAny_newFunctionEnv_cells S.kind kinds fun env he s1 x => ?_
  subst he
  refine ⟨nolim.keeps x.toInCall.keep, codeAny_func ?_⟩
  obtain ⟨t, ht, hq⟩ := hbody A outer s H vs Q E (hr.deeper _) hsp
  have I0 : Inv (cxOf CX P w K mg base N qual scope f cdv A outer s H E) [] (start N vs) H s1 := inv_start S hr.r.hd e0 nl r x
  refine wpAny_mono (ht.run [] s1 (start N vs) H _ I0 hq) (fun fl s' hs => ?_) fun _ _ hs => hs
  have done : ∀ {σ' : L2.St} {H' : Hp} {v : V} {u : Value}, Inv (cxOf CX P w K mg base N qual scope f cdv A outer s H E) [] σ' H' s' → RelV v u → Q v H' → CE outer P w H s Q u s' :=
    fun {_ H' v _} J rv q => ⟨v, H', J.os, J.bare, J.base, J.hok, rv, q⟩
  match fl, hs with
  | .ret u, ⟨v, σ', H', J, rv, q⟩ => exact done J rv q
  | .next, ⟨σ', H', J, q⟩ => exact done (v := V.non) (u := Value.none) J rfl q
  | .brk, ⟨_, _, _, q⟩ => exact False.elim q
  | .cont, ⟨_, _, _, q⟩ => exact False.elim q
section
variable {P : Program} {w : World} {K : PySem.W.Frag} {mg : Str → Option Value} {base : Heap}
theorem funGL {x qual : Str} {st : Stmt} {f : Addr} {fd : FuncData} {N ps : List Str} {k : Nat} {sp : SpL} (F : Fun K x qual st f fd) (S : FnScope N ps (defScope st)) (len : ∀ fs h vs H Q E, sp fs h vs H Q E → vs.length = ps.length)
    (hbody : ∀ (cdv : Value) (A : Around) (outer : List Env) (s : Shared) (H : Hp) (vs : List V) (Q : VK) (E : XK), RoomG k (A.deeper (envOfC qual (defScope st) s.heap.objs.size f cdv)) → sp (frs outer) s.heap vs H Q E →
      ∃ t, PSs (cxOf CX0 P w K mg base N qual (defScope st) f cdv A outer s H E).nox (defBody st) t ∧ t { nx := fun _ H' => Q .non H', rt := Q } (start N vs) H) : FnGL P w K mg base CX0 (k + 1) f fd ps sp := by
  obtain ⟨oc, od, kV, doc, pm, an, cdv, ct, osl, rfl, lk, hcd⟩ := F.ex
  exact fnGL_of lk hcd S len fun A outer s H vs Q E hr hsp => by
    obtain ⟨t, h, q⟩ := hbody cdv A outer s H vs Q E hr hsp
    exact ⟨t, h.nox, q⟩
theorem funGLX {x qual : Str} {st : Stmt} {f : Addr} {fd : FuncData} {N ps : List Str} {k : Nat} {sp : SpL} (F : Fun K x qual st f fd) (S : FnScope N ps (defScope st)) (len : ∀ fs h vs H Q E, sp fs h vs H Q E → vs.length = ps.length)
    (hbody : ∀ (cdv : Value) (A : Around) (outer : List Env) (s : Shared) (H : Hp) (vs : List V) (Q : VK) (E : XK), RoomG k (A.deeper (envOfC qual (defScope st) s.heap.objs.size f cdv)) → sp (frs outer) s.heap vs H Q E →
      ∃ t, PSs (cxOf (L2.CX P w) P w K mg base N qual (defScope st) f cdv A outer s H E) (defBody st) t ∧ t { nx := fun _ H' => Q .non H', rt := Q } (start N vs) H) : FnGL P w K mg base (L2.CX P w) (k + 1) f fd ps sp := by
  obtain ⟨oc, od, kV, doc, pm, an, cdv, ct, osl, rfl, lk, hcd⟩ := F.ex
  exact fnGL_of lk hcd S len fun A outer s H vs Q E hr hsp => hbody cdv A outer s H vs Q E hr hsp
end
/-- where a def's own frame stands: whatever is called from here starts so -/
def Down (X : Cx) (fs : List Addr) (h : Heap) (H : Hp) : Prop := ∃ pins σ s, Inv X pins σ H s ∧ fs = frs X.stack ∧ h = s.heap
def tCallW (X : Cx) (sp : SpL) (dvs : List V) (E : XK) (t : TA) : TE := fun σ H Q => t σ H fun vs H1 => ∀ fs h, Down X fs h H1 → sp fs h (vs ++ dvs) H1 Q E
/-- a lambda, then the others; a call with these -/
def tLamW (CXl : CXT) (X : Cx) (T : List (Addr × Str)) (k : Nat) (q : Str) (sp : SpL) (dvs : List V) (E : XK) (ta : TA) (t : XK → TE) : TE := fun σ H Q => Tabs T H ∧ ∀ f c' H1, ExtN H H1 → Tabs T H1 → H1 c' = some (CodeO c' q) →
  ta σ H1 fun vs H2 => ∀ fs h, Act CXl X.prog X.w X.K X.mg X.base k f fs H2 h (fun HZ => HZ c' = some (CodeO c' q)) (fun E' HZ Q' => t E' σ HZ Q') → sp fs h (.ref f :: vs ++ dvs) H2 Q E
section
variable {X : Cx} {CX CXl : CXT} {k : Nat} {f : Addr} {fd : FuncData} {ps : List Str} {sp : SpL} {dvs : List V} {ds : List Value} {E : XK} {x : Str} {p pos : Pos} {e : Expr} {es : List Expr} {t : TA}
theorem Act.go {n : Nat} {a : Addr} {G : Hp → Prop} {tl : XK → Hp → VK → Prop} {fs : List Addr} {h : Heap} {H : Hp} (hex : X.ex = []) (ac : Act CXl X.prog X.w X.K X.mg X.base n a X.fs X.H_0 X.s_0.heap G tl) (hs : X.stack = X.env :: X.outer) (hfm : X.env.frame = some X.env.locals) (D : Down X fs h H) :
    Act CXl X.prog X.w X.K X.mg X.base n a fs H h G tl := by
  obtain ⟨pins, σ, s, I, rfl, rfl⟩ := D
  exact ac.down hex hs hfm I
theorem runW {pins : List (Addr × Obj)} {σ : L2.St} {H : Hp} {s : Shared} {Q : VK} {us : List Value} {vs : List V} (F : FnGL X.prog X.w X.K X.mg X.base CX k f fd ps sp) (hr : RoomG k X.A) (hb : Binds X.K fd ps ds) (hd : Vals dvs ds)
    (hx : Passes CX X E) (I : Inv X pins σ H s) (r : Vals vs us) (h : sp (frs X.stack) s.heap (vs ++ dvs) H Q E) : wpAny (model X.prog X.w) X.A (call (.ref f) us) (EP X pins σ Q) X.xe s := by
  have rr : Vals (vs ++ dvs) (us ++ ds) := r.append hd
  have ll : (us ++ ds).length = ps.length := rr.length.symm.trans (F.len _ _ _ _ _ _ h)
  refine wpAny_call (codeAny_mono (F.run X.A X.stack s H ⟨us, []⟩ (us ++ ds) (vs ++ dvs) Q E hr I.env0 (hb s us I.kIn ll) rr h) fun r' s' hq => ?_)
  match r', hq with
  | .error er, hq => exact hx pins σ H s er s' I hq
  | .ok (.ret u), hq => exact I.after hq
  | .ok .next, hq => exact False.elim hq
  | .ok .brk, hq => exact False.elim hq
  | .ok .cont, hq => exact False.elim hq
theorem pe_callW (F : FnGL X.prog X.w X.K X.mg X.base CX k f fd ps sp) (hr : RoomG k X.A) (hg : Gl X x) (hm : X.mg x = some (.ref f)) (hk : PySem.W.keepIn X.K (.ref f) = true) (hb : Binds X.K fd ps ds) (hd : Vals dvs ds)
    (hx : Passes CX X E) (ha : PA X (e :: es) t) (hdb : (x == ("__debug__" : Str)) = false := by decide) (he : starEach (e :: es) X.env = (false, eval e X.env) :: starEach es X.env := by rfl)
    (hpl : (backTo pos (starEach es X.env)).any (·.1) = false := by rfl) : PE X (.Call (.Name x p) (e :: es) [] pos) (tCallW X sp dvs E t) :=
  ⟨fun pins s σ H Q I h => wpAny_Call_Name_kw (ld_glob I hg hm (PySem.W.callWith_K (h₀ := X.base) I.ok.mod.kin hk (thn (ha.run pos pins s σ H _ I h) fun us s1 ⟨vs, H1, I1, r, q⟩ => ⟨I1.kIn, runW F hr hb hd hx I1 r (q _ _ ⟨pins, σ, s1, I1, rfl, rfl⟩)⟩) he hpl) hdb)⟩
/-- x(lambda: body, es…) -/
theorem pe_lamW {j : Nat} {T : List (Addr × Str)} {c P : Addr} {params : Arguments} {body : Expr} {scope : Scope} {lpos : Pos} {tb : XK → TE} (F : FnGL X.prog X.w X.K X.mg X.base CX k f fd ps sp) (hr : RoomG k X.A) (hg : Gl X x) (hm : X.mg x = some (.ref f)) (hk : PySem.W.keepIn X.K (.ref f) = true) (hb : Binds X.K fd ps ds) (hd : Vals dvs ds)
    (hx : Passes CX X E) (ha : PA X es t) (TB : TabB X.base X.mg c P) (hcode : X.env.code = .ref c) (hmT : (P, X.env.qual ++ "<lambda>") ∈ T) (hu : ∀ p ∈ T, p.1 = P → p.2 = X.env.qual ++ "<lambda>") (L : LamS X.env.scope scope) (hdef : defaultsOf params X.env = ([], []))
    (hbind : ∀ (q : Str) (cl : List (Str × Addr)) (pm cv ctv : Value), bindArgs (PySem.W.kla_fn "<lambda>" q params body scope cl pm cv ctv) ⟨[], []⟩ = pure [])
    (hbody : ∀ (A : Around) (outer : List Env) (s : Shared) (H : Hp) (E : XK) (f c' : Addr), Room j (A.deeper (lamEnv X scope s.heap.objs.size f c')) → PE (lamCW CXl X A outer s H E scope f c') body (tb E))
    (hdb : (x == ("__debug__" : Str)) = false := by decide) (he : starEach (.Lambda params body scope lpos :: es) X.env = (false, eval (.Lambda params body scope lpos) X.env) :: starEach es X.env := by rfl)
    (hpl : (backTo pos (starEach es X.env)).any (·.1) = false := by rfl) : PE X (.Call (.Name x p) (.Lambda params body scope lpos :: es) [] pos) (tLamW CXl X T j (X.env.qual ++ "<lambda>") sp dvs E t tb) := by
  refine ⟨fun pins s σ H Q I h => ?_⟩
  obtain ⟨hT, h⟩ := h
  refine wpAny_Call_Name_kw (ld_glob I hg hm ?_ hdb)
  refine PySem.W.callWith_K (h₀ := X.base) I.ok.mod.kin hk ?_ he hpl
  rw [he]
  show wpAny _ _ (spliced ((false, eval (.Lambda params body scope lpos) X.env) :: backTo pos (starEach es X.env))) _ _ s
  refine Calls.spliced_cons (lam_make2 I TB hcode hmT hu hT hdef (L.has I.ok) fun a c' pm' ctv H1 s' I1 eN T1 hf hfn hfr hco => ?_)
  have hfs : a ∉ X.fs := fun z => hfr (by
    rcases I1.ok.stk with e1 | ⟨e1, e2⟩
    · rw [e1]; exact z
    · rw [e1]
      show a ∈ List.filterMap _ _
      rw [List.filterMap_cons, e2]; exact List.mem_cons_of_mem _ z)
  have hfl : a ≠ X.env.locals := fun z => by
    obtain ⟨m, ⟨o', es', ep, ho', hd', _⟩, _⟩ := I1.loc
    rw [← z, hf] at ho'
    cases ho'
    cases hd'
  have Ip : Inv X ((a, PySem.W.kla_obj "<lambda>" (X.env.qual ++ "<lambda>") params body scope (cloFrom X.env.cells scope.names []) pm' c' ctv) :: pins) σ H1 s' := I1.pins_of fun q hq => by
    rcases List.mem_cons.mp hq with z | z
    · subst z
      exact ⟨hf, hfn, hfl, hfs, fun v z => by cases z⟩
    · exact I1.pin q (List.mem_append_right _ z)
  refine thn (ha.run pos _ s' σ H1 _ Ip (h a c' H1 eN T1 hco)) fun us s2 ⟨vs, H2, I2, r, q⟩ => ?_
  have pin := I2.pin (a, PySem.W.kla_obj "<lambda>" (X.env.qual ++ "<lambda>") params body scope (cloFrom X.env.cells scope.names []) pm' c' ctv) (List.mem_append_right _ List.mem_cons_self)
  have I3 : Inv X pins σ H2 s2 := I2.pins_of fun q hq => I2.pin q (List.mem_append_right _ (List.mem_cons_of_mem _ hq))
  refine ⟨I3.kIn, ?_⟩
  have ac : Act CXl X.prog X.w X.K X.mg X.base j a (frs X.stack) H2 s2.heap (fun HZ => HZ c' = some (CodeO c' (X.env.qual ++ "<lambda>"))) (fun E' HZ Q' => tb E' σ HZ Q') :=
    act_of I3 L pin.1 pin.2.1 hfr (hbind _ _ _ _ _) fun A outer s H E hr2 => hbody A outer s H E a c' hr2
  exact runW (us := .ref a :: us) (vs := .ref a :: vs) F hr hb hd hx I3 (.cons rfl r) (q _ _ ac)
end
end Hw

set_option Elab.async false
set_option linter.all false
set_option maxRecDepth 100000
set_option maxHeartbeats 4000000
namespace Hw
open PySem PySem.Spec L2 PyProof PyProof.Rows LamX
section
variable {CXl : CXT} {X : Cx} {pins : List (Addr × Obj)} {σ : L2.St} {H : Hp} {s : Shared}
/-- a(), what it may let out read at the slots of the caller -/
theorem pe_actS {k i : Nat} {a : Str} {f : Addr} {G : Hp → Prop} {tl : XK → Hp → VK → Prop} {W : WX} {p1 p2 : Pos} (hex : X.ex = []) (ac : Act CXl X.prog X.w X.K X.mg X.base k f X.fs X.H_0 X.s_0.heap G tl) (hx : ∀ σ E, (∀ cls d H', E cls d H' → W cls d σ H') → PassesAt CXl X σ E) (hr : Room (k + 1) X.A)
    (hN : X.N[i]? = some a) (hv : Vis X.env.scope a) (hd : (a == ("__debug__" : Str)) = false := by decide) (hcd : (a == ("__classdict__" : Str)) = false := by decide) :
    PE X (.Call (.Name a p1) [] [] p2) (fun σ H Q => ∃ E Q1, (∀ cls d H', E cls d H' → W cls d σ H') ∧ (∀ v H', Q1 v H' → Q v H') ∧ σ[i]? = some (some (.ref f)) ∧ G H ∧ tl E H Q1) := by
  refine ⟨fun pins s σ H Q I h => ?_⟩
  obtain ⟨Ech, Q1, hW, hQ, hs, hg, ht⟩ := h
  refine wpAny_Call_Name_kw (thn ((pe_var (pos := p1) (i := i) hN hv hd hcd).run pins s σ H (fun v H1 => v = .ref f ∧ H1 = H) I ⟨.ref f, hs, rfl, rfl⟩) fun u s1 ⟨v, H1, I1, r1, ev, eH⟩ => ?_)
  subst ev
  rw [eH] at I1
  obtain rfl : u = Value.ref f := r1
  have ub : Un X.fs [] X.H_0 H X.s_0.heap s1.heap := by
    have := I1.base
    rwa [hex] at this
  obtain ⟨n, q, ps, b, sc, cl, pm, c, ct, e⟩ := ac.at_
  refine PySem.W.callWith_F0 ⟨_, _, _, _, ub.keep f _ e ac.free ac.out List.not_mem_nil⟩ ?_
  refine wpAny_call (codeAny_mono (ac.call X.A X.stack s1 H Q1 Ech hr I1.env0 ub hg ht) fun r s' hq => ?_)
  cases r with
  | error er => exact hx σ Ech hW pins H s1 er s' I1 hq
  | ok fl =>
    cases fl with
    | ret u =>
      obtain ⟨v, H', J, r, q⟩ := I1.after hq
      exact ⟨v, H', J, r, hQ _ _ q⟩
    | next => exact False.elim hq
    | brk => exact False.elim hq
    | cont => exact False.elim hq
/-- try: a() / except x as n: suite -/
theorem ps_heard {k i j : Nat} {a x n : Str} {c : Value} {f : Addr} {G : Hp → Prop} {tl : XK → Hp → VK → Prop} {Wout : WX} {suite : List Stmt} {b₀ : Stmt} {p1 p2 p3 np pos pos' : Pos} {ts : Addr → Value → Option Addr → TS} (hex : X.ex = []) (hs : X.stack = X.env :: X.outer) (hf : X.env.frame = some X.env.locals) (hN : X.N.Nodup)
    (hi : X.N[i]? = some n) (hln : X.env.kindOf n = some .local) (hc : Names X x c) (tk : Takes X Wout) (ac : Act (L2.CX X.prog X.w) X.prog X.w X.K X.mg X.base k f X.fs X.H_0 X.s_0.heap G tl) (hr : Room (k + 1) X.A) (hNa : X.N[j]? = some a) (hva : Vis X.env.scope a)
    (hsu : ∀ (a : Addr) (oe : Obj) (cls : Value) (d : Option Addr) (pn : List (Addr × Obj)), Zc cls d oe → (∃ vs, oe.data = .fields vs) → PSs (X.suite a ((a, oe) :: pn)) (b₀ :: suite) (ts a cls d))
    (hd : (a == ("__debug__" : Str)) = false := by decide) (hcd : (a == ("__classdict__" : Str)) = false := by decide) :
    PS X (.Try [.Expr (.Call (.Name a p1) [] [] p2) p3] [.ExceptHandler (some (.Name x np)) (some n) (b₀ :: suite) pos'] [] [] pos)
      (fun D σ H => ∃ E Q1, (∀ cls d H', E cls d H' → wAs X.K c i ts Wout D cls d σ H') ∧ (∀ v H', Q1 v H' → D.nx σ H') ∧ σ[j]? = some (some (.ref f)) ∧ G H ∧ tl E H Q1) :=
  ps_try_as (tb := fun W D σ H => ∃ E Q1, (∀ cls d H', E cls d H' → W cls d σ H') ∧ (∀ v H', Q1 v H' → D.nx σ H') ∧ σ[j]? = some (some (.ref f)) ∧ G H ∧ tl E H Q1) hs hf hN hi hln hc tk
    (fun W pn xe tk' _ => pss_one (ps_expr (pe_actS (X := X.tr pn xe) (i := j) hex ac (fun _ _ h _ _ _ e s' I z => tk' e s' (XE.of_call I h z)) hr hNa hva hd hcd))) hsu
/-- try: a() / except x as n: suite, the exception's context being None -/
theorem ps_heardN {k i j : Nat} {a x n : Str} {c : Value} {f : Addr} {G : Hp → Prop} {tl : XK → Hp → VK → Prop} {Wout : WX} {suite : List Stmt} {b₀ : Stmt} {p1 p2 p3 np pos pos' : Pos} {ts : Addr → Value → Option Addr → TS} (hex : X.ex = []) (hs : X.stack = X.env :: X.outer) (hf : X.env.frame = some X.env.locals) (hN : X.N.Nodup)
    (hi : X.N[i]? = some n) (hln : X.env.kindOf n = some .local) (hc : Names X x c) (tk : L2N.Takes X Wout) (ac : Act (L2N.CX X.prog X.w) X.prog X.w X.K X.mg X.base k f X.fs X.H_0 X.s_0.heap G tl) (hr : Room (k + 1) X.A) (hNa : X.N[j]? = some a) (hva : Vis X.env.scope a)
    (hsu : ∀ (a : Addr) (oe : Obj) (cls : Value) (d : Option Addr) (pn : List (Addr × Obj)), L2N.Zn cls d oe → (∃ vs, oe.data = .fields vs) → PSs (X.suite a ((a, oe) :: pn)) (b₀ :: suite) (ts a cls d))
    (hd : (a == ("__debug__" : Str)) = false := by decide) (hcd : (a == ("__classdict__" : Str)) = false := by decide) :
    PS X (.Try [.Expr (.Call (.Name a p1) [] [] p2) p3] [.ExceptHandler (some (.Name x np)) (some n) (b₀ :: suite) pos'] [] [] pos)
      (fun D σ H => ∃ E Q1, (∀ cls d H', E cls d H' → wAs X.K c i ts Wout D cls d σ H') ∧ (∀ v H', Q1 v H' → D.nx σ H') ∧ σ[j]? = some (some (.ref f)) ∧ G H ∧ tl E H Q1) :=
  L2N.ps_try_as (tb := fun W D σ H => ∃ E Q1, (∀ cls d H', E cls d H' → W cls d σ H') ∧ (∀ v H', Q1 v H' → D.nx σ H') ∧ σ[j]? = some (some (.ref f)) ∧ G H ∧ tl E H Q1) hs hf hN hi hln hc tk
    (fun W pn xe tk' _ => pss_one (ps_expr (pe_actS (X := X.tr pn xe) (i := j) hex ac (fun _ _ h _ _ _ e s' I z => tk' e s' (L2N.XE.of_call I h z)) hr hNa hva hd hcd))) hsu
end
end Hw

set_option Elab.async false
set_option linter.all false
set_option maxRecDepth 100000
set_option maxHeartbeats 4000000
namespace Hw
open PySem PySem.Spec L2 PyProof PyProof.Rows HotX
section
variable {prog : Program} {w : World} {A : Around} {E : Value → Shared → Prop} {s : Shared}
/-- a list's iterator ends while an exception is handled -/
theorem list_end_hot {it l x1 : Addr} {i : Nat} {items : Array Value} {Q : Option Value → Shared → Prop} (hot : HotAt A x1 s.heap) (hne : x1 ≠ it) (hit : s.heap.IsListIter it l i) (hl : s.heap.IsList l items) (hx : items[i]? = none)
    (hQ : ∀ h', (∀ b o, b ≠ it → s.heap.get? b = some o → h'.get? b = some o) → Q none { s with heap := h' }) : wpAny (model prog w) A (pyNext (.ref it)) Q E s := by
  obtain ⟨o, ho, hc, hd⟩ := id hit
  obtain ⟨ol, hol, _, nl, hdl⟩ := hl
  obtain ⟨hh, o1, vs1, h1, d1, c1⟩ := hot
  unfold pyNext
  refine wpAny_bind (wpAny_attempt (wpAny_callSpecial?_slot (name := Str.ofString "__next__") hit.typeIs slot_listiter_next
    (wpAny_call_entry slot_listiter_next hit.typeIs entry_listiter_next ?_ (args_listiter_next _))))
  show wpAny _ _ (field (.ref it) 0 >>= _) _ _ s
  refine wpAny_bind (wpAny_field ho hd (x := .ref l) rfl ?_)
  show wpAny _ _ (if (Value.ref l == Value.none) = true then _ else _) _ _ s
  rw [if_neg (show ¬ ((Value.ref l == Value.none) = true) from Bool.false_ne_true)]
  show wpAny _ _ (field (.ref it) 1 >>= _) _ _ s
  refine wpAny_bind (wpAny_field ho hd (x := .int i 0) rfl ?_)
  show wpAny _ _ (seqItems? (.ref l) >>= _) _ _ s
  refine wpAny_bind (wpAny_seqItems hol hdl ?_)
  simp only [Int.toNat_natCast, hx]
  refine wpAny_bind (wpAny_rule (wpAny_bind (wpAny_setField ho hd (by simp) ?_)))
  show wpAny _ _ (newExc (.type "StopIteration") [] >>= _) _ _ _
  refine wpAny_bind ?_
  simp only [newExc, newTuple]
  refine wpAny_bind (wpAny_newObj_type ?_ (by size_fits))
  refine wpAny_bind (m := firstArgMember _ _) (wpAny_of_eq (a := Value.none) (by first | rfl | (simp only [firstArgMember]; rfl)) ?_)
  refine wpAny_newObj_type ?_ (by size_fits)
  have hu := (Heap.get?_update_other s.heap (Obj.mapFields (·.setIfInBounds 0 Value.none)) (Ne.symm hne)).trans h1
  refine raiseNew_hot ⟨hh, o1, vs1, Heap.get?_push_of_some _ (Heap.get?_push_of_some _ hu), d1, c1⟩ (Nat.ne_of_lt (Heap.lt_size (Heap.get?_push_of_some _ hu))) (Heap.get?_push_size _ rfl) rfl (by first | (simp; done) | (simp; omega) | (simp only [Array.size_append]; simp; omega)) ?_
  refine wpAny_bind (wpAny_isInstance (T := "StopIteration") (b := true) ⟨_, Heap.get?_update_self _ (Heap.get?_push_size _ rfl) rfl, rfl⟩ isSubtype_stop ?_)
  refine wpAny_pure (hQ _ fun b o hb e => ?_)
  have eu := (Heap.get?_update_other s.heap (Obj.mapFields (·.setIfInBounds 0 Value.none)) (Ne.symm hb)).trans e
  rw [Heap.get?_update_other _ _ (Nat.ne_of_gt (Heap.lt_size (Heap.get?_push_of_some _ eu)))]
  exact Heap.get?_push_of_some _ (Heap.get?_push_of_some _ eu)
theorem keys_end_hot {it d x1 : Addr} {i n ep : Nat} {od : Obj} {es : Array DictEntry} {Q : Option Value → Shared → Prop} (hot : HotAt A x1 s.heap) (hne : x1 ≠ it) (hit : s.heap.IsKeyIter it d i n ep) (hod : s.heap.get? d = some od) (hdd : od.data = .dict es ep)
    (hsz : es.size = n) (hge : n ≤ i) (hQ : ∀ h', (∀ b o, b ≠ it → s.heap.get? b = some o → h'.get? b = some o) → Q none { s with heap := h' }) : wpAny (model prog w) A (pyNext (.ref it)) Q E s := by
  obtain ⟨o, ho, hc, hd⟩ := id hit
  obtain ⟨hh, o1, vs1, h1, d1, c1⟩ := hot
  unfold pyNext
  refine wpAny_bind (wpAny_attempt (wpAny_callSpecial?_slot (name := Str.ofString "__next__") hit.typeIs F.slot_dict_keyiterator_next
    (wpAny_call_entry F.slot_dict_keyiterator_next hit.typeIs F.entry_dict_keyiterator_next ?_ (F.args_dict_keyiterator_next_1 _))))
  refine wpAny_bind (wpAny_pure ?_)
  refine wpAny_bind ?_
  refine wpAny_bind ?_
  first | refine wpAny_bind (wpAny_typeNameOfWhole_keyiter hit.typeIs (wpAny_pure ?_)) | refine wpAny_bind (wpAny_typeNameOf_keyiter hit.typeIs (wpAny_pure ?_))
  refine wpAny_bind (wpAny_fieldsOf ho hd ?_)
  have hown : Builtin.Dict_items.ownsTuple "dict_keyiterator" = false := by decide
  simp only [hown, Bool.false_eq_true, if_false]
  show wpAny _ _ (if (Value.ref d == Value.none) = true then _ else _) _ _ s
  rw [if_neg (show ¬ ((Value.ref d == Value.none) = true) from Bool.false_ne_true)]
  refine wpAny_bind (wpAny_pure ?_)
  refine wpAny_bind (wpAny_dictEntries hod hdd ?_)
  rw [if_neg (by rw [hsz]; simp)]
  refine wpAny_bind (wpAny_pure ?_)
  refine wpAny_bind (wpAny_dictEpoch hod hdd ?_)
  rw [if_neg (by simp)]
  refine wpAny_pure ?_
  have hge' : es.size ≤ i := by rw [hsz]; exact hge
  simp only [show ¬ ((i : Int) < 0) from by omega, if_false, Int.toNat_natCast, Array.getElem?_eq_none hge']
  refine wpAny_bind ?_
  first | refine wpAny_bind (wpAny_typeNameOfWhole_keyiter hit.typeIs (wpAny_pure ?_)) | refine wpAny_bind (wpAny_typeNameOf_keyiter hit.typeIs (wpAny_pure ?_))
  show wpAny _ _ (setField (.ref it) 0 .none >>= _) _ _ s
  refine wpAny_bind (wpAny_setField ho hd (by simp) ?_)
  show wpAny _ _ (newExc (.type "StopIteration") [] >>= _) _ _ _
  refine wpAny_bind ?_
  simp only [newExc, newTuple]
  refine wpAny_bind (wpAny_newObj_type ?_ (by size_fits))
  refine wpAny_bind (m := firstArgMember _ _) (wpAny_of_eq (a := Value.none) (by first | rfl | (simp only [firstArgMember]; rfl)) ?_)
  refine wpAny_newObj_type ?_ (by size_fits)
  have hu := (Heap.get?_update_other s.heap (Obj.mapFields (·.setIfInBounds 0 Value.none)) (Ne.symm hne)).trans h1
  refine raiseNew_hot ⟨hh, o1, vs1, Heap.get?_push_of_some _ (Heap.get?_push_of_some _ hu), d1, c1⟩ (Nat.ne_of_lt (Heap.lt_size (Heap.get?_push_of_some _ hu))) (Heap.get?_push_size _ rfl) rfl (by first | (simp; done) | (simp; omega) | (simp only [Array.size_append]; simp; omega)) ?_
  refine wpAny_bind (wpAny_isInstance (T := "StopIteration") (b := true) ⟨_, Heap.get?_update_self _ (Heap.get?_push_size _ rfl) rfl, rfl⟩ isSubtype_stop ?_)
  refine wpAny_pure (hQ _ fun b o hb e => ?_)
  have eu := (Heap.get?_update_other s.heap (Obj.mapFields (·.setIfInBounds 0 Value.none)) (Ne.symm hb)).trans e
  rw [Heap.get?_update_other _ _ (Nat.ne_of_gt (Heap.lt_size (Heap.get?_push_of_some _ eu)))]
  exact Heap.get?_push_of_some _ (Heap.get?_push_of_some _ eu)
end
/-- one turn of an iterator, also while an exception is handled -/
structure TurnW (P : Program) (w : World) (K : PySem.W.Frag) (tg : Expr) (J : It) (fp : List Addr) (it : Addr) (tn : Nat → Heap → Prop) : Prop where
  mem : it ∈ fp
  obj : ∀ i h, tn i h → ∀ b ∈ fp, ∃ o, h.get? b = some o ∧ ∀ v, o.data ≠ .cell v
  keep : ∀ i h h', tn i h → (∀ b ∈ fp, ∀ o, h.get? b = some o → h'.get? b = some o) → tn i h'
  item : ∀ (X : Cx), X.prog = P → X.w = w → X.K = K → ∀ (i : Nat) (pins : List (Addr × Obj)) (s : Shared) (σ : L2.St) (H : Hp) (E : Value → Shared → Prop), Inv X pins σ H s → (∀ b ∈ fp, FpOk X pins H b) → tn i s.heap → J.go i H →
    wpAny (model P w) X.A (pyNext (.ref it)) (fun r s1 => ∃ u, r = some u ∧
      wpAny (model P w) X.A (letOwnedTupleGo tg (.ref it) u) (fun _ s2 => ∃ x H', Inv X pins σ H' s2 ∧ RelV x u ∧ J.yld i H x H' ∧ tn (i + 1) s2.heap ∧ ∀ b ∈ fp, H' b = none) E s1) E s
  done : ∀ (X : Cx), X.prog = P → X.w = w → X.K = K → ∀ (x1 : Addr) (i : Nat) (pins : List (Addr × Obj)) (s : Shared) (σ : L2.St) (H : Hp) (E : Value → Shared → Prop), Inv X pins σ H s → HotAt X.A x1 s.heap → (∀ b ∈ fp, x1 ≠ b) → (∀ b ∈ fp, FpOk X pins H b) → tn i s.heap → J.stop i H →
    wpAny (model P w) X.A (pyNext (.ref it)) (fun r s1 => r = none ∧ Inv X pins σ H s1) E s
  self : ∀ (A : Around) (i : Nat) (s : Shared) (Q : Value → Shared → Prop) (E : Value → Shared → Prop), tn i s.heap → Q (.ref it) s → wpAny (model P w) A (pyIter (.ref it)) Q E s
theorem turn_listW {P : Program} {w : World} {K : PySem.W.Frag} {tg : Expr} (a it : Addr) : TurnW P w K tg (Itl K a) [it] it (fun i h => h.IsListIter it a i) where
  mem := by simp
  obj := fun i h st b hb => by
    have e : b = it := by simpa using hb
    subst e
    obtain ⟨o, e, c, d⟩ := st
    exact ⟨o, e, fun v z => by rw [d] at z; cases z⟩
  keep := fun i h h' st k => st.at fun o e => k it (by simp) o e
  item := by
    intro X hP hw hK i pins s σ H E I hf st hg
    subst hP hw hK
    obtain ⟨xs, x, hq, hx⟩ := hg
    obtain ⟨its, rv, p, hz⟩ := I.list hq
    obtain ⟨u, hu, ru⟩ := rv.get hx
    obtain ⟨f0, f1, f2, f3, f4, f5⟩ := hf it (by simp)
    refine wpAny_pyNext_list_item st p.isList (x := u) (by simpa using hu) fun h' st' sb => ?_
    have I1 : Inv X pins σ H { s with heap := h' } := I.turned (t' := s.toks) (fun b o hb e => (sb.2 b hb).trans e) f0 f1 f3 f4 f5
    obtain ⟨o, e, c, d⟩ := id st'
    exact ⟨u, rfl, go_of (s := { s with heap := h' }) e c d (by decide) ⟨x, H, I1, ru, ⟨rfl, fun ys hy => by rw [I.list_inj hy hq]; exact hx⟩, st', fun b hb => (hf b hb).1⟩⟩
  done := by
    intro X hP hw hK x1 i pins s σ H E I hot hne hf st hg
    subst hP hw hK
    obtain ⟨xs, hq, hx⟩ := hg
    obtain ⟨its, rv, p, hz⟩ := I.list hq
    obtain ⟨f0, f1, f2, f3, f4, f5⟩ := hf it (by simp)
    have hl := rv.length
    exact list_end_hot hot (hne it (by simp)) st p.isList (by simp; omega) fun h' eb => ⟨rfl, I.turned (t' := s.toks) (fun b o hb e => eb b o hb e) f0 f1 f3 f4 f5⟩
  self := fun _ _ _ _ _ st h => wpAny_pyIter_listiter st h
section
variable {P : Program} {w : World} {K : PySem.W.Frag} {tg : Expr} {d : Addr} {o : Obj} {es : Array DictEntry} {ep : Nat}
theorem turn_keysW {kvs : List (Key × V)} (it : Addr) (hod : o.data = .dict es ep) : TurnW P w K tg (Itk d o kvs) [it] it (fun i h => h.IsKeyIter it d i kvs.length ep) where
  mem := by simp
  obj := fun i h st b hb => by
    have e : b = it := by simpa using hb
    subst e
    obtain ⟨oi, e, c, dd⟩ := st
    exact ⟨oi, e, fun v z => by rw [dd] at z; cases z⟩
  keep := fun i h h' st k => st.at fun oi e => k it (by simp) oi e
  item := by
    intro X hP hw hK i pins s σ H E I hf st hg
    subst hP hw hK
    obtain ⟨hd, hi⟩ := hg
    obtain ⟨f0, f1, f2, f3, f4, f5⟩ := hf it (by simp)
    obtain ⟨hs, hgd, hx, es', ep', vs, hdt, hsz, kv, hm⟩ := I.frzK hd
    obtain ⟨rfl, rfl⟩ := dict_ep hod hdt
    obtain ⟨⟨k, v⟩, hkv⟩ : ∃ p, kvs[i]? = some p := ⟨kvs[i], List.getElem?_eq_getElem hi⟩
    obtain ⟨u, hu, ru⟩ := kv_get kv hkv
    have hl : kvs.length = vs.length := Paired.length kv
    rw [hl] at st
    refine wpAny_pyNext_dict_item st hm hu fun key h' hkey st' sb => ?_
    have I1 : Inv X pins σ H { s with heap := h' } := I.turned (t' := s.toks) (fun b ob hb e => (sb.2 b hb).trans e) f0 f1 f3 f4 f5
    obtain ⟨oi, e, c, dd⟩ := id st'
    refine ⟨key, rfl, go_of (s := { s with heap := h' }) e c dd (by decide) ⟨kV k, H, I1, relV_key (show keyIs k key = true from hkey), ⟨rfl, k, v, hkv, rfl⟩, ?_, fun b hb => (hf b hb).1⟩⟩
    show h'.IsKeyIter it d (i + 1) kvs.length _
    rw [hl]
    exact st'
  done := by
    intro X hP hw hK x1 i pins s σ H E I hot hne hf st hg
    subst hP hw hK
    obtain ⟨hd, hi⟩ := hg
    obtain ⟨f0, f1, f2, f3, f4, f5⟩ := hf it (by simp)
    obtain ⟨hs, hgd, hx, es', ep', vs, hdt, hsz, kv, hm⟩ := I.frzK hd
    obtain ⟨rfl, rfl⟩ := dict_ep hod hdt
    exact keys_end_hot hot (hne it (by simp)) st hgd hdt hsz hi fun h' eb => ⟨rfl, I.turned (t' := s.toks) (fun b ob hb e => eb b ob hb e) f0 f1 f3 f4 f5⟩
  self := fun A i s Q E st h => wpAny_pyIter_keyiter st h
end
end Hw

set_option Elab.async false
set_option linter.all false
set_option maxRecDepth 100000
set_option maxHeartbeats 4000000
namespace Hw
open PySem PySem.Spec L2 PyProof PyProof.Rows HotX
def PIEW (X : Cx) (pins : List (Addr × Obj)) (σ : L2.St) (tg : Expr) (R : It → Hp → Prop) (itv : Value) (s2 : Shared) : Prop :=
  ∃ (it : Addr) (fp : List Addr) (tn : Nat → Heap → Prop) (J : It) (H' : Hp), itv = .ref it ∧ Inv X pins σ H' s2 ∧ TurnW X.prog X.w X.K tg J fp it tn ∧ tn 0 s2.heap ∧ (∀ b ∈ fp, FpOk X pins H' b) ∧ R J H'
/-- what is walked, also while an exception is handled -/
structure PIW (X : Cx) (tg iter : Expr) (wi : TI) : Prop where
  run : ∀ (pins : List (Addr × Obj)) (s : Shared) (σ : L2.St) (H : Hp) (R : It → Hp → Prop), Inv X pins σ H s → wi σ H R →
    wpAny (model X.prog X.w) X.A (eval iter X.env) (fun v s1 => wpAny (model X.prog X.w) X.A (pyIter v) (PIEW X pins σ tg R) X.xe s1) X.xe s
/-- the keys of a locked dict -/
def iKeysW (td : TE) : TI := fun σ H R => td σ H fun x H1 => ∃ d o kvs, x = .ref d ∧ H1 d = some (.frz o (.dK kvs)) ∧ R (Itk d o kvs) H1
section
variable {X : Cx} {tg e : Expr} {td : TE}
theorem pi_listW {l : Expr} {tl : TE} (hl : PE X l tl) : PIW X tg l (iList X.K tl) := by
  refine ⟨fun pins s σ H R I h => ?_⟩
  refine thn (hl.run pins s σ H _ I h) fun v s1 ⟨x, H1, I1, r1, q1⟩ => ?_
  obtain ⟨a, e, ⟨xs, hq⟩, q⟩ := q1
  subst e
  cases r1
  obtain ⟨its, rv, p, hz⟩ := I1.list hq
  refine wpAny_pyIter_list p.isList ?_
  refine ⟨s1.heap.objs.size, [s1.heap.objs.size], _, _, H1, rfl, I1.kept (t' := s1.toks) fun b o e => Heap.get?_push_of_some _ e, turn_listW a _, ⟨_, Heap.get?_push_size _ rfl, rfl, rfl⟩, fun b hb => ?_, q⟩
  have e : b = s1.heap.objs.size := by simpa using hb
  subst e
  exact I1.fpOk (Nat.le_refl _) (I1.hok.fresh (Nat.le_refl _))
theorem pi_keysW (he : PE X e td) : PIW X tg e (iKeysW td) := by
  refine ⟨fun pins s σ H R I h => ?_⟩
  refine thn (he.run pins s σ H _ I h) fun u s1 ⟨x, H1, I1, rx, d, o, kvs, ex, hd, q⟩ => ?_
  subst ex
  obtain rfl : u = Value.ref d := rx
  obtain ⟨hs, hgd, hx, es, ep, vs, hdt, hsz, kv, hm⟩ := I1.frzK hd
  refine iter_keys hs hgd hx hdt ?_
  refine ⟨s1.heap.objs.size, [s1.heap.objs.size], _, _, H1, rfl, I1.kept (t' := s1.toks) fun b o e => Heap.get?_push_of_some _ e, turn_keysW _ hdt, ⟨_, Heap.get?_push_size _ rfl, rfl, ?_⟩, fun b hb => ?_, q⟩
  · rw [hsz] <;> rfl
  · have e : b = s1.heap.objs.size := by simpa using hb
    subst e
    exact I1.fpOk (Nat.le_refl _) (I1.hok.fresh (Nat.le_refl _))
end
section
variable {X : Cx}
theorem lc_coreW {pins : List (Addr × Obj)} {s : Shared} {σ : L2.St} {H : Hp} {Q : VK} {elt tg iter : Expr} {ifs : List Expr} {scope : Scope} {own : List (Str × Nat)} {pos pos' : Pos} {wi : TI} {g : TG} {tt : TT} {te : TE} {use : Option (Value → Sem Unit)} {Qf : Value → Shared → Prop}
    (hc : L2H.HotC X) (hN : X.N.Nodup) (I : Inv X pins σ H s) (hi : PIW X tg iter wi) (ok : BlkOk X.N X.env.scope scope own)
    (hg : ∀ (s : Shared) (H : Hp) (C : Addr) (cl : List (Str × Addr)) (fp : List Addr), PG (X.blk s H scope (compEnvC scope cl C X.env) fp) tg g) (ht : ∀ (s : Shared) (H : Hp) (C : Addr) (cl : List (Str × Addr)) (fp : List Addr), PTs (X.blk s H scope (compEnvC scope cl C X.env) fp) ifs tt)
    (he : ∀ (s : Shared) (H : Hp) (C : Addr) (cl : List (Str × Addr)) (fp : List Addr), PE (X.blk s H scope (compEnvC scope cl C X.env) fp) elt te) (hs : ∀ x, foldedSetIterable iter X.env x = pure x)
    (h : tLc wi g tt te (own.map (·.2)) σ H Q)
    (hRR : ∀ D C s' m H', Inv X pins σ H' s' → Q (.ref D) H' → s'.heap.Ns C m → FpOk X pins H' C → compPost (model X.prog X.w) X.A X.xe use Qf (.ref D) C (.ok .next) s') :
    wpAny (model X.prog X.w) X.A (comprehension (.ListComp elt [⟨tg, iter, ifs, 0⟩] scope pos) scope X.env pos' (newList []) false (eval iter X.env) use) Qf X.xe s := by
  have hfree : ∀ y ∈ scope.names, y.2 = .free → ∃ c, X.env.cells.lookup y.1 = some c := fun y hy e => by
    rcases ok.free y hy e with k | k
    · exact I.ok.has _ (.inl k)
    · exact I.ok.has _ (.inr k)
  refine wpAny_comprehension_free (use := use) rfl hs (closure_ok hfree) ok.kind (fun y hy e => by rw [ok.uniq y hy, e])
    (thn (hi.run pins s σ H _ I h) fun xv s1 hx => thn hx fun itv s2 h2 => ?_)
  obtain ⟨it, fp, tn, J, H2, e, I2, T, st2, f2, q⟩ := h2
  subst e
  refine wpAny_newObj_type (newEnv_comp ?_) (by show 0 ≤ sizeLine; decide)
  generalize hD : s2.heap.objs.size = D
  have hDn : H2 D = none := I2.hok.fresh (Nat.le_of_eq hD)
  obtain ⟨W, ⟨m0, w0⟩, turn⟩ := q D hDn
  -- the new list
  generalize hs3 : ({ s2 with heap := s2.heap.push { cls := .type "list", data := .seq ([] : List Value).toArray } } : Shared) = s3
  have I3 : Inv X pins σ (upd H2 D (.lst [])) s3 := by
    rw [← hs3]
    refine I2.laid (t' := s2.toks) (fun b o e => Heap.get?_push_of_some _ e) (Nat.le_of_eq hD) ⟨Nat.zero_le _, [], 0, .nil, ?_⟩
    rw [← hD]
    exact Heap.get?_push_size _ rfl
  have h3 : s3.heap = s2.heap.push { cls := .type "list", data := .seq ([] : List Value).toArray } := by rw [← hs3]
  have sz : ∀ b ∈ fp, b < s2.heap.objs.size := fun b hb => by
    obtain ⟨o, e, _⟩ := T.obj _ _ st2 b hb
    exact Heap.lt_size e
  have f3 : ∀ b ∈ fp, FpOk X pins (upd H2 D (.lst [])) b ∧ b < s3.heap.objs.size := fun b hb => by
    have hlt := sz b hb
    refine ⟨⟨?_, (f2 b hb).2⟩, by rw [h3, Heap.size_push]; exact Nat.lt_succ_of_lt hlt⟩
    rw [upd_ne (by rw [← hD]; exact Nat.ne_of_lt hlt)]
    exact (f2 b hb).1
  have st3 : tn 0 s3.heap := T.keep _ _ _ st2 fun b _ o e => by rw [h3]; exact Heap.get?_push_of_some _ e
  have I4 := block_start I3 ok hN f3
  have pg := hg s3 (upd H2 D (.lst [])) s3.heap.objs.size (cellsFrom (s3.heap.objs.size + 1) scope.names (cloFrom X.env.cells scope.names [])) fp
  have pt := ht s3 (upd H2 D (.lst [])) s3.heap.objs.size (cellsFrom (s3.heap.objs.size + 1) scope.names (cloFrom X.env.cells scope.names [])) fp
  have pe := he s3 (upd H2 D (.lst [])) s3.heap.objs.size (cellsFrom (s3.heap.objs.size + 1) scope.names (cloFrom X.env.cells scope.names [])) fp
  show codeAny _ _ (.compStart (.ListComp elt [⟨tg, iter, ifs, 0⟩] scope pos) 0 (.ref it) (.ref D) (compEnvC scope (cellsFrom (s3.heap.objs.size + 1) scope.names (cloFrom X.env.cells scope.names [])) s3.heap.objs.size X.env)) (compPost (model X.prog X.w) X.A X.xe use Qf (.ref D) s3.heap.objs.size) { s3 with heap := pushCells (s3.heap.push { cls := .type "dict", data := .dict #[] }) scope.names }
  have nfp : ∀ b ∈ fp, (upd H2 D (.lst [])) b = none := fun b hb => (f3 b hb).1.1
  generalize hce : compEnvC scope (cellsFrom (s3.heap.objs.size + 1) scope.names (cloFrom X.env.cells scope.names [])) s3.heap.objs.size X.env = ce at I4 pg pt pe ⊢
  obtain ⟨p, hot1, hp⟩ := hc
  have cL : ce.locals = s3.heap.objs.size := by subst hce; rfl
  generalize hH3 : upd H2 D (.lst []) = H3 at I3 I4 pg pt pe w0 nfp f3
  generalize hs4 : ({ s3 with heap := pushCells (s3.heap.push { cls := .type "dict", data := .dict #[] }) scope.names } : Shared) = s4 at I4 ⊢
  have I4 : Inv (X.blk s3 H3 scope ce fp) [p] (wipe σ (own.map (·.2))) H3 s4 := I4.pins_of fun q hq => by
    have eq : q = p := List.mem_singleton.mp hq
    subst eq
    obtain ⟨g, n, nl, nf, nc⟩ := I3.pin q (List.mem_append_left _ hp)
    refine ⟨by rw [← hs4]; exact pushCells_keeps _ _ _ _ (Heap.get?_push_of_some _ g), n, fun z => ?_, fun z => ?_, nc⟩
    · have lt := Heap.lt_size g
      rw [z] at lt
      exact absurd (show ce.locals < s3.heap.objs.size from lt) (by rw [cL]; exact Nat.lt_irrefl _)
    · rcases List.mem_cons.mp (I3.stkSub _ z) with z | z
      · exact nl z
      · exact nf z
  have hot : ∀ {σ' : L2.St} {H' : Hp} {s' : Shared}, Inv (X.blk s3 H3 scope ce fp) [p] σ' H' s' → HotAt X.A p.1 s'.heap := fun {σ' H' s'} I' => by
    obtain ⟨hh, vs, d, c⟩ := hot1
    exact ⟨hh, p.2, vs, (I'.pin p (by simp)).1, d, c⟩
  have st4 : tn 0 s4.heap := T.keep _ _ _ st3 fun b _ o e => by rw [← hs4]; exact pushCells_keeps _ _ _ _ (Heap.get?_push_of_some _ e)
  have stat : ∀ {σ' : L2.St} {H' : Hp} {s' : Shared}, Inv (X.blk s3 H3 scope ce fp) [p] σ' H' s' → (∀ b ∈ fp, H' b = none) → ∀ b ∈ fp, FpOk (X.blk s3 H3 scope ce fp) [p] H' b := fun {σ' H' s'} I' hn b hb =>
    ⟨hn b hb, (I'.ok.exf b hb).1, I'.ok.exfs b hb, .inl hb, fun x c e => (I'.ok.exf b hb).2 x c e, fun q hq => by
      have e : q = p := List.mem_singleton.mp hq
      rw [e]
      exact (f3 b hb).1.2.2.2.2.2 p (List.mem_append_left _ hp)⟩
  have loop : codeAny (model X.prog X.w) X.A (.compLoop (.ListComp elt [⟨tg, iter, ifs, 0⟩] scope pos) 0 (.ref it) (.ref D) ce) (compPost (model X.prog X.w) X.A X.xe use Qf (.ref D) s3.heap.objs.size) s4 := by
    refine compLoop_any (fun n s' => ∃ i H', Inv (X.blk s3 H3 scope ce fp) [p] (wipe σ (own.map (·.2))) H' s' ∧ tn i s'.heap ∧ (∀ b ∈ fp, H' b = none) ∧ W i n H') ?_ m0 ⟨0, H3, I4, st4, nfp, w0⟩
    rintro n s5 ⟨i, H5, I5, st5, n5, w5⟩
    rcases turn i n H5 w5 with ⟨stop, qq⟩ | ⟨go, Nx, hNx, step⟩
    · have td := T.done (X.blk s3 H3 scope ce fp) rfl rfl rfl p.1 i [p] s5 _ H5 (fun _ _ => False) I5 (hot I5) (fun b hb => (f3 b hb).1.2.2.2.2.2 p (List.mem_append_left _ hp)) (stat I5 n5) st5 stop
      refine thnF td fun r s6 ⟨hr, I6⟩ => ?_
      subst hr
      -- back in the def's context
      have I7 : Inv X pins σ H5 s6 := I3.call' (ch := fp) I6.os I6.base I6.hok I6.bare fun b hb => ⟨(f3 b hb).1.2.2.2.1, (f3 b hb).1.2.1, (f3 b hb).1.2.2.2.2.1, (f3 b hb).1.2.2.2.2.2⟩
      have nC : H5 s3.heap.objs.size = none := by
        have z : H5 ce.locals = none := I6.free
        rw [cL] at z
        exact z
      obtain ⟨m, hn, _⟩ := I6.loc
      have hn : s6.heap.Ns ce.locals m := hn
      rw [cL] at hn
      exact hRR D s3.heap.objs.size s6 m H5 I7 qq hn (I3.fpOk (Nat.le_refl _) nC)
    · have ti := T.item (X.blk s3 H3 scope ce fp) rfl rfl rfl i [p] s5 _ H5 (fun _ _ => False) I5 (stat I5 n5) st5 go
      refine thnF ti fun r s6 ⟨u, hr, h6⟩ => ?_
      subst hr
      refine thnF h6 fun _ s7 ⟨x, H7, I7, r7, y7, st7, n7⟩ => ?_
      have I7' := I7.pinned (stat I7 n7) (T.obj _ _ st7)
      refine thnF (pg.run _ s7 _ H7 x u _ I7' r7 (step x H7 y7)) fun _ s8 ⟨σ8, H8, I8, hw8, q8⟩ => ?_
      refine thnF (pt.run _ s8 σ8 H8 _ I8 q8) fun b s9 ⟨H9, I9, q9⟩ => ?_
      -- the turn's end
      have fin : ∀ {s' : Shared} {H' : Hp}, Inv (X.blk s3 H3 scope ce fp) ([p] ++ pinsAt fp s7.heap) σ8 H' s' → Nx H' → ∃ m, m < n ∧ ∃ i H', Inv (X.blk s3 H3 scope ce fp) [p] (wipe σ (own.map (·.2))) H' s' ∧ tn i s'.heap ∧ (∀ b ∈ fp, H' b = none) ∧ W i m H' := fun {s' H'} I' nx => by
        obtain ⟨m', hm, w'⟩ := hNx H' nx
        have pin' : ∀ b ∈ fp, ∀ o, s7.heap.get? b = some o → s'.heap.get? b = some o ∧ H' b = none := fun b hb o e =>
          let z := I'.pin (b, o) (List.mem_append_right _ (List.mem_append_right _ (mem_pinsAt hb e)))
          ⟨z.1, z.2.1⟩
        have hl : (wipe σ (own.map (·.2))).length = σ8.length := by rw [← hw8, wipe_length]
        refine ⟨m', hm, i + 1, H', (I'.unpinned (pins := [p])).weak hl (fun j v e => ?_), T.keep _ _ _ st7 fun b hb o e => (pin' b hb o e).1, fun b hb => ?_, w'⟩
        · rw [← hw8] at e
          exact (wipe_some e).1
        · obtain ⟨o, e, _⟩ := T.obj _ _ st7 b hb
          exact (pin' b hb o e).2
      cases b with
      | false =>
        simp only [Bool.false_eq_true, if_false] at q9 ⊢
        exact fin I9 q9
      | true =>
        simp only [if_true] at q9 ⊢
        refine thnF (pe.run _ s9 σ8 H9 _ I9 q9) fun z s10 ⟨yv, H10, I10, r10, acc, hD10, hz10, nx⟩ => ?_
        exact app_ok (X := X.blk s3 H3 scope ce fp) I10 hD10 hz10 r10 fun s11 I11 => fin I11 nx
  exact codeAny_compStart_list loop (T.self X.A 0 _ _ _ st4 loop)
theorem pe_lcW {elt tg iter : Expr} {ifs : List Expr} {scope : Scope} {own : List (Str × Nat)} {pos : Pos} {wi : TI} {g : TG} {tt : TT} {te : TE} (hc : L2H.HotC X) (hN : X.N.Nodup) (hi : PIW X tg iter wi) (ok : BlkOk X.N X.env.scope scope own)
    (hg : ∀ (s : Shared) (H : Hp) (C : Addr) (cl : List (Str × Addr)) (fp : List Addr), PG (X.blk s H scope (compEnvC scope cl C X.env) fp) tg g) (ht : ∀ (s : Shared) (H : Hp) (C : Addr) (cl : List (Str × Addr)) (fp : List Addr), PTs (X.blk s H scope (compEnvC scope cl C X.env) fp) ifs tt)
    (he : ∀ (s : Shared) (H : Hp) (C : Addr) (cl : List (Str × Addr)) (fp : List Addr), PE (X.blk s H scope (compEnvC scope cl C X.env) fp) elt te) (hs : ∀ x, foldedSetIterable iter X.env x = pure x := by intro _; rfl) :
    PE X (.ListComp elt [⟨tg, iter, ifs, 0⟩] scope pos) (tLc wi g tt te (own.map (·.2))) := by
  refine ⟨fun pins s σ H Q I h => ?_⟩
  rw [eval_ListComp]
  refine lc_coreW hc hN I hi ok hg ht he hs h fun D C s' m H' I' q hn f => ⟨m, hn, fun h'' sb => ?_⟩
  obtain ⟨f0, f1, f2, f3, f4, f5⟩ := f
  exact ⟨.ref D, H', I'.turned (t' := s'.toks) (fun b o hb e => (sb.2 b hb).trans e) f0 f1 f3 f4 f5, rfl, q⟩
end
end Hw

set_option Elab.async false
set_option linter.all false
set_option maxRecDepth 100000
set_option maxHeartbeats 4000000
namespace Hw
open PySem PySem.Spec L2 PyProof PyProof.Rows
/-- within an except suite the exception is handled -/
theorem hot_suite {X : Cx} {a : Addr} {oe : Obj} {pn : List (Addr × Obj)} {cls : Value} {d : Option Addr} (hz : L2N.Zn cls d oe) (hf : ∃ vs, oe.data = .fields vs) : L2H.HotC (X.suite a ((a, oe) :: pn)) := by
  obtain ⟨vs, e⟩ := hf
  exact ⟨(a, oe), ⟨rfl, vs, e, hz.2.2 vs e⟩, List.mem_cons_self⟩
section
open PySem.W PySem.Calls
variable {prog : Program} {w : World} {A : Around} {E : Value → Shared → Prop} {s : Shared} {K : Frag} {x D : Addr} {ox : Obj}
/-- the class of a caught error that has fields -/
theorem classOf_caught {od : Obj} {Q : Option Value → Shared → Prop} (hga : findIn K (.ref D) "__getattribute__" = some (some (.builtin "BaseException.__getattribute__"))) (hgt : findIn K (.ref D) "__getattr__" = some none) (hsub : subIn K (.ref D) (.type "BaseException") = some true)
    (hdct : hasDictIn K D = true) (ha : findIn K (.ref D) "__class__" = some (some (.builtin "object.__class__")))
    (hn : specialIn K (.builtin "object.__class__") "__get__" = some (some (.builtin "getset_descriptor.__get__"))) (htk : takesIn K (.builtin "object.__class__") = some true) (hm : mroIn K D (.type "object") = some true)
    (X : K.In s.heap) (I : InstAt s.heap x ox D (some od)) (h : Q (some (.ref D)) { s with toks := s.toks + 1 }) : wpAny (model prog w) A (getAttr? (.ref x) "__class__") Q E s := by
  have hf : findObj K D (some od) "__class__" = some (.bind (.builtin "getset_descriptor.__get__") (.builtin "object.__class__")) := findObj_data (by obtain ⟨cd, hc, _⟩ := any_some hdct; rw [hc]; rfl) ha hn htk
  obtain ⟨hp, g, d, t, os⟩ := s
  have L0 := I.type (M := model prog w)
  have L1 := looks_findIn (M := model prog w) X hga
  have L2 := looks_findIn (M := model prog w) X hgt
  have L3 := looks_find (M := model prog w) X I hf
  have sub : Looks (model prog w) hp (isInstance (.ref x) (.type "BaseException")) true := L0.andThen (looks_subIn X hsub)
  have hx0 : (false && onTheHeap (Value.builtin "BaseException.__getattribute__")) = false := rfl
  have hx2 : (Value.builtin "BaseException.__getattribute__" == Value.builtin "object.__getattribute__") = false := by decide +kernel
  have hx1 : (onTheHeap (Value.ref D) && Value.builtin "BaseException.__getattribute__" == Value.builtin "object.__getattribute__") = false := by rw [hx2]; rfl
  unfold getAttr? getAttrBy? getAttrBy
  refine wpAny_bind (wpAny_mkText (wpAny_bind (wpAny_attempt (wpAny_holding (wpAny_bind (L0.at (wpAny_bind (L1.at ?_))))))))
  show wpAny _ _ (if (onTheHeap (Value.ref D) && Value.builtin "BaseException.__getattribute__" == Value.builtin "object.__getattribute__") = true then _ else _) _ _ _
  rw [hx1, if_neg Bool.false_ne_true]
  unfold getAttrByItsOwn hookBefore
  refine wpAny_bind ?_
  rw [if_pos (show onTheHeap (Value.ref D) = true from rfl)]
  refine L2.at ?_
  refine wpAny_bind (wpAny_attempt (wpAny_holding ?_))
  unfold callGetattribute
  rw [hx0, if_neg Bool.false_ne_true]
  unfold boundAndCalled
  rw [PySem.F.excAttr_ValueError.ga.bind (.ref x)]
  refine wpAny_bind (wpAny_pure ?_)
  show wpAny _ _ (call (.builtin "BaseException.__getattribute__") [.ref x, .str "__class__" t]) _ _ _
  refine wpAny_call (codeAny_call_builtin PySem.F.excAttr_ValueError.ga.plain PySem.F.entry_bexc_ga ?_)
  refine @check_slot (model prog w) _ _ ⟨hp, g, d, t + 1, os⟩ "BaseException.__getattribute__" "BaseException" "__getattribute__" (.ref x) [.str "__class__" t] [] _ (by decide +kernel) (by decide +kernel) sub (PySem.F.args_bexc_ga (.ref x) (.str "__class__" t)) ?_
  unfold Builtin.«object.__getattribute__»
  refine wpAny_bind (wpAny_of_eq (a := ((Value.ref x : Value), [Value.str "__class__" t])) (by first | rfl | (simp only [slotArgs]; rfl)) ?_)
  refine wpAny_bind (wpAny_pure (wpAny_bind (L0.at (wpAny_bind (L3.at ?_)))))
  show wpAny _ _ (holding [Value.builtin "object.__class__"] (call (.builtin "getset_descriptor.__get__") [.builtin "object.__class__", .ref x, .ref D]) >>= ret) _ _ _
  refine wpAny_bind (wpAny_holding (wpAny_call (class_get (s := ⟨hp, g, d, t + 1, os⟩) (ox := ox) (od := some od) X I hm ?_)))
  refine wpAny_pure ?_
  show wpAny _ _ (handedOut (.ref D)) _ _ _
  rw [handedOut_of (v := .ref D) rfl]
  first
    | exact wpAny_pure (wpAny_pure h)
    | exact wpAny_pure h
    | exact wpAny_pure (wpAny_bind (wpAny_pure (wpAny_pure h)))
/-- what isinstance asks of it -/
theorem kitx_caught (C : ExcC K D) {od : Obj} : KitX K (.ref x) (.ref D) (fun h => InstAt h x ox D (some od)) where
  ty := fun _ _ _ I => I.type
  it := fun M h X _ => by
    obtain ⟨cd, hc, _⟩ := any_some C.hd
    unfold clsIn at hc
    split at hc
    · rename_i _ _ _ _ ho
      exact fun A Q E s k q => by
        unfold isType loadHead
        exact wpAny_bind (wpAny_loadPart (k _ _ (X _ _ ho)) (wpAny_pure q))
    · cases hc
  ne := fun h tp dd its n sl X htp => (handS_kitx_exc (x := x) (ox := ox) C.hg C.hk C.hs C.hd C.ha C.hn C.ht C.hm).ne h tp dd its n sl X htp
  ca := fun X I k => classOf_caught C.hg C.hk C.hs C.hd C.ha C.hn C.ht C.hm X I k
end
/-- isinstance(e, c), e the caught error with the fields at dd -/
def rIsD (K : PySem.W.Frag) (D a dd : Addr) : List V → Hp → VK → Prop := fun xs H Q => ∃ (c : V) (cv : Value) (b : Bool) (fs : List (Str × V)), xs = [.ref a, c] ∧ (∀ u, RelV c u → u = cv) ∧ H dd = some (.xd fs) ∧ PySem.W.kitOne K (.ref D) cv = some b ∧ Q (.bl b) H
theorem call_isD {X : Cx} {a D dd : Addr} {oe : Obj} {pn : List (Addr × Obj)} (C : ExcC X.K D) (hz : Zc (.ref D) (some dd) oe) (hf : ∃ vs, oe.data = .fields vs) : CallR (X.suite a ((a, oe) :: pn)) (.builtin "isinstance") (rIsD X.K D a dd) := by
  intro pins s σ H xs us Q I r h
  obtain ⟨c, cv, b, fs, rfl, hcv, hdd, e, q⟩ := h
  cases r with
  | cons rx rr =>
    cases rr with
    | cons rt rr =>
      cases rr
      cases rx
      have ec := hcv _ rt
      subst ec
      have hget := (I.pin (a, oe) (List.mem_append_left _ List.mem_cons_self)).1
      obtain ⟨vs, hv⟩ := hf
      have hx : ObjOk X.prog X.w H s.heap dd (.xd fs) := I.hok dd _ hdd
      obtain ⟨mA, hns, _⟩ := hx
      obtain ⟨od, ho, _⟩ := lookIn_ns hns
      have J : PySem.W.InstAt s.heap a oe D (some od) := ⟨hget, hz.1, by unfold PySem.W.notCls; rw [hv] <;> rfl, by rw [hz.2]; exact ho⟩
      exact PySem.W.kia_one (kitx_caught C) I.kIn J e (fun z => nomatch z) fun tk => ⟨.bl b, H, I.kept (t' := tk) fun _ _ z => z, rfl, q⟩
/-- isinstance(caught, c): the name of the except clause, a class of the module -/
theorem pe_isD {X : Cx} {a D C dd : Addr} {oe : Obj} {pn : List (Addr × Obj)} {i : Nat} {n c : Str} {p1 p2 p3 p4 : Pos} (hC : ExcC X.K D) (hz : Zc (.ref D) (some dd) oe) (hf : ∃ vs, oe.data = .fields vs) (hgi : Gl X "isinstance") (hmi : X.mg "isinstance" = none)
    (hN : X.N[i]? = some n) (hv : Vis X.env.scope n) (hgc : Gl X c) (hmc : X.mg c = some (.ref C)) (hd : (n == ("__debug__" : Str)) = false := by decide) (hcd : (n == ("__classdict__" : Str)) = false := by decide) (hdc : (c == ("__debug__" : Str)) = false := by decide) :
    PE (X.suite a ((a, oe) :: pn)) (.Call (.Name "isinstance" p1) [.Name n p2, .Name c p3] [] p4) (fun σ H Q => σ[i]? = some (some (.ref a)) ∧ (∃ fs, H dd = some (.xd fs)) ∧ ∃ b, PySem.W.kitOne X.K (.ref D) (.ref C) = some b ∧ Q (.bl b) H) := by
  have h := pe_callB (X := X.suite a ((a, oe) :: pn)) (p := p1) (pos := p4) (call_isD (pn := pn) hC hz hf) hgi hmi (by rfl) (pa_cons (pe_var (X := X.suite a ((a, oe) :: pn)) (pos := p2) (i := i) hN hv hd hcd) (pa_cons (pe_glob (X := X.suite a ((a, oe) :: pn)) (pos := p3) (v := .ref C) hgc hmc rfl hdc) pa_nil))
  refine ⟨fun pins s σ H Q I hh => h.run pins s σ H Q I ?_⟩
  obtain ⟨h1, ⟨fs, h2⟩, b, h3, h4⟩ := hh
  exact ⟨.ref a, h1, .ref C, .ref C, b, fs, rfl, fun u r => r, h2, h3, h4⟩
end Hw

set_option Elab.async false
set_option linter.all false
set_option maxRecDepth 100000
set_option maxHeartbeats 4000000
namespace Hw
open PySem PySem.Spec L2 PyProof PyProof.Rows
def isYes : V → Bool
  | .bl b => b
  | _ => false
/-- the keys with True -/
def yesOf (kvs : List (Key × V)) : List V := (kvs.filter fun kv => isYes kv.2).map fun kv => kV kv.1
theorem valV_at' : ∀ {kvs : List (Key × V)} {k : Key} {v : V}, (kvs.map (·.1)).Nodup → (k, v) ∈ kvs → valV kvs k = some v
  | [], _, _, _, h => by cases h
  | (k0, v0) :: r, k, v, nd, h => by
    have nd' := List.nodup_cons.mp (show (k0 :: r.map (·.1)).Nodup from nd)
    unfold valV
    rw [List.find?_cons]
    by_cases e : k0 = k
    · subst e
      rcases List.mem_cons.mp h with z | z
      · cases z; simp
      · exact absurd (List.mem_map.mpr ⟨_, z, rfl⟩) nd'.1
    · rw [show decide ((k0, v0).1 = k) = false from decide_eq_false e]
      rcases List.mem_cons.mp h with z | z
      · cases z; exact absurd rfl e
      · exact valV_at' nd'.2 z
theorem upd_back {H : Hp} {d D : Addr} {a l u : HO} (hd : H d = some u) (hD : H D = none) : upd (upd (upd H d a) D l) d u = upd H D l := by
  have ne : D ≠ d := fun z => by rw [z, hd] at hD; cases hD
  funext b
  by_cases h1 : b = d
  · subst h1; rw [upd_same, upd_ne (Ne.symm ne)]; exact hd.symm
  · rw [upd_ne h1]
    by_cases h2 : b = D
    · subst h2; rw [upd_same, upd_same]
    · rw [upd_ne h2, upd_ne h1, upd_ne h2]
/-- the words of the dict whose value is True, also within an except suite -/
theorem pe_yesWords {X : Cx} {i j : Nat} {w ws : Str} {scope : Scope} {p1 p2 p3 p4 p5 p6 pos : Pos} (hc : L2H.HotC X) (hN : X.N.Nodup) (hu : X.A.units + 1 < cLine) (hws : X.N[i]? = some ws) (hw : X.N[j]? = some w) (hij : i ≠ j)
    (ok : BlkOk X.N X.env.scope scope [(w, j)]) (hvX : Vis X.env.scope ws) (hv : ∀ (C : Addr) (cl : List (Str × Addr)), Vis (compEnvC scope cl C X.env).scope ws) (hl : ∀ (C : Addr) (cl : List (Str × Addr)), (compEnvC scope cl C X.env).scope.names.lookup w = some .local)
    (hd : (ws == ("__debug__" : Str)) = false := by decide) (hcd : (ws == ("__classdict__" : Str)) = false := by decide) (hd' : (w == ("__debug__" : Str)) = false := by decide) (hcd' : (w == ("__classdict__" : Str)) = false := by decide) :
    PE X (.ListComp (.Name w p1) [⟨.Name w p2, .Name ws p3, [.Subscript (.Name ws p4) (.Name w p5) p6], 0⟩] scope pos) (fun σ H Q => ∃ d kvs, σ[i]? = some (some (.ref d)) ∧ H d = some (.dK kvs) ∧ (∀ kv ∈ kvs, ∃ b, kv.2 = V.bl b) ∧ (kvs.map (·.1)).Nodup ∧ kvs.length ≤ 100 ∧
      ∀ D, H D = none → Q (.ref D) (upd H D (.lst (yesOf kvs)))) := by
  refine ⟨fun pins s σ H Q I h => ?_⟩
  obtain ⟨d, kvs, hs, hH, hb, nd, few, q⟩ := h
  have hj : j < σ.length := by
    rw [I.len]
    obtain ⟨z, _⟩ := List.getElem?_eq_some_iff.mp hw
    exact z
  refine (pe_lock (pe_lcW (own := [(w, j)]) (g := gName j) (tt := tB (tDGet (tVar i) (tVar j))) (te := tVar j) hc hN (pi_keysW (pe_var hws hvX hd hcd)) ok
    (fun _ _ C cl _ => pg_name hN hw (.inl (hl C cl)) (.inr (hl C cl)))
    (fun _ _ C cl _ => pts_one (pt_val (pe_dget hu (pe_var hws (hv C cl) hd hcd) (pe_var hw (.inl (hl C cl)) hd' hcd') (fun _ _ => rfl))))
    (fun _ _ C cl _ => pe_var hw (.inl (hl C cl)) hd' hcd'))).run pins s σ H Q I ?_
  refine ⟨d, .dK kvs, hH, trivial, fun od => ?_⟩
  refine ⟨.ref d, hs, d, od, kvs, rfl, upd_same, fun D nD => ?_⟩
  have neD : D ≠ d := fun z => by rw [z, upd_same] at nD; cases nD
  have nD1 : H D = none := by rw [upd_ne neD] at nD; exact nD
  refine lc_it (n := kvs.length) walk_keys (fun n H' => H' = upd (upd H d (.frz od (.dK kvs))) D (.lst (yesOf (kvs.take n)))) rfl (fun n H' _ e => ?_) (fun n x H3 H2 hn e y => ?_) (fun H' e => ?_)
  · rw [e, upd_ne (Ne.symm neD)]; exact upd_same
  · obtain ⟨rfl, k, v, hk, rfl⟩ := y
    obtain ⟨b, hbv⟩ := hb _ (List.mem_of_getElem? hk)
    have hbv : v = V.bl b := hbv
    subst hbv
    have e1 : wipe σ (List.map (fun x => x.2) [(w, j)]) = σ.set j none := rfl
    rw [e1]
    show (wipe ((σ.set j none).set j (some (kV k))) [j] = _) ∧ _
    rw [List.set_set]
    have s1 : (σ.set j (some (kV k)))[i]? = some (some (V.ref d)) := by rw [List.getElem?_set_ne (Ne.symm hij)]; exact hs
    have s2 : (σ.set j (some (kV k)))[j]? = some (some (kV k)) := List.getElem?_set_self hj
    refine ⟨by show (σ.set j (some (kV k))).set j none = _; rw [List.set_set], ?_⟩
    have hdd : H2 d = some (.frz od (.dK kvs)) := by rw [e, upd_ne (Ne.symm neD)]; exact upd_same
    have hvl := valV_at' nd (List.mem_of_getElem? hk)
    have tk : kvs.take (n + 1) = kvs.take n ++ [(k, V.bl b)] := by rw [List.take_add_one, hk]; rfl
    refine ⟨.ref d, s1, kV k, s2, d, V.bl b, rfl, .inl ⟨kvs, k, .inr ⟨od, hdd⟩, rfl, hvl.symm⟩, b, rfl, ?_⟩
    cases b with
    | false =>
      rw [if_neg Bool.false_ne_true]
      show H2 = _
      rw [e, tk]
      unfold yesOf
      rw [List.filter_append]
      simp [isYes]
    | true =>
      rw [if_pos rfl]
      refine ⟨kV k, s2, yesOf (kvs.take n), by rw [e]; exact upd_same, ?_, ?_⟩
      · have h1 : (yesOf (kvs.take n)).length ≤ kvs.length := by
          unfold yesOf
          rw [List.length_map]
          exact Nat.le_trans (List.length_filter_le _ _) (by rw [List.length_take]; exact Nat.min_le_right _ _)
        have h2 : (100 : Nat) < sizeLine := by decide
        omega
      · rw [e, upd_upd, tk]
        unfold yesOf
        rw [List.filter_append, List.map_append]
        rfl
  · rw [e, List.take_length]
    refine ⟨by rw [upd_ne (Ne.symm neD)]; exact upd_same, ?_⟩
    rw [upd_back hH nD1]
    exact q D nD1
end Hw

set_option Elab.async false
set_option linter.all false
set_option maxRecDepth 100000
set_option maxHeartbeats 4000000
namespace Hw
open PySem PySem.Spec L2 PyProof PyProof.Rows
/-- the first word whose mark is True -/
def pick3 (w1 w2 w3 other : Str) (b1 b2 b3 : Bool) : Str := if b1 then w1 else if b2 then w2 else if b3 then w3 else other
/-- words = {w1: isinstance(caught, c1), w2: isinstance(caught, c2)}; words[w3] = ..; return (([word for word in words if words[word]] + [other])[0], caught.value) -/
theorem pss_words3 {X : Cx} {a Dc dd C1 C2 C3 : Addr} {oe : Obj} {pn : List (Addr × Obj)} {w1 w2 w3 other c1 c2 c3 : Str} {scope : Scope} {j1 j2 j3 j4 j5 kk : Nat} {q1 q2 q3 q4 q5 q6 q7 q8 q9 q10 r1 r2 r3 r4 r5 r6 r7 r8 r9 r10 r11 r12 s1 s2 s3 s4 s5 s6 s7 s8 s9 s10 s11 s12 s13 s14 s15 : Pos}
    (hC : ExcC X.K Dc) (hz : L2N.Zn (.ref Dc) (some dd) oe) (hf : ∃ vs, oe.data = .fields vs) (T : XfC X.K Dc) (hno : PySem.W.findIn X.K (.ref Dc) "value" = some none) (hu : X.A.units + 1 < cLine) (hNN : X.N = [("call" : Str), ("caught" : Str), ("words" : Str), ("word" : Str)])
    (hgi : Gl X "isinstance") (hmi : X.mg "isinstance" = none) (g1 : Gl X c1) (m1 : X.mg c1 = some (.ref C1)) (g2 : Gl X c2) (m2 : X.mg c2 = some (.ref C2)) (g3 : Gl X c3) (m3 : X.mg c3 = some (.ref C3)) (d1 : (c1 == ("__debug__" : Str)) = false) (d2 : (c2 == ("__debug__" : Str)) = false) (d3 : (c3 == ("__debug__" : Str)) = false)
    (vc : Vis X.env.scope "caught") (vw : X.env.scope.names.lookup ("words" : Str) = some .cell) (fw : X.fn "words" = true) (n12 : w1 ≠ w2) (n13 : w1 ≠ w3) (n23 : w2 ≠ w3)
    (ok : BlkOk ["call", "caught", "words", "word"] X.env.scope scope [("word", 3)]) (hv : ∀ (C : Addr) (cl : List (Str × Addr)), Vis (compEnvC scope cl C X.env).scope "words") (hl : ∀ (C : Addr) (cl : List (Str × Addr)), (compEnvC scope cl C X.env).scope.names.lookup ("word" : Str) = some .local) :
    PSs (X.suite a ((a, oe) :: pn))
      [.Assign [.Name "words" q1] (.Dict [some (.Constant (.str w1) j1 q2), some (.Constant (.str w2) j2 q3)] [.Call (.Name "isinstance" r1) [.Name "caught" r2, .Name c1 r3] [] r4, .Call (.Name "isinstance" r5) [.Name "caught" r6, .Name c2 r7] [] r8] q4) q5,
       .Assign [.Subscript (.Name "words" q6) (.Constant (.str w3) j3 q7) q8] (.Call (.Name "isinstance" r9) [.Name "caught" r10, .Name c3 r11] [] r12) q9,
       .Return (some (.Tuple [.Subscript (.BinOp (.ListComp (.Name "word" s1) [⟨.Name "word" s2, .Name "words" s3, [.Subscript (.Name "words" s4) (.Name "word" s5) s6], 0⟩] scope s7) .Add (.List [.Constant (.str other) j4 s8] s9) s10) (.Constant (.int 0) j5 s11) s12, .Attribute (.Name "caught" s13) "value" s14] kk s15)) q10]
      (fun D σ H => σ.length = 4 ∧ σ[1]? = some (some (.ref a)) ∧ ∃ (fs : List (Str × V)) (v : V) (b1 b2 b3 : Bool), H dd = some (.xd fs) ∧ fs.lookup ("value" : Str) = some v ∧ PySem.W.kitOne X.K (.ref Dc) (.ref C1) = some b1 ∧ PySem.W.kitOne X.K (.ref Dc) (.ref C2) = some b2 ∧ PySem.W.kitOne X.K (.ref Dc) (.ref C3) = some b3 ∧
        ∀ H' tp, (∀ b o, H b = some o → H' b = some o) → H' tp = some (.tup [.str (pick3 w1 w2 w3 other b1 b2 b3), v]) → D.rt (.ref tp) H') := by
  have hN : (X.suite a ((a, oe) :: pn)).N.Nodup := by show X.N.Nodup; rw [hNN]; decide
  have i1 : (X.suite a ((a, oe) :: pn)).N[1]? = some ("caught" : Str) := by show X.N[1]? = _; rw [hNN]; rfl
  have i2 : (X.suite a ((a, oe) :: pn)).N[2]? = some ("words" : Str) := by show X.N[2]? = _; rw [hNN]; rfl
  have i3 : (X.suite a ((a, oe) :: pn)).N[3]? = some ("word" : Str) := by show X.N[3]? = _; rw [hNN]; rfl
  have okX : BlkOk (X.suite a ((a, oe) :: pn)).N X.env.scope scope [("word", 3)] := by show BlkOk X.N _ _ _; rw [hNN]; exact ok
  have pw : PE (X.suite a ((a, oe) :: pn)) (.Name "words" q6) (tVar 2) := pe_var i2 (.inr (.inl vw)) (by decide) (by decide)
  have is1 := pe_isD (X := X) (a := a) (pn := pn) (i := 1) (p1 := r1) (p2 := r2) (p3 := r3) (p4 := r4) hC hz.zc hf hgi hmi i1 vc g1 m1 (by decide) (by decide) d1
  have is2 := pe_isD (X := X) (a := a) (pn := pn) (i := 1) (p1 := r5) (p2 := r6) (p3 := r7) (p4 := r8) hC hz.zc hf hgi hmi i1 vc g2 m2 (by decide) (by decide) d2
  have is3 := pe_isD (X := X) (a := a) (pn := pn) (i := 1) (p1 := r9) (p2 := r10) (p3 := r11) (p4 := r12) hC hz.zc hf hgi hmi i1 vc g3 m3 (by decide) (by decide) d3
  have pd := pe_disp (X := X.suite a ((a, oe) :: pn)) (pos := q4) (pps_cons (pe_str (j := j1) (pos := q2) (x := w1)) is1 (pps_cons (pe_str (j := j2) (pos := q3) (x := w2)) is2 pps_nil)) rfl rfl (by simp) (by show 2 ≤ 15; omega)
  have ps2 := ps_dput (X := X.suite a ((a, oe) :: pn)) (pos' := q8) (pos := q9) hu pw (pe_str (j := j3) (pos := q7) (x := w3)) is3 rfl
  have ps1 := ps_set (X := X.suite a ((a, oe) :: pn)) (i := 2) (pos' := q1) (pos := q5) hN i2 (.inr vw) pd rfl (.inl fw)
  have ylc := pe_yesWords (X := X.suite a ((a, oe) :: pn)) (i := 2) (j := 3) (p1 := s1) (p2 := s2) (p3 := s3) (p4 := s4) (p5 := s5) (p6 := s6) (pos := s7) (hot_suite hz hf) hN hu i2 i3 (by decide) okX (.inr (.inl vw)) hv hl (by decide) (by decide) (by decide) (by decide)
  have pl := pe_ix (X := X.suite a ((a, oe) :: pn)) (pos := s12) ix_list (pe_op (pos := s10) op_cat ylc (pe_lst (pos := s9) (pa_cons (pe_str (j := j4) (pos := s8) (x := other)) pa_nil))) (pe_int (j := j5) (pos := s11) (i := 0)) (fun _ _ => rfl)
  have pf := pe_xf (X := X) (a := a) (pn := pn) (pos := s14) T hno hz.zc hf (pe_var (pos := s13) i1 vc (by decide) (by decide)) rfl
  have ps3 := ps_ret (pos := q10) (pe_tup (x1 := kk) (pos := s15) (pa_cons pl (pa_cons pf pa_nil)))
  refine ⟨fun pins s σ H D I h => (pss_cons ps1 (pss_cons ps2 (pss_one ps3))).run pins s σ H D I ?_⟩
  obtain ⟨hlen, hs, fs, v, b1, b2, b3, hdd, hval, k1, k2, k3, q⟩ := h
  intro p np
  have ndd : dd ≠ p := fun z => by rw [z, np] at hdd; cases hdd
  have hdd1 : upd H p (.dK []) dd = some (.xd fs) := by rw [upd_ne ndd]; exact hdd
  refine ⟨hs, ⟨fs, hdd1⟩, b1, k1, hs, ⟨fs, hdd1⟩, b2, k2, ?_⟩
  refine ⟨upd_same, [(.inr w1, .bl b1), (.inr w2, .bl b2)], rfl, by show 2 ≤ 15; omega, ?_⟩
  have n21 : w2 ≠ w1 := Ne.symm n12
  have em : mergeK [] [((.inr w1 : Key), V.bl b1), (.inr w2, .bl b2)] = [(.inr w1, .bl b1), (.inr w2, .bl b2)] := by
    unfold mergeK
    simp [putK, n12]
  have ep : putK [((.inr w1 : Key), V.bl b1), (.inr w2, .bl b2)] (.inr w3) (.bl b3) = [(.inr w1, .bl b1), (.inr w2, .bl b2), (.inr w3, .bl b3)] := by
    simp [putK, n13, n23]
  rw [em, upd_upd]
  have z1 : (σ.set 2 (some (V.ref p)))[1]? = some (some (V.ref a)) := by rw [List.getElem?_set_ne (by decide)]; exact hs
  have z2 : (σ.set 2 (some (V.ref p)))[2]? = some (some (V.ref p)) := List.getElem?_set_self (by omega)
  have hdd2 : upd H p (.dK [(.inr w1, .bl b1), (.inr w2, .bl b2)]) dd = some (.xd fs) := by rw [upd_ne ndd]; exact hdd
  refine ⟨z1, ⟨fs, hdd2⟩, b3, k3, .ref p, z2, p, _, rfl, .inl ⟨_, .inr w3, upd_same, rfl, by show 2 < sizeLine; decide, rfl⟩, ?_⟩
  rw [ep, upd_upd]
  generalize hH1 : upd H p (.dK [(.inr w1, .bl b1), (.inr w2, .bl b2), (.inr w3, .bl b3)]) = H1
  have hp : H1 p = some (.dK [(.inr w1, .bl b1), (.inr w2, .bl b2), (.inr w3, .bl b3)]) := by rw [← hH1]; exact upd_same
  have same1 : ∀ b o, H b = some o → H1 b = some o := fun b o e => by rw [← hH1, upd_ne (ne_of_none e np)]; exact e
  refine ⟨p, _, z2, hp, fun kv hkv => ?_, by simp [n12, n13, n23], by show 3 ≤ 100; omega, fun L nL => ?_⟩
  · rcases List.mem_cons.mp hkv with z | hkv
    · exact ⟨b1, by rw [z]⟩
    · rcases List.mem_cons.mp hkv with z | hkv
      · exact ⟨b2, by rw [z]⟩
      · exact ⟨b3, by rw [List.mem_singleton.mp hkv]⟩
  generalize hys : yesOf [((.inr w1 : Key), V.bl b1), (.inr w2, .bl b2), (.inr w3, .bl b3)] = ys
  have few : ys.length ≤ 3 := by
    rw [← hys]; unfold yesOf; rw [List.length_map]; exact List.length_filter_le _ _
  have same2 : ∀ b o, H1 b = some o → upd H1 L (.lst ys) b = some o := fun b o e => by rw [upd_ne (ne_of_none e nL)]; exact e
  refine ⟨by show 1 ≤ sizeLine; decide, fun M nM => ?_⟩
  have same3 : ∀ b o, upd H1 L (.lst ys) b = some o → upd (upd H1 L (.lst ys)) M (.lst [.str other]) b = some o := fun b o e => by rw [upd_ne (ne_of_none e nM)]; exact e
  refine ⟨L, M, ys, [.str other], rfl, rfl, same3 _ _ upd_same, upd_same, by have : (100 : Nat) < sizeLine := by decide
                                                                             show ys.length + 1 ≤ _; omega, fun C nC => ?_⟩
  have same4 : ∀ b o, upd (upd H1 L (.lst ys)) M (.lst [.str other]) b = some o → upd (upd (upd H1 L (.lst ys)) M (.lst [.str other])) C (.lst (ys ++ [.str other])) b = some o := fun b o e => by rw [upd_ne (ne_of_none e nC)]; exact e
  have head : atI (ys ++ [V.str other]) 0 = some (V.str (pick3 w1 w2 w3 other b1 b2 b3)) := by
    rw [← hys]
    cases b1 <;> cases b2 <;> cases b3 <;> rfl
  refine ⟨C, _, 0, _, rfl, rfl, .inl (.inl upd_same), head, ?_⟩
  refine ⟨.ref a, z1, rfl, rfl, dd, fs, v, rfl, same4 _ _ (same3 _ _ (same2 _ _ (same1 _ _ hdd))), hval, ?_⟩
  refine ⟨by show 2 ≤ sizeLine; decide, fun tp ntp => ?_⟩
  exact q _ tp (fun b o e => by
    have e4 := same4 _ _ (same3 _ _ (same2 _ _ (same1 _ _ e)))
    rw [upd_ne (ne_of_none e4 ntp)]; exact e4) upd_same
end Hw

set_option Elab.async false
set_option linter.all false
set_option maxRecDepth 100000
set_option maxHeartbeats 4000000
namespace Hw
open PySem PySem.Spec L2 PyProof PyProof.Rows
theorem takes0N {X : Cx} : L2N.Takes X (fun _ _ _ _ => False) := fun _ _ x => by
  obtain ⟨_, _, _, _, _, _, _, _, _, _, _, _, _, _, _, _, z⟩ := x
  exact z.elim
/-- what is known of the error of the package that is caught: its class, its fields -/
structure Caught (K : PySem.W.Frag) (CS : Addr) (cls : Value) (d : Option Addr) (Dc dd : Addr) : Prop where
  cls : cls = .ref Dc
  dict : d = some dd
  heal : PySem.W.exmOne K (.ref Dc) (.ref CS) = some true
  isC : ExcC K Dc
  fld : XfC K Dc
  val : PySem.W.findIn K (.ref Dc) "value" = some none
/-- _law_heard(call): (word, value) of the error of the package, ("", None) without one -/
def spHeard3 (P : Program) (w : World) (K : PySem.W.Frag) (mg : Str → Option Value) (base : Heap) (k : Nat) (CS C1 C2 C3 : Addr) (w1 w2 w3 other : Str) : SpL := fun fs h vs H Q _ =>
  ∃ (a : Addr) (G : Hp → Prop) (tl : XK → Hp → VK → Prop), vs = [.ref a] ∧ Act (L2N.CX P w) P w K mg base k a fs H h G tl ∧ G H ∧
    tl (fun cls d H1 => ∃ (Dc dd : Addr) (fds : List (Str × V)) (v : V) (b1 b2 b3 : Bool), Caught K CS cls d Dc dd ∧ H1 dd = some (.xd fds) ∧ fds.lookup ("value" : Str) = some v ∧ PySem.W.kitOne K (.ref Dc) (.ref C1) = some b1 ∧ PySem.W.kitOne K (.ref Dc) (.ref C2) = some b2 ∧ PySem.W.kitOne K (.ref Dc) (.ref C3) = some b3 ∧
        ∀ H' tp, (∀ b o, H1 b = some o → H' b = some o) → H' tp = some (.tup [.str (pick3 w1 w2 w3 other b1 b2 b3), v]) → Q (.ref tp) H') H
      (fun _ H1 => ∀ H' tp, (∀ b o, H1 b = some o → H' b = some o) → H' tp = some (.tup [.str "", .non]) → Q (.ref tp) H')
theorem heard3_ok {P : Program} {w : World} {K : PySem.W.Frag} {mg : Str → Option Value} {base : Heap} {st : Stmt} {f : Addr} {fd : FuncData} {k : Nat} {qual er : Str} {CS C1 C2 C3 : Addr} {w1 w2 w3 other c1 c2 c3 : Str} {scope : Scope} {j1 j2 j3 j4 j5 j6 j7 kk kk2 : Nat}
    {q1 q2 q3 q4 q5 q6 q7 q8 q9 q10 r1 r2 r3 r4 r5 r6 r7 r8 r9 r10 r11 r12 s1 s2 s3 s4 s5 s6 s7 s8 s9 s10 s11 s12 s13 s14 s15 u1 u2 u3 u4 u5 u6 u7 u8 u9 u10 : Pos}
    (F : L2.Fun K "_law_heard" qual st f fd) (S : FnScope ["call", "caught", "words", "word"] ["call"] (defScope st))
    (hb : defBody st = [.Try [.Expr (.Call (.Name "call" u1) [] [] u2) u3] [.ExceptHandler (some (.Name er u4)) (some "caught")
      [.Assign [.Name "words" q1] (.Dict [some (.Constant (.str w1) j1 q2), some (.Constant (.str w2) j2 q3)] [.Call (.Name "isinstance" r1) [.Name "caught" r2, .Name c1 r3] [] r4, .Call (.Name "isinstance" r5) [.Name "caught" r6, .Name c2 r7] [] r8] q4) q5,
       .Assign [.Subscript (.Name "words" q6) (.Constant (.str w3) j3 q7) q8] (.Call (.Name "isinstance" r9) [.Name "caught" r10, .Name c3 r11] [] r12) q9,
       .Return (some (.Tuple [.Subscript (.BinOp (.ListComp (.Name "word" s1) [⟨.Name "word" s2, .Name "words" s3, [.Subscript (.Name "words" s4) (.Name "word" s5) s6], 0⟩] scope s7) .Add (.List [.Constant (.str other) j4 s8] s9) s10) (.Constant (.int 0) j5 s11) s12, .Attribute (.Name "caught" s13) "value" s14] kk s15)) q10] u5] [] [] u6,
      .Return (some (.Tuple [.Constant (.str "") j6 u7, .Constant .none j7 u8] kk2 u9)) u10])
    (va : (defScope st).names.lookup ("call" : Str) = some .local) (vc : (defScope st).names.lookup ("caught" : Str) = some .local) (vw : (defScope st).names.lookup ("words" : Str) = some .cell)
    (ge : (defScope st).names.lookup er = some .globalImplicit) (gi : (defScope st).names.lookup ("isinstance" : Str) = some .globalImplicit) (g1 : (defScope st).names.lookup c1 = some .globalImplicit) (g2 : (defScope st).names.lookup c2 = some .globalImplicit) (g3 : (defScope st).names.lookup c3 = some .globalImplicit)
    (me : mg er = some (.ref CS)) (mi : mg "isinstance" = none) (m1 : mg c1 = some (.ref C1)) (m2 : mg c2 = some (.ref C2)) (m3 : mg c3 = some (.ref C3))
    (de : (er == ("__debug__" : Str)) = false) (d1 : (c1 == ("__debug__" : Str)) = false) (d2 : (c2 == ("__debug__" : Str)) = false) (d3 : (c3 == ("__debug__" : Str)) = false) (n12 : w1 ≠ w2) (n13 : w1 ≠ w3) (n23 : w2 ≠ w3)
    (ok : BlkOk ["call", "caught", "words", "word"] (defScope st) scope [("word", 3)])
    (hv : ∀ (C : Addr) (cl : List (Str × Addr)) (L : Nat) (cd : Value), Vis (compEnvC scope cl C (envOfC qual (defScope st) L f cd)).scope "words")
    (hl : ∀ (C : Addr) (cl : List (Str × Addr)) (L : Nat) (cd : Value), (compEnvC scope cl C (envOfC qual (defScope st) L f cd)).scope.names.lookup ("word" : Str) = some .local) :
    FnGL P w K mg base CX0 (k + 2) f fd ["call"] (spHeard3 P w K mg base k CS C1 C2 C3 w1 w2 w3 other) := by
  refine funGL F S (fun fs h vs H Q E hh => ?_) (fun cdv A outer s H vs Q E hr hh => ?_)
  · obtain ⟨_, _, _, rfl, _⟩ := hh
    rfl
  · obtain ⟨a, G, tl, rfl, ac, hg, ht⟩ := hh
    rw [hb]
    refine ⟨_, pss_cons (ps_heardN (X := (cxOf CX0 P w K mg base ["call", "caught", "words", "word"] qual (defScope st) f cdv A outer s H E).nox) (i := 1) (j := 0) (c := .ref CS) (Wout := fun _ _ _ _ => False)
        (ts := fun x cls d D σ H1 => ∃ (Dc dd : Addr), Caught K CS cls d Dc dd ∧ (σ.length = 4 ∧ σ[1]? = some (some (.ref x)) ∧ ∃ (fs : List (Str × V)) (v : V) (b1 b2 b3 : Bool), H1 dd = some (.xd fs) ∧ fs.lookup ("value" : Str) = some v ∧ PySem.W.kitOne K (.ref Dc) (.ref C1) = some b1 ∧ PySem.W.kitOne K (.ref Dc) (.ref C2) = some b2 ∧ PySem.W.kitOne K (.ref Dc) (.ref C3) = some b3 ∧
          ∀ H' tp, (∀ b o, H1 b = some o → H' b = some o) → H' tp = some (.tup [.str (pick3 w1 w2 w3 other b1 b2 b3), v]) → D.rt (.ref tp) H'))
        rfl rfl rfl S.nd rfl vc ⟨ge, de, .inl me⟩ takes0N ac hr.r rfl (.inl va) (fun x oe cls d pn hz hf => ?_) (by decide) (by decide))
      (pss_one (ps_ret (pe_tup (pa_cons pe_str (pa_cons pe_non pa_nil))))), ?_⟩
    · refine ⟨fun pins s' σ H1 D I h => ?_⟩
      obtain ⟨Dc, dd, ct, h⟩ := h
      have e1 := ct.cls
      have e2 := ct.dict
      subst e1 e2
      exact (pss_words3 (X := (cxOf CX0 P w K mg base ["call", "caught", "words", "word"] qual (defScope st) f cdv A outer s H E).nox) (pn := pn) ct.isC hz hf ct.fld ct.val (hu_of hr.r) rfl gi mi g1 m1 g2 m2 g3 m3 d1 d2 d3 (.inl vc) vw rfl n12 n13 n23 ok
        (fun C cl => hv C cl _ _) (fun C cl => hl C cl _ _)).run pins s' σ H1 D I h
    · refine ⟨_, _, fun cls d H1 h => ?_, fun v H1 h => ?_, rfl, hg, ht⟩
      · obtain ⟨Dc, dd, fds, v, b1, b2, b3, ct, e1, e2, k1, k2, k3, q⟩ := h
        have ec := ct.cls
        refine ⟨true, by rw [ec]; exact ct.heal, fun _ x _ => ⟨Dc, dd, ct, rfl, rfl, fds, v, b1, b2, b3, e1, e2, k1, k2, k3, q⟩, fun z => Bool.noConfusion z⟩
      · refine ⟨by show 2 ≤ sizeLine; decide, fun tp np => ?_⟩
        exact h _ tp (fun b o e => by rw [upd_ne (ne_of_none e np)]; exact e) upd_same
end Hw

set_option Elab.async false
set_option linter.all false
set_option maxRecDepth 100000
set_option maxHeartbeats 4000000
namespace Hw
open PySem PySem.Spec L2 PyProof PyProof.Rows
section
variable {X : Cx} {o e : Expr} {es : List Expr} {to te : TE} {ta : TA} {f : Str} {p p' p1 p2 pos : Pos}
/-- an error with its own __init__ is made; its context is None -/
theorem mk_endN {pins : List (Addr × Obj)} {σ : L2.St} {H1 H2 : Hp} {Q : XK} {hp hp2 h2 : Heap} {g1 g2 : Array GenState} {d1 d2 : Drawn} {t1 t2 : Nat} {os1 os2 : OsState} {a C d : Addr} {fs : List (Str × V)} (T : Raises X (.ref C)) (I1 : Inv X pins σ H1 ⟨hp, g1, d1, t1, os1⟩)
    (ha : hp.objs.size ≤ a) (k : ∀ b o, hp.get? b = some o → hp2.get? b = some o) (un : Un (frs X.stack) [] (upd H1 a (exo a C none)) H2 hp2 h2) (hok : HOk X.prog X.w H2 h2) (ho : os2 = os1) (hb : AllBare g2)
    (ea : H2 a = some (exo a C (some d))) (ed : H2 d = some (exd d fs)) (hd1 : H1 d = none) (q : Q (.ref C) (some d) (upd (del H2 a) d (.xd fs))) : L2N.MkP X pins σ Q (.ref a) ⟨h2, g2, d2, t2, os2⟩ := by
  obtain ⟨t0, G, J, kG, ge, hoe, na⟩ := mk_end0 (d2 := d2) (t2 := t2) I1 ha k un hok ho hb ea ed hd1
  exact ⟨a, _, _, ⟨G, g2, d2, t2, os2⟩, _, .ref C, some d, rfl, J, kG, ge, hoe, ⟨rfl, rfl, fun vs e => by cases e; rfl⟩, rfl, rfl, na, rfl, hb, T, q⟩
theorem pmk_oexN {CX : CXT} {x : Str} {C fI : Addr} {k : Nat} {fd : FuncData} {ps : List Str} {sp : Sp} {ds : List Value} {dvs : List V} (T : OexC X.K C) (iC : PySem.W.findIn X.K (.ref C) "__init__" = some (some (.ref fI))) (tI : PySem.W.typeIn X.K (.ref fI) = some (.type "function"))
    (F1 : FnOk X.prog X.w X.K X.mg X.base CX k fI fd ps sp) (hr : Room (k + 1) X.A) (hb : Binds X.K fd ps ds) (hd : Vals dvs ds) (hx : Passes CX X (fun _ _ _ => False)) (hg : Gl X x) (hm : X.mg x = some (.ref C)) (ha : PA X (e :: es) ta)
    (hdb : (x == ("__debug__" : Str)) = false := by decide) (he : starEach (e :: es) X.env = (false, eval e X.env) :: starEach es X.env := by rfl) (hpl : (backTo pos (starEach es X.env)).any (·.1) = false := by rfl) :
    L2N.PMk X (.Call (.Name x p) (e :: es) [] pos) (tMkO C sp dvs ta) := by
  intro pins s σ H Q I h
  obtain ⟨nm, q, N, bs, bm, sn, sub, ab, col, dd, k0, k1, k2, k3, k5, hC, hbm⟩ := T.cls
  refine wpAny_Call_Name_kw (ld_glob I hg hm ?_ hdb)
  refine PySem.W.callWith_K (h₀ := X.base) I.ok.mod.kin T.kC (thn (ha.run pos pins s σ H _ I h) fun us s1 ⟨vs, H1, I1, r1, hz, q1⟩ => ⟨I1.kIn, ?_⟩) he hpl
  show wpAny _ _ (call (.ref C) us) _ _ _
  obtain ⟨hp, g, dr, tk, os⟩ := s1
  have hsz : hp.objs.size ≤ hp.objs.size + 1 := Nat.le_succ _
  have hn : H1 (hp.objs.size + 1) = none := I1.hok.fresh hsz
  have hq := q1 (hp.objs.size + 1) hn
  have kk : ∀ b o, hp.get? b = some o → ((hp.push (PySem.W.kdv_tup us)).push (PySem.HandSPX.excO C hp.objs.size)).get? b = some o := fun b o e => Heap.get?_push_of_some _ (Heap.get?_push_of_some _ e)
  have hget : ((hp.push (PySem.W.kdv_tup us)).push (PySem.HandSPX.excO C hp.objs.size)).get? (hp.objs.size + 1) = some (PySem.HandSPX.excO C hp.objs.size) := by heap_get
  have I2 : Inv X pins σ (upd H1 (hp.objs.size + 1) (exo (hp.objs.size + 1) C none)) ⟨(hp.push (PySem.W.kdv_tup us)).push (PySem.HandSPX.excO C hp.objs.size), g, dr, tk, os⟩ :=
    I1.laid (t' := tk) (a := hp.objs.size + 1) (o := exo (hp.objs.size + 1) C none) (h' := (hp.push (PySem.W.kdv_tup us)).push (PySem.HandSPX.excO C hp.objs.size)) kk hsz (exo_ok hget)
  have r2 : Vals (V.ref (hp.objs.size + 1) :: (vs ++ dvs)) (Value.ref (hp.objs.size + 1) :: (us ++ ds)) := .cons rfl (r1.append hd)
  have hl : (Value.ref (hp.objs.size + 1) :: us ++ ds).length = ps.length := by
    have e := r2.length
    rw [F1.len _ _ _ _ hq] at e
    exact e.symm
  have hus : us.length ≤ sizeLine := by
    rw [← Paired.length r1, sizeLine_eq]
    omega
  refine wpAny_call (PySem.HandSPX.call_own F.excBase_ValueError (fun Y => PySem.HandSPX.refsVE_contains Y bm hbm) (I1.kIn _ _ hC) (PySem.W.looks_findIn I1.kIn iC) (fun self => PySem.W.bind_fn I1.kIn self tI) hus
    (codeAny_mono (F1.run _ X.stack _ _ ⟨Value.ref (hp.objs.size + 1) :: us, []⟩ (Value.ref (hp.objs.size + 1) :: (us ++ ds)) _ _ (fun _ _ _ => False) (hr.make C us []) (I2.env0.make C us []) (hb _ (Value.ref (hp.objs.size + 1) :: us) I2.kIn hl) r2 hq) fun r s' hq' => ?_))
  cases r with
  | error er => exact hx pins σ _ _ er s' I2 hq'
  | ok fl =>
    cases fl with
    | ret u =>
      obtain ⟨v, H2, os2, bare2, un2, hok2, rv, ev, d, fs, ea, ed, hd1, q2⟩ := hq'
      subst ev
      obtain ⟨h2, g2, d2, t2, os'⟩ := s'
      exact ⟨rv, mk_endN (raises_own T.exC T.tyC) I1 hsz kk un2 hok2 os2 bare2 ea ed hd1 q2⟩
    | next => exact False.elim hq'
    | brk => exact False.elim hq'
    | cont => exact False.elim hq'
end
end Hw

set_option Elab.async false
set_option linter.all false
set_option maxRecDepth 100000
set_option maxHeartbeats 4000000
namespace Hw
open PySem PySem.Spec L2 PyProof PyProof.Rows
/-- _law_heard(call) of k06: what the error tells, None without one or of another class -/
def spHeard1 (P : Program) (w : World) (K : PySem.W.Frag) (mg : Str → Option Value) (base : Heap) (k : Nat) (CS C1 : Addr) : SpL := fun fs h vs H Q _ =>
  ∃ (a : Addr) (G : Hp → Prop) (tl : XK → Hp → VK → Prop), vs = [.ref a] ∧ Act (L2N.CX P w) P w K mg base k a fs H h G tl ∧ G H ∧
    tl (fun cls d H1 => ∃ (Dc dd : Addr) (fds : List (Str × V)) (v : V) (b : Bool), Caught K CS cls d Dc dd ∧ H1 dd = some (.xd fds) ∧ fds.lookup ("value" : Str) = some v ∧ PySem.W.kitOne K (.ref Dc) (.ref C1) = some b ∧ Q (if b = true then v else .non) H1) H
      (fun _ H1 => Q .non H1)
theorem heard1_ok {P : Program} {w : World} {K : PySem.W.Frag} {mg : Str → Option Value} {base : Heap} {st : Stmt} {f : Addr} {fd : FuncData} {k : Nat} {qual er : Str} {CS C1 : Addr} {c1 : Str} {j1 j2 : Nat} {r1 r2 r3 r4 s1 s2 s3 s4 s5 u1 u2 u3 u4 u5 u6 u7 u8 : Pos}
    (F : L2.Fun K "_law_heard" qual st f fd) (S : FnScope ["call", "caught"] ["call"] (defScope st))
    (hb : defBody st = [.Try [.Expr (.Call (.Name "call" u1) [] [] u2) u3] [.ExceptHandler (some (.Name er u4)) (some "caught")
      [.Return (some (.IfExp (.Call (.Name "isinstance" r1) [.Name "caught" r2, .Name c1 r3] [] r4) (.Attribute (.Name "caught" s1) "value" s2) (.Constant .none j1 s3) s4)) s5] u5] [] [] u6,
      .Return (some (.Constant .none j2 u7)) u8])
    (va : (defScope st).names.lookup ("call" : Str) = some .local) (vc : (defScope st).names.lookup ("caught" : Str) = some .local)
    (ge : (defScope st).names.lookup er = some .globalImplicit) (gi : (defScope st).names.lookup ("isinstance" : Str) = some .globalImplicit) (g1 : (defScope st).names.lookup c1 = some .globalImplicit)
    (me : mg er = some (.ref CS)) (mi : mg "isinstance" = none) (m1 : mg c1 = some (.ref C1)) (de : (er == ("__debug__" : Str)) = false) (d1 : (c1 == ("__debug__" : Str)) = false) :
    FnGL P w K mg base CX0 (k + 2) f fd ["call"] (spHeard1 P w K mg base k CS C1) := by
  refine funGL F S (fun fs h vs H Q E hh => ?_) (fun cdv A outer s H vs Q E hr hh => ?_)
  · obtain ⟨_, _, _, rfl, _⟩ := hh
    rfl
  · obtain ⟨a, G, tl, rfl, ac, hg, ht⟩ := hh
    rw [hb]
    refine ⟨_, pss_cons (ps_heardN (X := (cxOf CX0 P w K mg base ["call", "caught"] qual (defScope st) f cdv A outer s H E).nox) (i := 1) (j := 0) (c := .ref CS) (Wout := fun _ _ _ _ => False)
        (ts := fun x cls d D σ H1 => ∃ (Dc dd : Addr), Caught K CS cls d Dc dd ∧ (σ[1]? = some (some (.ref x)) ∧ ∃ (fs : List (Str × V)) (v : V) (b : Bool), H1 dd = some (.xd fs) ∧ fs.lookup ("value" : Str) = some v ∧ PySem.W.kitOne K (.ref Dc) (.ref C1) = some b ∧ D.rt (if b = true then v else .non) H1))
        rfl rfl rfl S.nd rfl vc ⟨ge, de, .inl me⟩ takes0N ac hr.r rfl (.inl va) (fun x oe cls d pn hz hf => ?_) (by decide) (by decide))
      (pss_one (ps_ret pe_non)), ?_⟩
    · refine ⟨fun pins s' σ H1 D I h => ?_⟩
      obtain ⟨Dc, dd, ct, h⟩ := h
      have e1 := ct.cls
      have e2 := ct.dict
      subst e1 e2
      have is1 := pe_isD (X := (cxOf CX0 P w K mg base ["call", "caught"] qual (defScope st) f cdv A outer s H E).nox) (a := x) (pn := pn) (i := 1) (p1 := r1) (p2 := r2) (p3 := r3) (p4 := r4) ct.isC hz.zc hf gi mi rfl (.inl vc) g1 m1 (by decide) (by decide) d1
      have pf := pe_xf (X := (cxOf CX0 P w K mg base ["call", "caught"] qual (defScope st) f cdv A outer s H E).nox) (a := x) (pn := pn) (pos := s2) ct.fld ct.val hz.zc hf (pe_var (i := 1) (pos := s1) rfl (.inl vc) (by decide) (by decide)) rfl
      refine (pss_one (ps_ret (pos := s5) (pe_ifExp (pos := s4) (pt_val is1) pf (pe_non (j := j1) (pos := s3))))).run pins s' σ H1 D I ?_
      obtain ⟨hs, fs, v, b, hdd, hval, k1, q⟩ := h
      refine ⟨hs, ⟨fs, hdd⟩, b, k1, b, rfl, ?_⟩
      cases b with
      | true =>
        rw [if_pos rfl]
        rw [if_pos rfl] at q
        exact ⟨.ref x, hs, rfl, rfl, dd, fs, v, rfl, hdd, hval, q⟩
      | false =>
        rw [if_neg Bool.false_ne_true]
        rw [if_neg Bool.false_ne_true] at q
        exact q
    · refine ⟨_, _, fun cls d H1 h => ?_, fun v H1 h => ?_, rfl, hg, ht⟩
      · obtain ⟨Dc, dd, fds, v, b, ct, e1, e2, k1, q⟩ := h
        have ec := ct.cls
        exact ⟨true, by rw [ec]; exact ct.heal, fun _ x _ => ⟨Dc, dd, ct, rfl, fds, v, b, e1, e2, k1, q⟩, fun z => Bool.noConfusion z⟩
      · exact h
end Hw

set_option Elab.async false
set_option linter.all false
set_option maxRecDepth 100000
set_option maxHeartbeats 4000000
namespace Hw
open PySem PySem.Spec L2 PyProof PyProof.Rows LamX
/-- the law's call where the law's defs make lambdas, and reprs run: lawG with tables -/
theorem lawGT {P : Program} {w : World} {K : PySem.W.Frag} {mg mb : Str → Option Value} {k : Nat} {fa a : Addr} {cs : List (Addr × Addr)} {fd : FuncData} {x : Str} {sp : Sp} {s1 : Shared} {vs : List Value} {ns : List Int}
    (KX : K.In s1.heap) (hns : s1.heap.Ns mainGlobals mg) (hb : s1.heap.Ns builtinsNs mb) (hbb : ∀ x : Str, x ≠ "__name__" → mb x = bootBuiltins x) (hlim : s1.heap.NoLimit) (hgen : s1.gens = #[])
    (hT : ∀ p ∈ cs, s1.heap.get? p.2 = some { cls := .none, data := .fields #[] }) (nT : ∀ p ∈ cs, K.lookup p.2 = none) (hC : ∀ p ∈ cs, PySem.W.CodeHd s1.heap p.1 p.2)
    (hbm : ∃ (bm : Addr) (ob : Obj), mg "__builtins__" = some (.ref bm) ∧ bm ≠ builtinsNs ∧ s1.heap.get? bm = some ob ∧ ob.cls = .type "module" ∧ ob.dict = some builtinsNs ∧ ob.data = .plain)
    (ha : s1.heap.get? a = some { cls := .type "list", data := .seq vs.toArray }) (hi : IntsAre vs ns) (hl : ns.length ≤ sizeLine) (hr : Room k callerA)
    (F : ∀ base : Heap, K.In base → base.Ns mainGlobals mg → (∀ p ∈ cs, TabB base mg p.1 p.2) → FnG P w K mg base CX0 k fa fd [x] sp) (hbind : ∀ (s : Shared) (u : Value), BindsTo s fd ⟨[u], []⟩ [(x, u)])
    (hsp : ∀ H : Hp, (∀ p ∈ cs, H p.2 = some (.tbl #[])) → SqL K H a (ns.map V.int) → sp [.ref a] H (fun v _ => v = .bl true) E0) :
    codeAny (model P w) callerA (.call (.ref fa) ⟨[.ref a], []⟩) (fun r s' => r = .ok (.ret (.bool true)) ∧ OldK s1.heap s'.heap ∧ s'.os = s1.os ∧ AllBare s'.gens) s1 := by
  have rv := vals_ints hi
  let T := cs.map (·.2)
  have inT : ∀ {b : Addr}, b ∈ T → ∃ p ∈ cs, p.2 = b := fun h => List.mem_map.mp h
  have tab : ∀ {b : Addr}, b ∈ T → s1.heap.get? b = some { cls := .none, data := .fields #[] } := fun h => by
    obtain ⟨p, hp, e⟩ := inT h
    rw [← e]; exact hT p hp
  have aT : a ∉ T := fun h => by
    have e := (tab h).symm.trans ha
    cases e
  -- what is tracked at the start: the tables, and the script where the program does not know it
  have core : ∀ H : Hp, (∀ p ∈ cs, H p.2 = some (.tbl #[])) → SqL K H a (ns.map V.int) → HOk P w H s1.heap → (∀ b, H b = none ∨ b ∈ T ∨ (b = a ∧ K.lookup a = none ∧ ∃ o xs, H b = some (.frz o (.lst xs)))) →
      codeAny (model P w) callerA (.call (.ref fa) ⟨[.ref a], []⟩) (fun r s' => r = .ok (.ret (.bool true)) ∧ OldK s1.heap s'.heap ∧ s'.os = s1.os ∧ AllBare s'.gens) s1 := by
    intro H hH hS hok only
    have free : ∀ {b : Addr} {o : Obj}, s1.heap.get? b = some o → (∀ xs n, o.data ≠ .seq xs n) → o.data ≠ .fields #[] → H b = none := fun {b o} e n1 n2 => by
      rcases only b with z | z | ⟨z, _⟩
      · exact z
      · have e' := (tab z).symm.trans e
        cases e'
        exact absurd rfl n2
      · rw [z, ha] at e
        cases e
        exact absurd rfl (n1 _ _)
    have nsH : ∀ {b : Addr} {m : Str → Option Value}, s1.heap.Ns b m → (hidT s1.heap H).Ns b m := fun {b m} ⟨o, es, ep, e, d, r⟩ =>
      ⟨o, es, ep, hidT_get e (free e (fun _ _ z => by rw [d] at z; cases z) (fun z => by rw [d] at z; cases z)), d, r⟩
    have kinH : K.In (hidT s1.heap H) := fun b o e => hidT_get (KX b o e) (by
      rcases only b with z | z | ⟨z, z2, _⟩
      · exact z
      · obtain ⟨p, hp, ep⟩ := inT z
        have := nT p hp
        rw [ep, e] at this
        cases this
      · rw [z, z2] at e
        cases e)
    have modH : Mod K mg (hidT s1.heap H) := ⟨kinH, nsH hns, ⟨mb, nsH hb, hbb⟩, let ⟨mc, h1, h2⟩ := hlim; ⟨mc, nsH h1, h2⟩⟩
    have env0 : Env0 P w K mg (hidT s1.heap H) callerA [] s1 H := ⟨rfl, modH, fun b o e => of_hidT e, Nat.le_of_eq (hidT_size _ _), trivial, fun b hb => (by cases hb), hok, .of_eq hgen⟩
    have tabB : ∀ p ∈ cs, TabB (hidT s1.heap H) mg p.1 p.2 := fun p hp => by
      refine ⟨?_, ?_, fun z => ?_⟩
      · obtain ⟨o, us, file, tf, fl, tg, inF, tx, tt, e, c1, d, i11, rest⟩ := hC p hp
        exact ⟨o, us, file, tf, fl, tg, inF, tx, tt, hidT_get e (free e (fun _ _ z => by rw [d] at z; cases z) (fun z => by rw [d] at z; cases z; cases i11)), c1, d, i11, rest⟩
      · obtain ⟨bm, ob, b1, b2, e, b4, b5, d⟩ := hbm
        refine ⟨bm, ob, b1, b2, fun z => ?_, fun z => ?_, hidT_get e (free e (fun _ _ z => by rw [d] at z; cases z) (fun z => by rw [d] at z; cases z)), b4, b5, d⟩
        · obtain ⟨o, es, ep, e', d', _⟩ := hns
          rw [z, e'] at e
          cases e
          rw [d'] at d
          cases d
        · rw [z, hT p hp] at e
          cases e
          cases d
      · obtain ⟨o, es, ep, e, d, _⟩ := hns
        rw [z, hT p hp] at e
        cases e
        cases d
    refine codeAny_mono ((F _ kinH (nsH hns) tabB).run callerA [] s1 H ⟨[.ref a], []⟩ [.ref a] [.ref a] _ _ ⟨hr, rfl⟩ env0 (hbind s1 (.ref a)) (.cons rfl .nil) (hsp H hH hS)) fun r s' h => ?_
    match r, h with
    | .error e, h => exact False.elim h
    | .ok .next, h => exact False.elim h
    | .ok .brk, h => exact False.elim h
    | .ok .cont, h => exact False.elim h
    | .ok (.ret u), h =>
      obtain ⟨v, H', os, bare, un, hok', r', q⟩ := h
      obtain rfl : v = .bl true := q
      obtain rfl : u = Value.bool true := r'
      have rest : ∀ b o, b ∉ T → s1.heap.get? b = some o → s'.heap.get? b = some o := fun b o nb e => by
        rcases only b with z | z | ⟨_, _, ob, xs, z⟩
        · exact un.keep b o e z (by intro z; cases z) (by intro z; cases z)
        · exact absurd z nb
        · have e1 := (hok b _ z).1
          rw [e] at e1
          cases e1
          exact (hok' b _ (un.frzs b _ _ z)).1
      have more : ∀ {b : Addr}, b ∈ T → ∃ p ∈ cs, p.2 = b ∧ ∃ us : Array Value, s'.heap.get? b = some { cls := .none, data := .fields us } := fun {b} h => by
        obtain ⟨p, hp, e⟩ := inT h
        obtain ⟨us, z⟩ := un.tbls p.2 #[] (hH p hp)
        exact ⟨p, hp, e, _, by rw [← e]; exact hok' p.2 _ z⟩
      refine ⟨rfl, ⟨fun b o e => ?_, fun b o e => ?_⟩, os, bare⟩
      · by_cases hbT : b ∈ T
        · obtain ⟨p, hp, ep, us, hm⟩ := more hbT
          have e' := (tab hbT).symm.trans e
          cases e'
          subst ep
          exact .inr (.inl ⟨((hC p hp).tab (hT p hp)).isCodeTable, rfl, #[], us, rfl, by rw [Array.empty_append]; exact hm⟩)
        · exact .inl (rest b o hbT e)
      · by_cases hbT : b ∈ T
        · obtain ⟨_, _, _, us, hm⟩ := more hbT
          exact ⟨_, hm⟩
        · exact ⟨o, rest b o hbT e⟩
  let H0 : Hp := fun b => if b ∈ T then some (.tbl #[]) else none
  have h0T : ∀ {b : Addr}, b ∈ T → H0 b = some (.tbl #[]) := fun h => if_pos h
  have h0N : ∀ {b : Addr}, b ∉ T → H0 b = none := fun h => if_neg h
  have ok0 : HOk P w H0 s1.heap := fun b u z => by
    by_cases h : b ∈ T
    · rw [h0T h] at z
      cases z
      exact tab h
    · rw [h0N h] at z
      cases z
  cases hk : K.lookup a with
  | some o =>
    have e := KX a o hk
    rw [ha] at e
    cases e
    refine core H0 (fun p hp => h0T (List.mem_map.mpr ⟨p, hp, rfl⟩)) (.inr ⟨_, vs.toArray, _, hk, rfl, rfl, rfl, by rw [List.size_toArray, hi.length]; exact hl, by simpa using rv⟩) ok0 fun b => ?_
    by_cases h : b ∈ T
    · exact .inr (.inl h)
    · exact .inl (h0N h)
  | none =>
    refine core (upd H0 a (.frz { cls := .type "list", data := .seq vs.toArray } (.lst (ns.map V.int)))) (fun p hp => ?_) (.inl (.inr ⟨_, upd_same⟩)) (fun b u z => ?_) fun b => ?_
    · have h : p.2 ∈ T := List.mem_map.mpr ⟨p, hp, rfl⟩
      rw [upd_ne (fun e => aT (by rw [← e]; exact h))]
      exact h0T h
    · by_cases hba : b = a
      · subst hba
        rw [upd_same] at z
        cases z
        exact ⟨ha, by rw [List.length_map]; exact hl, vs, _, rv, ha⟩
      · rw [upd_ne hba] at z
        by_cases h : b ∈ T
        · rw [h0T h] at z
          cases z
          exact tab h
        · rw [h0N h] at z
          cases z
    · by_cases hba : b = a
      · subst hba
        exact .inr (.inr ⟨rfl, hk, _, _, upd_same⟩)
      · rw [upd_ne hba]
        by_cases h : b ∈ T
        · exact .inr (.inl h)
        · exact .inl (h0N h)
/-- what is to be shown of a law whose defs make lambdas: cs, the code objects and their tables -/
structure LawG (l : PySem.W.OpenLaw) (w : World) (K : PySem.W.Frag) (k n : Nat) (x : Str) (mg : Str → Option Value) (fa : Addr) (h : Heap) (fd : FuncData) (cs : List (Addr × Addr)) (sp : Sp) : Prop where
  tabs : ∀ p ∈ cs, h.get? p.2 = some { cls := .none, data := .fields #[] }
  own : ∀ p ∈ cs, K.lookup p.2 = none
  code : ∀ p ∈ cs, PySem.W.CodeHd h p.1 p.2
  binds : ∀ (s : Shared) (u : Value), BindsTo s fd ⟨[u], []⟩ [(x, u)]
  start : ∀ (H : Hp) (a : Addr) (ns : List Int), ns.length ≤ n → (∀ z ∈ ns, Builtin.Int.intBits z ≤ 1048576) → (∀ p ∈ cs, H p.2 = some (.tbl #[])) → SqL K H a (ns.map V.int) → sp [.ref a] H (fun v _ => v = .bl true) E0
  ok : ∀ base : Heap, K.In base → base.Ns mainGlobals mg → (∀ p ∈ cs, TabB base mg p.1 p.2) → FnG l.prog w K mg base CX0 k fa fd [x] sp
theorem walkGT {l : PySem.W.OpenLaw} {n k : Nat} {q : Program} {loose : List Str} {XP : (Str → Option Value) → Heap → Prop} {YP : World → Heap → Prop} {d : DefRec} {K : Params → PySem.W.Frag} {x : Str}
    (hn : l.most = some n) (hn2 : n ≤ sizeLine) (hdf : d.params.defaults = []) (hr : Room k callerA) (hY : ∀ (w : World) (h : Heap), YP w h → (K w.params).In h)
    (F : ∀ (w : World) (mg : Str → Option Value) (fa : Addr) (h : Heap), YP w h → (K w.params).In h → h.Ns mainGlobals mg → mg d.name = some (.ref fa) → ∃ fd cs sp, LawG l w (K w.params) k n x mg fa h fd cs sp) :
    PySem.W.WalkO q loose XP YP l.row.toRowW d [] (fun f vs => PySem.call f vs) := by
  refine Att.attach_callB hn hdf fun w s0 s1 mg mb fa o pm cd doc a vs ns G Y ho hd hcd hmg hobj hints hlen hbits hgen => ?_
  have KX := hY w _ Y
  obtain ⟨fd, cs, sp, L⟩ := F w mg fa _ Y KX G.T.g hmg
  exact lawGT KX G.T.g G.T.b G.T.builtins G.T.nolimit hgen L.tabs L.own L.code G.T.bmain hobj hints (Nat.le_trans hlen hn2) hr L.ok L.binds (fun H hH hS => L.start H a ns hlen hbits hH hS)
end Hw

set_option Elab.async false
set_option linter.all false
set_option maxRecDepth 100000
set_option maxHeartbeats 4000000
namespace Hw
open PySem PySem.Spec L2 PyProof PyProof.Rows
/-- the facts of an error class, to be decided over a written part -/
def caughtB (K : PySem.W.Frag) (CS Dc : Addr) : Bool :=
  [decide (PySem.W.findIn K (.ref Dc) "__getattribute__" = some (some (.builtin "BaseException.__getattribute__"))), decide (PySem.W.findIn K (.ref Dc) "__getattr__" = some none), decide (PySem.W.subIn K (.ref Dc) (.type "BaseException") = some true),
   PySem.W.hasDictIn K Dc, decide (PySem.W.findIn K (.ref Dc) "__class__" = some (some (.builtin "object.__class__"))), decide (PySem.W.specialIn K (.builtin "object.__class__") "__get__" = some (some (.builtin "getset_descriptor.__get__"))),
   decide (PySem.W.takesIn K (.builtin "object.__class__") = some true), decide (PySem.W.mroIn K Dc (.type "object") = some true), decide (PySem.W.findIn K (.ref Dc) "value" = some none), decide (PySem.W.exmOne K (.ref Dc) (.ref CS) = some true)].all id
theorem caught_by {K : PySem.W.Frag} {CS Dc dd : Addr} (h : caughtB K CS Dc = true) : Caught K CS (.ref Dc) (some dd) Dc dd := by
  unfold caughtB at h
  simp only [List.all_cons, List.all_nil, Bool.and_true, id, Bool.and_eq_true, decide_eq_true_eq] at h
  obtain ⟨h1, h2, h3, h4, h5, h6, h7, h8, h9, h10⟩ := h
  exact ⟨rfl, rfl, h10, ⟨h1, h2, h3, h4, h5, h6, h7, h8⟩, ⟨h1, h2, h3, h4⟩, h9⟩
end Hw

set_option Elab.async false
set_option linter.all false
set_option maxRecDepth 100000
set_option maxHeartbeats 4000000
namespace Hw
open PySem PySem.Spec L2 PyProof PyProof.Rows
/-! the package's errors, raised -/
/-- a reading by any stronger wish -/
def tMono (te : TE) : TE := fun σ H Q => ∃ Q0 : VK, te σ H Q0 ∧ ∀ v H', Q0 v H' → Q v H'
theorem pe_mono {X : Cx} {e : Expr} {te : TE} (h : PE X e te) : PE X e (tMono te) := by
  refine ⟨fun pins s σ H Q I hh => ?_⟩
  obtain ⟨Q0, h0, hm⟩ := hh
  exact thn (h.run pins s σ H Q0 I h0) fun u s1 ⟨v, H1, I1, r, q⟩ => ⟨v, H1, I1, r, hm _ _ q⟩
/-- C(e): raised, it tells e's value -/
def tHeal (C : Addr) (te : TE) : L2.St → Hp → XK → Prop := fun σ H Q => te σ H fun v H1 => ∀ d, H1 d = none → Q (.ref C) (some d) (upd H1 d (.xd [("value", v)]))
theorem pmk_heal {X : Cx} {x : Str} {C fI : Addr} {k : Nat} {fd : FuncData} {e : Expr} {te : TE} {p pos : Pos} (T : XCls X.K fI C) (F1 : FnOk X.prog X.w X.K X.mg X.base CX0 k fI fd ["self", "value"] (spIniX X.K)) (hr : Room (k + 1) X.A) (hb : Binds X.K fd ["self", "value"] [])
    (hg : Gl X x) (hm : X.mg x = some (.ref C)) (ha : PE X e te) (hdb : (x == ("__debug__" : Str)) = false := by decide) (he : starEach [e] X.env = (false, eval e X.env) :: starEach [] X.env := by rfl) (hpl : (backTo pos (starEach [] X.env)).any (·.1) = false := by rfl) :
    L2N.PMk X (.Call (.Name x p) [e] [] pos) (tHeal C te) := by
  intro pins s σ H Q I h
  refine (pmk_oexN (p := p) (pos := pos) T.o T.ini T.tI F1 hr hb .nil pass0 hg hm (pa_cons (pe_mono ha) pa_nil he) hdb he hpl) pins s σ H Q I ?_
  refine ⟨_, h, fun v H1 q => ⟨by show 1 ≤ 1000; decide, fun a na => ⟨a, C, fI, v, rfl, T, upd_same, fun dx nd ne => ⟨rfl, dx, [("value", v)], upd_same, ?_, ?_, ?_⟩⟩⟩⟩
  · rw [upd_ne ne]; exact upd_same
  · rw [upd_ne ne] at nd; exact nd
  · rw [upd_ne ne] at nd
    have e : upd (del (upd (upd (upd H1 a (exo a C none)) dx (exd dx [("value", v)])) a (exo a C (some dx))) a) dx (.xd [("value", v)]) = upd H1 dx (.xd [("value", v)]) := by
      funext b
      by_cases h1 : b = dx
      · subst h1; rw [upd_same, upd_same]
      · rw [upd_ne h1, upd_ne h1]
        by_cases h2 : b = a
        · subst h2; rw [del_same]; exact na.symm
        · rw [del_ne h2, upd_ne h2, upd_ne h1, upd_ne h2]
    rw [e]
    exact q dx nd
theorem rs_expr {te : TE} {u : TS} {D : Ends} {σ : L2.St} {H : Hp} (h : te σ H fun _ H1 => u D σ H1) : tSeq (tDrop te) u D σ H := h
/-- as Fun.ok, for a def that may raise, the exception's context being None -/
theorem okN {P : Program} {w : World} {K : PySem.W.Frag} {mg : Str → Option Value} {base : Heap} {x qual : Str} {st : Stmt} {f : Addr} {fd : FuncData} {N ps : List Str} {k : Nat} {sp : Sp} (F : Fun K x qual st f fd) (S : FnScope N ps (defScope st)) (len : ∀ vs H Q E, sp vs H Q E → vs.length = ps.length)
    (hbody : ∀ (cdv : Value) (A : Around) (outer : List Env) (s : Shared) (H : Hp) (vs : List V) (Q : VK) (E : XK), Room k (A.deeper (envOfC qual (defScope st) s.heap.objs.size f cdv)) → sp vs H Q E →
      ∃ t, PSs (cxOf (L2N.CX P w) P w K mg base N qual (defScope st) f cdv A outer s H E) (defBody st) t ∧ t { nx := fun _ H' => Q .non H', rt := Q } (start N vs) H) : FnOk P w K mg base (L2N.CX P w) (k + 1) f fd ps sp := by
  obtain ⟨oc, od, kV, doc, pm, an, cdv, ct, osl, rfl, lk, hcd⟩ := F.ex
  exact fn_of lk hcd S len fun A outer s H vs Q E hr hsp => hbody cdv A outer s H vs Q E hr hsp
section
variable {P : Program} {w : World} {K : PySem.W.Frag} {mg : Str → Option Value} {base : Heap} {N : List Str} {qual : Str} {sc : Scope} {f : Addr} {cdv : Value} {A : Around} {outer : List Env} {s : Shared} {H : Hp} {E : XK}
theorem takesN : L2N.Takes (cxOf (L2N.CX P w) P w K mg base N qual sc f cdv A outer s H E) (fun cls d _ H => E cls d H) := L2N.takes_of rfl rfl rfl rfl
theorem passN : Passes (L2N.CX P w) (cxOf (L2N.CX P w) P w K mg base N qual sc f cdv A outer s H E) E := L2N.passes_call takesN fun _ _ _ _ h => h
/-- raise C(e), in a def made by okN -/
theorem ps_heal {x : Str} {C fI : Addr} {k : Nat} {fd : FuncData} {e : Expr} {te : TE} {p pos pos2 : Pos} (T : XCls K fI C) (F1 : FnOk P w K mg base CX0 k fI fd ["self", "value"] (spIniX K)) (hr : Room (k + 1) (A.deeper (envOfC qual sc s.heap.objs.size f cdv))) (hb : Binds K fd ["self", "value"] [])
    (hg : Gl (cxOf (L2N.CX P w) P w K mg base N qual sc f cdv A outer s H E) x) (hm : mg x = some (.ref C)) (ha : PE (cxOf (L2N.CX P w) P w K mg base N qual sc f cdv A outer s H E) e te) (hdb : (x == ("__debug__" : Str)) = false := by decide)
    (he : starEach [e] (cxOf (L2N.CX P w) P w K mg base N qual sc f cdv A outer s H E).env = (false, eval e (cxOf (L2N.CX P w) P w K mg base N qual sc f cdv A outer s H E).env) :: starEach [] (cxOf (L2N.CX P w) P w K mg base N qual sc f cdv A outer s H E).env := by rfl) (hpl : (backTo pos (starEach [] (cxOf (L2N.CX P w) P w K mg base N qual sc f cdv A outer s H E).env)).any (·.1) = false := by rfl) :
    PS (cxOf (L2N.CX P w) P w K mg base N qual sc f cdv A outer s H E) (.Raise (some (.Call (.Name x p) [e] [] pos)) none pos2) (fun _ σ H1 => te σ H1 fun v H2 => ∀ d, H2 d = none → E (.ref C) (some d) (upd H2 d (.xd [("value", v)]))) :=
  L2N.ps_raise rfl takesN (pmk_heal T F1 hr hb hg hm ha hdb he hpl)
end
end Hw

set_option Elab.async false
set_option linter.all false
set_option maxRecDepth 100000
set_option maxHeartbeats 2000000
namespace Hw
open PySem PySem.Spec PyProof.Rows L2
/-! xs != [], xs == [], whatever stands in xs -/
def rNilL (neg : Bool) (K : PySem.W.Frag) : R2 := fun x y H Q => ∃ (a b : Addr) (xs : List V), x = .ref a ∧ y = .ref b ∧ SqL K H a xs ∧ SqL K H b [] ∧ Q (.bl (if neg then !xs.isEmpty else xs.isEmpty)) H
section
variable {X : Cx}
theorem op_neNilL (hu : X.A.units < cLine) : OpR X (compareOp .NotEq) (rNilL true X.K) := by
  intro pins s σ H x y v u Q I rx ry h
  obtain ⟨a, b, xs, rfl, rfl, ha, hb, q⟩ := h
  cases rx
  cases ry
  obtain ⟨its, rv, ⟨⟨c1, d1, D1, s1⟩, n1, o1, e1, m1, f1⟩, _⟩ := I.list ha
  obtain ⟨its2, rv2, ⟨⟨c2, d2, D2, s2⟩, n2, o2, e2, m2, f2⟩, _⟩ := I.list hb
  simp only at e1 f1 e2 f2
  subst e1 f1 e2 f2
  have l1 := rv.length
  have l2 := rv2.length
  cases xs with
  | nil =>
    exact richCompare_meets_room (op := .NotEq) ⟨_, o1, rfl⟩ ⟨_, o2, rfl⟩ F.slot_list_ne F.entry_list_ne (F.args_list_ne_2 _ _) (SeqAt.list_neAt a b its.toArray its2.toArray _ _ d1 d2 s1 s2 (by simp only [List.size_toArray]; rw [← l1, ← l2]) (fun _ => true))
      ⟨o1, o2, fun j h1 _ => absurd h1 (by simp only [List.size_toArray]; rw [← l1]; exact Nat.not_lt_zero _), show _ ≠ _ ∧ _ from ⟨(fun z => nomatch z), .bl false, H, I, by
        have e : its = [] := List.length_eq_zero_iff.mp (by rw [← l1]; rfl)
        rw [e]; rfl, q⟩⟩ hu
  | cons x xs =>
    exact richCompare_meets_room (op := .NotEq) ⟨_, o1, rfl⟩ ⟨_, o2, rfl⟩ F.slot_list_ne F.entry_list_ne (F.args_list_ne_2 _ _) (SeqAt.list_ne_lengthsAt a b its.toArray its2.toArray _ _ d1 d2 s1 s2 (by simp only [List.size_toArray]; rw [← l1, ← l2]; rfl))
      ⟨o1, o2, show _ ≠ _ ∧ _ from ⟨(fun z => nomatch z), .bl true, H, I, rfl, q⟩⟩ hu
theorem op_eqNilL (hu : X.A.units < cLine) : OpR X (compareOp .Eq) (rNilL false X.K) := by
  intro pins s σ H x y v u Q I rx ry h
  obtain ⟨a, b, xs, rfl, rfl, ha, hb, q⟩ := h
  cases rx
  cases ry
  obtain ⟨its, rv, pl, _⟩ := I.list ha
  obtain ⟨its2, rv2, pl2, _⟩ := I.list hb
  have l1 := rv.length
  have l2 := rv2.length
  cases xs with
  | nil =>
    have e : its = [] := List.length_eq_zero_iff.mp (by rw [← l1]; rfl)
    refine SeqAt.eq_listAt (e := fun _ => true) pl.isList pl2.isList (by simp only [List.size_toArray]; rw [← l1, ← l2]) hu (fun j h1 _ => absurd h1 (by simp only [List.size_toArray]; rw [← l1]; exact Nat.not_lt_zero _)) ⟨.bl true, H, I, ?_, q⟩
    rw [e]; rfl
  | cons x xs => exact SeqAt.eq_list_lengthsAt pl.isList pl2.isList (by simp only [List.size_toArray]; rw [← l1, ← l2]; rfl) hu ⟨.bl false, H, I, rfl, q⟩
end
end Hw

set_option Elab.async false
set_option linter.all false
set_option maxRecDepth 100000
set_option maxHeartbeats 2000000
namespace PySem
theorem nP_sub_str_dict : isSubtype (.type "str") (.type "dict") = pure false := by rw [isSubtype_type]; kernel_rfl
theorem nP_sub_dict_str : isSubtype (.type "dict") (.type "str") = pure false := by rw [isSubtype_type]; kernel_rfl
end PySem
namespace PySem.SeqAt
open PyProof.Rows
theorem dict_eq_declines_str (l : Addr) (o : Obj) (ho : o.cls = .type "dict") (b : Str) (u : Tok) :
    Meets (Builtin.«dict.__eq__» ⟨[.ref l, .str b u], []⟩) (fun _ R s => s.heap.get? l = some o ∧ R (.ok (.ret .notImplemented)) s) :=
  .of_wp fun prog w A R s h => by obtain ⟨hp, g, d, tk, os⟩ := s; obtain ⟨hl, h⟩ := h; have f1 := nP_sub_str_dict; wp_walk; exact ⟨_, rfl, h⟩
theorem str_eq_declines_dict (b : Str) (u : Tok) (l : Addr) (dd : Option Addr) (es : Array DictEntry) (n : Nat) (sl : Array (Option Value)) :
    Meets (Builtin.«str.__eq__» ⟨[.str b u, .ref l], []⟩) (fun _ R s => s.heap.get? l = some { cls := .type "dict", dict := dd, data := .dict es n, slots := sl } ∧ R (.ok (.ret .notImplemented)) s) :=
  .of_wp fun prog w A R s h => by obtain ⟨hp, g, d, tk, os⟩ := s; obtain ⟨hl, h⟩ := h; wp_walk using wpAny_loadPart' hl, wpAny_load hl; exact ⟨_, rfl, h⟩
theorem RcAt.dict_str {A : Around} {s : Shared} {l : Addr} {o : Obj} {es : Array DictEntry} {n : Nat} (b : Str) (u : Tok) (ho : s.heap.get? l = some o) (hc : o.cls = .type "dict") (hd : o.data = .dict es n) (hu : A.units < cLine) : RcAt A s (.ref l) (.str b u) false := fun prog w E Q h => by
  obtain ⟨cls, dd, data, sl⟩ := o
  simp only at hc hd
  subst hc hd
  exact rc_eq_decline_or (k := false) ⟨_, ho, rfl⟩ (typeIs_str s b u) (by decide) nP_sub_str_dict F.slot_dict_eq F.slot_str_eq_refl
    (fun _ hq => call_meets F.slot_dict_eq ⟨_, ho, rfl⟩ F.entry_dict_eq (F.args_dict_eq_2 _ _) (dict_eq_declines_str l _ rfl b u) ⟨ho, hq⟩)
    (fun _ hq => call_meets F.slot_str_eq_refl (typeIs_str s b u) F.entry_str_eq (F.args_str_eq_2 _ _) (str_eq_declines_dict b u l dd es n sl) ⟨ho, hq⟩)
    (fun _ hq => wpAny_of_eq (rfl : isSame (.ref l) (.str b u) = pure false) hq) (.inr hu) h
end PySem.SeqAt
namespace Hw
open PySem PySem.Spec PyProof.Rows L2
/-! x == z, x any data, z a text -/
def isTx (z : Str) : PyData → Bool
  | .str y => decide (y = z)
  | _ => false
def rEqTx : R2 := fun x y H Q => ∃ (a : Addr) (d : PyData) (z : Str), Dx a H x d ∧ y = .str z ∧ Q (.bl (isTx z d)) H
theorem op_eqTx {X : Cx} (hu : X.A.units < cLine) : OpR X (compareOp .Eq) rEqTx := by
  intro pins s σ H x y v u Q I rx ry h
  obtain ⟨a, d, z, hd, rfl, q⟩ := h
  obtain ⟨t, rfl⟩ := ry
  cases hd with
  | flat e =>
    refine op_eq pins s σ H _ (.str z) v (.str z t) Q I rx ⟨t, rfl⟩ ?_
    cases x with
    | non => cases e; exact ⟨rfl, by rw [show decide (V.non = V.str z) = false from decide_eq_false (fun y => nomatch y)]; exact q⟩
    | bl b => cases e; exact ⟨rfl, by rw [show decide (V.bl b = V.str z) = false from decide_eq_false (fun y => nomatch y)]; exact q⟩
    | int b => cases e; exact ⟨rfl, by rw [show decide (V.int b = V.str z) = false from decide_eq_false (fun y => nomatch y)]; exact q⟩
    | str b =>
      cases e
      refine ⟨rfl, ?_⟩
      have e2 : decide (V.str b = V.str z) = decide (b = z) := by
        rw [decide_eq_decide]
        exact ⟨fun y => V.str.inj y, fun y => by rw [y]⟩
      rw [e2]
      exact q
    | byt b => cases e
    | flt b => cases e
    | ref a => cases e
    | ty n => cases e
  | lst h1 h2 h3 =>
    cases rx
    obtain ⟨its, rv, pl, _⟩ := I.list (sql_of h1)
    exact SeqAt.RcAt.list_str z t pl.isList hu X.prog X.w _ _ ⟨.bl false, H, I, rfl, q⟩
  | tup h1 h2 h3 =>
    cases rx
    obtain ⟨its, rv, pl, _⟩ := I.tuple (sqt_of h1)
    exact SeqAt.RcAt.tuple_str z t pl hu X.prog X.w _ _ ⟨.bl false, H, I, rfl, q⟩
  | dct h1 h2 h3 h4 =>
    cases rx
    obtain ⟨_, _, vs, rel, o, es, ep, ho, hx, hdat, _⟩ := dk_of I.hok h1
    exact SeqAt.RcAt.dict_str z t ho hx.1 hdat hu X.prog X.w _ _ ⟨.bl false, H, I, rfl, q⟩
end Hw

set_option Elab.async false
set_option linter.all false
set_option maxRecDepth 100000
set_option maxHeartbeats 4000000
namespace Hw
open PySem L2 PyProof.Rows
abbrev sWithin : Stmt := topS 1
abbrev sIniH : Stmt := inClass (topS 5) 0
section
variable {P : Program} {w : World} {K : PySem.W.Frag} {mg : Str → Option Value} {base : Heap}
theorem scIniH : FnScope ["self", "value"] ["self", "value"] (defScope sIniH) := ⟨rfl, rfl, rfl, by decide +kernel, rfl, by decide +kernel, by decide +kernel⟩
/-- HealError.__init__ -/
theorem ok_iniH {f : Addr} {fd : FuncData} {k : Nat} (F : Fun K "__init__" "HealError.__init__" sIniH f fd) : FnOk P w K mg base CX0 (k + 1) f fd ["self", "value"] (spIniX K) := by
  refine F.ok scIniH (fun vs H Q E h => ?_) (fun cdv A outer s H vs Q E hr h => ?_)
  · obtain ⟨a, C, fI, v, rfl, _⟩ := h
    rfl
  · obtain ⟨a, C, fI, v, rfl, T, ha, q⟩ := h
    refine ⟨_, pss_one (ps_ost (pv 0) (pv 1) rfl), ?_⟩
    exact ⟨v, rfl, .ref a, rfl, a, C, rfl, T.o, T.noV, .inl ⟨ha, q⟩⟩
end
/-! what isinstance says of data -/
def tyD : PyData → String
  | .none => "NoneType"
  | .bool _ => "bool"
  | .int _ => "int"
  | .str _ => "str"
  | .list _ => "list"
  | .tuple _ => "tuple"
  | .dict _ => "dict"
theorem Dx.tyx {K : PySem.W.Frag} {a : Addr} {H : Hp} {v : V} {d : PyData} (h : Dx a H v d) : TyX K H v (.type (tyD d)) := by
  cases h with
  | flat e =>
    cases v with
    | non => cases e; exact .base .non
    | bl b => cases e; exact .base (.bl b)
    | int i => cases e; exact .base (.int i)
    | str x => cases e; exact .base (.str x)
    | byt b => cases e
    | flt b => cases e
    | ref a => cases e
    | ty n => cases e
  | lst h1 _ _ => exact .base (.lst h1)
  | tup h1 _ _ => exact .base (.tup h1)
  | dct h1 _ _ _ => exact .base (.dK h1)
def isStrD : PyData → Bool
  | .str _ => true
  | _ => false
def isIntD : PyData → Bool
  | .int _ => true
  | .bool _ => true
  | _ => false
def isBoolD : PyData → Bool
  | .bool _ => true
  | _ => false
theorem kit_str {K : PySem.W.Frag} (d : PyData) : PySem.W.kitOne K (.type (tyD d)) (.type "str") = some (isStrD d) := by
  cases d with
  | none => exact kit_ty (show kitB "NoneType" "str" = some false by decide +kernel)
  | bool b => exact kit_ty (show kitB "bool" "str" = some false by decide +kernel)
  | int i => exact kit_ty (show kitB "int" "str" = some false by decide +kernel)
  | str x => exact kit_ty (show kitB "str" "str" = some true by decide +kernel)
  | list l => exact kit_ty (show kitB "list" "str" = some false by decide +kernel)
  | tuple l => exact kit_ty (show kitB "tuple" "str" = some false by decide +kernel)
  | dict l => exact kit_ty (show kitB "dict" "str" = some false by decide +kernel)
theorem kit_int {K : PySem.W.Frag} (d : PyData) : PySem.W.kitOne K (.type (tyD d)) (.type "int") = some (isIntD d) := by
  cases d with
  | none => exact kit_ty (show kitB "NoneType" "int" = some false by decide +kernel)
  | bool b => exact kit_ty (show kitB "bool" "int" = some true by decide +kernel)
  | int i => exact kit_ty (show kitB "int" "int" = some true by decide +kernel)
  | str x => exact kit_ty (show kitB "str" "int" = some false by decide +kernel)
  | list l => exact kit_ty (show kitB "list" "int" = some false by decide +kernel)
  | tuple l => exact kit_ty (show kitB "tuple" "int" = some false by decide +kernel)
  | dict l => exact kit_ty (show kitB "dict" "int" = some false by decide +kernel)
theorem kit_bool {K : PySem.W.Frag} (d : PyData) : PySem.W.kitOne K (.type (tyD d)) (.type "bool") = some (isBoolD d) := by
  cases d with
  | none => exact kit_ty (show kitB "NoneType" "bool" = some false by decide +kernel)
  | bool b => exact kit_ty (show kitB "bool" "bool" = some true by decide +kernel)
  | int i => exact kit_ty (show kitB "int" "bool" = some false by decide +kernel)
  | str x => exact kit_ty (show kitB "str" "bool" = some false by decide +kernel)
  | list l => exact kit_ty (show kitB "list" "bool" = some false by decide +kernel)
  | tuple l => exact kit_ty (show kitB "tuple" "bool" = some false by decide +kernel)
  | dict l => exact kit_ty (show kitB "dict" "bool" = some false by decide +kernel)
theorem Dx.int {a : Addr} {H : Hp} {v : V} {i : Int} (h : Dx a H v (.int i)) : v = .int i := by
  cases h with
  | flat e => cases v <;> first | (cases e; rfl) | cases e
theorem Dx.str {a : Addr} {H : Hp} {v : V} {z : Str} (h : Dx a H v (.str z)) : v = .str z := by
  cases h with
  | flat e => cases v <;> first | (cases e; rfl) | cases e
/-- texts of a tuple of the module -/
def strOf : Value → Option Str
  | .str z _ => some z
  | _ => none
def tupStrB (K : PySem.W.Frag) (a : Addr) (xs : List Str) : Bool := match K.lookup a with
  | some ⟨.type "tuple", _, .seq its _, _⟩ => its.toList.map strOf == xs.map some && decide (its.size ≤ 1000)
  | _ => false
theorem vals_strOf : ∀ {us : List Value} {xs : List Str}, us.map strOf = xs.map some → Vals (xs.map V.str) us
  | [], [], _ => .nil
  | [], _ :: _, e => by cases e
  | _ :: _, [], e => by cases e
  | u :: us, x :: xs, e => by
    injection e with e1 e2
    refine .cons ?_ (vals_strOf e2)
    cases u <;> first | (cases e1; exact ⟨_, rfl⟩) | cases e1
theorem tupStrB_ok {K : PySem.W.Frag} {a : Addr} {xs : List Str} (h : tupStrB K a xs = true) (H : Hp) : SqT K H a (xs.map V.str) := by
  unfold tupStrB at h
  split at h
  · rename_i dd its n sl ho
    simp only [Bool.and_eq_true, beq_iff_eq, decide_eq_true_eq] at h
    exact .inr ⟨_, its, _, ho, rfl, rfl, by rw [sizeLine_eq]; omega, vals_strOf h.1⟩
  · cases h
def rulesL : List Str := ["none", "line", "ring", "star", "least", "all"]
def breaksL : List Str := ["more", "far", "parted", "changes"]
def isRuleD : PyData → Bool
  | .str z => decide (z ∈ rulesL)
  | _ => false
def isKindD : PyData → Bool
  | .str z => decide (z ∈ breaksL)
  | _ => false
def withinD (lo hi : Int) : PyData → Bool
  | .int g => decide (lo ≤ g ∧ g ≤ hi)
  | _ => false
def goalD (dk dg : PyData) : Bool := match dk with
  | .str z => if z = "parted" then withinD 0 0 dg else withinD 1 40 dg
  | _ => withinD 1 40 dg
theorem inV_strs {z : Str} {xs : List Str} : inV (V.str z) (xs.map V.str) = decide (z ∈ xs) := by
  unfold inV
  rw [List.any_map]
  induction xs with
  | nil => rfl
  | cons x xs ih =>
    rw [List.any_cons, ih]
    by_cases h : z = x
    · subst h
      simp [eqV]
    · have : ¬ x = z := fun e => h e.symm
      simp [eqV, h, this]
theorem all_flat_strs (xs : List Str) : (xs.map V.str).all flatV = true := by
  rw [List.all_map]
  exact List.all_eq_true.mpr fun _ _ => rfl
def spWithinA : Sp := fun vs H Q _ => ∃ (v : V) (a : Addr) (d : PyData) (lo hi : Int), vs = [v, .int lo, .int hi] ∧ Dx a H v d ∧ Q (.bl (withinD lo hi d)) H
def spChkR (cR : Addr) : Sp := fun vs H Q E => ∃ (v : V) (a : Addr) (d : PyData), vs = [v] ∧ Dx a H v d ∧ (isRuleD d = true → Q .non H) ∧ (isRuleD d = false → ∀ dd, H dd = none → E (.ref cR) (some dd) (upd H dd (.xd [("value", v)])))
section
variable {P : Program} {w : World} {K : PySem.W.Frag} {mg : Str → Option Value} {base : Heap}
theorem scWithin : FnScope ["value", "least", "most"] ["value", "least", "most"] (defScope sWithin) := ⟨rfl, rfl, rfl, by decide +kernel, rfl, by decide +kernel, by decide +kernel⟩
theorem ok_withinA {f : Addr} {fd : FuncData} {k : Nat} (F : Fun K "is_within" "is_within" sWithin f fd) (B : Blt mg) (bi : mg "isinstance" = none) (bb : mg "bool" = none) : FnOk P w K mg base CX0 (k + 1) f fd ["value", "least", "most"] spWithinA := by
  refine F.ok scWithin (fun vs H Q E h => ?_) (fun cdv A outer s H vs Q E hr h => ?_)
  · obtain ⟨v, a, d, lo, hi, rfl, _⟩ := h
    rfl
  · obtain ⟨v, a, d, lo, hi, rfl, hd, q⟩ := h
    refine ⟨_, pss_cons (ps_if (PW.pt (pw_or (pt_not (pt_val (pe_callB call_isi (by rfl) bi PyProof.Rows.boot_isinstance (pa_cons (pv 0) (pa_cons (pe_bltn (v := .ty "int") (by rfl) B.int (by decide +kernel) rfl) pa_nil)))))
        (pw_or1 (pt_val (pe_callB call_isi (by rfl) bi PyProof.Rows.boot_isinstance (pa_cons (pv 0) (pa_cons (pe_bltn (v := .ty "bool") (by rfl) bb (by decide +kernel) rfl) pa_nil))))))) (pss_one (ps_ret pe_bl)) pss_nil)
      (pss_one (ps_ret (pe_chain op_le op_le (pv 1) (pv 0) (pv 2)))), ?_⟩
    refine rs_no ?_
    refine ⟨v, rfl, v, .ty "int", .type (tyD d), .type "int", isIntD d, rfl, .ty _, hd.tyx, kit_int d, isIntD d, rfl, ?_⟩
    by_cases hi' : isIntD d = true
    · rw [hi']
      refine ⟨v, rfl, v, .ty "bool", .type (tyD d), .type "bool", isBoolD d, rfl, .ty _, hd.tyx, kit_bool d, isBoolD d, rfl, ?_⟩
      by_cases hb : isBoolD d = true
      · rw [hb]
        show if true = true then _ else _
        rw [if_pos rfl]
        have e : withinD lo hi d = false := by cases d <;> first | rfl | cases hb
        rw [e] at q
        exact q
      · rw [Bool.not_eq_true] at hb
        rw [hb]
        show if false = true then _ else _
        rw [if_neg Bool.false_ne_true]
        obtain ⟨g, rfl⟩ : ∃ g, d = .int g := by
          cases d with
          | int g => exact ⟨g, rfl⟩
          | bool b => cases hb
          | _ => cases hi'
        obtain rfl := hd.int
        refine ⟨.int lo, rfl, .int g, rfl, lo, g, rfl, rfl, decide (lo ≤ g), rfl, ?_⟩
        by_cases h1 : lo ≤ g
        · rw [decide_eq_true h1]
          refine ⟨.int hi, rfl, g, hi, rfl, rfl, ?_⟩
          have e : decide (g ≤ hi) = withinD lo hi (.int g) := by simp [withinD, h1]
          show Q (.bl (decide (g ≤ hi))) H
          rw [e]; exact q
        · rw [decide_eq_false h1]
          have e : withinD lo hi (.int g) = false := decide_eq_false fun z => h1 z.1
          rw [e] at q; exact q
    · rw [Bool.not_eq_true] at hi'
      rw [hi']
      show if true = true then _ else _
      rw [if_pos rfl]
      have e : withinD lo hi d = false := by cases d <;> first | rfl | cases hi'
      rw [e] at q
      exact q
end
end Hw

set_option Elab.async false
set_option linter.all false
set_option maxRecDepth 100000
set_option maxHeartbeats 4000000
namespace HI
open PySem L2 PyProof.Rows Hw
abbrev sLisInt : Stmt := topS 38
abbrev sAreLim : Stmt := topS 42
def isTupD : PyData → Bool
  | .tuple _ => true
  | _ => false
theorem kit_tuple {K : PySem.W.Frag} (d : PyData) : PySem.W.kitOne K (.type (tyD d)) (.type "tuple") = some (isTupD d) := by
  cases d with
  | none => exact kit_ty (show kitB "NoneType" "tuple" = some false by decide +kernel)
  | bool b => exact kit_ty (show kitB "bool" "tuple" = some false by decide +kernel)
  | int i => exact kit_ty (show kitB "int" "tuple" = some false by decide +kernel)
  | str x => exact kit_ty (show kitB "str" "tuple" = some false by decide +kernel)
  | list l => exact kit_ty (show kitB "list" "tuple" = some false by decide +kernel)
  | tuple l => exact kit_ty (show kitB "tuple" "tuple" = some true by decide +kernel)
  | dict l => exact kit_ty (show kitB "dict" "tuple" = some false by decide +kernel)
theorem dx_tup {a : Addr} {H : Hp} {v : V} {ds : List PyData} (h : Dx a H v (.tuple ds)) : ∃ t xs, v = .ref t ∧ H t = some (.tup xs) ∧ t ≠ a ∧ DxAll a H xs ds := by
  cases h with
  | flat e => cases v <;> cases e
  | tup h1 h2 h3 => exact ⟨_, _, rfl, h1, h2, h3⟩
theorem dx_get {a : Addr} {H : Hp} : ∀ {xs : List V} {ds : List PyData} {i : Nat} {v : V}, DxAll a H xs ds → xs[i]? = some v → ∃ d, ds[i]? = some d ∧ Dx a H v d
  | _, _, _, _, .nil, e => by simp at e
  | _, _, 0, _, .cons x _, e => by
    simp at e; subst e
    exact ⟨_, rfl, x⟩
  | _, _, i + 1, v, .cons _ t, e => by
    obtain ⟨d, h1, h2⟩ := dx_get (i := i) t (by simpa using e)
    exact ⟨d, by simpa using h1, h2⟩
theorem isTup_ex {d : PyData} (h : isTupD d = true) : ∃ ds, d = .tuple ds := by
  cases d with
  | tuple ds => exact ⟨ds, rfl⟩
  | _ => cases h
def limD : PyData → Bool
  | .tuple ds => decide (1 ≤ ds.length ∧ ds.length ≤ 200) && ds.all (withinD 0 200)
  | _ => false
theorem limD_no {d : PyData} (h : isTupD d = false) : limD d = false := by cases d <;> first | rfl | cases h
theorem limD_in {ds : List PyData} (h : 1 ≤ ds.length ∧ ds.length ≤ 200) : limD (.tuple ds) = (ds.map (withinD 0 200)).all id := by
  show (decide (1 ≤ ds.length ∧ ds.length ≤ 200) && ds.all (withinD 0 200)) = _
  rw [decide_eq_true h, List.all_map]; rfl
theorem limD_out {ds : List PyData} (h : ¬ (1 ≤ ds.length ∧ ds.length ≤ 200)) : limD (.tuple ds) = false := by
  show (decide (1 ≤ ds.length ∧ ds.length ≤ 200) && ds.all (withinD 0 200)) = _
  rw [decide_eq_false h]; rfl
structure Lims (ls : List Int) : Prop where
  one : 1 ≤ ls.length
  most : ls.length ≤ 200
  each : ∀ l ∈ ls, 0 ≤ l ∧ l ≤ 200
theorem within_ints {a : Addr} {H : Hp} {lo hi : Int} : ∀ {xs : List V} {ds : List PyData}, DxAll a H xs ds → ds.all (withinD lo hi) = true → ∃ ls : List Int, ds = ls.map PyData.int ∧ xs = ls.map V.int ∧ ∀ l ∈ ls, lo ≤ l ∧ l ≤ hi
  | _, _, .nil, _ => ⟨[], rfl, rfl, fun _ h => nomatch h⟩
  | _, _, .cons (d := d) x t, h => by
    rw [List.all_cons, Bool.and_eq_true] at h
    obtain ⟨ls, e1, e2, e3⟩ := within_ints t h.2
    obtain ⟨g, rfl⟩ : ∃ g, d = .int g := by
      cases d with
      | int g => exact ⟨g, rfl⟩
      | _ => exact absurd h.1 (by simp [withinD])
    obtain rfl := x.int
    refine ⟨g :: ls, by rw [e1]; rfl, by rw [e2]; rfl, fun l hl => ?_⟩
    rcases List.mem_cons.mp hl with rfl | hl
    · have := h.1
      simpa [withinD] using this
    · exact e3 l hl
/-- limits as they lie there -/
theorem limD_ex {a : Addr} {H : Hp} {v : V} {d : PyData} (x : Dx a H v d) (h : limD d = true) : ∃ t ls, v = .ref t ∧ d = .tuple (ls.map PyData.int) ∧ t ≠ a ∧ H t = some (.tup (ls.map V.int)) ∧ Lims ls := by
  obtain ⟨ds, rfl⟩ : ∃ ds, d = .tuple ds := by
    cases d with
    | tuple ds => exact ⟨ds, rfl⟩
    | _ => cases h
  obtain ⟨t, xs, rfl, e, ne, xa⟩ := dx_tup x
  unfold limD at h
  rw [Bool.and_eq_true] at h
  obtain ⟨ls, rfl, rfl, w⟩ := within_ints xa h.2
  have hl := of_decide_eq_true h.1
  rw [List.length_map] at hl
  exact ⟨t, ls, rfl, rfl, ne, e, ⟨hl.1, hl.2, w⟩⟩
def spIsLims : Sp := fun vs H Q _ => ∃ (v : V) (a : Addr) (d : PyData), vs = [v] ∧ Dx a H v d ∧ ∀ H', Same H H' → Q (.bl (limD d)) H'
def spChkLim (c : Addr) : Sp := fun vs H Q E => ∃ (v : V) (a : Addr) (d : PyData), vs = [v] ∧ Dx a H v d ∧ (limD d = true → ∀ H', Same H H' → Q .non H') ∧ (limD d = false → ∀ dd H', Same H H' → H' dd = none → E (.ref c) (some dd) (upd H' dd (.xd [("value", v)])))
def treeB (ls : List Int) : Bool := !(decide (1 < ls.length) && (decide (0 ∈ ls) || decide (ls.sum < 2 * ((ls.length : Int) - 1))))
def spChkTree (c : Addr) : Sp := fun vs H Q E => ∃ (t : Addr) (ls : List Int), vs = [.ref t] ∧ H t = some (.tup (ls.map V.int)) ∧ (treeB ls = true → Q .non H) ∧ (treeB ls = false → ∀ dd, H dd = none → E (.ref c) (some dd) (upd H dd (.xd [("value", .ref t)])))
theorem inV_ints {z : Int} {ls : List Int} : inV (V.int z) (ls.map V.int) = decide (z ∈ ls) := by
  unfold inV
  rw [List.any_map]
  induction ls with
  | nil => rfl
  | cons x xs ih =>
    rw [List.any_cons, ih]
    by_cases h : z = x
    · subst h
      simp [eqV]
    · have : ¬ x = z := fun e => h e.symm
      simp [eqV, h, this]
theorem all_flat_ints (ls : List Int) : (ls.map V.int).all flatV = true := by
  rw [List.all_map]
  exact List.all_eq_true.mpr fun _ _ => rfl
section
variable {P : Program} {w : World} {K : PySem.W.Frag} {mg : Str → Option Value} {base : Heap}
theorem scLisInt : FnScope ["value", "least", "most"] ["value", "least", "most"] (defScope sLisInt) := ⟨rfl, rfl, rfl, by decide +kernel, rfl, by decide +kernel, by decide +kernel⟩
theorem ok_lisint {f : Addr} {fd : FuncData} {k : Nat} (F : Fun K "_law_is_int" "_law_is_int" sLisInt f fd) (B : Blt mg) (bi : mg "isinstance" = none) (bb : mg "bool" = none) : FnOk P w K mg base CX0 (k + 1) f fd ["value", "least", "most"] spWithinA := by
  refine F.ok scLisInt (fun vs H Q E h => ?_) (fun cdv A outer s H vs Q E hr h => ?_)
  · obtain ⟨v, a, d, lo, hi, rfl, _⟩ := h
    rfl
  · obtain ⟨v, a, d, lo, hi, rfl, hd, q⟩ := h
    refine ⟨_, pss_one (ps_ret (pe_and (pe_callB call_isi (by rfl) bi PyProof.Rows.boot_isinstance (pa_cons (pv 0) (pa_cons (pe_bltn (v := .ty "int") (by rfl) B.int (by decide +kernel) rfl) pa_nil)))
      (pe_and (pe_not (pe_callB call_isi (by rfl) bi PyProof.Rows.boot_isinstance (pa_cons (pv 0) (pa_cons (pe_bltn (v := .ty "bool") (by rfl) bb (by decide +kernel) rfl) pa_nil)))) (pe_one (pe_chain op_le op_le (pv 1) (pv 0) (pv 2)))))), ?_⟩
    refine ⟨v, rfl, v, .ty "int", .type (tyD d), .type "int", isIntD d, rfl, .ty _, hd.tyx, kit_int d, isIntD d, rfl, ?_⟩
    by_cases hi' : isIntD d = true
    · rw [hi']
      refine ⟨v, rfl, v, .ty "bool", .type (tyD d), .type "bool", isBoolD d, rfl, .ty _, hd.tyx, kit_bool d, isBoolD d, rfl, !isBoolD d, rfl, ?_⟩
      by_cases hb : isBoolD d = true
      · rw [hb]
        show Q (.bl false) H
        have e : withinD lo hi d = false := by cases d <;> first | rfl | cases hb
        rw [e] at q
        exact q
      · rw [Bool.not_eq_true] at hb
        rw [hb]
        show if true = true then _ else _
        rw [if_pos rfl]
        obtain ⟨g, rfl⟩ : ∃ g, d = .int g := by
          cases d with
          | int g => exact ⟨g, rfl⟩
          | bool b => cases hb
          | _ => cases hi'
        obtain rfl := hd.int
        refine ⟨.int lo, rfl, .int g, rfl, lo, g, rfl, rfl, decide (lo ≤ g), rfl, ?_⟩
        by_cases h1 : lo ≤ g
        · rw [decide_eq_true h1]
          refine ⟨.int hi, rfl, g, hi, rfl, rfl, ?_⟩
          have e : decide (g ≤ hi) = withinD lo hi (.int g) := by simp [withinD, h1]
          show Q (.bl (decide (g ≤ hi))) H
          rw [e]; exact q
        · rw [decide_eq_false h1]
          have e : withinD lo hi (.int g) = false := decide_eq_false fun z => h1 z.1
          rw [e] at q; exact q
    · rw [Bool.not_eq_true] at hi'
      rw [hi']
      show Q (.bl false) H
      have e : withinD lo hi d = false := by cases d <;> first | rfl | cases hi'
      rw [e] at q
      exact q
theorem scAreLim : FnScope ["value", "one"] ["value"] (defScope sAreLim) := ⟨rfl, rfl, rfl, by decide +kernel, rfl, by decide +kernel, by decide +kernel⟩
theorem ok_arelim {f fW : Addr} {fd fdW : FuncData} {k : Nat} (F : Fun K "_law_are_limits" "_law_are_limits" sAreLim f fd) (B : Blt mg) (bi : mg "isinstance" = none) (bt : mg "tuple" = none) (ba : mg "all" = none)
    (GW : FnOk P w K mg base CX0 k fW fdW ["value", "least", "most"] spWithinA) (gW : mg "_law_is_int" = some (.ref fW)) (kW : PySem.W.keepIn K (.ref fW) = true) (bW : Binds K fdW ["value", "least", "most"] []) :
    FnOk P w K mg base CX0 (k + 1) f fd ["value"] spIsLims := by
  refine F.ok scAreLim (fun vs H Q E h => ?_) (fun cdv A outer s H vs Q E hr h => ?_)
  · obtain ⟨v, a, d, rfl, _⟩ := h
    rfl
  · obtain ⟨v, a, d, rfl, hd, q⟩ := h
    refine ⟨_, pss_one (ps_ret (pe_and (pe_callB call_isi (by rfl) bi PyProof.Rows.boot_isinstance (pa_cons (pv 0) (pa_cons (pe_bltn (v := .ty "tuple") (by rfl) bt (by decide +kernel) rfl) pa_nil)))
      (pe_and (pe_chain op_le op_le pe_int (pe_callB call_len_seq (by rfl) B.len PySem.boot_len (pa_cons (pv 0) pa_nil)) pe_int)
      (pe_one (pe_callB (cr_all rfl) (by rfl) ba PyProof.Rows.boot_all (pa_cons (pe_lc (own := [("one", 1)]) (g := gName 1) (tt := tYes) rfl scAreLim.nd (pi_tup (pv 0)) (blkOk_by (N := ["value", "one"]) (sc := defScope sAreLim) (by decide +kernel))
          (fun _ _ _ _ _ => pg_name (i := 1) scAreLim.nd rfl (Or.inl rfl)) (fun _ _ _ _ _ => pts_nil) (fun _ _ _ _ _ => pe_call GW hr (by rfl) gW kW bW .nil pass0 (pa_cons (pv 1) (pa_cons pe_int (pa_cons pe_int pa_nil))))) pa_nil)))))), ?_⟩
    refine ⟨v, rfl, v, .ty "tuple", .type (tyD d), .type "tuple", isTupD d, rfl, .ty _, hd.tyx, kit_tuple d, isTupD d, rfl, ?_⟩
    cases hT : isTupD d with
    | false =>
      have e := limD_no hT
      rw [e] at q
      exact q H (Same.refl _)
    | true =>
      obtain ⟨ds, rfl⟩ := isTup_ex hT
      obtain ⟨t, xs, rfl, e1, ne, xa⟩ := dx_tup hd
      have hlen := xa.length
      show if true = true then _ else _
      rw [if_pos rfl]
      refine ⟨.ref t, rfl, t, xs, rfl, .inr (sqt_of e1), 1, _, rfl, rfl, _, rfl, ?_⟩
      rw [hlen]
      by_cases h1 : (1 : Int) ≤ (ds.length : Nat)
      · rw [decide_eq_true h1]
        refine ⟨_, _, rfl, rfl, _, rfl, ?_⟩
        by_cases h2 : ((ds.length : Nat) : Int) ≤ 200
        · rw [decide_eq_true h2]
          show if true = true then _ else _
          rw [if_pos rfl]
          refine ⟨.ref t, rfl, t, rfl, ⟨_, sqt_of e1⟩, fun D hD => lc_tup (xs := xs) (fun i H' => Same H H' ∧ H' D = some (.lst (((ds.take i).map (withinD 0 200)).map V.bl))) ⟨same_upd hD, upd_same⟩ (fun i H' _ h => sqt_of (h.1 _ _ e1)) ?_ ?_⟩
          · rintro i x H' hx ⟨sx, eD⟩
            obtain ⟨d', hd', xd⟩ := dx_get xa hx
            refine ⟨rfl, r_yes ?_⟩
            refine ⟨x, rfl, x, a, d', 0, 200, rfl, Dx.keep (.of sx) _ _ xd, _, eD, smallM2 (by rw [List.length_map, List.length_map, List.length_take]; omega), ?_, ?_⟩
            · intro b o e
              rw [upd_ne (ne_of_none e hD)]
              exact sx _ _ e
            · rw [upd_same, take_snoc hd', List.map_append, List.map_append]; rfl
          · rintro H' ⟨sx, eD⟩
            rw [hlen, List.take_length] at eD
            refine ⟨D, _, rfl, sql_of eD, ?_⟩
            have e := limD_in (ds := ds) (by omega)
            rw [← e]
            exact q H' sx
        · rw [decide_eq_false h2]
          have e := limD_out (ds := ds) (by omega)
          rw [e] at q
          exact q H (Same.refl _)
      · rw [decide_eq_false h1]
        have e := limD_out (ds := ds) (by omega)
        rw [e] at q
        exact ⟨false, rfl, q H (Same.refl _)⟩
end
end HI

set_option Elab.async false
set_option linter.all false
set_option maxRecDepth 100000
set_option maxHeartbeats 4000000
namespace HI
open PySem L2 PyProof.Rows Hw
section
variable {P : Program} {w : World} {K : PySem.W.Frag} {mg : Str → Option Value} {base : Heap}
theorem ok_chklim {f fW fI c : Addr} {fd fdW fdI : FuncData} {k j : Nat} (hj : j + 1 ≤ k) (F : Fun K "check_limits" "check_limits" sChkL f fd) (B : Blt mg) (bi : mg "isinstance" = none) (bt : mg "tuple" = none) (ba : mg "all" = none) (hL : ∃ t, mg "MOST_LIMITS" = some (.int 200 t)) (hT : ∃ t, mg "MOST_TIES" = some (.int 200 t))
    (T : XCls K fI c) (gC : mg "BadLimits" = some (.ref c)) (GI : FnOk P w K mg base CX0 j fI fdI ["self", "value"] (spIniX K)) (bI : Binds K fdI ["self", "value"] [])
    (GW : FnOk P w K mg base CX0 k fW fdW ["value", "least", "most"] spWithinA) (gW : mg "is_within" = some (.ref fW)) (kW : PySem.W.keepIn K (.ref fW) = true) (bW : Binds K fdW ["value", "least", "most"] []) :
    FnOk P w K mg base (L2N.CX P w) (k + 1) f fd ["value"] (spChkLim c) := by
  refine okN F scChkL (fun vs H Q E h => ?_) (fun cdv A outer s H vs Q E hr h => ?_)
  · obtain ⟨v, a, d, rfl, _⟩ := h
    rfl
  · obtain ⟨v, a, d, rfl, hd, q1, q2⟩ := h
    obtain ⟨t1, gL⟩ := hL
    obtain ⟨t2, gT⟩ := hT
    refine ⟨_, pss_one (ps_if (pt_not (PW.pt (pw_and (pt_val (pe_callB call_isi (by rfl) bi PyProof.Rows.boot_isinstance (pa_cons (pv 0) (pa_cons (pe_bltn (v := .ty "tuple") (by rfl) bt (by decide +kernel) rfl) pa_nil))))
      (pw_and (pt_chain op_le op_le pe_int (pe_callB call_len_seq (by rfl) B.len PySem.boot_len (pa_cons (pv 0) pa_nil)) (pe_glob (v := .int 200) (by rfl) gL ⟨_, rfl⟩))
      (pw_and1 (pt_val (pe_callB (cr_all rfl) (by rfl) ba PyProof.Rows.boot_all (pa_cons (pe_lc (own := [("limit", 1)]) (g := gName 1) (tt := tYes) rfl scChkL.nd (pi_tup (pv 0)) (blkOk_by (N := ["value", "limit"]) (sc := defScope sChkL) (by decide +kernel))
          (fun _ _ _ _ _ => pg_name (i := 1) scChkL.nd rfl (Or.inl rfl)) (fun _ _ _ _ _ => pts_nil) (fun _ _ _ _ _ => pe_call GW hr (by rfl) gW kW bW .nil pass0 (pa_cons (pv 1) (pa_cons pe_int (pa_cons (pe_glob (v := .int 200) (by rfl) gT ⟨_, rfl⟩) pa_nil))))) pa_nil)))))))) (pss_one (ps_heal T GI (hr.mono hj) bI rfl gC (pv 0))) pss_nil), ?_⟩
    have no : limD d = false → tVar 0 [some v, none] H fun v H2 => ∀ d, H2 d = none → E (.ref c) (some d) (upd H2 d (.xd [("value", v)])) := fun e => ⟨v, rfl, fun dd nd => q2 e dd H (Same.refl _) nd⟩
    refine ⟨v, rfl, v, .ty "tuple", .type (tyD d), .type "tuple", isTupD d, rfl, .ty _, hd.tyx, kit_tuple d, isTupD d, rfl, ?_⟩
    cases hT : isTupD d with
    | false => exact no (limD_no hT)
    | true =>
      obtain ⟨ds, rfl⟩ := isTup_ex hT
      obtain ⟨t, xs, rfl, e1, ne, xa⟩ := dx_tup hd
      have hlen := xa.length
      show if true = true then _ else _
      rw [if_pos rfl]
      refine ⟨.ref t, rfl, t, xs, rfl, .inr (sqt_of e1), 1, _, rfl, rfl, _, rfl, ?_⟩
      rw [hlen]
      by_cases h1 : (1 : Int) ≤ (ds.length : Nat)
      · rw [decide_eq_true h1]
        refine ⟨_, _, rfl, rfl, _, rfl, ?_⟩
        by_cases h2 : ((ds.length : Nat) : Int) ≤ 200
        · rw [decide_eq_true h2]
          show if true = true then _ else _
          rw [if_pos rfl]
          refine ⟨.ref t, rfl, t, rfl, ⟨_, sqt_of e1⟩, fun D hD => lc_tup (xs := xs) (fun i H' => Same H H' ∧ H' D = some (.lst (((ds.take i).map (withinD 0 200)).map V.bl))) ⟨same_upd hD, upd_same⟩ (fun i H' _ h => sqt_of (h.1 _ _ e1)) ?_ ?_⟩
          · rintro i x H' hx ⟨sx, eD⟩
            obtain ⟨d', hd', xd⟩ := dx_get xa hx
            refine ⟨rfl, r_yes ?_⟩
            refine ⟨x, rfl, x, a, d', 0, 200, rfl, Dx.keep (.of sx) _ _ xd, _, eD, smallM2 (by rw [List.length_map, List.length_map, List.length_take]; omega), ?_, ?_⟩
            · intro b o e
              rw [upd_ne (ne_of_none e hD)]
              exact sx _ _ e
            · rw [upd_same, take_snoc hd', List.map_append, List.map_append]; rfl
          · rintro H' ⟨sx, eD⟩
            rw [hlen, List.take_length] at eD
            have e := limD_in (ds := ds) (by omega)
            refine ⟨D, _, rfl, sql_of eD, _, rfl, ?_⟩
            rw [← e]
            cases hl : limD (.tuple ds) with
            | true => exact q1 hl H' sx
            | false => exact ⟨.ref t, rfl, fun dd nd => q2 hl dd H' sx nd⟩
        · rw [decide_eq_false h2]
          exact no (limD_out (ds := ds) (by omega))
      · rw [decide_eq_false h1]
        exact ⟨false, rfl, no (limD_out (ds := ds) (by omega))⟩
theorem ok_chktree {f fI c : Addr} {fd fdI : FuncData} {k : Nat} (F : Fun K "check_tree" "check_tree" sChkT f fd) (B : Blt mg)
    (T : XCls K fI c) (gC : mg "NoTree" = some (.ref c)) (GI : FnOk P w K mg base CX0 k fI fdI ["self", "value"] (spIniX K)) (bI : Binds K fdI ["self", "value"] []) : FnOk P w K mg base (L2N.CX P w) (k + 2) f fd ["limits"] (spChkTree c) := by
  refine okN F scChkT (fun vs H Q E h => ?_) (fun cdv A outer s H vs Q E hr h => ?_)
  · obtain ⟨a, ls, rfl, _⟩ := h
    rfl
  · obtain ⟨a, ls, rfl, e1, q1, q2⟩ := h
    refine ⟨_, pss_cons (ps_set (i := 1) scChkT.nd rfl (.inl rfl) (pe_callB call_len_seq (by rfl) B.len PySem.boot_len (pa_cons (pv 0) pa_nil)))
      (pss_one (ps_if (PW.pt (pw_and (pt_cmpR op_gt (pv 1) pe_int (nomark _)) (pw_and1 (PW.pt (pw_or (pt_cmpR op_in_seq pe_int (pv 0) (by rfl)) (pw_or1 (pt_cmpR op_lt (pe_callB (cr_sumT rfl) (by rfl) B.sum PyProof.Rows.boot_sum (pa_cons (pv 0) pa_nil)) (pe_op op_mul pe_int (pe_op op_sub (pv 1) pe_int)) (nomark _)))))))) (pss_one (ps_heal T GI hr bI rfl gC (pv 0))) pss_nil)), ?_⟩
    have no : treeB ls = false → tVar 0 [some (.ref a), some (.int (ls.length : Nat))] H fun v H2 => ∀ d, H2 d = none → E (.ref c) (some d) (upd H2 d (.xd [("value", v)])) := fun e => ⟨.ref a, rfl, fun dd nd => q2 e dd nd⟩
    refine rs_set ?_
    refine ⟨.ref a, rfl, a, ls.map V.int, rfl, .inr (sqt_of e1), ?_⟩
    rw [List.length_map]
    refine ⟨.int (ls.length : Nat), rfl, _, _, rfl, rfl, _, rfl, ?_⟩
    by_cases h1 : (1 : Int) < (ls.length : Nat)
    · rw [decide_eq_true h1]
      refine ⟨.ref a, rfl, a, ls.map V.int, rfl, .inr (sqt_of e1), rfl, all_flat_ints _, _, rfl, ?_⟩
      rw [inV_ints]
      by_cases h2 : (0 : Int) ∈ ls
      · rw [decide_eq_true h2]
        exact no (by unfold treeB; rw [decide_eq_true (by omega), decide_eq_true h2]; rfl)
      · rw [decide_eq_false h2]
        refine ⟨.ref a, rfl, a, ls, rfl, sqt_of e1, ?_⟩
        refine ⟨.int (ls.length : Nat), rfl, _, _, rfl, rfl, _, _, rfl, rfl, .inl ⟨by decide, by decide⟩, _, _, rfl, rfl, _, rfl, ?_⟩
        by_cases h3 : ls.sum < 2 * ((ls.length : Int) - 1)
        · rw [decide_eq_true h3]
          exact no (by unfold treeB; rw [decide_eq_true (by omega), decide_eq_true h3, Bool.or_true]; rfl)
        · rw [decide_eq_false h3]
          exact q1 (by unfold treeB; rw [decide_eq_false h2, decide_eq_false h3, Bool.or_false, Bool.and_false]; rfl)
    · rw [decide_eq_false h1]
      exact q1 (by unfold treeB; rw [decide_eq_false (by omega)]; rfl)
end
end HI

set_option Elab.async false
set_option linter.all false
set_option maxRecDepth 100000
set_option maxHeartbeats 4000000
namespace HI
open PySem L2 PyProof.Rows Hw
abbrev sLow : Stmt := topS 26
def ordD (d j : Nat) : PyData := .tuple [.int (-(d : Int)), .int (j : Int)]
def tiD (t : Tie) : PyData := .tuple [.int t.1, .int t.2]
theorem dataLt_ti (a b : Tie) : PySem.W.dataLt (tiD a) (tiD b) = (decide (a.1 < b.1) || (decide (a.1 = b.1) && decide (a.2 < b.2))) := by
  unfold tiD
  rw [PySem.W.dataLt_pair (by simp [PySem.W.alike]) (by simp [PySem.W.alike]), PySem.W.dataLt_int, PySem.W.dataLt_int]
  simp only [PyData.eqv]
  by_cases h1 : a.1 = b.1
  · by_cases h2 : a.2 = b.2 <;> simp [h1, h2]
  · simp [h1]
/-- data of pairs of ints, one ahead of the other, stand sorted -/
theorem sorted_pairs {l : List (Addr × Tie)} (h : (l.map (·.2)).Pairwise fun a b => a.1 < b.1 ∨ (a.1 = b.1 ∧ a.2 < b.2)) : (l.map fun x => (V.ref x.1, tiD x.2)).mergeSort (PySem.W.dataLe false (·.2)) = l.map fun x => (V.ref x.1, tiD x.2) := by
  refine List.mergeSort_of_pairwise ?_
  rw [List.pairwise_map] at h ⊢
  refine h.imp fun {x y} hxy => ?_
  rw [PySem.W.dataLe_eq]
  show (!PySem.W.dataLt (tiD y.2) (tiD x.2)) = true
  rw [dataLt_ti]
  rcases hxy with h | ⟨h1, h2⟩
  · have a : ¬ y.2.1 < x.2.1 := by omega
    have b : ¬ y.2.1 = x.2.1 := by omega
    simp [a, b]
  · have a : ¬ y.2.1 < x.2.1 := by omega
    have b : ¬ y.2.2 < x.2.2 := by omega
    simp [a, b]
theorem alike_ti (xs : List Tie) : PySem.W.AllAlike (xs.map tiD) := by
  intro d hd d' hd'
  obtain ⟨a, _, rfl⟩ := List.mem_map.mp hd
  obtain ⟨b, _, rfl⟩ := List.mem_map.mp hd'
  unfold tiD
  simp [PySem.W.alike, PySem.W.alikeAll]
theorem sortable_ti (xs : List Tie) : PySem.W.Sortable (xs.map tiD) := .inl fun d hd => by
  obtain ⟨a, _, rfl⟩ := List.mem_map.mp hd
  exact ⟨.int a.1, [.int a.2], rfl⟩
theorem depth_ti (a : Tie) : (tiD a).depth ≤ 50 := by
  unfold tiD
  simp [PyData.depth, PyData.depthAll]
/-- sorted of a list of refs to ascending pairs: as it stands -/
theorem sort_tied {K : PySem.W.Frag} {H : Hp} {a : Addr} {tp : List Addr} {ts : List Tie} {Q : VK} (e : H a = some (.lst (tp.map V.ref))) (hp : Paired (TieL H) tp ts) (ho : ts.Pairwise fun a b => a.1 < b.1 ∨ (a.1 = b.1 ∧ a.2 < b.2)) (hl : ts.length ≤ 1000)
    (q : ∀ p, H p = none → Q (.ref p) (upd H p (.lst (tp.map V.ref)))) : rSortB K [.ref a] H Q := by
  obtain ⟨l, rfl, rfl, hl3⟩ := zip_of hp
  have b1 : (l.map fun x => (V.ref x.1, tiD x.2)).map (·.1) = (l.map (·.1)).map V.ref := by rw [List.map_map, List.map_map]; rfl
  have b2 : (l.map fun x => (V.ref x.1, tiD x.2)).map (·.2) = (l.map (·.2)).map tiD := by rw [List.map_map, List.map_map]; rfl
  refine ⟨a, l.map fun x => (V.ref x.1, tiD x.2), rfl, by rw [b1]; exact sql_of e, fun b hb => ?_, by rw [b2]; exact alike_ti _, by rw [b2]; exact sortable_ti _, ?_, fun p np => ?_⟩
  · obtain ⟨x, hx, rfl⟩ := List.mem_map.mp hb
    exact ⟨.tup (sqt_of (hl3 x hx)) (.cons (.int _) (.cons (.int _) .nil)), depth_ti _⟩
  · rw [List.length_map] at hl ⊢
    exact Nat.le_of_lt (smallM2 (by omega))
  · rw [sorted_pairs ho, b1]
    exact q p np
def ordL (d n : Nat) : List Tie := (List.range n).map fun j => (-(d : Int), ((j : Nat) : Int))
theorem ord_asc (d n : Nat) : (ordL d n).Pairwise fun a b => a.1 < b.1 ∨ (a.1 = b.1 ∧ a.2 < b.2) := by
  unfold ordL
  rw [List.pairwise_map]
  exact List.pairwise_lt_range.imp fun {a b} h => .inr ⟨rfl, by show ((a : Nat) : Int) < ((b : Nat) : Int); omega⟩
theorem ties_asc (d n : Nat) : (tiesL d n).Pairwise fun a b => a.1 < b.1 ∨ (a.1 = b.1 ∧ a.2 < b.2) := by
  unfold tiesL
  rw [List.pairwise_map]
  refine List.pairwise_lt_range.imp fun {a b} h => ?_
  have hm := par_mono (d := d) (show a ≤ b by omega)
  by_cases e : par d a = par d b
  · exact .inr ⟨by show ((par d a : Nat) : Int) = ((par d b : Nat) : Int); omega, by show ((a + 1 : Nat) : Int) < ((b + 1 : Nat) : Int); omega⟩
  · exact .inl (by show ((par d a : Nat) : Int) < ((par d b : Nat) : Int); omega)
def roomL (d i : Nat) : List Int := List.replicate d 0 ++ (List.range i).flatMap fun j => List.replicate (d - 1) ((j + 1 : Nat) : Int)
theorem room_succ (d i : Nat) : roomL d (i + 1) = roomL d i ++ List.replicate (d - 1) ((i + 1 : Nat) : Int) := by
  unfold roomL
  rw [List.range_succ, List.flatMap_append, List.append_assoc]
  simp
theorem room_len (d : Nat) : ∀ i, (roomL d i).length = d + i * (d - 1)
  | 0 => by unfold roomL; simp
  | i + 1 => by rw [room_succ, List.length_append, room_len d i, List.length_replicate, Nat.add_mul]; omega
theorem room2 : ((List.range 60).all fun i => decide ((roomL 2 i)[i]? = some ((par 2 i : Nat) : Int))) = true := by decide +kernel
theorem room3 : ((List.range 60).all fun i => decide ((roomL 3 i)[i]? = some ((par 3 i : Nat) : Int))) = true := by decide +kernel
theorem room4 : ((List.range 60).all fun i => decide ((roomL 4 i)[i]? = some ((par 4 i : Nat) : Int))) = true := by decide +kernel
theorem room5 : ((List.range 60).all fun i => decide ((roomL 5 i)[i]? = some ((par 5 i : Nat) : Int))) = true := by decide +kernel
theorem room_at {d i : Nat} (g1 : 2 ≤ d) (g2 : d ≤ 5) (hi : i < 60) : (roomL d i)[i]? = some ((par d i : Nat) : Int) := by
  have hm : i ∈ List.range 60 := List.mem_range.mpr hi
  have h : d = 2 ∨ d = 3 ∨ d = 4 ∨ d = 5 := by omega
  rcases h with rfl | rfl | rfl | rfl
  · exact of_decide_eq_true (List.all_eq_true.mp room2 _ hm)
  · exact of_decide_eq_true (List.all_eq_true.mp room3 _ hm)
  · exact of_decide_eq_true (List.all_eq_true.mp room4 _ hm)
  · exact of_decide_eq_true (List.all_eq_true.mp room5 _ hm)
theorem flat_rep {α : Type} (x : α) : ∀ n : Nat, (List.replicate n [x]).flatten = List.replicate n x
  | 0 => rfl
  | n + 1 => by rw [List.replicate_succ, List.flatten_cons, flat_rep x n, List.replicate_succ]; rfl
def othI (n : Nat) : List Int := (List.range (n - 1)).map fun i => ((i + 1 : Nat) : Int)
theorem ns_cons {n : Nat} (h : 0 < n) : nsI n = 0 :: othI n := by
  obtain ⟨m, rfl⟩ : ∃ m, n = m + 1 := ⟨n - 1, by omega⟩
  unfold nsI othI
  rw [List.range_succ_eq_map, List.map_cons, List.map_map]
  rfl
theorem oth_len (n : Nat) : (othI n).length = n - 1 := by unfold othI; rw [List.length_map, List.length_range]
theorem oth_at {n j : Nat} {x : V} (h : ((othI n).map V.int)[j]? = some x) : j < n - 1 ∧ x = .int ((j + 1 : Nat) : Int) := by
  have hj := (List.getElem?_eq_some_iff.mp h).1
  rw [List.length_map, oth_len] at hj
  refine ⟨hj, ?_⟩
  unfold othI at h
  rw [List.map_map, List.getElem?_map, List.getElem?_range hj] at h
  exact (Option.some.inj h).symm
theorem ties_at {d n j : Nat} (h : j < n - 1) : (tiesL d n)[j]? = some (((par d j : Nat) : Int), ((j + 1 : Nat) : Int)) := by
  unfold tiesL
  rw [List.getElem?_map, List.getElem?_range h]; rfl
theorem ord_at {d n j : Nat} {t : Tie} (h : (ordL d n)[j]? = some t) : j < n ∧ t = (-(d : Int), ((j : Nat) : Int)) := by
  have hj := (List.getElem?_eq_some_iff.mp h).1
  unfold ordL at hj
  rw [List.length_map, List.length_range] at hj
  refine ⟨hj, ?_⟩
  unfold ordL at h
  rw [List.getElem?_map, List.getElem?_range hj] at h
  exact (Option.some.inj h).symm
theorem ns_at {n j : Nat} (h : j < n) : (nsI n)[j]? = some ((j : Nat) : Int) := by
  unfold nsI
  rw [List.getElem?_map, List.getElem?_range h]; rfl
theorem ord_len (d n : Nat) : (ordL d n).length = n := by unfold ordL; rw [List.length_map, List.length_range]
theorem ties_len (d n : Nat) : (tiesL d n).length = n - 1 := by unfold tiesL; rw [List.length_map, List.length_range]
def spLow : Sp := fun vs H Q _ => ∃ (a : Addr) (d n : Nat), vs = [.ref a] ∧ H a = some (.tup (limsV d n)) ∧ GoodL d n ∧ ∀ (t : Addr) (qs : List Addr) H', Same H H' → H' t = some (.tup (qs.map V.ref)) → Paired (TieL H') qs (tiesL d n) → Q (.ref t) H'
theorem lims_get {d n i : Nat} (h : i < n) : (limsV d n)[i]? = some (.int (d : Int)) := by
  unfold limsV
  rw [List.getElem?_replicate, if_pos h]
theorem r_sortB {K : PySem.W.Frag} {σ : L2.St} {H1 : Hp} {D : Addr} {Q' : VK} (h : rSortB K [V.ref D] H1 Q') : tNil σ H1 fun xs H2 => (fun vs H1 => rSortB K vs H1 Q') (V.ref D :: xs) H2 := h
section
variable {P : Program} {w : World} {K : PySem.W.Frag} {mg : Str → Option Value} {base : Heap}
abbrev nLow : List Str := ["limits", "order", "first", "others", "room", "ties", "at", "place", "limit", "pair"]
theorem scLow : FnScope nLow ["limits"] (defScope sLow) := ⟨rfl, rfl, rfl, by decide +kernel, rfl, by decide +kernel, by decide +kernel⟩
theorem ok_low {f fP : Addr} {fd fdP : FuncData} {k : Nat} (F : Fun K "low_tree" "low_tree" sLow f fd) (be : mg "enumerate" = none) (bs : mg "sorted" = none) (bt : mg "tuple" = none)
    (GP : FnOk P w K mg base CX0 k fP fdP ["one", "other"] spPairI) (gP : mg "pair_of" = some (.ref fP)) (kP : PySem.W.keepIn K (.ref fP) = true) (bP : Binds K fdP ["one", "other"] []) :
    FnOk P w K mg base CX0 (k + 1) f fd ["limits"] spLow := by
  refine F.ok scLow (fun vs H Q E h => ?_) (fun cdv A outer s H vs Q E hr h => ?_)
  · obtain ⟨a, d, n, rfl, _⟩ := h
    rfl
  · obtain ⟨a, d, n, rfl, e1, ⟨g1, g2, g3, g4⟩, q⟩ := h
    have hu64 := hr.units
    refine ⟨_, pss_cons (ps_set (i := 1) scLow.nd rfl (.inl rfl) (pe_callB (cr_sortB hu64) (by rfl) bs PyProof.Rows.boot_sorted (pa_cons (pe_lc (own := [("place", 7), ("limit", 8)]) (g := gTup K 2 (gCons (gName 7) (gCons (gName 8) gNil))) (tt := tYes) (te := tTup (tCons (tUn (rU fun i => V.int (-i)) (tVar 8)) (tCons (tVar 7) tNil))) rfl scLow.nd (pi_enumT (by rfl) be (pa_cons (pv 0) pa_nil))
          (blkOk_by (N := nLow) (sc := defScope sLow) (by decide +kernel)) (fun _ _ _ _ _ => pg_tup rfl (pgs_cons (pg_name (i := 7) scLow.nd rfl (Or.inl rfl)) (pgs_cons (pg_name (i := 8) scLow.nd rfl (Or.inl rfl)) pgs_nil))) (fun _ _ _ _ _ => pts_nil)
          (fun _ _ _ _ _ => pe_tup (pa_cons (pe_un un_neg (pv 8)) (pa_cons (pv 7) pa_nil)))) pa_nil)))
      (pss_cons (ps_asg (pe_lc (own := [("pair", 9)]) (g := gName 9) (tt := tYes) (te := tOp (rIxT K) (tVar 9) (tC (.int 1))) rfl scLow.nd (pi_list (pv 1))
          (blkOk_by (N := nLow) (sc := defScope sLow) (by decide +kernel)) (fun _ _ _ _ _ => pg_name (i := 9) scLow.nd rfl (Or.inl rfl)) (fun _ _ _ _ _ => pts_nil) (fun _ _ _ _ _ => pe_ix ix_tup (pv 9) pe_int (fun _ _ => rfl)))
        (pg_star2 rfl (pg_name (i := 2) scLow.nd rfl (.inl rfl)) (pg_name (i := 3) scLow.nd rfl (.inl rfl))))
      (pss_cons (ps_set (i := 4) scLow.nd rfl (.inl rfl) (pe_op op_rep (pe_lst (pa_cons (pv 2) pa_nil)) (pe_ix ix_tup (pv 0) (pv 2) (fun _ _ => rfl))))
      (pss_cons (ps_set (i := 5) scLow.nd rfl (.inl rfl) (pe_lst pa_nil))
      (pss_cons (ps_for PassesOwn.never rfl (pi_enum (by rfl) be (pa_cons (pv 3) pa_nil)) (pg_tup rfl (pgs_cons (pg_name (i := 6) scLow.nd rfl (Or.inl rfl)) (pgs_cons (pg_name (i := 7) scLow.nd rfl (Or.inl rfl)) pgs_nil)))
        (pss_cons (ps_expr (pe_bm PySem.F.plainAttrs_list PySem.F.slot_list_append PySem.F.type_list_append mt_append (pv 5) (pa_cons (pe_call GP hr (by rfl) gP kP bP .nil pass0 (pa_cons (pe_ix ix_list (pv 4) (pv 6) (fun _ _ => rfl)) (pa_cons (pv 7) pa_nil))) pa_nil)))
        (pss_one (ps_expr (pe_bm PySem.F.plainAttrs_list PySem.F.slot_list_extend PySem.F.type_list_extend mt_extend (pv 4) (pa_cons (pe_op op_rep (pe_lst (pa_cons (pv 7) pa_nil)) (pe_op op_sub (pe_ix ix_tup (pv 0) (pv 7) (fun _ _ => rfl)) pe_int)) pa_nil))))))
      (pss_one (ps_ret (pe_callTy call_tuple_of (by rfl) bt PyProof.Rows.boot_tuple (pa_cons (pe_callB (cr_sortB hu64) (by rfl) bs PyProof.Rows.boot_sorted (pa_cons (pv 5) pa_nil)) pa_nil)))))))), ?_⟩
    refine rs_set ?_
    refine ⟨.ref a, rfl, a, limsV d n, rfl, sqt_of e1, fun D nD => lc_it walk_enumT (fun i H' => Same H H' ∧ ∃ tp : List Addr, H' D = some (.lst (tp.map V.ref)) ∧ Paired (TieL H') tp (ordL d i)) ⟨same_upd nD, [], upd_same, .nil⟩ (fun i H' _ h => sqt_of (h.1 _ _ e1)) ?_ ?_⟩
    · rintro i x H' H'' hi ⟨sx, tp, eD, hp⟩ ⟨T, u, v, rfl, nT, rfl, hu, hv⟩
      obtain rfl : V.int (i : Int) = u := Option.some.inj hu
      obtain rfl := lims_at hv
      rw [lims_len] at hi
      have sT := same_upd (o := .tup [.int (i : Int), .int (d : Int)]) nT
      refine ⟨T, [.int (i : Int), .int (d : Int)], rfl, sqt_of upd_same, rfl, _, [.int (d : Int)], rfl, _, [], rfl, rfl, rfl, r_yes ?_⟩
      refine ⟨.int (d : Int), rfl, _, rfl, .int (i : Int), rfl, by show 2 ≤ sizeLine; decide, fun p np => ?_⟩
      have s2 := same_upd (o := .tup [.int (-(d : Int)), .int (i : Int)]) np
      have eD1 := sT _ _ eD
      have npD : p ≠ D := fun y => by rw [y, eD1] at np; cases np
      have htp : tp.length ≤ 61 := by rw [Paired.length hp, ord_len]; omega
      refine ⟨_, s2 _ _ eD1, smallM2 (by rw [List.length_map]; omega), fun b o e => ?_, tp ++ [p], by rw [upd_same, List.map_append]; rfl, ?_⟩
      · rw [upd_ne (ne_of_none e nD)]; exact s2 _ _ (sT _ _ (sx _ _ e))
      · have eo : ordL d (i + 1) = ordL d i ++ [(-(d : Int), ((i : Nat) : Int))] := by unfold ordL; rw [List.range_succ, List.map_append]; rfl
        rw [eo]
        refine snocP ?_ (paired_mono (fun q t e => ?_) hp)
        · show (upd _ D _) p = _
          rw [upd_ne npD, upd_same]
        · have e : H' q = _ := e
          show (upd _ D _) q = _
          rw [upd_ne (fun y => by rw [y, eD] at e; cases e)]
          exact s2 _ _ (sT _ _ e)
    rintro H1 ⟨s1, tp, eD, hp⟩
    rw [lims_len] at hp
    refine r_sortB ?_
    refine sort_tied eD hp (ord_asc d n) (by rw [ord_len]; omega) fun p1 np1 => ?_
    have s2 := same_upd (o := .lst (tp.map V.ref)) np1
    have e1l : (upd H1 p1 (.lst (tp.map V.ref))) p1 = some (.lst (tp.map V.ref)) := upd_same
    have hp2 : Paired (TieL (upd H1 p1 (.lst (tp.map V.ref)))) tp (ordL d n) := paired_mono (fun q t e => s2 _ _ e) hp
    have s12 := s1.trans s2
    generalize (upd H1 p1 (.lst (tp.map V.ref))) = H2 at s12 e1l hp2 ⊢
    clear s1 s2 np1 nD eD hp
    have htl : tp.length = n := by rw [Paired.length hp2, ord_len]
    refine rs_t ?_
    refine ⟨.ref p1, rfl, p1, rfl, ⟨_, sql_of e1l⟩, fun D2 nD2 => lc_list (xs := tp.map V.ref) (fun i H' => Same H2 H' ∧ H' D2 = some (.lst (((nsI n).take i).map V.int))) ⟨same_upd nD2, upd_same⟩ (fun i H' _ h => sql_of (h.1 _ _ e1l)) ?_ ?_⟩
    · rintro i x H' hx ⟨sx, eD⟩
      obtain ⟨qd, hq, rfl⟩ := Hw.map_get hx
      obtain ⟨t, ht, et⟩ := Hw.paired_get hp2 hq
      obtain ⟨hi, rfl⟩ := ord_at ht
      refine ⟨rfl, r_yes ?_⟩
      refine ⟨.ref qd, rfl, qd, _, 1, .int (i : Int), rfl, rfl, sqt_of (sx _ _ et), atI_nat (j := 1) rfl, _, eD, smallM2 (by rw [List.length_map, List.length_take, ns_len]; omega), fun b o e => ?_, ?_⟩
      · rw [upd_ne (ne_of_none e nD2)]; exact sx _ _ e
      · rw [upd_same, Hw.take_snoc (ns_at hi), List.map_append]; rfl
    rintro H3 ⟨s3, eD3⟩
    rw [List.length_map, htl, List.take_of_length_le (by rw [ns_len]; exact Nat.le_refl _), ns_cons (by omega)] at eD3
    have s13 := s12.trans s3
    refine ⟨D2, .int 0, (othI n).map V.int, rfl, sql_of eD3, smallM2 (by rw [List.length_map, oth_len]; omega), fun p2 np2 => ?_⟩
    have s14 := s13.trans (same_upd (o := .lst ((othI n).map V.int)) np2)
    have eo : (upd H3 p2 (.lst ((othI n).map V.int))) p2 = some (.lst ((othI n).map V.int)) := upd_same
    generalize (upd H3 p2 (.lst ((othI n).map V.int))) = H4 at s14 eo ⊢
    clear s3 s13 s12 nD2 eD3 np2 hp2 e1l
    refine r_gname ?_
    refine r_gname ?_
    refine rs_set ?_
    refine ⟨.int 0, rfl, by show 1 ≤ sizeLine; decide, fun p3 np3 => ?_⟩
    have s15 := same_upd (o := .lst [.int 0]) np3
    refine ⟨.ref a, rfl, .int 0, rfl, a, limsV d n, 0, .int (d : Int), rfl, rfl, sqt_of (s15 _ _ (s14 _ _ e1)), atI_nat (j := 0) (lims_get (by omega)), p3, (d : Int), [.int 0], rfl, rfl, upd_same, by omega, by omega, Nat.le_of_lt (smallM2 (by show 1 * _ ≤ _; omega)), fun p4 np4 => ?_⟩
    rw [flat_rep, Int.toNat_natCast]
    have er0 : List.replicate d (V.int 0) = (roomL d 0).map V.int := by unfold roomL; simp
    rw [er0]
    have s16 := s15.trans (same_upd (o := .lst ((roomL d 0).map V.int)) np4)
    have er : (upd (upd H4 p3 (.lst [.int 0])) p4 (.lst ((roomL d 0).map V.int))) p4 = some (.lst ((roomL d 0).map V.int)) := upd_same
    have n4 : H p4 = none := s14.free (s15.free np4)
    have n24 : p2 ≠ p4 := fun y => by rw [← y, s15 _ _ eo] at np4; cases np4
    generalize (upd (upd H4 p3 (.lst [.int 0])) p4 (.lst ((roomL d 0).map V.int))) = H5 at s16 er ⊢
    have eo5 := s16 _ _ eo
    have s05 := s14.trans s16
    clear s15 np3 np4 s16 eo s14
    refine rs_set ⟨Nat.zero_le _, fun p5 np5 => ?_⟩
    have s06 := s05.trans (same_upd (o := .lst []) np5)
    have n5 : H p5 = none := s05.free np5
    have n25 : p2 ≠ p5 := fun y => by rw [← y, eo5] at np5; cases np5
    have n45 : p4 ≠ p5 := fun y => by rw [← y, er] at np5; cases np5
    have eo6 := (same_upd (o := .lst []) np5) _ _ eo5
    have er6 := (same_upd (o := .lst []) np5) _ _ er
    have et6 : (upd H5 p5 (.lst [])) p5 = some (.lst []) := upd_same
    generalize (upd H5 p5 (.lst [])) = H6 at s06 eo6 er6 et6 ⊢
    clear np5 eo5 er s05
    refine rs_enum (i := 3) (p := p2) rfl (sql_of eo6) (fun i σ' H' => ∃ o6 o7, σ' = [some (.ref a), some (.ref p1), some (.int 0), some (.ref p2), some (.ref p4), some (.ref p5), o6, o7, none, none] ∧ Same H H' ∧ H' p2 = some (.lst ((othI n).map V.int)) ∧ H' p4 = some (.lst ((roomL d i).map V.int)) ∧ ∃ qs : List Addr, H' p5 = some (.lst (qs.map V.ref)) ∧ Paired (TieL H') qs ((tiesL d n).take i))
      ⟨_, _, rfl, s06, eo6, er6, [], et6, .nil⟩ (fun i σ' H' _ ⟨_, _, _, _, e, _⟩ => sql_of e) ?_ ?_
    · rintro j x σ' H' T hj ⟨o6, o7, rfl, sx, eo', er', qs, et', hq⟩ nT hx
      obtain ⟨hjn, rfl⟩ := oth_at hx
      have hpj := par_le (d := d) (i := j) g1
      have hql : qs.length ≤ 61 := by rw [Paired.length hq, List.length_take]; omega
      have sT := same_upd (o := .tup [.int (j : Int), .int ((j + 1 : Nat) : Int)]) nT
      refine g2_of (sqt_of upd_same) ?_
      refine rs_bm ⟨.ref p5, rfl, .inl ⟨rfl, _, sql_of (sT _ _ et')⟩, ?_⟩
      refine ⟨.ref p4, rfl, .int (j : Int), rfl, p4, (roomL d j).map V.int, (j : Int), .int ((par d j : Nat) : Int), rfl, rfl, sql_of (sT _ _ er'), atI_nat (by rw [List.getElem?_map, room_at g1 g2 (by omega)]; rfl), .int ((j + 1 : Nat) : Int), rfl, _, _, rfl, by omega, fun p6 np6 => ?_⟩
      have s6 := same_upd (o := .tup [.int ((par d j : Nat) : Int), .int ((j + 1 : Nat) : Int)]) np6
      have sT6 := sT.trans s6
      have e66 : (upd (upd H' T (.tup [.int (j : Int), .int ((j + 1 : Nat) : Int)])) p6 (.tup [.int ((par d j : Nat) : Int), .int ((j + 1 : Nat) : Int)])) p6 = some (.tup [.int ((par d j : Nat) : Int), .int ((j + 1 : Nat) : Int)]) := upd_same
      generalize (upd (upd H' T (.tup [.int (j : Int), .int ((j + 1 : Nat) : Int)])) p6 (.tup [.int ((par d j : Nat) : Int), .int ((j + 1 : Nat) : Int)])) = H7 at sT6 e66 ⊢
      have et7 := sT6 _ _ et'
      have er7 := sT6 _ _ er'
      have eo7 := sT6 _ _ eo'
      have s07 := sx.trans sT6
      have hq7 : Paired (TieL H7) (qs ++ [p6]) ((tiesL d n).take (j + 1)) := by
        rw [Hw.take_snoc (ties_at hjn)]
        exact snocP (F := TieL H7) e66 (paired_mono (fun q t e => sT6 _ _ e) hq)
      clear np6 s6 sT6 sT nT e66 hq sx eo' er' et'
      refine ⟨p5, _, _, rfl, rfl, et7, smallM2 (by rw [List.length_map]; omega), ?_⟩
      have e48 : (upd H7 p5 (.lst (qs.map V.ref ++ [.ref p6]))) p4 = some (.lst ((roomL d j).map V.int)) := by rw [upd_ne n45]; exact er7
      have e28 : (upd H7 p5 (.lst (qs.map V.ref ++ [.ref p6]))) p2 = some (.lst ((othI n).map V.int)) := by rw [upd_ne n25]; exact eo7
      have e58 : (upd H7 p5 (.lst (qs.map V.ref ++ [.ref p6]))) p5 = some (.lst ((qs ++ [p6]).map V.ref)) := by rw [upd_same, List.map_append]; rfl
      have s08 : Same H (upd H7 p5 (.lst (qs.map V.ref ++ [.ref p6]))) := fun b o e => by rw [upd_ne (ne_of_none e n5)]; exact s07 _ _ e
      have hq8 : Paired (TieL (upd H7 p5 (.lst (qs.map V.ref ++ [.ref p6])))) (qs ++ [p6]) ((tiesL d n).take (j + 1)) := paired_mono (fun q t e => by
        have e : H7 q = _ := e
        show (upd H7 p5 _) q = _
        rw [upd_ne (fun y => by rw [y, et7] at e; cases e)]
        exact e) hq7
      generalize (upd H7 p5 (.lst (qs.map V.ref ++ [.ref p6]))) = H8 at e48 e28 e58 s08 hq8 ⊢
      clear hq7 s07 et7 er7 eo7
      show tDrop _ _ _ _
      refine ⟨.ref p4, rfl, .inl ⟨rfl, _, sql_of e48⟩, .int ((j + 1 : Nat) : Int), rfl, by show 1 ≤ sizeLine; decide, fun p8 np8 => ?_⟩
      have s9 := same_upd (o := .lst [.int ((j + 1 : Nat) : Int)]) np8
      refine ⟨.ref a, rfl, .int ((j + 1 : Nat) : Int), rfl, a, limsV d n, ((j + 1 : Nat) : Int), .int (d : Int), rfl, rfl, sqt_of (s9 _ _ (s08 _ _ e1)), atI_nat (lims_get (by omega)), _, _, rfl, rfl, p8, (d : Int) - 1, [.int ((j + 1 : Nat) : Int)], rfl, rfl, upd_same, by omega, by omega, Nat.le_of_lt (smallM2 (by show 1 * _ ≤ _; omega)), fun p9 np9 => ?_⟩
      rw [flat_rep, show ((d : Int) - 1).toNat = d - 1 from by omega]
      have s10 := s9.trans (same_upd (o := .lst (List.replicate (d - 1) (.int ((j + 1 : Nat) : Int)))) np9)
      have e99 : (upd (upd H8 p8 (.lst [.int ((j + 1 : Nat) : Int)])) p9 (.lst (List.replicate (d - 1) (.int ((j + 1 : Nat) : Int))))) p9 = some (.lst (List.replicate (d - 1) (.int ((j + 1 : Nat) : Int)))) := upd_same
      generalize (upd (upd H8 p8 (.lst [.int ((j + 1 : Nat) : Int)])) p9 (.lst (List.replicate (d - 1) (.int ((j + 1 : Nat) : Int))))) = H9 at s10 e99 ⊢
      have hrl : (roomL d j).length ≤ 1000 := by
        rw [room_len]
        have : j * (d - 1) ≤ 60 * 4 := Nat.mul_le_mul (by omega) (by omega)
        omega
      refine ⟨p4, p9, _, _, rfl, rfl, s10 _ _ e48, e99, Nat.le_of_lt (smallM2 (by rw [List.length_map, List.length_replicate]; omega)), ?_⟩
      refine ⟨_, _, rfl, fun b o e => ?_, ?_, ?_, qs ++ [p6], ?_, paired_mono (fun q t e => ?_) hq8⟩
      · rw [upd_ne (ne_of_none e n4)]; exact s10 _ _ (s08 _ _ e)
      · rw [upd_ne n24]; exact s10 _ _ e28
      · rw [upd_same, room_succ, List.map_append, List.map_replicate]
      · rw [upd_ne (Ne.symm n45)]; exact s10 _ _ e58
      · have e : H8 q = _ := e
        show (upd H9 p4 _) q = _
        rw [upd_ne (fun y => by rw [y, e48] at e; cases e)]
        exact s10 _ _ e
    · rintro σ' H' ⟨o6, o7, rfl, sx, eo', er', qs, et', hq⟩
      rw [List.length_map, oth_len, List.take_of_length_le (by rw [ties_len]; exact Nat.le_refl _)] at hq
      refine ⟨.ref p5, rfl, ?_⟩
      refine r_sortB ?_
      refine sort_tied et' hq (ties_asc d n) (by rw [ties_len]; omega) fun p10 n10 => ⟨p10, _, rfl, .inl ⟨sql_of upd_same, fun p11 n11 => ?_⟩⟩
      have s2 := (same_upd (o := .lst (qs.map V.ref)) n10).trans (same_upd (o := .tup (qs.map V.ref)) n11)
      exact q p11 qs _ (sx.trans s2) upd_same (paired_mono (fun q t e => s2 _ _ e) hq)
end
end HI

set_option Elab.async false
set_option linter.all false
set_option maxRecDepth 100000
set_option maxHeartbeats 4000000
namespace HI
open PySem L2 PyProof.Rows Hw
abbrev sIsTieOf : Stmt := topS 21
abbrev sAsc : Stmt := topS 2
/-! ties of places below n, as data -/
def tieD (n : Nat) : PyData → Bool
  | .tuple [.int x, .int y] => decide (0 ≤ x ∧ x ≤ (n : Int) - 1) && decide (0 ≤ y ∧ y ≤ (n : Int) - 1) && decide (x < y)
  | _ => false
def ltT (t u : Tie) : Bool := decide (t.1 < u.1) || (decide (t.1 = u.1) && decide (t.2 < u.2))
def ascB (ts : List Tie) : Bool := (ts.zip (ts.drop 1)).all fun p => ltT p.1 p.2
theorem ties_ex {a : Addr} {H : Hp} {n : Nat} : ∀ {xs : List V} {ds : List PyData}, DxAll a H xs ds → ds.all (tieD n) = true → ∃ (qs : List Addr) (ts : List Tie), xs = qs.map V.ref ∧ ds = ts.map tiD ∧ Paired (TieL H) qs ts ∧ ∀ t ∈ ts, 0 ≤ t.1 ∧ t.1 < t.2 ∧ t.2 ≤ (n : Int) - 1
  | _, _, .nil, _ => ⟨[], [], rfl, rfl, .nil, fun _ h => nomatch h⟩
  | _, _, .cons (d := d) x t, h => by
    rw [List.all_cons, Bool.and_eq_true] at h
    obtain ⟨qs, ts, e1, e2, e3, e4⟩ := ties_ex t h.2
    have hd := h.1
    unfold tieD at hd
    split at hd
    · rename_i u v
      simp only [Bool.and_eq_true, decide_eq_true_eq] at hd
      obtain ⟨q, ys, rfl, eq, _, xa⟩ := dx_tup x
      cases xa with
      | cons x1 xa =>
        cases xa with
        | cons x2 xa =>
          cases xa
          obtain rfl := x1.int
          obtain rfl := x2.int
          refine ⟨q :: qs, (u, v) :: ts, by rw [e1]; rfl, by rw [e2]; rfl, .cons eq e3, fun t ht => ?_⟩
          rcases List.mem_cons.mp ht with rfl | ht
          · exact ⟨hd.1.1.1, hd.2, hd.1.2.2⟩
          · exact e4 t ht
    · cases hd
theorem tieD_len {n : Nat} {ds : List PyData} (h : ds.length ≠ 2) : tieD n (.tuple ds) = false := by
  unfold tieD
  split
  · rename_i e
    injection e with e
    rw [e] at h
    exact absurd rfl h
  · rfl
theorem tieD_two {n : Nat} {d e : PyData} : tieD n (.tuple [d, e]) = (withinD 0 ((n : Int) - 1) d && withinD 0 ((n : Int) - 1) e && (match d, e with | .int x, .int y => decide (x < y) | _, _ => false)) := by
  cases d <;> cases e <;> first | rfl | simp [tieD, withinD]
def spIsTieOf : Sp := fun vs H Q _ => ∃ (v : V) (a : Addr) (d : PyData) (n : Nat), vs = [v, .int n] ∧ Dx a H v d ∧ ∀ H', Same H H' → Q (.bl (tieD n d)) H'
/-- one tie ahead of another one -/
def rLtT (K : PySem.W.Frag) : R2 := fun x y H Q => ∃ (a b : Addr) (t u : Tie), x = .ref a ∧ y = .ref b ∧ SqT K H a ([t.1, t.2].map V.int) ∧ SqT K H b ([u.1, u.2].map V.int) ∧ Q (.bl (ltT t u)) H
theorem int_item {us : List Value} {xs : List Int} (r : Vals (xs.map V.int) us) (j : Nat) (h : j < us.toArray.size) : ∃ t, us.toArray[j] = .int (xs.getD j 0) t := by
  have hl := r.length
  rw [List.length_map] at hl
  have hj : j < xs.length := by rw [List.size_toArray] at h; omega
  have e : (xs.map V.int)[j]? = some (V.int xs[j]) := by rw [List.getElem?_map, List.getElem?_eq_getElem hj]; rfl
  obtain ⟨u, h1, h2⟩ := r.get e
  obtain ⟨t, rfl⟩ := h2
  refine ⟨t, ?_⟩
  rw [List.size_toArray] at h
  have : us[j]? = some us[j] := List.getElem?_eq_getElem h
  rw [this] at h1
  have e2 := Option.some.inj h1
  rw [List.getElem_toArray, e2]
  simp [List.getD, List.getElem?_eq_getElem hj]
theorem lex_ltT (t u : Tie) : Ob.lexAt (fun j => [t.1, t.2].getD j 0 == [u.1, u.2].getD j 0) (fun j => decide ([t.1, t.2].getD j 0 < [u.1, u.2].getD j 0)) (decide ([t.1, t.2].length < [u.1, u.2].length)) 0 (min [t.1, t.2].length [u.1, u.2].length) = ltT t u := by
  show (if (t.1 == u.1) = true then (if (t.2 == u.2) = true then decide (2 < 2) else decide (t.2 < u.2)) else decide (t.1 < u.1)) = _
  unfold ltT
  by_cases h1 : t.1 = u.1
  · by_cases h2 : t.2 = u.2
    · simp [h1, h2]
    · simp [h1, h2]
  · simp [h1]
theorem op_ltT {X : Cx} (hu : X.A.units < cLine) : OpR X (compareOp .Lt) (rLtT X.K) := by
  intro pins s σ H x y v u Q I rx ry h
  obtain ⟨a, b, t, w, rfl, rfl, ha, hb, q⟩ := h
  cases rx
  cases ry
  obtain ⟨its, r1, p1, _⟩ := I.tuple ha
  obtain ⟨its2, r2, p2, _⟩ := I.tuple hb
  have e1 : its.toArray.size = [t.1, t.2].length := by rw [List.size_toArray, ← r1.length, List.length_map]
  have e2 : its2.toArray.size = [w.1, w.2].length := by rw [List.size_toArray, ← r2.length, List.length_map]
  have R := Ob.RcOp.tuples_lt (A := X.A) (s := s) (e := fun j => [t.1, t.2].getD j 0 == [w.1, w.2].getD j 0) (r := fun j => decide ([t.1, t.2].getD j 0 < [w.1, w.2].getD j 0)) p1 p2 hu (fun j h1 h2 => by
    obtain ⟨t, et⟩ := int_item r1 j h1
    obtain ⟨t', et'⟩ := int_item r2 j h2
    rw [et, et']
    exact SeqAt.EqAt.int_int _ _ _ _) (fun j h1 h2 _ => by
    obtain ⟨t, et⟩ := int_item r1 j h1
    obtain ⟨t', et'⟩ := int_item r2 j h2
    rw [et, et']
    exact Ob.RcOp.lt_int _ _ _ _)
  rw [e1, e2, lex_ltT] at R
  have z : wpAny (model X.prog X.w) X.A (compareOp .Lt (.ref a) (.ref b)) (EP X pins σ Q) X.xe s := R X.prog X.w X.xe (EP X pins σ Q) ⟨.bl _, H, I, rfl, q⟩
  exact z
def spAscT : Sp := fun vs H Q _ => ∃ (p : Addr) (qs : List Addr) (ts : List Tie), vs = [.ref p] ∧ H p = some (.tup (qs.map V.ref)) ∧ Paired (TieL H) qs ts ∧ ts.length ≤ 1000 ∧ ∀ H', Same H H' → Q (.bl (ascB ts)) H'
theorem zip_at {ts : List Tie} {i : Nat} {x y : Tie} (h1 : ts[i]? = some x) (h2 : ts[1 + i]? = some y) : (ts.zip (ts.drop 1))[i]? = some (x, y) := by
  rw [List.getElem?_zip_eq_some]
  exact ⟨h1, by rw [List.getElem?_drop]; exact h2⟩
section
variable {P : Program} {w : World} {K : PySem.W.Frag} {mg : Str → Option Value} {base : Heap}
theorem scTieOf : FnScope ["value", "many", "place"] ["value", "many"] (defScope sIsTieOf) := ⟨rfl, rfl, rfl, by decide +kernel, rfl, by decide +kernel, by decide +kernel⟩
theorem ok_istieof {f fW : Addr} {fd fdW : FuncData} {k : Nat} (F : Fun K "is_tie_of" "is_tie_of" sIsTieOf f fd) (B : Blt mg) (bi : mg "isinstance" = none) (bt : mg "tuple" = none) (ba : mg "all" = none)
    (GW : FnOk P w K mg base CX0 k fW fdW ["value", "least", "most"] spWithinA) (gW : mg "is_within" = some (.ref fW)) (kW : PySem.W.keepIn K (.ref fW) = true) (bW : Binds K fdW ["value", "least", "most"] []) :
    FnOk P w K mg base CX0 (k + 1) f fd ["value", "many"] spIsTieOf := by
  refine F.ok scTieOf (fun vs H Q E h => ?_) (fun cdv A outer s H vs Q E hr h => ?_)
  · obtain ⟨v, a, d, n, rfl, _⟩ := h
    rfl
  · obtain ⟨v, a, d, n, rfl, hd, q⟩ := h
    refine ⟨_, pss_one (ps_ret (pe_and (pe_callB call_isi (by rfl) bi PyProof.Rows.boot_isinstance (pa_cons (pv 0) (pa_cons (pe_bltn (v := .ty "tuple") (by rfl) bt (by decide +kernel) rfl) pa_nil)))
      (pe_and (pe_cmpR op_eq (pe_callB call_len_seq (by rfl) B.len PySem.boot_len (pa_cons (pv 0) pa_nil)) pe_int (nomark _))
      (pe_and (pe_callB (cr_all rfl) (by rfl) ba PyProof.Rows.boot_all (pa_cons (pe_lc (own := [("place", 2)]) (g := gName 2) (tt := tYes) rfl scTieOf.nd (pi_tup (pv 0)) (blkOk_by (N := ["value", "many", "place"]) (sc := defScope sIsTieOf) (by decide +kernel))
          (fun _ _ _ _ _ => pg_name (i := 2) scTieOf.nd rfl (Or.inl rfl)) (fun _ _ _ _ _ => pts_nil) (fun _ _ _ _ _ => pe_call GW hr (by rfl) gW kW bW .nil pass0 (pa_cons (pv 2) (pa_cons pe_int (pa_cons (pe_op op_sub (pv 1) pe_int) pa_nil))))) pa_nil))
      (pe_one (pe_cmpR op_lt (pe_ix ix_tup (pv 0) pe_int (fun _ _ => rfl)) (pe_ix ix_tup (pv 0) pe_int (fun _ _ => rfl)) (nomark _))))))), ?_⟩
    refine ⟨v, rfl, v, .ty "tuple", .type (tyD d), .type "tuple", isTupD d, rfl, .ty _, hd.tyx, kit_tuple d, isTupD d, rfl, ?_⟩
    cases hT : isTupD d with
    | false =>
      have e : tieD n d = false := by cases d <;> first | rfl | cases hT
      rw [e] at q
      exact q H (Same.refl _)
    | true =>
      obtain ⟨ds, rfl⟩ := isTup_ex hT
      obtain ⟨t, xs, rfl, e1, ne, xa⟩ := dx_tup hd
      have hlen := xa.length
      show if true = true then _ else _
      rw [if_pos rfl]
      refine ⟨.ref t, rfl, t, xs, rfl, .inr (sqt_of e1), rfl, _, rfl, ?_⟩
      rw [hlen]
      by_cases h2 : ds.length = 2
      · rw [decide_eq_true (show V.int ((ds.length : Nat) : Int) = V.int 2 by rw [h2]; rfl)]
        show if true = true then _ else _
        rw [if_pos rfl]
        refine ⟨.ref t, rfl, t, rfl, ⟨_, sqt_of e1⟩, fun D hD => lc_tup (xs := xs) (fun i H' => Same H H' ∧ H' D = some (.lst (((ds.take i).map (withinD 0 ((n : Int) - 1))).map V.bl))) ⟨same_upd hD, upd_same⟩ (fun i H' _ h => sqt_of (h.1 _ _ e1)) ?_ ?_⟩
        · rintro i x H' hx ⟨sx, eD⟩
          obtain ⟨d', hd', xd⟩ := dx_get xa hx
          refine ⟨rfl, r_yes ?_⟩
          refine ⟨x, rfl, .int n, rfl, _, _, rfl, rfl, x, a, d', 0, (n : Int) - 1, rfl, Dx.keep (.of sx) _ _ xd, _, eD, smallM2 (by rw [List.length_map, List.length_map, List.length_take]; omega), ?_, ?_⟩
          · intro b o e
            rw [upd_ne (ne_of_none e hD)]
            exact sx _ _ e
          · rw [upd_same, take_snoc hd', List.map_append, List.map_append]; rfl
        · rintro H' ⟨sx, eD⟩
          rw [hlen, List.take_length] at eD
          refine ⟨D, _, rfl, sql_of eD, _, rfl, ?_⟩
          match ds, h2 with
          | [d1, d2], _ =>
            have q' := q H' sx
            rw [tieD_two] at q'
            show if (withinD 0 ((n : Int) - 1) d1 && (withinD 0 ((n : Int) - 1) d2 && true)) = true then _ else _
            rw [Bool.and_true]
            cases h3 : (withinD 0 ((n : Int) - 1) d1 && withinD 0 ((n : Int) - 1) d2) with
            | false =>
              rw [h3] at q'
              show if false = true then _ else _
              rw [if_neg Bool.false_ne_true]
              exact q'
            | true =>
              rw [h3] at q'
              rw [Bool.and_eq_true] at h3
              obtain ⟨x, rfl⟩ : ∃ g, d1 = .int g := by
                cases d1 with
                | int g => exact ⟨g, rfl⟩
                | _ => cases h3.1
              obtain ⟨y, rfl⟩ : ∃ g, d2 = .int g := by
                cases d2 with
                | int g => exact ⟨g, rfl⟩
                | _ => cases h3.2
              cases xa with
              | cons x1 xa =>
                cases xa with
                | cons x2 xa =>
                  cases xa
                  obtain rfl := x1.int
                  obtain rfl := x2.int
                  show if true = true then _ else _
                  rw [if_pos rfl]
                  refine ⟨.ref t, rfl, t, _, 0, .int x, rfl, rfl, sqt_of (sx _ _ e1), atI_nat (j := 0) rfl, .ref t, rfl, t, _, 1, .int y, rfl, rfl, sqt_of (sx _ _ e1), atI_nat (j := 1) rfl, _, _, rfl, rfl, ?_⟩
                  exact q'
      · rw [decide_eq_false (show ¬ V.int ((ds.length : Nat) : Int) = V.int 2 from fun e => h2 (by injection e with e; omega))]
        rw [tieD_len h2] at q
        exact q H (Same.refl _)
end
end HI

set_option Elab.async false
set_option linter.all false
set_option maxRecDepth 100000
set_option maxHeartbeats 4000000
namespace HI
open PySem L2 PyProof.Rows Hw
theorem cut1 {xs : List V} : cutV xs (some 1) none = xs.drop 1 := by
  unfold cutV
  rw [show HT.sIx xs.length 0 (some 1) = min 1 xs.length from HT.sIx_nat _ 0 1, HT.sIx_none]
  have e : xs.drop (min 1 xs.length) = xs.drop 1 := by
    by_cases h : 1 ≤ xs.length
    · rw [Nat.min_eq_left h]
    · rw [Nat.min_eq_right (by omega), List.drop_of_length_le (Nat.le_refl _), List.drop_of_length_le (by omega)]
  rw [e]
  refine List.take_of_length_le ?_
  rw [List.length_drop]; omega
theorem sqT_same {K : PySem.W.Frag} {H H' : Hp} {p : Addr} {xs : List V} (h : SqT K H p xs) (s : Same H H') : SqT K H' p xs := by
  rcases h with (h | ⟨o, h⟩) | h
  · exact .inl (.inl (s _ _ h))
  · exact .inl (.inr ⟨o, s _ _ h⟩)
  · exact .inr h
section
variable {P : Program} {w : World} {K : PySem.W.Frag} {mg : Str → Option Value} {base : Heap}
theorem scAsc : FnScope ["values", "one", "other"] ["values"] (defScope sAsc) := ⟨rfl, rfl, rfl, by decide +kernel, rfl, by decide +kernel, by decide +kernel⟩
theorem ok_ascT {f : Addr} {fd : FuncData} {k : Nat} (F : Fun K "ascends" "ascends" sAsc f fd) (ba : mg "all" = none) (bz : mg "zip" = none) : FnOk P w K mg base CX0 (k + 1) f fd ["values"] spAscT := by
  refine F.ok scAsc (fun vs H Q E h => ?_) (fun cdv A outer s H vs Q E hr h => ?_)
  · obtain ⟨p, qs, ts, rfl, _⟩ := h
    rfl
  · obtain ⟨p, qs, ts, rfl, e1, hq, hl, q⟩ := h
    have hu0 := hr.units0
    refine ⟨_, pss_one (ps_ret (pe_callB (cr_all rfl) (by rfl) ba PyProof.Rows.boot_all (pa_cons (pe_lc (own := [("one", 1), ("other", 2)]) (g := gTup _ 2 (gCons (gName 1) (gCons (gName 2) gNil))) (tt := tYes) (te := tOp (rLtT K) (tVar 1) (tVar 2)) rfl scAsc.nd
        (RZ.pi_zipA (by rfl) bz (pa_cons (pv 0) (pa_cons (pe_slice sl_tupA (pv 0) (po_some pe_int) po_none) pa_nil))) (blkOk_by (N := ["values", "one", "other"]) (sc := defScope sAsc) (by decide +kernel))
        (fun _ _ _ _ _ => pg_tup rfl (pgs_cons (pg_name (i := 1) scAsc.nd rfl (Or.inl rfl)) (pgs_cons (pg_name (i := 2) scAsc.nd rfl (Or.inl rfl)) pgs_nil))) (fun _ _ _ _ _ => pts_nil) (fun _ _ _ _ _ => pe_cmpR (op_ltT hu0) (pv 1) (pv 2) (nomark _))) pa_nil))), ?_⟩
    have hlq : qs.length = ts.length := Paired.length hq
    have walk_len : (((ts.zip (ts.drop 1)).take (min (qs.map V.ref).length ((qs.map V.ref).drop 1).length)).map fun p => ltT p.1 p.2) = (ts.zip (ts.drop 1)).map fun p => ltT p.1 p.2 := by
      rw [List.take_of_length_le]
      rw [List.length_zip, List.length_drop, List.length_drop, List.length_map, Paired.length hq]
      exact Nat.le_refl _
    have hp : SqT K H p (qs.map V.ref) := sqt_of e1
    refine ⟨.ref p, rfl, .ref p, rfl, 1, rfl, p, qs.map V.ref, rfl, hp, fun hw => ?_, fun hw b nb => ?_⟩
    · obtain ⟨H1, eH1⟩ : ∃ H1, H1 = H := ⟨H, rfl⟩
      have s1 : Same H H1 := by rw [eH1]; exact Same.refl H
      have hb : SqT K H1 p ((qs.map V.ref).drop 1) := by
        have e0 : (qs.map V.ref).length = 0 := by
          have := hw.1
          rw [show HT.sIx (qs.map V.ref).length 0 (some 1) = min 1 (qs.map V.ref).length from HT.sIx_nat _ 0 1] at this
          omega
        rw [List.length_eq_zero_iff.mp e0] at hp ⊢
        rw [eH1]; exact hp
      rw [← eH1]
      refine ⟨p, _, qs.map V.ref, (qs.map V.ref).drop 1, rfl, .inr ⟨sqT_same hp s1, hb, fun D hD => lc_it (walk_zipT rfl) (fun i H' => Same H H' ∧ Same H1 H' ∧ H' D = some (.lst ((((ts.zip (ts.drop 1)).take i).map fun p => ltT p.1 p.2).map V.bl))) ⟨s1.trans (same_upd hD), same_upd hD, upd_same⟩ (fun i H' _ h => ⟨sqT_same hp h.1, sqT_same hb h.2.1⟩) ?_ ?_⟩⟩
      · rintro i x H' H'' hi ⟨sx, sx1, eD⟩ ⟨T, x1, x2, rfl, nT, rfl, g1, g2⟩
        obtain ⟨q1, h1, rfl⟩ := Hw.map_get g1
        have g2 : ((qs.map V.ref).drop 1)[i]? = some x2 := g2
        rw [List.getElem?_drop] at g2
        obtain ⟨q2, h2, rfl⟩ := Hw.map_get g2
        obtain ⟨t1, k1, f1⟩ := Hw.paired_get hq h1
        obtain ⟨t2, k2, f2⟩ := Hw.paired_get hq h2
        refine ⟨T, [.ref q1, .ref q2], rfl, sqt_of upd_same, rfl, _, [.ref q2], rfl, _, [], rfl, rfl, rfl, r_yes ?_⟩
        have hz := zip_at k1 k2
        refine ⟨.ref q1, rfl, .ref q2, rfl, q1, q2, t1, t2, rfl, rfl, sqt_of ((same_upd nT) _ _ (sx _ _ f1)), sqt_of ((same_upd nT) _ _ (sx _ _ f2)), _, (same_upd nT) _ _ eD, smallM2 (by rw [List.length_map, List.length_map, List.length_take, List.length_zip]; omega), ?_, ?_, ?_⟩
        · intro b o e
          rw [upd_ne (ne_of_none (s1 _ _ e) hD)]
          exact (same_upd nT) _ _ (sx _ _ e)
        · intro b o e
          rw [upd_ne (ne_of_none e hD)]
          exact (same_upd nT) _ _ (sx1 _ _ e)
        · rw [upd_same, Hw.take_snoc hz, List.map_append, List.map_append]; rfl
      · rintro H' ⟨sx, sx1, eD⟩
        rw [walk_len] at eD
        refine ⟨D, _, rfl, sql_of eD, ?_⟩
        have e : ((ts.zip (ts.drop 1)).map fun p => ltT p.1 p.2).all id = ascB ts := by unfold ascB; rw [List.all_map]; rfl
        rw [e]
        exact q H' sx
    · have s1 : Same H (upd H b (.tup (cutV (qs.map V.ref) (some 1) none))) := same_upd nb
      have hb : SqT K (upd H b (.tup (cutV (qs.map V.ref) (some 1) none))) b ((qs.map V.ref).drop 1) := by
        rw [cut1]
        exact sqt_of upd_same
      generalize (upd H b (.tup (cutV (qs.map V.ref) (some 1) none))) = H1 at s1 hb ⊢
      refine ⟨p, _, qs.map V.ref, (qs.map V.ref).drop 1, rfl, .inr ⟨sqT_same hp s1, hb, fun D hD => lc_it (walk_zipT rfl) (fun i H' => Same H H' ∧ Same H1 H' ∧ H' D = some (.lst ((((ts.zip (ts.drop 1)).take i).map fun p => ltT p.1 p.2).map V.bl))) ⟨s1.trans (same_upd hD), same_upd hD, upd_same⟩ (fun i H' _ h => ⟨sqT_same hp h.1, sqT_same hb h.2.1⟩) ?_ ?_⟩⟩
      · rintro i x H' H'' hi ⟨sx, sx1, eD⟩ ⟨T, x1, x2, rfl, nT, rfl, g1, g2⟩
        obtain ⟨q1, h1, rfl⟩ := Hw.map_get g1
        have g2 : ((qs.map V.ref).drop 1)[i]? = some x2 := g2
        rw [List.getElem?_drop] at g2
        obtain ⟨q2, h2, rfl⟩ := Hw.map_get g2
        obtain ⟨t1, k1, f1⟩ := Hw.paired_get hq h1
        obtain ⟨t2, k2, f2⟩ := Hw.paired_get hq h2
        refine ⟨T, [.ref q1, .ref q2], rfl, sqt_of upd_same, rfl, _, [.ref q2], rfl, _, [], rfl, rfl, rfl, r_yes ?_⟩
        have hz := zip_at k1 k2
        refine ⟨.ref q1, rfl, .ref q2, rfl, q1, q2, t1, t2, rfl, rfl, sqt_of ((same_upd nT) _ _ (sx _ _ f1)), sqt_of ((same_upd nT) _ _ (sx _ _ f2)), _, (same_upd nT) _ _ eD, smallM2 (by rw [List.length_map, List.length_map, List.length_take, List.length_zip]; omega), ?_, ?_, ?_⟩
        · intro b o e
          rw [upd_ne (ne_of_none (s1 _ _ e) hD)]
          exact (same_upd nT) _ _ (sx _ _ e)
        · intro b o e
          rw [upd_ne (ne_of_none e hD)]
          exact (same_upd nT) _ _ (sx1 _ _ e)
        · rw [upd_same, Hw.take_snoc hz, List.map_append, List.map_append]; rfl
      · rintro H' ⟨sx, sx1, eD⟩
        rw [walk_len] at eD
        refine ⟨D, _, rfl, sql_of eD, ?_⟩
        have e : ((ts.zip (ts.drop 1)).map fun p => ltT p.1 p.2).all id = ascB ts := by unfold ascB; rw [List.all_map]; rfl
        rw [e]
        exact q H' sx
end
end HI

set_option Elab.async false
set_option linter.all false
set_option maxRecDepth 100000
set_option maxHeartbeats 4000000
namespace HI
open PySem L2 PyProof.Rows Hw
abbrev sTreeFor : Stmt := topS 20
/-! levels end behind twice as many laps as places -/
theorem lev_end {ns : List Int} {nb : Int → List Int} (hnb : ∀ n ∈ ns, ∀ o ∈ nb n, o ∈ ns) {p : Int} (hp : p ∈ ns) {N : Nat} (hN : ns.length ≤ N) : (lev nb p (2 * N)).2 = [] := by
  have key : ∀ i, (lev nb p i).2 = [] ∨ muF ns (lev nb p i) + i ≤ 2 * ns.length - 1 := by
    intro i
    induction i with
    | zero =>
      right
      show 2 * (ns.length - 1) + 1 + 0 ≤ _
      have := List.length_pos_of_mem hp
      omega
    | succ i ih =>
      rcases ih with h | h
      · left
        have e : lev nb p i = ((lev nb p i).1, []) := Prod.ext rfl h
        have := lev_stay e 1
        rw [this]
      · by_cases hs : (lev nb p i).2 = []
        · left
          have e : lev nb p i = ((lev nb p i).1, []) := Prod.ext rfl hs
          have := lev_stay e 1
          rw [this]
        · right
          obtain ⟨n0, f⟩ := lev_ok hnb hp i
          have := mu_lvl hnb f hs
          show muF ns (lvl nb (lev nb p i)) + (i + 1) ≤ _
          omega
  rcases key (2 * N) with h | h
  · exact h
  · have := List.length_pos_of_mem hp
    omega
def reachN (ts : List Tie) (n : Nat) (p : Int) : Far := (lev (nbr ts) p (2 * n)).1
theorem reach_bfs {n : Nat} {ns : List Int} {ts : List Tie} (hnb : ∀ n ∈ ns, ∀ o ∈ nbr ts n, o ∈ ns) {p : Int} (hp : p ∈ ns) (hl : ns.length ≤ n) : Bfs (nbr ts) p (reachN ts n p) :=
  ⟨2 * n, Prod.ext rfl (lev_end hnb hp hl)⟩
def tieOf : PyData → Option Tie
  | .tuple [.int x, .int y] => some (x, y)
  | _ => none
def tiesOf (ds : List PyData) : List Tie := ds.filterMap tieOf
theorem tiesOf_ti (ts : List Tie) : tiesOf (ts.map tiD) = ts := by
  unfold tiesOf
  rw [List.filterMap_map]
  have : (tieOf ∘ tiD) = some := by funext t; rfl
  rw [this, List.filterMap_some]
def degB (ls : List Int) (ts : List Tie) : Bool := (List.range ls.length).all fun i => decide (((nbr ts (i : Nat)).length : Int) ≤ ls.getD i 0)
def treeT (ls : List Int) (ts : List Tie) : Bool := decide ((reachN ts ls.length 0).length = ls.length) && degB ls ts
def isTreeD (ls : List Int) : PyData → Bool
  | .tuple ds => decide (ds.length + 1 = ls.length) && (ds.all (tieD ls.length) && (ascB (tiesOf ds) && treeT ls (tiesOf ds)))
  | _ => false
theorem isTreeD_tup (ls : List Int) (ds : List PyData) : isTreeD ls (.tuple ds) = (decide (ds.length + 1 = ls.length) && (ds.all (tieD ls.length) && (ascB (tiesOf ds) && treeT ls (tiesOf ds)))) := rfl
theorem isTreeD_no {ls : List Int} {d : PyData} (h : isTupD d = false) : isTreeD ls d = false := by cases d <;> first | rfl | cases h
def intOf : PyData → Option Int
  | .int i => some i
  | _ => none
def limsOf : PyData → List Int
  | .tuple ds => ds.filterMap intOf
  | _ => []
theorem limsOf_ints (ls : List Int) : limsOf (.tuple (ls.map PyData.int)) = ls := by
  show (ls.map PyData.int).filterMap intOf = ls
  rw [List.filterMap_map]
  have : (intOf ∘ PyData.int) = some := by funext t; rfl
  rw [this, List.filterMap_some]
theorem fine_of {n : Nat} {ts : List Tie} (hn : n ≤ 200) (hl : ts.length ≤ 1000) (h : ∀ t ∈ ts, 0 ≤ t.1 ∧ t.1 < t.2 ∧ t.2 ≤ (n : Int) - 1) : FineW (nsI n) ts := by
  have mem : ∀ x : Int, 0 ≤ x → x ≤ (n : Int) - 1 → x ∈ nsI n := fun x h0 h1 => by
    have := mem_ns (n := n) (i := x.toNat) (by omega)
    rwa [Int.toNat_of_nonneg h0] at this
  refine ⟨ns_nd n, by rw [ns_len]; exact hn, fun t ht => ?_, by omega⟩
  obtain ⟨a, b, c⟩ := h t ht
  exact ⟨mem _ a (by omega), mem _ (by omega) c, b⟩
theorem fine_nb {ns : List Int} {ts : List Tie} (f : FineW ns ts) : ∀ m ∈ ns, ∀ o ∈ nbr ts m, o ∈ ns := fun m _ o ho => nbr_mem f.tie ho
theorem rg_ns (n : Nat) : rgV 0 (n : Int) = (nsI n).map V.int := by
  unfold rgV nsI
  rw [List.map_map, Int.sub_zero, Int.toNat_natCast]
  refine List.map_congr_left fun i _ => ?_
  show V.int (0 + (i : Int)) = V.int (i : Int)
  rw [Int.zero_add]
def rLenS (K : PySem.W.Frag) : List V → Hp → VK → Prop := fun xs H Q => ∃ (p : Addr) (ys : List V), xs = [.ref p] ∧ (SqL K H p ys ∨ SqT K H p ys) ∧ Q (.int ys.length) H
theorem call_lenS {X : Cx} : CallR X (.builtin "len") (rLenS X.K) := call_len_seq
def spIsTree (c : Addr) : Sp := fun vs H Q E => ∃ (l v : V) (a : Addr) (dl d : PyData), vs = [l, v] ∧ Dx a H l dl ∧ Dx a H v d ∧ (limD dl = true → ∀ H', Same H H' → Q (.bl (isTreeD (limsOf dl) d)) H') ∧
  (limD dl = false → ∀ dd H', Same H H' → H' dd = none → E (.ref c) (some dd) (upd H' dd (.xd [("value", l)])))
section
variable {P : Program} {w : World} {K : PySem.W.Frag} {mg : Str → Option Value} {base : Heap}
abbrev nTF : List Str := ["limits", "value", "many", "tied", "tie", "at", "limit"]
theorem scTreeFor : FnScope nTF ["limits", "value"] (defScope sTreeFor) := ⟨rfl, rfl, rfl, by decide +kernel, rfl, by decide +kernel, by decide +kernel⟩
theorem ok_treefor {f fC fO fA fT fF c : Addr} {fd fdC fdO fdA fdT fdF : FuncData} {k : Nat} (F : Fun K "is_tree_for" "is_tree_for" sTreeFor f fd) (B : Blt mg) (bi : mg "isinstance" = none) (bt : mg "tuple" = none) (ba : mg "all" = none) (be : mg "enumerate" = none)
    (GC : FnOk P w K mg base (L2N.CX P w) k fC fdC ["value"] (spChkLim c)) (gC : mg "check_limits" = some (.ref fC)) (kC : PySem.W.keepIn K (.ref fC) = true) (bC : Binds K fdC ["value"] [])
    (GO : FnOk P w K mg base CX0 k fO fdO ["value", "many"] spIsTieOf) (gO : mg "is_tie_of" = some (.ref fO)) (kO : PySem.W.keepIn K (.ref fO) = true) (bO : Binds K fdO ["value", "many"] [])
    (GA : FnOk P w K mg base CX0 k fA fdA ["values"] spAscT) (gA : mg "ascends" = some (.ref fA)) (kA : PySem.W.keepIn K (.ref fA) = true) (bA : Binds K fdA ["values"] [])
    (GT : FnOk P w K mg base CX0 k fT fdT ["places", "ties"] spTied) (gT : mg "tied_by" = some (.ref fT)) (kT : PySem.W.keepIn K (.ref fT) = true) (bT : Binds K fdT ["places", "ties"] [])
    (GF : FnOk P w K mg base CX0 k fF fdF ["tied", "place"] spFars) (gF : mg "far_along" = some (.ref fF)) (kF : PySem.W.keepIn K (.ref fF) = true) (bF : Binds K fdF ["tied", "place"] []) :
    FnOk P w K mg base (L2N.CX P w) (k + 1) f fd ["limits", "value"] (spIsTree c) := by
  refine okN F scTreeFor (fun vs H Q E h => ?_) (fun cdv A outer s H vs Q E hr h => ?_)
  · obtain ⟨l, v, a, dl, d, rfl, _⟩ := h
    rfl
  · obtain ⟨l, v, a, dl, d, rfl, xl, xv, q1, q2⟩ := h
    have hu := hu_of hr
    refine ⟨_, pss_cons (ps_expr (pe_call GC hr (by rfl) gC kC bC .nil passN (pa_cons (pv 0) pa_nil)))
      (pss_cons (ps_set (i := 2) scTreeFor.nd rfl (.inr rfl) (pe_callB call_len_seq (by rfl) B.len PySem.boot_len (pa_cons (pv 0) pa_nil)))
      (pss_cons (ps_if (PW.pt (pw_or (pt_not (pt_val (pe_callB call_isi (by rfl) bi PyProof.Rows.boot_isinstance (pa_cons (pv 1) (pa_cons (pe_bltn (v := .ty "tuple") (by rfl) bt (by decide +kernel) rfl) pa_nil)))))
        (pw_or1 (pt_cmpR op_ne (pe_callB call_len_seq (by rfl) B.len PySem.boot_len (pa_cons (pv 1) pa_nil)) (pe_op op_sub (pv 2) pe_int) (nomark _))))) (pss_one (ps_ret pe_bl)) pss_nil)
      (pss_cons (ps_if (PW.pt (pw_or (pt_not (pt_val (pe_callB (cr_all rfl) (by rfl) ba PyProof.Rows.boot_all (pa_cons (pe_lc (own := [("tie", 4)]) (g := gName 4) (tt := tYes) rfl scTreeFor.nd (pi_tup (pv 1)) (blkOk_by (N := nTF) (sc := defScope sTreeFor) (by decide +kernel))
          (fun _ _ _ _ _ => pg_name (i := 4) scTreeFor.nd rfl (Or.inl rfl)) (fun _ _ _ _ _ => pts_nil) (fun _ _ _ _ _ => pe_call GO hr (by rfl) gO kO bO .nil pass0 (pa_cons (pv 4) (pa_cons (pv 2) pa_nil)))) pa_nil))))
        (pw_or1 (pt_not (pt_val (pe_call GA hr (by rfl) gA kA bA .nil pass0 (pa_cons (pv 1) pa_nil))))))) (pss_one (ps_ret pe_bl)) pss_nil)
      (pss_cons (ps_set (i := 3) scTreeFor.nd rfl (.inr rfl) (pe_call GT hr (by rfl) gT kT bT .nil pass0 (pa_cons (pe_listRg rfl (by rfl) B.list (prg_1 (by rfl) B.range (pv 2))) (pa_cons (pv 1) pa_nil))))
      (pss_one (ps_ret (pe_and (pe_cmpR op_eq (pe_callB call_lenD (by rfl) B.len PySem.boot_len (pa_cons (pe_call GF hr (by rfl) gF kF bF .nil pass0 (pa_cons (pv 3) (pa_cons pe_int pa_nil))) pa_nil)) (pv 2) (nomark _))
        (pe_one (pe_callB (cr_all rfl) (by rfl) ba PyProof.Rows.boot_all (pa_cons (pe_lc (own := [("at", 5), ("limit", 6)]) (g := gTup K 2 (gCons (gName 5) (gCons (gName 6) gNil))) (tt := tYes) (te := tOp (rI0 fun i j => .bl (decide (i ≤ j))) (tCB (rLenS K) (tCons (tDGet (tVar 3) (tVar 5)) tNil)) (tVar 6)) rfl scTreeFor.nd (pi_enumT (by rfl) be (pa_cons (pv 0) pa_nil))
          (blkOk_by (N := nTF) (sc := defScope sTreeFor) (by decide +kernel)) (fun _ _ _ _ _ => pg_tup rfl (pgs_cons (pg_name (i := 5) scTreeFor.nd rfl (Or.inl rfl)) (pgs_cons (pg_name (i := 6) scTreeFor.nd rfl (Or.inl rfl)) pgs_nil))) (fun _ _ _ _ _ => pts_nil)
          (fun _ _ _ _ _ => pe_cmpR op_le (pe_callB call_lenS (by rfl) B.len PySem.boot_len (pa_cons (pe_dget hu (pv 3) (pv 5) (fun _ _ => rfl)) pa_nil)) (pv 6) (nomark _))) pa_nil)))))))))), ?_⟩
    refine rs_expr ?_
    refine ⟨l, rfl, l, a, dl, rfl, xl, fun hl H1 s1 => ?_, fun hl dd H1 s1 nd => q2 hl dd H1 s1 nd⟩
    obtain ⟨t, ls, rfl, rfl, ne, e1, L⟩ := limD_ex xl hl
    rw [limsOf_ints] at q1
    have q := q1 hl
    clear q1 q2
    have e1' := s1 _ _ e1
    refine rs_set ?_
    refine ⟨.ref t, rfl, t, ls.map V.int, rfl, .inr (sqt_of e1'), ?_⟩
    rw [List.length_map]
    have xv1 := Dx.keep (.of s1) _ _ xv
    refine rs_no ?_
    refine ⟨v, rfl, v, .ty "tuple", .type (tyD d), .type "tuple", isTupD d, rfl, .ty _, xv1.tyx, kit_tuple d, isTupD d, rfl, ?_⟩
    cases hT : isTupD d with
    | false =>
      show if true = true then _ else _
      rw [if_pos rfl]
      rw [isTreeD_no hT] at q
      exact q H1 s1
    | true =>
      obtain ⟨ds, rfl⟩ := isTup_ex hT
      obtain ⟨tv, xs, rfl, ev, nv, xa⟩ := dx_tup xv1
      have hlen := xa.length
      rw [isTreeD_tup] at q
      show if false = true then _ else _
      rw [if_neg Bool.false_ne_true]
      refine ⟨.ref tv, rfl, tv, xs, rfl, .inr (sqt_of ev), .int (ls.length : Nat), rfl, _, _, rfl, rfl, rfl, _, rfl, ?_⟩
      rw [hlen]
      by_cases h2 : ds.length + 1 = ls.length
      · rw [decide_eq_true h2, Bool.true_and] at q
        rw [decide_eq_true (show V.int ((ds.length : Nat) : Int) = V.int ((ls.length : Nat) - 1) from congrArg V.int (by omega))]
        show if false = true then _ else _
        rw [if_neg Bool.false_ne_true]
        refine rs_no ?_
        refine ⟨.ref tv, rfl, tv, rfl, ⟨_, sqt_of ev⟩, fun D hD => lc_tup (xs := xs) (fun i H' => Same H1 H' ∧ H' D = some (.lst (((ds.take i).map (tieD ls.length)).map V.bl))) ⟨same_upd hD, upd_same⟩ (fun i H' _ h => sqt_of (h.1 _ _ ev)) ?_ ?_⟩
        · rintro i x H' hx ⟨sx, eD⟩
          obtain ⟨d', hd', xd⟩ := dx_get xa hx
          have hm := L.most
          refine ⟨rfl, r_yes ?_⟩
          refine ⟨x, rfl, .int (ls.length : Nat), rfl, x, a, d', ls.length, rfl, Dx.keep (.of sx) _ _ xd, fun H'' s'' => ⟨_, s'' _ _ eD, smallM2 (by rw [List.length_map, List.length_map, List.length_take]; omega), ?_, ?_⟩⟩
          · intro b o e
            rw [upd_ne (ne_of_none e hD)]
            exact s'' _ _ (sx _ _ e)
          · rw [upd_same, take_snoc hd', List.map_append, List.map_append]; rfl
        · rintro H2 ⟨s2, eD⟩
          rw [hlen, List.take_length] at eD
          refine ⟨D, _, rfl, sql_of eD, _, rfl, ?_⟩
          rw [List.all_map]
          show if (!(ds.all (tieD ls.length))) = true then _ else _
          cases h3 : ds.all (tieD ls.length) with
          | false =>
            rw [h3] at q
            show if true = true then _ else _
            rw [if_pos rfl]
            exact q H2 (s1.trans s2)
          | true =>
            rw [h3, Bool.true_and] at q
            show if false = true then _ else _
            rw [if_neg Bool.false_ne_true]
            obtain ⟨qs, ts, rfl, rfl, hq, ht⟩ := ties_ex xa h3
            rw [tiesOf_ti] at q
            rw [List.length_map] at h2
            have hm := L.most
            have hone := L.one
            have hq2 : Paired (TieL H2) qs ts := paired_mono (fun q t e => s2 _ _ e) hq
            refine ⟨.ref tv, rfl, tv, qs, ts, rfl, s2 _ _ ev, hq2, by omega, fun H3 s3 => ⟨_, rfl, ?_⟩⟩
            have s13 := (s1.trans s2).trans s3
            cases h4 : ascB ts with
            | false =>
              rw [h4] at q
              show if true = true then _ else _
              rw [if_pos rfl]
              exact q H3 s13
            | true =>
              rw [h4, Bool.true_and] at q
              show if false = true then _ else _
              rw [if_neg Bool.false_ne_true]
              have fine := fine_of (n := ls.length) (ts := ts) hm (by omega) ht
              refine rs_set ?_
              refine ⟨.int (ls.length : Nat), rfl, _, rfl, .of_le (by omega) (by omega) (by omega) (by omega), fun p np => ?_⟩
              rw [rg_ns]
              have sp := same_upd (o := .lst ((nsI ls.length).map V.int)) np
              refine ⟨.ref tv, rfl, p, tv, nsI ls.length, ts, qs, rfl, fine, upd_same, sp _ _ (s3 _ _ (s2 _ _ ev)), paired_mono (fun q t e => sp _ _ (s3 _ _ e)) hq2, fun Dt fa H4 s4 nl nD nf => ?_⟩
              have s14 := (s13.trans sp).trans s4
              have e4 := s14 _ _ e1
              clear sp np nD nf
              have hnb := fine_nb fine
              have h0 : (0 : Int) ∈ nsI ls.length := mem_ns (i := 0) (by omega)
              refine ⟨.ref Dt, rfl, Dt, 0, fa, nsI ls.length, ts, rfl, nl, h0, by rw [ns_len]; omega, hnb, fun far fd' H5 hb hf s5 e5 n5 => ?_⟩
              have efar : far = reachN ts ls.length 0 := hb.uniq (reach_bfs hnb h0 (by rw [ns_len]; exact Nat.le_refl _))
              refine ⟨fd', encF far, rfl, e5, .int (ls.length : Nat), rfl, rfl, _, rfl, ?_⟩
              have s15 := s14.trans s5
              have lf : (encF far).length = far.length := by unfold encF; rw [List.length_map]
              rw [lf, efar]
              unfold treeT at q
              by_cases h6 : (reachN ts ls.length 0).length = ls.length
              · rw [decide_eq_true h6, Bool.true_and] at q
                rw [decide_eq_true (show V.int (((reachN ts ls.length 0).length : Nat) : Int) = V.int ((ls.length : Nat) : Int) from congrArg V.int (by omega))]
                show if true = true then _ else _
                rw [if_pos rfl]
                have e5' := s15 _ _ e1
                have nl5 := nl.keep s5
                refine ⟨.ref t, rfl, t, ls.map V.int, rfl, sqt_of e5', fun D2 nD2 => lc_it walk_enumT (fun i H' => Same H5 H' ∧ H' D2 = some (.lst (((List.range i).map fun i => decide (((nbr ts (i : Nat)).length : Int) ≤ ls.getD i 0)).map V.bl))) ⟨same_upd nD2, upd_same⟩ (fun i H' _ h => sqt_of (h.1 _ _ e5')) ?_ ?_⟩
                · rintro i x H' H'' hi ⟨sx, eD2⟩ ⟨T, u, v, rfl, nT, rfl, hu', hv⟩
                  obtain rfl : V.int (i : Int) = u := Option.some.inj hu'
                  obtain ⟨g, hg, rfl⟩ := Hw.map_get hv
                  have hi' := (List.getElem?_eq_some_iff.mp hg).1
                  have sT := same_upd (o := .tup [.int (i : Int), .int g]) nT
                  refine ⟨T, [.int (i : Int), .int g], rfl, sqt_of upd_same, rfl, _, [.int g], rfl, _, [], rfl, rfl, rfl, r_yes ?_⟩
                  have hin : ((i : Nat) : Int) ∈ nsI ls.length := mem_ns hi'
                  have nlx := (nl5.keep sx).keep sT
                  refine ⟨.ref Dt, rfl, .int (i : Int), rfl, Dt, _, rfl, nlx.get hin, fa i, _, rfl, .inl (sql_of (nlx.lst _ hin)), .int g, rfl, _, _, rfl, rfl, ?_⟩
                  refine ⟨_, sT _ _ eD2, smallM2 (by rw [List.length_map, List.length_map, List.length_range]; omega), fun b o e => ?_, ?_⟩
                  · rw [upd_ne (ne_of_none e nD2)]; exact sT _ _ (sx _ _ e)
                  · rw [upd_same, List.range_succ, List.map_append, List.map_append, List.length_map]
                    have eg : ls.getD i 0 = g := by simp [List.getD, hg]
                    show _ = some (HO.lst (_ ++ [V.bl (decide (((nbr ts (i : Nat)).length : Int) ≤ ls.getD i 0))]))
                    rw [eg]
                · rintro H6 ⟨s6, eD2⟩
                  rw [List.length_map] at eD2
                  refine ⟨D2, _, rfl, sql_of eD2, ?_⟩
                  rw [List.all_map]
                  exact q H6 (s15.trans s6)
              · rw [decide_eq_false h6] at q
                rw [decide_eq_false (show ¬ V.int (((reachN ts ls.length 0).length : Nat) : Int) = V.int ((ls.length : Nat) : Int) from fun e => h6 (by injection e with e; omega))]
                exact q H5 s15
      · rw [decide_eq_false h2] at q
        rw [decide_eq_false (show ¬ V.int ((ds.length : Nat) : Int) = V.int ((ls.length : Nat) - 1) from fun e => h2 (by injection e with e; have := L.one; omega))]
        show if true = true then _ else _
        rw [if_pos rfl]
        exact q H1 s1
end
end HI

set_option Elab.async false
set_option linter.all false
set_option maxRecDepth 100000
set_option maxHeartbeats 4000000
namespace HI
open PySem L2 PyProof.Rows Hw
/-! the low tree of any limits -/
def leT (a b : Tie) : Bool := !ltT b a
def srt (ts : List Tie) : List Tie := ts.mergeSort leT
def ordG (ls : List Int) : List Tie := (List.range ls.length).map fun i => (-(ls.getD i 0), ((i : Nat) : Int))
def psG (ls : List Int) : List Int := (srt (ordG ls)).map (·.2)
def vsG (ls : List Int) : List Int := (srt (ordG ls)).map fun t => -t.1
def limAt (ls : List Int) (p : Int) : Int := ls.getD p.toNat 0
def roomG (ls : List Int) (i : Nat) : List Int := List.replicate (limAt ls ((psG ls).getD 0 0)).toNat ((psG ls).getD 0 0) ++ (List.range i).flatMap fun j => List.replicate (limAt ls ((psG ls).getD (j + 1) 0) - 1).toNat ((psG ls).getD (j + 1) 0)
def pairI (a b : Int) : Tie := if a < b then (a, b) else (b, a)
def rawT (ls : List Int) : List Tie := (List.range (ls.length - 1)).map fun i => pairI ((roomG ls i).getD i 0) ((psG ls).getD (i + 1) 0)
def lowT (ls : List Int) : List Tie := srt (rawT ls)
theorem srt_perm (ts : List Tie) : (srt ts).Perm ts := List.mergeSort_perm ts leT
theorem srt_len (ts : List Tie) : (srt ts).length = ts.length := (srt_perm ts).length_eq
theorem ordG_len (ls : List Int) : (ordG ls).length = ls.length := by unfold ordG; rw [List.length_map, List.length_range]
theorem psG_len (ls : List Int) : (psG ls).length = ls.length := by unfold psG; rw [List.length_map, srt_len, ordG_len]
theorem vsG_len (ls : List Int) : (vsG ls).length = ls.length := by unfold vsG; rw [List.length_map, srt_len, ordG_len]
theorem psG_perm (ls : List Int) : (psG ls).Perm (nsI ls.length) := by
  have h := (srt_perm (ordG ls)).map (fun t : Tie => t.2)
  have e : (ordG ls).map (fun t : Tie => t.2) = nsI ls.length := by
    unfold ordG nsI
    rw [List.map_map]; rfl
  rw [e] at h
  exact h
theorem range_getD (ls : List Int) : ((List.range ls.length).map fun i => ls.getD i 0) = ls := by
  refine List.ext_getElem? fun i => ?_
  rw [List.getElem?_map]
  by_cases h : i < ls.length
  · rw [List.getElem?_range h, List.getElem?_eq_getElem h]
    simp [List.getD, List.getElem?_eq_getElem h]
  · rw [List.getElem?_eq_none (by rw [List.length_range]; omega), List.getElem?_eq_none (by omega)]; rfl
theorem vsG_perm (ls : List Int) : (vsG ls).Perm ls := by
  have h := (srt_perm (ordG ls)).map (fun t : Tie => -t.1)
  have e : (ordG ls).map (fun t : Tie => -t.1) = ls := by
    unfold ordG
    rw [List.map_map]
    have : (fun t : Tie => -t.1) ∘ (fun i : Nat => ((-(ls.getD i 0), ((i : Nat) : Int)) : Tie)) = fun i => ls.getD i 0 := by
      funext i
      show - -(ls.getD i 0) = ls.getD i 0
      omega
    rw [this]
    exact range_getD ls
  rw [e] at h
  exact h
theorem psG_nd (ls : List Int) : (psG ls).Nodup := (psG_perm ls).nodup_iff.mpr (ns_nd _)
theorem psG_mem {ls : List Int} {p : Int} (h : p ∈ psG ls) : 0 ≤ p ∧ p < ls.length := by
  have h := (psG_perm ls).mem_iff.mp h
  unfold nsI at h
  obtain ⟨i, hi, rfl⟩ := List.mem_map.mp h
  have := List.mem_range.mp hi
  omega
theorem lim_val (ls : List Int) (i : Nat) : limAt ls ((psG ls).getD i 0) = (vsG ls).getD i (limAt ls 0) := by
  unfold psG vsG
  by_cases h : i < (srt (ordG ls)).length
  · have hm := (srt_perm (ordG ls)).mem_iff.mp (List.getElem_mem h)
    unfold ordG at hm
    obtain ⟨j, _, e⟩ := List.mem_map.mp hm
    simp only [List.getD, List.getElem?_map, List.getElem?_eq_getElem h, Option.map_some, Option.getD_some]
    have e1 : (srt (ordG ls))[i].2 = (j : Int) := by unfold ordG; rw [← e]
    have e2 : (srt (ordG ls))[i].1 = -(ls.getD j 0) := by unfold ordG; rw [← e]
    rw [e1, e2]
    unfold limAt
    rw [Int.toNat_natCast]
    simp only [List.getD]
    omega
  · simp only [List.getD, List.getElem?_map, List.getElem?_eq_none (by omega : (srt (ordG ls)).length ≤ i), Option.map_none, Option.getD_none]
theorem leT_trans (a b c : Tie) (h1 : leT a b = true) (h2 : leT b c = true) : leT a c = true := by
  unfold leT ltT at *
  simp only [Bool.not_eq_true', Bool.or_eq_false_iff, decide_eq_false_iff_not, Bool.and_eq_false_iff] at *
  omega
theorem leT_total (a b : Tie) : (leT a b || leT b a) = true := by
  unfold leT ltT
  rw [Bool.or_eq_true]
  simp only [Bool.not_eq_true', Bool.or_eq_false_iff, decide_eq_false_iff_not, Bool.and_eq_false_iff]
  omega
theorem srt_pw (ts : List Tie) : (srt ts).Pairwise fun a b => leT a b = true := List.pairwise_mergeSort leT_trans leT_total ts
theorem vsG_desc (ls : List Int) : (vsG ls).Pairwise fun a b => b ≤ a := by
  unfold vsG
  rw [List.pairwise_map]
  refine (srt_pw _).imp fun {a b} h => ?_
  unfold leT ltT at h
  simp only [Bool.not_eq_true', Bool.or_eq_false_iff, decide_eq_false_iff_not] at h
  omega
theorem perm_sum {xs ys : List Int} (h : xs.Perm ys) : xs.sum = ys.sum := by
  induction h with
  | nil => rfl
  | cons x _ ih => rw [List.sum_cons, List.sum_cons, ih]
  | swap x y l => simp only [List.sum_cons]; omega
  | trans _ _ i1 i2 => exact i1.trans i2
theorem sum_ge {xs : List Int} {c : Int} (h : ∀ x ∈ xs, c ≤ x) : c * (xs.length : Int) ≤ xs.sum := by
  induction xs with
  | nil => simp
  | cons x xs ih =>
    have := ih fun y hy => h y (List.mem_cons_of_mem _ hy)
    have := h x List.mem_cons_self
    rw [List.sum_cons, List.length_cons]
    rw [show ((xs.length + 1 : Nat) : Int) = (xs.length : Int) + 1 from by omega, Int.mul_add]
    omega
theorem sum_le {xs : List Int} {c : Int} (h : ∀ x ∈ xs, x ≤ c) : xs.sum ≤ c * (xs.length : Int) := by
  induction xs with
  | nil => simp
  | cons x xs ih =>
    have := ih fun y hy => h y (List.mem_cons_of_mem _ hy)
    have := h x List.mem_cons_self
    rw [List.sum_cons, List.length_cons]
    rw [show ((xs.length + 1 : Nat) : Int) = (xs.length : Int) + 1 from by omega, Int.mul_add]
    omega
/-- falling numbers: the first ones are enough -/
theorem take_enough {vs : List Int} (hd : vs.Pairwise fun a b => b ≤ a) (h1 : ∀ v ∈ vs, 1 ≤ v) (hs : 2 * ((vs.length : Int) - 1) ≤ vs.sum) {j : Nat} (hj : j + 1 < vs.length) : 2 * (j : Int) + 1 ≤ (vs.take (j + 1)).sum := by
  have hlt : (vs.take (j + 1)).length = j + 1 := by rw [List.length_take]; omega
  by_cases hv : 2 ≤ vs[j]
  · have : 2 * ((vs.take (j + 1)).length : Int) ≤ (vs.take (j + 1)).sum := sum_ge fun x hx => by
      obtain ⟨i, hi, rfl⟩ := List.mem_iff_getElem.mp hx
      rw [hlt] at hi
      rw [List.getElem_take]
      rcases Nat.lt_or_ge i j with a | a
      · have := List.pairwise_iff_getElem.mp hd i j (by omega) (by omega) a
        omega
      · have : i = j := by omega
        subst this; exact hv
    rw [hlt] at this
    omega
  · have hsum : vs.sum = (vs.take (j + 1)).sum + (vs.drop (j + 1)).sum := by rw [← List.sum_append, List.take_append_drop]
    have hdr : (vs.drop (j + 1)).sum ≤ 1 * ((vs.drop (j + 1)).length : Int) := sum_le fun x hx => by
      obtain ⟨i, hi, rfl⟩ := List.mem_iff_getElem.mp hx
      rw [List.getElem_drop]
      rw [List.length_drop] at hi
      have := List.pairwise_iff_getElem.mp hd j (j + 1 + i) (by omega) (by omega) (by omega)
      omega
    rw [List.length_drop] at hdr
    omega
theorem roomG_succ (ls : List Int) (i : Nat) : roomG ls (i + 1) = roomG ls i ++ List.replicate (limAt ls ((psG ls).getD (i + 1) 0) - 1).toNat ((psG ls).getD (i + 1) 0) := by
  unfold roomG
  rw [List.range_succ, List.flatMap_append, List.append_assoc]
  simp
theorem roomG_len {ls : List Int} (h1 : ∀ v ∈ ls, 1 ≤ v) : ∀ {i : Nat}, i < ls.length → ((roomG ls i).length : Int) + i = ((vsG ls).take (i + 1)).sum
  | 0, h => by
    have hv : 0 < (vsG ls).length := by rw [vsG_len]; exact h
    have e := lim_val ls 0
    unfold roomG
    rw [e]
    have hm : (vsG ls)[0] ∈ ls := (vsG_perm ls).mem_iff.mp (List.getElem_mem hv)
    have g := h1 _ hm
    rw [List.take_succ, List.take_zero, List.getElem?_eq_getElem hv]
    simp [List.getD, List.getElem?_eq_getElem hv]
    omega
  | i + 1, h => by
    have ih := roomG_len h1 (i := i) (by omega)
    have hv : i + 1 < (vsG ls).length := by rw [vsG_len]; exact h
    have hm : (vsG ls)[i + 1] ∈ ls := (vsG_perm ls).mem_iff.mp (List.getElem_mem hv)
    have g := h1 _ hm
    rw [roomG_succ, List.length_append, List.length_replicate, lim_val]
    rw [List.take_succ (i := i + 1), List.getElem?_eq_getElem hv, List.sum_append]
    simp only [List.getD, List.getElem?_eq_getElem hv, Option.getD_some, Option.toList, List.sum_cons, List.sum_nil]
    omega
theorem roomG_ok {ls : List Int} (L : Lims ls) (ht : treeB ls = true) {i : Nat} (hi : i + 1 < ls.length) : i < (roomG ls i).length := by
  unfold treeB at ht
  simp only [Bool.not_eq_true', Bool.and_eq_false_iff, Bool.or_eq_false_iff, decide_eq_false_iff_not] at ht
  rcases ht with ht | ht
  · omega
  · have h1 : ∀ v ∈ ls, 1 ≤ v := fun v hv => by
      have := (L.each v hv).1
      by_cases h0 : v = 0
      · subst h0; exact absurd hv ht.1
      · omega
    have hl := roomG_len h1 (i := i) (by omega)
    have hs : (vsG ls).sum = ls.sum := perm_sum (vsG_perm ls)
    have := take_enough (vsG_desc ls) (fun v hv => h1 v ((vsG_perm ls).mem_iff.mp hv)) (by rw [hs, vsG_len]; omega) (j := i) (by rw [vsG_len]; exact hi)
    omega
theorem roomG_mem {ls : List Int} {i : Nat} (hi : i < ls.length) {r : Int} (h : r ∈ roomG ls i) : r ∈ (psG ls).take (i + 1) := by
  have at_ : ∀ j, j ≤ i → (psG ls).getD j 0 ∈ (psG ls).take (i + 1) := fun j hj => by
    have hp : j < (psG ls).length := by rw [psG_len]; omega
    rw [List.mem_take_iff_getElem]
    refine ⟨j, by omega, ?_⟩
    simp [List.getD, List.getElem?_eq_getElem hp]
  unfold roomG at h
  rcases List.mem_append.mp h with h | h
  · rw [List.eq_of_mem_replicate h]
    exact at_ 0 (Nat.zero_le _)
  · obtain ⟨j, hj, h⟩ := List.mem_flatMap.mp h
    rw [List.eq_of_mem_replicate h]
    have := List.mem_range.mp hj
    exact at_ (j + 1) (by omega)
theorem limAt_le {ls : List Int} (L : Lims ls) (p : Int) : limAt ls p ≤ 200 := by
  unfold limAt
  generalize p.toNat = m
  by_cases h : m < ls.length
  · simp only [List.getD, List.getElem?_eq_getElem h, Option.getD_some]
    exact (L.each _ (List.getElem_mem h)).2
  · simp [List.getD, List.getElem?_eq_none (by omega : ls.length ≤ m)]
theorem roomG_few {ls : List Int} (L : Lims ls) : ∀ i, (roomG ls i).length ≤ 200 + i * 200
  | 0 => by
    have h : (roomG ls 0).length = (limAt ls ((psG ls).getD 0 0)).toNat := by
      unfold roomG
      rw [List.range_zero, List.flatMap_nil, List.append_nil, List.length_replicate]
    have := limAt_le L ((psG ls).getD 0 0)
    omega
  | i + 1 => by
    have ih := roomG_few L i
    rw [roomG_succ, List.length_append, List.length_replicate]
    have := limAt_le L ((psG ls).getD (i + 1) 0)
    omega
theorem raw_tie {ls : List Int} (L : Lims ls) (ht : treeB ls = true) : ∀ t ∈ rawT ls, 0 ≤ t.1 ∧ t.1 < t.2 ∧ t.2 ≤ (ls.length : Int) - 1 := by
  intro t h
  unfold rawT at h
  obtain ⟨i, hi, rfl⟩ := List.mem_map.mp h
  have hi := List.mem_range.mp hi
  have hr := roomG_ok L ht (i := i) (by omega)
  have er : (roomG ls i).getD i 0 = (roomG ls i)[i] := by simp [List.getD, List.getElem?_eq_getElem hr]
  have hm := roomG_mem (i := i) (by omega) (List.getElem_mem hr)
  have hp : i + 1 < (psG ls).length := by rw [psG_len]; omega
  have ep : (psG ls).getD (i + 1) 0 = (psG ls)[i + 1] := by simp [List.getD, List.getElem?_eq_getElem hp]
  rw [er, ep]
  have b1 := psG_mem (List.mem_of_mem_take hm)
  have b2 := psG_mem (List.getElem_mem hp)
  have ne : (roomG ls i)[i] ≠ (psG ls)[i + 1] := fun e => by
    rw [e] at hm
    exact nodup_take (psG_nd ls) (List.getElem?_eq_getElem hp) hm
  unfold pairI
  split
  · exact ⟨by omega, by assumption, by omega⟩
  · exact ⟨b2.1, by show (psG ls)[i + 1] < (roomG ls i)[i]; omega, by show (roomG ls i)[i] ≤ _; omega⟩
theorem low_tie {ls : List Int} (L : Lims ls) (ht : treeB ls = true) : ∀ t ∈ lowT ls, 0 ≤ t.1 ∧ t.1 < t.2 ∧ t.2 ≤ (ls.length : Int) - 1 := fun t h => raw_tie L ht t ((srt_perm _).mem_iff.mp h)
theorem low_len (ls : List Int) : (lowT ls).length = ls.length - 1 := by unfold lowT; rw [srt_len]; unfold rawT; rw [List.length_map, List.length_range]
def farT (ts : List Tie) (n : Nat) : Nat := (lastR ts (2 * n) (lastR ts (2 * n) 0).2).1
theorem maxPr_mem (x : Nat × Int) : ∀ xs : List (Nat × Int), maxPr x xs ∈ x :: xs := by
  intro xs
  unfold maxPr
  induction xs generalizing x with
  | nil => exact List.mem_cons_self
  | cons y xs ih =>
    rw [List.foldl_cons]
    by_cases h : ltPr x y = true
    · rw [if_pos h]
      exact List.mem_cons_of_mem _ (ih y)
    · rw [if_neg h]
      rcases List.mem_cons.mp (ih x) with e | e
      · rw [e]; exact List.mem_cons_self
      · exact List.mem_cons_of_mem _ (List.mem_cons_of_mem _ e)
theorem lastR_mem {ns : List Int} {ts : List Tie} (hnb : ∀ n ∈ ns, ∀ o ∈ nbr ts n, o ∈ ns) {p : Int} (hp : p ∈ ns) (n : Nat) : (lastR ts n p).2 ∈ ns := by
  obtain ⟨n0, f⟩ := lev_ok hnb hp n
  have hs := lev_self hnb hp n
  unfold lastR
  split
  · rename_i e
    rw [List.map_eq_nil_iff.mp e] at hs
    cases hs
  · rename_i x xs e
    have hm := maxPr_mem x xs
    rw [← e] at hm
    obtain ⟨z, hz, ez⟩ := List.mem_map.mp hm
    rw [← ez]
    exact f.sub _ (List.mem_map.mpr ⟨z, hz, rfl⟩)
end HI

set_option Elab.async false
set_option linter.all false
set_option maxRecDepth 100000
set_option maxHeartbeats 4000000
namespace HI
open PySem L2 PyProof.Rows Hw
def spPairG : Sp := fun vs H Q _ => ∃ a b : Int, vs = [.int a, .int b] ∧ ∀ p, H p = none → Q (.ref p) (upd H p (.tup [.int (pairI a b).1, .int (pairI a b).2]))
def spLowG : Sp := fun vs H Q _ => ∃ (a : Addr) (ls : List Int), vs = [.ref a] ∧ H a = some (.tup (ls.map V.int)) ∧ Lims ls ∧ treeB ls = true ∧ ∀ (t : Addr) (qs : List Addr) H', Same H H' → H' t = some (.tup (qs.map V.ref)) → Paired (TieL H') qs (lowT ls) → Q (.ref t) H'
theorem map_ms {α β : Type} (f : α → β) (r : α → α → Bool) (s : β → β → Bool) {l : List α} (h : ∀ a ∈ l, ∀ b ∈ l, r a b = s (f a) (f b)) : (l.mergeSort r).map f = (l.map f).mergeSort s := List.map_mergeSort h
/-- sorted of a list of refs to pairs of ints -/
theorem sort_tieG {K : PySem.W.Frag} {H : Hp} {a : Addr} {tp : List Addr} {ts : List Tie} {Q : VK} (e : H a = some (.lst (tp.map V.ref))) (hp : Paired (TieL H) tp ts) (hl : ts.length ≤ 1000)
    (q : ∀ p (tp' : List Addr), H p = none → Paired (TieL H) tp' (srt ts) → Q (.ref p) (upd H p (.lst (tp'.map V.ref)))) : rSortB K [.ref a] H Q := by
  obtain ⟨l, rfl, rfl, hl3⟩ := zip_of hp
  have b1 : (l.map fun x => (V.ref x.1, tiD x.2)).map (·.1) = (l.map (·.1)).map V.ref := by rw [List.map_map, List.map_map]; rfl
  have b2 : (l.map fun x => (V.ref x.1, tiD x.2)).map (·.2) = (l.map (·.2)).map tiD := by rw [List.map_map, List.map_map]; rfl
  have b3 : (l.map fun x => (V.ref x.1, tiD x.2)).mergeSort (PySem.W.dataLe false (·.2)) = (l.mergeSort fun x y => leT x.2 y.2).map fun x => (V.ref x.1, tiD x.2) := by
    refine (map_ms _ _ _ fun x _ y _ => ?_).symm
    rw [PySem.W.dataLe_eq]
    show leT x.2 y.2 = (!PySem.W.dataLt (tiD y.2) (tiD x.2))
    rw [dataLt_ti]; rfl
  have b4 : (l.mergeSort fun x y => leT x.2 y.2).map (·.2) = srt (l.map (·.2)) := map_ms _ _ _ fun x _ y _ => rfl
  refine ⟨a, l.map fun x => (V.ref x.1, tiD x.2), rfl, by rw [b1]; exact sql_of e, fun b hb => ?_, by rw [b2]; exact alike_ti _, by rw [b2]; exact sortable_ti _, ?_, fun p np => ?_⟩
  · obtain ⟨x, hx, rfl⟩ := List.mem_map.mp hb
    exact ⟨.tup (sqt_of (hl3 x hx)) (.cons (.int _) (.cons (.int _) .nil)), depth_ti _⟩
  · rw [List.length_map] at hl ⊢
    exact Nat.le_of_lt (smallM2 (by omega))
  · have e5 : ((l.mergeSort fun x y => leT x.2 y.2).map fun x => (V.ref x.1, tiD x.2)).map (·.1) = ((l.mergeSort fun x y => leT x.2 y.2).map (·.1)).map V.ref := by rw [List.map_map, List.map_map]; rfl
    rw [b3, e5]
    refine q p _ np ?_
    rw [← b4]
    have hm : ∀ x ∈ (l.mergeSort fun x y => leT x.2 y.2), TieL H x.1 x.2 := fun x hx => hl3 x (List.mem_mergeSort.mp hx)
    generalize (l.mergeSort fun x y => leT x.2 y.2) = l' at hm
    clear b1 b2 b3 b4 e5 np hp e hl hl3
    induction l' with
    | nil => exact .nil
    | cons x xs ih => exact .cons (hm x List.mem_cons_self) (ih fun y hy => hm y (List.mem_cons_of_mem _ hy))
theorem lims_at_p {ls : List Int} {p : Int} (h0 : 0 ≤ p) (h1 : p < ls.length) : atI (ls.map V.int) p = some (.int (limAt ls p)) := by
  have hp : p.toNat < ls.length := by omega
  have := atI_nat (xs := ls.map V.int) (j := p.toNat) (v := .int (limAt ls p)) (by
    rw [List.getElem?_map, List.getElem?_eq_getElem hp]
    unfold limAt
    simp [List.getD, List.getElem?_eq_getElem hp])
  rwa [Int.toNat_of_nonneg h0] at this
theorem limAt_nn {ls : List Int} (L : Lims ls) (p : Int) : 0 ≤ limAt ls p := by
  unfold limAt
  generalize p.toNat = m
  by_cases h : m < ls.length
  · simp only [List.getD, List.getElem?_eq_getElem h, Option.getD_some]
    exact (L.each _ (List.getElem_mem h)).1
  · simp [List.getD, List.getElem?_eq_none (by omega : ls.length ≤ m)]
theorem ps_getD {ls : List Int} {i : Nat} (h : i < ls.length) : (psG ls)[i]? = some ((psG ls).getD i 0) := by
  have hp : i < (psG ls).length := by rw [psG_len]; exact h
  simp [List.getD, List.getElem?_eq_getElem hp]
theorem ps_cons {ls : List Int} (h : 0 < ls.length) : psG ls = (psG ls).getD 0 0 :: (psG ls).drop 1 := by
  have hp : 0 < (psG ls).length := by rw [psG_len]; exact h
  have e : (psG ls).getD 0 0 = (psG ls)[0] := by simp [List.getD, List.getElem?_eq_getElem hp]
  rw [e]
  exact (List.drop_eq_getElem_cons hp).symm ▸ (List.drop_zero).symm
section
variable {P : Program} {w : World} {K : PySem.W.Frag} {mg : Str → Option Value} {base : Heap}
theorem ok_pairG {f : Addr} {fd : FuncData} {k : Nat} (F : Fun K "pair_of" "pair_of" sPair f fd) : FnOk P w K mg base CX0 (k + 1) f fd ["one", "other"] spPairG := by
  refine F.ok scPair (fun vs H Q E h => ?_) (fun cdv A outer s H vs Q E hr h => ?_)
  · obtain ⟨a, b, rfl, _⟩ := h
    rfl
  · obtain ⟨a, b, rfl, q⟩ := h
    refine ⟨_, pss_one (ps_ret (pe_ifExp (pt_cmpR op_lt (pv 0) (pv 1) (nomark _)) (pe_tup (pa_cons (pv 0) (pa_cons (pv 1) pa_nil))) (pe_tup (pa_cons (pv 1) (pa_cons (pv 0) pa_nil))))), ?_⟩
    refine ⟨.int a, rfl, .int b, rfl, a, b, rfl, rfl, _, rfl, ?_⟩
    unfold pairI at q
    by_cases h : a < b
    · rw [if_pos h] at q
      rw [decide_eq_true h]
      show if true = true then _ else _
      rw [if_pos rfl]
      exact ⟨.int a, rfl, .int b, rfl, by show 2 ≤ sizeLine; decide, fun p np => q p np⟩
    · rw [if_neg h] at q
      rw [decide_eq_false h]
      show if false = true then _ else _
      rw [if_neg Bool.false_ne_true]
      exact ⟨.int b, rfl, .int a, rfl, by show 2 ≤ sizeLine; decide, fun p np => q p np⟩
theorem ok_lowG {f fP : Addr} {fd fdP : FuncData} {k : Nat} (F : Fun K "low_tree" "low_tree" sLow f fd) (be : mg "enumerate" = none) (bs : mg "sorted" = none) (bt : mg "tuple" = none)
    (GP : FnOk P w K mg base CX0 k fP fdP ["one", "other"] spPairG) (gP : mg "pair_of" = some (.ref fP)) (kP : PySem.W.keepIn K (.ref fP) = true) (bP : Binds K fdP ["one", "other"] []) :
    FnOk P w K mg base CX0 (k + 1) f fd ["limits"] spLowG := by
  refine F.ok scLow (fun vs H Q E h => ?_) (fun cdv A outer s H vs Q E hr h => ?_)
  · obtain ⟨a, ls, rfl, _⟩ := h
    rfl
  · obtain ⟨a, ls, rfl, e1, L, ht, q⟩ := h
    have hu64 := hr.units
    have l1 := L.one
    have l2 := L.most
    refine ⟨_, pss_cons (ps_set (i := 1) scLow.nd rfl (.inl rfl) (pe_callB (cr_sortB hu64) (by rfl) bs PyProof.Rows.boot_sorted (pa_cons (pe_lc (own := [("place", 7), ("limit", 8)]) (g := gTup K 2 (gCons (gName 7) (gCons (gName 8) gNil))) (tt := tYes) (te := tTup (tCons (tUn (rU fun i => V.int (-i)) (tVar 8)) (tCons (tVar 7) tNil))) rfl scLow.nd (pi_enumT (by rfl) be (pa_cons (pv 0) pa_nil))
          (blkOk_by (N := nLow) (sc := defScope sLow) (by decide +kernel)) (fun _ _ _ _ _ => pg_tup rfl (pgs_cons (pg_name (i := 7) scLow.nd rfl (Or.inl rfl)) (pgs_cons (pg_name (i := 8) scLow.nd rfl (Or.inl rfl)) pgs_nil))) (fun _ _ _ _ _ => pts_nil)
          (fun _ _ _ _ _ => pe_tup (pa_cons (pe_un un_neg (pv 8)) (pa_cons (pv 7) pa_nil)))) pa_nil)))
      (pss_cons (ps_asg (pe_lc (own := [("pair", 9)]) (g := gName 9) (tt := tYes) (te := tOp (rIxT K) (tVar 9) (tC (.int 1))) rfl scLow.nd (pi_list (pv 1))
          (blkOk_by (N := nLow) (sc := defScope sLow) (by decide +kernel)) (fun _ _ _ _ _ => pg_name (i := 9) scLow.nd rfl (Or.inl rfl)) (fun _ _ _ _ _ => pts_nil) (fun _ _ _ _ _ => pe_ix ix_tup (pv 9) pe_int (fun _ _ => rfl)))
        (pg_star2 rfl (pg_name (i := 2) scLow.nd rfl (.inl rfl)) (pg_name (i := 3) scLow.nd rfl (.inl rfl))))
      (pss_cons (ps_set (i := 4) scLow.nd rfl (.inl rfl) (pe_op op_rep (pe_lst (pa_cons (pv 2) pa_nil)) (pe_ix ix_tup (pv 0) (pv 2) (fun _ _ => rfl))))
      (pss_cons (ps_set (i := 5) scLow.nd rfl (.inl rfl) (pe_lst pa_nil))
      (pss_cons (ps_for PassesOwn.never rfl (pi_enum (by rfl) be (pa_cons (pv 3) pa_nil)) (pg_tup rfl (pgs_cons (pg_name (i := 6) scLow.nd rfl (Or.inl rfl)) (pgs_cons (pg_name (i := 7) scLow.nd rfl (Or.inl rfl)) pgs_nil)))
        (pss_cons (ps_expr (pe_bm PySem.F.plainAttrs_list PySem.F.slot_list_append PySem.F.type_list_append mt_append (pv 5) (pa_cons (pe_call GP hr (by rfl) gP kP bP .nil pass0 (pa_cons (pe_ix ix_list (pv 4) (pv 6) (fun _ _ => rfl)) (pa_cons (pv 7) pa_nil))) pa_nil)))
        (pss_one (ps_expr (pe_bm PySem.F.plainAttrs_list PySem.F.slot_list_extend PySem.F.type_list_extend mt_extend (pv 4) (pa_cons (pe_op op_rep (pe_lst (pa_cons (pv 7) pa_nil)) (pe_op op_sub (pe_ix ix_tup (pv 0) (pv 7) (fun _ _ => rfl)) pe_int)) pa_nil))))))
      (pss_one (ps_ret (pe_callTy call_tuple_of (by rfl) bt PyProof.Rows.boot_tuple (pa_cons (pe_callB (cr_sortB hu64) (by rfl) bs PyProof.Rows.boot_sorted (pa_cons (pv 5) pa_nil)) pa_nil)))))))), ?_⟩
    have p0 : (psG ls).getD 0 0 ∈ psG ls := List.mem_of_getElem? (ps_getD (by omega))
    have p0b := psG_mem p0
    generalize hp0 : (psG ls).getD 0 0 = z0 at p0 p0b
    refine rs_set ?_
    refine ⟨.ref a, rfl, a, ls.map V.int, rfl, sqt_of e1, fun D nD => lc_it walk_enumT (fun i H' => Same H H' ∧ ∃ tp : List Addr, H' D = some (.lst (tp.map V.ref)) ∧ Paired (TieL H') tp ((List.range i).map fun i => (-(ls.getD i 0), ((i : Nat) : Int)))) ⟨same_upd nD, [], upd_same, .nil⟩ (fun i H' _ h => sqt_of (h.1 _ _ e1)) ?_ ?_⟩
    · rintro i x H' H'' hi ⟨sx, tp, eD, hp⟩ ⟨T, u, v, rfl, nT, rfl, hu, hv⟩
      obtain rfl : V.int (i : Int) = u := Option.some.inj hu
      obtain ⟨g, hg, rfl⟩ := Hw.map_get hv
      have hi' := (List.getElem?_eq_some_iff.mp hg).1
      have sT := same_upd (o := .tup [.int (i : Int), .int g]) nT
      refine ⟨T, [.int (i : Int), .int g], rfl, sqt_of upd_same, rfl, _, [.int g], rfl, _, [], rfl, rfl, rfl, r_yes ?_⟩
      refine ⟨.int g, rfl, _, rfl, .int (i : Int), rfl, by show 2 ≤ sizeLine; decide, fun p np => ?_⟩
      have s2 := same_upd (o := .tup [.int (-g), .int (i : Int)]) np
      have eD1 := sT _ _ eD
      have npD : p ≠ D := fun y => by rw [y, eD1] at np; cases np
      have htp : tp.length ≤ 200 := by rw [Paired.length hp, List.length_map, List.length_range]; omega
      refine ⟨_, s2 _ _ eD1, smallM2 (by rw [List.length_map]; omega), fun b o e => ?_, tp ++ [p], by rw [upd_same, List.map_append]; rfl, ?_⟩
      · rw [upd_ne (ne_of_none e nD)]; exact s2 _ _ (sT _ _ (sx _ _ e))
      · rw [List.range_succ, List.map_append]
        refine snocP ?_ (paired_mono (fun q t e => ?_) hp)
        · have eg : ls.getD i 0 = g := by simp [List.getD, hg]
          show (upd _ D _) p = some (.tup [.int (-(ls.getD i 0)), .int (i : Int)])
          rw [upd_ne npD, upd_same, eg]
        · have e : H' q = _ := e
          show (upd _ D _) q = _
          rw [upd_ne (fun y => by rw [y, eD] at e; cases e)]
          exact s2 _ _ (sT _ _ e)
    rintro H1 ⟨s1, tp0, eD, hp⟩
    rw [List.length_map] at hp
    have hp : Paired (TieL H1) tp0 (ordG ls) := hp
    refine r_sortB ?_
    refine sort_tieG eD hp (by rw [ordG_len]; omega) fun p1 tp np1 hp' => ?_
    have s2 := same_upd (o := .lst (tp.map V.ref)) np1
    have e1l : (upd H1 p1 (.lst (tp.map V.ref))) p1 = some (.lst (tp.map V.ref)) := upd_same
    have hp2 : Paired (TieL (upd H1 p1 (.lst (tp.map V.ref)))) tp (srt (ordG ls)) := paired_mono (fun q t e => s2 _ _ e) hp'
    have s12 := s1.trans s2
    generalize (upd H1 p1 (.lst (tp.map V.ref))) = H2 at s12 e1l hp2 ⊢
    clear s1 s2 np1 nD eD hp hp'
    have htl : tp.length = ls.length := by rw [Paired.length hp2, srt_len, ordG_len]
    refine rs_t ?_
    refine ⟨.ref p1, rfl, p1, rfl, ⟨_, sql_of e1l⟩, fun D2 nD2 => lc_list (xs := tp.map V.ref) (fun i H' => Same H2 H' ∧ H' D2 = some (.lst (((psG ls).take i).map V.int))) ⟨same_upd nD2, upd_same⟩ (fun i H' _ h => sql_of (h.1 _ _ e1l)) ?_ ?_⟩
    · rintro i x H' hx ⟨sx, eD⟩
      obtain ⟨qd, hq, rfl⟩ := Hw.map_get hx
      obtain ⟨t, htt, et⟩ := Hw.paired_get hp2 hq
      have hps : (psG ls)[i]? = some t.2 := by unfold psG; rw [List.getElem?_map, htt]; rfl
      refine ⟨rfl, r_yes ?_⟩
      refine ⟨.ref qd, rfl, qd, _, 1, .int t.2, rfl, rfl, sqt_of (sx _ _ et), atI_nat (j := 1) rfl, _, eD, smallM2 (by rw [List.length_map, List.length_take, psG_len]; omega), fun b o e => ?_, ?_⟩
      · rw [upd_ne (ne_of_none e nD2)]; exact sx _ _ e
      · rw [upd_same, Hw.take_snoc hps, List.map_append]; rfl
    rintro H3 ⟨s3, eD3⟩
    rw [List.length_map, htl, List.take_of_length_le (by rw [psG_len]; exact Nat.le_refl _), ps_cons (by omega), hp0] at eD3
    have s13 := s12.trans s3
    refine ⟨D2, .int z0, ((psG ls).drop 1).map V.int, rfl, sql_of eD3, smallM2 (by rw [List.length_map, List.length_drop, psG_len]; omega), fun p2 np2 => ?_⟩
    have s14 := s13.trans (same_upd (o := .lst (((psG ls).drop 1).map V.int)) np2)
    have eo : (upd H3 p2 (.lst (((psG ls).drop 1).map V.int))) p2 = some (.lst (((psG ls).drop 1).map V.int)) := upd_same
    generalize (upd H3 p2 (.lst (((psG ls).drop 1).map V.int))) = H4 at s14 eo ⊢
    clear s3 s13 s12 nD2 eD3 np2 hp2 e1l
    refine r_gname ?_
    refine r_gname ?_
    refine rs_set ?_
    refine ⟨.int z0, rfl, by show 1 ≤ sizeLine; decide, fun p3 np3 => ?_⟩
    have s15 := same_upd (o := .lst [.int z0]) np3
    have ln0 := limAt_nn L z0
    have lm0 := limAt_le L z0
    refine ⟨.ref a, rfl, .int z0, rfl, a, ls.map V.int, z0, .int (limAt ls z0), rfl, rfl, sqt_of (s15 _ _ (s14 _ _ e1)), lims_at_p p0b.1 p0b.2, p3, limAt ls z0, [.int z0], rfl, rfl, upd_same, by omega, by omega, Nat.le_of_lt (smallM2 (by show 1 * _ ≤ _; omega)), fun p4 np4 => ?_⟩
    rw [flat_rep]
    have er0 : List.replicate (limAt ls z0).toNat (V.int z0) = (roomG ls 0).map V.int := by unfold roomG; rw [hp0]; simp
    rw [er0]
    have s16 := s15.trans (same_upd (o := .lst ((roomG ls 0).map V.int)) np4)
    have er : (upd (upd H4 p3 (.lst [.int z0])) p4 (.lst ((roomG ls 0).map V.int))) p4 = some (.lst ((roomG ls 0).map V.int)) := upd_same
    have n4 : H p4 = none := s14.free (s15.free np4)
    have n24 : p2 ≠ p4 := fun y => by rw [← y, s15 _ _ eo] at np4; cases np4
    generalize (upd (upd H4 p3 (.lst [.int z0])) p4 (.lst ((roomG ls 0).map V.int))) = H5 at s16 er ⊢
    have eo5 := s16 _ _ eo
    have s05 := s14.trans s16
    clear s15 np3 np4 s16 eo s14
    refine rs_set ⟨Nat.zero_le _, fun p5 np5 => ?_⟩
    have s06 := s05.trans (same_upd (o := .lst []) np5)
    have n5 : H p5 = none := s05.free np5
    have n25 : p2 ≠ p5 := fun y => by rw [← y, eo5] at np5; cases np5
    have n45 : p4 ≠ p5 := fun y => by rw [← y, er] at np5; cases np5
    have eo6 := (same_upd (o := .lst []) np5) _ _ eo5
    have er6 := (same_upd (o := .lst []) np5) _ _ er
    have et6 : (upd H5 p5 (.lst [])) p5 = some (.lst []) := upd_same
    generalize (upd H5 p5 (.lst [])) = H6 at s06 eo6 er6 et6 ⊢
    clear np5 eo5 er s05
    refine rs_enum (i := 3) (p := p2) rfl (sql_of eo6) (fun i σ' H' => ∃ o6 o7, σ' = [some (.ref a), some (.ref p1), some (.int z0), some (.ref p2), some (.ref p4), some (.ref p5), o6, o7, none, none] ∧ Same H H' ∧ H' p2 = some (.lst (((psG ls).drop 1).map V.int)) ∧ H' p4 = some (.lst ((roomG ls i).map V.int)) ∧ ∃ qs : List Addr, H' p5 = some (.lst (qs.map V.ref)) ∧ Paired (TieL H') qs ((rawT ls).take i))
      ⟨_, _, rfl, s06, eo6, er6, [], et6, .nil⟩ (fun i σ' H' _ ⟨_, _, _, _, e, _⟩ => sql_of e) ?_ ?_
    · rintro j x σ' H' T hj ⟨o6, o7, rfl, sx, eo', er', qs, et', hq⟩ nT hx
      obtain ⟨pl, hpl, rfl⟩ := Hw.map_get hx
      rw [List.getElem?_drop, Nat.add_comm] at hpl
      have hjn : j + 1 < ls.length := by
        have := (List.getElem?_eq_some_iff.mp hpl).1
        rwa [psG_len] at this
      have epl : (psG ls).getD (j + 1) 0 = pl := by simp [List.getD, hpl]
      have plb := psG_mem (List.mem_of_getElem? hpl)
      have hrl := roomG_ok L ht hjn
      have err : (roomG ls j)[j]? = some ((roomG ls j).getD j 0) := by simp [List.getD, List.getElem?_eq_getElem hrl]
      have hraw : (rawT ls)[j]? = some (pairI ((roomG ls j).getD j 0) pl) := by
        unfold rawT
        rw [List.getElem?_map, List.getElem?_range (by omega), ← epl]; rfl
      have hql : qs.length ≤ 200 := by rw [Paired.length hq, List.length_take]; omega
      have sT := same_upd (o := .tup [.int (j : Int), .int pl]) nT
      generalize (roomG ls j).getD j 0 = rj at err hraw
      refine g2_of (sqt_of upd_same) ?_
      refine rs_bm ⟨.ref p5, rfl, .inl ⟨rfl, _, sql_of (sT _ _ et')⟩, ?_⟩
      refine ⟨.ref p4, rfl, .int (j : Int), rfl, p4, (roomG ls j).map V.int, (j : Int), .int rj, rfl, rfl, sql_of (sT _ _ er'), atI_nat (by rw [List.getElem?_map, err]; rfl), .int pl, rfl, _, _, rfl, fun p6 np6 => ?_⟩
      have s6 := same_upd (o := .tup [.int (pairI rj pl).1, .int (pairI rj pl).2]) np6
      have sT6 := sT.trans s6
      have e66 : (upd (upd H' T (.tup [.int (j : Int), .int pl])) p6 (.tup [.int (pairI rj pl).1, .int (pairI rj pl).2])) p6 = some (.tup [.int (pairI rj pl).1, .int (pairI rj pl).2]) := upd_same
      generalize (upd (upd H' T (.tup [.int (j : Int), .int pl])) p6 (.tup [.int (pairI rj pl).1, .int (pairI rj pl).2])) = H7 at sT6 e66 ⊢
      have et7 := sT6 _ _ et'
      have er7 := sT6 _ _ er'
      have eo7 := sT6 _ _ eo'
      have s07 := sx.trans sT6
      have hq7 : Paired (TieL H7) (qs ++ [p6]) ((rawT ls).take (j + 1)) := by
        rw [Hw.take_snoc hraw]
        exact snocP (F := TieL H7) e66 (paired_mono (fun q t e => sT6 _ _ e) hq)
      clear np6 s6 sT6 sT nT e66 hq sx eo' er' et'
      refine ⟨p5, _, _, rfl, rfl, et7, smallM2 (by rw [List.length_map]; omega), ?_⟩
      have e48 : (upd H7 p5 (.lst (qs.map V.ref ++ [.ref p6]))) p4 = some (.lst ((roomG ls j).map V.int)) := by rw [upd_ne n45]; exact er7
      have e28 : (upd H7 p5 (.lst (qs.map V.ref ++ [.ref p6]))) p2 = some (.lst (((psG ls).drop 1).map V.int)) := by rw [upd_ne n25]; exact eo7
      have e58 : (upd H7 p5 (.lst (qs.map V.ref ++ [.ref p6]))) p5 = some (.lst ((qs ++ [p6]).map V.ref)) := by rw [upd_same, List.map_append]; rfl
      have s08 : Same H (upd H7 p5 (.lst (qs.map V.ref ++ [.ref p6]))) := fun b o e => by rw [upd_ne (ne_of_none e n5)]; exact s07 _ _ e
      have hq8 : Paired (TieL (upd H7 p5 (.lst (qs.map V.ref ++ [.ref p6])))) (qs ++ [p6]) ((rawT ls).take (j + 1)) := paired_mono (fun q t e => by
        have e : H7 q = _ := e
        show (upd H7 p5 _) q = _
        rw [upd_ne (fun y => by rw [y, et7] at e; cases e)]
        exact e) hq7
      generalize (upd H7 p5 (.lst (qs.map V.ref ++ [.ref p6]))) = H8 at e48 e28 e58 s08 hq8 ⊢
      clear hq7 s07 et7 er7 eo7
      have lnp := limAt_nn L pl
      have lmp := limAt_le L pl
      show tDrop _ _ _ _
      refine ⟨.ref p4, rfl, .inl ⟨rfl, _, sql_of e48⟩, .int pl, rfl, by show 1 ≤ sizeLine; decide, fun p8 np8 => ?_⟩
      have s9 := same_upd (o := .lst [.int pl]) np8
      refine ⟨.ref a, rfl, .int pl, rfl, a, ls.map V.int, pl, .int (limAt ls pl), rfl, rfl, sqt_of (s9 _ _ (s08 _ _ e1)), lims_at_p plb.1 plb.2, _, _, rfl, rfl, p8, limAt ls pl - 1, [.int pl], rfl, rfl, upd_same, by omega, by omega, Nat.le_of_lt (smallM2 (by show 1 * _ ≤ _; omega)), fun p9 np9 => ?_⟩
      rw [flat_rep]
      have s10 := s9.trans (same_upd (o := .lst (List.replicate (limAt ls pl - 1).toNat (.int pl))) np9)
      have e99 : (upd (upd H8 p8 (.lst [.int pl])) p9 (.lst (List.replicate (limAt ls pl - 1).toNat (.int pl)))) p9 = some (.lst (List.replicate (limAt ls pl - 1).toNat (.int pl))) := upd_same
      generalize (upd (upd H8 p8 (.lst [.int pl])) p9 (.lst (List.replicate (limAt ls pl - 1).toNat (.int pl)))) = H9 at s10 e99 ⊢
      have hrl := roomG_few L j
      refine ⟨p4, p9, _, _, rfl, rfl, s10 _ _ e48, e99, Nat.le_of_lt (smallM2 (by rw [List.length_map, List.length_replicate]; omega)), ?_⟩
      refine ⟨_, _, rfl, fun b o e => ?_, ?_, ?_, qs ++ [p6], ?_, paired_mono (fun q t e => ?_) hq8⟩
      · rw [upd_ne (ne_of_none e n4)]; exact s10 _ _ (s08 _ _ e)
      · rw [upd_ne n24]; exact s10 _ _ e28
      · rw [upd_same, roomG_succ, epl, List.map_append, List.map_replicate]
      · rw [upd_ne (Ne.symm n45)]; exact s10 _ _ e58
      · have e : H8 q = _ := e
        show (upd H9 p4 _) q = _
        rw [upd_ne (fun y => by rw [y, e48] at e; cases e)]
        exact s10 _ _ e
    · rintro σ' H' ⟨o6, o7, rfl, sx, eo', er', qs, et', hq⟩
      have hrw : (rawT ls).length = ls.length - 1 := by unfold rawT; rw [List.length_map, List.length_range]
      rw [List.length_map, List.length_drop, psG_len, List.take_of_length_le (by rw [hrw]; exact Nat.le_refl _)] at hq
      refine ⟨.ref p5, rfl, ?_⟩
      refine r_sortB ?_
      refine sort_tieG et' hq (by rw [hrw]; omega) fun p10 qs' n10 hq' => ⟨p10, _, rfl, .inl ⟨sql_of upd_same, fun p11 n11 => ?_⟩⟩
      have s2 := (same_upd (o := .lst (qs'.map V.ref)) n10).trans (same_upd (o := .tup (qs'.map V.ref)) n11)
      exact q p11 qs' _ (sx.trans s2) upd_same (paired_mono (fun q t e => s2 _ _ e) hq')
end
end HI

set_option Elab.async false
set_option linter.all false
set_option maxRecDepth 100000
set_option maxHeartbeats 4000000
namespace HI
open PySem L2 PyProof.Rows Hw
abbrev sTreeFar : Stmt := topS 22
abbrev sLeastF : Stmt := topS 25
abbrev sShowsL : Stmt := topS 27
def ErrAt (c : Addr) (v : V) (H : Hp) (E : XK) : Prop := ∀ dd H', Same H H' → H' dd = none → E (.ref c) (some dd) (upd H' dd (.xd [("value", v)]))
theorem ErrAt.keep {c : Addr} {v : V} {H H1 : Hp} {E : XK} (h : ErrAt c v H E) (s : Same H H1) : ErrAt c v H1 E := fun dd H' s' nd => h dd H' (s.trans s') nd
def tiesD : PyData → List Tie
  | .tuple ds => tiesOf ds
  | _ => []
theorem tiesD_ti (ts : List Tie) : tiesD (.tuple (ts.map tiD)) = ts := tiesOf_ti ts
theorem isTree_ex {a : Addr} {H : Hp} {v : V} {d : PyData} {ls : List Int} (x : Dx a H v d) (L : Lims ls) (h : isTreeD ls d = true) : ∃ tv qs ts, v = .ref tv ∧ d = .tuple (ts.map tiD) ∧ H tv = some (.tup (qs.map V.ref)) ∧ Paired (TieL H) qs ts ∧ FineW (nsI ls.length) ts := by
  have hT : isTupD d = true := by
    cases hh : isTupD d with
    | true => rfl
    | false => rw [isTreeD_no hh] at h; cases h
  obtain ⟨ds, rfl⟩ := isTup_ex hT
  obtain ⟨tv, xs, rfl, ev, nv, xa⟩ := dx_tup x
  rw [isTreeD_tup, Bool.and_eq_true, Bool.and_eq_true] at h
  obtain ⟨h1, h2, _⟩ := h
  have h1 := of_decide_eq_true h1
  obtain ⟨qs, ts, rfl, rfl, hq, ht⟩ := ties_ex xa h2
  rw [List.length_map] at h1
  have := L.most
  exact ⟨tv, qs, ts, rfl, rfl, ev, hq, fine_of L.most (by omega) ht⟩
def spWayG : Sp := fun vs H Q _ => ∃ (t : Addr) (n : Nat) (ts : List Tie) (qs : List Addr), vs = [.int (n : Nat), .ref t] ∧ 1 ≤ n ∧ n ≤ 200 ∧ FineW (nsI n) ts ∧ H t = some (.tup (qs.map V.ref)) ∧ Paired (TieL H) qs ts ∧ ∀ H', Same H H' → Q (.int (farT ts n : Nat)) H'
def spTreeFar (c : Nat → Addr) : Sp := fun vs H Q E => ∃ (l v : V) (a : Addr) (dl d : PyData), vs = [l, v] ∧ Dx a H l dl ∧ Dx a H v d ∧ (limD dl = false → ErrAt (c 0) l H E) ∧ (limD dl = true → isTreeD (limsOf dl) d = false → ErrAt (c 1) v H E) ∧
  (limD dl = true → isTreeD (limsOf dl) d = true → ∀ H', Same H H' → Q (.int (farT (tiesD d) (limsOf dl).length : Nat)) H')
def spLeastF (c : Nat → Addr) : Sp := fun vs H Q E => ∃ (l : V) (a : Addr) (dl : PyData), vs = [l] ∧ Dx a H l dl ∧ (limD dl = false → ErrAt (c 0) l H E) ∧ (limD dl = true → treeB (limsOf dl) = false → ErrAt (c 2) l H E) ∧
  (limD dl = true → treeB (limsOf dl) = true → ∀ (p t : Addr) (qs : List Addr) H', Same H H' → H' p = some (.tup [.int (farT (lowT (limsOf dl)) (limsOf dl).length : Nat), .ref t]) → H' t = some (.tup (qs.map V.ref)) → Paired (TieL H') qs (lowT (limsOf dl)) → Q (.ref p) H')
def showsD (ls : List Int) : PyData → Bool
  | .tuple [d0, d1] => withinD (farT (lowT ls) ls.length : Nat) (farT (lowT ls) ls.length : Nat) d0 && (isTreeD ls d1 && decide (farT (tiesD d1) ls.length = farT (lowT ls) ls.length))
  | _ => false
theorem showsD_no {ls : List Int} {d : PyData} (h : isTupD d = false) : showsD ls d = false := by cases d <;> first | rfl | cases h
theorem showsD_len {ls : List Int} {ds : List PyData} (h : ds.length ≠ 2) : showsD ls (.tuple ds) = false := by
  unfold showsD
  split
  · rename_i e
    injection e with e
    rw [e] at h
    exact absurd rfl h
  · rfl
def spShowsL (c : Nat → Addr) : Sp := fun vs H Q E => ∃ (l v : V) (a : Addr) (dl d : PyData), vs = [l, v] ∧ Dx a H l dl ∧ Dx a H v d ∧ (limD dl = false → ErrAt (c 0) l H E) ∧ (limD dl = true → treeB (limsOf dl) = false → ErrAt (c 2) l H E) ∧
  (limD dl = true → treeB (limsOf dl) = true → ∀ H', Same H H' → Q (.bl (showsD (limsOf dl) d)) H')
section
variable {P : Program} {w : World} {K : PySem.W.Frag} {mg : Str → Option Value} {base : Heap}
theorem scWayG : FnScope ["many", "ties", "tied"] ["many", "ties"] (defScope sWay) := ⟨rfl, rfl, rfl, by decide +kernel, rfl, by decide +kernel, by decide +kernel⟩
theorem ok_wayG {f fT fL : Addr} {fd fdT fdL : FuncData} {k : Nat} (F : Fun K "way_through" "way_through" sWay f fd) (B : Blt mg)
    (GT : FnOk P w K mg base CX0 k fT fdT ["places", "ties"] spTied) (gT : mg "tied_by" = some (.ref fT)) (kT : PySem.W.keepIn K (.ref fT) = true) (bT : Binds K fdT ["places", "ties"] [])
    (GL : FnOk P w K mg base CX0 k fL fdL ["tied", "place"] spLast) (gL : mg "last_reached" = some (.ref fL)) (kL : PySem.W.keepIn K (.ref fL) = true) (bL : Binds K fdL ["tied", "place"] []) :
    FnOk P w K mg base CX0 (k + 1) f fd ["many", "ties"] spWayG := by
  refine F.ok scWayG (fun vs H Q E h => ?_) (fun cdv A outer s H vs Q E hr h => ?_)
  · obtain ⟨t, n, ts, qs, rfl, _⟩ := h
    rfl
  · obtain ⟨t, n, ts, qs, rfl, n1, n2, fine, et, hq, q⟩ := h
    refine ⟨_, pss_cons (ps_set (i := 2) scWayG.nd rfl (.inl rfl) (pe_call GT hr (by rfl) gT kT bT .nil pass0 (pa_cons (pe_listRg rfl (by rfl) B.list (prg_1 (by rfl) B.range (pv 0))) (pa_cons (pv 1) pa_nil))))
      (pss_one (ps_ret (pe_ix ix_tup (pe_call GL hr (by rfl) gL kL bL .nil pass0 (pa_cons (pv 2) (pa_cons (pe_ix ix_tup (pe_call GL hr (by rfl) gL kL bL .nil pass0 (pa_cons (pv 2) (pa_cons pe_int pa_nil))) pe_int (fun _ _ => rfl)) pa_nil))) pe_int (fun _ _ => rfl)))), ?_⟩
    refine rs_set ?_
    refine ⟨.int (n : Int), rfl, _, rfl, .of_le (by omega) (by omega) (by omega) (by omega), fun p np => ?_⟩
    rw [rg_ns]
    have s1 := same_upd (o := .lst ((nsI n).map V.int)) np
    refine ⟨.ref t, rfl, p, t, nsI n, ts, qs, rfl, fine, upd_same, s1 _ _ et, paired_mono (fun q t e => s1 _ _ e) hq, fun D fa H2 s2 nl nD nf => ?_⟩
    have hnb := fine_nb fine
    have h0 : (0 : Int) ∈ nsI n := mem_ns (i := 0) (by omega)
    have hend : ∀ x ∈ nsI n, endOk ts (2 * n) x = true := fun x hx => by
      unfold endOk
      rw [lev_end hnb hx (by rw [ns_len]; exact Nat.le_refl _)]; rfl
    refine ⟨.ref D, rfl, .ref D, rfl, D, 0, fa, nsI n, ts, 2 * n, rfl, nl, h0, by rw [ns_len]; omega, hnb, hend _ h0, fun q1 H3 s3 e3 => ?_⟩
    have hm := lastR_mem hnb h0 (2 * n)
    refine ⟨q1, _, 1, .int (lastR ts (2 * n) 0).2, rfl, rfl, sqt_of e3, atI_nat (j := 1) rfl, D, (lastR ts (2 * n) 0).2, fa, nsI n, ts, 2 * n, rfl, nl.keep s3, hm, by rw [ns_len]; omega, hnb, hend _ hm, fun q2 H4 s4 e4 => ?_⟩
    exact ⟨q2, _, 0, .int (farT ts n : Nat), rfl, rfl, sqt_of e4, atI_nat (j := 0) rfl, q H4 (((s1.trans s2).trans s3).trans s4)⟩
theorem scTreeFar : FnScope ["limits", "ties"] ["limits", "ties"] (defScope sTreeFar) := ⟨rfl, rfl, rfl, by decide +kernel, rfl, by decide +kernel, by decide +kernel⟩
theorem ok_treefar {f fF fW fI : Addr} {c : Nat → Addr} {fd fdF fdW fdI : FuncData} {k j : Nat} (hj : j + 1 ≤ k) (F : Fun K "tree_farthest" "tree_farthest" sTreeFar f fd) (B : Blt mg)
    (T : XCls K fI (c 1)) (gX : mg "NotTree" = some (.ref (c 1))) (GI : FnOk P w K mg base CX0 j fI fdI ["self", "value"] (spIniX K)) (bI : Binds K fdI ["self", "value"] [])
    (GF : FnOk P w K mg base (L2N.CX P w) k fF fdF ["limits", "value"] (spIsTree (c 0))) (gF : mg "is_tree_for" = some (.ref fF)) (kF : PySem.W.keepIn K (.ref fF) = true) (bF : Binds K fdF ["limits", "value"] [])
    (GW : FnOk P w K mg base CX0 k fW fdW ["many", "ties"] spWayG) (gW : mg "way_through" = some (.ref fW)) (kW : PySem.W.keepIn K (.ref fW) = true) (bW : Binds K fdW ["many", "ties"] []) :
    FnOk P w K mg base (L2N.CX P w) (k + 1) f fd ["limits", "ties"] (spTreeFar c) := by
  refine okN F scTreeFar (fun vs H Q E h => ?_) (fun cdv A outer s H vs Q E hr h => ?_)
  · obtain ⟨l, v, a, dl, d, rfl, _⟩ := h
    rfl
  · obtain ⟨l, v, a, dl, d, rfl, xl, xv, q0, q1, q2⟩ := h
    refine ⟨_, pss_cons (ps_if (pt_not (pt_val (pe_call GF hr (by rfl) gF kF bF .nil passN (pa_cons (pv 0) (pa_cons (pv 1) pa_nil))))) (pss_one (ps_heal T GI (hr.mono hj) bI rfl gX (pv 1))) pss_nil)
      (pss_one (ps_ret (pe_call GW hr (by rfl) gW kW bW .nil pass0 (pa_cons (pe_callB call_len_seq (by rfl) B.len PySem.boot_len (pa_cons (pv 0) pa_nil)) (pa_cons (pv 1) pa_nil))))), ?_⟩
    refine rs_no ?_
    refine ⟨l, rfl, v, rfl, l, v, a, dl, d, rfl, xl, xv, fun hl H1 s1 => ⟨_, rfl, ?_⟩, fun hl dd H1 s1 nd => q0 hl dd H1 s1 nd⟩
    obtain ⟨t, ls, rfl, rfl, ne, e1, L⟩ := limD_ex xl hl
    rw [limsOf_ints] at q1 q2 ⊢
    cases ht : isTreeD ls d with
    | false =>
      show if true = true then _ else _
      rw [if_pos rfl]
      exact ⟨v, rfl, fun dd nd => q1 hl ht dd H1 s1 nd⟩
    | true =>
      show if false = true then _ else _
      rw [if_neg Bool.false_ne_true]
      obtain ⟨tv, qs, ts, rfl, rfl, ev, hq, fine⟩ := isTree_ex xv L ht
      rw [tiesD_ti] at q2
      refine ⟨.ref t, rfl, t, ls.map V.int, rfl, .inr (sqt_of (s1 _ _ e1)), ?_⟩
      rw [List.length_map]
      exact ⟨.ref tv, rfl, tv, ls.length, ts, qs, rfl, L.one, L.most, fine, s1 _ _ ev, paired_mono (fun q t e => s1 _ _ e) hq, fun H2 s2 => q2 hl ht H2 (s1.trans s2)⟩
theorem scLeastF : FnScope ["limits", "ties"] ["limits"] (defScope sLeastF) := ⟨rfl, rfl, rfl, by decide +kernel, rfl, by decide +kernel, by decide +kernel⟩
theorem ok_leastF {f fC fT fL fW : Addr} {c : Nat → Addr} {fd fdC fdT fdL fdW : FuncData} {k : Nat} (F : Fun K "least_far" "least_far" sLeastF f fd) (B : Blt mg)
    (GC : FnOk P w K mg base (L2N.CX P w) k fC fdC ["value"] (spChkLim (c 0))) (gC : mg "check_limits" = some (.ref fC)) (kC : PySem.W.keepIn K (.ref fC) = true) (bC : Binds K fdC ["value"] [])
    (GT : FnOk P w K mg base (L2N.CX P w) k fT fdT ["limits"] (spChkTree (c 2))) (gT : mg "check_tree" = some (.ref fT)) (kT : PySem.W.keepIn K (.ref fT) = true) (bT : Binds K fdT ["limits"] [])
    (GL : FnOk P w K mg base CX0 k fL fdL ["limits"] spLowG) (gL : mg "low_tree" = some (.ref fL)) (kL : PySem.W.keepIn K (.ref fL) = true) (bL : Binds K fdL ["limits"] [])
    (GW : FnOk P w K mg base CX0 k fW fdW ["many", "ties"] spWayG) (gW : mg "way_through" = some (.ref fW)) (kW : PySem.W.keepIn K (.ref fW) = true) (bW : Binds K fdW ["many", "ties"] []) :
    FnOk P w K mg base (L2N.CX P w) (k + 1) f fd ["limits"] (spLeastF c) := by
  refine okN F scLeastF (fun vs H Q E h => ?_) (fun cdv A outer s H vs Q E hr h => ?_)
  · obtain ⟨l, a, dl, rfl, _⟩ := h
    rfl
  · obtain ⟨l, a, dl, rfl, xl, q0, q1, q2⟩ := h
    refine ⟨_, pss_cons (ps_expr (pe_call GC hr (by rfl) gC kC bC .nil passN (pa_cons (pv 0) pa_nil)))
      (pss_cons (ps_expr (pe_call GT hr (by rfl) gT kT bT .nil passN (pa_cons (pv 0) pa_nil)))
      (pss_cons (ps_set (i := 1) scLeastF.nd rfl (.inl rfl) (pe_call GL hr (by rfl) gL kL bL .nil pass0 (pa_cons (pv 0) pa_nil)))
      (pss_one (ps_ret (pe_tup (pa_cons (pe_call GW hr (by rfl) gW kW bW .nil pass0 (pa_cons (pe_callB call_len_seq (by rfl) B.len PySem.boot_len (pa_cons (pv 0) pa_nil)) (pa_cons (pv 1) pa_nil))) (pa_cons (pv 1) pa_nil))))))), ?_⟩
    refine rs_expr ?_
    refine ⟨l, rfl, l, a, dl, rfl, xl, fun hl H1 s1 => ?_, fun hl dd H1 s1 nd => q0 hl dd H1 s1 nd⟩
    obtain ⟨t, ls, rfl, rfl, ne, e1, L⟩ := limD_ex xl hl
    rw [limsOf_ints] at q1 q2
    have e1' := s1 _ _ e1
    refine rs_expr ?_
    refine ⟨.ref t, rfl, t, ls, rfl, e1', fun ht => ?_, fun ht dd nd => q1 hl ht dd H1 s1 nd⟩
    refine rs_set ?_
    refine ⟨.ref t, rfl, t, ls, rfl, e1', L, ht, fun tt qs H2 s2 et hq => ?_⟩
    refine ⟨.ref t, rfl, t, ls.map V.int, rfl, .inr (sqt_of (s2 _ _ e1')), ?_⟩
    rw [List.length_map]
    have fine := fine_of (ts := lowT ls) L.most (by rw [low_len]; have := L.most; omega) (low_tie L ht)
    refine ⟨.ref tt, rfl, tt, ls.length, lowT ls, qs, rfl, L.one, L.most, fine, et, hq, fun H3 s3 => ⟨.ref tt, rfl, by show 2 ≤ sizeLine; decide, fun p np => ?_⟩⟩
    have sp := same_upd (o := .tup [.int (farT (lowT ls) ls.length : Nat), .ref tt]) np
    exact q2 hl ht p tt qs _ (((s1.trans s2).trans s3).trans sp) upd_same (sp _ _ (s3 _ _ et)) (paired_mono (fun q t e => sp _ _ (s3 _ _ e)) hq)
theorem scShowsL : FnScope ["limits", "value", "far"] ["limits", "value"] (defScope sShowsL) := ⟨rfl, rfl, rfl, by decide +kernel, rfl, by decide +kernel, by decide +kernel⟩
theorem ok_showsL {f fL fI fF fW : Addr} {c : Nat → Addr} {fd fdL fdI fdF fdW : FuncData} {k : Nat} (F : Fun K "shows_least_far" "shows_least_far" sShowsL f fd) (B : Blt mg) (bi : mg "isinstance" = none) (bt : mg "tuple" = none)
    (GL : FnOk P w K mg base (L2N.CX P w) k fL fdL ["limits"] (spLeastF c)) (gL : mg "least_far" = some (.ref fL)) (kL : PySem.W.keepIn K (.ref fL) = true) (bL : Binds K fdL ["limits"] [])
    (GI : FnOk P w K mg base CX0 k fI fdI ["value", "least", "most"] spWithinA) (gI : mg "is_within" = some (.ref fI)) (kI : PySem.W.keepIn K (.ref fI) = true) (bI : Binds K fdI ["value", "least", "most"] [])
    (GF : FnOk P w K mg base (L2N.CX P w) k fF fdF ["limits", "value"] (spIsTree (c 0))) (gF : mg "is_tree_for" = some (.ref fF)) (kF : PySem.W.keepIn K (.ref fF) = true) (bF : Binds K fdF ["limits", "value"] [])
    (GW : FnOk P w K mg base CX0 k fW fdW ["many", "ties"] spWayG) (gW : mg "way_through" = some (.ref fW)) (kW : PySem.W.keepIn K (.ref fW) = true) (bW : Binds K fdW ["many", "ties"] []) :
    FnOk P w K mg base (L2N.CX P w) (k + 1) f fd ["limits", "value"] (spShowsL c) := by
  refine okN F scShowsL (fun vs H Q E h => ?_) (fun cdv A outer s H vs Q E hr h => ?_)
  · obtain ⟨l, v, a, dl, d, rfl, _⟩ := h
    rfl
  · obtain ⟨l, v, a, dl, d, rfl, xl, xv, q0, q1, q2⟩ := h
    refine ⟨_, pss_cons (ps_set (i := 2) scShowsL.nd rfl (.inl rfl) (pe_ix ix_tup (pe_call GL hr (by rfl) gL kL bL .nil passN (pa_cons (pv 0) pa_nil)) pe_int (fun _ _ => rfl)))
      (pss_cons (ps_if (PW.pt (pw_or (pt_not (pt_val (pe_callB call_isi (by rfl) bi PyProof.Rows.boot_isinstance (pa_cons (pv 1) (pa_cons (pe_bltn (v := .ty "tuple") (by rfl) bt (by decide +kernel) rfl) pa_nil)))))
        (pw_or1 (pt_cmpR op_ne (pe_callB call_len_seq (by rfl) B.len PySem.boot_len (pa_cons (pv 1) pa_nil)) pe_int (nomark _))))) (pss_one (ps_ret pe_bl)) pss_nil)
      (pss_one (ps_ret (pe_and (pe_call GI hr (by rfl) gI kI bI .nil pass0 (pa_cons (pe_ix ix_tup (pv 1) pe_int (fun _ _ => rfl)) (pa_cons (pv 2) (pa_cons (pv 2) pa_nil))))
        (pe_and (pe_call GF hr (by rfl) gF kF bF .nil passN (pa_cons (pv 0) (pa_cons (pe_ix ix_tup (pv 1) pe_int (fun _ _ => rfl)) pa_nil)))
        (pe_one (pe_cmpR op_eq (pe_call GW hr (by rfl) gW kW bW .nil pass0 (pa_cons (pe_callB call_len_seq (by rfl) B.len PySem.boot_len (pa_cons (pv 0) pa_nil)) (pa_cons (pe_ix ix_tup (pv 1) pe_int (fun _ _ => rfl)) pa_nil))) (pv 2) (nomark _)))))))), ?_⟩
    refine rs_set ?_
    refine ⟨l, rfl, l, a, dl, rfl, xl, fun hl => q0 hl, fun hl ht => q1 hl ht, fun hl ht p t qs H1 s1 ep et hq => ?_⟩
    have q := q2 hl ht
    clear q0 q1 q2
    obtain ⟨tl, ls, rfl, rfl, ne, e1, L⟩ := limD_ex xl hl
    rw [limsOf_ints] at q ep ht
    generalize hfar : (farT (lowT ls) ls.length) = far at ep
    refine ⟨p, _, 0, .int (far : Nat), rfl, rfl, sqt_of ep, atI_nat (j := 0) rfl, ?_⟩
    have xv1 := Dx.keep (.of s1) _ _ xv
    refine rs_no ?_
    refine ⟨v, rfl, v, .ty "tuple", .type (tyD d), .type "tuple", isTupD d, rfl, .ty _, xv1.tyx, kit_tuple d, isTupD d, rfl, ?_⟩
    cases hT : isTupD d with
    | false =>
      show if true = true then _ else _
      rw [if_pos rfl]
      rw [showsD_no hT] at q
      exact q H1 s1
    | true =>
      obtain ⟨ds, rfl⟩ := isTup_ex hT
      obtain ⟨tv, xs, rfl, ev, nv, xa⟩ := dx_tup xv1
      have hlen := xa.length
      show if false = true then _ else _
      rw [if_neg Bool.false_ne_true]
      refine ⟨.ref tv, rfl, tv, xs, rfl, .inr (sqt_of ev), rfl, _, rfl, ?_⟩
      rw [hlen]
      by_cases h2 : ds.length = 2
      · rw [decide_eq_true (show V.int ((ds.length : Nat) : Int) = V.int 2 by rw [h2]; rfl)]
        show if false = true then _ else _
        rw [if_neg Bool.false_ne_true]
        match ds, h2 with
        | [d0, d1], _ =>
          cases xa with
          | cons x0 xa =>
            rename_i y0 ys
            cases xa with
            | cons x1 xa =>
              rename_i y1 ys
              cases xa
              have eq : showsD ls (.tuple [d0, d1]) = (withinD (far : Nat) (far : Nat) d0 && (isTreeD ls d1 && decide (farT (tiesD d1) ls.length = far))) := by rw [← hfar]; rfl
              rw [eq] at q
              refine ⟨.ref tv, rfl, tv, _, 0, y0, rfl, rfl, sqt_of ev, atI_nat (j := 0) rfl, .int (far : Nat), rfl, .int (far : Nat), rfl, y0, a, d0, (far : Nat), (far : Nat), rfl, x0, _, rfl, ?_⟩
              cases h3 : withinD (far : Nat) (far : Nat) d0 with
              | false =>
                rw [h3] at q
                exact q H1 s1
              | true =>
                rw [h3, Bool.true_and] at q
                show if true = true then _ else _
                rw [if_pos rfl]
                have xl1 := Dx.keep (.of s1) _ _ xl
                refine ⟨.ref tl, rfl, .ref tv, rfl, tv, _, 1, y1, rfl, rfl, sqt_of ev, atI_nat (j := 1) rfl, .ref tl, y1, a, _, d1, rfl, xl1, x1, fun _ H2 s2 => ?_, fun hh => by rw [hl] at hh; cases hh⟩
                rw [limsOf_ints]
                refine ⟨_, rfl, ?_⟩
                cases h4 : isTreeD ls d1 with
                | false =>
                  rw [h4] at q
                  exact q H2 (s1.trans s2)
                | true =>
                  rw [h4, Bool.true_and] at q
                  show if true = true then _ else _
                  rw [if_pos rfl]
                  obtain ⟨t1, qs1, ts1, rfl, rfl, ev1, hq1, fine⟩ := isTree_ex x1 L h4
                  rw [tiesD_ti] at q
                  have s12 := s1.trans s2
                  refine ⟨.ref tl, rfl, tl, ls.map V.int, rfl, .inr (sqt_of (s12 _ _ e1)), ?_⟩
                  rw [List.length_map]
                  refine ⟨.ref tv, rfl, tv, _, 1, .ref t1, rfl, rfl, sqt_of (s2 _ _ ev), atI_nat (j := 1) rfl, t1, ls.length, ts1, qs1, rfl, L.one, L.most, fine, s2 _ _ ev1, paired_mono (fun q t e => s2 _ _ e) hq1, fun H3 s3 => ⟨.int (far : Nat), rfl, rfl, ?_⟩⟩
                  have e9 : decide (V.int (farT ts1 ls.length : Nat) = V.int (far : Nat)) = decide (farT ts1 ls.length = far) := by
                    by_cases h : farT ts1 ls.length = far
                    · rw [h]; simp
                    · rw [decide_eq_false h, decide_eq_false]
                      intro e
                      injection e with e
                      exact h (by omega)
                  rw [e9]
                  exact q H3 (s12.trans s3)
      · rw [decide_eq_false (show ¬ V.int ((ds.length : Nat) : Int) = V.int 2 from fun e => h2 (by injection e with e; omega))]
        show if true = true then _ else _
        rw [if_pos rfl]
        rw [showsD_len h2] at q
        exact q H1 s1
end
end HI

set_option Elab.async false
set_option linter.all false
set_option maxRecDepth 100000
set_option maxHeartbeats 4000000
namespace HI
open PySem L2 PyProof.Rows Hw
theorem within_ex {lo hi : Int} {d : PyData} (h : withinD lo hi d = true) : ∃ g, d = .int g ∧ lo ≤ g ∧ g ≤ hi := by
  cases d with
  | int g => exact ⟨g, rfl, of_decide_eq_true h⟩
  | _ => cases h
def spRoomE (c : Nat → Addr) : Sp := fun vs H Q E => ∃ (u v : V) (a : Addr) (d e : PyData), vs = [u, v] ∧ Dx a H u d ∧ Dx a H v e ∧ (withinD 0 40 d = false → ErrAt (c 3) u H E) ∧ (withinD 0 40 d = true → withinD 1 200 e = false → ErrAt (c 3) v H E) ∧
  (withinD 0 40 d = true → withinD 1 200 e = true → ∀ (n : Nat) (m : Int), d = .int n → e = .int m → Q (.int (roomV n m)) H)
def oneD : PyData → Bool
  | .int g => decide (g = 1)
  | _ => false
def gtTwoD : PyData → Bool
  | .int g => decide (2 < g)
  | _ => false
def spFloorE (c : Nat → Addr) : Sp := fun vs H Q E => ∃ (u v : V) (a : Addr) (d e : PyData), vs = [u, v] ∧ Dx a H u d ∧ Dx a H v e ∧ (withinD 1 1000000 d = false → ErrAt (c 3) u H E) ∧ (withinD 1 1000000 d = true → withinD 1 200 e = false → ErrAt (c 3) v H E) ∧
  (withinD 1 1000000 d = true → withinD 1 200 e = true → (oneD e && gtTwoD d) = true → ErrAt (c 2) v H E) ∧
  (withinD 1 1000000 d = true → withinD 1 200 e = true → (oneD e && gtTwoD d) = false → ∀ (n m : Int) (r : Nat) H', d = .int n → e = .int m → IsFloor n m r → Same H H' → Q (.int r) H')
section
variable {P : Program} {w : World} {K : PySem.W.Frag} {mg : Str → Option Value} {base : Heap}
theorem ok_roomE {f fW fL fI : Addr} {c : Nat → Addr} {fd fdW fdL fdI : FuncData} {k j : Nat} (hj : j + 1 ≤ k) (F : Fun K "tree_room" "tree_room" sTreeRoom f fd) (hF : ∃ t, mg "MOST_FAR" = some (.int 40 t)) (hT : ∃ t, mg "MOST_TIES" = some (.int 200 t))
    (T : XCls K fI (c 3)) (gX : mg "BadNumber" = some (.ref (c 3))) (GI : FnOk P w K mg base CX0 j fI fdI ["self", "value"] (spIniX K)) (bI : Binds K fdI ["self", "value"] [])
    (GW : FnOk P w K mg base CX0 k fW fdW ["value", "least", "most"] spWithinA) (gW : mg "is_within" = some (.ref fW)) (kW : PySem.W.keepIn K (.ref fW) = true) (bW : Binds K fdW ["value", "least", "most"] [])
    (GL : FnOk P w K mg base CX0 k fL fdL ["many", "most"] spLayers) (gL : mg "layers" = some (.ref fL)) (kL : PySem.W.keepIn K (.ref fL) = true) (bL : Binds K fdL ["many", "most"] []) :
    FnOk P w K mg base (L2N.CX P w) (k + 1) f fd ["far", "most"] (spRoomE c) := by
  refine okN F scTreeRoom (fun vs H Q E h => ?_) (fun cdv A outer s H vs Q E hr h => ?_)
  · obtain ⟨u, v, a, d, e, rfl, _⟩ := h
    rfl
  · obtain ⟨u, v, a, d, e, rfl, xu, xv, q0, q1, q2⟩ := h
    obtain ⟨t1, g1⟩ := hF
    obtain ⟨t2, g2⟩ := hT
    refine ⟨_, pss_cons (ps_if (pt_not (pt_val (pe_call GW hr (by rfl) gW kW bW .nil pass0 (pa_cons (pv 0) (pa_cons pe_int (pa_cons (pe_glob (v := .int 40) (by rfl) g1 ⟨_, rfl⟩) pa_nil)))))) (pss_one (ps_heal T GI (hr.mono hj) bI rfl gX (pv 0))) pss_nil)
      (pss_cons (ps_if (pt_not (pt_val (pe_call GW hr (by rfl) gW kW bW .nil pass0 (pa_cons (pv 1) (pa_cons pe_int (pa_cons (pe_glob (v := .int 200) (by rfl) g2 ⟨_, rfl⟩) pa_nil)))))) (pss_one (ps_heal T GI (hr.mono hj) bI rfl gX (pv 1))) pss_nil)
      (pss_cons (ps_if (pt_cmpR op_eq (pe_op op_mod (pv 0) pe_int) pe_int (nomark _)) (pss_one (ps_ret (pe_op op_add pe_int (pe_op op_mul (pv 1) (pe_call GL hr (by rfl) gL kL bL .nil pass0 (pa_cons (pe_op op_fdiv (pv 0) pe_int) (pa_cons (pv 1) pa_nil))))))) pss_nil)
      (pss_one (ps_ret (pe_op op_mul pe_int (pe_call GL hr (by rfl) gL kL bL .nil pass0 (pa_cons (pe_op op_add (pe_op op_fdiv (pv 0) pe_int) pe_int) (pa_cons (pv 1) pa_nil)))))))), ?_⟩
    refine rs_no ?_
    refine ⟨u, rfl, u, a, d, 0, 40, rfl, xu, _, rfl, ?_⟩
    cases hd : withinD 0 40 d with
    | false =>
      show if true = true then _ else _
      rw [if_pos rfl]
      exact ⟨u, rfl, fun dd nd => q0 hd dd H (Same.refl _) nd⟩
    | true =>
      show if false = true then _ else _
      rw [if_neg Bool.false_ne_true]
      refine rs_no ?_
      refine ⟨v, rfl, v, a, e, 1, 200, rfl, xv, _, rfl, ?_⟩
      cases he : withinD 1 200 e with
      | false =>
        show if true = true then _ else _
        rw [if_pos rfl]
        exact ⟨v, rfl, fun dd nd => q1 hd he dd H (Same.refl _) nd⟩
      | true =>
        show if false = true then _ else _
        rw [if_neg Bool.false_ne_true]
        have q := q2 hd he
        obtain ⟨n0, rfl, n1, n2⟩ := within_ex hd
        obtain ⟨m, rfl, m1, m2⟩ := within_ex he
        obtain rfl := xu.int
        obtain rfl := xv.int
        obtain ⟨n, rfl⟩ : ∃ n : Nat, n0 = (n : Int) := ⟨n0.toNat, by omega⟩
        have q := q n m rfl rfl
        refine rs_no ?_
        refine ⟨.int n, rfl, _, _, rfl, rfl, (show (0 : Int) < 2 by decide), rfl, _, rfl, ?_⟩
        by_cases hp : n % 2 = 0
        · rw [decide_eq_true (show V.int ((n : Int) % 2) = V.int 0 from congrArg V.int (by omega))]
          show if true = true then _ else _
          rw [if_pos rfl]
          refine ⟨.int m, rfl, .int n, rfl, _, _, rfl, rfl, ⟨by decide, by decide⟩, .int m, rfl, n / 2, m, rfl, by omega, m1, m2, ?_⟩
          refine ⟨_, _, rfl, rfl, .inl ⟨by omega, by omega⟩, _, _, rfl, rfl, ?_⟩
          unfold roomV at q
          rw [if_pos hp] at q
          exact q
        · rw [decide_eq_false (show ¬ V.int ((n : Int) % 2) = V.int 0 from fun e => by injection e with e; omega)]
          show if false = true then _ else _
          rw [if_neg Bool.false_ne_true]
          refine ⟨.int n, rfl, _, _, rfl, rfl, ⟨by decide, by decide⟩, _, _, rfl, rfl, .int m, rfl, n / 2 + 1, m, rfl, by omega, m1, m2, ?_⟩
          refine ⟨_, _, rfl, rfl, .inl ⟨by decide, by decide⟩, ?_⟩
          unfold roomV at q
          rw [if_neg hp] at q
          exact q
theorem ok_floorE {f fW fI : Addr} {c : Nat → Addr} {fd fdW fdI : FuncData} {k j : Nat} (hj : j + 1 ≤ k) (F : Fun K "web_floor" "web_floor" sWebFloor f fd) (hF : ∃ t, mg "MOST_MANY" = some (.int 1000000 t)) (hT : ∃ t, mg "MOST_TIES" = some (.int 200 t))
    (T3 : XCls K fI (c 3)) (gX3 : mg "BadNumber" = some (.ref (c 3))) (T2 : XCls K fI (c 2)) (gX2 : mg "NoTree" = some (.ref (c 2))) (GI : FnOk P w K mg base CX0 j fI fdI ["self", "value"] (spIniX K)) (bI : Binds K fdI ["self", "value"] [])
    (GW : FnOk P w K mg base CX0 k fW fdW ["value", "least", "most"] spWithinA) (gW : mg "is_within" = some (.ref fW)) (kW : PySem.W.keepIn K (.ref fW) = true) (bW : Binds K fdW ["value", "least", "most"] []) :
    FnOk P w K mg base (L2N.CX P w) (k + 1) f fd ["many", "most"] (spFloorE c) := by
  refine okN F scWebFloor (fun vs H Q E h => ?_) (fun cdv A outer s H vs Q E hr h => ?_)
  · obtain ⟨u, v, a, d, e, rfl, _⟩ := h
    rfl
  · obtain ⟨u, v, a, d, e, rfl, xu, xv, q0, q1, q2, q3⟩ := h
    obtain ⟨t1, g1⟩ := hF
    obtain ⟨t2, g2⟩ := hT
    refine ⟨_, pss_cons (ps_if (pt_not (pt_val (pe_call GW hr (by rfl) gW kW bW .nil pass0 (pa_cons (pv 0) (pa_cons pe_int (pa_cons (pe_glob (v := .int 1000000) (by rfl) g1 ⟨_, rfl⟩) pa_nil)))))) (pss_one (ps_heal T3 GI (hr.mono hj) bI rfl gX3 (pv 0))) pss_nil)
      (pss_cons (ps_if (pt_not (pt_val (pe_call GW hr (by rfl) gW kW bW .nil pass0 (pa_cons (pv 1) (pa_cons pe_int (pa_cons (pe_glob (v := .int 200) (by rfl) g2 ⟨_, rfl⟩) pa_nil)))))) (pss_one (ps_heal T3 GI (hr.mono hj) bI rfl gX3 (pv 1))) pss_nil)
      (pss_cons (ps_if (PW.pt (pw_and (pt_cmpR op_eq (pv 1) pe_int (nomark _)) (pw_and1 (pt_cmpR op_gt (pv 0) pe_int (nomark _))))) (pss_one (ps_heal T2 GI (hr.mono hj) bI rfl gX2 (pv 1))) pss_nil)
      (pss_cons (ps_set (i := 2) scWebFloor.nd rfl (.inl rfl) pe_int) (pss_cons (ps_set (i := 3) scWebFloor.nd rfl (.inl rfl) pe_int) (pss_cons (ps_set (i := 4) scWebFloor.nd rfl (.inl rfl) (pv 1))
      (pss_cons (ps_while (passes_of rfl) (pt_cmpR op_lt (pv 3) (pv 0) (nomark _))
        (pss_cons (ps_aug (i := 2) scWebFloor.nd rfl (.inl rfl) pe_int ip_add) (pss_cons (ps_aug (i := 3) scWebFloor.nd rfl (.inl rfl) (pv 4) ip_add) (pss_one (ps_aug (i := 4) scWebFloor.nd rfl (.inl rfl) (pe_op op_sub (pv 1) pe_int) iop_mul)))))
      (pss_one (ps_ret (pv 2))))))))), ?_⟩
    refine rs_no ?_
    refine ⟨u, rfl, u, a, d, 1, 1000000, rfl, xu, _, rfl, ?_⟩
    cases hd : withinD 1 1000000 d with
    | false =>
      show if true = true then _ else _
      rw [if_pos rfl]
      exact ⟨u, rfl, fun dd nd => q0 hd dd H (Same.refl _) nd⟩
    | true =>
      show if false = true then _ else _
      rw [if_neg Bool.false_ne_true]
      refine rs_no ?_
      refine ⟨v, rfl, v, a, e, 1, 200, rfl, xv, _, rfl, ?_⟩
      cases he : withinD 1 200 e with
      | false =>
        show if true = true then _ else _
        rw [if_pos rfl]
        exact ⟨v, rfl, fun dd nd => q1 hd he dd H (Same.refl _) nd⟩
      | true =>
        show if false = true then _ else _
        rw [if_neg Bool.false_ne_true]
        have q2 := q2 hd he
        have q3 := q3 hd he
        obtain ⟨n, rfl, n1, n2⟩ := within_ex hd
        obtain ⟨m, rfl, h1, h2⟩ := within_ex he
        obtain rfl := xu.int
        obtain rfl := xv.int
        have e1 : oneD (.int m) = decide (m = 1) := rfl
        have e2 : gtTwoD (.int n) = decide (2 < n) := rfl
        rw [e1, e2] at q2 q3
        refine rs_no ?_
        refine ⟨.int m, rfl, rfl, _, rfl, ?_⟩
        have go : (m = 1 → n ≤ 2) → ∀ (D : Ends), D.rt = Q → tSeq (tAsg (tC (.int 0)) (gName 2)) (tSeq (tAsg (tC (.int 1)) (gName 3)) (tSeq (tAsg (tVar 1) (gName 4)) (tSeq (tWhile (tTest (tOp (rI0 fun i j => .bl (decide (i < j))) (tVar 3) (tVar 0))) (tSeq (tAug 2 (tC (.int 1)) (ipI fun i j => i + j)) (tSeq (tAug 3 (tVar 4) (ipI fun i j => i + j)) (tAug 4 (tOp (rI0 fun i j => .int (i - j)) (tVar 1) (tC (.int 1))) (rI CMul fun i j => .int (i * j)))))) (tRet (tVar 2))))) D [some (V.int n), some (V.int m), none, none, none] H := by
          intro h3 D hD
          have q := q3 (by
            rw [Bool.and_eq_false_iff]
            by_cases z : m = 1
            · right; exact decide_eq_false (by have := h3 z; omega)
            · left; exact decide_eq_false z) n m
          refine rs_set ?_
          refine rs_set ?_
          refine rs_set ⟨.int m, rfl, ?_⟩
          refine rs_whileM (fun μ σ H' => ∃ r : Nat, σ = [some (.int n), some (.int m), some (.int r), some (.int (1 + m * layS r m)), some (.int (m * (m - 1) ^ r))] ∧ Same H H' ∧ (∀ i : Nat, i < r → 1 + m * layS i m < n) ∧ μ = n.toNat - r) n.toNat
            ⟨0, by rw [Int.pow_zero, Int.mul_one]; show _ = [_, _, _, some (V.int (1 + m * 0)), _]; rw [Int.mul_zero]; rfl, Same.refl _, (fun i hi => absurd hi (Nat.not_lt_zero _)), rfl⟩ ?_
          rintro μ σ H' ⟨r, rfl, sx, hc, rfl⟩
          refine ⟨decide (1 + m * layS r m < n), fun Q1 q1 => ⟨.int (1 + m * layS r m), rfl, .int n, rfl, _, _, rfl, rfl, _, rfl, q1 H' (Same.refl _)⟩, fun hb H2 s2 D' hD' => ?_, fun hb H2 s2 => ?_⟩
          · have hb := of_decide_eq_true hb
            have hlt := floor_lt n1 h1 h3 hb
            refine r_seq ⟨_, rfl, _, _, rfl, rfl, ?_⟩
            refine r_seq ⟨_, rfl, .int (m * (m - 1) ^ r), rfl, _, _, rfl, rfl, ?_⟩
            refine ⟨_, rfl, .int m, rfl, _, _, rfl, rfl, _, _, rfl, rfl, .inr ⟨by omega, by omega⟩, hD' _ _ ⟨n.toNat - (r + 1), by omega, r + 1, ?_, sx.trans s2, fun i hi => ?_, rfl⟩⟩
            · rw [lay_mul, Int.pow_succ, ← Int.mul_assoc]
              rfl
            · rcases Nat.lt_or_ge i r with a | a
              · exact hc i a
              · have : i = r := by omega
                subst this; exact hb
          · have hb := of_decide_eq_false hb
            exact ⟨.int r, rfl, by rw [hD]; exact q r H2 rfl rfl ⟨hc, hb⟩ (sx.trans s2)⟩
        by_cases hm : m = 1
        · subst hm
          rw [decide_eq_true (show V.int (1 : Int) = V.int 1 from rfl)]
          show if true = true then _ else _
          rw [if_pos rfl]
          refine ⟨.int n, rfl, n, 2, rfl, rfl, _, rfl, ?_⟩
          by_cases h3 : 2 < n
          · rw [decide_eq_true h3]
            show if true = true then _ else _
            rw [if_pos rfl]
            exact ⟨.int 1, rfl, fun dd nd => q2 (by rw [decide_eq_true h3]; rfl) dd H (Same.refl _) nd⟩
          · rw [decide_eq_false h3]
            show if false = true then _ else _
            rw [if_neg Bool.false_ne_true]
            exact go (fun _ => by omega) _ rfl
        · rw [decide_eq_false (show ¬ V.int m = V.int 1 from fun e => hm (by injection e))]
          show if false = true then _ else _
          rw [if_neg Bool.false_ne_true]
          exact go (fun z => absurd z hm) _ rfl
end
end HI

set_option Elab.async false
set_option linter.all false
set_option maxRecDepth 100000
set_option maxHeartbeats 4000000
namespace HI
open PySem L2 PyProof.Rows Hw
abbrev sLNear : Stmt := topS 36
abbrev sLFars : Stmt := topS 37
abbrev sLTN : Stmt := topS 39
def spTreeNear : Sp := fun vs H Q _ => ∃ (tl : Addr) (n : Nat) (ts : List Tie) (qs : List Addr), vs = [.int (n : Nat), .ref tl] ∧ n ≤ 200 ∧ FineW (nsI n) ts ∧ H tl = some (.tup (qs.map V.ref)) ∧ Paired (TieL H) qs ts ∧
  ∀ d f H', Same H H' → NearL f H' d (nsI n) (nbr ts) → Q (.ref d) H'
section
variable {P : Program} {w : World} {K : PySem.W.Frag} {mg : Str → Option Value} {base : Heap}
theorem scLNear : FnScope ["places", "ties", "near", "one", "other", "name"] ["places", "ties"] (defScope sLNear) := ⟨rfl, rfl, rfl, by decide +kernel, rfl, by decide +kernel, by decide +kernel⟩
theorem ok_lnear {f : Addr} {fd : FuncData} {k : Nat} (F : Fun K "_law_near" "_law_near" sLNear f fd) (bd : mg "dict" = none) : FnOk P w K mg base CX0 (k + 1) f fd ["places", "ties"] spTied := by
  refine F.ok scLNear (fun vs H Q E h => ?_) (fun cdv A outer s H vs Q E hr h => ?_)
  · obtain ⟨p, tl, ns, ts, qs, rfl, _⟩ := h
    rfl
  · obtain ⟨p, tl, ns, ts, qs, rfl, own, e1, e3, e4, q⟩ := h
    have hu := hu_of hr
    refine ⟨_, pss_cons (ps_set (i := 2) scLNear.nd rfl (.inl rfl) (pe_callTy (call_dictP rfl) (by rfl) bd PyProof.Rows.boot_dict (pa_cons (pe_lc (own := [("name", 5)]) (g := gName 5) (tt := tYes) rfl scLNear.nd (pi_list (pv 0))
        (blkOk_by (N := ["places", "ties", "near", "one", "other", "name"]) (sc := defScope sLNear) (by decide +kernel)) (fun _ _ _ _ _ => pg_name (i := 5) scLNear.nd rfl (Or.inl rfl)) (fun _ _ _ _ _ => pts_nil)
        (fun _ _ _ _ _ => pe_tup (pa_cons (pv 5) (pa_cons (pe_lst pa_nil) pa_nil)))) pa_nil)))
      (pss_cons (ps_for PassesOwn.never rfl (pi_tup (pv 1)) (pg_tup rfl (pgs_cons (pg_name (i := 3) scLNear.nd rfl (Or.inl rfl)) (pgs_cons (pg_name (i := 4) scLNear.nd rfl (Or.inl rfl)) pgs_nil)))
        (pss_cons (ps_expr (pe_bm PySem.F.plainAttrs_list PySem.F.slot_list_append PySem.F.type_list_append mt_append (pe_dget hu (pv 2) (pv 3) (fun _ _ => rfl)) (pa_cons (pv 4) pa_nil)))
        (pss_one (ps_expr (pe_bm PySem.F.plainAttrs_list PySem.F.slot_list_append PySem.F.type_list_append mt_append (pe_dget hu (pv 2) (pv 4) (fun _ _ => rfl)) (pa_cons (pv 3) pa_nil))))))
      (pss_one (ps_ret (pv 2)))), ?_⟩
    have l40 := own.few
    have l1000 := own.tfew
    have hnd := own.nd
    refine rs_set ?_
    refine ⟨.ref p, rfl, p, rfl, ⟨_, sql_of e1⟩, fun D nD => lc_list (xs := ns.map V.int) (fun i H' => ∃ f tp, NearUp H D (ns.take i) f H' ∧ H' D = some (.lst (tp.map V.ref)) ∧ Paired (fun q n => H' q = some (.tup [.int n, .ref (f n)])) tp (ns.take i))
      ⟨fun _ => 0, [], ⟨same_upd nD, (fun _ z => nomatch z), (fun _ z => nomatch z)⟩, upd_same, .nil⟩ (fun i H' _ ⟨f, tp, w, _⟩ => sql_of (w.1 _ _ e1)) ?_ ?_⟩
    · rintro i x H' hx ⟨f, tp, w, eD, hp⟩
      obtain ⟨z, hz, rfl⟩ : ∃ z, ns[i]? = some z ∧ x = .int z := by
        rw [List.getElem?_map] at hx
        cases hh : ns[i]? with
        | none => rw [hh] at hx; cases hx
        | some z => rw [hh] at hx; exact ⟨z, rfl, (Option.some.inj hx).symm⟩
      have hi := (List.getElem?_eq_some_iff.mp hz).1
      have hzt := nodup_take hnd hz
      have et : ns.take (i + 1) = ns.take i ++ [z] := by rw [List.take_succ, hz]; rfl
      have htp : tp.length ≤ 200 := by
        rw [Paired.length hp, List.length_take]; omega
      refine ⟨rfl, r_yes ?_⟩
      refine ⟨.int z, rfl, Nat.zero_le _, fun l nl => ⟨by show 2 ≤ sizeLine; decide, fun q' nq => ?_⟩⟩
      have hl : l ≠ D := fun e => by rw [e, eD] at nl; cases nl
      have w1 := (w.new hzt nl hl).keep (same_upd (o := .tup [.int z, .ref l]) nq)
      have eD1 := (same_upd (o := .lst []) nl) _ _ eD
      have hqD : q' ≠ D := fun e => by rw [e, eD1] at nq; cases nq
      refine ⟨tp.map V.ref, (same_upd nq) _ _ eD1, small1000 (by rw [List.length_map]; omega), fun n => if n = z then l else f n, tp ++ [q'], by rw [et]; exact w1.put nD, by rw [upd_same, List.map_append]; rfl, ?_⟩
      rw [et]
      refine Paired.snoc (paired_in (fun q n hn e => ?_) hp) ?_
      · have ne : n ≠ z := fun e => hzt (by rw [← e]; exact hn)
        dsimp only
        rw [if_neg ne, upd_ne (ne_of e eD (fun z => nomatch z)), upd_ne (ne_of_none ((same_upd nl) _ _ e) nq)]
        exact (same_upd nl) _ _ e
      · dsimp only
        rw [if_pos rfl, upd_ne hqD, upd_same]
    · rintro H' ⟨f, tp, w, eD, hp⟩
      rw [List.length_map, List.take_length] at w hp
      refine ⟨D, tp, ns.map fun n => ((Sum.inl n : Key), V.ref (f n)), rfl, sql_of eD, paired_map (paired_mono (fun q n e => sqt_of e) hp), fun d nd => ?_⟩
      rw [mergeK_new (by rw [List.nil_append, List.map_map]; exact List.Pairwise.map _ (fun a b h e => h (Sum.inl.inj e)) hnd), List.nil_append]
      have w1 := w.keep (same_upd (o := .dK (ns.map fun n => ((Sum.inl n : Key), V.ref (f n)))) nd)
      have hd0 : H d = none := w.1.free nd
      have nl0 := w1.done upd_same
      have s0 := w1.1
      have hf0 : ∀ n ∈ ns, H (f n) = none := fun n hn => (w.2.1 n hn).2.1
      generalize (upd H' d (.dK (ns.map fun n => ((Sum.inl n : Key), V.ref (f n))))) = H1 at nl0 s0 ⊢
      clear w w1 hp eD
      refine rs_tup tl (qs.map V.ref) (fun Q1 q1 => ⟨_, rfl, q1⟩) (fun i σ' H' => ∃ o3 o4, σ' = [some (.ref p), some (.ref tl), some (.ref d), o3, o4, none] ∧ Same H H' ∧ NearL f H' d ns (nbr (ts.take i)))
        ⟨_, _, rfl, s0, nl0⟩ (fun i σ' H' _ ⟨o3, o4, _, sx, _⟩ => sqt_of (sx _ _ e3)) ?_ ?_
      · rintro i x σ2 H2 hx ⟨o3, o4, rfl, sx, nl⟩
        obtain ⟨q', hq', rfl⟩ := Hw.map_get hx
        obtain ⟨t, ht, et⟩ := Hw.paired_get e4 hq'
        obtain ⟨m1, m2, m3⟩ := own.tie t (List.mem_of_getElem? ht)
        refine ⟨q', [.int t.1, .int t.2], rfl, sqt_of (sx _ _ et), rfl, _, [.int t.2], rfl, _, [], rfl, rfl, ?_⟩
        refine near_turn (t := t) (ts := ts.take i) rfl rfl rfl sx nl hf0 m1 m2 (Int.ne_of_lt m3) (by rw [List.length_take]; omega) (fun H3 s3 n3 => ⟨_, _, rfl, s3, by rw [Hw.take_snoc ht]; exact n3⟩)
      · rintro σ2 H2 ⟨o3, o4, rfl, sx, nl⟩
        rw [List.length_map, Paired.length e4, List.take_length] at nl
        exact ⟨.ref d, rfl, q d f H2 sx nl hd0 hf0⟩
theorem scLFars : FnScope ["near", "name", "fars", "level", "later", "here", "other"] ["near", "name"] (defScope sLFars) := ⟨rfl, rfl, rfl, by decide +kernel, rfl, by decide +kernel, by decide +kernel⟩
theorem ok_lfars {f : Addr} {fd : FuncData} {k : Nat} (F : Fun K "_law_fars" "_law_fars" sLFars f fd) : FnOk P w K mg base CX0 (k + 1) f fd ["near", "name"] spFars := by
  refine F.ok scLFars (fun vs H Q E h => ?_) (fun cdv A outer s H vs Q E hr h => ?_)
  · obtain ⟨d, p, f, ns, ts, rfl, _⟩ := h
    rfl
  · obtain ⟨d, p, f, ns, ts, rfl, nl, hp, hl, hnb, q⟩ := h
    have hu := hu_of hr
    have hu64 := hr.units
    refine ⟨_, pss_cons (ps_par (i := 2) (j := 3) rfl scLFars.nd rfl rfl (by decide) rfl rfl (pa_cons (pe_disp (pps_cons (pv 1) pe_int pps_nil) (by rfl) (by rfl) (fun z => by cases z) (by decide)) (pa_cons (pe_lst (pa_cons (pv 1) pa_nil)) pa_nil)) rfl)
      (pss_cons (ps_while PassesOwn.never (pt_cmpR (op_neNilL hr.units0) (pv 3) (pe_lst pa_nil) (nomark _))
        (pss_cons (ps_set (i := 4) scLFars.nd rfl (.inl rfl) (pe_lst pa_nil))
        (pss_cons (ps_for PassesOwn.never rfl (pi_list (pv 3)) (pg_name (i := 5) scLFars.nd rfl (.inl rfl))
          (pss_one (ps_for PassesOwn.never rfl (pi_list (pe_dget hu (pv 0) (pv 5) (fun _ _ => rfl))) (pg_name (i := 6) scLFars.nd rfl (.inl rfl))
            (pss_one (ps_if (pt_cmp (pc_dnotin hu (pv 6) (pv 2)))
              (pss_cons (ps_dput hu (pv 2) (pv 6) (pe_op op_add (pe_dget hu (pv 2) (pv 5) (fun _ _ => rfl)) pe_int) rfl)
              (pss_one (ps_expr (pe_bm PySem.F.plainAttrs_list PySem.F.slot_list_append PySem.F.type_list_append mt_append (pv 4) (pa_cons (pv 6) pa_nil))))) pss_nil)))))
        (pss_one (ps_set (i := 3) scLFars.nd rfl (.inl rfl) (pv 4))))))
      (pss_one (ps_ret (pv 2)))), ?_⟩
    refine rs_par ?_
    intro fd' nfd
    refine ⟨.int p, rfl, upd_same, [(Sum.inl p, .int 0)], rfl, by show 1 ≤ 15; decide, ?_⟩
    have sf : Same H (upd (upd H fd' (.dK [])) fd' (.dK (mergeK [] [((Sum.inl p : Key), V.int 0)]))) := fun b o e => by
      have hb := ne_of_none e nfd
      rw [upd_ne hb, upd_ne hb]; exact e
    have ef : (upd (upd H fd' (.dK [])) fd' (.dK (mergeK [] [((Sum.inl p : Key), V.int 0)]))) fd' = some (.dK (encF [(p, 0)])) := upd_same
    generalize (upd (upd H fd' (.dK [])) fd' (.dK (mergeK [] [((Sum.inl p : Key), V.int 0)]))) = H1 at sf ef ⊢
    refine ⟨.int p, rfl, by show 1 ≤ sizeLine; decide, fun el nel => ⟨_, _, rfl, ?_⟩⟩
    refine bfs_way (fa := f) (sf.trans (same_upd nel)) ((same_upd nel) _ _ ef) upd_same nfd hp hl hnb nl.lst (fun n hn el' bl o6 H' Q s' q' => ⟨.ref d, rfl, .int n, rfl, d, .ref (f n), rfl, (nl.keep s').get hn, q'⟩) (fun el' xs σ' H' Q hσ e hx q' => ?_) (fun far H' σ' hσ b hf s' e => ⟨.ref fd', hσ, q far fd' H' b hf s' e nfd⟩)
    refine ⟨.ref el', hσ, Nat.zero_le _, fun l nl' => ⟨el', l, xs.map V.int, rfl, rfl, sql_of ((same_upd nl') _ _ e), sql_of upd_same, _, rfl, ?_⟩⟩
    have eb : (!(xs.map V.int).isEmpty) = !xs.isEmpty := by cases xs <;> rfl
    show Q (!(xs.map V.int).isEmpty) _
    rw [eb]
    exact q' _ (same_upd nl')
theorem scLTN : FnScope ["many", "ties"] ["many", "ties"] (defScope sLTN) := ⟨rfl, rfl, rfl, by decide +kernel, rfl, by decide +kernel, by decide +kernel⟩
theorem ok_ltn {f fN : Addr} {fd fdN : FuncData} {k : Nat} (F : Fun K "_law_tree_near" "_law_tree_near" sLTN f fd) (B : Blt mg)
    (GN : FnOk P w K mg base CX0 k fN fdN ["places", "ties"] spTied) (gN : mg "_law_near" = some (.ref fN)) (kN : PySem.W.keepIn K (.ref fN) = true) (bN : Binds K fdN ["places", "ties"] []) : FnOk P w K mg base CX0 (k + 1) f fd ["many", "ties"] spTreeNear := by
  refine F.ok scLTN (fun vs H Q E h => ?_) (fun cdv A outer s H vs Q E hr h => ?_)
  · obtain ⟨tl, n, ts, qs, rfl, _⟩ := h
    rfl
  · obtain ⟨tl, n, ts, qs, rfl, n2, fine, et, hq, q⟩ := h
    refine ⟨_, pss_one (ps_ret (pe_call GN hr (by rfl) gN kN bN .nil pass0 (pa_cons (pe_listRg rfl (by rfl) B.list (prg_1 (by rfl) B.range (pv 0))) (pa_cons (pv 1) pa_nil)))), ?_⟩
    refine r_ret ?_
    refine ⟨.int (n : Int), rfl, _, rfl, .of_le (by omega) (by omega) (by omega) (by omega), fun p np => ?_⟩
    rw [rg_ns]
    have s1 := same_upd (o := .lst ((nsI n).map V.int)) np
    exact ⟨.ref tl, rfl, p, tl, nsI n, ts, qs, rfl, fine, upd_same, s1 _ _ et, paired_mono (fun q t e => s1 _ _ e) hq, fun D fa H2 s2 nl nD nf => q D fa H2 (s1.trans s2) nl⟩
end
end HI

set_option Elab.async false
set_option linter.all false
set_option maxRecDepth 100000
set_option maxHeartbeats 4000000
namespace HI
open PySem L2 PyProof.Rows Hw
abbrev sLTree : Stmt := topS 40
def spLTree : Sp := fun vs H Q _ => ∃ (t : Addr) (v : V) (a : Addr) (ls : List Int) (d : PyData), vs = [.ref t, v] ∧ H t = some (.tup (ls.map V.int)) ∧ Lims ls ∧ Dx a H v d ∧ ∀ H', Same H H' → Q (.bl (isTreeD ls d)) H'
theorem all_take_no {f : PyData → Bool} {ds : List PyData} {i : Nat} {d : PyData} (h : ds[i]? = some d) (hf : f d = false) : ds.all f = false := by
  rw [List.all_eq_false]
  exact ⟨d, List.mem_of_getElem? h, by rw [hf]; exact Bool.false_ne_true⟩
section
variable {P : Program} {w : World} {K : PySem.W.Frag} {mg : Str → Option Value} {base : Heap}
abbrev nLT : List Str := ["limits", "value", "many", "tie", "near", "place", "one", "other", "at"]
theorem scLTree : FnScope nLT ["limits", "value"] (defScope sLTree) := ⟨rfl, rfl, rfl, by decide +kernel, rfl, by decide +kernel, by decide +kernel⟩
theorem ok_ltree {f fI fN fF : Addr} {fd fdI fdN fdF : FuncData} {k : Nat} (F : Fun K "_law_is_tree" "_law_is_tree" sLTree f fd) (B : Blt mg) (bi : mg "isinstance" = none) (bt : mg "tuple" = none) (ba : mg "all" = none) (bz : mg "zip" = none)
    (GI : FnOk P w K mg base CX0 k fI fdI ["value", "least", "most"] spWithinA) (gI : mg "_law_is_int" = some (.ref fI)) (kI : PySem.W.keepIn K (.ref fI) = true) (bI : Binds K fdI ["value", "least", "most"] [])
    (GN : FnOk P w K mg base CX0 k fN fdN ["many", "ties"] spTreeNear) (gN : mg "_law_tree_near" = some (.ref fN)) (kN : PySem.W.keepIn K (.ref fN) = true) (bN : Binds K fdN ["many", "ties"] [])
    (GF : FnOk P w K mg base CX0 k fF fdF ["near", "name"] spFars) (gF : mg "_law_fars" = some (.ref fF)) (kF : PySem.W.keepIn K (.ref fF) = true) (bF : Binds K fdF ["near", "name"] []) :
    FnOk P w K mg base CX0 (k + 1) f fd ["limits", "value"] spLTree := by
  refine F.ok scLTree (fun vs H Q E h => ?_) (fun cdv A outer s H vs Q E hr h => ?_)
  · obtain ⟨t, v, a, ls, d, rfl, _⟩ := h
    rfl
  · obtain ⟨t, v, a, ls, d, rfl, e1, L, xv, q⟩ := h
    have hu := hu_of hr
    have hu0 := hr.units0
    have l1 := L.one
    have l2 := L.most
    refine ⟨_, pss_cons (ps_set (i := 2) scLTree.nd rfl (.inr rfl) (pe_callB call_len_seq (by rfl) B.len PySem.boot_len (pa_cons (pv 0) pa_nil)))
      (pss_cons (ps_if (PW.pt (pw_or (pt_not (pt_val (pe_callB call_isi (by rfl) bi PyProof.Rows.boot_isinstance (pa_cons (pv 1) (pa_cons (pe_bltn (v := .ty "tuple") (by rfl) bt (by decide +kernel) rfl) pa_nil)))))
        (pw_or1 (pt_cmpR op_ne (pe_callB call_len_seq (by rfl) B.len PySem.boot_len (pa_cons (pv 1) pa_nil)) (pe_op op_sub (pv 2) pe_int) (nomark _))))) (pss_one (ps_ret pe_bl)) pss_nil)
      (pss_cons (ps_for PassesOwn.never rfl (pi_tup (pv 1)) (pg_name (i := 3) scLTree.nd rfl (.inl rfl))
        (pss_cons (ps_if (PW.pt (pw_or (pt_not (pt_val (pe_callB call_isi (by rfl) bi PyProof.Rows.boot_isinstance (pa_cons (pv 3) (pa_cons (pe_bltn (v := .ty "tuple") (by rfl) bt (by decide +kernel) rfl) pa_nil)))))
          (pw_or (pt_cmpR op_ne (pe_callB call_len_seq (by rfl) B.len PySem.boot_len (pa_cons (pv 3) pa_nil)) pe_int (nomark _))
          (pw_or1 (pt_not (pt_val (pe_callB (cr_all rfl) (by rfl) ba PyProof.Rows.boot_all (pa_cons (pe_lc (own := [("place", 5)]) (g := gName 5) (tt := tYes) rfl scLTree.nd (pi_tup (pv 3)) (blkOk_by (N := nLT) (sc := defScope sLTree) (by decide +kernel))
            (fun _ _ _ _ _ => pg_name (i := 5) scLTree.nd rfl (Or.inl rfl)) (fun _ _ _ _ _ => pts_nil) (fun _ _ _ _ _ => pe_call GI hr (by rfl) gI kI bI .nil pass0 (pa_cons (pv 5) (pa_cons pe_int (pa_cons (pe_op op_sub (pv 2) pe_int) pa_nil))))) pa_nil)))))))) (pss_one (ps_ret pe_bl)) pss_nil)
        (pss_one (ps_if (pt_not (pt_cmpR op_lt (pe_ix ix_tup (pv 3) pe_int (fun _ _ => rfl)) (pe_ix ix_tup (pv 3) pe_int (fun _ _ => rfl)) (nomark _))) (pss_one (ps_ret pe_bl)) pss_nil))))
      (pss_cons (ps_if (pt_not (pt_val (pe_callB (cr_all rfl) (by rfl) ba PyProof.Rows.boot_all (pa_cons (pe_lc (own := [("one", 6), ("other", 7)]) (g := gTup _ 2 (gCons (gName 6) (gCons (gName 7) gNil))) (tt := tYes) (te := tOp (rLtT K) (tVar 6) (tVar 7)) rfl scLTree.nd
        (RZ.pi_zipA (by rfl) bz (pa_cons (pv 1) (pa_cons (pe_slice sl_tupA (pv 1) (po_some pe_int) po_none) pa_nil))) (blkOk_by (N := nLT) (sc := defScope sLTree) (by decide +kernel))
        (fun _ _ _ _ _ => pg_tup rfl (pgs_cons (pg_name (i := 6) scLTree.nd rfl (Or.inl rfl)) (pgs_cons (pg_name (i := 7) scLTree.nd rfl (Or.inl rfl)) pgs_nil))) (fun _ _ _ _ _ => pts_nil) (fun _ _ _ _ _ => pe_cmpR (op_ltT hu0) (pv 6) (pv 7) (nomark _))) pa_nil)))) (pss_one (ps_ret pe_bl)) pss_nil)
      (pss_cons (ps_set (i := 4) scLTree.nd rfl (.inr rfl) (pe_call GN hr (by rfl) gN kN bN .nil pass0 (pa_cons (pv 2) (pa_cons (pv 1) pa_nil))))
      (pss_one (ps_ret (pe_and (pe_callB (cr_all rfl) (by rfl) ba PyProof.Rows.boot_all (pa_cons (pe_lc (own := [("at", 8)]) (g := gName 8) (tt := tYes) (te := tOp (rI0 fun i j => .bl (decide (i ≤ j))) (tCB (rLenS K) (tCons (tDGet (tVar 4) (tVar 8)) tNil)) (tOp (rIxT K) (tVar 0) (tVar 8))) rfl scLTree.nd (pi_range1 (by rfl) B.range (pa_cons (pv 2) pa_nil))
          (blkOk_by (N := nLT) (sc := defScope sLTree) (by decide +kernel)) (fun _ _ _ _ _ => pg_name (i := 8) scLTree.nd rfl (Or.inl rfl)) (fun _ _ _ _ _ => pts_nil)
          (fun _ _ _ _ _ => pe_cmpR op_le (pe_callB call_lenS (by rfl) B.len PySem.boot_len (pa_cons (pe_dget hu (pv 4) (pv 8) (fun _ _ => rfl)) pa_nil)) (pe_ix ix_tup (pv 0) (pv 8) (fun _ _ => rfl)) (nomark _))) pa_nil))
        (pe_one (pe_cmpR op_eq (pe_callB call_lenD (by rfl) B.len PySem.boot_len (pa_cons (pe_call GF hr (by rfl) gF kF bF .nil pass0 (pa_cons (pv 4) (pa_cons pe_int pa_nil))) pa_nil)) (pv 2) (nomark _)))))))))), ?_⟩
    refine rs_set ?_
    refine ⟨.ref t, rfl, t, ls.map V.int, rfl, .inr (sqt_of e1), ?_⟩
    rw [List.length_map]
    refine rs_no ?_
    refine ⟨v, rfl, v, .ty "tuple", .type (tyD d), .type "tuple", isTupD d, rfl, .ty _, xv.tyx, kit_tuple d, isTupD d, rfl, ?_⟩
    cases hT : isTupD d with
    | false =>
      show if true = true then _ else _
      rw [if_pos rfl]
      rw [isTreeD_no hT] at q
      exact q H (Same.refl _)
    | true =>
      obtain ⟨ds, rfl⟩ := isTup_ex hT
      obtain ⟨tv, xs, rfl, ev, nv, xa⟩ := dx_tup xv
      have hlen := xa.length
      rw [isTreeD_tup] at q
      show if false = true then _ else _
      rw [if_neg Bool.false_ne_true]
      refine ⟨.ref tv, rfl, tv, xs, rfl, .inr (sqt_of ev), .int (ls.length : Nat), rfl, _, _, rfl, rfl, rfl, _, rfl, ?_⟩
      rw [hlen]
      by_cases h2 : ds.length + 1 = ls.length
      · rw [decide_eq_true h2, Bool.true_and] at q
        rw [decide_eq_true (show V.int ((ds.length : Nat) : Int) = V.int ((ls.length : Nat) - 1) from congrArg V.int (by omega))]
        show if false = true then _ else _
        rw [if_neg Bool.false_ne_true]
        refine rs_tup tv xs (fun Q1 q1 => ⟨_, rfl, q1⟩) (fun i σ' H' => (∃ o3 o5, σ' = [some (.ref t), some (.ref tv), some (.int (ls.length : Nat)), o3, none, o5, none, none, none]) ∧ Same H H' ∧ (ds.take i).all (tieD ls.length) = true)
          ⟨⟨_, _, rfl⟩, Same.refl _, rfl⟩ (fun i σ' H' _ h => sqt_of (h.2.1 _ _ ev)) ?_ ?_
        · rintro i x σ' H1 hx ⟨⟨o3, o5, rfl⟩, s1, hall⟩
          obtain ⟨d', hd', xd⟩ := dx_get xa hx
          have xd1 := Dx.keep (.of s1) _ _ xd
          have stop : ∀ H2, Same H H2 → tieD ls.length d' = false → Q (.bl false) H2 := fun H2 s2 hf => by
            rw [all_take_no hd' hf] at q
            exact q H2 s2
          refine r_gname ?_
          refine rs_no ?_
          refine ⟨x, rfl, x, .ty "tuple", .type (tyD d'), .type "tuple", isTupD d', rfl, .ty _, xd1.tyx, kit_tuple d', isTupD d', rfl, ?_⟩
          cases hT' : isTupD d' with
          | false =>
            show if true = true then _ else _
            rw [if_pos rfl]
            exact stop H1 s1 (by cases d' <;> first | rfl | cases hT')
          | true =>
            obtain ⟨es, rfl⟩ := isTup_ex hT'
            obtain ⟨te, ys, rfl, ee, ne, ya⟩ := dx_tup xd1
            have hlen' := ya.length
            show if false = true then _ else _
            rw [if_neg Bool.false_ne_true]
            refine ⟨.ref te, rfl, te, ys, rfl, .inr (sqt_of ee), rfl, _, rfl, ?_⟩
            rw [hlen']
            by_cases h3 : es.length = 2
            · rw [decide_eq_true (show V.int ((es.length : Nat) : Int) = V.int 2 by rw [h3]; rfl)]
              show if false = true then _ else _
              rw [if_neg Bool.false_ne_true]
              refine ⟨.ref te, rfl, te, rfl, ⟨_, sqt_of ee⟩, fun D hD => lc_tup (xs := ys) (fun i H' => Same H1 H' ∧ H' D = some (.lst (((es.take i).map (withinD 0 ((ls.length : Int) - 1))).map V.bl))) ⟨same_upd hD, upd_same⟩ (fun i H' _ h => sqt_of (h.1 _ _ ee)) ?_ ?_⟩
              · rintro i x H' hx ⟨sx, eD⟩
                obtain ⟨d2, hd2, xd2⟩ := dx_get ya hx
                refine ⟨rfl, r_yes ?_⟩
                refine ⟨x, rfl, .int (ls.length : Nat), rfl, _, _, rfl, rfl, x, a, d2, 0, (ls.length : Int) - 1, rfl, Dx.keep (.of sx) _ _ xd2, _, eD, smallM2 (by rw [List.length_map, List.length_map, List.length_take]; omega), ?_, ?_⟩
                · intro b o e
                  rw [upd_ne (ne_of_none e hD)]
                  exact sx _ _ e
                · rw [upd_same, Hw.take_snoc hd2, List.map_append, List.map_append]; rfl
              · rintro H2 ⟨s2, eD⟩
                rw [hlen', List.take_length] at eD
                refine ⟨D, _, rfl, sql_of eD, _, rfl, ?_⟩
                match es, h3 with
                | [d1, d2], _ =>
                  rw [tieD_two] at stop
                  show if (!(withinD 0 ((ls.length : Int) - 1) d1 && (withinD 0 ((ls.length : Int) - 1) d2 && true))) = true then _ else _
                  rw [Bool.and_true]
                  cases h4 : (withinD 0 ((ls.length : Int) - 1) d1 && withinD 0 ((ls.length : Int) - 1) d2) with
                  | false =>
                    show if true = true then _ else _
                    rw [if_pos rfl]
                    exact stop H2 (s1.trans s2) (by rw [h4]; rfl)
                  | true =>
                    show if false = true then _ else _
                    rw [if_neg Bool.false_ne_true]
                    have h4' := h4
                    rw [Bool.and_eq_true] at h4'
                    obtain ⟨x, rfl⟩ : ∃ g, d1 = .int g := by
                      cases d1 with
                      | int g => exact ⟨g, rfl⟩
                      | _ => cases h4'.1
                    obtain ⟨y, rfl⟩ : ∃ g, d2 = .int g := by
                      cases d2 with
                      | int g => exact ⟨g, rfl⟩
                      | _ => cases h4'.2
                    cases ya with
                    | cons x1 ya =>
                      cases ya with
                      | cons x2 ya =>
                        cases ya
                        obtain rfl := x1.int
                        obtain rfl := x2.int
                        refine ⟨.ref te, rfl, te, _, 0, .int x, rfl, rfl, sqt_of (s2 _ _ ee), atI_nat (j := 0) rfl, .ref te, rfl, te, _, 1, .int y, rfl, rfl, sqt_of (s2 _ _ ee), atI_nat (j := 1) rfl, _, _, rfl, rfl, _, rfl, ?_⟩
                        by_cases h5 : x < y
                        · rw [decide_eq_true h5]
                          show if false = true then _ else _
                          rw [if_neg Bool.false_ne_true]
                          refine ⟨⟨_, _, rfl⟩, s1.trans s2, ?_⟩
                          rw [Hw.take_snoc hd', List.all_append, hall]
                          show (true && (tieD ls.length (.tuple [.int x, .int y]) && true)) = true
                          rw [tieD_two, h4]
                          show (true && ((true && decide (x < y)) && true)) = true
                          rw [decide_eq_true h5]; rfl
                        · rw [decide_eq_false h5]
                          show if true = true then _ else _
                          rw [if_pos rfl]
                          exact stop H2 (s1.trans s2) (by rw [h4]; show (true && decide (x < y)) = false; rw [decide_eq_false h5]; rfl)
            · rw [decide_eq_false (show ¬ V.int ((es.length : Nat) : Int) = V.int 2 from fun e => h3 (by injection e with e; omega))]
              show if true = true then _ else _
              rw [if_pos rfl]
              exact stop H1 s1 (tieD_len h3)
        · rintro σ' H2 ⟨⟨o3, o5, rfl⟩, s2, hall⟩
          rw [hlen, List.take_length] at hall
          rw [hall, Bool.true_and] at q
          obtain ⟨qs, ts, rfl, rfl, hq0, ht⟩ := ties_ex xa hall
          rw [tiesOf_ti] at q
          rw [List.length_map] at h2
          have hq : Paired (TieL H2) qs ts := paired_mono (fun q t e => s2 _ _ e) hq0
          have ev2 := s2 _ _ ev
          have e12 := s2 _ _ e1
          have hl : ts.length ≤ 1000 := by omega
          have fine := fine_of (n := ls.length) (ts := ts) l2 hl ht
          have e0 := e1
          refine rs_no ?_
          have walk_len : (((ts.zip (ts.drop 1)).take (min (qs.map V.ref).length ((qs.map V.ref).drop 1).length)).map fun p => ltT p.1 p.2) = (ts.zip (ts.drop 1)).map fun p => ltT p.1 p.2 := by
            rw [List.take_of_length_le]
            rw [List.length_zip, List.length_drop, List.length_drop, List.length_map, Paired.length hq]
            exact Nat.le_refl _
          have hp : SqT K H2 tv (qs.map V.ref) := sqt_of ev2
          refine ⟨.ref tv, rfl, .ref tv, rfl, 1, rfl, tv, qs.map V.ref, rfl, hp, fun hw => ?_, fun hw b nb => ?_⟩
          · obtain ⟨H1, eH1⟩ : ∃ H1, H1 = H2 := ⟨H2, rfl⟩
            have s1 : Same H2 H1 := by rw [eH1]; exact Same.refl H2
            have hb : SqT K H1 tv ((qs.map V.ref).drop 1) := by
              have e0 : (qs.map V.ref).length = 0 := by
                have := hw.1
                rw [show HT.sIx (qs.map V.ref).length 0 (some 1) = min 1 (qs.map V.ref).length from HT.sIx_nat _ 0 1] at this
                omega
              rw [List.length_eq_zero_iff.mp e0] at hp ⊢
              rw [eH1]; exact hp
            rw [← eH1]
            refine ⟨tv, _, qs.map V.ref, (qs.map V.ref).drop 1, rfl, .inr ⟨sqT_same hp s1, hb, fun D hD => lc_it (walk_zipT rfl) (fun i H' => Same H2 H' ∧ Same H1 H' ∧ H' D = some (.lst ((((ts.zip (ts.drop 1)).take i).map fun p => ltT p.1 p.2).map V.bl))) ⟨s1.trans (same_upd hD), same_upd hD, upd_same⟩ (fun i H' _ h => ⟨sqT_same hp h.1, sqT_same hb h.2.1⟩) ?_ ?_⟩⟩
            · rintro i x H' H'' hi ⟨sx, sx1, eD⟩ ⟨T, x1, x2, rfl, nT, rfl, g1, g2⟩
              obtain ⟨q1, h1, rfl⟩ := Hw.map_get g1
              have g2 : ((qs.map V.ref).drop 1)[i]? = some x2 := g2
              rw [List.getElem?_drop] at g2
              obtain ⟨q2, h2, rfl⟩ := Hw.map_get g2
              obtain ⟨t1, k1, f1⟩ := Hw.paired_get hq h1
              obtain ⟨t2, k2, f2⟩ := Hw.paired_get hq h2
              refine ⟨T, [.ref q1, .ref q2], rfl, sqt_of upd_same, rfl, _, [.ref q2], rfl, _, [], rfl, rfl, rfl, r_yes ?_⟩
              have hz := zip_at k1 k2
              refine ⟨.ref q1, rfl, .ref q2, rfl, q1, q2, t1, t2, rfl, rfl, sqt_of ((same_upd nT) _ _ (sx _ _ f1)), sqt_of ((same_upd nT) _ _ (sx _ _ f2)), _, (same_upd nT) _ _ eD, smallM2 (by rw [List.length_map, List.length_map, List.length_take, List.length_zip]; omega), ?_, ?_, ?_⟩
              · intro b o e
                rw [upd_ne (ne_of_none (s1 _ _ e) hD)]
                exact (same_upd nT) _ _ (sx _ _ e)
              · intro b o e
                rw [upd_ne (ne_of_none e hD)]
                exact (same_upd nT) _ _ (sx1 _ _ e)
              · rw [upd_same, Hw.take_snoc hz, List.map_append, List.map_append]; rfl
            · rintro H' ⟨sx, sx1, eD⟩
              rw [walk_len] at eD
              refine ⟨D, _, rfl, sql_of eD, _, rfl, ?_⟩
              have e : ((ts.zip (ts.drop 1)).map fun p => ltT p.1 p.2).all id = ascB ts := by unfold ascB; rw [List.all_map]; rfl
              rw [e]
              have s02 := s2.trans sx
              cases h6 : ascB ts with
              | false =>
                rw [h6] at q
                show if true = true then _ else _
                rw [if_pos rfl]
                exact q H' s02
              | true =>
                rw [h6, Bool.true_and] at q
                show if false = true then _ else _
                rw [if_neg Bool.false_ne_true]
                refine rs_set ?_
                refine ⟨.int (ls.length : Nat), rfl, .ref tv, rfl, tv, ls.length, ts, qs, rfl, l2, fine, sx _ _ ev2, paired_mono (fun q t e => sx _ _ e) hq, fun Dn fa H4 s4 nl => ?_⟩
                have s04 := s02.trans s4
                have e14 := s04 _ _ e0
                have hnb := fine_nb fine
                have h0 : (0 : Int) ∈ nsI ls.length := mem_ns (i := 0) (by omega)
                clear eD sx sx1
                refine ⟨.int (ls.length : Nat), rfl, _, rfl, by omega, by omega, fun D2 nD2 => ?_⟩
                refine L2.lc_range (lo := 0) (fun i H' => Same H4 H' ∧ H' D2 = some (.lst (((List.range i).map fun i => decide (((nbr ts (i : Nat)).length : Int) ≤ ls.getD i 0)).map V.bl))) ⟨same_upd nD2, upd_same⟩ ?_ ?_
                · rintro i H' hi ⟨sx, eD2⟩
                  have hi' : i < ls.length := by omega
                  have hin : ((i : Nat) : Int) ∈ nsI ls.length := mem_ns hi'
                  have nlx := nl.keep sx
                  refine ⟨rfl, r_yes ?_⟩
                  refine ⟨.ref Dn, rfl, .int (0 + (i : Int)), rfl, Dn, .ref (fa i), rfl, ?_, fa i, _, rfl, .inl (sql_of (nlx.lst _ hin)), .ref t, rfl, .int (0 + (i : Int)), rfl, t, ls.map V.int, 0 + (i : Int), .int (ls.getD i 0), rfl, rfl, sqt_of (sx _ _ e14), ?_, _, _, rfl, rfl, ?_⟩
                  · rw [Int.zero_add]
                    exact nlx.get hin
                  · rw [Int.zero_add]
                    exact atI_nat (by rw [List.getElem?_map, List.getElem?_eq_getElem hi']; simp [List.getD, List.getElem?_eq_getElem hi'])
                  refine ⟨_, eD2, smallM2 (by rw [List.length_map, List.length_map, List.length_range]; omega), fun b o e => ?_, ?_⟩
                  · rw [upd_ne (ne_of_none e nD2)]; exact sx _ _ e
                  · rw [upd_same, List.range_succ, List.map_append, List.map_append, List.length_map]; rfl
                · rintro H5 ⟨s5, eD2⟩
                  rw [Int.toNat_natCast] at eD2
                  refine ⟨D2, _, rfl, sql_of eD2, _, rfl, ?_⟩
                  rw [List.all_map]
                  show if degB ls ts = true then _ else _
                  unfold treeT at q
                  cases h7 : degB ls ts with
                  | false =>
                    rw [h7, Bool.and_false] at q
                    show if false = true then _ else _
                    rw [if_neg Bool.false_ne_true]
                    exact q H5 (s04.trans s5)
                  | true =>
                    rw [h7, Bool.and_true] at q
                    show if true = true then _ else _
                    rw [if_pos rfl]
                    refine ⟨.ref Dn, rfl, Dn, 0, fa, nsI ls.length, ts, rfl, nl.keep s5, h0, by rw [ns_len]; omega, hnb, fun far fd' H6 hb hf s6 e6 n6 => ?_⟩
                    have efar : far = reachN ts ls.length 0 := hb.uniq (reach_bfs hnb h0 (by rw [ns_len]; exact Nat.le_refl _))
                    refine ⟨fd', encF far, rfl, e6, .int (ls.length : Nat), rfl, rfl, ?_⟩
                    have lf : (encF far).length = far.length := by unfold encF; rw [List.length_map]
                    rw [lf, efar]
                    have e9 : decide (V.int (((reachN ts ls.length 0).length : Nat) : Int) = V.int ((ls.length : Nat) : Int)) = decide ((reachN ts ls.length 0).length = ls.length) := by
                      by_cases h : (reachN ts ls.length 0).length = ls.length
                      · rw [h]; simp
                      · rw [decide_eq_false h, decide_eq_false]
                        intro e
                        injection e with e
                        exact h (by omega)
                    rw [e9]
                    exact q H6 ((s04.trans s5).trans s6)
          · have s1 : Same H2 (upd H2 b (.tup (cutV (qs.map V.ref) (some 1) none))) := same_upd nb
            have hb : SqT K (upd H2 b (.tup (cutV (qs.map V.ref) (some 1) none))) b ((qs.map V.ref).drop 1) := by
              rw [cut1]
              exact sqt_of upd_same
            generalize (upd H2 b (.tup (cutV (qs.map V.ref) (some 1) none))) = H1 at s1 hb ⊢
            refine ⟨tv, _, qs.map V.ref, (qs.map V.ref).drop 1, rfl, .inr ⟨sqT_same hp s1, hb, fun D hD => lc_it (walk_zipT rfl) (fun i H' => Same H2 H' ∧ Same H1 H' ∧ H' D = some (.lst ((((ts.zip (ts.drop 1)).take i).map fun p => ltT p.1 p.2).map V.bl))) ⟨s1.trans (same_upd hD), same_upd hD, upd_same⟩ (fun i H' _ h => ⟨sqT_same hp h.1, sqT_same hb h.2.1⟩) ?_ ?_⟩⟩
            · rintro i x H' H'' hi ⟨sx, sx1, eD⟩ ⟨T, x1, x2, rfl, nT, rfl, g1, g2⟩
              obtain ⟨q1, h1, rfl⟩ := Hw.map_get g1
              have g2 : ((qs.map V.ref).drop 1)[i]? = some x2 := g2
              rw [List.getElem?_drop] at g2
              obtain ⟨q2, h2, rfl⟩ := Hw.map_get g2
              obtain ⟨t1, k1, f1⟩ := Hw.paired_get hq h1
              obtain ⟨t2, k2, f2⟩ := Hw.paired_get hq h2
              refine ⟨T, [.ref q1, .ref q2], rfl, sqt_of upd_same, rfl, _, [.ref q2], rfl, _, [], rfl, rfl, rfl, r_yes ?_⟩
              have hz := zip_at k1 k2
              refine ⟨.ref q1, rfl, .ref q2, rfl, q1, q2, t1, t2, rfl, rfl, sqt_of ((same_upd nT) _ _ (sx _ _ f1)), sqt_of ((same_upd nT) _ _ (sx _ _ f2)), _, (same_upd nT) _ _ eD, smallM2 (by rw [List.length_map, List.length_map, List.length_take, List.length_zip]; omega), ?_, ?_, ?_⟩
              · intro b o e
                rw [upd_ne (ne_of_none (s1 _ _ e) hD)]
                exact (same_upd nT) _ _ (sx _ _ e)
              · intro b o e
                rw [upd_ne (ne_of_none e hD)]
                exact (same_upd nT) _ _ (sx1 _ _ e)
              · rw [upd_same, Hw.take_snoc hz, List.map_append, List.map_append]; rfl
            · rintro H' ⟨sx, sx1, eD⟩
              rw [walk_len] at eD
              refine ⟨D, _, rfl, sql_of eD, _, rfl, ?_⟩
              have e : ((ts.zip (ts.drop 1)).map fun p => ltT p.1 p.2).all id = ascB ts := by unfold ascB; rw [List.all_map]; rfl
              rw [e]
              have s02 := s2.trans sx
              cases h6 : ascB ts with
              | false =>
                rw [h6] at q
                show if true = true then _ else _
                rw [if_pos rfl]
                exact q H' s02
              | true =>
                rw [h6, Bool.true_and] at q
                show if false = true then _ else _
                rw [if_neg Bool.false_ne_true]
                refine rs_set ?_
                refine ⟨.int (ls.length : Nat), rfl, .ref tv, rfl, tv, ls.length, ts, qs, rfl, l2, fine, sx _ _ ev2, paired_mono (fun q t e => sx _ _ e) hq, fun Dn fa H4 s4 nl => ?_⟩
                have s04 := s02.trans s4
                have e14 := s04 _ _ e0
                have hnb := fine_nb fine
                have h0 : (0 : Int) ∈ nsI ls.length := mem_ns (i := 0) (by omega)
                clear eD sx sx1
                refine ⟨.int (ls.length : Nat), rfl, _, rfl, by omega, by omega, fun D2 nD2 => ?_⟩
                refine L2.lc_range (lo := 0) (fun i H' => Same H4 H' ∧ H' D2 = some (.lst (((List.range i).map fun i => decide (((nbr ts (i : Nat)).length : Int) ≤ ls.getD i 0)).map V.bl))) ⟨same_upd nD2, upd_same⟩ ?_ ?_
                · rintro i H' hi ⟨sx, eD2⟩
                  have hi' : i < ls.length := by omega
                  have hin : ((i : Nat) : Int) ∈ nsI ls.length := mem_ns hi'
                  have nlx := nl.keep sx
                  refine ⟨rfl, r_yes ?_⟩
                  refine ⟨.ref Dn, rfl, .int (0 + (i : Int)), rfl, Dn, .ref (fa i), rfl, ?_, fa i, _, rfl, .inl (sql_of (nlx.lst _ hin)), .ref t, rfl, .int (0 + (i : Int)), rfl, t, ls.map V.int, 0 + (i : Int), .int (ls.getD i 0), rfl, rfl, sqt_of (sx _ _ e14), ?_, _, _, rfl, rfl, ?_⟩
                  · rw [Int.zero_add]
                    exact nlx.get hin
                  · rw [Int.zero_add]
                    exact atI_nat (by rw [List.getElem?_map, List.getElem?_eq_getElem hi']; simp [List.getD, List.getElem?_eq_getElem hi'])
                  refine ⟨_, eD2, smallM2 (by rw [List.length_map, List.length_map, List.length_range]; omega), fun b o e => ?_, ?_⟩
                  · rw [upd_ne (ne_of_none e nD2)]; exact sx _ _ e
                  · rw [upd_same, List.range_succ, List.map_append, List.map_append, List.length_map]; rfl
                · rintro H5 ⟨s5, eD2⟩
                  rw [Int.toNat_natCast] at eD2
                  refine ⟨D2, _, rfl, sql_of eD2, _, rfl, ?_⟩
                  rw [List.all_map]
                  show if degB ls ts = true then _ else _
                  unfold treeT at q
                  cases h7 : degB ls ts with
                  | false =>
                    rw [h7, Bool.and_false] at q
                    show if false = true then _ else _
                    rw [if_neg Bool.false_ne_true]
                    exact q H5 (s04.trans s5)
                  | true =>
                    rw [h7, Bool.and_true] at q
                    show if true = true then _ else _
                    rw [if_pos rfl]
                    refine ⟨.ref Dn, rfl, Dn, 0, fa, nsI ls.length, ts, rfl, nl.keep s5, h0, by rw [ns_len]; omega, hnb, fun far fd' H6 hb hf s6 e6 n6 => ?_⟩
                    have efar : far = reachN ts ls.length 0 := hb.uniq (reach_bfs hnb h0 (by rw [ns_len]; exact Nat.le_refl _))
                    refine ⟨fd', encF far, rfl, e6, .int (ls.length : Nat), rfl, rfl, ?_⟩
                    have lf : (encF far).length = far.length := by unfold encF; rw [List.length_map]
                    rw [lf, efar]
                    have e9 : decide (V.int (((reachN ts ls.length 0).length : Nat) : Int) = V.int ((ls.length : Nat) : Int)) = decide ((reachN ts ls.length 0).length = ls.length) := by
                      by_cases h : (reachN ts ls.length 0).length = ls.length
                      · rw [h]; simp
                      · rw [decide_eq_false h, decide_eq_false]
                        intro e
                        injection e with e
                        exact h (by omega)
                    rw [e9]
                    exact q H6 ((s04.trans s5).trans s6)
      · rw [decide_eq_false h2] at q
        rw [decide_eq_false (show ¬ V.int ((ds.length : Nat) : Int) = V.int ((ls.length : Nat) - 1) from fun e => h2 (by injection e with e; omega))]
        show if true = true then _ else _
        rw [if_pos rfl]
        exact q H (Same.refl _)
end
end HI

set_option Elab.async false
set_option linter.all false
set_option maxRecDepth 100000
set_option maxHeartbeats 4000000
namespace Hw
open PySem PySem.Spec L2 PyProof PyProof.Rows HotX
/-! a pair as the target of a comprehension while an exception is handled -/
section
variable {prog : Program} {w : World} {A : Around} {E : Value → Shared → Prop} {s : Shared}
/-- a tuple's iterator ends while an exception is handled -/
theorem tuple_end_hot {it l x1 : Addr} {i : Nat} {items : Array Value} {Q : Option Value → Shared → Prop} (hot : HotAt A x1 s.heap) (hne : x1 ≠ it) (hit : IsTupIter s.heap it l i) (hl : IsTup s.heap l items) (hx : items[i]? = none)
    (hQ : ∀ h', (∀ b o, b ≠ it → s.heap.get? b = some o → h'.get? b = some o) → Q none { s with heap := h' }) : wpAny (model prog w) A (pyNext (.ref it)) Q E s := by
  obtain ⟨o, ho, hc, hd⟩ := id hit
  obtain ⟨ol, hol, _, nl, hdl⟩ := hl
  obtain ⟨hh, o1, vs1, h1, d1, c1⟩ := hot
  unfold pyNext
  refine wpAny_bind (wpAny_attempt (wpAny_callSpecial?_slot (name := Str.ofString "__next__") hit.typeIs slot_tupleiter_next
    (wpAny_call_entry slot_tupleiter_next hit.typeIs entry_tupleiter_next ?_ (args_tupleiter_next _))))
  show wpAny _ _ (field (.ref it) 0 >>= _) _ _ s
  refine wpAny_bind (wpAny_field ho hd (x := .ref l) rfl ?_)
  show wpAny _ _ (if (Value.ref l == Value.none) = true then _ else _) _ _ s
  rw [if_neg (show ¬ ((Value.ref l == Value.none) = true) from Bool.false_ne_true)]
  show wpAny _ _ (field (.ref it) 1 >>= _) _ _ s
  refine wpAny_bind (wpAny_field ho hd (x := .int i 0) rfl ?_)
  show wpAny _ _ (seqItems? (.ref l) >>= _) _ _ s
  refine wpAny_bind (wpAny_seqItems hol hdl ?_)
  simp only [Int.toNat_natCast, hx]
  refine wpAny_bind (wpAny_rule (wpAny_bind (wpAny_setField ho hd (by simp) ?_)))
  show wpAny _ _ (newExc (.type "StopIteration") [] >>= _) _ _ _
  refine wpAny_bind ?_
  simp only [newExc, newTuple]
  refine wpAny_bind (wpAny_newObj_type ?_ (by size_fits))
  refine wpAny_bind (m := firstArgMember _ _) (wpAny_of_eq (a := Value.none) (by first | rfl | (simp only [firstArgMember]; rfl)) ?_)
  refine wpAny_newObj_type ?_ (by size_fits)
  have hu := (Heap.get?_update_other s.heap (Obj.mapFields (·.setIfInBounds 0 Value.none)) (Ne.symm hne)).trans h1
  refine raiseNew_hot ⟨hh, o1, vs1, Heap.get?_push_of_some _ (Heap.get?_push_of_some _ hu), d1, c1⟩ (Nat.ne_of_lt (Heap.lt_size (Heap.get?_push_of_some _ hu))) (Heap.get?_push_size _ rfl) rfl (by first | (simp; done) | (simp; omega) | (simp only [Array.size_append]; simp; omega)) ?_
  refine wpAny_bind (wpAny_isInstance (T := "StopIteration") (b := true) ⟨_, Heap.get?_update_self _ (Heap.get?_push_size _ rfl) rfl, rfl⟩ isSubtype_stop ?_)
  refine wpAny_pure (hQ _ fun b o hb e => ?_)
  have eu := (Heap.get?_update_other s.heap (Obj.mapFields (·.setIfInBounds 0 Value.none)) (Ne.symm hb)).trans e
  rw [Heap.get?_update_other _ _ (Nat.ne_of_gt (Heap.lt_size (Heap.get?_push_of_some _ eu)))]
  exact Heap.get?_push_of_some _ (Heap.get?_push_of_some _ eu)
theorem hot_ext {A : Around} {x1 it : Addr} {h h' : Heap} (hot : HotAt A x1 h) (hne : x1 ≠ it) (k : ∀ b o, b ≠ it → h.get? b = some o → h'.get? b = some o) : HotAt A x1 h' := by
  obtain ⟨hh, o, vs, e, d, c⟩ := hot
  exact ⟨hh, o, vs, k _ _ hne e, d, c⟩
theorem unpackItems_tupleW {x1 t : Addr} {items : Array Value} {Q : List Value → Shared → Prop} (hot : HotAt A x1 s.heap) (ht : IsTup s.heap t items)
    (hQ : ∀ h', Heap.ExtBut s.heap.objs.size s.heap h' → Q items.toList { s with heap := h' }) : wpAny (model prog w) A (unpackItems (.ref t) items.size none) Q E s := by
  have hlt : t ≠ s.heap.objs.size := by obtain ⟨o, ho, _⟩ := ht; exact Nat.ne_of_lt (Heap.lt_size ho)
  have hx1 : x1 ≠ s.heap.objs.size := by obtain ⟨_, o, _, ho, _⟩ := hot; exact Nat.ne_of_lt (Heap.lt_size ho)
  unfold unpackItems
  refine wpAny_bind ?_
  · unfold notIterableAtAll
    refine wpAny_bind (wpAny_specialOf ht.typeIs slot_tuple_iter.lookup ?_)
    refine wpAny_pure ?_
    simp only [Bool.false_eq_true, if_false]
    refine wpAny_bind (wpAny_holding (iter_tuple ht ?_))
    refine wpAny_bind (wpAny_holding (draw_tuple hlt items.size 0 _ _ ⟨_, Heap.get?_push_size _ rfl, rfl, rfl⟩ (ht.push _) (by omega) fun h₁ hit₁ hs₁ => ?_))
    have hall : List.take items.size (List.drop 0 items.toList) = items.toList := by
      rw [List.drop_zero]; exact List.take_of_length_le (by simp)
    rw [hall]
    rw [if_neg (by simp)]
    have ht₁ : IsTup h₁ t items := (ht.push _).extBut hs₁.extBut hlt
    have hot₁ : HotAt A x1 h₁ := hot_ext hot hx1 fun b o hb e => hs₁.extBut b o hb (Heap.get?_push_of_some _ e)
    refine wpAny_bind (wpAny_holding (tuple_end_hot hot₁ hx1 hit₁ ht₁ (by simp) fun h₂ he₂ => ?_))
    simp only [Option.isSome_none, Bool.false_eq_true, if_false]
    refine wpAny_pure (hQ h₂ fun b o hb e => he₂ b o hb (hs₁.extBut b o hb (Heap.get?_push_of_some _ e)))
theorem assign_Tuple_tupleW {x1 : Addr} {env : Env} {elts : List Expr} {k1} {pos : Pos} {t : Addr} {items : Array Value} {Q : Unit → Shared → Prop} (hot : HotAt A x1 s.heap) (ht : IsTup s.heap t items)
    (hn : (assignEach elts env).length = items.size) (hstar : (assignEach elts env).findIdx? (·.1) = none)
    (h : ∀ h', Heap.ExtBut s.heap.objs.size s.heap h' → wpAny (model prog w) A (assignInOrder ((assignEach elts env).map (·.2)) items.toList) Q E { s with heap := h' }) :
    wpAny (model prog w) A (assign (.Tuple elts k1 pos) env (.ref t)) Q E s := by
  rw [assign_Tuple]
  refine wpAny_bind (wpAny_standAt ?_)
  unfold unpack
  rw [hn, hstar]
  exact wpAny_bind (wpAny_holding (unpackItems_tupleW hot ht h))
end
/-- a target, where the handled exception is among the pins -/
structure PGW (X : Cx) (p : Addr × Obj) (tg : Expr) (g : TG) : Prop where
  run : ∀ (pins : List (Addr × Obj)) (s : Shared) (σ : L2.St) (H : Hp) (v : V) (u : Value) (Q : L2.St → Hp → Prop), p ∈ pins → Inv X pins σ H s → RelV v u → g v σ H Q → wpAny (model X.prog X.w) X.A (assign tg X.env u) (fun _ s' => ∃ σ' H', Inv X pins σ' H' s' ∧ Q σ' H') X.xe s
theorem PGW.of {X : Cx} {p : Addr × Obj} {tg : Expr} {g : TG} (h : PG X tg g) : PGW X p tg g := ⟨fun pins s σ H v u Q _ I r hg => h.run pins s σ H v u Q I r hg⟩
theorem pg_tupW {X : Cx} {p : Addr × Obj} {es : List Expr} {k : Nat} {t : TGs} {n : Nat} {pos : Pos} (hot : L2H.Hot1 X.A p) (h : PGs X es t)
    (hn : (assignEach es X.env).length = n := by rfl) (hst : (assignEach es X.env).findIdx? (·.1) = none := by rfl) : PGW X p (.Tuple es k pos) (gTup X.K n t) := by
  refine ⟨fun pins s σ H v u Q hp I r hw => ?_⟩
  obtain ⟨a, xs, e1, hq, hl, hw⟩ := hw
  subst e1
  cases r
  obtain ⟨its, rv, ht, hz⟩ := I.tuple hq
  have ha : HotAt X.A p.1 s.heap := by
    obtain ⟨hh, vs, d, c⟩ := hot
    exact ⟨hh, p.2, vs, (I.pin p (List.mem_append_right _ hp)).1, d, c⟩
  refine assign_Tuple_tupleW ha ht (by simp [hn, ← hl, rv.length]) hst fun h' hx => ?_
  have I1 : Inv X pins σ H { s with heap := h' } := I.kept (t' := s.toks) fun b o e => hx b o (Nat.ne_of_lt (Heap.lt_size e)) e
  exact h.run pins _ σ H xs _ Q I1 (by simpa using rv) hw
/-- as tLc, the new list being no module table -/
def tLcB (wi : TI) (g : TG) (tt : TT) (te : TE) (vs : List Nat) : TE := fun σ H Q => tLc wi g tt te vs σ H fun x H' => x ≠ .ref sysModules → Q x H'
def tLstB (t : TA) : TE := fun σ H Q => t σ H fun xs H1 => xs.length ≤ sizeLine ∧ ∀ p, H1 p = none → p ≠ sysModules → Q (.ref p) (upd H1 p (.lst xs))
section
variable {X : Cx}
theorem pe_lstB {es : List Expr} {t : TA} {pos : Pos} (h : PA X es t) : PE X (.List es pos) (tLstB t) := by
  refine ⟨fun pins s σ H Q I hq => ?_⟩
  refine wpAny_List_spliced (thn (h.run pos pins s σ H _ I hq) fun us s1 ⟨xs, H1, I1, r, z, q⟩ => ⟨by rw [← r.length]; exact z, ?_⟩)
  have hf : H1 s1.heap.objs.size = none := I1.hok.fresh (Nat.le_refl _)
  refine ⟨.ref s1.heap.objs.size, upd H1 s1.heap.objs.size (.lst xs), I1.laid (t' := s1.toks) (fun b u e => Heap.get?_push_of_some _ e) (Nat.le_refl _) ?_, rfl, q _ hf (Nat.ne_of_gt I1.big)⟩
  exact ⟨z, us, 0, r, Heap.get?_push_size _ rfl⟩
/-- repr of None or of ([a text], data) -/
def rReprP : List V → Hp → VK → Prop := fun xs H Q => ∃ x : V, xs = [x] ∧ ((x = .non ∧ Q (.str PyData.none.shown) H) ∨ ∃ (tp l : Addr) (v : V) (a : Addr) (d : PyData) (z : Str), x = .ref tp ∧ H tp = some (.tup [.ref l, v]) ∧ H l = some (.lst [.str z]) ∧ l ≠ sysModules ∧ Dx a H v d ∧ fineD d = true ∧
  (PyData.tuple [.list [.str z], d]).showable = true ∧ (PyData.tuple [.list [.str z], d]).depth ≤ 60 ∧ (PyData.tuple [.list [.str z], d]).shown.length ≤ 2000 ∧ Q (.str (PyData.tuple [.list [.str z], d]).shown) H)
theorem dx_reads {pins : List (Addr × Obj)} {σ : L2.St} {H : Hp} {s : Shared} {a : Addr} {v : V} {d : PyData} {u : Value} (I : Inv X pins σ H s) (x : Dx a H v d) (hf : fineD d = true) (r : RelV v u) : ∃ as, Reads s.heap u d as ∧ (d.hasDict = true → sysModules ∉ as) := by
  unfold fineD at hf
  simp only [Bool.and_eq_true] at hf
  obtain ⟨_, _, _, hf⟩ := hf
  by_cases hdict : ∃ ds, d = .dict ds
  · obtain ⟨ds, rfl⟩ := hdict
    cases x with
    | flat e => cases v <;> cases e
    | @dct p kvs _ h1 h2 h3 h4 =>
      cases r
      obtain ⟨hl, hsys, vs, kv, o, es, ep, ho, hex, hdat, _, hpr, _⟩ := dk_of I.hok h1
      obtain ⟨r1, r2⟩ := dict_reads (h := s.heap) h4 kv hpr
      refine ⟨_, .dict ho hex.1 hdat r1 r2, fun _ hm => ?_⟩
      have e : sysModules = p := by simpa using hm
      rw [← e] at hsys
      simp at hsys
  · have hf' : (!d.hasDict && (SeqAt.shaped d && PyData.eqv d d)) = true := by
      revert hf
      cases d with
      | dict ds => exact absurd ⟨ds, rfl⟩ hdict
      | _ => exact fun z => z
    simp only [Bool.and_eq_true, Bool.not_eq_true'] at hf'
    obtain ⟨as, r1⟩ := Dp.reads I d v u (Dx.dp X.K _ d hf'.1 x) r
    exact ⟨as, r1, fun z => by rw [hf'.1] at z; cases z⟩
theorem call_reprP (hg : X.A.guards = some []) (hu : X.A.units + 100 < cLine) : CallR X (.builtin "repr") rReprP := by
  intro pins s σ H xs us Q I r h
  obtain ⟨x, rfl, h⟩ := h
  obtain ⟨u, rfl, ru⟩ : ∃ u, us = [u] ∧ RelV x u := by
    cases r with
    | cons a t => cases t; exact ⟨_, rfl, a⟩
  have fin : ∀ (z : Str), Q (.str z) H → ∀ h' (tk : Tok) (tk' : Nat), (∀ b o, s.heap.get? b = some o → h'.get? b = some o) → EP X pins σ Q (.str z tk) { s with heap := h', toks := tk' } := fun z q h' tk tk' k => ⟨.str z, H, I.kept (t' := tk') k, ⟨tk, rfl⟩, q⟩
  rcases h with ⟨rfl, q⟩ | ⟨tp, l, v, a, d, z, rfl, e1, e2, nl, xd, hf, hs, hdp, hz, q⟩
  · cases ru
    exact P.repr_of_none (fin _ q s.heap _ _ fun _ _ e => e)
  · cases ru
    obtain ⟨its, rv, p, _⟩ := I.tuple (sqt_of (K := X.K) e1)
    obtain ⟨itl, rl, pl, _⟩ := I.list (sql_of (K := X.K) e2)
    cases rv with
    | cons r1 rr =>
      cases rr with
      | cons r2 rr =>
        cases rr
        cases r1
        cases rl with
        | cons r3 rr =>
          cases rr
          obtain ⟨t3, rfl⟩ := r3
          obtain ⟨as, rd, hm⟩ := dx_reads I xd hf r2
          obtain ⟨o, ho, hc, n, hd⟩ := p
          obtain ⟨ol, hol, hcl, nl', hdl⟩ := pl.isList
          have R1 : Reads s.heap (.ref l) (.list [.str z]) [l] := .list (as := []) hol hcl hdl (ReadsAll.cons (.str z t3) .nil : ReadsAll s.heap _ _ ([] ++ []))
          have R2 : Reads s.heap (.ref tp) (.tuple [.list [.str z], d]) ([l] ++ (as ++ [])) := .tuple ho hc hd (ReadsAll.cons R1 (ReadsAll.cons rd .nil))
          refine repr_of_reads' (h₀ := s.heap) R2 hs (fun hd' hm' => ?_) hg (by omega) (fun _ _ e => e) (fun h' u tk k => fin _ q h' u tk k) (Nat.le_trans hz (by decide))
          have hdd : d.hasDict = true := by simpa [PyData.hasDict, PyData.hasDictAll] using hd'
          rcases List.mem_append.mp hm' with z | z
          · exact nl (List.mem_singleton.mp z).symm
          · rw [List.append_nil] at z
            exact hm hdd z
theorem lc_coreW2 {pins : List (Addr × Obj)} {s : Shared} {σ : L2.St} {H : Hp} {Q : VK} {elt tg iter : Expr} {ifs : List Expr} {scope : Scope} {own : List (Str × Nat)} {pos pos' : Pos} {wi : TI} {g : TG} {tt : TT} {te : TE} {use : Option (Value → Sem Unit)} {Qf : Value → Shared → Prop}
    (hc : L2H.HotC X) (hN : X.N.Nodup) (I : Inv X pins σ H s) (hi : PIW X tg iter wi) (ok : BlkOk X.N X.env.scope scope own)
    (hg : ∀ (p : Addr × Obj), L2H.Hot1 X.A p → ∀ (s : Shared) (H : Hp) (C : Addr) (cl : List (Str × Addr)) (fp : List Addr), PGW (X.blk s H scope (compEnvC scope cl C X.env) fp) p tg g) (ht : ∀ (s : Shared) (H : Hp) (C : Addr) (cl : List (Str × Addr)) (fp : List Addr), PTs (X.blk s H scope (compEnvC scope cl C X.env) fp) ifs tt)
    (he : ∀ (s : Shared) (H : Hp) (C : Addr) (cl : List (Str × Addr)) (fp : List Addr), PE (X.blk s H scope (compEnvC scope cl C X.env) fp) elt te) (hs : ∀ x, foldedSetIterable iter X.env x = pure x)
    (h : tLc wi g tt te (own.map (·.2)) σ H Q)
    (hRR : ∀ D C s' m H', Inv X pins σ H' s' → Q (.ref D) H' → D ≠ sysModules → s'.heap.Ns C m → FpOk X pins H' C → compPost (model X.prog X.w) X.A X.xe use Qf (.ref D) C (.ok .next) s') :
    wpAny (model X.prog X.w) X.A (comprehension (.ListComp elt [⟨tg, iter, ifs, 0⟩] scope pos) scope X.env pos' (newList []) false (eval iter X.env) use) Qf X.xe s := by
  have hfree : ∀ y ∈ scope.names, y.2 = .free → ∃ c, X.env.cells.lookup y.1 = some c := fun y hy e => by
    rcases ok.free y hy e with k | k
    · exact I.ok.has _ (.inl k)
    · exact I.ok.has _ (.inr k)
  refine wpAny_comprehension_free (use := use) rfl hs (closure_ok hfree) ok.kind (fun y hy e => by rw [ok.uniq y hy, e])
    (thn (hi.run pins s σ H _ I h) fun xv s1 hx => thn hx fun itv s2 h2 => ?_)
  obtain ⟨it, fp, tn, J, H2, e, I2, T, st2, f2, q⟩ := h2
  subst e
  refine wpAny_newObj_type (newEnv_comp ?_) (by show 0 ≤ sizeLine; decide)
  generalize hD : s2.heap.objs.size = D
  have hDn : H2 D = none := I2.hok.fresh (Nat.le_of_eq hD)
  obtain ⟨W, ⟨m0, w0⟩, turn⟩ := q D hDn
  -- the new list
  generalize hs3 : ({ s2 with heap := s2.heap.push { cls := .type "list", data := .seq ([] : List Value).toArray } } : Shared) = s3
  have I3 : Inv X pins σ (upd H2 D (.lst [])) s3 := by
    rw [← hs3]
    refine I2.laid (t' := s2.toks) (fun b o e => Heap.get?_push_of_some _ e) (Nat.le_of_eq hD) ⟨Nat.zero_le _, [], 0, .nil, ?_⟩
    rw [← hD]
    exact Heap.get?_push_size _ rfl
  have h3 : s3.heap = s2.heap.push { cls := .type "list", data := .seq ([] : List Value).toArray } := by rw [← hs3]
  have sz : ∀ b ∈ fp, b < s2.heap.objs.size := fun b hb => by
    obtain ⟨o, e, _⟩ := T.obj _ _ st2 b hb
    exact Heap.lt_size e
  have f3 : ∀ b ∈ fp, FpOk X pins (upd H2 D (.lst [])) b ∧ b < s3.heap.objs.size := fun b hb => by
    have hlt := sz b hb
    refine ⟨⟨?_, (f2 b hb).2⟩, by rw [h3, Heap.size_push]; exact Nat.lt_succ_of_lt hlt⟩
    rw [upd_ne (by rw [← hD]; exact Nat.ne_of_lt hlt)]
    exact (f2 b hb).1
  have st3 : tn 0 s3.heap := T.keep _ _ _ st2 fun b _ o e => by rw [h3]; exact Heap.get?_push_of_some _ e
  have I4 := block_start I3 ok hN f3
  obtain ⟨p, hot1, hp⟩ := hc
  have pg := hg p hot1 s3 (upd H2 D (.lst [])) s3.heap.objs.size (cellsFrom (s3.heap.objs.size + 1) scope.names (cloFrom X.env.cells scope.names [])) fp
  have pt := ht s3 (upd H2 D (.lst [])) s3.heap.objs.size (cellsFrom (s3.heap.objs.size + 1) scope.names (cloFrom X.env.cells scope.names [])) fp
  have pe := he s3 (upd H2 D (.lst [])) s3.heap.objs.size (cellsFrom (s3.heap.objs.size + 1) scope.names (cloFrom X.env.cells scope.names [])) fp
  show codeAny _ _ (.compStart (.ListComp elt [⟨tg, iter, ifs, 0⟩] scope pos) 0 (.ref it) (.ref D) (compEnvC scope (cellsFrom (s3.heap.objs.size + 1) scope.names (cloFrom X.env.cells scope.names [])) s3.heap.objs.size X.env)) (compPost (model X.prog X.w) X.A X.xe use Qf (.ref D) s3.heap.objs.size) { s3 with heap := pushCells (s3.heap.push { cls := .type "dict", data := .dict #[] }) scope.names }
  have nfp : ∀ b ∈ fp, (upd H2 D (.lst [])) b = none := fun b hb => (f3 b hb).1.1
  generalize hce : compEnvC scope (cellsFrom (s3.heap.objs.size + 1) scope.names (cloFrom X.env.cells scope.names [])) s3.heap.objs.size X.env = ce at I4 pg pt pe ⊢
  have cL : ce.locals = s3.heap.objs.size := by subst hce; rfl
  generalize hH3 : upd H2 D (.lst []) = H3 at I3 I4 pg pt pe w0 nfp f3
  generalize hs4 : ({ s3 with heap := pushCells (s3.heap.push { cls := .type "dict", data := .dict #[] }) scope.names } : Shared) = s4 at I4 ⊢
  have I4 : Inv (X.blk s3 H3 scope ce fp) [p] (wipe σ (own.map (·.2))) H3 s4 := I4.pins_of fun q hq => by
    have eq : q = p := List.mem_singleton.mp hq
    subst eq
    obtain ⟨g, n, nl, nf, nc⟩ := I3.pin q (List.mem_append_left _ hp)
    refine ⟨by rw [← hs4]; exact pushCells_keeps _ _ _ _ (Heap.get?_push_of_some _ g), n, fun z => ?_, fun z => ?_, nc⟩
    · have lt := Heap.lt_size g
      rw [z] at lt
      exact absurd (show ce.locals < s3.heap.objs.size from lt) (by rw [cL]; exact Nat.lt_irrefl _)
    · rcases List.mem_cons.mp (I3.stkSub _ z) with z | z
      · exact nl z
      · exact nf z
  have hot : ∀ {σ' : L2.St} {H' : Hp} {s' : Shared}, Inv (X.blk s3 H3 scope ce fp) [p] σ' H' s' → HotAt X.A p.1 s'.heap := fun {σ' H' s'} I' => by
    obtain ⟨hh, vs, d, c⟩ := hot1
    exact ⟨hh, p.2, vs, (I'.pin p (by simp)).1, d, c⟩
  have st4 : tn 0 s4.heap := T.keep _ _ _ st3 fun b _ o e => by rw [← hs4]; exact pushCells_keeps _ _ _ _ (Heap.get?_push_of_some _ e)
  have stat : ∀ {σ' : L2.St} {H' : Hp} {s' : Shared}, Inv (X.blk s3 H3 scope ce fp) [p] σ' H' s' → (∀ b ∈ fp, H' b = none) → ∀ b ∈ fp, FpOk (X.blk s3 H3 scope ce fp) [p] H' b := fun {σ' H' s'} I' hn b hb =>
    ⟨hn b hb, (I'.ok.exf b hb).1, I'.ok.exfs b hb, .inl hb, fun x c e => (I'.ok.exf b hb).2 x c e, fun q hq => by
      have e : q = p := List.mem_singleton.mp hq
      rw [e]
      exact (f3 b hb).1.2.2.2.2.2 p (List.mem_append_left _ hp)⟩
  have loop : codeAny (model X.prog X.w) X.A (.compLoop (.ListComp elt [⟨tg, iter, ifs, 0⟩] scope pos) 0 (.ref it) (.ref D) ce) (compPost (model X.prog X.w) X.A X.xe use Qf (.ref D) s3.heap.objs.size) s4 := by
    refine compLoop_any (fun n s' => ∃ i H', Inv (X.blk s3 H3 scope ce fp) [p] (wipe σ (own.map (·.2))) H' s' ∧ tn i s'.heap ∧ (∀ b ∈ fp, H' b = none) ∧ W i n H') ?_ m0 ⟨0, H3, I4, st4, nfp, w0⟩
    rintro n s5 ⟨i, H5, I5, st5, n5, w5⟩
    rcases turn i n H5 w5 with ⟨stop, qq⟩ | ⟨go, Nx, hNx, step⟩
    · have td := T.done (X.blk s3 H3 scope ce fp) rfl rfl rfl p.1 i [p] s5 _ H5 (fun _ _ => False) I5 (hot I5) (fun b hb => (f3 b hb).1.2.2.2.2.2 p (List.mem_append_left _ hp)) (stat I5 n5) st5 stop
      refine thnF td fun r s6 ⟨hr, I6⟩ => ?_
      subst hr
      -- back in the def's context
      have I7 : Inv X pins σ H5 s6 := I3.call' (ch := fp) I6.os I6.base I6.hok I6.bare fun b hb => ⟨(f3 b hb).1.2.2.2.1, (f3 b hb).1.2.1, (f3 b hb).1.2.2.2.2.1, (f3 b hb).1.2.2.2.2.2⟩
      have nC : H5 s3.heap.objs.size = none := by
        have z : H5 ce.locals = none := I6.free
        rw [cL] at z
        exact z
      obtain ⟨m, hn, _⟩ := I6.loc
      have hn : s6.heap.Ns ce.locals m := hn
      rw [cL] at hn
      exact hRR D s3.heap.objs.size s6 m H5 I7 qq (by rw [← hD]; exact Nat.ne_of_gt I2.big) hn (I3.fpOk (Nat.le_refl _) nC)
    · have ti := T.item (X.blk s3 H3 scope ce fp) rfl rfl rfl i [p] s5 _ H5 (fun _ _ => False) I5 (stat I5 n5) st5 go
      refine thnF ti fun r s6 ⟨u, hr, h6⟩ => ?_
      subst hr
      refine thnF h6 fun _ s7 ⟨x, H7, I7, r7, y7, st7, n7⟩ => ?_
      have I7' := I7.pinned (stat I7 n7) (T.obj _ _ st7)
      refine thnF (pg.run _ s7 _ H7 x u _ (by simp) I7' r7 (step x H7 y7)) fun _ s8 ⟨σ8, H8, I8, hw8, q8⟩ => ?_
      refine thnF (pt.run _ s8 σ8 H8 _ I8 q8) fun b s9 ⟨H9, I9, q9⟩ => ?_
      -- the turn's end
      have fin : ∀ {s' : Shared} {H' : Hp}, Inv (X.blk s3 H3 scope ce fp) ([p] ++ pinsAt fp s7.heap) σ8 H' s' → Nx H' → ∃ m, m < n ∧ ∃ i H', Inv (X.blk s3 H3 scope ce fp) [p] (wipe σ (own.map (·.2))) H' s' ∧ tn i s'.heap ∧ (∀ b ∈ fp, H' b = none) ∧ W i m H' := fun {s' H'} I' nx => by
        obtain ⟨m', hm, w'⟩ := hNx H' nx
        have pin' : ∀ b ∈ fp, ∀ o, s7.heap.get? b = some o → s'.heap.get? b = some o ∧ H' b = none := fun b hb o e =>
          let z := I'.pin (b, o) (List.mem_append_right _ (List.mem_append_right _ (mem_pinsAt hb e)))
          ⟨z.1, z.2.1⟩
        have hl : (wipe σ (own.map (·.2))).length = σ8.length := by rw [← hw8, wipe_length]
        refine ⟨m', hm, i + 1, H', (I'.unpinned (pins := [p])).weak hl (fun j v e => ?_), T.keep _ _ _ st7 fun b hb o e => (pin' b hb o e).1, fun b hb => ?_, w'⟩
        · rw [← hw8] at e
          exact (wipe_some e).1
        · obtain ⟨o, e, _⟩ := T.obj _ _ st7 b hb
          exact (pin' b hb o e).2
      cases b with
      | false =>
        simp only [Bool.false_eq_true, if_false] at q9 ⊢
        exact fin I9 q9
      | true =>
        simp only [if_true] at q9 ⊢
        refine thnF (pe.run _ s9 σ8 H9 _ I9 q9) fun z s10 ⟨yv, H10, I10, r10, acc, hD10, hz10, nx⟩ => ?_
        exact app_ok (X := X.blk s3 H3 scope ce fp) I10 hD10 hz10 r10 fun s11 I11 => fin I11 nx
  exact codeAny_compStart_list loop (T.self X.A 0 _ _ _ st4 loop)
theorem pe_lcW2 {elt tg iter : Expr} {ifs : List Expr} {scope : Scope} {own : List (Str × Nat)} {pos : Pos} {wi : TI} {g : TG} {tt : TT} {te : TE} (hc : L2H.HotC X) (hN : X.N.Nodup) (hi : PIW X tg iter wi) (ok : BlkOk X.N X.env.scope scope own)
    (hg : ∀ (p : Addr × Obj), L2H.Hot1 X.A p → ∀ (s : Shared) (H : Hp) (C : Addr) (cl : List (Str × Addr)) (fp : List Addr), PGW (X.blk s H scope (compEnvC scope cl C X.env) fp) p tg g) (ht : ∀ (s : Shared) (H : Hp) (C : Addr) (cl : List (Str × Addr)) (fp : List Addr), PTs (X.blk s H scope (compEnvC scope cl C X.env) fp) ifs tt)
    (he : ∀ (s : Shared) (H : Hp) (C : Addr) (cl : List (Str × Addr)) (fp : List Addr), PE (X.blk s H scope (compEnvC scope cl C X.env) fp) elt te) (hs : ∀ x, foldedSetIterable iter X.env x = pure x := by intro _; rfl) :
    PE X (.ListComp elt [⟨tg, iter, ifs, 0⟩] scope pos) (tLcB wi g tt te (own.map (·.2))) := by
  refine ⟨fun pins s σ H Q I h => ?_⟩
  rw [eval_ListComp]
  refine lc_coreW2 hc hN I hi ok hg ht he hs h fun D C s' m H' I' q nD hn f => ⟨m, hn, fun h'' sb => ?_⟩
  obtain ⟨f0, f1, f2, f3, f4, f5⟩ := f
  exact ⟨.ref D, H', I'.turned (t' := s'.toks) (fun b o hb e => (sb.2 b hb).trans e) f0 f1 f3 f4 f5, rfl, q (fun e => nD (V.ref.inj e))⟩
end
end Hw

set_option Elab.async false
set_option linter.all false
set_option maxRecDepth 100000
set_option maxHeartbeats 4000000
namespace HI
open PySem PySem.Spec L2 PyProof PyProof.Rows Hw
abbrev sCaught : Stmt := topS 41
abbrev nCa : List Str := ["call", "error", "words", "word", "is_so"]
def wordC : Nat → Str
  | 0 => "limits"
  | 1 => "nottree"
  | 2 => "notree"
  | _ => "number"
/-- the classes of the four errors -/
structure Cls4 (K : PySem.W.Frag) (CS : Addr) (c : Nat → Addr) : Prop where
  ct : ∀ i, i < 4 → ∀ dd, Caught K CS (.ref (c i)) (some dd) (c i) dd
  kit : ∀ i j, i < 4 → j < 4 → PySem.W.kitOne K (.ref (c i)) (.ref (c j)) = some (decide (i = j))
def spCaught4 (P : Program) (w : World) (K : PySem.W.Frag) (mg : Str → Option Value) (base : Heap) (k : Nat) (CS : Addr) (c : Nat → Addr) : SpL := fun fs h vs H Q _ =>
  ∃ (a : Addr) (G : Hp → Prop) (tl : XK → Hp → VK → Prop), vs = [.ref a] ∧ Act (L2N.CX P w) P w K mg base k a fs H h G tl ∧ G H ∧
    tl (fun cls d H1 => ∃ (i : Nat) (dd : Addr) (v : V), i < 4 ∧ cls = .ref (c i) ∧ d = some dd ∧ H1 dd = some (.xd [("value", v)]) ∧
        ∀ H' tp l, Same H1 H' → H' tp = some (.tup [.ref l, v]) → H' l = some (.lst [.str (wordC i)]) → l ≠ sysModules → Q (.ref tp) H') H
      (fun _ H1 => ∀ H', Same H1 H' → Q .non H')
theorem scCaught : FnScope nCa ["call"] (defScope sCaught) := ⟨rfl, rfl, rfl, by decide +kernel, rfl, by decide +kernel, by decide +kernel⟩
/-- the suite -/
def CaughtP (c : Nat → Addr) (x : Addr) (cls : Value) (d : Option Addr) (D : Ends) (σ : L2.St) (H1 : Hp) : Prop :=
  ∃ (o0 o2 o3 o4 : Option V) (i : Nat) (dd : Addr) (v : V), i < 4 ∧ cls = .ref (c i) ∧ d = some dd ∧ σ = [o0, some (.ref x), o2, o3, o4] ∧ H1 dd = some (.xd [("value", v)]) ∧
    ∀ H' tp l, Same H1 H' → H' tp = some (.tup [.ref l, v]) → H' l = some (.lst [.str (wordC i)]) → l ≠ sysModules → D.rt (.ref tp) H'
theorem ok_caught {P : Program} {w : World} {K : PySem.W.Frag} {mg : Str → Option Value} {base : Heap} {f : Addr} {fd : FuncData} {k : Nat} {CS : Addr} {c : Nat → Addr} (F : L2.Fun K "_law_caught" "_law_caught" sCaught f fd) (bi : mg "isinstance" = none) (C4 : Cls4 K CS c)
    (me : mg "HealError" = some (.ref CS)) (m0 : mg "BadLimits" = some (.ref (c 0))) (m1 : mg "NotTree" = some (.ref (c 1))) (m2 : mg "NoTree" = some (.ref (c 2))) (m3 : mg "BadNumber" = some (.ref (c 3))) :
    FnGL P w K mg base CX0 (k + 2) f fd ["call"] (spCaught4 P w K mg base k CS c) := by
  refine funGL F scCaught (fun fs h vs H Q E hh => ?_) (fun cdv A outer s H vs Q E hr hh => ?_)
  · obtain ⟨_, _, _, rfl, _⟩ := hh
    rfl
  · obtain ⟨a, G, tl, rfl, ac, hg, ht⟩ := hh
    have va : (defScope sCaught).names.lookup ("call" : Str) = some .local := by decide +kernel
    have vc : (defScope sCaught).names.lookup ("error" : Str) = some .local := by decide +kernel
    have vw : (defScope sCaught).names.lookup ("words" : Str) = some .local := by decide +kernel
    have ge : (defScope sCaught).names.lookup ("HealError" : Str) = some .globalImplicit := by decide +kernel
    have gi : (defScope sCaught).names.lookup ("isinstance" : Str) = some .globalImplicit := by decide +kernel
    have g0 : (defScope sCaught).names.lookup ("BadLimits" : Str) = some .globalImplicit := by decide +kernel
    have g1 : (defScope sCaught).names.lookup ("NotTree" : Str) = some .globalImplicit := by decide +kernel
    have g2 : (defScope sCaught).names.lookup ("NoTree" : Str) = some .globalImplicit := by decide +kernel
    have g3 : (defScope sCaught).names.lookup ("BadNumber" : Str) = some .globalImplicit := by decide +kernel
    refine ⟨_, pss_cons (ps_heardN (X := (cxOf CX0 P w K mg base nCa "_law_caught" (defScope sCaught) f cdv A outer s H E).nox) (i := 1) (j := 0) (c := .ref CS) (Wout := fun _ _ _ _ => False) (ts := CaughtP c)
        rfl rfl rfl scCaught.nd rfl vc ⟨ge, by decide, .inl me⟩ takes0N ac hr.r rfl (.inl va) (fun x oe cls d pn hz hf => ?_) (by decide) (by decide))
      (pss_one (ps_ret pe_non)), ?_⟩
    · refine ⟨fun pins s' σ H1 D I h => ?_⟩
      obtain ⟨o0, o2, o3, o4, i, dd, v, hi, rfl, rfl, rfl, hdd, q⟩ := h
      have ct := C4.ct i hi dd
      have hX : ∃ X : Cx, X = (cxOf CX0 P w K mg base nCa "_law_caught" (defScope sCaught) f cdv A outer s H E).nox := ⟨_, rfl⟩
      have is0 := fun (r1 r2 r3 r4 : Pos) => pe_isD (X := (cxOf CX0 P w K mg base nCa "_law_caught" (defScope sCaught) f cdv A outer s H E).nox) (a := x) (pn := pn) (i := 1) (p1 := r1) (p2 := r2) (p3 := r3) (p4 := r4) ct.isC hz.zc hf gi bi rfl (.inl vc) g0 m0 (by decide) (by decide) (by decide)
      have is1 := fun (r1 r2 r3 r4 : Pos) => pe_isD (X := (cxOf CX0 P w K mg base nCa "_law_caught" (defScope sCaught) f cdv A outer s H E).nox) (a := x) (pn := pn) (i := 1) (p1 := r1) (p2 := r2) (p3 := r3) (p4 := r4) ct.isC hz.zc hf gi bi rfl (.inl vc) g1 m1 (by decide) (by decide) (by decide)
      have is2 := fun (r1 r2 r3 r4 : Pos) => pe_isD (X := (cxOf CX0 P w K mg base nCa "_law_caught" (defScope sCaught) f cdv A outer s H E).nox) (a := x) (pn := pn) (i := 1) (p1 := r1) (p2 := r2) (p3 := r3) (p4 := r4) ct.isC hz.zc hf gi bi rfl (.inl vc) g2 m2 (by decide) (by decide) (by decide)
      have is3 := fun (r1 r2 r3 r4 : Pos) => pe_isD (X := (cxOf CX0 P w K mg base nCa "_law_caught" (defScope sCaught) f cdv A outer s H E).nox) (a := x) (pn := pn) (i := 1) (p1 := r1) (p2 := r2) (p3 := r3) (p4 := r4) ct.isC hz.zc hf gi bi rfl (.inl vc) g3 m3 (by decide) (by decide) (by decide)
      refine (pss_cons (ps_set (i := 2) scCaught.nd rfl (.inl vw) (pe_lst (pa_cons (pe_tup (pa_cons pe_str (pa_cons (is0 _ _ _ _) pa_nil))) (pa_cons (pe_tup (pa_cons pe_str (pa_cons (is1 _ _ _ _) pa_nil))) pa_nil))) rfl (.inr vw))
        (pss_cons (ps_expr (pe_bm PySem.F.plainAttrs_list PySem.F.slot_list_extend PySem.F.type_list_extend mt_extend (pe_var (i := 2) rfl (.inl vw) (by decide) (by decide)) (pa_cons (pe_lst (pa_cons (pe_tup (pa_cons pe_str (pa_cons (is2 _ _ _ _) pa_nil))) (pa_cons (pe_tup (pa_cons pe_str (pa_cons (is3 _ _ _ _) pa_nil))) pa_nil))) pa_nil)))
        (pss_one (ps_ret (pe_tup (pa_cons (pe_lcW2 (own := [("word", 3), ("is_so", 4)]) (g := gTup K 2 (gCons (gName 3) (gCons (gName 4) gNil))) (tt := tB (tVar 4)) (te := tVar 3) (hot_suite hz hf) scCaught.nd (pi_listW (pe_var (i := 2) rfl (.inl vw) (by decide) (by decide)))
            (blkOk_by (N := nCa) (sc := defScope sCaught) (by decide +kernel)) (fun p hp _ _ _ _ _ => pg_tupW hp (pgs_cons (pg_name (i := 3) scCaught.nd rfl (Or.inl rfl)) (pgs_cons (pg_name (i := 4) scCaught.nd rfl (Or.inl rfl)) pgs_nil)))
            (fun _ _ _ _ _ => pts_one (pt_val (pe_var (i := 4) rfl (.inl rfl) (by decide) (by decide)))) (fun _ _ _ _ _ => pe_var (i := 3) rfl (.inl rfl) (by decide) (by decide)))
          (pa_cons (pe_xf (X := (cxOf CX0 P w K mg base nCa "_law_caught" (defScope sCaught) f cdv A outer s H E).nox) (a := x) (pn := pn) ct.fld ct.val hz.zc hf (pe_var (i := 1) rfl (.inl vc) (by decide) (by decide)) rfl) pa_nil))))))).run pins s' _ H1 D I ?_
      refine rs_set ?_
      refine ⟨rfl, ⟨_, hdd⟩, _, C4.kit i 0 hi (by decide), by show 2 ≤ sizeLine; decide, fun t0 n0 => ?_⟩
      have s0 := same_upd (o := .tup [.str "limits", .bl (decide (i = 0))]) n0
      have e0 : (upd H1 t0 (.tup [.str "limits", .bl (decide (i = 0))])) t0 = some (.tup [.str "limits", .bl (decide (i = 0))]) := upd_same
      generalize (upd H1 t0 (.tup [.str "limits", .bl (decide (i = 0))])) = H2 at s0 e0 ⊢
      refine ⟨rfl, ⟨_, s0 _ _ hdd⟩, _, C4.kit i 1 hi (by decide), by show 2 ≤ sizeLine; decide, fun t1 n1 => ?_⟩
      have s1 := same_upd (o := .tup [.str "nottree", .bl (decide (i = 1))]) n1
      have e1 : (upd H2 t1 (.tup [.str "nottree", .bl (decide (i = 1))])) t1 = some (.tup [.str "nottree", .bl (decide (i = 1))]) := upd_same
      have e0 := s1 _ _ e0
      have s1 := s0.trans s1
      generalize (upd H2 t1 (.tup [.str "nottree", .bl (decide (i = 1))])) = H3 at s1 e0 e1 ⊢
      refine ⟨by show 2 ≤ sizeLine; decide, fun w0 nw0 => ?_⟩
      have nw : H1 w0 = none := s1.free nw0
      have s2 := same_upd (o := .lst [.ref t0, .ref t1]) nw0
      have ew : (upd H3 w0 (.lst [.ref t0, .ref t1])) w0 = some (.lst [.ref t0, .ref t1]) := upd_same
      have e0 := s2 _ _ e0
      have e1 := s2 _ _ e1
      have s2 := s1.trans s2
      generalize (upd H3 w0 (.lst [.ref t0, .ref t1])) = H4 at s2 e0 e1 ew ⊢
      clear s0 s1 n0 n1 nw0
      refine rs_bm ⟨.ref w0, rfl, .inl ⟨rfl, _, sql_of ew⟩, ?_⟩
      refine ⟨rfl, ⟨_, s2 _ _ hdd⟩, _, C4.kit i 2 hi (by decide), by show 2 ≤ sizeLine; decide, fun t2 n2 => ?_⟩
      have s3 := same_upd (o := .tup [.str "notree", .bl (decide (i = 2))]) n2
      have e2 : (upd H4 t2 (.tup [.str "notree", .bl (decide (i = 2))])) t2 = some (.tup [.str "notree", .bl (decide (i = 2))]) := upd_same
      have e0 := s3 _ _ e0
      have e1 := s3 _ _ e1
      have ew := s3 _ _ ew
      have s3 := s2.trans s3
      generalize (upd H4 t2 (.tup [.str "notree", .bl (decide (i = 2))])) = H5 at s3 e0 e1 e2 ew ⊢
      refine ⟨rfl, ⟨_, s3 _ _ hdd⟩, _, C4.kit i 3 hi (by decide), by show 2 ≤ sizeLine; decide, fun t3 n3 => ?_⟩
      have s4 := same_upd (o := .tup [.str "number", .bl (decide (i = 3))]) n3
      have e3 : (upd H5 t3 (.tup [.str "number", .bl (decide (i = 3))])) t3 = some (.tup [.str "number", .bl (decide (i = 3))]) := upd_same
      have e0 := s4 _ _ e0
      have e1 := s4 _ _ e1
      have e2 := s4 _ _ e2
      have ew := s4 _ _ ew
      have s4 := s3.trans s4
      generalize (upd H5 t3 (.tup [.str "number", .bl (decide (i = 3))])) = H6 at s4 e0 e1 e2 e3 ew ⊢
      refine ⟨by show 2 ≤ sizeLine; decide, fun w1 nw1 => ?_⟩
      have s5 := same_upd (o := .lst [.ref t2, .ref t3]) nw1
      have ew1 : (upd H6 w1 (.lst [.ref t2, .ref t3])) w1 = some (.lst [.ref t2, .ref t3]) := upd_same
      have e0 := s5 _ _ e0
      have e1 := s5 _ _ e1
      have e2 := s5 _ _ e2
      have e3 := s5 _ _ e3
      have ew := s5 _ _ ew
      have s5 := s4.trans s5
      generalize (upd H6 w1 (.lst [.ref t2, .ref t3])) = H7 at s5 e0 e1 e2 e3 ew ew1 ⊢
      clear s2 s3 s4 n2 n3 nw1
      refine ⟨w0, w1, _, _, rfl, rfl, ew, ew1, by show 4 ≤ sizeLine; decide, ?_⟩
      have ne : ∀ {t xs}, H7 t = some (.tup xs) → t ≠ w0 := fun {t xs} e z => by rw [z, ew] at e; cases e
      have f0 : (upd H7 w0 (.lst ([.ref t0, .ref t1] ++ [.ref t2, .ref t3]))) t0 = _ := (upd_ne (ne e0)).trans e0
      have f1 : (upd H7 w0 (.lst ([.ref t0, .ref t1] ++ [.ref t2, .ref t3]))) t1 = _ := (upd_ne (ne e1)).trans e1
      have f2 : (upd H7 w0 (.lst ([.ref t0, .ref t1] ++ [.ref t2, .ref t3]))) t2 = _ := (upd_ne (ne e2)).trans e2
      have f3 : (upd H7 w0 (.lst ([.ref t0, .ref t1] ++ [.ref t2, .ref t3]))) t3 = _ := (upd_ne (ne e3)).trans e3
      have s6 : Same H1 (upd H7 w0 (.lst ([.ref t0, .ref t1] ++ [.ref t2, .ref t3]))) := fun b o e => by rw [upd_ne (ne_of_none e nw)]; exact s5 _ _ e
      have ew : (upd H7 w0 (.lst ([.ref t0, .ref t1] ++ [.ref t2, .ref t3]))) w0 = some (.lst ([.ref t0, .ref t1] ++ [.ref t2, .ref t3])) := upd_same
      generalize (upd H7 w0 (.lst ([.ref t0, .ref t1] ++ [.ref t2, .ref t3]))) = H8 at s6 f0 f1 f2 f3 ew ⊢
      clear e0 e1 e2 e3 ne s5 ew1
      refine r_ret ?_
      refine ⟨.ref w0, rfl, w0, rfl, ⟨_, sql_of ew⟩, fun L nL => ?_⟩
      have tup : ∀ j t, ([V.ref t0, .ref t1] ++ [.ref t2, .ref t3])[j]? = some t → ∃ q, t = .ref q ∧ j < 4 ∧ H8 q = some (.tup [.str (wordC j), .bl (decide (i = j))]) := fun j t hj => by
        match j, hj with
        | 0, hj => cases hj; exact ⟨_, rfl, by decide, f0⟩
        | 1, hj => cases hj; exact ⟨_, rfl, by decide, f1⟩
        | 2, hj => cases hj; exact ⟨_, rfl, by decide, f2⟩
        | 3, hj => cases hj; exact ⟨_, rfl, by decide, f3⟩
        | j + 4, hj => simp at hj
      refine lc_list (K := K) (xs := [.ref t0, .ref t1] ++ [.ref t2, .ref t3]) (fun n H' => Same H8 H' ∧ H' L = some (.lst (if i < n then [V.str (wordC i)] else []))) ⟨same_upd nL, by rw [if_neg (Nat.not_lt_zero _)]; exact upd_same⟩ (fun n H' _ h => sql_of (h.1 _ _ ew)) ?_ ?_
      · rintro j t H' hj ⟨sx, eL⟩
        obtain ⟨q', rfl, hj4, eq⟩ := tup j t hj
        refine ⟨q', _, rfl, sqt_of (sx _ _ eq), rfl, _, _, rfl, _, _, rfl, rfl, rfl, ?_⟩
        refine ⟨_, rfl, _, rfl, ?_⟩
        by_cases h : i = j
        · subst h
          rw [decide_eq_true rfl]
          show if true = true then _ else _
          rw [if_pos rfl]
          rw [if_neg (Nat.lt_irrefl _)] at eL
          refine ⟨_, rfl, _, eL, by show 0 < sizeLine; decide, fun b o e => by rw [upd_ne (ne_of_none e nL)]; exact sx _ _ e, ?_⟩
          rw [upd_same, if_pos (Nat.lt_succ_self _)]; rfl
        · rw [decide_eq_false h]
          show if false = true then _ else _
          rw [if_neg Bool.false_ne_true]
          refine ⟨sx, ?_⟩
          rw [eL]
          by_cases h2 : i < j
          · rw [if_pos h2, if_pos (by omega)]
          · rw [if_neg h2, if_neg (by omega)]
      · rintro H9 ⟨s9, eL⟩
        have eL : H9 L = some (.lst [.str (wordC i)]) := by
          rw [eL]
          show some (HO.lst (if i < 4 then _ else _)) = _
          rw [if_pos hi]
        intro nLs
        refine ⟨.ref x, rfl, rfl, rfl, dd, _, v, rfl, s9 _ _ (s6 _ _ hdd), rfl, ?_⟩
        refine ⟨by show 2 ≤ sizeLine; decide, fun tp ntp => ?_⟩
        have s10 := same_upd (o := .tup [.ref L, v]) ntp
        exact q _ tp L ((s6.trans s9).trans s10) upd_same (s10 _ _ eL) (fun e => nLs (congrArg V.ref e))
    · refine ⟨_, _, fun cls d H1 h => ?_, fun v H1 h => ?_, rfl, hg, ht⟩
      · obtain ⟨i, dd, v, hi, rfl, rfl, hdd, q⟩ := h
        have ct := C4.ct i hi dd
        refine ⟨true, ct.heal, fun _ x _ => ⟨_, _, _, _, i, dd, v, hi, rfl, rfl, rfl, hdd, q⟩, fun z => Bool.noConfusion z⟩
      · exact h H1 (Same.refl _)
end HI

set_option Elab.async false
set_option linter.all false
set_option maxRecDepth 100000
set_option maxHeartbeats 4000000
namespace Hw
open PySem L2 PyProof.Rows
/-! min of a tuple of ints -/
def minI (x : Int) (xs : List Int) : Int := xs.foldl (fun a y => if y < a then y else a) x
theorem minI_spec : ∀ (xs : List Int) (x : Int), minI x xs ∈ x :: xs ∧ ∀ y ∈ x :: xs, minI x xs ≤ y
  | [], x => ⟨List.mem_cons_self, fun y hy => by rw [List.mem_singleton.mp hy]; exact Int.le_refl _⟩
  | z :: xs, x => by
    unfold minI
    rw [List.foldl_cons]
    have ih := minI_spec xs (if z < x then z else x)
    unfold minI at ih
    obtain ⟨h1, h2⟩ := ih
    generalize hm : (if z < x then z else x) = m at h1 h2 ⊢
    have hmm : (m = z ∨ m = x) ∧ m ≤ z ∧ m ≤ x := by
      rw [← hm]
      split
      · exact ⟨.inl rfl, by omega, by omega⟩
      · exact ⟨.inr rfl, by omega, by omega⟩
    have h0 := h2 m List.mem_cons_self
    refine ⟨?_, fun y hy => ?_⟩
    · rcases List.mem_cons.mp h1 with e | e
      · rw [e]
        rcases hmm.1 with e | e
        · rw [e]; exact List.mem_cons_of_mem _ List.mem_cons_self
        · rw [e]; exact List.mem_cons_self
      · exact List.mem_cons_of_mem _ (List.mem_cons_of_mem _ e)
    · rcases List.mem_cons.mp hy with e | hy
      · rw [e]; exact Int.le_trans h0 hmm.2.2
      · rcases List.mem_cons.mp hy with e | hy
        · rw [e]; exact Int.le_trans h0 hmm.2.1
        · exact h2 y (List.mem_cons_of_mem _ hy)
theorem minD_ints (x : Int) (xs : List Int) : PySem.W.minD (.int x) (xs.map PyData.int) = .int (minI x xs) := by
  unfold PySem.W.minD minI
  induction xs generalizing x with
  | nil => rfl
  | cons y xs ih =>
    rw [List.map_cons, List.foldl_cons, List.foldl_cons, PySem.W.dataLt_int]
    by_cases h : y < x
    · rw [if_pos h, if_pos (decide_eq_true h)]; exact ih y
    · rw [if_neg h, if_neg (by simpa using h)]; exact ih x
theorem ints_reads {h : Heap} : ∀ {ns : List Int} {us : List Value}, Vals (ns.map V.int) us → ReadsAll h us (ns.map PyData.int) []
  | [], _, r => by cases r; exact .nil
  | n :: ns, _, r => by
    cases r with
    | cons r1 r2 =>
      obtain ⟨t, rfl⟩ := r1
      exact (ReadsAll.cons (.int n t) (ints_reads r2) : ReadsAll h _ _ ([] ++ []))
def rMinT (K : PySem.W.Frag) : List V → Hp → VK → Prop := fun vs H Q => ∃ (a : Addr) (ns : List Int), vs = [V.ref a] ∧ SqT K H a (ns.map V.int) ∧ 0 < ns.length ∧ ∀ m, m ∈ ns → (∀ y, y ∈ ns → m ≤ y) → Q (.int m) H
theorem cr_minT {X : Cx} (hc : X.calm = true) (hu : X.A.units + 64 < cLine) : CallR X (.builtin "min") (rMinT X.K) := by
  intro pins s σ H vs us Q I r h
  obtain ⟨a, ns, rfl, hs, hne, q⟩ := h
  obtain ⟨its, rv, hl, _⟩ := I.tuple hs
  rw [Vals.ref1 r]
  cases ns with
  | nil => exact absurd hne (by simp)
  | cons n ns =>
    have hr : ReadsAll s.heap its.toArray.toList (.int n :: ns.map PyData.int) [] := ints_reads rv
    have hal : PySem.W.AlikeAll (.int n :: ns.map PyData.int) := by
      have e : (PyData.int n :: ns.map PyData.int) = (n :: ns).map PyData.int := rfl
      rw [e]
      refine ⟨fun d hd d' hd' => ?_, fun d hd => ?_⟩
      · obtain ⟨x, _, rfl⟩ := List.mem_map.mp hd
        obtain ⟨y, _, rfl⟩ := List.mem_map.mp hd'
        simp [PySem.W.alike]
      · obtain ⟨x, _, rfl⟩ := List.mem_map.mp hd
        exact fun e => nomatch e
    have hdep : PyData.depthAll (.int n :: ns.map PyData.int) ≤ 50 := depthAll_le50 (ds := (n :: ns).map PyData.int) fun d hd => by
      obtain ⟨x, _, rfl⟩ := List.mem_map.mp hd
      simp [PyData.depth]
    refine PySem.W.min_tuple_data (I.ok.hd hc) hl hr hal (by omega) fun i v h' tk bs hv hR hk => ?_
    rw [minD_ints] at hR
    obtain ⟨m1, m2⟩ := minI_spec ns n
    cases hR with
    | int i t => exact ⟨.int (minI n ns), H, I.kept hk, ⟨t, rfl⟩, q _ m1 m2⟩
end Hw

set_option Elab.async false
set_option linter.all false
set_option maxRecDepth 100000
set_option maxHeartbeats 4000000
namespace Hw
open PySem PySem.Spec L2 LamX PyProof PyProof.Rows
/-! what stays while tables are written -/
def ExtA (a : Addr) (H H' : Hp) : Prop := ∀ b o, b ≠ a → (∀ ps, o ≠ HO.tbl ps) → H b = some o → H' b = some o
theorem ExtA.refl (a : Addr) (H : Hp) : ExtA a H H := fun _ _ _ _ e => e
theorem ExtA.ofX {a : Addr} {H H' : Hp} (s : SameX a H H') : ExtA a H H' := fun b o n _ e => s b o n e
theorem ExtA.ofN {a : Addr} {H H' : Hp} (s : ExtN H H') : ExtA a H H' := fun b o _ n e => s b o e n
theorem ExtA.ofS {a : Addr} {H H' : Hp} (s : Same H H') : ExtA a H H' := fun b o _ _ e => s b o e
theorem ExtA.trans {a : Addr} {H H1 H2 : Hp} (x : ExtA a H H1) (y : ExtA a H1 H2) : ExtA a H H2 := fun b o n m e => y b o n m (x b o n m e)
theorem ExtA.lst {a b : Addr} {H H' : Hp} {xs : List V} (s : ExtA a H H') (n : b ≠ a) (e : H b = some (.lst xs)) : H' b = some (.lst xs) := s _ _ n (fun _ z => nomatch z) e
theorem ExtA.tupl {a b : Addr} {H H' : Hp} {xs : List V} (s : ExtA a H H') (n : b ≠ a) (e : H b = some (.tup xs)) : H' b = some (.tup xs) := s _ _ n (fun _ z => nomatch z) e
theorem ExtN.ofS {H H' : Hp} (s : Same H H') : ExtN H H' := fun b o e _ => s b o e
theorem tabs_same {T : List (Addr × Str)} {H H' : Hp} (t : Tabs T H) (s : Same H H') : Tabs T H' := fun p hp => (t p hp).ext s
theorem Pot.ext {H H' : Hp} {a : Addr} {N : Nat} (p : Pot H a N) (s : ExtN H H') : Pot H' a N := by
  obtain ⟨x, y, z, e, h⟩ := p.ex
  exact ⟨x, y, z, s _ _ e (fun _ q => nomatch q), h⟩
mutual
theorem Dx.ext {a : Addr} {H H' : Hp} (s : ExtA a H H') : ∀ (v : V) (d : PyData), Dx a H v d → Dx a H' v d
  | _, .list ds, h => by
    cases h with
    | flat e => exact .flat e
    | lst h1 h2 h3 => exact .lst (s _ _ h2 (fun _ z => nomatch z) h1) h2 (DxAll.ext s _ ds h3)
  | _, .tuple ds, h => by
    cases h with
    | flat e => exact .flat e
    | tup h1 h2 h3 => exact .tup (s _ _ h2 (fun _ z => nomatch z) h1) h2 (DxAll.ext s _ ds h3)
  | _, .dict ds, h => by
    cases h with
    | flat e => exact .flat e
    | dct h1 h2 h3 h4 => exact .dct (s _ _ h2 (fun _ z => nomatch z) h1) h2 h3 h4
  | _, .none, h => by cases h with | flat e => exact .flat e
  | _, .bool _, h => by cases h with | flat e => exact .flat e
  | _, .int _, h => by cases h with | flat e => exact .flat e
  | _, .str _, h => by cases h with | flat e => exact .flat e
theorem DxAll.ext {a : Addr} {H H' : Hp} (s : ExtA a H H') : ∀ (vs : List V) (ds : List PyData), DxAll a H vs ds → DxAll a H' vs ds
  | _, [], h => by cases h; exact .nil
  | _, d :: ds, h => by
    cases h with
    | cons h1 h2 => exact .cons (Dx.ext s _ d h1) (DxAll.ext s _ ds h2)
end
/-- a def whose code object is known -/
structure FunC (K : PySem.W.Frag) (x qual : Str) (st : Stmt) (f : Addr) (fd : FuncData) (c : Addr) : Prop where
  ex : ∃ (oc : Value) (od : Option Addr) (kV doc pm : Value) (an : Option Addr) (ct : Value) (osl : Array (Option Value)),
    fd = PySem.W.fnOf x qual (defArgs st) (defBody st) (defScope st) .none kV doc pm an (.ref c) ct ∧ K.lookup f = some ⟨oc, od, .func fd, osl⟩ ∧ PySem.W.codeIn K (.ref c) qual = true
theorem funGC {P : Program} {w : World} {K : PySem.W.Frag} {mg : Str → Option Value} {base : Heap} {x qual : Str} {st : Stmt} {f c : Addr} {fd : FuncData} {N ps : List Str} {k : Nat} {sp : Sp} (F : FunC K x qual st f fd c) (S : FnScope N ps (defScope st)) (len : ∀ vs H Q E, sp vs H Q E → vs.length = ps.length)
    (hbody : ∀ (A : Around) (outer : List Env) (s : Shared) (H : Hp) (vs : List V) (Q : VK) (E : XK), RoomG k (A.deeper (envOfC qual (defScope st) s.heap.objs.size f (.ref c))) → sp vs H Q E →
      ∃ t, PSs (cxOf CX0 P w K mg base N qual (defScope st) f (.ref c) A outer s H E).nox (defBody st) t ∧ t { nx := fun _ H' => Q .non H', rt := Q } (start N vs) H) : FnG P w K mg base CX0 (k + 1) f fd ps sp := by
  obtain ⟨oc, od, kV, doc, pm, an, ct, osl, rfl, lk, hcd⟩ := F.ex
  exact fnG_of lk hcd S len fun A outer s H vs Q E hr hsp => by
    obtain ⟨t, h, q⟩ := hbody A outer s H vs Q E hr hsp
    exact ⟨t, h.nox, q⟩
theorem mk_pow : MkD (tOp (rI CPowW fun i j => .int (i ^ j.toNat)) (tC (.int 10)) (tC (.int 30))) (.int (10 ^ 30)) := fun a σ H Q _ q => ⟨10, 30, rfl, rfl, ⟨by decide, by decide⟩, q _ H (Same.refl H) (.flat rfl)⟩
theorem rs_end {t : TT} {A : TS} {D : Ends} {σ : L2.St} {H : Hp} (h : t σ H fun b H1 => if b = true then A D σ H1 else tNext D σ H1) : tIfS t A tNext D σ H := h
theorem r_c {v : V} {σ : L2.St} {H : Hp} {Q : VK} (h : Q v H) : tC v σ H Q := h
theorem tabs_sx {T : List (Addr × Str)} {H H' : Hp} {a : Addr} {N : Nat} (t : Tabs T H) (p : Pot H a N) (s : SameX a H H') : Tabs T H' := fun x hx => by
  obtain ⟨ps, h1, h2, h3⟩ := t x hx
  obtain ⟨_, _, _, ep, _⟩ := p.ex
  refine ⟨ps, s _ _ (fun z => by rw [z, ep] at h1; cases h1) h1, h2, fun pos cv e => ?_⟩
  obtain ⟨c, e1, e2⟩ := h3 pos cv e
  refine ⟨c, e1, s _ _ (fun z => ?_) e2⟩
  rw [z, ep] at e2
  have e3 : HO.lst _ = HO.ext _ := Option.some.inj e2
  cases e3
theorem ExtN.seq {K : PySem.W.Frag} {H H' : Hp} {a : Addr} {xs : List V} (s : ExtN H H') (h : SqL K H a xs) : SqL K H' a xs := by
  rcases h with (h | ⟨o, h⟩) | h
  · exact .inl (.inl (s _ _ h (fun _ z => nomatch z)))
  · exact .inl (.inr ⟨o, s _ _ h (fun _ z => nomatch z)⟩)
  · exact .inr h
theorem ExtN.lst {b : Addr} {H H' : Hp} {xs : List V} (s : ExtN H H') (e : H b = some (.lst xs)) : H' b = some (.lst xs) := s _ _ e (fun _ z => nomatch z)
theorem tabs_put {T : List (Addr × Str)} {H : Hp} {D : Addr} {xs ys : List V} (t : Tabs T H) (e : H D = some (.lst xs)) : Tabs T (upd H D (.lst ys)) := fun x hx => by
  obtain ⟨ps, h1, h2, h3⟩ := t x hx
  refine ⟨ps, by rw [upd_ne (fun z => by rw [z, e] at h1; cases h1)]; exact h1, h2, fun pos cv ec => ?_⟩
  obtain ⟨c, e1, e2⟩ := h3 pos cv ec
  refine ⟨c, e1, ?_⟩
  rw [upd_ne (fun z => ?_)]
  · exact e2
  · rw [z, e] at e2
    have e3 : HO.lst _ = HO.ext _ := Option.some.inj e2
    cases e3
end Hw

set_option Elab.async false
set_option linter.all false
set_option maxRecDepth 100000
set_option maxHeartbeats 4000000
namespace HI
open PySem PySem.Spec L2 LamX PyProof PyProof.Rows Hw
abbrev sLimR : Stmt := topS 43
abbrev sRight : Stmt := topS 44
def lamQ1 : Str := (envOfC "_law_is_limits_right" (defScope sLimR) 0 0 .none).qual ++ "<lambda>"
def lamQ2 : Str := (envOfC "_law_right" (defScope sRight) 0 0 .none).qual ++ "<lambda>"
theorem lamQ1_eq (L : Nat) (f : Addr) (cd : Value) : (envOfC "_law_is_limits_right" (defScope sLimR) L f cd).qual ++ "<lambda>" = lamQ1 := rfl
theorem lamQ2_eq (L : Nat) (f : Addr) (cd : Value) : (envOfC "_law_right" (defScope sRight) L f cd).qual ++ "<lambda>" = lamQ2 := rfl
/-- what is due: the number of the class of the error, its value -/
abbrev Due := Option (Nat × V × PyData)
def dueD (i : Nat) (d : PyData) : PyData := .tuple [.list [.str (wordC i)], d]
def reprOk (i : Nat) (d : PyData) : Bool := fineD d && ((dueD i d).showable && (decide ((dueD i d).depth ≤ 60) && decide ((dueD i d).shown.length ≤ 2000)))
def DueV (H : Hp) (x : V) : Due → Prop
  | none => x = .non
  | some (i, v, d) => ∃ (tp l a : Addr), x = .ref tp ∧ H tp = some (.tup [.ref l, v]) ∧ H l = some (.lst [.str (wordC i)]) ∧ l ≠ sysModules ∧ Dx a H v d ∧ reprOk i d = true
def dueS : Due → Str
  | none => PyData.none.shown
  | some (i, _, d) => (dueD i d).shown
theorem DueV.ext {H H' : Hp} {x : V} {due : Due} (h : DueV H x due) (s : ExtN H H') : DueV H' x due := by
  cases due with
  | none => exact h
  | some p =>
    obtain ⟨i, v, d⟩ := p
    obtain ⟨tp, l, a, rfl, e1, e2, nl, xd, ok⟩ := h
    exact ⟨tp, l, a, rfl, s _ _ e1 (fun _ z => nomatch z), s _ _ e2 (fun _ z => nomatch z), nl, Dx.ext (.ofN s) _ _ xd, ok⟩
theorem repr_due {H : Hp} {x : V} {due : Due} {Q : VK} (h : DueV H x due) (q : Q (.str (dueS due)) H) : rReprP [x] H Q := by
  cases due with
  | none => exact ⟨x, rfl, .inl ⟨h, q⟩⟩
  | some p =>
    obtain ⟨i, v, d⟩ := p
    obtain ⟨tp, l, a, rfl, e1, e2, nl, xd, ok⟩ := h
    unfold reprOk at ok
    simp only [Bool.and_eq_true, decide_eq_true_eq] at ok
    exact ⟨_, rfl, .inr ⟨tp, l, v, a, d, wordC i, rfl, e1, e2, nl, xd, ok.1, ok.2.1, ok.2.2.1, ok.2.2.2, q⟩⟩
theorem err_due {c : Nat → Addr} {i : Nat} {v : V} {d : PyData} {a : Addr} {H : Hp} {Q : VK} (hi : i < 4) (xd : Dx a H v d) (ok : reprOk i d = true) (q : ∀ x H2, Same H H2 → DueV H2 x (some (i, v, d)) → Q x H2) :
    ErrAt (c i) v H (fun cls dd H1 => ∃ (i : Nat) (d' : Addr) (v : V), i < 4 ∧ cls = .ref (c i) ∧ dd = some d' ∧ H1 d' = some (.xd [("value", v)]) ∧ ∀ H' tp l, Same H1 H' → H' tp = some (.tup [.ref l, v]) → H' l = some (.lst [.str (wordC i)]) → l ≠ sysModules → Q (.ref tp) H') := fun dd H1 s1 nd =>
  ⟨i, dd, v, hi, rfl, rfl, upd_same, fun H2 tp l s2 e1 e2 nl => q _ H2 ((s1.trans (same_upd nd)).trans s2) ⟨tp, l, a, rfl, e1, e2, nl, Dx.keep (.of ((s1.trans (same_upd nd)).trans s2)) _ _ xd, ok⟩⟩
/-! the four -/
def dueLim (l : V) (dl : PyData) : Due := if limD dl = true then none else some (0, l, dl)
def dueTree (l v : V) (dl d : PyData) : Due := if limD dl = true then (if isTreeD (limsOf dl) d = true then none else some (1, v, d)) else some (0, l, dl)
def dueLeast (l : V) (dl : PyData) : Due := if limD dl = true then (if treeB (limsOf dl) = true then none else some (2, l, dl)) else some (0, l, dl)
section
variable {P : Program} {w : World} {K : PySem.W.Frag} {mg : Str → Option Value} {base : Heap}
theorem r_rp {x : V} {σ : L2.St} {H : Hp} {Q : VK} (h : rReprP [x] H Q) : tNil σ H fun xs H2 => (fun vs H1 => rReprP vs H1 Q) (x :: xs) H2 := h
theorem mem1 {P1 P2 : Addr} {q1 q2 x : Str} (e : x = q1) : (P1, x) ∈ [(P1, q1), (P2, q2)] := by rw [e]; exact List.mem_cons_self
theorem uniq1 {P1 P2 : Addr} {q1 q2 x : Str} (hP : P2 ≠ P1) (e : x = q1) : ∀ p ∈ [(P1, q1), (P2, q2)], p.1 = P1 → p.2 = x := fun p hp e1 => by
  rw [e]
  rcases List.mem_cons.mp hp with rfl | hp
  · rfl
  · rw [List.mem_singleton.mp hp] at e1
    exact absurd e1 hP
/-- repr of what is heard beside repr of what is due -/
theorem cmp_step {T : List (Addr × Str)} {D : Ends} {u : TS} {σ : L2.St} {H : Hp} {TL : TE} {due : Due} {i : Nat} {y : V} (hs : σ[i]? = some (some y)) (hy : DueV H y due)
    (hTL : ∀ Q : VK, (∀ x H2, ExtN H H2 → Tabs T H2 → DueV H2 x due → Q x H2) → TL σ H Q) (q : ∀ H2, ExtN H H2 → Tabs T H2 → u D σ H2) :
    tSeq (tIfS (tTest (tOp rNe (tCB rReprP (tCons TL tNil)) (tCB rReprP (tCons (tVar i) tNil)))) (tRet (tC (.bl false))) tNext) u D σ H := by
  refine rs_no ?_
  refine hTL _ fun x H2 s2 hT2 hx => ?_
  refine r_rp (repr_due hx ?_)
  refine ⟨y, hs, r_rp (repr_due (hy.ext s2) ⟨rfl, _, rfl, ?_⟩)⟩
  rw [decide_eq_true rfl]
  show if false = true then _ else _
  rw [if_neg Bool.false_ne_true]
  exact q H2 s2 hT2
/-- due = (["word"], ..) if so -/
theorem due_step {D : Ends} {u : TS} {l v y : V} {H : Hp} {t : TT} {j : Nat} {z : Str} {vj : V} {b : Bool} {due2 : Due} (hj : ([some l, some v, some y] : L2.St)[j]? = some (some vj)) (ht : ∀ R : Bool → Hp → Prop, (∀ H', Same H H' → R b H') → t [some l, some v, some y] H R)
    (hf : b = false → ∀ H', Same H H' → DueV H' y due2) (htr : b = true → ∃ i d a, z = wordC i ∧ due2 = some (i, vj, d) ∧ Dx a H vj d ∧ reprOk i d = true) (q : ∀ y' H2, Same H H2 → DueV H2 y' due2 → u D [some l, some v, some y'] H2) :
    tSeq (tIfS t (tAsg (tTup (tCons (tLstB (tCons (tC (.str z)) tNil)) (tCons (tVar j) tNil))) (gName 2)) tNext) u D [some l, some v, some y] H := by
  refine rs_no ?_
  refine ht _ fun H1 s1 => ?_
  cases b with
  | false =>
    show if false = true then _ else _
    rw [if_neg Bool.false_ne_true]
    exact q y H1 s1 (hf rfl H1 s1)
  | true =>
    show if true = true then _ else _
    rw [if_pos rfl]
    obtain ⟨i, d, a, rfl, rfl, xd, ok⟩ := htr rfl
    refine ⟨by show 1 ≤ sizeLine; decide, fun p np nsys => ⟨vj, hj, by show 2 ≤ sizeLine; decide, fun tp ntp => ?_⟩⟩
    have s2 := same_upd (o := .lst [.str (wordC i)]) np
    have s3 := same_upd (o := .tup [.ref p, vj]) ntp
    have s13 := (s1.trans s2).trans s3
    exact q _ _ s13 ⟨tp, p, a, rfl, upd_same, s3 _ _ upd_same, nsys, Dx.keep (.of s13) _ _ xd, ok⟩
/-- due = None if .. else (["word"], ..) -/
theorem due_lims {σ : L2.St} {l : V} {dl : PyData} {a : Addr} {H : Hp} {Q : VK} (h0 : σ[0]? = some (some l)) (xl : Dx a H l dl) (ok : reprOk 0 dl = true) (q : ∀ y H1, Same H H1 → DueV H1 y (dueLim l dl) → Q y H1) :
    tIf (tB (tCall spIsLims [] E0 (tCons (tVar 0) tNil))) (tC .non) (tTup (tCons (tLstB (tCons (tC (.str "limits")) tNil)) (tCons (tVar 0) tNil))) σ H Q := by
  refine ⟨l, h0, l, a, dl, rfl, xl, fun H1 s1 => ⟨_, rfl, ?_⟩⟩
  unfold dueLim at q
  cases hl : limD dl with
  | true =>
    show if true = true then _ else _
    rw [if_pos rfl]
    exact q _ H1 s1 (by rw [if_pos hl]; rfl)
  | false =>
    show if false = true then _ else _
    rw [if_neg Bool.false_ne_true]
    refine ⟨by show 1 ≤ sizeLine; decide, fun p np nsys => ⟨l, h0, by show 2 ≤ sizeLine; decide, fun tp ntp => ?_⟩⟩
    have s2 := same_upd (o := .lst [.str "limits"]) np
    have s3 := same_upd (o := .tup [.ref p, l]) ntp
    have s13 := (s1.trans s2).trans s3
    exact q _ _ s13 (by rw [if_neg (by rw [hl]; exact Bool.false_ne_true)]; exact ⟨tp, p, a, rfl, upd_same, s3 _ _ upd_same, nsys, Dx.keep (.of s13) _ _ xl, ok⟩)
end
def spLimR (T : List (Addr × Str)) : Sp := fun vs H Q _ => ∃ (l v : V) (a : Addr) (dl d : PyData), vs = [l, v] ∧ Dx a H l dl ∧ Dx a H v d ∧ reprOk 0 dl = true ∧ reprOk 2 dl = true ∧ reprOk 1 d = true ∧ Tabs T H ∧ ∀ H', ExtN H H' → Tabs T H' → Q (.bl true) H'
theorem ExtN.trans {H H1 H2 : Hp} (x : ExtN H H1) (y : ExtN H1 H2) : ExtN H H2 := fun b o e n => y b o (x b o e n) n
section
variable {P : Program} {w : World} {K : PySem.W.Frag} {mg : Str → Option Value} {base : Heap}
theorem scLimR : FnScope ["limits", "value", "due"] ["limits", "value"] (defScope sLimR) := ⟨rfl, rfl, rfl, by decide +kernel, rfl, by decide +kernel, by decide +kernel⟩
theorem ok_limr {P1 P2 cc CS fA fC fT fF fL fS fE : Addr} {f : Addr} {c : Nat → Addr} {fd fdA fdC fdT fdF fdL fdS fdE : FuncData} {k m : Nat} (hP : P2 ≠ P1) (F : FunC K "_law_is_limits_right" "_law_is_limits_right" sLimR f fd cc) (TB : TabB base mg cc P1) (B : Blt mg) (br : mg "repr" = none) (bmin : mg "min" = none) (C4 : Cls4 K CS c)
    (GA : FnOk P w K mg base CX0 k fA fdA ["value"] spIsLims) (gA : mg "_law_are_limits" = some (.ref fA)) (kA : PySem.W.keepIn K (.ref fA) = true) (bA : Binds K fdA ["value"] [])
    (GC : FnGL P w K mg base CX0 k fC fdC ["call"] (spCaught4 P w K mg base m CS c)) (gC : mg "_law_caught" = some (.ref fC)) (kC : PySem.W.keepIn K (.ref fC) = true) (bC : Binds K fdC ["call"] [])
    (GT : FnOk P w K mg base CX0 k fT fdT ["limits", "value"] spLTree) (gT : mg "_law_is_tree" = some (.ref fT)) (kT : PySem.W.keepIn K (.ref fT) = true) (bT : Binds K fdT ["limits", "value"] [])
    (GF : FnOk P w K mg base (L2N.CX P w) m fF fdF ["limits", "value"] (spIsTree (c 0))) (gF : mg "is_tree_for" = some (.ref fF)) (kF : PySem.W.keepIn K (.ref fF) = true) (bF : Binds K fdF ["limits", "value"] [])
    (GE : FnOk P w K mg base (L2N.CX P w) m fE fdE ["limits", "ties"] (spTreeFar c)) (gE : mg "tree_farthest" = some (.ref fE)) (kE : PySem.W.keepIn K (.ref fE) = true) (bE : Binds K fdE ["limits", "ties"] [])
    (GL : FnOk P w K mg base (L2N.CX P w) m fL fdL ["limits"] (spLeastF c)) (gL : mg "least_far" = some (.ref fL)) (kL : PySem.W.keepIn K (.ref fL) = true) (bL : Binds K fdL ["limits"] [])
    (GS : FnOk P w K mg base (L2N.CX P w) m fS fdS ["limits", "value"] (spShowsL c)) (gS : mg "shows_least_far" = some (.ref fS)) (kS : PySem.W.keepIn K (.ref fS) = true) (bS : Binds K fdS ["limits", "value"] []) :
    FnG P w K mg base CX0 (k + 1) f fd ["limits", "value"] (spLimR [(P1, lamQ1), (P2, lamQ2)]) := by
  refine funGC F scLimR (fun vs H Q E h => ?_) (fun A outer s H vs Q E hr h => ?_)
  · obtain ⟨l, v, a, dl, d, rfl, _⟩ := h
    rfl
  · obtain ⟨l, v, a, dl, d, rfl, xl, xv, ok0, ok2, ok1, hT, q⟩ := h
    have hu64 := hr.r.units
    have hun := hr.r.un
    have h100 : (A.deeper (envOfC "_law_is_limits_right" (defScope sLimR) s.heap.objs.size f (.ref cc))).units + 100 < cLine := by omega
    refine ⟨_, (pss_cons (ps_set (i := 2) scLimR.nd rfl (.inl rfl) (pe_ifExp (pt_val (pe_call GA hr.r (by rfl) gA kA bA .nil pass0 (pa_cons (pv 0) pa_nil))) pe_non (pe_tup (pa_cons (pe_lstB (pa_cons pe_str pa_nil)) (pa_cons (pv 0) pa_nil)))))
      (pss_cons (ps_if (pt_cmpR op_ne (pe_callB (call_reprP hr.g h100) (by rfl) br PyProof.Rows.boot_repr (pa_cons (pe_lamW (tb := fun E1 => tCall (spIsTree (c 0)) [] E1 (tCons (tVar 0) (tCons (tVar 1) tNil))) (CXl := L2N.CX P w) (j := m) (T := [(P1, lamQ1), (P2, lamQ2)]) GC hr (by rfl) gC kC bC .nil pass0 pa_nil TB rfl (mem1 (lamQ1_eq _ _ _)) (uniq1 hP (lamQ1_eq _ _ _)) (lamS_by (sc := defScope sLimR) (by decide +kernel)) rfl (fun _ _ _ _ _ => rfl)
          (fun A' outer' s' H' E' f' c' hr' => pe_call GF hr' (by rfl) gF kF bF .nil (L2N.passes_call (L2N.takes_of rfl rfl rfl rfl) (fun _ _ _ _ h => h)) (pa_cons (pv 0) (pa_cons (pv 1) pa_nil)))) pa_nil)) (pe_callB (call_reprP hr.g h100) (by rfl) br PyProof.Rows.boot_repr (pa_cons (pv 2) pa_nil)) (nomark _)) (pss_one (ps_ret pe_bl)) pss_nil)
      (pss_cons (ps_if (PW.pt (pw_and (pt_cmpR op_isN (pv 2) pe_non (nomark _)) (pw_and1 (pt_not (pt_val (pe_call GT hr.r (by rfl) gT kT bT .nil pass0 (pa_cons (pv 0) (pa_cons (pv 1) pa_nil)))))))) (pss_one (ps_set (i := 2) scLimR.nd rfl (.inl rfl) (pe_tup (pa_cons (pe_lstB (pa_cons pe_str pa_nil)) (pa_cons (pv 1) pa_nil))))) pss_nil)
      (pss_cons (ps_if (pt_cmpR op_ne (pe_callB (call_reprP hr.g h100) (by rfl) br PyProof.Rows.boot_repr (pa_cons (pe_lamW (tb := fun E1 => tCall (spTreeFar c) [] E1 (tCons (tVar 0) (tCons (tVar 1) tNil))) (CXl := L2N.CX P w) (j := m) (T := [(P1, lamQ1), (P2, lamQ2)]) GC hr (by rfl) gC kC bC .nil pass0 pa_nil TB rfl (mem1 (lamQ1_eq _ _ _)) (uniq1 hP (lamQ1_eq _ _ _)) (lamS_by (sc := defScope sLimR) (by decide +kernel)) rfl (fun _ _ _ _ _ => rfl)
          (fun A' outer' s' H' E' f' c' hr' => pe_call GE hr' (by rfl) gE kE bE .nil (L2N.passes_call (L2N.takes_of rfl rfl rfl rfl) (fun _ _ _ _ h => h)) (pa_cons (pv 0) (pa_cons (pv 1) pa_nil)))) pa_nil)) (pe_callB (call_reprP hr.g h100) (by rfl) br PyProof.Rows.boot_repr (pa_cons (pv 2) pa_nil)) (nomark _)) (pss_one (ps_ret pe_bl)) pss_nil)
      (pss_cons (ps_set (i := 2) scLimR.nd rfl (.inl rfl) (pe_ifExp (pt_val (pe_call GA hr.r (by rfl) gA kA bA .nil pass0 (pa_cons (pv 0) pa_nil))) pe_non (pe_tup (pa_cons (pe_lstB (pa_cons pe_str pa_nil)) (pa_cons (pv 0) pa_nil)))))
      (pss_cons (ps_if (PW.pt (pw_and (pt_cmpR op_isN (pv 2) pe_non (nomark _)) (pw_and (pt_cmpR op_gt (pe_callB call_len_seq (by rfl) B.len PySem.boot_len (pa_cons (pv 0) pa_nil)) pe_int (nomark _))
          (pw_and1 (PW.pt (pw_or (pt_cmpR op_eq (pe_callB (cr_minT rfl hu64) (by rfl) bmin PyProof.Rows.boot_min (pa_cons (pv 0) pa_nil)) pe_int (nomark _)) (pw_or1 (pt_cmpR op_lt (pe_callB (cr_sumT rfl) (by rfl) B.sum PyProof.Rows.boot_sum (pa_cons (pv 0) pa_nil)) (pe_op op_mul pe_int (pe_op op_sub (pe_callB call_len_seq (by rfl) B.len PySem.boot_len (pa_cons (pv 0) pa_nil)) pe_int)) (nomark _))))))))) (pss_one (ps_set (i := 2) scLimR.nd rfl (.inl rfl) (pe_tup (pa_cons (pe_lstB (pa_cons pe_str pa_nil)) (pa_cons (pv 0) pa_nil))))) pss_nil)
      (pss_cons (ps_if (pt_cmpR op_ne (pe_callB (call_reprP hr.g h100) (by rfl) br PyProof.Rows.boot_repr (pa_cons (pe_lamW (tb := fun E1 => tCall (spLeastF c) [] E1 (tCons (tVar 0) tNil)) (CXl := L2N.CX P w) (j := m) (T := [(P1, lamQ1), (P2, lamQ2)]) GC hr (by rfl) gC kC bC .nil pass0 pa_nil TB rfl (mem1 (lamQ1_eq _ _ _)) (uniq1 hP (lamQ1_eq _ _ _)) (lamS_by (sc := defScope sLimR) (by decide +kernel)) rfl (fun _ _ _ _ _ => rfl)
          (fun A' outer' s' H' E' f' c' hr' => pe_call GL hr' (by rfl) gL kL bL .nil (L2N.passes_call (L2N.takes_of rfl rfl rfl rfl) (fun _ _ _ _ h => h)) (pa_cons (pv 0) pa_nil))) pa_nil)) (pe_callB (call_reprP hr.g h100) (by rfl) br PyProof.Rows.boot_repr (pa_cons (pv 2) pa_nil)) (nomark _)) (pss_one (ps_ret pe_bl)) pss_nil)
      (pss_one (ps_ret (pe_cmpR op_eq (pe_callB (call_reprP hr.g h100) (by rfl) br PyProof.Rows.boot_repr (pa_cons (pe_lamW (tb := fun E1 => tCall (spShowsL c) [] E1 (tCons (tVar 0) (tCons (tVar 1) tNil))) (CXl := L2N.CX P w) (j := m) (T := [(P1, lamQ1), (P2, lamQ2)]) GC hr (by rfl) gC kC bC .nil pass0 pa_nil TB rfl (mem1 (lamQ1_eq _ _ _)) (uniq1 hP (lamQ1_eq _ _ _)) (lamS_by (sc := defScope sLimR) (by decide +kernel)) rfl (fun _ _ _ _ _ => rfl)
          (fun A' outer' s' H' E' f' c' hr' => pe_call GS hr' (by rfl) gS kS bS .nil (L2N.passes_call (L2N.takes_of rfl rfl rfl rfl) (fun _ _ _ _ h => h)) (pa_cons (pv 0) (pa_cons (pv 1) pa_nil)))) pa_nil)) (pe_callB (call_reprP hr.g h100) (by rfl) br PyProof.Rows.boot_repr (pa_cons (pv 2) pa_nil)) (nomark _))))))))))), ?_⟩
    refine rs_set ?_
    refine due_lims rfl xl ok0 fun y1 H1 s1 hy1 => ?_
    have hT1 := tabs_same hT s1
    have xl1 := Dx.keep (.of s1) _ _ xl
    have xv1 := Dx.keep (.of s1) _ _ xv
    refine cmp_step (i := 2) (T := [(P1, lamQ1), (P2, lamQ2)]) (due := dueLim l dl) rfl hy1 (fun Q' q' => ?_) (fun H2 s2 hT2 => ?_)
    · refine ⟨hT1, fun f1 c1 H2 s2 hT2 hc1 => fun fs1 h1 ac1 => ⟨f1, _, _, rfl, ac1, hc1, ?_⟩⟩
      have xl2 := Dx.ext (.ofN s2) _ _ xl1
      have xv2 := Dx.ext (.ofN s2) _ _ xv1
      refine ⟨l, rfl, v, rfl, l, v, a, dl, d, rfl, xl2, xv2, fun hl H3 s3 H4 s4 => ?_, fun hl => ?_⟩
      · exact q' .non H4 (ExtN.trans s2 (ExtN.ofS (s3.trans s4))) (tabs_same hT2 (s3.trans s4)) (by unfold dueLim; rw [if_pos hl]; rfl)
      · exact err_due (c := c) (by decide) xl2 ok0 fun x H3 s3 hx => q' x H3 (ExtN.trans s2 (ExtN.ofS s3)) (tabs_same hT2 s3) (by unfold dueLim; rw [if_neg (by rw [hl]; exact Bool.false_ne_true)]; exact hx)
    have s02 : ExtN H H2 := ExtN.trans (ExtN.ofS s1) s2
    have xl2 := Dx.ext (.ofN s2) _ _ xl1
    have xv2 := Dx.ext (.ofN s2) _ _ xv1
    have hy2 := hy1.ext s2
    clear hT1 xl1 xv1 hy1 s1 s2
    -- is it a tree
    refine due_step (j := 1) (vj := v) (b := limD dl && !isTreeD (limsOf dl) d) (due2 := dueTree l v dl d) rfl (fun R hR => ?_) (fun hb H' s' => ?_) (fun hb => ?_) (fun y3 H3 s3 hy3 => ?_)
    · refine ⟨y1, rfl, rfl, _, rfl, ?_⟩
      cases hl : limD dl with
      | false =>
        have hyn : y1 ≠ .non := fun e => by
          unfold dueLim at hy2
          rw [if_neg (by rw [hl]; exact Bool.false_ne_true)] at hy2
          obtain ⟨tp, _, _, e2, _⟩ := hy2
          rw [e2] at e; cases e
        rw [decide_eq_false hyn]
        rw [hl] at hR
        exact hR H2 (Same.refl _)
      | true =>
        have hyn : y1 = .non := by
          unfold dueLim at hy2
          rw [if_pos hl] at hy2
          exact hy2
        rw [decide_eq_true hyn]
        show if true = true then _ else _
        rw [if_pos rfl]
        obtain ⟨t, ls, rfl, rfl, ne, e1, L⟩ := limD_ex xl2 hl
        rw [limsOf_ints] at hR
        rw [hl] at hR
        exact ⟨.ref t, rfl, v, rfl, t, v, a, ls, d, rfl, e1, L, xv2, fun H' s' => ⟨_, rfl, hR H' s'⟩⟩
    · have hyk := hy2.ext (ExtN.ofS s')
      unfold dueLim at hyk
      unfold dueTree
      cases hl : limD dl with
      | false =>
        rw [hl, if_neg Bool.false_ne_true] at hyk
        rw [if_neg Bool.false_ne_true]
        exact hyk
      | true =>
        rw [hl, if_pos rfl] at hyk
        rw [hl] at hb
        have ht : isTreeD (limsOf dl) d = true := by simpa using hb
        rw [if_pos rfl, if_pos ht]
        exact hyk
    · rw [Bool.and_eq_true, Bool.not_eq_true'] at hb
      exact ⟨1, d, a, rfl, by unfold dueTree; rw [if_pos hb.1, if_neg (by rw [hb.2]; exact Bool.false_ne_true)], xv2, ok1⟩
    have s03 := ExtN.trans s02 (ExtN.ofS s3)
    have hT3 := tabs_same hT2 s3
    have xl3 := Dx.keep (.of s3) _ _ xl2
    have xv3 := Dx.keep (.of s3) _ _ xv2
    clear hy2 hT2 xl2 xv2 s02 s3
    refine cmp_step (i := 2) (T := [(P1, lamQ1), (P2, lamQ2)]) (due := dueTree l v dl d) rfl hy3 (fun Q' q' => ?_) (fun H4 s4 hT4 => ?_)
    · refine ⟨hT3, fun f1 c1 H4 s4 hT4 hc1 => fun fs1 h1 ac1 => ⟨f1, _, _, rfl, ac1, hc1, ?_⟩⟩
      have xl4 := Dx.ext (.ofN s4) _ _ xl3
      have xv4 := Dx.ext (.ofN s4) _ _ xv3
      refine ⟨l, rfl, v, rfl, l, v, a, dl, d, rfl, xl4, xv4, fun hl => ?_, fun hl ht => ?_, fun hl ht H5 s5 H6 s6 => ?_⟩
      · exact err_due (c := c) (by decide) xl4 ok0 fun x H5 s5 hx => q' x H5 (ExtN.trans s4 (ExtN.ofS s5)) (tabs_same hT4 s5) (by unfold dueTree; rw [if_neg (by rw [hl]; exact Bool.false_ne_true)]; exact hx)
      · exact err_due (c := c) (by decide) xv4 ok1 fun x H5 s5 hx => q' x H5 (ExtN.trans s4 (ExtN.ofS s5)) (tabs_same hT4 s5) (by unfold dueTree; rw [if_pos hl, if_neg (by rw [ht]; exact Bool.false_ne_true)]; exact hx)
      · exact q' .non H6 (ExtN.trans s4 (ExtN.ofS (s5.trans s6))) (tabs_same hT4 (s5.trans s6)) (by unfold dueTree; rw [if_pos hl, if_pos ht]; rfl)
    have s04 := ExtN.trans s03 s4
    have xl4 := Dx.ext (.ofN s4) _ _ xl3
    have xv4 := Dx.ext (.ofN s4) _ _ xv3
    clear hy3 hT3 xl3 xv3 s03 s4
    -- anew
    refine rs_set ?_
    refine due_lims rfl xl4 ok0 fun y5 H5 s5 hy5 => ?_
    have s05 := ExtN.trans s04 (ExtN.ofS s5)
    have hT5 := tabs_same hT4 s5
    have xl5 := Dx.keep (.of s5) _ _ xl4
    have xv5 := Dx.keep (.of s5) _ _ xv4
    clear hT4 xl4 xv4 s04 s5
    refine due_step (j := 0) (vj := l) (b := limD dl && !treeB (limsOf dl)) (due2 := dueLeast l dl) rfl (fun R hR => ?_) (fun hb H' s' => ?_) (fun hb => ?_) (fun y6 H6 s6 hy6 => ?_)
    · refine ⟨y5, rfl, rfl, _, rfl, ?_⟩
      cases hl : limD dl with
      | false =>
        have hyn : y5 ≠ .non := fun e => by
          unfold dueLim at hy5
          rw [if_neg (by rw [hl]; exact Bool.false_ne_true)] at hy5
          obtain ⟨tp, _, _, e2, _⟩ := hy5
          rw [e2] at e; cases e
        rw [decide_eq_false hyn]
        rw [hl] at hR
        exact hR H5 (Same.refl _)
      | true =>
        have hyn : y5 = .non := by
          unfold dueLim at hy5
          rw [if_pos hl] at hy5
          exact hy5
        rw [decide_eq_true hyn]
        show if true = true then _ else _
        rw [if_pos rfl]
        obtain ⟨t, ls, rfl, rfl, ne, e1, L⟩ := limD_ex xl5 hl
        rw [limsOf_ints] at hR
        rw [hl, Bool.true_and] at hR
        refine ⟨.ref t, rfl, t, ls.map V.int, rfl, .inr (sqt_of e1), _, _, rfl, rfl, _, rfl, ?_⟩
        rw [List.length_map]
        unfold treeB at hR
        rw [Bool.not_not] at hR
        by_cases h1 : (1 : Int) < (ls.length : Nat)
        · rw [decide_eq_true (show 1 < ls.length by omega), Bool.true_and] at hR
          rw [decide_eq_true h1]
          show if true = true then _ else _
          rw [if_pos rfl]
          refine ⟨.ref t, rfl, t, ls, rfl, sqt_of e1, by omega, fun m hm hle => ⟨rfl, _, rfl, ?_⟩⟩
          by_cases h2 : m = 0
          · rw [decide_eq_true (show V.int m = V.int 0 by rw [h2])]
            show if true = true then _ else _
            rw [if_pos rfl]
            rw [decide_eq_true (show (0 : Int) ∈ ls by rw [← h2]; exact hm)] at hR
            exact hR H5 (Same.refl _)
          · rw [decide_eq_false (show ¬ V.int m = V.int 0 from fun e => h2 (V.int.inj e))]
            show if false = true then _ else _
            rw [if_neg Bool.false_ne_true]
            have h0 : ¬ (0 : Int) ∈ ls := fun h0 => by
              have a1 := hle 0 h0
              have a2 := (L.each m hm).1
              omega
            rw [decide_eq_false h0, Bool.false_or] at hR
            refine ⟨.ref t, rfl, t, ls, rfl, sqt_of e1, .ref t, rfl, t, ls.map V.int, rfl, .inr (sqt_of e1), _, _, rfl, rfl, _, _, rfl, rfl, .inl ⟨by decide, by decide⟩, _, _, rfl, rfl, _, rfl, ?_⟩
            rw [List.length_map]
            exact hR H5 (Same.refl _)
        · rw [decide_eq_false (show ¬ 1 < ls.length by omega), Bool.false_and] at hR
          rw [decide_eq_false h1]
          show if false = true then _ else _
          rw [if_neg Bool.false_ne_true]
          exact hR H5 (Same.refl _)
    · have hyk := hy5.ext (ExtN.ofS s')
      unfold dueLim at hyk
      unfold dueLeast
      cases hl : limD dl with
      | false =>
        rw [hl, if_neg Bool.false_ne_true] at hyk
        rw [if_neg Bool.false_ne_true]
        exact hyk
      | true =>
        rw [hl, if_pos rfl] at hyk
        rw [hl] at hb
        have ht : treeB (limsOf dl) = true := by simpa using hb
        rw [if_pos rfl, if_pos ht]
        exact hyk
    · rw [Bool.and_eq_true, Bool.not_eq_true'] at hb
      exact ⟨2, dl, a, rfl, by unfold dueLeast; rw [if_pos hb.1, if_neg (by rw [hb.2]; exact Bool.false_ne_true)], xl5, ok2⟩
    have s06 := ExtN.trans s05 (ExtN.ofS s6)
    have hT6 := tabs_same hT5 s6
    have xl6 := Dx.keep (.of s6) _ _ xl5
    have xv6 := Dx.keep (.of s6) _ _ xv5
    clear hy5 hT5 xl5 xv5 s05 s6
    refine cmp_step (i := 2) (T := [(P1, lamQ1), (P2, lamQ2)]) (due := dueLeast l dl) rfl hy6 (fun Q' q' => ?_) (fun H7 s7 hT7 => ?_)
    · refine ⟨hT6, fun f1 c1 H7 s7 hT7 hc1 => fun fs1 h1 ac1 => ⟨f1, _, _, rfl, ac1, hc1, ?_⟩⟩
      have xl7 := Dx.ext (.ofN s7) _ _ xl6
      refine ⟨l, rfl, l, a, dl, rfl, xl7, fun hl => ?_, fun hl ht => ?_, fun hl ht p t qs H8 s8 _ _ _ H9 s9 => ?_⟩
      · exact err_due (c := c) (by decide) xl7 ok0 fun x H8 s8 hx => q' x H8 (ExtN.trans s7 (ExtN.ofS s8)) (tabs_same hT7 s8) (by unfold dueLeast; rw [if_neg (by rw [hl]; exact Bool.false_ne_true)]; exact hx)
      · exact err_due (c := c) (by decide) xl7 ok2 fun x H8 s8 hx => q' x H8 (ExtN.trans s7 (ExtN.ofS s8)) (tabs_same hT7 s8) (by unfold dueLeast; rw [if_pos hl, if_neg (by rw [ht]; exact Bool.false_ne_true)]; exact hx)
      · exact q' .non H9 (ExtN.trans s7 (ExtN.ofS (s8.trans s9))) (tabs_same hT7 (s8.trans s9)) (by unfold dueLeast; rw [if_pos hl, if_pos ht]; rfl)
    have s07 := ExtN.trans s06 s7
    have xl7 := Dx.ext (.ofN s7) _ _ xl6
    have xv7 := Dx.ext (.ofN s7) _ _ xv6
    have hy7 := hy6.ext s7
    clear hy6 hT6 xl6 xv6 s06 s7
    refine r_ret ?_
    have fin : ∀ x H8, ExtN H7 H8 → Tabs [(P1, lamQ1), (P2, lamQ2)] H8 → DueV H8 x (dueLeast l dl) → rReprP [x] H8 (fun x H1 => tCB rReprP (tCons (tVar 2) tNil) [some l, some v, some y6] H1 fun y H2 => rEq x y H2 Q) := fun x H8 s8 hT8 hx => by
      refine repr_due hx ?_
      refine ⟨y6, rfl, r_rp (repr_due (hy7.ext s8) ⟨rfl, ?_⟩)⟩
      rw [decide_eq_true rfl]
      exact q H8 (ExtN.trans s07 s8) hT8
    refine ⟨hT7, fun f1 c1 H8 s8 hT8 hc1 => fun fs1 h1 ac1 => ⟨f1, _, _, rfl, ac1, hc1, ?_⟩⟩
    have xl8 := Dx.ext (.ofN s8) _ _ xl7
    have xv8 := Dx.ext (.ofN s8) _ _ xv7
    refine ⟨l, rfl, v, rfl, l, v, a, dl, d, rfl, xl8, xv8, fun hl => ?_, fun hl ht => ?_, fun hl ht H9 s9 H10 s10 => ?_⟩
    · exact err_due (c := c) (by decide) xl8 ok0 fun x H9 s9 hx => fin x H9 (ExtN.trans s8 (ExtN.ofS s9)) (tabs_same hT8 s9) (by unfold dueLeast; rw [if_neg (by rw [hl]; exact Bool.false_ne_true)]; exact hx)
    · exact err_due (c := c) (by decide) xl8 ok2 fun x H9 s9 hx => fin x H9 (ExtN.trans s8 (ExtN.ofS s9)) (tabs_same hT8 s9) (by unfold dueLeast; rw [if_pos hl, if_neg (by rw [ht]; exact Bool.false_ne_true)]; exact hx)
    · exact fin .non H10 (ExtN.trans s8 (ExtN.ofS (s9.trans s10))) (tabs_same hT8 (s9.trans s10)) (by unfold dueLeast; rw [if_pos hl, if_pos ht]; rfl)
end
end HI

set_option Elab.async false
set_option linter.all false
set_option maxRecDepth 100000
set_option maxHeartbeats 4000000
namespace HI
open PySem PySem.Spec L2 LamX PyProof PyProof.Rows Hw
def oddD1 : List PyData := [.tuple [], .list [.int 1, .int 1], .tuple [.int 1, .int (-1)], .tuple [.int 1, .int 201], .tuple [.int 1, .bool true], .tuple [.int 1, .none], .none, .int 1, .str "11", .tuple [.tuple [.int 1], .tuple [.int 1]], .tuple (List.replicate (201 : Int).toNat (.int 1)), .dict [], .tuple [.int 1, .str "1"]]
def oddD2 : List PyData := [.tuple [.int 0, .int 0], .tuple [.int 1, .int 1, .int 1], .tuple [.int 0, .int 5, .int 5], .tuple [.int 0], .tuple [.int 1, .int 1], .tuple [.int 2, .int 1, .int 1], .tuple (List.replicate (200 : Int).toNat (.int 200))]
def tiT (x y : Int) : PyData := .tuple [.int x, .int y]
def valuesD : List PyData := [.tuple [], .tuple [tiT 0 1], .none, .tuple [tiT 0 1, tiT 0 2], .list [tiT 0 1], .tuple [tiT 1 0], .tuple [tiT 0 1, tiT 1 2], .str "tree", .tuple [tiT 0 1, tiT 0 1]]
def numsD : List PyData := [.int 0, .int 1, .int 2, .int 40, .int 41, .int 200, .int 201, .int (-1), .int 1000000, .int 1000001, .bool true, .none, .str "1", .tuple [.int 1], .int (10 ^ 20), .list [.int 1]]
/-! a number, many times -/
def repD (n : Nat) (i : Int) : PyData := .tuple (List.replicate n (.int i))
theorem rep_show {i : Int} (h : (PyData.int i).showable = true) : ∀ n, PyData.showableAll (List.replicate n (.int i)) = true
  | 0 => by rw [List.replicate_zero, PyData.showableAll]
  | n + 1 => by rw [List.replicate_succ, PyData.showableAll, h, rep_show h n]; rfl
theorem rep_shown {i : Int} : ∀ n, PyData.shownAll (List.replicate n (.int i)) = List.replicate n (PyData.int i).shown
  | 0 => by rw [List.replicate_zero, PyData.shownAll]; rfl
  | n + 1 => by rw [List.replicate_succ, PyData.shownAll, rep_shown n, List.replicate_succ]
theorem rep_depth {i : Int} : ∀ n, PyData.depthAll (List.replicate n (.int i)) = 0
  | 0 => by rw [List.replicate_zero, PyData.depthAll]
  | n + 1 => by rw [List.replicate_succ, PyData.depthAll, rep_depth n, PyData.depth]; rfl
theorem rep_lay {i : Int} : ∀ n, PyData.canLayAll0 (List.replicate n (.int i)) = true
  | 0 => by rw [List.replicate_zero, PyData.canLayAll0]
  | n + 1 => by rw [List.replicate_succ, PyData.canLayAll0, rep_lay n, PyData.canLay0]; rfl
theorem rep_nodict {i : Int} : ∀ n, PyData.hasDictAll (List.replicate n (.int i)) = false
  | 0 => by rw [List.replicate_zero, PyData.hasDictAll]
  | n + 1 => by rw [List.replicate_succ, PyData.hasDictAll, rep_nodict n, PyData.hasDict]; rfl
theorem rep_eqv {i : Int} : ∀ n, PyData.eqvAll (List.replicate n (.int i)) (List.replicate n (.int i)) = true
  | 0 => by rw [List.replicate_zero, PyData.eqvAll]
  | n + 1 => by rw [List.replicate_succ, PyData.eqvAll, rep_eqv n, PyData.eqv]; simp
theorem piled_rep (z : Str) : ∀ n, piled (List.replicate n z) = n * (z.length + 2)
  | 0 => by rw [List.replicate_zero, Nat.zero_mul]; rfl
  | n + 1 => by
    rw [List.replicate_succ]
    show z.length + 2 + piled (List.replicate n z) = _
    rw [piled_rep z n, Nat.add_mul]
    omega
theorem sh_tup (xs : List PyData) : (PyData.tuple xs).shown = tupleText (PyData.shownAll xs) := by rw [PyData.shown]
theorem rep_len {n : Nat} {i : Int} (hn : 2 ≤ n) : (repD n i).shown.length = n * ((PyData.int i).shown.length + 2) := by
  unfold repD
  rw [sh_tup, rep_shown]
  unfold tupleText
  have hne : List.replicate n (PyData.int i).shown ≠ [] := fun e => by
    have := congrArg List.length e
    rw [List.length_replicate] at this
    simp at this
    omega
  have h1 := join_length_add _ hne
  rw [piled_rep] at h1
  rw [List.length_replicate, app_len, app_len]
  have h2 : (n == 1) = false := beq_eq_false_iff_ne.mpr (by omega)
  rw [h2]
  show 1 + _ + 1 = _
  omega
theorem rep_fine {n : Nat} {i : Int} (hn : 2 ≤ n) (hs : (PyData.int i).showable = true) (hl : n * ((PyData.int i).shown.length + 2) ≤ 1000) : fineD (repD n i) = true := by
  have e := rep_len (i := i) hn
  have hd : (repD n i).depth ≤ 60 := by unfold repD; rw [PyData.depth, rep_depth]; decide
  have h1 : (repD n i).showable = true := by unfold repD; rw [PyData.showable]; exact rep_show hs n
  have h2 : (repD n i).hasDict = false := by unfold repD; rw [PyData.hasDict]; exact rep_nodict n
  have h3 : SeqAt.shaped (repD n i) = true := by
    unfold SeqAt.shaped
    rw [decide_eq_true (by omega : (repD n i).depth ≤ 64), Bool.and_true]
    unfold repD
    rw [PyData.canLay0]; exact rep_lay n
  have h4 : PyData.eqv (repD n i) (repD n i) = true := by unfold repD; rw [PyData.eqv]; exact rep_eqv n
  unfold fineD
  rw [h1, decide_eq_true hd, decide_eq_true (by rw [e]; exact hl)]
  show (true && (true && (true && (!(repD n i).hasDict && (SeqAt.shaped (repD n i) && PyData.eqv (repD n i) (repD n i)))))) = true
  rw [h2, h3, h4]; rfl
theorem due_len (j : Nat) (d : PyData) : (dueD j d).shown.length = (PyData.list [.str (wordC j)]).shown.length + d.shown.length + 4 := by
  unfold dueD
  rw [sh_tup]
  have e : PyData.shownAll [.list [.str (wordC j)], d] = [(PyData.list [.str (wordC j)]).shown, d.shown] := by rw [PyData.shownAll, PyData.shownAll, PyData.shownAll]
  rw [e]
  unfold tupleText
  rw [app_len, app_len]
  show 1 + ((PyData.list [.str (wordC j)]).shown ++ ", " ++ d.shown : Str).length + 1 = _
  rw [app_len, app_len]
  show 1 + (_ + 2 + _) + 1 = _
  omega
theorem rep_ok {n : Nat} {i : Int} {j : Nat} (hn : 2 ≤ n) (hs : (PyData.int i).showable = true) (hl : n * ((PyData.int i).shown.length + 2) ≤ 1000) (hw : (PyData.list [.str (wordC j)]).shown.length ≤ 100) : reprOk j (repD n i) = true := by
  unfold reprOk
  rw [rep_fine hn hs hl]
  have e1 : (dueD j (repD n i)).showable = true := by
    unfold dueD
    rw [PyData.showable, PyData.showableAll, PyData.showableAll, PyData.showableAll, PyData.showable, PyData.showableAll, PyData.showableAll, PyData.showable]
    unfold repD
    rw [PyData.showable, rep_show hs]; rfl
  have e2 : (dueD j (repD n i)).depth ≤ 60 := by
    unfold dueD repD
    simp only [PyData.depth, PyData.depthAll, rep_depth]
    decide
  have e3 : (dueD j (repD n i)).shown.length ≤ 2000 := by
    rw [due_len, rep_len hn]
    omega
  rw [e1, decide_eq_true e2, decide_eq_true e3]; rfl
def oddS : List PyData := [.tuple [], .list [.int 1, .int 1], .tuple [.int 1, .int (-1)], .tuple [.int 1, .int 201], .tuple [.int 1, .bool true], .tuple [.int 1, .none], .none, .int 1, .str "11", .tuple [.tuple [.int 1], .tuple [.int 1]], .dict [], .tuple [.int 1, .str "1"],
  .tuple [.int 0, .int 0], .tuple [.int 1, .int 1, .int 1], .tuple [.int 0, .int 5, .int 5], .tuple [.int 0], .tuple [.int 1, .int 1], .tuple [.int 2, .int 1, .int 1]]
theorem oddS_ok : (oddS.all fun d => reprOk 0 d && reprOk 2 d) = true := by kernel_rfl
theorem odd_cases {d : PyData} (h : d ∈ oddD1 ++ oddD2) : d ∈ oddS ∨ d = repD 201 1 ∨ d = repD 200 200 := by
  unfold oddD1 oddD2 at h
  unfold oddS repD
  simp only [List.mem_append, List.mem_cons, List.not_mem_nil, or_false] at h ⊢
  rcases h with (h|h|h|h|h|h|h|h|h|h|h|h|h) | (h|h|h|h|h|h|h) <;> subst h <;> first | (exact .inr (.inl rfl)) | (exact .inr (.inr rfl)) | (exact .inl (by simp))
theorem odd_ok {d : PyData} (h : d ∈ oddD1 ++ oddD2) : reprOk 0 d = true ∧ reprOk 2 d = true := by
  rcases odd_cases h with h | rfl | rfl
  · have := List.all_eq_true.mp oddS_ok d h
    rwa [Bool.and_eq_true] at this
  · exact ⟨rep_ok (by decide) (by decide +kernel) (by decide +kernel) (by decide +kernel), rep_ok (by decide) (by decide +kernel) (by decide +kernel) (by decide +kernel)⟩
  · exact ⟨rep_ok (by decide) (by decide +kernel) (by decide +kernel) (by decide +kernel), rep_ok (by decide) (by decide +kernel) (by decide +kernel) (by decide +kernel)⟩
theorem values_ok : (valuesD.all fun d => reprOk 1 d) = true := by kernel_rfl
theorem nums_ok : (numsD.all fun d => reprOk 3 d && reprOk 2 d) = true := by kernel_rfl
theorem dx_rep {a : Addr} {H : Hp} (i : Int) : ∀ n, DxAll a H (List.replicate n (V.int i)) (List.replicate n (PyData.int i))
  | 0 => .nil
  | n + 1 => .cons (.flat rfl) (dx_rep i n)
theorem mk_rep {K : PySem.W.Frag} {i k : Int} (h1 : 2 ≤ k) (h2 : k ≤ 1000) : MkD (tOp (rRepT K) (tTup (tCons (tC (.int i)) tNil)) (tC (.int k))) (.tuple (List.replicate k.toNat (.int i))) := fun a σ H Q ha q => by
  refine ⟨by show 1 ≤ sizeLine; decide, fun p np => ⟨p, k, [.int i], rfl, rfl, sqt_of upd_same, (fun z => nomatch z), h1, h2, by show 1 ≤ 1000; decide, fun t nt => ?_⟩⟩
  rw [flat_rep]
  have s1 := same_upd (o := .tup [.int i]) np
  have s2 := same_upd (o := .tup (List.replicate k.toNat (.int i))) nt
  exact q _ _ (s1.trans s2) (.tup upd_same (fun e => same_some s1 ha (e ▸ nt)) (dx_rep i _))
theorem mk_pow20 : MkD (tOp (rI CPowW fun i j => .int (i ^ j.toNat)) (tC (.int 10)) (tC (.int 20))) (.int (10 ^ 20)) := fun a σ H Q _ q => ⟨10, 20, rfl, rfl, ⟨by decide, by decide⟩, q _ H (Same.refl H) (.flat rfl)⟩
abbrev tI (i : Int) : TE := tC (.int i)
def mkI {i : Int} : MkD (tI i) (.int i) := mk_c rfl
def mkT1 {ta : TA} {ds : List PyData} (h : MkA ta ds) (hl : decide (ds.length ≤ 1000) = true) : MkD (tTup ta) (.tuple ds) := mk_tup h (of_decide_eq_true hl)
def mkL1 {ta : TA} {ds : List PyData} (h : MkA ta ds) (hl : decide (ds.length ≤ 1000) = true) : MkD (tLst ta) (.list ds) := mk_lst h (of_decide_eq_true hl)
/-- without lists and dicts -/
def plainT : PyData → Bool
  | .tuple ds => ds.all fun d => match d with | .int _ => true | _ => false
  | _ => false
theorem flat_all {a b : Addr} {H : Hp} : ∀ {xs : List V} {ds : List PyData}, DxAll a H xs ds → (ds.all fun d => match d with | .int _ => true | _ => false) = true → DxAll b H xs ds
  | _, _, .nil, _ => .nil
  | _, _, .cons (d := d) x t, h => by
    rw [List.all_cons, Bool.and_eq_true] at h
    refine .cons ?_ (flat_all t h.2)
    cases d with
    | int i =>
      obtain rfl := x.int
      exact .flat rfl
    | _ => cases h.1
theorem plain_swap {a b : Addr} {H : Hp} {ys : List V} (e : H b = some (.lst ys)) : ∀ {xs : List V} {ds : List PyData}, DxAll a H xs ds → ds.all plainT = true → DxAll b H xs ds
  | _, _, .nil, _ => .nil
  | _, _, .cons (d := d) x t, h => by
    rw [List.all_cons, Bool.and_eq_true] at h
    refine .cons ?_ (plain_swap e t h.2)
    cases d with
    | tuple ds =>
      obtain ⟨p, xs, rfl, e1, _, xa⟩ := dx_tup x
      exact .tup e1 (fun z => by rw [z, e] at e1; cases e1) (flat_all xa h.1)
    | _ => cases h.1
theorem odd2_plain : oddD2.all plainT = true := by kernel_rfl
/-! what is due of numbers -/
def dueRoom (u v : V) (d e : PyData) : Due := if withinD 0 40 d = true then (if withinD 1 200 e = true then none else some (3, v, e)) else some (3, u, d)
def dueF1 (u v : V) (d e : PyData) : Due := if withinD 1 1000000 d = true then (if withinD 1 200 e = true then none else some (3, v, e)) else some (3, u, d)
def dueFloor (u v : V) (d e : PyData) : Due := if withinD 1 1000000 d = true then (if withinD 1 200 e = true then (if (oneD e && gtTwoD d) = true then some (2, v, e) else none) else some (3, v, e)) else some (3, u, d)
theorem due_stepG {D : Ends} {u : TS} {σ : L2.St} {y : V} {H : Hp} {t : TT} {j jd : Nat} {z : Str} {vj : V} {b : Bool} {due2 : Due} (hy : σ.set jd (some y) = σ) (hj : σ[j]? = some (some vj)) (ht : ∀ R : Bool → Hp → Prop, (∀ H', Same H H' → R b H') → t σ H R)
    (hf : b = false → ∀ H', Same H H' → DueV H' y due2) (htr : b = true → ∃ i d a, z = wordC i ∧ due2 = some (i, vj, d) ∧ Dx a H vj d ∧ reprOk i d = true) (q : ∀ y' H2, Same H H2 → DueV H2 y' due2 → u D (σ.set jd (some y')) H2) :
    tSeq (tIfS t (tAsg (tTup (tCons (tLstB (tCons (tC (.str z)) tNil)) (tCons (tVar j) tNil))) (gName jd)) tNext) u D σ H := by
  refine rs_no ?_
  refine ht _ fun H1 s1 => ?_
  cases b with
  | false =>
    show if false = true then _ else _
    rw [if_neg Bool.false_ne_true]
    have := q y H1 s1 (hf rfl H1 s1)
    rwa [hy] at this
  | true =>
    show if true = true then _ else _
    rw [if_pos rfl]
    obtain ⟨i, d, a, rfl, rfl, xd, ok⟩ := htr rfl
    refine ⟨by show 1 ≤ sizeLine; decide, fun p np nsys => ⟨vj, hj, by show 2 ≤ sizeLine; decide, fun tp ntp => ?_⟩⟩
    have s2 := same_upd (o := .lst [.str (wordC i)]) np
    have s3 := same_upd (o := .tup [.ref p, vj]) ntp
    have s13 := (s1.trans s2).trans s3
    exact q _ _ s13 ⟨tp, p, a, rfl, upd_same, s3 _ _ upd_same, nsys, Dx.keep (.of s13) _ _ xd, ok⟩
/-- due = (["number"], ..) if not .. else None -/
theorem due_num {lo hi : Int} {σ : L2.St} {j : Nat} {u : V} {d : PyData} {a : Addr} {H : Hp} {Q : VK} (h0 : σ[j]? = some (some u)) (xu : Dx a H u d) (ok : reprOk 3 d = true) (q : ∀ y H1, Same H H1 → DueV H1 y (if withinD lo hi d = true then none else some (3, u, d)) → Q y H1) :
    tIf (tNot (tB (tCall spWithinA [] E0 (tCons (tVar j) (tCons (tC (.int lo)) (tCons (tC (.int hi)) tNil)))))) (tTup (tCons (tLstB (tCons (tC (.str "number")) tNil)) (tCons (tVar j) tNil))) (tC .non) σ H Q := by
  refine ⟨u, h0, u, a, d, lo, hi, rfl, xu, _, rfl, ?_⟩
  cases hw : withinD lo hi d with
  | true =>
    show if false = true then _ else _
    rw [if_neg Bool.false_ne_true]
    exact q _ H (Same.refl _) (by rw [if_pos hw]; rfl)
  | false =>
    show if true = true then _ else _
    rw [if_pos rfl]
    refine ⟨by show 1 ≤ sizeLine; decide, fun p np nsys => ⟨u, h0, by show 2 ≤ sizeLine; decide, fun tp ntp => ?_⟩⟩
    have s2 := same_upd (o := .lst [.str "number"]) np
    have s3 := same_upd (o := .tup [.ref p, u]) ntp
    have s13 := s2.trans s3
    exact q _ _ s13 (by rw [if_neg (by rw [hw]; exact Bool.false_ne_true)]; exact ⟨tp, p, a, rfl, upd_same, s3 _ _ upd_same, nsys, Dx.keep (.of s13) _ _ xu, ok⟩)
theorem lst_raw {ta : TA} {ds : List PyData} {a : Addr} {σ : L2.St} {H : Hp} {Q : VK} (ha : H a ≠ none) (q : ∀ p xs H1, Same H H1 → DxAll a H1 xs ds → H1 p = none → Q (.ref p) (upd H1 p (.lst xs))) (m : MkA ta ds) (hl : ds.length ≤ 1000) : tLst ta σ H Q :=
  m a σ H _ ha fun xs H1 s1 x1 => ⟨by rw [x1.length]; exact Nat.le_of_lt (small1000 hl), fun p np => q p xs H1 s1 x1 np⟩
theorem mem2 {P1 P2 : Addr} {q1 q2 x : Str} (e : x = q2) : (P2, x) ∈ [(P1, q1), (P2, q2)] := by rw [e]; exact List.mem_cons_of_mem _ List.mem_cons_self
theorem uniq2 {P1 P2 : Addr} {q1 q2 x : Str} (hP : P2 ≠ P1) (e : x = q2) : ∀ p ∈ [(P1, q1), (P2, q2)], p.1 = P2 → p.2 = x := fun p hp e1 => by
  rw [e]
  rcases List.mem_cons.mp hp with rfl | hp
  · exact absurd e1.symm hP
  · rw [List.mem_singleton.mp hp]
def spRightT (T : List (Addr × Str)) : Sp := fun vs H Q _ => ∃ (a : Addr) (N : Nat), vs = [.ref a] ∧ Pot H a N ∧ N < 100000 ∧ Tabs T H ∧ ∀ H', ExtA a H H' → Pot H' a (N + 1000) → Tabs T H' → Q (.bl true) H'
theorem tabs_putL {T : List (Addr × Str)} {H : Hp} {D : Addr} {xs ys : List V} (t : Tabs T H) (e : H D = some (.lst xs)) : Tabs T (upd H D (.lst ys)) := tabs_put t e
end HI

set_option Elab.async false
set_option linter.all false
set_option maxRecDepth 100000
set_option maxHeartbeats 4000000
namespace HI
open PySem PySem.Spec L2 LamX PyProof PyProof.Rows Hw
abbrev nR : List Str := ["pot", "odd", "values", "lap", "numbers", "one", "most", "due"]
theorem no_step {T : List (Addr × Str)} {D : Ends} {u A : TS} {σ : L2.St} {H : Hp} {t : TT} (ht : ∀ R : Bool → Hp → Prop, (∀ H', ExtN H H' → Tabs T H' → R false H') → t σ H R) (q : ∀ H2, ExtN H H2 → Tabs T H2 → u D σ H2) : tSeq (tIfS t A tNext) u D σ H := by
  refine rs_no ?_
  refine ht _ fun H1 s1 t1 => ?_
  show if false = true then _ else _
  rw [if_neg Bool.false_ne_true]
  exact q H1 s1 t1
theorem no_end {T : List (Addr × Str)} {D : Ends} {A : TS} {σ : L2.St} {H : Hp} {t : TT} (ht : ∀ R : Bool → Hp → Prop, (∀ H', ExtN H H' → Tabs T H' → R false H') → t σ H R) (q : ∀ H2, ExtN H H2 → Tabs T H2 → D.nx σ H2) : tIfS t A tNext D σ H := by
  refine rs_end ?_
  refine ht _ fun H1 s1 t1 => ?_
  show if false = true then _ else _
  rw [if_neg Bool.false_ne_true]
  exact q H1 s1 t1
theorem due_stepS {D : Ends} {u : TS} {σ : L2.St} {σ2 : V → L2.St} {y : V} {H : Hp} {t : TT} {j jd : Nat} {z : Str} {vj : V} {b : Bool} {due2 : Due} (hσ : ∀ y', σ.set jd (some y') = σ2 y') (hy : σ2 y = σ) (hj : σ[j]? = some (some vj)) (ht : ∀ R : Bool → Hp → Prop, (∀ H', Same H H' → R b H') → t σ H R)
    (hf : b = false → ∀ H', Same H H' → DueV H' y due2) (htr : b = true → ∃ i d a, z = wordC i ∧ due2 = some (i, vj, d) ∧ Dx a H vj d ∧ reprOk i d = true) (q : ∀ y' H2, Same H H2 → DueV H2 y' due2 → u D (σ2 y') H2) :
    tSeq (tIfS t (tAsg (tTup (tCons (tLstB (tCons (tC (.str z)) tNil)) (tCons (tVar j) tNil))) (gName jd)) tNext) u D σ H :=
  due_stepG (by rw [hσ, hy]) hj ht hf htr fun y' H2 s2 hy' => by rw [hσ]; exact q y' H2 s2 hy'
theorem due_not_non {H : Hp} {y : V} {p : Nat × V × PyData} (h : DueV H y (some p)) : y ≠ .non := fun e => by
  obtain ⟨i, v, d⟩ := p
  obtain ⟨tp, _, _, e2, _⟩ := h
  rw [e2] at e; cases e
section
variable {P : Program} {w : World} {K : PySem.W.Frag} {mg : Str → Option Value} {base : Heap}
theorem scRight : FnScope nR ["pot"] (defScope sRight) := ⟨rfl, rfl, rfl, by decide +kernel, rfl, by decide +kernel, by decide +kernel⟩
theorem ok_right {P1 P2 cc CS fO fI fC fL fR fW : Addr} {f : Addr} {c : Nat → Addr} {fd fdO fdI fdC fdL fdR fdW : FuncData} {k m : Nat} (hP : P2 ≠ P1) (F : FunC K "_law_right" "_law_right" sRight f fd cc) (TB : TabB base mg cc P2) (B : Blt mg) (br : mg "repr" = none)
    (GO : FnOk P w K mg base CX0 k fO fdO ["pot", "some"] (spOf2 K)) (gO : mg "_law_of" = some (.ref fO)) (kO : PySem.W.keepIn K (.ref fO) = true) (bO : Binds K fdO ["pot", "some"] [])
    (GI : FnOk P w K mg base CX0 k fI fdI ["value", "least", "most"] spWithinA) (gI : mg "_law_is_int" = some (.ref fI)) (kI : PySem.W.keepIn K (.ref fI) = true) (bI : Binds K fdI ["value", "least", "most"] [])
    (GC : FnGL P w K mg base CX0 k fC fdC ["call"] (spCaught4 P w K mg base m CS c)) (gC : mg "_law_caught" = some (.ref fC)) (kC : PySem.W.keepIn K (.ref fC) = true) (bC : Binds K fdC ["call"] [])
    (GL : FnG P w K mg base CX0 k fL fdL ["limits", "value"] (spLimR [(P1, lamQ1), (P2, lamQ2)])) (gL : mg "_law_is_limits_right" = some (.ref fL)) (kL : PySem.W.keepIn K (.ref fL) = true) (bL : Binds K fdL ["limits", "value"] [])
    (GR : FnOk P w K mg base (L2N.CX P w) m fR fdR ["far", "most"] (spRoomE c)) (gR : mg "tree_room" = some (.ref fR)) (kR : PySem.W.keepIn K (.ref fR) = true) (bR : Binds K fdR ["far", "most"] [])
    (GW : FnOk P w K mg base (L2N.CX P w) m fW fdW ["many", "most"] (spFloorE c)) (gW : mg "web_floor" = some (.ref fW)) (kW : PySem.W.keepIn K (.ref fW) = true) (bW : Binds K fdW ["many", "most"] []) :
    FnG P w K mg base CX0 (k + 1) f fd ["pot"] (spRightT [(P1, lamQ1), (P2, lamQ2)]) := by
  refine funGC F scRight (fun vs H Q E h => ?_) (fun A outer s H vs Q E hr h => ?_)
  · obtain ⟨a, N, rfl, _⟩ := h
    rfl
  · obtain ⟨a, N, rfl, hP0, hN, hT, q⟩ := h
    have hun := hr.r.un
    have h100 : (A.deeper (envOfC "_law_right" (defScope sRight) s.heap.objs.size f (.ref cc))).units + 100 < cLine := by omega
    refine ⟨_, (pss_cons (ps_set (i := 1) scRight.nd rfl (.inl rfl) (pe_lst (pa_cons (pe_tup pa_nil) (pa_cons (pe_lst (pa_cons pe_int (pa_cons pe_int pa_nil))) (pa_cons (pe_tup (pa_cons pe_int (pa_cons (pe_un un_neg pe_int) pa_nil))) (pa_cons (pe_tup (pa_cons pe_int (pa_cons pe_int pa_nil))) (pa_cons (pe_tup (pa_cons pe_int (pa_cons pe_bl pa_nil))) (pa_cons (pe_tup (pa_cons pe_int (pa_cons pe_non pa_nil))) (pa_cons pe_non (pa_cons pe_int (pa_cons pe_str (pa_cons (pe_tup (pa_cons (pe_tup (pa_cons pe_int pa_nil)) (pa_cons (pe_tup (pa_cons pe_int pa_nil)) pa_nil))) (pa_cons (pe_op op_repT (pe_tup (pa_cons pe_int pa_nil)) pe_int) (pa_cons pe_dnewK (pa_cons (pe_tup (pa_cons pe_int (pa_cons pe_str pa_nil))) pa_nil)))))))))))))))
      (pss_cons (ps_expr (pe_bm PySem.F.plainAttrs_list PySem.F.slot_list_extend PySem.F.type_list_extend mt_extend (pv 1) (pa_cons (pe_lst (pa_cons (pe_tup (pa_cons pe_int (pa_cons pe_int pa_nil))) (pa_cons (pe_tup (pa_cons pe_int (pa_cons pe_int (pa_cons pe_int pa_nil)))) (pa_cons (pe_tup (pa_cons pe_int (pa_cons pe_int (pa_cons pe_int pa_nil)))) (pa_cons (pe_tup (pa_cons pe_int pa_nil)) (pa_cons (pe_tup (pa_cons pe_int (pa_cons pe_int pa_nil))) (pa_cons (pe_tup (pa_cons pe_int (pa_cons pe_int (pa_cons pe_int pa_nil)))) (pa_cons (pe_op op_repT (pe_tup (pa_cons pe_int pa_nil)) pe_int) pa_nil)))))))) pa_nil)))
      (pss_cons (ps_set (i := 2) scRight.nd rfl (.inl rfl) (pe_lst (pa_cons (pe_tup pa_nil) (pa_cons (pe_tup (pa_cons (pe_tup (pa_cons pe_int (pa_cons pe_int pa_nil))) pa_nil)) (pa_cons pe_non (pa_cons (pe_tup (pa_cons (pe_tup (pa_cons pe_int (pa_cons pe_int pa_nil))) (pa_cons (pe_tup (pa_cons pe_int (pa_cons pe_int pa_nil))) pa_nil))) (pa_cons (pe_lst (pa_cons (pe_tup (pa_cons pe_int (pa_cons pe_int pa_nil))) pa_nil)) (pa_cons (pe_tup (pa_cons (pe_tup (pa_cons pe_int (pa_cons pe_int pa_nil))) pa_nil)) (pa_cons (pe_tup (pa_cons (pe_tup (pa_cons pe_int (pa_cons pe_int pa_nil))) (pa_cons (pe_tup (pa_cons pe_int (pa_cons pe_int pa_nil))) pa_nil))) (pa_cons pe_str (pa_cons (pe_tup (pa_cons (pe_tup (pa_cons pe_int (pa_cons pe_int pa_nil))) (pa_cons (pe_tup (pa_cons pe_int (pa_cons pe_int pa_nil))) pa_nil))) pa_nil)))))))))))
      (pss_cons (ps_for PassesOwn.never rfl (pi_range1 (by rfl) B.range (pa_cons pe_int pa_nil)) (pg_name (i := 3) scRight.nd rfl (.inl rfl)) (pss_one (ps_if (pt_not (pt_val (pe_callG GL hr (by rfl) gL kL bL .nil pass0 (pa_cons (pe_call GO hr.r (by rfl) gO kO bO .nil pass0 (pa_cons (pv 0) (pa_cons (pv 1) pa_nil))) (pa_cons (pe_call GO hr.r (by rfl) gO kO bO .nil pass0 (pa_cons (pv 0) (pa_cons (pv 2) pa_nil))) pa_nil))))) (pss_one (ps_ret pe_bl)) pss_nil)))
      (pss_cons (ps_set (i := 4) scRight.nd rfl (.inl rfl) (pe_lst (pa_cons pe_int (pa_cons pe_int (pa_cons pe_int (pa_cons pe_int (pa_cons pe_int (pa_cons pe_int (pa_cons pe_int (pa_cons (pe_un un_neg pe_int) (pa_cons pe_int (pa_cons pe_int (pa_cons pe_bl (pa_cons pe_non (pa_cons pe_str (pa_cons (pe_tup (pa_cons pe_int pa_nil)) (pa_cons (pe_op op_powW pe_int pe_int) (pa_cons (pe_lst (pa_cons pe_int pa_nil)) pa_nil))))))))))))))))))
      (pss_cons (ps_for PassesOwn.never rfl (pi_range1 (by rfl) B.range (pa_cons pe_int pa_nil)) (pg_name (i := 3) scRight.nd rfl (.inl rfl)) (pss_cons (ps_asg (pe_tup (pa_cons (pe_call GO hr.r (by rfl) gO kO bO .nil pass0 (pa_cons (pv 0) (pa_cons (pv 4) pa_nil))) (pa_cons (pe_call GO hr.r (by rfl) gO kO bO .nil pass0 (pa_cons (pv 0) (pa_cons (pv 4) pa_nil))) pa_nil))) (pg_tup rfl (pgs_cons (pg_name (i := 5) scRight.nd rfl (.inr rfl)) (pgs_cons (pg_name (i := 6) scRight.nd rfl (.inr rfl)) pgs_nil))))
      (pss_cons (ps_set (i := 7) scRight.nd rfl (.inl rfl) (pe_ifExp (pt_not (pt_val (pe_call GI hr.r (by rfl) gI kI bI .nil pass0 (pa_cons (pv 5) (pa_cons pe_int (pa_cons pe_int pa_nil)))))) (pe_tup (pa_cons (pe_lstB (pa_cons pe_str pa_nil)) (pa_cons (pv 5) pa_nil))) pe_non))
      (pss_cons (ps_if (PW.pt (pw_and (pt_cmpR op_isN (pv 7) pe_non (nomark _)) (pw_and1 (pt_not (pt_val (pe_call GI hr.r (by rfl) gI kI bI .nil pass0 (pa_cons (pv 6) (pa_cons pe_int (pa_cons pe_int pa_nil))))))))) (pss_one (ps_set (i := 7) scRight.nd rfl (.inl rfl) (pe_tup (pa_cons (pe_lstB (pa_cons pe_str pa_nil)) (pa_cons (pv 6) pa_nil))))) pss_nil)
      (pss_cons (ps_if (pt_cmpR op_ne (pe_callB (call_reprP hr.g h100) (by rfl) br PyProof.Rows.boot_repr (pa_cons (pe_lamW (tb := fun E1 => tCall (spRoomE c) [] E1 (tCons (tVar 5) (tCons (tVar 6) tNil))) (CXl := L2N.CX P w) (j := m) (T := [(P1, lamQ1), (P2, lamQ2)]) GC hr (by rfl) gC kC bC .nil pass0 pa_nil TB rfl (mem2 (lamQ2_eq _ _ _)) (uniq2 hP (lamQ2_eq _ _ _)) (lamS_by (sc := defScope sRight) (by decide +kernel)) rfl (fun _ _ _ _ _ => rfl)
          (fun A' outer' s' H' E' f' c' hr' => pe_call GR hr' (by rfl) gR kR bR .nil (L2N.passes_call (L2N.takes_of rfl rfl rfl rfl) (fun _ _ _ _ h => h)) (pa_cons (pv 5) (pa_cons (pv 6) pa_nil)))) pa_nil)) (pe_callB (call_reprP hr.g h100) (by rfl) br PyProof.Rows.boot_repr (pa_cons (pv 7) pa_nil)) (nomark _)) (pss_one (ps_ret pe_bl)) pss_nil)
      (pss_cons (ps_set (i := 7) scRight.nd rfl (.inl rfl) (pe_ifExp (pt_not (pt_val (pe_call GI hr.r (by rfl) gI kI bI .nil pass0 (pa_cons (pv 5) (pa_cons pe_int (pa_cons pe_int pa_nil)))))) (pe_tup (pa_cons (pe_lstB (pa_cons pe_str pa_nil)) (pa_cons (pv 5) pa_nil))) pe_non))
      (pss_cons (ps_if (PW.pt (pw_and (pt_cmpR op_isN (pv 7) pe_non (nomark _)) (pw_and1 (pt_not (pt_val (pe_call GI hr.r (by rfl) gI kI bI .nil pass0 (pa_cons (pv 6) (pa_cons pe_int (pa_cons pe_int pa_nil))))))))) (pss_one (ps_set (i := 7) scRight.nd rfl (.inl rfl) (pe_tup (pa_cons (pe_lstB (pa_cons pe_str pa_nil)) (pa_cons (pv 6) pa_nil))))) pss_nil)
      (pss_cons (ps_if (PW.pt (pw_and (pt_cmpR op_isN (pv 7) pe_non (nomark _)) (pw_and (pt_cmpR op_eq (pv 6) pe_int (nomark _)) (pw_and1 (pt_cmpR op_gt (pv 5) pe_int (nomark _)))))) (pss_one (ps_set (i := 7) scRight.nd rfl (.inl rfl) (pe_tup (pa_cons (pe_lstB (pa_cons pe_str pa_nil)) (pa_cons (pv 6) pa_nil))))) pss_nil)
      (pss_cons (ps_if (PW.pt (pw_and (pt_cmpR op_notN (pv 7) pe_non (nomark _)) (pw_and1 (pt_cmpR op_ne (pe_callB (call_reprP hr.g h100) (by rfl) br PyProof.Rows.boot_repr (pa_cons (pe_lamW (tb := fun E1 => tCall (spFloorE c) [] E1 (tCons (tVar 5) (tCons (tVar 6) tNil))) (CXl := L2N.CX P w) (j := m) (T := [(P1, lamQ1), (P2, lamQ2)]) GC hr (by rfl) gC kC bC .nil pass0 pa_nil TB rfl (mem2 (lamQ2_eq _ _ _)) (uniq2 hP (lamQ2_eq _ _ _)) (lamS_by (sc := defScope sRight) (by decide +kernel)) rfl (fun _ _ _ _ _ => rfl)
          (fun A' outer' s' H' E' f' c' hr' => pe_call GW hr' (by rfl) gW kW bW .nil (L2N.passes_call (L2N.takes_of rfl rfl rfl rfl) (fun _ _ _ _ h => h)) (pa_cons (pv 5) (pa_cons (pv 6) pa_nil)))) pa_nil)) (pe_callB (call_reprP hr.g h100) (by rfl) br PyProof.Rows.boot_repr (pa_cons (pv 7) pa_nil)) (nomark _))))) (pss_one (ps_ret pe_bl)) pss_nil)
      (pss_one (ps_if (PW.pt (pw_and (pt_cmpR op_isN (pv 7) pe_non (nomark _)) (pw_and (pt_cmpR op_gt (pv 6) pe_int (nomark _)) (pw_and1 (pt_cmpR op_notN (pe_lamW (tb := fun E1 => tCall (spFloorE c) [] E1 (tCons (tVar 5) (tCons (tVar 6) tNil))) (CXl := L2N.CX P w) (j := m) (T := [(P1, lamQ1), (P2, lamQ2)]) GC hr (by rfl) gC kC bC .nil pass0 pa_nil TB rfl (mem2 (lamQ2_eq _ _ _)) (uniq2 hP (lamQ2_eq _ _ _)) (lamS_by (sc := defScope sRight) (by decide +kernel)) rfl (fun _ _ _ _ _ => rfl)
          (fun A' outer' s' H' E' f' c' hr' => pe_call GW hr' (by rfl) gW kW bW .nil (L2N.passes_call (L2N.takes_of rfl rfl rfl rfl) (fun _ _ _ _ h => h)) (pa_cons (pv 5) (pa_cons (pv 6) pa_nil)))) pe_non (nomark _)))))) (pss_one (ps_ret pe_bl)) pss_nil)))))))))))
      (pss_one (ps_ret pe_bl)))))))), ?_⟩
    -- odd
    refine rs_set ?_
    refine lst_raw (ds := oddD1) hP0.some (fun pO xs1 H1 s1 x1 npO => ?_) (mkA_cons (mkT1 mkA_nil rfl) (mkA_cons (mkL1 (mkA_cons (mk_c rfl) (mkA_cons (mk_c rfl) mkA_nil)) rfl) (mkA_cons (mkT1 (mkA_cons (mk_c rfl) (mkA_cons mk_neg mkA_nil)) rfl) (mkA_cons (mkT1 (mkA_cons (mk_c rfl) (mkA_cons (mk_c rfl) mkA_nil)) rfl) (mkA_cons (mkT1 (mkA_cons (mk_c rfl) (mkA_cons (mk_c rfl) mkA_nil)) rfl) (mkA_cons (mkT1 (mkA_cons (mk_c rfl) (mkA_cons (mk_c rfl) mkA_nil)) rfl) (mkA_cons (mk_c rfl) (mkA_cons (mk_c rfl) (mkA_cons (mk_c rfl) (mkA_cons (mkT1 (mkA_cons (mkT1 (mkA_cons (mk_c rfl) mkA_nil) rfl) (mkA_cons (mkT1 (mkA_cons (mk_c rfl) mkA_nil) rfl) mkA_nil)) rfl) (mkA_cons (mk_rep (by decide) (by decide)) (mkA_cons mk_dnew (mkA_cons (mkT1 (mkA_cons (mk_c rfl) (mkA_cons (mk_c rfl) mkA_nil)) rfl) mkA_nil))))))))))))) (by decide)
    have x1l := x1.length
    have sO := same_upd (o := .lst xs1) npO
    have eO : (upd H1 pO (.lst xs1)) pO = some (.lst xs1) := upd_same
    have nOa : pO ≠ a := fun z => by
      have := same_some s1 hP0.some
      rw [← z] at this
      exact this npO
    generalize (upd H1 pO (.lst xs1)) = H2 at sO eO ⊢
    -- more of them
    refine rs_bm ⟨.ref pO, rfl, .inl ⟨rfl, _, sql_of eO⟩, ?_⟩
    refine r_cons (lst_raw (ds := oddD2) (a := pO) (by rw [eO]; exact fun z => nomatch z) (fun p2 xs2 H3 s3 x2 np2 => ?_) (mkA_cons (mkT1 (mkA_cons (mk_c rfl) (mkA_cons (mk_c rfl) mkA_nil)) rfl) (mkA_cons (mkT1 (mkA_cons (mk_c rfl) (mkA_cons (mk_c rfl) (mkA_cons (mk_c rfl) mkA_nil))) rfl) (mkA_cons (mkT1 (mkA_cons (mk_c rfl) (mkA_cons (mk_c rfl) (mkA_cons (mk_c rfl) mkA_nil))) rfl) (mkA_cons (mkT1 (mkA_cons (mk_c rfl) mkA_nil) rfl) (mkA_cons (mkT1 (mkA_cons (mk_c rfl) (mkA_cons (mk_c rfl) mkA_nil)) rfl) (mkA_cons (mkT1 (mkA_cons (mk_c rfl) (mkA_cons (mk_c rfl) (mkA_cons (mk_c rfl) mkA_nil))) rfl) (mkA_cons (mk_rep (by decide) (by decide)) mkA_nil))))))) (by decide))
    have x2l := x2.length
    have s4 := same_upd (o := .lst xs2) np2
    refine ⟨pO, p2, _, _, rfl, rfl, s4 _ _ (s3 _ _ eO), upd_same, by rw [x1l, x2l]; exact Nat.le_of_lt (smallM2 (by show 13 + 7 ≤ _; decide)), ?_⟩
    -- all of them beside the pot
    have s13 : Same H1 (upd (upd H3 p2 (.lst xs2)) pO (.lst (xs1 ++ xs2))) := fun b o e => by
      rw [upd_ne (ne_of_none e npO)]
      exact s4 _ _ (s3 _ _ (sO _ _ e))
    have x1' := DxAll.keep (.of s13) _ _ x1
    have hPe : ∃ ys, (upd (upd H3 p2 (.lst xs2)) pO (.lst (xs1 ++ xs2))) a = some (.lst ys) := by
      obtain ⟨x, y, z, e, _⟩ := hP0.ex
      exact ⟨_, s13 _ _ (s1 _ _ e)⟩
    have x2' : DxAll a (upd (upd H3 p2 (.lst xs2)) pO (.lst (xs1 ++ xs2))) xs2 oddD2 := by
      obtain ⟨ys, e⟩ := hPe
      refine plain_swap e (DxAll.keep (a := pO) (fun b o n e => ?_) _ _ x2) odd2_plain
      rw [upd_ne n]
      exact s4 _ _ e
    have xO := x1'.append x2'
    have eO2 : (upd (upd H3 p2 (.lst xs2)) pO (.lst (xs1 ++ xs2))) pO = some (.lst (xs1 ++ xs2)) := upd_same
    have hP2 := (hP0.same s1).same s13
    have hT2 : Tabs [(P1, lamQ1), (P2, lamQ2)] (upd (upd H3 p2 (.lst xs2)) pO (.lst (xs1 ++ xs2))) := tabs_putL (tabs_same (tabs_same (tabs_same (tabs_same hT s1) sO) s3) s4) (s4 _ _ (s3 _ _ eO))
    have s02 : Same H (upd (upd H3 p2 (.lst xs2)) pO (.lst (xs1 ++ xs2))) := s1.trans s13
    have xOl : (xs1 ++ xs2).length = 20 := by rw [xO.length]; rfl
    generalize (upd (upd H3 p2 (.lst xs2)) pO (.lst (xs1 ++ xs2))) = H4 at xO eO2 hP2 hT2 s02 ⊢
    clear x1' x2' hPe s13 s4 np2 x2l x2 s3 eO sO npO x1l x1 s1 hT
    generalize (xs1 ++ xs2) = xo at xO eO2 xOl
    -- values
    refine rs_set ?_
    refine lst_use (ds := valuesD) hP2.some (fun pV xv H5 s5 eV nVa xV => ?_) (mkA_cons (mkT1 mkA_nil rfl) (mkA_cons (mkT1 (mkA_cons (mkT1 (mkA_cons (mk_c rfl) (mkA_cons (mk_c rfl) mkA_nil)) rfl) mkA_nil) rfl) (mkA_cons (mk_c rfl) (mkA_cons (mkT1 (mkA_cons (mkT1 (mkA_cons (mk_c rfl) (mkA_cons (mk_c rfl) mkA_nil)) rfl) (mkA_cons (mkT1 (mkA_cons (mk_c rfl) (mkA_cons (mk_c rfl) mkA_nil)) rfl) mkA_nil)) rfl) (mkA_cons (mkL1 (mkA_cons (mkT1 (mkA_cons (mk_c rfl) (mkA_cons (mk_c rfl) mkA_nil)) rfl) mkA_nil) rfl) (mkA_cons (mkT1 (mkA_cons (mkT1 (mkA_cons (mk_c rfl) (mkA_cons (mk_c rfl) mkA_nil)) rfl) mkA_nil) rfl) (mkA_cons (mkT1 (mkA_cons (mkT1 (mkA_cons (mk_c rfl) (mkA_cons (mk_c rfl) mkA_nil)) rfl) (mkA_cons (mkT1 (mkA_cons (mk_c rfl) (mkA_cons (mk_c rfl) mkA_nil)) rfl) mkA_nil)) rfl) (mkA_cons (mk_c rfl) (mkA_cons (mkT1 (mkA_cons (mkT1 (mkA_cons (mk_c rfl) (mkA_cons (mk_c rfl) mkA_nil)) rfl) (mkA_cons (mkT1 (mkA_cons (mk_c rfl) (mkA_cons (mk_c rfl) mkA_nil)) rfl) mkA_nil)) rfl) mkA_nil))))))))) (by decide)
    have xVl : xv.length = 9 := by rw [xV.length]; rfl
    have hP5 := hP2.same s5
    have hT5 := tabs_same hT2 s5
    have eO5 := s5 _ _ eO2
    have xO5 := DxAll.keep (.of s5) _ _ xO
    have s05 := s02.trans s5
    clear hP2 hT2 eO2 xO s02 s5
    -- the first eight laps
    refine rs_rng 0 8 (fun H' => H' = H5) (fun i σ' H' => ∃ o3, σ' = [some (.ref a), some (.ref pO), some (.ref pV), o3, none, none, none, none] ∧ ExtA a H H' ∧ Pot H' a (N + 2 * i) ∧ Tabs [(P1, lamQ1), (P2, lamQ2)] H' ∧ H' pO = some (.lst xo) ∧ H' pV = some (.lst xv) ∧ DxAll a H' xo (oddD1 ++ oddD2) ∧ DxAll a H' xv valuesD)
      (fun R hR => ⟨8, rfl, by decide, by decide, hR _ rfl⟩) (fun H' e => ⟨none, rfl, by rw [e]; exact .ofS s05, by rw [e]; exact hP5, by rw [e]; exact hT5, by rw [e]; exact eO5, by rw [e]; exact eV, by rw [e]; exact xO5, by rw [e]; exact xV⟩) ?_ ?_
    · clear hP5 hT5 eO5 xO5 s05 eV xV hP0
      rintro i σ' H6 hi ⟨o3, rfl, sx6, hP6, hT6, eO6, eV6, xO6, xV6⟩
      refine r_gname ?_
      refine rs_end ?_
      refine ⟨.ref a, rfl, .ref pO, rfl, .inl ⟨a, pO, xo, N + 2 * i, rfl, hP6, by omega, sql_of eO6, Ne.symm nOa, by omega, by omega, fun i1 vl H7 hvl s7 P7 => ?_⟩⟩
      have eV7 := s7 _ _ nVa eV6
      have eO7 := s7 _ _ nOa eO6
      have xO7 := DxAll.keep s7 _ _ xO6
      have xV7 := DxAll.keep s7 _ _ xV6
      have hT7 := tabs_sx hT6 hP6 s7
      have sx7 := sx6.trans (.ofX s7)
      refine ⟨.ref a, rfl, .ref pV, rfl, .inl ⟨a, pV, xv, N + 2 * i + 1, rfl, P7, by omega, sql_of eV7, Ne.symm nVa, by omega, by omega, fun i2 vv H8 hvv s8 P8 => ?_⟩⟩
      have eV8 := s8 _ _ nVa eV7
      have eO8 := s8 _ _ nOa eO7
      have xO8 := DxAll.keep s8 _ _ xO7
      have xV8 := DxAll.keep s8 _ _ xV7
      have hT8 := tabs_sx hT7 P7 s8
      have sx8 := sx7.trans (.ofX s8)
      obtain ⟨dl, hdl, xl⟩ := DxAll.at xO8 hvl
      obtain ⟨dv, hdv, xvv⟩ := DxAll.at xV8 hvv
      obtain ⟨k0, k2⟩ := odd_ok hdl
      have k1 := List.all_eq_true.mp values_ok dv hdv
      refine ⟨vl, vv, a, dl, dv, rfl, xl, xvv, k0, k2, k1, hT8, fun H9 s9 hT9 => ⟨true, rfl, ?_⟩⟩
      show if false = true then _ else _
      rw [if_neg Bool.false_ne_true]
      have sA : ExtA a H8 H9 := .ofN s9
      exact ⟨_, rfl, sx8.trans sA, (P8.ext s9).mono (by omega), hT9, sA.lst nOa eO8, sA.lst nVa eV8, DxAll.ext sA _ _ xO8, DxAll.ext sA _ _ xV8⟩
    rintro σ' H6 ⟨o3, rfl, sx6, hP6, hT6, eO6, eV6, xO6, xV6⟩
    clear hP5 hT5 eO5 xO5 s05 eV xV hP0 eO6 eV6 xO6 xV6 xOl xVl
    -- numbers
    refine rs_set ?_
    refine lst_use (ds := numsD) hP6.some (fun pN xn H7 s7 eN nNa xN => ?_) (mkA_cons (mk_c rfl) (mkA_cons (mk_c rfl) (mkA_cons (mk_c rfl) (mkA_cons (mk_c rfl) (mkA_cons (mk_c rfl) (mkA_cons (mk_c rfl) (mkA_cons (mk_c rfl) (mkA_cons mk_neg (mkA_cons (mk_c rfl) (mkA_cons (mk_c rfl) (mkA_cons (mk_c rfl) (mkA_cons (mk_c rfl) (mkA_cons (mk_c rfl) (mkA_cons (mkT1 (mkA_cons (mk_c rfl) mkA_nil) rfl) (mkA_cons mk_pow20 (mkA_cons (mkL1 (mkA_cons (mk_c rfl) mkA_nil) rfl) mkA_nil)))))))))))))))) (by decide)
    have xNl : xn.length = 16 := by rw [xN.length]; rfl
    have hP7 := hP6.same s7
    have hT7 := tabs_same hT6 s7
    have sx7 := sx6.trans (.ofS s7)
    clear hP6 hT6 sx6 s7
    refine rs_rng 0 8 (fun H' => H' = H7) (fun i σ' H' => ∃ o3 o5 o6 o7, σ' = [some (.ref a), some (.ref pO), some (.ref pV), o3, some (.ref pN), o5, o6, o7] ∧ ExtA a H H' ∧ Pot H' a (N + 16 + 2 * i) ∧ Tabs [(P1, lamQ1), (P2, lamQ2)] H' ∧ H' pN = some (.lst xn) ∧ DxAll a H' xn numsD)
      (fun R hR => ⟨8, rfl, by decide, by decide, hR _ rfl⟩) (fun H' e => ⟨_, _, _, _, rfl, by rw [e]; exact sx7, by rw [e]; exact hP7, by rw [e]; exact hT7, by rw [e]; exact eN, by rw [e]; exact xN⟩) ?_ ?_
    · clear hP7 hT7 sx7 eN xN
      rintro i σ' H8 hi ⟨o3, o5, o6, o7, rfl, sx8, hP8, hT8, eN8, xN8⟩
      refine r_gname ?_
      refine rs_t ?_
      refine ⟨.ref a, rfl, .ref pN, rfl, .inl ⟨a, pN, xn, N + 16 + 2 * i, rfl, hP8, by omega, sql_of eN8, Ne.symm nNa, by omega, by omega, fun i1 v1 H9 hv1 s9 P9 => ?_⟩⟩
      have eN9 := s9 _ _ nNa eN8
      have xN9 := DxAll.keep s9 _ _ xN8
      have hT9 := tabs_sx hT8 hP8 s9
      have sx9 := sx8.trans (.ofX s9)
      refine ⟨.ref a, rfl, .ref pN, rfl, .inl ⟨a, pN, xn, N + 16 + 2 * i + 1, rfl, P9, by omega, sql_of eN9, Ne.symm nNa, by omega, by omega, fun i2 v2 H10 hv2 s10 P10 => ?_⟩⟩
      have eN10 := s10 _ _ nNa eN9
      have xN10 := DxAll.keep s10 _ _ xN9
      have hT10 := tabs_sx hT9 P9 s10
      have sx10 := sx9.trans (.ofX s10)
      obtain ⟨d1, hd1, xu10⟩ := DxAll.at xN10 hv1
      obtain ⟨d2, hd2, xw10⟩ := DxAll.at xN10 hv2
      have k1 := List.all_eq_true.mp nums_ok d1 hd1
      have k2 := List.all_eq_true.mp nums_ok d2 hd2
      rw [Bool.and_eq_true] at k1 k2
      clear eN9 xN9 hT9 sx9 P9 s9 s10 hv1 hv2 hd1 hd2 sx8 hP8 hT8 eN8 xN8
      refine ⟨by show 2 ≤ sizeLine; decide, fun tp ntp => g2_of (sqt_of upd_same) ?_⟩
      have s11 := same_upd (o := .tup [v1, v2]) ntp
      have eN11 := s11 _ _ eN10
      have xN11 := DxAll.keep (.of s11) _ _ xN10
      have xu := Dx.keep (.of s11) _ _ xu10
      have xw := Dx.keep (.of s11) _ _ xw10
      have hT11 := tabs_same hT10 s11
      have sx11 := sx10.trans (.ofS s11)
      have P11 := P10.same s11
      generalize (upd H10 tp (.tup [v1, v2])) = H11 at eN11 xN11 xu xw hT11 sx11 P11 ⊢
      clear s11 ntp eN10 xN10 xu10 xw10 hT10 sx10 P10
      -- what stays from here on
      have keep : ∀ H', ExtN H11 H' → Tabs [(P1, lamQ1), (P2, lamQ2)] H' → ∃ o3 o5 o6 o7, ([some (.ref a), some (.ref pO), some (.ref pV), o3, some (.ref pN), o5, o6, o7] : L2.St) = [some (.ref a), some (.ref pO), some (.ref pV), o3, some (.ref pN), o5, o6, o7] ∧ ExtA a H H' ∧ Pot H' a (N + 16 + 2 * (i + 1)) ∧ Tabs [(P1, lamQ1), (P2, lamQ2)] H' ∧ H' pN = some (.lst xn) ∧ DxAll a H' xn numsD := fun H' s' t' =>
        ⟨none, none, none, none, rfl, sx11.trans (.ofN s'), (P11.ext s').mono (by omega), t', (ExtA.ofN s').lst nNa eN11, DxAll.ext (.ofN s') _ _ xN11⟩
      clear eN11 xN11 sx11 P11
      -- rooms
      refine rs_set ?_
      refine due_num (j := 5) rfl xu k1.1 fun y1 H12 s12 hy12 => ?_
      have xu12 := Dx.keep (.of s12) _ _ xu
      have xw12 := Dx.keep (.of s12) _ _ xw
      have hT12 := tabs_same hT11 s12
      have sN12 : ExtN H11 H12 := ExtN.ofS s12
      clear xu xw hT11 s12
      refine due_stepS (σ2 := fun y' => [some (.ref a), some (.ref pO), some (.ref pV), some (.int (0 + (i : Int))), some (.ref pN), some v1, some v2, some y']) (jd := 7) (j := 6) (vj := v2) (y := y1) (b := withinD 0 40 d1 && !withinD 1 200 d2) (due2 := dueRoom v1 v2 d1 d2) (fun _ => rfl) rfl rfl (fun R hR => ?_) (fun hb H' s' => ?_) (fun hb => ?_) (fun y2 H13 s13 hy13 => ?_)
      · refine ⟨y1, rfl, rfl, _, rfl, ?_⟩
        cases hl : withinD 0 40 d1 with
        | false =>
          rw [hl, if_neg Bool.false_ne_true] at hy12
          rw [decide_eq_false (due_not_non hy12)]
          rw [hl] at hR
          exact hR H12 (Same.refl _)
        | true =>
          rw [hl, if_pos rfl] at hy12
          rw [decide_eq_true (show y1 = .non from hy12)]
          show if true = true then _ else _
          rw [if_pos rfl]
          rw [hl, Bool.true_and] at hR
          exact ⟨v2, rfl, v2, a, d2, 1, 200, rfl, xw12, _, rfl, hR H12 (Same.refl _)⟩
      · have hyk := hy12.ext (ExtN.ofS s')
        unfold dueRoom
        cases hl : withinD 0 40 d1 with
        | false =>
          rw [hl, if_neg Bool.false_ne_true] at hyk
          rw [if_neg Bool.false_ne_true]
          exact hyk
        | true =>
          rw [hl, if_pos rfl] at hyk
          rw [hl] at hb
          have ht : withinD 1 200 d2 = true := by simpa using hb
          rw [if_pos rfl, if_pos ht]
          exact hyk
      · rw [Bool.and_eq_true, Bool.not_eq_true'] at hb
        exact ⟨3, d2, a, rfl, by unfold dueRoom; rw [if_pos hb.1, if_neg (by rw [hb.2]; exact Bool.false_ne_true)], xw12, k2.1⟩
      have sN13 : ExtN H11 H13 := ExtN.trans sN12 (ExtN.ofS s13)
      have hT13 := tabs_same hT12 s13
      have xu13 := Dx.keep (.of s13) _ _ xu12
      have xw13 := Dx.keep (.of s13) _ _ xw12
      clear hy12 xu12 xw12 hT12 sN12 s13
      refine cmp_step (i := 7) (T := [(P1, lamQ1), (P2, lamQ2)]) (due := dueRoom v1 v2 d1 d2) rfl hy13 (fun Q' q' => ?_) (fun H14 s14 hT14 => ?_)
      · refine ⟨hT13, fun f1 c1 H14 s14 hT14 hc1 => fun fs1 h1 ac1 => ⟨f1, _, _, rfl, ac1, hc1, ?_⟩⟩
        have xu14 := Dx.ext (.ofN s14) _ _ xu13
        have xw14 := Dx.ext (.ofN s14) _ _ xw13
        refine ⟨v1, rfl, v2, rfl, v1, v2, a, d1, d2, rfl, xu14, xw14, fun h1 => ?_, fun h1 h2 => ?_, fun h1 h2 n m e1 e2 H15 s15 => ?_⟩
        · exact err_due (c := c) (by decide) xu14 k1.1 fun x H15 s15 hx => q' x H15 (ExtN.trans s14 (ExtN.ofS s15)) (tabs_same hT14 s15) (by unfold dueRoom; rw [if_neg (by rw [h1]; exact Bool.false_ne_true)]; exact hx)
        · exact err_due (c := c) (by decide) xw14 k2.1 fun x H15 s15 hx => q' x H15 (ExtN.trans s14 (ExtN.ofS s15)) (tabs_same hT14 s15) (by unfold dueRoom; rw [if_pos h1, if_neg (by rw [h2]; exact Bool.false_ne_true)]; exact hx)
        · exact q' .non H15 (ExtN.trans s14 (ExtN.ofS s15)) (tabs_same hT14 s15) (by unfold dueRoom; rw [if_pos h1, if_pos h2]; rfl)
      have sN14 := ExtN.trans sN13 s14
      have xu14 := Dx.ext (.ofN s14) _ _ xu13
      have xw14 := Dx.ext (.ofN s14) _ _ xw13
      clear hy13 xu13 xw13 hT13 sN13 s14
      -- floors
      refine rs_set ?_
      refine due_num (j := 5) rfl xu14 k1.1 fun y3 H15 s15 hy15 => ?_
      have xu15 := Dx.keep (.of s15) _ _ xu14
      have xw15 := Dx.keep (.of s15) _ _ xw14
      have hT15 := tabs_same hT14 s15
      have sN15 : ExtN H11 H15 := ExtN.trans sN14 (ExtN.ofS s15)
      clear xu14 xw14 hT14 s15 sN14
      refine due_stepS (σ2 := fun y' => [some (.ref a), some (.ref pO), some (.ref pV), some (.int (0 + (i : Int))), some (.ref pN), some v1, some v2, some y']) (jd := 7) (j := 6) (vj := v2) (y := y3) (b := withinD 1 1000000 d1 && !withinD 1 200 d2) (due2 := dueF1 v1 v2 d1 d2) (fun _ => rfl) rfl rfl (fun R hR => ?_) (fun hb H' s' => ?_) (fun hb => ?_) (fun y4 H16 s16 hy16 => ?_)
      · refine ⟨y3, rfl, rfl, _, rfl, ?_⟩
        cases hl : withinD 1 1000000 d1 with
        | false =>
          rw [hl, if_neg Bool.false_ne_true] at hy15
          rw [decide_eq_false (due_not_non hy15)]
          rw [hl] at hR
          exact hR H15 (Same.refl _)
        | true =>
          rw [hl, if_pos rfl] at hy15
          rw [decide_eq_true (show y3 = .non from hy15)]
          show if true = true then _ else _
          rw [if_pos rfl]
          rw [hl, Bool.true_and] at hR
          exact ⟨v2, rfl, v2, a, d2, 1, 200, rfl, xw15, _, rfl, hR H15 (Same.refl _)⟩
      · have hyk := hy15.ext (ExtN.ofS s')
        unfold dueF1
        cases hl : withinD 1 1000000 d1 with
        | false =>
          rw [hl, if_neg Bool.false_ne_true] at hyk
          rw [if_neg Bool.false_ne_true]
          exact hyk
        | true =>
          rw [hl, if_pos rfl] at hyk
          rw [hl] at hb
          have ht : withinD 1 200 d2 = true := by simpa using hb
          rw [if_pos rfl, if_pos ht]
          exact hyk
      · rw [Bool.and_eq_true, Bool.not_eq_true'] at hb
        exact ⟨3, d2, a, rfl, by unfold dueF1; rw [if_pos hb.1, if_neg (by rw [hb.2]; exact Bool.false_ne_true)], xw15, k2.1⟩
      have sN16 : ExtN H11 H16 := ExtN.trans sN15 (ExtN.ofS s16)
      have hT16 := tabs_same hT15 s16
      have xu16 := Dx.keep (.of s16) _ _ xu15
      have xw16 := Dx.keep (.of s16) _ _ xw15
      clear hy15 xu15 xw15 hT15 sN15 s16
      -- no tree
      refine due_stepS (σ2 := fun y' => [some (.ref a), some (.ref pO), some (.ref pV), some (.int (0 + (i : Int))), some (.ref pN), some v1, some v2, some y']) (jd := 7) (j := 6) (vj := v2) (y := y4) (b := withinD 1 1000000 d1 && (withinD 1 200 d2 && (oneD d2 && gtTwoD d1))) (due2 := dueFloor v1 v2 d1 d2) (fun _ => rfl) rfl rfl (fun R hR => ?_) (fun hb H' s' => ?_) (fun hb => ?_) (fun y5 H17 s17 hy17 => ?_)
      · refine ⟨y4, rfl, rfl, _, rfl, ?_⟩
        unfold dueF1 at hy16
        cases hl : withinD 1 1000000 d1 with
        | false =>
          rw [hl, if_neg Bool.false_ne_true] at hy16
          rw [decide_eq_false (due_not_non hy16)]
          rw [hl] at hR
          exact hR H16 (Same.refl _)
        | true =>
          rw [hl, if_pos rfl] at hy16
          rw [hl, Bool.true_and] at hR
          cases hm : withinD 1 200 d2 with
          | false =>
            rw [hm, if_neg Bool.false_ne_true] at hy16
            rw [decide_eq_false (due_not_non hy16)]
            rw [hm] at hR
            exact hR H16 (Same.refl _)
          | true =>
            rw [hm, if_pos rfl] at hy16
            rw [hm, Bool.true_and] at hR
            rw [decide_eq_true (show y4 = .non from hy16)]
            show if true = true then _ else _
            rw [if_pos rfl]
            obtain ⟨n, rfl, n1, n2⟩ := within_ex hl
            obtain ⟨m, rfl, m1, m2⟩ := within_ex hm
            obtain rfl := xu16.int
            obtain rfl := xw16.int
            have e1 : oneD (.int m) = decide (m = 1) := rfl
            have e2 : gtTwoD (.int n) = decide (2 < n) := rfl
            rw [e1, e2] at hR
            refine ⟨.int m, rfl, rfl, _, rfl, ?_⟩
            by_cases h : m = 1
            · rw [decide_eq_true h, Bool.true_and] at hR
              rw [decide_eq_true (show V.int m = V.int 1 by rw [h])]
              show if true = true then _ else _
              rw [if_pos rfl]
              exact ⟨.int n, rfl, n, 2, rfl, rfl, _, rfl, hR H16 (Same.refl _)⟩
            · rw [decide_eq_false h, Bool.false_and] at hR
              rw [decide_eq_false (show ¬ V.int m = V.int 1 from fun e => h (V.int.inj e))]
              show if false = true then _ else _
              rw [if_neg Bool.false_ne_true]
              exact hR H16 (Same.refl _)
      · have hyk := hy16.ext (ExtN.ofS s')
        unfold dueF1 at hyk
        unfold dueFloor
        cases hl : withinD 1 1000000 d1 with
        | false =>
          rw [hl, if_neg Bool.false_ne_true] at hyk
          rw [if_neg Bool.false_ne_true]
          exact hyk
        | true =>
          rw [hl, if_pos rfl] at hyk
          rw [hl, Bool.true_and] at hb
          rw [if_pos rfl]
          cases hm : withinD 1 200 d2 with
          | false =>
            rw [hm, if_neg Bool.false_ne_true] at hyk
            rw [if_neg Bool.false_ne_true]
            exact hyk
          | true =>
            rw [hm, if_pos rfl] at hyk
            rw [hm, Bool.true_and] at hb
            rw [if_pos rfl, if_neg (by rw [hb]; exact Bool.false_ne_true)]
            exact hyk
      · rw [Bool.and_eq_true, Bool.and_eq_true] at hb
        exact ⟨2, d2, a, rfl, by unfold dueFloor; rw [if_pos hb.1, if_pos hb.2.1, if_pos hb.2.2], xw16, k2.2⟩
      have sN17 : ExtN H11 H17 := ExtN.trans sN16 (ExtN.ofS s17)
      have hT17 := tabs_same hT16 s17
      have xu17 := Dx.keep (.of s17) _ _ xu16
      have xw17 := Dx.keep (.of s17) _ _ xw16
      clear hy16 xu16 xw16 hT16 sN16 s17
      refine no_step (T := [(P1, lamQ1), (P2, lamQ2)]) (fun R hR => ?_) (fun H18 s18 hT18 => ?_)
      · refine ⟨y5, rfl, rfl, _, rfl, ?_⟩
        cases hdu : dueFloor v1 v2 d1 d2 with
        | none =>
          rw [hdu] at hy17
          rw [decide_eq_true (show y5 = .non from hy17)]
          show if false = true then _ else _
          rw [if_neg Bool.false_ne_true]
          exact hR H17 (ExtN.ofS (Same.refl _)) hT17
        | some pd =>
          have hy17' := hy17
          rw [hdu] at hy17'
          rw [decide_eq_false (due_not_non hy17')]
          show if true = true then _ else _
          rw [if_pos rfl]
          have fin : ∀ x H18, ExtN H17 H18 → Tabs [(P1, lamQ1), (P2, lamQ2)] H18 → DueV H18 x (dueFloor v1 v2 d1 d2) → rReprP [x] H18 (fun x H1 => tCB rReprP (tCons (tVar 7) tNil) [some (.ref a), some (.ref pO), some (.ref pV), some (.int (0 + (i : Int))), some (.ref pN), some v1, some v2, some y5] H1 fun y H2 => rNe x y H2 fun x H' => ∃ k, x = V.bl k ∧ R k H') := fun x H18 s18 hT18 hx => by
            refine repr_due hx ?_
            refine ⟨y5, rfl, r_rp (repr_due (hy17.ext s18) ⟨rfl, _, rfl, ?_⟩)⟩
            rw [decide_eq_true rfl]
            exact hR H18 s18 hT18
          refine ⟨hT17, fun f1 c1 H18 s18 hT18 hc1 => fun fs1 h1 ac1 => ⟨f1, _, _, rfl, ac1, hc1, ?_⟩⟩
          have xu18 := Dx.ext (.ofN s18) _ _ xu17
          have xw18 := Dx.ext (.ofN s18) _ _ xw17
          refine ⟨v1, rfl, v2, rfl, v1, v2, a, d1, d2, rfl, xu18, xw18, fun h1 => ?_, fun h1 h2 => ?_, fun h1 h2 h3 => ?_, fun h1 h2 h3 n m r H19 e1 e2 _ s19 H20 s20 => ?_⟩
          · exact err_due (c := c) (by decide) xu18 k1.1 fun x H19 s19 hx => fin x H19 (ExtN.trans s18 (ExtN.ofS s19)) (tabs_same hT18 s19) (by unfold dueFloor; rw [if_neg (by rw [h1]; exact Bool.false_ne_true)]; exact hx)
          · exact err_due (c := c) (by decide) xw18 k2.1 fun x H19 s19 hx => fin x H19 (ExtN.trans s18 (ExtN.ofS s19)) (tabs_same hT18 s19) (by unfold dueFloor; rw [if_pos h1, if_neg (by rw [h2]; exact Bool.false_ne_true)]; exact hx)
          · exact err_due (c := c) (by decide) xw18 k2.2 fun x H19 s19 hx => fin x H19 (ExtN.trans s18 (ExtN.ofS s19)) (tabs_same hT18 s19) (by unfold dueFloor; rw [if_pos h1, if_pos h2, if_pos h3]; exact hx)
          · exact fin .non H20 (ExtN.trans s18 (ExtN.ofS (s19.trans s20))) (tabs_same hT18 (s19.trans s20)) (by unfold dueFloor; rw [if_pos h1, if_pos h2, if_neg (by rw [h3]; exact Bool.false_ne_true)]; rfl)
      have sN18 : ExtN H11 H18 := ExtN.trans sN17 s18
      have xu18 := Dx.ext (.ofN s18) _ _ xu17
      have xw18 := Dx.ext (.ofN s18) _ _ xw17
      have hy18 := hy17.ext s18
      clear hy17 xu17 xw17 hT17 sN17 s18
      refine no_end (T := [(P1, lamQ1), (P2, lamQ2)]) (fun R hR => ?_) (fun H19 s19 hT19 => ?_)
      · refine ⟨y5, rfl, rfl, _, rfl, ?_⟩
        cases hdu : dueFloor v1 v2 d1 d2 with
        | some pd =>
          rw [hdu] at hy18
          rw [decide_eq_false (due_not_non hy18)]
          show if false = true then _ else _
          rw [if_neg Bool.false_ne_true]
          exact hR H18 (ExtN.ofS (Same.refl _)) hT18
        | none =>
          rw [hdu] at hy18
          rw [decide_eq_true (show y5 = .non from hy18)]
          show if true = true then _ else _
          rw [if_pos rfl]
          unfold dueFloor at hdu
          have hl : withinD 1 1000000 d1 = true := by
            cases hl : withinD 1 1000000 d1 with
            | true => rfl
            | false => rw [hl, if_neg Bool.false_ne_true] at hdu; cases hdu
          rw [if_pos hl] at hdu
          have hm : withinD 1 200 d2 = true := by
            cases hm : withinD 1 200 d2 with
            | true => rfl
            | false => rw [hm, if_neg Bool.false_ne_true] at hdu; cases hdu
          rw [if_pos hm] at hdu
          have ho : (oneD d2 && gtTwoD d1) = false := by
            cases ho : (oneD d2 && gtTwoD d1) with
            | false => rfl
            | true => rw [ho, if_pos rfl] at hdu; cases hdu
          obtain ⟨n, rfl, n1, n2⟩ := within_ex hl
          obtain ⟨m, rfl, m1, m2⟩ := within_ex hm
          obtain rfl := xu18.int
          obtain rfl := xw18.int
          refine ⟨.int m, rfl, m, 2, rfl, rfl, _, rfl, ?_⟩
          by_cases h : 2 < m
          · rw [decide_eq_true h]
            show if true = true then _ else _
            rw [if_pos rfl]
            refine ⟨hT18, fun f1 c1 H19 s19 hT19 hc1 => fun fs1 h1 ac1 => ⟨f1, _, _, rfl, ac1, hc1, ?_⟩⟩
            have xu19 := Dx.ext (.ofN s19) _ _ xu18
            have xw19 := Dx.ext (.ofN s19) _ _ xw18
            refine ⟨.int n, rfl, .int m, rfl, .int n, .int m, a, .int n, .int m, rfl, xu19, xw19, fun h1 => ?_, fun h1 h2 => ?_, fun h1 h2 h3 => ?_, fun h1 h2 h3 n' m' r H20 e1 e2 _ s20 H21 s21 => ?_⟩
            · rw [hl] at h1; cases h1
            · rw [hm] at h2; cases h2
            · rw [ho] at h3; cases h3
            · refine ⟨rfl, _, rfl, ?_⟩
              exact hR H21 (ExtN.trans s19 (ExtN.ofS (s20.trans s21))) (tabs_same hT19 (s20.trans s21))
          · rw [decide_eq_false h]
            show if false = true then _ else _
            rw [if_neg Bool.false_ne_true]
            exact hR H18 (ExtN.ofS (Same.refl _)) hT18
      obtain ⟨_, _, _, _, _, r1, r2, r3, r4, r5⟩ := keep H19 (ExtN.trans sN18 s19) hT19
      exact ⟨_, _, _, _, rfl, r1, r2, r3, r4, r5⟩
    · rintro σ' H8 ⟨o3', o5, o6, o7, rfl, sx8, hP8, hT8, _, _⟩
      exact q H8 sx8 (hP8.mono (by omega)) hT8
end
end HI

set_option Elab.async false
set_option linter.all false
set_option maxRecDepth 100000
set_option maxHeartbeats 4000000
namespace HI
open PySem L2 LamX PyProof.Rows Hw
abbrev sLaw : Stmt := topS 45
def spLawT (K : PySem.W.Frag) (T : List (Addr × Str)) : Sp := fun vs H Q _ => ∃ (a : Addr) (ns : List Int), vs = [.ref a] ∧ SqL K H a (ns.map V.int) ∧ ns.length ≤ 63 ∧ Tabs T H ∧ ∀ H', Q (.bl true) H'
section
variable {P : Program} {w : World} {K : PySem.W.Frag} {mg : Str → Option Value} {base : Heap}
theorem scLaw : FnScope ["script", "place"] ["script"] (defScope sLaw) := ⟨rfl, rfl, rfl, by decide +kernel, rfl, by decide +kernel, by decide +kernel⟩
theorem ok_law {T : List (Addr × Str)} {f fP fC fR : Addr} {fd fdP fdC fdR : FuncData} {k : Nat} (F : L2.Fun K "law" "law" sLaw f fd) (ba : mg "all" = none)
    (GP : FnOk P w K mg base CX0 k fP fdP ["script", "place"] (spPot K)) (gP : mg "_law_pot" = some (.ref fP)) (kP : PySem.W.keepIn K (.ref fP) = true) (bP : Binds K fdP ["script", "place"] [])
    (GC : FnOk P w K mg base CX0 k fC fdC ["script", "most"] (spCells K)) (gC : mg "_law_cells" = some (.ref fC)) (kC : PySem.W.keepIn K (.ref fC) = true) (bC : Binds K fdC ["script", "most"] [])
    (GR : FnG P w K mg base CX0 k fR fdR ["pot"] (spRightT T)) (gR : mg "_law_right" = some (.ref fR)) (kR : PySem.W.keepIn K (.ref fR) = true) (bR : Binds K fdR ["pot"] []) :
    FnG P w K mg base CX0 (k + 1) f fd ["script"] (spLawT K T) := by
  refine funG F scLaw (fun vs H Q E h => ?_) (fun cdv A outer s H vs Q E hg h => ?_)
  · obtain ⟨a, ns, rfl, _⟩ := h
    rfl
  · obtain ⟨a, ns, rfl, hS, hl, hT, q⟩ := h
    have hr := hg.r
    refine ⟨_, pss_one (ps_ret (pe_callB (cr_all rfl) (by rfl) ba PyProof.Rows.boot_all (pa_cons (pe_lc (own := [("place", 1)]) (g := gName 1) (tt := tYes) rfl scLaw.nd
      (pi_list (pe_call GC hr (by rfl) gC kC bC .nil pass0 (pa_cons (pv 0) (pa_cons pe_int pa_nil)))) (blkOk_by (N := ["script", "place"]) (sc := defScope sLaw) (by decide +kernel))
      (fun _ _ _ _ _ => pg_name (i := 1) scLaw.nd rfl (Or.inl rfl)) (fun _ _ _ _ _ => pts_nil)
      (fun _ _ _ _ _ => pe_callG GR hg (by rfl) gR kR bR .nil pass0 (pa_cons (pe_call GP hr (by rfl) gP kP bP .nil pass0 (pa_cons (pv 0) (pa_cons (pv 1) pa_nil))) pa_nil))) pa_nil))), ?_⟩
    refine r_ret ?_
    refine ⟨.ref a, rfl, a, ns.map V.int, 3, rfl, hS, by rw [List.length_map]; exact hl, by decide, by decide, fun n p H1 n0 n3 s1 np hp => ?_⟩
    refine ⟨p, rfl, ⟨_, sql_of hp⟩, fun D hD => ?_⟩
    have lenr : ((List.range n).map fun i : Nat => V.int (i : Int)).length = n := by rw [List.length_map, List.length_range]
    refine lc_list (xs := (List.range n).map fun i : Nat => V.int (i : Int)) (fun i H' => ExtN H1 H' ∧ Tabs T H' ∧ H' D = some (.lst (List.replicate i (.bl true)))) ⟨ExtN.ofS (same_upd hD), tabs_same (tabs_same hT s1) (same_upd hD), upd_same⟩ (fun i H' _ h => sql_of (ExtN.lst h.1 hp)) ?_ ?_
    · rintro i x H2 hx ⟨s2, hT2, eD⟩
      rw [List.getElem?_map] at hx
      have hi : i < n := by
        cases e : (List.range n)[i]? with
        | none => rw [e] at hx; cases hx
        | some y =>
          have z := (List.getElem?_eq_some_iff.mp e).1
          rwa [List.length_range] at z
      rw [List.getElem?_range hi] at hx
      obtain rfl : V.int (i : Int) = x := Option.some.inj hx
      refine ⟨rfl, ?_⟩
      refine r_yes ?_
      have hS2 : SqL K H2 a (ns.map V.int) := ExtN.seq s2 (s1.seq hS)
      refine r_call (r_cons (r_call (r_cons (r_var (v := .ref a) rfl (r_cons (r_var (v := .int (i : Int)) rfl ⟨a, ns, i, rfl, hS2, hl, by omega, by omega, fun pp H3 s3 np3 hp3 => ?_⟩))))))
      refine ⟨pp, 0, rfl, hp3, by decide, tabs_same hT2 s3, fun H4 s4 _ hT4 => ?_⟩
      have e4 : H4 D = some (.lst (List.replicate i (.bl true))) := s4.lst (ne_of_none eD np3) (s3 _ _ eD)
      refine ⟨_, e4, small1000 (by rw [List.length_replicate]; omega), fun b o e n => ?_, tabs_put hT4 e4, ?_⟩
      · have nb : b ≠ D := ne_of_none e hD
        rw [upd_ne nb]
        have e2 := s2 _ _ e n
        exact s4 _ _ (ne_of_none e2 np3) n (s3 _ _ e2)
      · rw [upd_same, ← List.replicate_succ']
    · rintro H2 ⟨s2, hT2, eD⟩
      rw [lenr] at eD
      refine ⟨D, List.replicate n true, rfl, sql_of (by rw [eD, List.map_replicate]), ?_⟩
      have e : (List.replicate n true).all id = true := by simp
      rw [e]
      exact q H2
end
end HI

set_option Elab.async false
set_option linter.all false
set_option maxRecDepth 100000
set_option maxHeartbeats 4000000
namespace Hw
open PySem L2 PyProof.Rows
theorem sub_bt {K : PySem.W.Frag} {T : String} {C : Addr} {l : List Value} (h : fastBuiltinMro T = some l) (hl : l.contains (.ref C) = false) : PySem.W.subIn K (.type T) (.ref C) = some false := by
  show (fastBuiltinMro T).map (·.contains (.ref C)) = some false
  rw [h]
  show some (l.contains (.ref C)) = some false
  rw [hl]
theorem kit_no {K : PySem.W.Frag} {T : String} {C : Addr} (hd : PySem.W.hasDictIn K C = true) (hy : PySem.W.typeIn K (.ref C) = some (.type "type")) (hs : PySem.W.subIn K (.type T) (.ref C) = some false) : PySem.W.kitOne K (.type T) (.ref C) = some false := by
  have hc : (PySem.W.clsIn K C).isSome = true := by
    obtain ⟨cd, hc, _⟩ := PySem.W.any_some hd
    rw [hc]; rfl
  unfold PySem.W.kitOne
  rw [if_neg (by simp)]
  show (if ((PySem.W.clsIn K C).isSome && PySem.W.typeIn K (.ref C) == some (.type "type")) = true then PySem.W.subIn K (.type T) (.ref C) else none) = some false
  rw [if_pos (by rw [hc, hy]; simp), hs]

theorem all_mk {l : PySem.W.OpenLaw} {w : World} {K : PySem.W.Frag} {h : Heap} {mg : Str → Option Value} {fa  f0 f1 f2 f3 f4 f5 f6 f7 f8 f9 f10 f11 f12 f13 f14 f15 f16 f17 f18 f19 f20 f21 f22 f23 f24 f25 f26 f27 f28 f29 f30 f31 : Addr} {CS fI E0 E1 E2 E3 cc29 P29 cc30 P30 : Addr} (X : K.In h) (G : h.Ns mainGlobals mg) (hfa : mg "law" = some (.ref fa))
    {odI anI : Option Addr} {slI : Array (Option Value)} {ocI kVI dcI pmI cdI ctI : Value}
    {od0 an0 od1 an1 od2 an2 od3 an3 od4 an4 od5 an5 od6 an6 od7 an7 od8 an8 od9 an9 od10 an10 od11 an11 od12 an12 od13 an13 od14 an14 od15 an15 od16 an16 od17 an17 od18 an18 od19 an19 od20 an20 od21 an21 od22 an22 od23 an23 od24 an24 od25 an25 od26 an26 od27 an27 od28 an28 od29 an29 od30 an30 od31 an31 : Option Addr} {sl0 sl1 sl2 sl3 sl4 sl5 sl6 sl7 sl8 sl9 sl10 sl11 sl12 sl13 sl14 sl15 sl16 sl17 sl18 sl19 sl20 sl21 sl22 sl23 sl24 sl25 sl26 sl27 sl28 sl29 sl30 sl31 : Array (Option Value)} {oc0 kV0 dc0 pm0 cd0 ct0 oc1 kV1 dc1 pm1 cd1 ct1 oc2 kV2 dc2 pm2 cd2 ct2 oc3 kV3 dc3 pm3 cd3 ct3 oc4 kV4 dc4 pm4 cd4 ct4 oc5 kV5 dc5 pm5 cd5 ct5 oc6 kV6 dc6 pm6 cd6 ct6 oc7 kV7 dc7 pm7 cd7 ct7 oc8 kV8 dc8 pm8 cd8 ct8 oc9 kV9 dc9 pm9 cd9 ct9 oc10 kV10 dc10 pm10 cd10 ct10 oc11 kV11 dc11 pm11 cd11 ct11 oc12 kV12 dc12 pm12 cd12 ct12 oc13 kV13 dc13 pm13 cd13 ct13 oc14 kV14 dc14 pm14 cd14 ct14 oc15 kV15 dc15 pm15 cd15 ct15 oc16 kV16 dc16 pm16 cd16 ct16 oc17 kV17 dc17 pm17 cd17 ct17 oc18 kV18 dc18 pm18 cd18 ct18 oc19 kV19 dc19 pm19 cd19 ct19 oc20 kV20 dc20 pm20 cd20 ct20 oc21 kV21 dc21 pm21 cd21 ct21 oc22 kV22 dc22 pm22 cd22 ct22 oc23 kV23 dc23 pm23 cd23 ct23 oc24 kV24 dc24 pm24 cd24 ct24 oc25 kV25 dc25 pm25 cd25 ct25 oc26 kV26 dc26 pm26 cd26 ct26 oc27 kV27 dc27 pm27 cd27 ct27 oc28 kV28 dc28 pm28 cd28 ct28 oc29 kV29 dc29 pm29 ct29 oc30 kV30 dc30 pm30 ct30 oc31 kV31 dc31 pm31 cd31 ct31 : Value} {tk0 tk1 tk2 tk3 : Tok}
    (a0 : PySem.W.nsIn K mainGlobals "is_within" = some (some (.ref f0)))
    (l0 : K.lookup f0 = some ⟨oc0, od0, .func (PySem.W.fnOf "is_within" "is_within" (defArgs sWithin) (defBody sWithin) (defScope sWithin) .none kV0 dc0 pm0 an0 cd0 ct0), sl0⟩)
    (c0 : PySem.W.codeIn K cd0 "is_within" = true)
    (k0 : PySem.W.keepIn K (.ref f0) = true)
    (a1 : PySem.W.nsIn K mainGlobals "ascends" = some (some (.ref f1)))
    (l1 : K.lookup f1 = some ⟨oc1, od1, .func (PySem.W.fnOf "ascends" "ascends" (defArgs HI.sAsc) (defBody HI.sAsc) (defScope HI.sAsc) .none kV1 dc1 pm1 an1 cd1 ct1), sl1⟩)
    (c1 : PySem.W.codeIn K cd1 "ascends" = true)
    (k1 : PySem.W.keepIn K (.ref f1) = true)
    (a2 : PySem.W.nsIn K mainGlobals "pair_of" = some (some (.ref f2)))
    (l2 : K.lookup f2 = some ⟨oc2, od2, .func (PySem.W.fnOf "pair_of" "pair_of" (defArgs HI.sPair) (defBody HI.sPair) (defScope HI.sPair) .none kV2 dc2 pm2 an2 cd2 ct2), sl2⟩)
    (c2 : PySem.W.codeIn K cd2 "pair_of" = true)
    (k2 : PySem.W.keepIn K (.ref f2) = true)
    (a3 : PySem.W.nsIn K mainGlobals "tied_by" = some (some (.ref f3)))
    (l3 : K.lookup f3 = some ⟨oc3, od3, .func (PySem.W.fnOf "tied_by" "tied_by" (defArgs HI.sTied) (defBody HI.sTied) (defScope HI.sTied) .none kV3 dc3 pm3 an3 cd3 ct3), sl3⟩)
    (c3 : PySem.W.codeIn K cd3 "tied_by" = true)
    (k3 : PySem.W.keepIn K (.ref f3) = true)
    (a4 : PySem.W.nsIn K mainGlobals "far_along" = some (some (.ref f4)))
    (l4 : K.lookup f4 = some ⟨oc4, od4, .func (PySem.W.fnOf "far_along" "far_along" (defArgs HI.sAlong) (defBody HI.sAlong) (defScope HI.sAlong) .none kV4 dc4 pm4 an4 cd4 ct4), sl4⟩)
    (c4 : PySem.W.codeIn K cd4 "far_along" = true)
    (k4 : PySem.W.keepIn K (.ref f4) = true)
    (a5 : PySem.W.nsIn K mainGlobals "check_limits" = some (some (.ref f5)))
    (l5 : K.lookup f5 = some ⟨oc5, od5, .func (PySem.W.fnOf "check_limits" "check_limits" (defArgs HI.sChkL) (defBody HI.sChkL) (defScope HI.sChkL) .none kV5 dc5 pm5 an5 cd5 ct5), sl5⟩)
    (c5 : PySem.W.codeIn K cd5 "check_limits" = true)
    (k5 : PySem.W.keepIn K (.ref f5) = true)
    (a6 : PySem.W.nsIn K mainGlobals "check_tree" = some (some (.ref f6)))
    (l6 : K.lookup f6 = some ⟨oc6, od6, .func (PySem.W.fnOf "check_tree" "check_tree" (defArgs HI.sChkT) (defBody HI.sChkT) (defScope HI.sChkT) .none kV6 dc6 pm6 an6 cd6 ct6), sl6⟩)
    (c6 : PySem.W.codeIn K cd6 "check_tree" = true)
    (k6 : PySem.W.keepIn K (.ref f6) = true)
    (a7 : PySem.W.nsIn K mainGlobals "is_tree_for" = some (some (.ref f7)))
    (l7 : K.lookup f7 = some ⟨oc7, od7, .func (PySem.W.fnOf "is_tree_for" "is_tree_for" (defArgs HI.sTreeFor) (defBody HI.sTreeFor) (defScope HI.sTreeFor) .none kV7 dc7 pm7 an7 cd7 ct7), sl7⟩)
    (c7 : PySem.W.codeIn K cd7 "is_tree_for" = true)
    (k7 : PySem.W.keepIn K (.ref f7) = true)
    (a8 : PySem.W.nsIn K mainGlobals "is_tie_of" = some (some (.ref f8)))
    (l8 : K.lookup f8 = some ⟨oc8, od8, .func (PySem.W.fnOf "is_tie_of" "is_tie_of" (defArgs HI.sIsTieOf) (defBody HI.sIsTieOf) (defScope HI.sIsTieOf) .none kV8 dc8 pm8 an8 cd8 ct8), sl8⟩)
    (c8 : PySem.W.codeIn K cd8 "is_tie_of" = true)
    (k8 : PySem.W.keepIn K (.ref f8) = true)
    (a9 : PySem.W.nsIn K mainGlobals "tree_farthest" = some (some (.ref f9)))
    (l9 : K.lookup f9 = some ⟨oc9, od9, .func (PySem.W.fnOf "tree_farthest" "tree_farthest" (defArgs HI.sTreeFar) (defBody HI.sTreeFar) (defScope HI.sTreeFar) .none kV9 dc9 pm9 an9 cd9 ct9), sl9⟩)
    (c9 : PySem.W.codeIn K cd9 "tree_farthest" = true)
    (k9 : PySem.W.keepIn K (.ref f9) = true)
    (a10 : PySem.W.nsIn K mainGlobals "way_through" = some (some (.ref f10)))
    (l10 : K.lookup f10 = some ⟨oc10, od10, .func (PySem.W.fnOf "way_through" "way_through" (defArgs HI.sWay) (defBody HI.sWay) (defScope HI.sWay) .none kV10 dc10 pm10 an10 cd10 ct10), sl10⟩)
    (c10 : PySem.W.codeIn K cd10 "way_through" = true)
    (k10 : PySem.W.keepIn K (.ref f10) = true)
    (a11 : PySem.W.nsIn K mainGlobals "last_reached" = some (some (.ref f11)))
    (l11 : K.lookup f11 = some ⟨oc11, od11, .func (PySem.W.fnOf "last_reached" "last_reached" (defArgs HI.sLast) (defBody HI.sLast) (defScope HI.sLast) .none kV11 dc11 pm11 an11 cd11 ct11), sl11⟩)
    (c11 : PySem.W.codeIn K cd11 "last_reached" = true)
    (k11 : PySem.W.keepIn K (.ref f11) = true)
    (a12 : PySem.W.nsIn K mainGlobals "least_far" = some (some (.ref f12)))
    (l12 : K.lookup f12 = some ⟨oc12, od12, .func (PySem.W.fnOf "least_far" "least_far" (defArgs HI.sLeastF) (defBody HI.sLeastF) (defScope HI.sLeastF) .none kV12 dc12 pm12 an12 cd12 ct12), sl12⟩)
    (c12 : PySem.W.codeIn K cd12 "least_far" = true)
    (k12 : PySem.W.keepIn K (.ref f12) = true)
    (a13 : PySem.W.nsIn K mainGlobals "low_tree" = some (some (.ref f13)))
    (l13 : K.lookup f13 = some ⟨oc13, od13, .func (PySem.W.fnOf "low_tree" "low_tree" (defArgs HI.sLow) (defBody HI.sLow) (defScope HI.sLow) .none kV13 dc13 pm13 an13 cd13 ct13), sl13⟩)
    (c13 : PySem.W.codeIn K cd13 "low_tree" = true)
    (k13 : PySem.W.keepIn K (.ref f13) = true)
    (a14 : PySem.W.nsIn K mainGlobals "shows_least_far" = some (some (.ref f14)))
    (l14 : K.lookup f14 = some ⟨oc14, od14, .func (PySem.W.fnOf "shows_least_far" "shows_least_far" (defArgs HI.sShowsL) (defBody HI.sShowsL) (defScope HI.sShowsL) .none kV14 dc14 pm14 an14 cd14 ct14), sl14⟩)
    (c14 : PySem.W.codeIn K cd14 "shows_least_far" = true)
    (k14 : PySem.W.keepIn K (.ref f14) = true)
    (a15 : PySem.W.nsIn K mainGlobals "tree_room" = some (some (.ref f15)))
    (l15 : K.lookup f15 = some ⟨oc15, od15, .func (PySem.W.fnOf "tree_room" "tree_room" (defArgs HI.sTreeRoom) (defBody HI.sTreeRoom) (defScope HI.sTreeRoom) .none kV15 dc15 pm15 an15 cd15 ct15), sl15⟩)
    (c15 : PySem.W.codeIn K cd15 "tree_room" = true)
    (k15 : PySem.W.keepIn K (.ref f15) = true)
    (a16 : PySem.W.nsIn K mainGlobals "layers" = some (some (.ref f16)))
    (l16 : K.lookup f16 = some ⟨oc16, od16, .func (PySem.W.fnOf "layers" "layers" (defArgs HI.sLayers) (defBody HI.sLayers) (defScope HI.sLayers) .none kV16 dc16 pm16 an16 cd16 ct16), sl16⟩)
    (c16 : PySem.W.codeIn K cd16 "layers" = true)
    (k16 : PySem.W.keepIn K (.ref f16) = true)
    (a17 : PySem.W.nsIn K mainGlobals "web_floor" = some (some (.ref f17)))
    (l17 : K.lookup f17 = some ⟨oc17, od17, .func (PySem.W.fnOf "web_floor" "web_floor" (defArgs HI.sWebFloor) (defBody HI.sWebFloor) (defScope HI.sWebFloor) .none kV17 dc17 pm17 an17 cd17 ct17), sl17⟩)
    (c17 : PySem.W.codeIn K cd17 "web_floor" = true)
    (k17 : PySem.W.keepIn K (.ref f17) = true)
    (a18 : PySem.W.nsIn K mainGlobals "_law_pot" = some (some (.ref f18)))
    (l18 : K.lookup f18 = some ⟨oc18, od18, .func (PySem.W.fnOf "_law_pot" "_law_pot" (defArgs sPot) (defBody sPot) (defScope sPot) .none kV18 dc18 pm18 an18 cd18 ct18), sl18⟩)
    (c18 : PySem.W.codeIn K cd18 "_law_pot" = true)
    (k18 : PySem.W.keepIn K (.ref f18) = true)
    (a19 : PySem.W.nsIn K mainGlobals "_law_take" = some (some (.ref f19)))
    (l19 : K.lookup f19 = some ⟨oc19, od19, .func (PySem.W.fnOf "_law_take" "_law_take" (defArgs sTake) (defBody sTake) (defScope sTake) .none kV19 dc19 pm19 an19 cd19 ct19), sl19⟩)
    (c19 : PySem.W.codeIn K cd19 "_law_take" = true)
    (k19 : PySem.W.keepIn K (.ref f19) = true)
    (a20 : PySem.W.nsIn K mainGlobals "_law_of" = some (some (.ref f20)))
    (l20 : K.lookup f20 = some ⟨oc20, od20, .func (PySem.W.fnOf "_law_of" "_law_of" (defArgs sOf) (defBody sOf) (defScope sOf) .none kV20 dc20 pm20 an20 cd20 ct20), sl20⟩)
    (c20 : PySem.W.codeIn K cd20 "_law_of" = true)
    (k20 : PySem.W.keepIn K (.ref f20) = true)
    (a21 : PySem.W.nsIn K mainGlobals "_law_cells" = some (some (.ref f21)))
    (l21 : K.lookup f21 = some ⟨oc21, od21, .func (PySem.W.fnOf "_law_cells" "_law_cells" (defArgs sCells) (defBody sCells) (defScope sCells) .none kV21 dc21 pm21 an21 cd21 ct21), sl21⟩)
    (c21 : PySem.W.codeIn K cd21 "_law_cells" = true)
    (k21 : PySem.W.keepIn K (.ref f21) = true)
    (a22 : PySem.W.nsIn K mainGlobals "_law_near" = some (some (.ref f22)))
    (l22 : K.lookup f22 = some ⟨oc22, od22, .func (PySem.W.fnOf "_law_near" "_law_near" (defArgs HI.sLNear) (defBody HI.sLNear) (defScope HI.sLNear) .none kV22 dc22 pm22 an22 cd22 ct22), sl22⟩)
    (c22 : PySem.W.codeIn K cd22 "_law_near" = true)
    (k22 : PySem.W.keepIn K (.ref f22) = true)
    (a23 : PySem.W.nsIn K mainGlobals "_law_fars" = some (some (.ref f23)))
    (l23 : K.lookup f23 = some ⟨oc23, od23, .func (PySem.W.fnOf "_law_fars" "_law_fars" (defArgs HI.sLFars) (defBody HI.sLFars) (defScope HI.sLFars) .none kV23 dc23 pm23 an23 cd23 ct23), sl23⟩)
    (c23 : PySem.W.codeIn K cd23 "_law_fars" = true)
    (k23 : PySem.W.keepIn K (.ref f23) = true)
    (a24 : PySem.W.nsIn K mainGlobals "_law_is_int" = some (some (.ref f24)))
    (l24 : K.lookup f24 = some ⟨oc24, od24, .func (PySem.W.fnOf "_law_is_int" "_law_is_int" (defArgs HI.sLisInt) (defBody HI.sLisInt) (defScope HI.sLisInt) .none kV24 dc24 pm24 an24 cd24 ct24), sl24⟩)
    (c24 : PySem.W.codeIn K cd24 "_law_is_int" = true)
    (k24 : PySem.W.keepIn K (.ref f24) = true)
    (a25 : PySem.W.nsIn K mainGlobals "_law_tree_near" = some (some (.ref f25)))
    (l25 : K.lookup f25 = some ⟨oc25, od25, .func (PySem.W.fnOf "_law_tree_near" "_law_tree_near" (defArgs HI.sLTN) (defBody HI.sLTN) (defScope HI.sLTN) .none kV25 dc25 pm25 an25 cd25 ct25), sl25⟩)
    (c25 : PySem.W.codeIn K cd25 "_law_tree_near" = true)
    (k25 : PySem.W.keepIn K (.ref f25) = true)
    (a26 : PySem.W.nsIn K mainGlobals "_law_is_tree" = some (some (.ref f26)))
    (l26 : K.lookup f26 = some ⟨oc26, od26, .func (PySem.W.fnOf "_law_is_tree" "_law_is_tree" (defArgs HI.sLTree) (defBody HI.sLTree) (defScope HI.sLTree) .none kV26 dc26 pm26 an26 cd26 ct26), sl26⟩)
    (c26 : PySem.W.codeIn K cd26 "_law_is_tree" = true)
    (k26 : PySem.W.keepIn K (.ref f26) = true)
    (a27 : PySem.W.nsIn K mainGlobals "_law_caught" = some (some (.ref f27)))
    (l27 : K.lookup f27 = some ⟨oc27, od27, .func (PySem.W.fnOf "_law_caught" "_law_caught" (defArgs HI.sCaught) (defBody HI.sCaught) (defScope HI.sCaught) .none kV27 dc27 pm27 an27 cd27 ct27), sl27⟩)
    (c27 : PySem.W.codeIn K cd27 "_law_caught" = true)
    (k27 : PySem.W.keepIn K (.ref f27) = true)
    (a28 : PySem.W.nsIn K mainGlobals "_law_are_limits" = some (some (.ref f28)))
    (l28 : K.lookup f28 = some ⟨oc28, od28, .func (PySem.W.fnOf "_law_are_limits" "_law_are_limits" (defArgs HI.sAreLim) (defBody HI.sAreLim) (defScope HI.sAreLim) .none kV28 dc28 pm28 an28 cd28 ct28), sl28⟩)
    (c28 : PySem.W.codeIn K cd28 "_law_are_limits" = true)
    (k28 : PySem.W.keepIn K (.ref f28) = true)
    (a29 : PySem.W.nsIn K mainGlobals "_law_is_limits_right" = some (some (.ref f29)))
    (l29 : K.lookup f29 = some ⟨oc29, od29, .func (PySem.W.fnOf "_law_is_limits_right" "_law_is_limits_right" (defArgs HI.sLimR) (defBody HI.sLimR) (defScope HI.sLimR) .none kV29 dc29 pm29 an29 (.ref cc29) ct29), sl29⟩)
    (c29 : PySem.W.codeIn K (.ref cc29) "_law_is_limits_right" = true)
    (k29 : PySem.W.keepIn K (.ref f29) = true)
    (a30 : PySem.W.nsIn K mainGlobals "_law_right" = some (some (.ref f30)))
    (l30 : K.lookup f30 = some ⟨oc30, od30, .func (PySem.W.fnOf "_law_right" "_law_right" (defArgs HI.sRight) (defBody HI.sRight) (defScope HI.sRight) .none kV30 dc30 pm30 an30 (.ref cc30) ct30), sl30⟩)
    (c30 : PySem.W.codeIn K (.ref cc30) "_law_right" = true)
    (k30 : PySem.W.keepIn K (.ref f30) = true)
    (a31 : PySem.W.nsIn K mainGlobals "law" = some (some (.ref f31)))
    (l31 : K.lookup f31 = some ⟨oc31, od31, .func (PySem.W.fnOf "law" "law" (defArgs HI.sLaw) (defBody HI.sLaw) (defScope HI.sLaw) .none kV31 dc31 pm31 an31 cd31 ct31), sl31⟩)
    (c31 : PySem.W.codeIn K cd31 "law" = true)
    (k31 : PySem.W.keepIn K (.ref f31) = true)
    (eG : PySem.W.specialIn K (.builtin "object.__class__") "__get__" = some (some (.builtin "getset_descriptor.__get__")))
    (eT : PySem.W.takesIn K (.builtin "object.__class__") = some true)
    (g_MOST_LIMITS : PySem.W.nsIn K mainGlobals "MOST_LIMITS" = some (some (.int 200 tk0)))
    (g_MOST_TIES : PySem.W.nsIn K mainGlobals "MOST_TIES" = some (some (.int 200 tk1)))
    (g_MOST_FAR : PySem.W.nsIn K mainGlobals "MOST_FAR" = some (some (.int 40 tk2)))
    (g_MOST_MANY : PySem.W.nsIn K mainGlobals "MOST_MANY" = some (some (.int 1000000 tk3)))
    (z0 : PySem.W.nsIn K mainGlobals "len" = some none)
    (z1 : PySem.W.nsIn K mainGlobals "sum" = some none)
    (z2 : PySem.W.nsIn K mainGlobals "int" = some none)
    (z3 : PySem.W.nsIn K mainGlobals "abs" = some none)
    (z4 : PySem.W.nsIn K mainGlobals "list" = some none)
    (z5 : PySem.W.nsIn K mainGlobals "range" = some none)
    (z6 : PySem.W.nsIn K mainGlobals "max" = some none)
    (z7 : PySem.W.nsIn K mainGlobals "min" = some none)
    (z8 : PySem.W.nsIn K mainGlobals "isinstance" = some none)
    (z9 : PySem.W.nsIn K mainGlobals "tuple" = some none)
    (z10 : PySem.W.nsIn K mainGlobals "all" = some none)
    (z11 : PySem.W.nsIn K mainGlobals "zip" = some none)
    (z12 : PySem.W.nsIn K mainGlobals "enumerate" = some none)
    (z13 : PySem.W.nsIn K mainGlobals "sorted" = some none)
    (z14 : PySem.W.nsIn K mainGlobals "repr" = some none)
    (z15 : PySem.W.nsIn K mainGlobals "bool" = some none)
    (z16 : PySem.W.nsIn K mainGlobals "dict" = some none)
    (aCS : PySem.W.nsIn K mainGlobals "HealError" = some (some (.ref CS)))
    (aE0 : PySem.W.nsIn K mainGlobals "BadLimits" = some (some (.ref E0)))
    (aE1 : PySem.W.nsIn K mainGlobals "NotTree" = some (some (.ref E1)))
    (aE2 : PySem.W.nsIn K mainGlobals "NoTree" = some (some (.ref E2)))
    (aE3 : PySem.W.nsIn K mainGlobals "BadNumber" = some (some (.ref E3)))
    (iI : PySem.W.findIn K (.ref CS) "__init__" = some (some (.ref fI)))
    (lI : K.lookup fI = some ⟨ocI, odI, .func (PySem.W.fnOf "__init__" "HealError.__init__" (defArgs sIniH) (defBody sIniH) (defScope sIniH) .none kVI dcI pmI anI cdI ctI), slI⟩)
    (cI : PySem.W.codeIn K cdI "HealError.__init__" = true)
    (kI : PySem.W.keepIn K (.ref fI) = true)
    (xE0 : xclsB K fI E0 = true)
    (hE0 : caughtB K CS E0 = true)
    (tE0_0 : PySem.W.kitOne K (.ref E0) (.ref E0) = some true)
    (tE0_1 : PySem.W.kitOne K (.ref E0) (.ref E1) = some false)
    (tE0_2 : PySem.W.kitOne K (.ref E0) (.ref E2) = some false)
    (tE0_3 : PySem.W.kitOne K (.ref E0) (.ref E3) = some false)
    (xE1 : xclsB K fI E1 = true)
    (hE1 : caughtB K CS E1 = true)
    (tE1_0 : PySem.W.kitOne K (.ref E1) (.ref E0) = some false)
    (tE1_1 : PySem.W.kitOne K (.ref E1) (.ref E1) = some true)
    (tE1_2 : PySem.W.kitOne K (.ref E1) (.ref E2) = some false)
    (tE1_3 : PySem.W.kitOne K (.ref E1) (.ref E3) = some false)
    (xE2 : xclsB K fI E2 = true)
    (hE2 : caughtB K CS E2 = true)
    (tE2_0 : PySem.W.kitOne K (.ref E2) (.ref E0) = some false)
    (tE2_1 : PySem.W.kitOne K (.ref E2) (.ref E1) = some false)
    (tE2_2 : PySem.W.kitOne K (.ref E2) (.ref E2) = some true)
    (tE2_3 : PySem.W.kitOne K (.ref E2) (.ref E3) = some false)
    (xE3 : xclsB K fI E3 = true)
    (hE3 : caughtB K CS E3 = true)
    (tE3_0 : PySem.W.kitOne K (.ref E3) (.ref E0) = some false)
    (tE3_1 : PySem.W.kitOne K (.ref E3) (.ref E1) = some false)
    (tE3_2 : PySem.W.kitOne K (.ref E3) (.ref E2) = some false)
    (tE3_3 : PySem.W.kitOne K (.ref E3) (.ref E3) = some true)
    (tb29 : PySem.W.tabIn K "_law_is_limits_right" = some (cc29, P29))
    (hd29 : PySem.W.codeHdIn K cc29 P29 = true)
    (ow29 : K.lookup P29 = none)
    (tt29 : h.get? P29 = some { cls := .none, data := .fields #[] })
    (tb30 : PySem.W.tabIn K "_law_right" = some (cc30, P30))
    (hd30 : PySem.W.codeHdIn K cc30 P30 = true)
    (ow30 : K.lookup P30 = none)
    (tt30 : h.get? P30 = some { cls := .none, data := .fields #[] })
    (neP : P30 ≠ P29)
    : ∃ fd cs sp, LawG l w K 10 63 "script" mg fa h fd cs sp := by
  have e := hfa.symm.trans (PySem.W.mg_of X G a31)
  cases e
  have B : Blt mg := ⟨PySem.W.mg_none_of X G z0, PySem.W.mg_none_of X G z1, PySem.W.mg_none_of X G z2, PySem.W.mg_none_of X G z3, PySem.W.mg_none_of X G z4, PySem.W.mg_none_of X G z5, PySem.W.mg_none_of X G z6, PySem.W.mg_none_of X G z7⟩
  have h_MOST_LIMITS : ∃ t, mg "MOST_LIMITS" = some (.int 200 t) := ⟨_, PySem.W.mg_of X G g_MOST_LIMITS⟩
  have h_MOST_TIES : ∃ t, mg "MOST_TIES" = some (.int 200 t) := ⟨_, PySem.W.mg_of X G g_MOST_TIES⟩
  have h_MOST_FAR : ∃ t, mg "MOST_FAR" = some (.int 40 t) := ⟨_, PySem.W.mg_of X G g_MOST_FAR⟩
  have h_MOST_MANY : ∃ t, mg "MOST_MANY" = some (.int 1000000 t) := ⟨_, PySem.W.mg_of X G g_MOST_MANY⟩
  have F0 := fun_mk (st := sWithin) l0 c0 k0
  have b0 := F0.binds (ps := ["value", "least", "most"]) fun _ _ _ _ _ _ us hl => match us, hl with | [_, _, _], _ => rfl
  have F1 := fun_mk (st := HI.sAsc) l1 c1 k1
  have b1 := F1.binds (ps := ["values"]) fun _ _ _ _ _ _ us hl => match us, hl with | [_], _ => rfl
  have F2 := fun_mk (st := HI.sPair) l2 c2 k2
  have b2 := F2.binds (ps := ["one", "other"]) fun _ _ _ _ _ _ us hl => match us, hl with | [_, _], _ => rfl
  have F3 := fun_mk (st := HI.sTied) l3 c3 k3
  have b3 := F3.binds (ps := ["places", "ties"]) fun _ _ _ _ _ _ us hl => match us, hl with | [_, _], _ => rfl
  have F4 := fun_mk (st := HI.sAlong) l4 c4 k4
  have b4 := F4.binds (ps := ["tied", "place"]) fun _ _ _ _ _ _ us hl => match us, hl with | [_, _], _ => rfl
  have F5 := fun_mk (st := HI.sChkL) l5 c5 k5
  have b5 := F5.binds (ps := ["value"]) fun _ _ _ _ _ _ us hl => match us, hl with | [_], _ => rfl
  have F6 := fun_mk (st := HI.sChkT) l6 c6 k6
  have b6 := F6.binds (ps := ["limits"]) fun _ _ _ _ _ _ us hl => match us, hl with | [_], _ => rfl
  have F7 := fun_mk (st := HI.sTreeFor) l7 c7 k7
  have b7 := F7.binds (ps := ["limits", "value"]) fun _ _ _ _ _ _ us hl => match us, hl with | [_, _], _ => rfl
  have F8 := fun_mk (st := HI.sIsTieOf) l8 c8 k8
  have b8 := F8.binds (ps := ["value", "many"]) fun _ _ _ _ _ _ us hl => match us, hl with | [_, _], _ => rfl
  have F9 := fun_mk (st := HI.sTreeFar) l9 c9 k9
  have b9 := F9.binds (ps := ["limits", "ties"]) fun _ _ _ _ _ _ us hl => match us, hl with | [_, _], _ => rfl
  have F10 := fun_mk (st := HI.sWay) l10 c10 k10
  have b10 := F10.binds (ps := ["many", "ties"]) fun _ _ _ _ _ _ us hl => match us, hl with | [_, _], _ => rfl
  have F11 := fun_mk (st := HI.sLast) l11 c11 k11
  have b11 := F11.binds (ps := ["tied", "place"]) fun _ _ _ _ _ _ us hl => match us, hl with | [_, _], _ => rfl
  have F12 := fun_mk (st := HI.sLeastF) l12 c12 k12
  have b12 := F12.binds (ps := ["limits"]) fun _ _ _ _ _ _ us hl => match us, hl with | [_], _ => rfl
  have F13 := fun_mk (st := HI.sLow) l13 c13 k13
  have b13 := F13.binds (ps := ["limits"]) fun _ _ _ _ _ _ us hl => match us, hl with | [_], _ => rfl
  have F14 := fun_mk (st := HI.sShowsL) l14 c14 k14
  have b14 := F14.binds (ps := ["limits", "value"]) fun _ _ _ _ _ _ us hl => match us, hl with | [_, _], _ => rfl
  have F15 := fun_mk (st := HI.sTreeRoom) l15 c15 k15
  have b15 := F15.binds (ps := ["far", "most"]) fun _ _ _ _ _ _ us hl => match us, hl with | [_, _], _ => rfl
  have F16 := fun_mk (st := HI.sLayers) l16 c16 k16
  have b16 := F16.binds (ps := ["many", "most"]) fun _ _ _ _ _ _ us hl => match us, hl with | [_, _], _ => rfl
  have F17 := fun_mk (st := HI.sWebFloor) l17 c17 k17
  have b17 := F17.binds (ps := ["many", "most"]) fun _ _ _ _ _ _ us hl => match us, hl with | [_, _], _ => rfl
  have F18 := fun_mk (st := sPot) l18 c18 k18
  have b18 := F18.binds (ps := ["script", "place"]) fun _ _ _ _ _ _ us hl => match us, hl with | [_, _], _ => rfl
  have F19 := fun_mk (st := sTake) l19 c19 k19
  have b19 := F19.binds (ps := ["pot", "upto"]) fun _ _ _ _ _ _ us hl => match us, hl with | [_, _], _ => rfl
  have F20 := fun_mk (st := sOf) l20 c20 k20
  have b20 := F20.binds (ps := ["pot", "some"]) fun _ _ _ _ _ _ us hl => match us, hl with | [_, _], _ => rfl
  have F21 := fun_mk (st := sCells) l21 c21 k21
  have b21 := F21.binds (ps := ["script", "most"]) fun _ _ _ _ _ _ us hl => match us, hl with | [_, _], _ => rfl
  have F22 := fun_mk (st := HI.sLNear) l22 c22 k22
  have b22 := F22.binds (ps := ["places", "ties"]) fun _ _ _ _ _ _ us hl => match us, hl with | [_, _], _ => rfl
  have F23 := fun_mk (st := HI.sLFars) l23 c23 k23
  have b23 := F23.binds (ps := ["near", "name"]) fun _ _ _ _ _ _ us hl => match us, hl with | [_, _], _ => rfl
  have F24 := fun_mk (st := HI.sLisInt) l24 c24 k24
  have b24 := F24.binds (ps := ["value", "least", "most"]) fun _ _ _ _ _ _ us hl => match us, hl with | [_, _, _], _ => rfl
  have F25 := fun_mk (st := HI.sLTN) l25 c25 k25
  have b25 := F25.binds (ps := ["many", "ties"]) fun _ _ _ _ _ _ us hl => match us, hl with | [_, _], _ => rfl
  have F26 := fun_mk (st := HI.sLTree) l26 c26 k26
  have b26 := F26.binds (ps := ["limits", "value"]) fun _ _ _ _ _ _ us hl => match us, hl with | [_, _], _ => rfl
  have F27 := fun_mk (st := HI.sCaught) l27 c27 k27
  have b27 := F27.binds (ps := ["call"]) fun _ _ _ _ _ _ us hl => match us, hl with | [_], _ => rfl
  have F28 := fun_mk (st := HI.sAreLim) l28 c28 k28
  have b28 := F28.binds (ps := ["value"]) fun _ _ _ _ _ _ us hl => match us, hl with | [_], _ => rfl
  have F29 : FunC K "_law_is_limits_right" "_law_is_limits_right" HI.sLimR f29 _ cc29 := ⟨_, _, _, _, _, _, _, _, rfl, l29, c29⟩
  have b29 : Binds K (PySem.W.fnOf "_law_is_limits_right" "_law_is_limits_right" (defArgs HI.sLimR) (defBody HI.sLimR) (defScope HI.sLimR) .none kV29 dc29 pm29 an29 (.ref cc29) ct29) ["limits", "value"] [] := .all fun us hl => match us, hl with | [_, _], _ => rfl
  have F30 : FunC K "_law_right" "_law_right" HI.sRight f30 _ cc30 := ⟨_, _, _, _, _, _, _, _, rfl, l30, c30⟩
  have b30 : Binds K (PySem.W.fnOf "_law_right" "_law_right" (defArgs HI.sRight) (defBody HI.sRight) (defScope HI.sRight) .none kV30 dc30 pm30 an30 (.ref cc30) ct30) ["pot"] [] := .all fun us hl => match us, hl with | [_], _ => rfl
  have F31 := fun_mk (st := HI.sLaw) l31 c31 k31
  have b31 := F31.binds (ps := ["script"]) fun _ _ _ _ _ _ us hl => match us, hl with | [_], _ => rfl
  have FI := fun_mk (st := sIniH) lI cI kI
  have bI := FI.binds (ps := ["self", "value"]) fun _ _ _ _ _ _ us hl => match us, hl with | [_, _], _ => rfl
  have X0 : XCls K fI E0 := xclsB_ok xE0
  have X1 : XCls K fI E1 := xclsB_ok xE1
  have X2 : XCls K fI E2 := xclsB_ok xE2
  have X3 : XCls K fI E3 := xclsB_ok xE3
  refine ⟨(PySem.W.fnOf "law" "law" (defArgs HI.sLaw) (defBody HI.sLaw) (defScope HI.sLaw) .none kV31 dc31 pm31 an31 cd31 ct31), [(cc29, P29), (cc30, P30)], (HI.spLawT K [(P29, HI.lamQ1), (P30, HI.lamQ2)]), ⟨(fun p hp => by
      rcases List.mem_cons.mp hp with rfl | hp
      · exact tt29
      · rw [List.mem_singleton.mp hp]; exact tt30), (fun p hp => by
      rcases List.mem_cons.mp hp with rfl | hp
      · exact ow29
      · rw [List.mem_singleton.mp hp]; exact ow30), (fun p hp => by
      rcases List.mem_cons.mp hp with rfl | hp
      · exact PySem.W.codeHd_of_K X hd29
      · rw [List.mem_singleton.mp hp]; exact PySem.W.codeHd_of_K X hd30), fun s v => .of_eq rfl, (fun H a ns hl _ hT hS => ⟨a, ns, rfl, hS, hl, (fun p hp => by
      rcases List.mem_cons.mp hp with rfl | hp
      · exact LamX.TabS.nil (hT _ List.mem_cons_self)
      · rw [List.mem_singleton.mp hp]; exact LamX.TabS.nil (hT _ (List.mem_cons_of_mem _ List.mem_cons_self))), fun _ => rfl⟩), fun base _ _ hTB => ?_⟩⟩
  have TB29 := hTB (cc29, P29) List.mem_cons_self
  have TB30 := hTB (cc30, P30) (List.mem_cons_of_mem _ List.mem_cons_self)
  have GI0 : FnOk l.prog w K mg base CX0 1 fI _ ["self", "value"] (spIniX K) := ok_iniH FI
  let c : Nat → Addr := fun i => match i with | 0 => E0 | 1 => E1 | 2 => E2 | _ => E3
  have C4 : HI.Cls4 K CS c := ⟨fun i hi dd => match i, hi with | 0, _ => caught_by hE0 | 1, _ => caught_by hE1 | 2, _ => caught_by hE2 | 3, _ => caught_by hE3, fun i j hi hj => match i, j, hi, hj with | 0, 0, _, _ => tE0_0 | 0, 1, _, _ => tE0_1 | 0, 2, _, _ => tE0_2 | 0, 3, _, _ => tE0_3 | 1, 0, _, _ => tE1_0 | 1, 1, _, _ => tE1_1 | 1, 2, _, _ => tE1_2 | 1, 3, _, _ => tE1_3 | 2, 0, _, _ => tE2_0 | 2, 1, _, _ => tE2_1 | 2, 2, _, _ => tE2_2 | 2, 3, _, _ => tE2_3 | 3, 0, _, _ => tE3_0 | 3, 1, _, _ => tE3_1 | 3, 2, _, _ => tE3_2 | 3, 3, _, _ => tE3_3⟩
  have G0 : FnOk l.prog w K mg base CX0 1 f0 _ ["value", "least", "most"] spWithinA := ok_withinA F0 B (PySem.W.mg_none_of X G z8) (PySem.W.mg_none_of X G z15)
  have G1 : FnOk l.prog w K mg base CX0 1 f1 _ ["values"] HI.spAscT := HI.ok_ascT F1 (PySem.W.mg_none_of X G z10) (PySem.W.mg_none_of X G z11)
  have G2 : FnOk l.prog w K mg base CX0 1 f2 _ ["one", "other"] HI.spPairG := HI.ok_pairG F2
  have G3 : FnOk l.prog w K mg base CX0 1 f3 _ ["places", "ties"] HI.spTied := HI.ok_tied F3
  have G4 : FnOk l.prog w K mg base CX0 1 f4 _ ["tied", "place"] HI.spFars := HI.ok_along F4 B
  have G8 : FnOk l.prog w K mg base CX0 2 f8 _ ["value", "many"] HI.spIsTieOf := HI.ok_istieof F8 B (PySem.W.mg_none_of X G z8) (PySem.W.mg_none_of X G z9) (PySem.W.mg_none_of X G z10) G0 (PySem.W.mg_of X G a0) k0 b0
  have G5 : FnOk l.prog w K mg base (L2N.CX l.prog w) 3 f5 _ ["value"] (HI.spChkLim (c 0)) := HI.ok_chklim (j := 1) (by decide) F5 B (PySem.W.mg_none_of X G z8) (PySem.W.mg_none_of X G z9) (PySem.W.mg_none_of X G z10) h_MOST_LIMITS h_MOST_TIES X0 (PySem.W.mg_of X G aE0) GI0 bI (G0.mono (show 1 ≤ 2 by decide)) (PySem.W.mg_of X G a0) k0 b0
  have G6 : FnOk l.prog w K mg base (L2N.CX l.prog w) 3 f6 _ ["limits"] (HI.spChkTree (c 2)) := HI.ok_chktree F6 B X2 (PySem.W.mg_of X G aE2) GI0 bI
  have G7 : FnOk l.prog w K mg base (L2N.CX l.prog w) 4 f7 _ ["limits", "value"] (HI.spIsTree (c 0)) := HI.ok_treefor F7 B (PySem.W.mg_none_of X G z8) (PySem.W.mg_none_of X G z9) (PySem.W.mg_none_of X G z10) (PySem.W.mg_none_of X G z12) G5 (PySem.W.mg_of X G a5) k5 b5 (G8.mono (show 2 ≤ 3 by decide)) (PySem.W.mg_of X G a8) k8 b8 (G1.mono (show 1 ≤ 3 by decide)) (PySem.W.mg_of X G a1) k1 b1 (G3.mono (show 1 ≤ 3 by decide)) (PySem.W.mg_of X G a3) k3 b3 (G4.mono (show 1 ≤ 3 by decide)) (PySem.W.mg_of X G a4) k4 b4
  have G11 : FnOk l.prog w K mg base CX0 2 f11 _ ["tied", "place"] HI.spLast := HI.ok_last F11 B G4 (PySem.W.mg_of X G a4) k4 b4
  have G10 : FnOk l.prog w K mg base CX0 3 f10 _ ["many", "ties"] HI.spWayG := HI.ok_wayG F10 B (G3.mono (show 1 ≤ 2 by decide)) (PySem.W.mg_of X G a3) k3 b3 G11 (PySem.W.mg_of X G a11) k11 b11
  have G9 : FnOk l.prog w K mg base (L2N.CX l.prog w) 5 f9 _ ["limits", "ties"] (HI.spTreeFar c) := HI.ok_treefar (c := c) (j := 1) (by decide) F9 B X1 (PySem.W.mg_of X G aE1) GI0 bI G7 (PySem.W.mg_of X G a7) k7 b7 (G10.mono (show 3 ≤ 4 by decide)) (PySem.W.mg_of X G a10) k10 b10
  have G13 : FnOk l.prog w K mg base CX0 2 f13 _ ["limits"] HI.spLowG := HI.ok_lowG F13 (PySem.W.mg_none_of X G z12) (PySem.W.mg_none_of X G z13) (PySem.W.mg_none_of X G z9) G2 (PySem.W.mg_of X G a2) k2 b2
  have G12 : FnOk l.prog w K mg base (L2N.CX l.prog w) 4 f12 _ ["limits"] (HI.spLeastF c) := HI.ok_leastF (c := c) F12 B G5 (PySem.W.mg_of X G a5) k5 b5 G6 (PySem.W.mg_of X G a6) k6 b6 (G13.mono (show 2 ≤ 3 by decide)) (PySem.W.mg_of X G a13) k13 b13 G10 (PySem.W.mg_of X G a10) k10 b10
  have G14 : FnOk l.prog w K mg base (L2N.CX l.prog w) 5 f14 _ ["limits", "value"] (HI.spShowsL c) := HI.ok_showsL (c := c) F14 B (PySem.W.mg_none_of X G z8) (PySem.W.mg_none_of X G z9) G12 (PySem.W.mg_of X G a12) k12 b12 (G0.mono (show 1 ≤ 4 by decide)) (PySem.W.mg_of X G a0) k0 b0 G7 (PySem.W.mg_of X G a7) k7 b7 (G10.mono (show 3 ≤ 4 by decide)) (PySem.W.mg_of X G a10) k10 b10
  have G16 : FnOk l.prog w K mg base CX0 1 f16 _ ["many", "most"] HI.spLayers := HI.ok_layers F16 B
  have G15 : FnOk l.prog w K mg base (L2N.CX l.prog w) 3 f15 _ ["far", "most"] (HI.spRoomE c) := HI.ok_roomE (c := c) (j := 1) (by decide) F15 h_MOST_FAR h_MOST_TIES X3 (PySem.W.mg_of X G aE3) GI0 bI (G0.mono (show 1 ≤ 2 by decide)) (PySem.W.mg_of X G a0) k0 b0 (G16.mono (show 1 ≤ 2 by decide)) (PySem.W.mg_of X G a16) k16 b16
  have G17 : FnOk l.prog w K mg base (L2N.CX l.prog w) 3 f17 _ ["many", "most"] (HI.spFloorE c) := HI.ok_floorE (c := c) (j := 1) (by decide) F17 h_MOST_MANY h_MOST_TIES X3 (PySem.W.mg_of X G aE3) X2 (PySem.W.mg_of X G aE2) GI0 bI (G0.mono (show 1 ≤ 2 by decide)) (PySem.W.mg_of X G a0) k0 b0
  have G18 : FnOk l.prog w K mg base CX0 1 f18 _ ["script", "place"] (spPot K) := ok_pot F18 B
  have G19 : FnOk l.prog w K mg base CX0 1 f19 _ ["pot", "upto"] spTake := ok_take F19 B
  have G20 : FnOk l.prog w K mg base CX0 2 f20 _ ["pot", "some"] (spOf2 K) := ok_of2 F20 B G19 (PySem.W.mg_of X G a19) k19 b19
  have G21 : FnOk l.prog w K mg base CX0 1 f21 _ ["script", "most"] (spCells K) := ok_cells F21 B
  have G22 : FnOk l.prog w K mg base CX0 1 f22 _ ["places", "ties"] HI.spTied := HI.ok_lnear F22 (PySem.W.mg_none_of X G z16)
  have G23 : FnOk l.prog w K mg base CX0 1 f23 _ ["near", "name"] HI.spFars := HI.ok_lfars F23
  have G24 : FnOk l.prog w K mg base CX0 1 f24 _ ["value", "least", "most"] spWithinA := HI.ok_lisint F24 B (PySem.W.mg_none_of X G z8) (PySem.W.mg_none_of X G z15)
  have G25 : FnOk l.prog w K mg base CX0 2 f25 _ ["many", "ties"] HI.spTreeNear := HI.ok_ltn F25 B G22 (PySem.W.mg_of X G a22) k22 b22
  have G26 : FnOk l.prog w K mg base CX0 3 f26 _ ["limits", "value"] HI.spLTree := HI.ok_ltree F26 B (PySem.W.mg_none_of X G z8) (PySem.W.mg_none_of X G z9) (PySem.W.mg_none_of X G z10) (PySem.W.mg_none_of X G z11) (G24.mono (show 1 ≤ 2 by decide)) (PySem.W.mg_of X G a24) k24 b24 G25 (PySem.W.mg_of X G a25) k25 b25 (G23.mono (show 1 ≤ 2 by decide)) (PySem.W.mg_of X G a23) k23 b23
  have G28 : FnOk l.prog w K mg base CX0 2 f28 _ ["value"] HI.spIsLims := HI.ok_arelim F28 B (PySem.W.mg_none_of X G z8) (PySem.W.mg_none_of X G z9) (PySem.W.mg_none_of X G z10) G24 (PySem.W.mg_of X G a24) k24 b24
  have G27 : FnGL l.prog w K mg base CX0 7 f27 _ ["call"] (HI.spCaught4 l.prog w K mg base 5 CS c) := HI.ok_caught (k := 5) F27 (PySem.W.mg_none_of X G z8) C4 (PySem.W.mg_of X G aCS) (PySem.W.mg_of X G aE0) (PySem.W.mg_of X G aE1) (PySem.W.mg_of X G aE2) (PySem.W.mg_of X G aE3)
  have G29 : FnG l.prog w K mg base CX0 8 f29 _ ["limits", "value"] (HI.spLimR [(P29, HI.lamQ1), (P30, HI.lamQ2)]) := HI.ok_limr (c := c) (m := 5) neP F29 TB29 B (PySem.W.mg_none_of X G z14) (PySem.W.mg_none_of X G z7) C4 (G28.mono (show 2 ≤ 7 by decide)) (PySem.W.mg_of X G a28) k28 b28 G27 (PySem.W.mg_of X G a27) k27 b27 (G26.mono (show 3 ≤ 7 by decide)) (PySem.W.mg_of X G a26) k26 b26 (G7.mono (show 4 ≤ 5 by decide)) (PySem.W.mg_of X G a7) k7 b7 G9 (PySem.W.mg_of X G a9) k9 b9 (G12.mono (show 4 ≤ 5 by decide)) (PySem.W.mg_of X G a12) k12 b12 G14 (PySem.W.mg_of X G a14) k14 b14
  have G30 : FnG l.prog w K mg base CX0 9 f30 _ ["pot"] (HI.spRightT [(P29, HI.lamQ1), (P30, HI.lamQ2)]) := HI.ok_right (c := c) (m := 5) neP F30 TB30 B (PySem.W.mg_none_of X G z14) (G20.mono (show 2 ≤ 8 by decide)) (PySem.W.mg_of X G a20) k20 b20 (G24.mono (show 1 ≤ 8 by decide)) (PySem.W.mg_of X G a24) k24 b24 (G27.mono (show 7 ≤ 8 by decide)) (PySem.W.mg_of X G a27) k27 b27 G29 (PySem.W.mg_of X G a29) k29 b29 (G15.mono (show 3 ≤ 5 by decide)) (PySem.W.mg_of X G a15) k15 b15 (G17.mono (show 3 ≤ 5 by decide)) (PySem.W.mg_of X G a17) k17 b17
  exact HI.ok_law F31 (PySem.W.mg_none_of X G z10) (G18.mono (show 1 ≤ 9 by decide)) (PySem.W.mg_of X G a18) k18 b18 (G21.mono (show 1 ≤ 9 by decide)) (PySem.W.mg_of X G a21) k21 b21 G30 (PySem.W.mg_of X G a30) k30 b30
end Hw

set_option Elab.async false
open PySem PySem.W PyProof.Rows
set_option maxRecDepth 100000 in
set_option maxHeartbeats 0 in
theorem PySem.Challenge.cw_healedwebs_k45_limits_and_numbers_refuse_holds : PySem.Challenge.rw_healedwebs_k45_limits_and_numbers_refuse.Holds := by
  w_on; o_law; k_head; (case hw => w_witness2)
  k_fill
  refine Hw.walkGT (l := PySem.Challenge.rw_healedwebs_k45_limits_and_numbers_refuse) (n := 63) (k := 10) (x := "script") rfl (by decide) rfl ⟨rfl, by decide, by decide⟩ (fun w h Y => PySem.W.km_in_of Y) ?F
  case F =>
    intro w mg fa h Y KX G hmg
    refine' Hw.all_mk KX G hmg ?q_a0 ?q_l0 ?q_c0 ?q_k0 ?q_a1 ?q_l1 ?q_c1 ?q_k1 ?q_a2 ?q_l2 ?q_c2 ?q_k2 ?q_a3 ?q_l3 ?q_c3 ?q_k3 ?q_a4 ?q_l4 ?q_c4 ?q_k4 ?q_a5 ?q_l5 ?q_c5 ?q_k5 ?q_a6 ?q_l6 ?q_c6 ?q_k6 ?q_a7 ?q_l7 ?q_c7 ?q_k7 ?q_a8 ?q_l8 ?q_c8 ?q_k8 ?q_a9 ?q_l9 ?q_c9 ?q_k9 ?q_a10 ?q_l10 ?q_c10 ?q_k10 ?q_a11 ?q_l11 ?q_c11 ?q_k11 ?q_a12 ?q_l12 ?q_c12 ?q_k12 ?q_a13 ?q_l13 ?q_c13 ?q_k13 ?q_a14 ?q_l14 ?q_c14 ?q_k14 ?q_a15 ?q_l15 ?q_c15 ?q_k15 ?q_a16 ?q_l16 ?q_c16 ?q_k16 ?q_a17 ?q_l17 ?q_c17 ?q_k17 ?q_a18 ?q_l18 ?q_c18 ?q_k18 ?q_a19 ?q_l19 ?q_c19 ?q_k19 ?q_a20 ?q_l20 ?q_c20 ?q_k20 ?q_a21 ?q_l21 ?q_c21 ?q_k21 ?q_a22 ?q_l22 ?q_c22 ?q_k22 ?q_a23 ?q_l23 ?q_c23 ?q_k23 ?q_a24 ?q_l24 ?q_c24 ?q_k24 ?q_a25 ?q_l25 ?q_c25 ?q_k25 ?q_a26 ?q_l26 ?q_c26 ?q_k26 ?q_a27 ?q_l27 ?q_c27 ?q_k27 ?q_a28 ?q_l28 ?q_c28 ?q_k28 ?q_a29 ?q_l29 ?q_c29 ?q_k29 ?q_a30 ?q_l30 ?q_c30 ?q_k30 ?q_a31 ?q_l31 ?q_c31 ?q_k31 ?q_eG ?q_eT ?q_g_MOST_LIMITS ?q_g_MOST_TIES ?q_g_MOST_FAR ?q_g_MOST_MANY ?q_z0 ?q_z1 ?q_z2 ?q_z3 ?q_z4 ?q_z5 ?q_z6 ?q_z7 ?q_z8 ?q_z9 ?q_z10 ?q_z11 ?q_z12 ?q_z13 ?q_z14 ?q_z15 ?q_z16 ?q_aCS ?q_aE0 ?q_aE1 ?q_aE2 ?q_aE3 ?q_iI ?q_lI ?q_cI ?q_kI ?q_xE0 ?q_hE0 ?q_tE0_0 ?q_tE0_1 ?q_tE0_2 ?q_tE0_3 ?q_xE1 ?q_hE1 ?q_tE1_0 ?q_tE1_1 ?q_tE1_2 ?q_tE1_3 ?q_xE2 ?q_hE2 ?q_tE2_0 ?q_tE2_1 ?q_tE2_2 ?q_tE2_3 ?q_xE3 ?q_hE3 ?q_tE3_0 ?q_tE3_1 ?q_tE3_2 ?q_tE3_3 ?q_tb29 ?q_hd29 ?q_ow29 ?q_tt29 ?q_tb30 ?q_hd30 ?q_ow30 ?q_tt30 ?q_neP
    (case q_a0 => k_is)
    (case q_a1 => k_is)
    (case q_a2 => k_is)
    (case q_a3 => k_is)
    (case q_a4 => k_is)
    (case q_a5 => k_is)
    (case q_a6 => k_is)
    (case q_a7 => k_is)
    (case q_a8 => k_is)
    (case q_a9 => k_is)
    (case q_a10 => k_is)
    (case q_a11 => k_is)
    (case q_a12 => k_is)
    (case q_a13 => k_is)
    (case q_a14 => k_is)
    (case q_a15 => k_is)
    (case q_a16 => k_is)
    (case q_a17 => k_is)
    (case q_a18 => k_is)
    (case q_a19 => k_is)
    (case q_a20 => k_is)
    (case q_a21 => k_is)
    (case q_a22 => k_is)
    (case q_a23 => k_is)
    (case q_a24 => k_is)
    (case q_a25 => k_is)
    (case q_a26 => k_is)
    (case q_a27 => k_is)
    (case q_a28 => k_is)
    (case q_a29 => k_is)
    (case q_a30 => k_is)
    (case q_a31 => k_is)
    (case q_aCS => k_is)
    (case q_aE0 => k_is)
    (case q_aE1 => k_is)
    (case q_aE2 => k_is)
    (case q_aE3 => k_is)
    (case q_iI => k_is)
    (case q_tb29 => first | exact rfl | k_is | kernel_rfl)
    (case q_tb30 => first | exact rfl | k_is | kernel_rfl)
    (case q_l0 => k_is)
    (case q_c0 => k_is)
    (case q_k0 => k_is)
    (case q_l1 => k_is)
    (case q_c1 => k_is)
    (case q_k1 => k_is)
    (case q_l2 => k_is)
    (case q_c2 => k_is)
    (case q_k2 => k_is)
    (case q_l3 => k_is)
    (case q_c3 => k_is)
    (case q_k3 => k_is)
    (case q_l4 => k_is)
    (case q_c4 => k_is)
    (case q_k4 => k_is)
    (case q_l5 => k_is)
    (case q_c5 => k_is)
    (case q_k5 => k_is)
    (case q_l6 => k_is)
    (case q_c6 => k_is)
    (case q_k6 => k_is)
    (case q_l7 => k_is)
    (case q_c7 => k_is)
    (case q_k7 => k_is)
    (case q_l8 => k_is)
    (case q_c8 => k_is)
    (case q_k8 => k_is)
    (case q_l9 => k_is)
    (case q_c9 => k_is)
    (case q_k9 => k_is)
    (case q_l10 => k_is)
    (case q_c10 => k_is)
    (case q_k10 => k_is)
    (case q_l11 => k_is)
    (case q_c11 => k_is)
    (case q_k11 => k_is)
    (case q_l12 => k_is)
    (case q_c12 => k_is)
    (case q_k12 => k_is)
    (case q_l13 => k_is)
    (case q_c13 => k_is)
    (case q_k13 => k_is)
    (case q_l14 => k_is)
    (case q_c14 => k_is)
    (case q_k14 => k_is)
    (case q_l15 => k_is)
    (case q_c15 => k_is)
    (case q_k15 => k_is)
    (case q_l16 => k_is)
    (case q_c16 => k_is)
    (case q_k16 => k_is)
    (case q_l17 => k_is)
    (case q_c17 => k_is)
    (case q_k17 => k_is)
    (case q_l18 => k_is)
    (case q_c18 => k_is)
    (case q_k18 => k_is)
    (case q_l19 => k_is)
    (case q_c19 => k_is)
    (case q_k19 => k_is)
    (case q_l20 => k_is)
    (case q_c20 => k_is)
    (case q_k20 => k_is)
    (case q_l21 => k_is)
    (case q_c21 => k_is)
    (case q_k21 => k_is)
    (case q_l22 => k_is)
    (case q_c22 => k_is)
    (case q_k22 => k_is)
    (case q_l23 => k_is)
    (case q_c23 => k_is)
    (case q_k23 => k_is)
    (case q_l24 => k_is)
    (case q_c24 => k_is)
    (case q_k24 => k_is)
    (case q_l25 => k_is)
    (case q_c25 => k_is)
    (case q_k25 => k_is)
    (case q_l26 => k_is)
    (case q_c26 => k_is)
    (case q_k26 => k_is)
    (case q_l27 => k_is)
    (case q_c27 => k_is)
    (case q_k27 => k_is)
    (case q_l28 => k_is)
    (case q_c28 => k_is)
    (case q_k28 => k_is)
    (case q_l29 => k_is)
    (case q_c29 => k_is)
    (case q_k29 => k_is)
    (case q_l30 => k_is)
    (case q_c30 => k_is)
    (case q_k30 => k_is)
    (case q_l31 => k_is)
    (case q_c31 => k_is)
    (case q_k31 => k_is)
    (case q_eG => k_is)
    (case q_eT => k_is)
    (case q_g_MOST_LIMITS => k_is)
    (case q_g_MOST_TIES => k_is)
    (case q_g_MOST_FAR => k_is)
    (case q_g_MOST_MANY => k_is)
    (case q_z0 => k_is)
    (case q_z1 => k_is)
    (case q_z2 => k_is)
    (case q_z3 => k_is)
    (case q_z4 => k_is)
    (case q_z5 => k_is)
    (case q_z6 => k_is)
    (case q_z7 => k_is)
    (case q_z8 => k_is)
    (case q_z9 => k_is)
    (case q_z10 => k_is)
    (case q_z11 => k_is)
    (case q_z12 => k_is)
    (case q_z13 => k_is)
    (case q_z14 => k_is)
    (case q_z15 => k_is)
    (case q_z16 => k_is)
    (case q_lI => k_is)
    (case q_cI => k_is)
    (case q_kI => k_is)
    (case q_xE0 => first | k_is | kernel_rfl | rfl | decide +kernel)
    (case q_hE0 => first | k_is | kernel_rfl | rfl | decide +kernel)
    (case q_tE0_0 => first | kernel_rfl | rfl | decide +kernel)
    (case q_tE0_1 => first | kernel_rfl | rfl | decide +kernel)
    (case q_tE0_2 => first | kernel_rfl | rfl | decide +kernel)
    (case q_tE0_3 => first | kernel_rfl | rfl | decide +kernel)
    (case q_xE1 => first | k_is | kernel_rfl | rfl | decide +kernel)
    (case q_hE1 => first | k_is | kernel_rfl | rfl | decide +kernel)
    (case q_tE1_0 => first | kernel_rfl | rfl | decide +kernel)
    (case q_tE1_1 => first | kernel_rfl | rfl | decide +kernel)
    (case q_tE1_2 => first | kernel_rfl | rfl | decide +kernel)
    (case q_tE1_3 => first | kernel_rfl | rfl | decide +kernel)
    (case q_xE2 => first | k_is | kernel_rfl | rfl | decide +kernel)
    (case q_hE2 => first | k_is | kernel_rfl | rfl | decide +kernel)
    (case q_tE2_0 => first | kernel_rfl | rfl | decide +kernel)
    (case q_tE2_1 => first | kernel_rfl | rfl | decide +kernel)
    (case q_tE2_2 => first | kernel_rfl | rfl | decide +kernel)
    (case q_tE2_3 => first | kernel_rfl | rfl | decide +kernel)
    (case q_xE3 => first | k_is | kernel_rfl | rfl | decide +kernel)
    (case q_hE3 => first | k_is | kernel_rfl | rfl | decide +kernel)
    (case q_tE3_0 => first | kernel_rfl | rfl | decide +kernel)
    (case q_tE3_1 => first | kernel_rfl | rfl | decide +kernel)
    (case q_tE3_2 => first | kernel_rfl | rfl | decide +kernel)
    (case q_tE3_3 => first | kernel_rfl | rfl | decide +kernel)
    (case q_hd29 => first | k_is | kernel_rfl | rfl | decide +kernel)
    (case q_ow29 => first | k_is | kernel_rfl | rfl | decide +kernel)
    (case q_tt29 => exact PySem.W.km_tabs_of Y _ (by k_mem))
    (case q_hd30 => first | k_is | kernel_rfl | rfl | decide +kernel)
    (case q_ow30 => first | k_is | kernel_rfl | rfl | decide +kernel)
    (case q_tt30 => exact PySem.W.km_tabs_of Y _ (by k_mem))
    (case q_neP => decide)

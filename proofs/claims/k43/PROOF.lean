import PyProof.Rows.All
import Wide.All
import OpenK.AllK
import Wide.FinOn
import HandS.ForMost
import HandS.ForExc
import HandS.DictComp
import KE.KExcIs
import HandS.ExcInit
import HandS.ExcField
import HandS.IsInst
import HandS.SetFor
import HandS.Flow
import HandS.Walk
import HandS.Evl
import HandS.Conv
import HandS.OwnEq
import HandS.FStr
import HandS.Star
import KE.GoesEnumKw
import KE.SortData
import HandS.TupLe
import Flt.Ops
import HandS.Zip
import HandS.TupAny
import PyProof.CollectIter
import KE.DataMinMax
import KE.KTupSum
import KE.GoesEnum
import HandS.WordsDict
import HandS.WideBits
import HandS.Style
import PyProof.Rows.StrJoinMade
import HandS.MakeKw
import HandS.TupMul
import PySem.Challenge.RW_healedwebs_k43_rooms_and_floors
set_option Elab.async false
set_option linter.all false
set_option maxRecDepth 100000
set_option maxHeartbeats 2000000
namespace Hw
open PySem L2 PyProof.Rows

/-! generic: powers of great ints, heaps but one place -/
def CPowW (i j : Int) : Prop := 0 ≤ j ∧ (Builtin.Int.intBits i : Int) * j ≤ 2 ^ 27
theorem op_powW {X : Cx} : OpR X (binaryOp .Pow) (rI CPowW fun i j => .int (i ^ j.toNat)) :=
  opI fun _ _ _ _ _ _ _ hc q => pow_int hc.1 hc.2 q
/-- all that is tracked but at a stays -/
def SameX (a : Addr) (H H' : Hp) : Prop := ∀ b o, b ≠ a → H b = some o → H' b = some o
theorem SameX.refl (a : Addr) (H : Hp) : SameX a H H := fun _ _ _ h => h
theorem SameX.trans {a : Addr} {H H1 H2 : Hp} (x : SameX a H H1) (y : SameX a H1 H2) : SameX a H H2 := fun b o hb h => y b o hb (x b o hb h)
theorem SameX.of {a : Addr} {H H' : Hp} (s : Same H H') : SameX a H H' := fun b o _ h => s b o h
theorem SameX.put {a : Addr} {H H' : Hp} {o : HO} (s : SameX a H H') : SameX a H (upd H' a o) := fun b u hb h => by
  rw [upd_ne hb]; exact s b u hb h
theorem SameX.free {a b : Addr} {H H' : Hp} (s : SameX a H H') (ha : H' a ≠ none) (h : H' b = none) : H b = none := by
  cases q : H b with
  | none => rfl
  | some o =>
    have hb : b ≠ a := fun e => ha (e ▸ h)
    rw [s b o hb q] at h; cases h
theorem same_upd {H : Hp} {p : Addr} {o : HO} (h : H p = none) : Same H (upd H p o) := fun b x e => by
  rw [upd_ne (ne_of_none e h)]; exact e
theorem sql_of {K : PySem.W.Frag} {H : Hp} {a : Addr} {xs : List V} (h : H a = some (.lst xs)) : SqL K H a xs := .inl (.inl h)
theorem sqt_of {K : PySem.W.Frag} {H : Hp} {a : Addr} {xs : List V} (h : H a = some (.tup xs)) : SqT K H a xs := .inl (.inl h)

/-! a pot: three ints, the third at most N -/
structure Pot (H : Hp) (a : Addr) (N : Nat) : Prop where
  ex : ∃ x y z : Int, H a = some (.lst [.int x, .int y, .int z]) ∧ 0 ≤ x ∧ 0 ≤ y ∧ y < 2 ^ 61 ∧ 0 ≤ z ∧ z ≤ N
theorem Pot.mono {H : Hp} {a : Addr} {N M : Nat} (p : Pot H a N) (h : N ≤ M) : Pot H a M := by
  obtain ⟨x, y, z, e, h1, h2, h3, h4, h5⟩ := p.ex
  exact ⟨x, y, z, e, h1, h2, h3, h4, by omega⟩
theorem Pot.same {H H' : Hp} {a : Addr} {N : Nat} (p : Pot H a N) (s : Same H H') : Pot H' a N := by
  obtain ⟨x, y, z, e, h⟩ := p.ex
  exact ⟨x, y, z, s _ _ e, h⟩
theorem Pot.some {H : Hp} {a : Addr} {N : Nat} (p : Pot H a N) : H a ≠ none := by
  obtain ⟨x, y, z, e, _⟩ := p.ex
  rw [e]; exact fun q => nomatch q
/-- what a place of the script is worth to a draw: any int -/
def spPot (K : PySem.W.Frag) : Sp := fun vs H Q _ => ∃ (a : Addr) (ns : List Int) (i : Int), vs = [.ref a, .int i] ∧ SqL K H a (ns.map V.int) ∧ ns.length ≤ 63 ∧ 0 ≤ i ∧ i < 1000 ∧
  ∀ p H', Same H H' → H p = none → Pot H' p 0 → Q (.ref p) H'
/-- a draw below u -/
def spTake : Sp := fun vs H Q _ => ∃ (a : Addr) (u : Int) (N : Nat), vs = [.ref a, .int u] ∧ Pot H a N ∧ N < 1000000000 ∧ 0 < u ∧ u < 1000000000 ∧
  ∀ r H', 0 ≤ r → r < u → SameX a H H' → Pot H' a (N + 1) → Q (.int r) H'
/-- one of the items of a list -/
def spOf (K : PySem.W.Frag) : Sp := fun vs H Q _ => ∃ (a b : Addr) (xs : List V) (N : Nat), vs = [.ref a, .ref b] ∧ Pot H a N ∧ N < 1000000000 ∧ SqL K H b xs ∧ a ≠ b ∧ 0 < xs.length ∧ xs.length < 1000000000 ∧
  ∀ (i : Nat) v H', xs[i]? = some v → SameX a H H' → Pot H' a (N + 1) → Q v H'
/-- the places of the script that are looked at -/
def spCells (K : PySem.W.Frag) : Sp := fun vs H Q _ => ∃ (a : Addr) (xs : List V) (m : Int), vs = [.ref a, .int m] ∧ SqL K H a xs ∧ xs.length ≤ 63 ∧ 0 < m ∧ m < 1000 ∧
  ∀ (n : Nat) p H', 0 < n → (n : Int) ≤ m → Same H H' → H p = none → H' p = some (.lst ((List.range n).map fun i : Nat => V.int (i : Int))) → Q (.ref p) H'
theorem bits_nat {i : Int} {n : Nat} (h : i.natAbs < 2 ^ n) : Builtin.Int.intBits i ≤ n := intBits_le h
end Hw

set_option Elab.async false
set_option linter.all false
set_option maxRecDepth 100000
set_option maxHeartbeats 4000000
namespace Hw
open PySem L2 PyProof.Rows
/-! defs that know that no repr runs around them -/
structure RoomG (k : Nat) (A : Around) : Prop where
  r : Room k A
  g : A.guards = some []
theorem RoomG.mono {j k : Nat} {A : Around} (r : RoomG k A) (h : j ≤ k) : RoomG j A := ⟨r.r.mono h, r.g⟩
theorem RoomG.deeper {k : Nat} {A : Around} (r : RoomG (k + 1) A) (env : Env) : RoomG k (A.deeper env) := ⟨r.r.deeper env, r.g⟩
theorem RoomG.make {k : Nat} {A : Around} (r : RoomG (k + 1) A) (C : Addr) (us : List Value) (kw : List (Str × Value)) : RoomG k (A.under (.builtin "type.__call__" ⟨.ref C :: us, kw⟩)) :=
  ⟨r.r.make C us kw, by
    have e : (A.under (.builtin "type.__call__" ⟨.ref C :: us, kw⟩)).guards = A.guards := by
      first | rfl | simp [Around.under, Code.guards, pushGuards, Code.isGuard, guardIds]
    rw [e]; exact r.g⟩
section
variable (P : Program) (w : World) (K : PySem.W.Frag) (mg : Str → Option Value) (base : Heap)
structure FnG (CX : CXT) (k : Nat) (f : Addr) (fd : FuncData) (ps : List Str) (sp : Sp) : Prop where
  len : ∀ vs H Q E, sp vs H Q E → vs.length = ps.length
  run : ∀ (A : Around) (outer : List Env) (s : Shared) (H : Hp) (args : Args) (us : List Value) (vs : List V) (Q : VK) (E : XK), RoomG k A → Env0 P w K mg base A outer s H →
    BindsTo s fd args (ps.zip us) → Vals vs us → sp vs H Q E → codeAny (model P w) A (.call (.ref f) args) (CR CX outer P w H s Q E) s
end
section
variable {P : Program} {w : World} {K : PySem.W.Frag} {mg : Str → Option Value} {base : Heap} {CX : CXT} {k : Nat} {f : Addr} {fd : FuncData} {ps : List Str} {sp sp' : Sp}
theorem toG (F : FnOk P w K mg base CX k f fd ps sp) : FnG P w K mg base CX k f fd ps sp := ⟨F.len, fun A o s H a us vs Q E hr => F.run A o s H a us vs Q E hr.r⟩
theorem FnG.mono {j : Nat} (F : FnG P w K mg base CX j f fd ps sp) (h : j ≤ k) : FnG P w K mg base CX k f fd ps sp := ⟨F.len, fun A o s H a us vs Q E hr => F.run A o s H a us vs Q E (hr.mono h)⟩
theorem FnG.imp (F : FnG P w K mg base CX k f fd ps sp) (h : ∀ vs H Q E, sp' vs H Q E → sp vs H Q E) : FnG P w K mg base CX k f fd ps sp' :=
  ⟨fun vs H Q E q => F.len vs H Q E (h _ _ _ _ q), fun A o s H a us vs Q E hr he hb hv hs => F.run A o s H a us vs Q E hr he hb hv (h _ _ _ _ hs)⟩
end
section
variable {X : Cx} {CX : CXT} {k : Nat} {f C : Addr} {fd : FuncData} {ps : List Str} {sp : Sp} {dvs : List V} {ds : List Value} {E : XK} {x m : Str} {p pos apos : Pos} {e o : Expr} {es : List Expr} {ta : TE} {t : TA}
theorem runG {pins : List (Addr × Obj)} {σ : L2.St} {H : Hp} {s : Shared} {Q : VK} {us : List Value} {vs : List V} (F : FnG X.prog X.w X.K X.mg X.base CX k f fd ps sp) (hr : RoomG k X.A) (hb : Binds X.K fd ps ds) (hd : Vals dvs ds)
    (hx : Passes CX X E) (I : Inv X pins σ H s) (r : Vals vs us) (h : sp (vs ++ dvs) H Q E) : wpAny (model X.prog X.w) X.A (call (.ref f) us) (EP X pins σ Q) X.xe s := by
  have rr : Vals (vs ++ dvs) (us ++ ds) := r.append hd
  have ll : (us ++ ds).length = ps.length := rr.length.symm.trans (F.len _ _ _ _ h)
  refine wpAny_call (codeAny_mono (F.run X.A X.stack s H ⟨us, []⟩ (us ++ ds) (vs ++ dvs) Q E hr I.env0 (hb s us I.kIn ll) rr h) fun r' s' hq => ?_)
  match r', hq with
  | .error er, hq => exact hx pins σ H s er s' I hq
  | .ok (.ret u), hq => exact I.after hq
  | .ok .next, hq => exact False.elim hq
  | .ok .brk, hq => exact False.elim hq
  | .ok .cont, hq => exact False.elim hq
theorem pe_callG (F : FnG X.prog X.w X.K X.mg X.base CX k f fd ps sp) (hr : RoomG k X.A) (hg : Gl X x) (hm : X.mg x = some (.ref f)) (hk : PySem.W.keepIn X.K (.ref f) = true) (hb : Binds X.K fd ps ds) (hd : Vals dvs ds)
    (hx : Passes CX X E) (ha : PA X (e :: es) t) (hdb : (x == ("__debug__" : Str)) = false := by decide) (he : starEach (e :: es) X.env = (false, eval e X.env) :: starEach es X.env := by rfl)
    (hpl : (backTo pos (starEach es X.env)).any (·.1) = false := by rfl) : PE X (.Call (.Name x p) (e :: es) [] pos) (tCall sp dvs E t) :=
  ⟨fun pins s σ H Q I h => wpAny_Call_Name_kw (ld_glob I hg hm (PySem.W.callWith_K (h₀ := X.base) I.ok.mod.kin hk (thn (ha.run pos pins s σ H _ I h) fun us s1 ⟨vs, H1, I1, r, q⟩ => ⟨I1.kIn, runG F hr hb hd hx I1 r q⟩) he hpl) hdb)⟩
theorem pe_call0G (F : FnG X.prog X.w X.K X.mg X.base CX k f fd ps sp) (hr : RoomG k X.A) (hg : Gl X x) (hm : X.mg x = some (.ref f)) (hk : PySem.W.keepIn X.K (.ref f) = true) (hb : Binds X.K fd ps ds) (hd : Vals dvs ds)
    (hx : Passes CX X E) (hdb : (x == ("__debug__" : Str)) = false := by decide) : PE X (.Call (.Name x p) [] [] pos) (tCall sp dvs E tNil) :=
  ⟨fun pins s σ H Q I h => wpAny_Call_Name_kw (ld_glob I hg hm (PySem.W.callWith_K0 I.kIn hk (runG (us := []) F hr hb hd hx I .nil h)) hdb)⟩
end
/-- a def by its body -/
theorem fnG_of {CX : CXT} {P : Program} {w : World} {K : PySem.W.Frag} {mg : Str → Option Value} {base : Heap} {k : Nat} {f : Addr} {name qual : Str} {params : Arguments} {body : List Stmt} {scope : Scope} {dV kV doc pm cdv ct oc : Value} {an od : Option Addr}
    {osl : Array (Option Value)} {N ps : List Str} {sp : Sp} (lk : K.lookup f = some ⟨oc, od, .func (PySem.W.fnOf name qual params body scope dV kV doc pm an cdv ct), osl⟩) (hcd : PySem.W.codeIn K cdv qual = true)
    (S : FnScope N ps scope) (len : ∀ vs H Q E, sp vs H Q E → vs.length = ps.length)
    (hbody : ∀ (A : Around) (outer : List Env) (s : Shared) (H : Hp) (vs : List V) (Q : VK) (E : XK), RoomG k (A.deeper (envOfC qual scope s.heap.objs.size f cdv)) → sp vs H Q E →
      ∃ t, PSs (cxOf CX P w K mg base N qual scope f cdv A outer s H E) body t ∧ t { nx := fun _ H' => Q .non H', rt := Q } (start N vs) H) :
    FnG P w K mg base CX (k + 1) f (PySem.W.fnOf name qual params body scope dV kV doc pm an cdv ct) ps sp := by
  refine ⟨len, fun A outer s H args us vs Q E hr e0 hb r hsp => ?_⟩
  have nl := len _ _ _ _ hsp
  have kin : K.In s.heap := e0.mod.kin.keeps fun b o e => (e0.bs b o e).1
  have nolim : s.heap.NoLimit := e0.mod.nolimit.keeps fun b o e => (e0.bs b o e).1
  have kinds : ∀ y ∈ ps.zip us, scope.names.lookup y.1 = some .local ∨ (scope.names.lookup y.1 = some .cell ∧ ((cellsFrom (s.heap.objs.size + 1) scope.names []).lookup y.1).isSome = true) := by
    rintro ⟨n, v⟩ hy
    rcases S.par n (List.of_mem_zip hy).1 with q | q
    · left; exact q
    · right; exact ⟨q, PySem.W.cellsFrom_some _ _ _ (.inl q)⟩
  refine codeAny_call_function hr.r.depth (kin _ _ lk) rfl S.co S.gen rfl (PySem.W.codeRec_of kin hcd) (hb _ _ _ _ ?_)
  refine wpAny_newFunctionEnv_cells S.kind kinds fun env he s1 x => ?_
  subst he
  refine ⟨nolim.keeps x.toInCall.keep, codeAny_func ?_⟩
  obtain ⟨t, ht, hq⟩ := hbody A outer s H vs Q E (hr.deeper _) hsp
  have I0 : Inv (cxOf CX P w K mg base N qual scope f cdv A outer s H E) [] (start N vs) H s1 := inv_start S hr.r.hd e0 nl r x
  refine wpAny_mono (ht.run [] s1 (start N vs) H _ I0 hq) (fun fl s' hs => ?_) fun _ _ hs => hs
  have done : ∀ {σ' : L2.St} {H' : Hp} {v : V} {u : Value}, Inv (cxOf CX P w K mg base N qual scope f cdv A outer s H E) [] σ' H' s' → RelV v u → Q v H' → CE outer P w H s Q u s' :=
    fun {_ H' v _} J rv q => ⟨v, H', J.os, J.bare, J.base, J.hok, rv, q⟩
  match fl, hs with
  | .ret u, ⟨v, σ', H', J, rv, q⟩ => exact done J rv q
  | .next, ⟨σ', H', J, q⟩ => exact done (v := V.non) (u := Value.none) J rfl q
  | .brk, ⟨_, _, _, q⟩ => exact False.elim q
  | .cont, ⟨_, _, _, q⟩ => exact False.elim q
section
variable {P : Program} {w : World} {K : PySem.W.Frag} {mg : Str → Option Value} {base : Heap}
theorem funG {x qual : Str} {st : Stmt} {f : Addr} {fd : FuncData} {N ps : List Str} {k : Nat} {sp : Sp} (F : Fun K x qual st f fd) (S : FnScope N ps (defScope st)) (len : ∀ vs H Q E, sp vs H Q E → vs.length = ps.length)
    (hbody : ∀ (cdv : Value) (A : Around) (outer : List Env) (s : Shared) (H : Hp) (vs : List V) (Q : VK) (E : XK), RoomG k (A.deeper (envOfC qual (defScope st) s.heap.objs.size f cdv)) → sp vs H Q E →
      ∃ t, PSs (cxOf CX0 P w K mg base N qual (defScope st) f cdv A outer s H E).nox (defBody st) t ∧ t { nx := fun _ H' => Q .non H', rt := Q } (start N vs) H) : FnG P w K mg base CX0 (k + 1) f fd ps sp := by
  obtain ⟨oc, od, kV, doc, pm, an, cdv, ct, osl, rfl, lk, hcd⟩ := F.ex
  exact fnG_of lk hcd S len fun A outer s H vs Q E hr hsp => by
    obtain ⟨t, h, q⟩ := hbody cdv A outer s H vs Q E hr hsp
    exact ⟨t, h.nox, q⟩
theorem funGX {x qual : Str} {st : Stmt} {f : Addr} {fd : FuncData} {N ps : List Str} {k : Nat} {sp : Sp} (F : Fun K x qual st f fd) (S : FnScope N ps (defScope st)) (len : ∀ vs H Q E, sp vs H Q E → vs.length = ps.length)
    (hbody : ∀ (cdv : Value) (A : Around) (outer : List Env) (s : Shared) (H : Hp) (vs : List V) (Q : VK) (E : XK), RoomG k (A.deeper (envOfC qual (defScope st) s.heap.objs.size f cdv)) → sp vs H Q E →
      ∃ t, PSs (cxOf (L2.CX P w) P w K mg base N qual (defScope st) f cdv A outer s H E) (defBody st) t ∧ t { nx := fun _ H' => Q .non H', rt := Q } (start N vs) H) : FnG P w K mg base (L2.CX P w) (k + 1) f fd ps sp := by
  obtain ⟨oc, od, kV, doc, pm, an, cdv, ct, osl, rfl, lk, hcd⟩ := F.ex
  exact fnG_of lk hcd S len fun A outer s H vs Q E hr hsp => hbody cdv A outer s H vs Q E hr hsp
end
/-- the law's call -/
theorem lawG {P : Program} {w : World} {K : PySem.W.Frag} {mg mb : Str → Option Value} {k : Nat} {fa a : Addr} {fd : FuncData} {x : Str} {sp : Sp} {s1 : Shared} {vs : List Value} {ns : List Int}
    (KX : K.In s1.heap) (hns : s1.heap.Ns mainGlobals mg) (hb : s1.heap.Ns builtinsNs mb) (hbb : ∀ x : Str, x ≠ "__name__" → mb x = bootBuiltins x) (hlim : s1.heap.NoLimit) (hgen : s1.gens = #[])
    (ha : s1.heap.get? a = some { cls := .type "list", data := .seq vs.toArray }) (hi : IntsAre vs ns) (hl : ns.length ≤ sizeLine) (hr : Room k callerA)
    (F : ∀ base : Heap, K.In base → base.Ns mainGlobals mg → FnG P w K mg base CX0 k fa fd [x] sp) (hbind : ∀ (s : Shared) (u : Value), BindsTo s fd ⟨[u], []⟩ [(x, u)])
    (hsp : ∀ H : Hp, Only H → SqL K H a (ns.map V.int) → sp [.ref a] H (fun v _ => v = .bl true) E0) :
    codeAny (model P w) callerA (.call (.ref fa) ⟨[.ref a], []⟩) (fun r s' => r = .ok (.ret (.bool true)) ∧ OldK s1.heap s'.heap ∧ s'.os = s1.os ∧ AllBare s'.gens) s1 := by
  have rv := vals_ints hi
  have core : ∀ H : Hp, Only H → SqL K H a (ns.map V.int) → HOk P w H s1.heap → (∀ b, H b ≠ none → b = a) → (H a ≠ none → K.lookup a = none) →
      codeAny (model P w) callerA (.call (.ref fa) ⟨[.ref a], []⟩) (fun r s' => r = .ok (.ret (.bool true)) ∧ OldK s1.heap s'.heap ∧ s'.os = s1.os ∧ AllBare s'.gens) s1 := by
    intro H hO hS hok onlyA notK
    have hid : ∀ {b : Addr} {o : Obj}, s1.heap.get? b = some o → H b = none → (hidT s1.heap H).get? b = some o := fun e n => hidT_get e n
    have free : ∀ {b : Addr}, (b = a → False) → H b = none := fun {b} h => by
      cases q : H b with
      | none => rfl
      | some u => exact (h (onlyA b (by rw [q]; simp))).elim
    have nsH : ∀ {b : Addr} {m : Str → Option Value}, s1.heap.Ns b m → (hidT s1.heap H).Ns b m := fun {b m} ⟨o, es, ep, e, d, r⟩ => by
      refine ⟨o, es, ep, hid e (free fun z => ?_), d, r⟩
      subst z
      rw [ha] at e
      have e' := Option.some.inj e
      rw [← e'] at d
      cases d
    have kinH : K.In (hidT s1.heap H) := fun b o e => by
      refine hid (KX b o e) ?_
      by_cases hba : b = a
      · subst hba
        cases q : H b with
        | none => rfl
        | some u =>
          have z := notK (by rw [q]; simp)
          rw [e] at z; cases z
      · exact free hba
    have modH : Mod K mg (hidT s1.heap H) := ⟨kinH, nsH hns, ⟨mb, nsH hb, hbb⟩, let ⟨mc, h1, h2⟩ := hlim; ⟨mc, nsH h1, h2⟩⟩
    have env0 : Env0 P w K mg (hidT s1.heap H) callerA [] s1 H := ⟨rfl, modH, fun b o e => of_hidT e, Nat.le_of_eq (hidT_size _ _), trivial, fun b hb => (by cases hb), hok, .of_eq hgen⟩
    refine codeAny_mono ((F _ kinH (nsH hns)).run callerA [] s1 H ⟨[.ref a], []⟩ [.ref a] [.ref a] _ _ ⟨hr, rfl⟩ env0 (hbind s1 (.ref a)) (.cons rfl .nil) (hsp H hO hS)) fun r s' h => ?_
    match r, h with
    | .error e, h => exact False.elim h
    | .ok .next, h => exact False.elim h
    | .ok .brk, h => exact False.elim h
    | .ok .cont, h => exact False.elim h
    | .ok (.ret u), h =>
      obtain ⟨v, H', os, bare, un, hok', r', q⟩ := h
      obtain rfl : v = .bl true := q
      obtain rfl : u = Value.bool true := r'
      refine ⟨rfl, OldK.of_keep fun b o e => ?_, os, bare⟩
      cases q : H b with
      | none => exact un.keep b o e q (by intro z; cases z) (by intro z; cases z)
      | some u =>
        obtain ⟨ob, xs, z⟩ : ∃ o xs, H b = some (.frz o (.lst xs)) := (hO b).resolve_left (by rw [q]; simp)
        have e1 := (hok b _ z).1
        have e2 := (hok' b _ (un.frzs b ob _ z)).1
        rw [e] at e1
        cases e1
        exact e2
  cases hk : K.lookup a with
  | some o =>
    have e := KX a o hk
    rw [ha] at e
    cases e
    exact core (fun _ => none) (fun _ => .inl rfl) (.inr ⟨_, vs.toArray, _, hk, rfl, rfl, rfl, by rw [List.size_toArray, hi.length]; exact hl, by simpa using rv⟩) (fun b u z => by cases (show (none : Option HO) = some u from z)) (fun b z => absurd rfl z) fun z => absurd rfl z
  | none =>
    have at_ : ∀ {b : Addr}, b ≠ a → (if b = a then some (HO.frz { cls := .type "list", data := .seq vs.toArray } (.lst (ns.map V.int))) else none) = none := fun h => if_neg h
    refine core (fun b => if b = a then some (.frz { cls := .type "list", data := .seq vs.toArray } (.lst (ns.map V.int))) else none) (fun b => ?_) (.inl (.inr ⟨{ cls := .type "list", data := .seq vs.toArray }, if_pos rfl⟩)) (fun b u z => ?_) (fun b z => ?_) fun _ => hk
    · by_cases hba : b = a
      · exact .inr ⟨_, _, if_pos hba⟩
      · exact .inl (at_ hba)
    · by_cases hba : b = a
      · subst hba
        have z' := (if_pos rfl).symm.trans z
        cases z'
        exact ⟨ha, by rw [List.length_map]; exact hl, vs, _, rv, ha⟩
      · have z' := (at_ hba).symm.trans z
        cases z'
    · by_cases hba : b = a
      · exact hba
      · exact absurd (at_ hba) z
theorem walkG {l : PySem.W.OpenLaw} {n k : Nat} {q : Program} {loose : List Str} {XP : (Str → Option Value) → Heap → Prop} {YP : World → Heap → Prop} {d : DefRec} {K : Params → PySem.W.Frag} {sp : World → Sp} {x : Str}
    (hn : l.most = some n) (hn2 : n ≤ sizeLine) (hdf : d.params.defaults = []) (hr : Room k callerA) (hY : ∀ (w : World) (h : Heap), YP w h → (K w.params).In h)
    (F : ∀ (w : World) (mg : Str → Option Value) (fa : Addr) (h : Heap), (K w.params).In h → h.Ns mainGlobals mg → mg d.name = some (.ref fa) →
      ∃ fd : FuncData, (∀ (s : Shared) (u : Value), BindsTo s fd ⟨[u], []⟩ [(x, u)]) ∧ ∀ base : Heap, (K w.params).In base → base.Ns mainGlobals mg → FnG l.prog w (K w.params) mg base CX0 k fa fd [x] (sp w))
    (hsp : ∀ (w : World) (H : Hp) (a : Addr) (ns : List Int), ns.length ≤ n → Only H → SqL (K w.params) H a (ns.map V.int) → sp w [.ref a] H (fun v _ => v = .bl true) E0) :
    PySem.W.WalkO q loose XP YP l.row.toRowW d [] (fun f vs => PySem.call f vs) := by
  refine Att.attach_call hn hdf fun w s0 s1 mg mb fa o pm cd doc a vs ns G Y ho hd hcd hmg hobj hints hlen hgen => ?_
  have KX := hY w _ Y
  obtain ⟨fd, hb, hF⟩ := F w mg fa _ KX G.T.g hmg
  exact lawG KX G.T.g G.T.b G.T.builtins G.T.nolimit hgen hobj hints (Nat.le_trans hlen hn2) hr hF hb (fun H hO hS => hsp w H a ns hlen hO hS)
end Hw

set_option Elab.async false
set_option linter.all false
set_option maxRecDepth 100000
set_option maxHeartbeats 4000000
namespace Hw
open PySem L2 PyProof.Rows
/-! repr of data -/
mutual
theorem Dp_noDict {K : PySem.W.Frag} {H : Hp} : ∀ (d : PyData) (v : V), Dp K H v d → d.hasDict = false
  | .none, _, _ => by simp only [PyData.hasDict]
  | .bool _, _, _ => by simp only [PyData.hasDict]
  | .int _, _, _ => by simp only [PyData.hasDict]
  | .str _, _, _ => by simp only [PyData.hasDict]
  | .list ds, _, h => by
    cases h with
    | lst _ ha => simp only [PyData.hasDict]; exact DpAll_noDict ds _ ha
  | .tuple ds, _, h => by
    cases h with
    | tup _ ha => simp only [PyData.hasDict]; exact DpAll_noDict ds _ ha
  | .dict _, _, h => nomatch h
theorem DpAll_noDict {K : PySem.W.Frag} {H : Hp} : ∀ (ds : List PyData) (vs : List V), DpAll K H vs ds → PyData.hasDictAll ds = false
  | [], _, _ => by simp only [PyData.hasDictAll]
  | d :: ds, _, h => by
    cases h with
    | cons h1 h2 =>
      simp only [PyData.hasDictAll]
      rw [Dp_noDict d _ h1, DpAll_noDict ds _ h2]; rfl
end
/-- what is flat, as data -/
def flatPD : V → Option PyData
  | .non => some .none
  | .bl b => some (.bool b)
  | .int i => some (.int i)
  | .str x => some (.str x)
  | _ => none
def keyPD : Key → PyData
  | .inl i => .int i
  | .inr x => .str x
/-- a dict with flat values, as data -/
def DpK (H : Hp) (v : V) (d : PyData) : Prop := ∃ (a : Addr) (kvs : List (Key × V)) (ds : List (PyData × PyData)), v = .ref a ∧ H a = some (.dK kvs) ∧ d = .dict ds ∧
  Paired (fun p q => q.1 = keyPD p.1 ∧ flatPD p.2 = some q.2) kvs ds
def rRepr (K : PySem.W.Frag) : List V → Hp → VK → Prop := fun xs H Q => ∃ (x : V) (d : PyData), xs = [x] ∧ (Dp K H x d ∨ DpK H x d) ∧ d.showable = true ∧ d.depth ≤ 60 ∧ d.shown.length ≤ sizeLine ∧ Q (.str d.shown) H
theorem flat_reads {h : Heap} {v : V} {d : PyData} {u : Value} (e : flatPD v = some d) (r : RelV v u) : Reads h u d [] := by
  cases v with
  | non => cases e; cases r; exact .none
  | bl b => cases e; cases r; exact .bool b
  | int i => cases e; obtain ⟨t, rfl⟩ := r; exact .int i t
  | str x => cases e; obtain ⟨t, rfl⟩ := r; exact .str x t
  | byt b => cases e
  | flt b => cases e
  | ref a => cases e
  | ty n => cases e
theorem key_reads {P : Program} {w : World} {h : Heap} {k : Key} {u : Value} (e : (mixKind P w).is k u = true) : Reads h u (keyPD k) [] := by
  rcases keyIs_shape e with ⟨i, t, rfl, rfl⟩ | ⟨x, t, rfl, rfl⟩
  · exact .int i t
  · exact .str x t
theorem dict_reads {P : Program} {w : World} {h : Heap} : ∀ {kvs : List (Key × V)} {ds : List (PyData × PyData)} {vs : List (Key × Value)} {es : List DictEntry}, Paired (fun p q => q.1 = keyPD p.1 ∧ flatPD p.2 = some q.2) kvs ds → KV kvs vs → PySem.Pairs (mixKind P w) es vs →
    ReadsAll h (es.map (·.key)) (ds.map (·.1)) [] ∧ ReadsAll h (es.map (·.val)) (ds.map (·.2)) []
  | [], _, _, _, .nil, kv, pr => by cases kv; cases pr; exact ⟨.nil, .nil⟩
  | p :: kvs, q :: ds, _, _, .cons a t, kv, pr => by
    cases kv with
    | cons k1 k2 =>
      cases pr with
      | cons p1 p2 p3 =>
        obtain ⟨r1, r2⟩ := dict_reads t k2 p3
        obtain ⟨e1, e2⟩ := a
        refine ⟨?_, ?_⟩
        · have z : ReadsAll h _ _ ([] ++ []) := .cons (key_reads (h := h) p1) r1
          rw [← k1.1, ← e1] at z
          exact z
        · have y := flat_reads (h := h) e2 k1.2
          rw [← p2] at y
          exact (ReadsAll.cons y r2 : ReadsAll h _ _ ([] ++ []))
section
variable {X : Cx}
theorem call_repr (hg : X.A.guards = some []) (hu : X.A.units + 100 < cLine) : CallR X (.builtin "repr") (rRepr X.K) := by
  intro pins s σ H xs us Q I r h
  obtain ⟨x, d, rfl, hd, hs, hdp, hz, q⟩ := h
  obtain ⟨u, w', rfl, ru, rw'⟩ : ∃ u w', us = [u] ∧ RelV x u ∧ w' = us := by
    cases r with
    | cons a t => cases t; exact ⟨_, _, rfl, a, rfl⟩
  have fin : ∀ h' (tk : Tok) (tk' : Nat), (∀ b o, s.heap.get? b = some o → h'.get? b = some o) → EP X pins σ Q (.str d.shown tk) { s with heap := h', toks := tk' } := fun h' tk tk' k => ⟨.str d.shown, H, I.kept (t' := tk') k, ⟨tk, rfl⟩, q⟩
  have big : ∀ {a : Addr} {as : List Addr}, Reads s.heap (.ref a) d as → (d.hasDict = true → sysModules ∉ as) → wpAny (model X.prog X.w) X.A (call (.builtin "repr") [.ref a]) (EP X pins σ Q) X.xe s := fun {a as} r1 hm =>
    repr_of_reads' (h₀ := s.heap) r1 hs hm hg (by omega) (fun _ _ e => e) (fun h' u tk k => fin h' u tk k) hz
  rcases hd with hd | ⟨a, kvs, ds, rfl, ha, rfl, hp⟩
  · have nd := Dp_noDict d x hd
    obtain ⟨as, r1⟩ := Dp.reads I d x u hd ru
    cases hd with
    | non => cases ru; exact P.repr_of_none (fin s.heap _ _ fun _ _ e => e)
    | bl b =>
      cases ru
      refine P.repr_of_bool ?_
      have z := fin s.heap s.toks (s.toks + 1) fun _ _ e => e
      simpa only [PyData.shown] using z
    | int i =>
      obtain ⟨t, rfl⟩ := ru
      refine P.repr_of_int (by simpa only [PyData.showable, decide_eq_true_eq] using hs) ?_
      have z := fin s.heap s.toks (s.toks + 1) fun _ _ e => e
      simpa only [PyData.shown] using z
    | str y =>
      obtain ⟨t, rfl⟩ := ru
      refine P.repr_of_str ?_ (by simpa only [PyData.shown] using hz)
      have z := fin s.heap s.toks (s.toks + 1) fun _ _ e => e
      simpa only [PyData.shown] using z
    | lst h1 h2 => cases ru; exact big r1 (by rw [nd]; exact fun z => nomatch z)
    | tup h1 h2 => cases ru; exact big r1 (by rw [nd]; exact fun z => nomatch z)
  · cases ru
    obtain ⟨hl, hsys, vs, kv, o, es, ep, ho, hex, hdat, _, hpr, _⟩ := dk_of I.hok ha
    obtain ⟨r1, r2⟩ := dict_reads (h := s.heap) hp kv hpr
    refine big (.dict ho hex.1 hdat r1 r2) fun _ hm => ?_
    have e : sysModules = a := by simpa using hm
    rw [← e] at hsys
    simp at hsys
end
end Hw

set_option Elab.async false
set_option linter.all false
set_option maxRecDepth 100000
set_option maxHeartbeats 4000000
namespace Hw
open PySem L2 PyProof.Rows
/-! an exception held as a value: the object at a, its own dict at d -/
def XAt (H : Hp) (a C d : Addr) (v : V) : Prop := H a = some (exo a C (some d)) ∧ H d = some (exd d [("value", v)])
theorem XAt.same {H H' : Hp} {a C d : Addr} {v : V} (x : XAt H a C d v) (s : Same H H') : XAt H' a C d v := ⟨s _ _ x.1, s _ _ x.2⟩
theorem XAt.sameX {H H' : Hp} {a C d p : Addr} {v : V} (x : XAt H a C d v) (s : SameX p H H') (ha : a ≠ p) (hd : d ≠ p) : XAt H' a C d v := ⟨s _ _ ha x.1, s _ _ hd x.2⟩
/-- what the written part says of such a class -/
structure XCls (K : PySem.W.Frag) (fI C : Addr) : Prop where
  o : OexC K C
  x : XfC K C
  noV : PySem.W.findIn K (.ref C) "value" = some none
  ini : PySem.W.findIn K (.ref C) "__init__" = some (some (.ref fI))
  tI : PySem.W.typeIn K (.ref fI) = some (.type "function")
  cl : (PySem.W.clsIn K C).isSome = true
  ha : PySem.W.findIn K (.ref C) "__class__" = some (some (.builtin "object.__class__"))
  hn : PySem.W.specialIn K (.builtin "object.__class__") "__get__" = some (some (.builtin "getset_descriptor.__get__"))
  ht : PySem.W.takesIn K (.builtin "object.__class__") = some true
  hm : PySem.W.mroIn K C (.type "object") = some true
def oexB (K : PySem.W.Frag) (C : Addr) : Bool := match K.lookup C with
  | some ⟨.type "type", _, .cls cd, sl⟩ => (match cd.mro, sl.toList with
    | .ref C' :: bm, [_, _, _, _, some (.builtin n), _] => C' == C && (n == "ValueError.__new__" && (!cd.hasDel && (cd.hasDict && PySem.HandSPX.refsVE bm)))
    | _, _ => false)
  | _ => false
theorem oexB_ok {K : PySem.W.Frag} {C : Addr} (q : oexB K C = true) :
    ∃ nm q N bs bm sn sub ab col dd k0 k1 k2 k3 k5, K.lookup C = some (excClassObj nm q C N bs bm true sn sub ab col dd k0 k1 k2 k3 k5 "ValueError.__new__") ∧ PySem.HandSPX.refsVE bm = true := by
  unfold oexB at q
  split at q
  · rename_i dd cd sl ho
    split at q
    · rename_i C' bm k0 k1 k2 k3 n k5 hm hs
      simp only [Bool.and_eq_true, beq_iff_eq, Bool.not_eq_true'] at q
      obtain ⟨rfl, rfl, hdel, hdi, hve⟩ := q
      obtain ⟨nm, bs, mro, ns, qn, hd, sn, sub, ab, col, del⟩ := cd
      dsimp only at hm hdel hdi
      subst hm hdel hdi
      have hsl : sl = #[k0, k1, k2, k3, some (.builtin "ValueError.__new__"), k5] := by
        obtain ⟨l⟩ := sl
        simp only at hs
        rw [hs]
      subst hsl
      exact ⟨nm, qn, ns, bs, bm, sn, sub, ab, col, dd, k0, k1, k2, k3, k5, ho, hve⟩
    · cases q
  · cases q
def xclsB (K : PySem.W.Frag) (fI C : Addr) : Bool :=
  oexB K C && (decide (PySem.W.findIn K (.ref C) "__setattr__" = some (some (.builtin "object.__setattr__"))) && (decide (PySem.W.subIn K (.ref C) (.type "BaseException") = some true) && (decide (PySem.W.typeIn K (.ref C) = some (.type "type")) && (PySem.W.keepIn K (.ref C) &&
  (xfB K C && (decide (PySem.W.findIn K (.ref C) "value" = some none) && (decide (PySem.W.findIn K (.ref C) "__init__" = some (some (.ref fI))) && (decide (PySem.W.typeIn K (.ref fI) = some (.type "function")) && ((PySem.W.clsIn K C).isSome &&
  (decide (PySem.W.findIn K (.ref C) "__class__" = some (some (.builtin "object.__class__"))) && (decide (PySem.W.specialIn K (.builtin "object.__class__") "__get__" = some (some (.builtin "getset_descriptor.__get__"))) &&
  (decide (PySem.W.takesIn K (.builtin "object.__class__") = some true) && decide (PySem.W.mroIn K C (.type "object") = some true)))))))))))))
theorem xclsB_ok {K : PySem.W.Frag} {fI C : Addr} (h : xclsB K fI C = true) : XCls K fI C := by
  unfold xclsB at h
  simp only [Bool.and_eq_true, decide_eq_true_eq] at h
  obtain ⟨a1, a2, a3, a4, a5, a6, a7, a8, a9, b1, b2, b3, b4, b5⟩ := h
  exact ⟨⟨oexB_ok a1, a2, a3, a4, a5⟩, xfB_ok a6, a7, a8, a9, b1, b2, b3, b4, b5⟩
/-- the promise of __init__(self, value) -/
def spIniX (K : PySem.W.Frag) : Sp := fun vs H Q _ => ∃ (a C fI : Addr) (v : V), vs = [.ref a, v] ∧ XCls K fI C ∧ H a = some (exo a C none) ∧
  ∀ dx, H dx = none → dx ≠ a → Q .non (upd (upd H dx (exd dx [("value", v)])) a (exo a C (some dx)))
/-- C(e): a new exception -/
def tMkX (C : Addr) (ta : TA) : TE := fun σ H Q => ta σ H fun vs H1 => ∃ v, vs = [v] ∧ ∀ a d, H1 a = none → H1 d = none → d ≠ a → Q (.ref a) (upd (upd H1 d (exd d [("value", v)])) a (exo a C (some d)))
/-- x.value of a held exception -/
def tXv (K : PySem.W.Frag) (n : Str) (te : TE) : TE := fun σ H Q => te σ H fun x H1 => ∃ (a C d fI : Addr) (v : V), x = .ref a ∧ n = "value" ∧ XCls K fI C ∧ XAt H1 a C d v ∧ Q v H1
/-- isinstance(x, c) of a held exception -/
def rIsX (K : PySem.W.Frag) : List V → Hp → VK → Prop := fun xs H Q => ∃ (a C d fI : Addr) (v c : V) (u : Value) (b : Bool), xs = [.ref a, c] ∧ ClsV c u ∧ XCls K fI C ∧ XAt H a C d v ∧ PySem.W.kitOne K (.ref C) u = some b ∧ Q (.bl b) H
section
variable {X : Cx}
theorem pe_mkX {x : Str} {C fI : Addr} {k : Nat} {fd : FuncData} {e : Expr} {es : List Expr} {ta : TA} {p pos : Pos} (T : XCls X.K fI C) (F1 : FnOk X.prog X.w X.K X.mg X.base CX0 k fI fd ["self", "value"] (spIniX X.K)) (hr : Room (k + 1) X.A) (hb : Binds X.K fd ["self", "value"] [])
    (hg : Gl X x) (hm : X.mg x = some (.ref C)) (ha : PA X (e :: es) ta) (hdb : (x == ("__debug__" : Str)) = false := by decide) (hs : starEach (e :: es) X.env = (false, eval e X.env) :: starEach es X.env := by rfl) (hpl : (backTo pos (starEach es X.env)).any (·.1) = false := by rfl) :
    PE X (.Call (.Name x p) (e :: es) [] pos) (tMkX C ta) := by
  refine ⟨fun pins s σ H Q I h => ?_⟩
  obtain ⟨nm, q, N, bs, bm, sn, sub, ab, col, dd, k0, k1, k2, k3, k5, hC, hbm⟩ := T.o.cls
  refine wpAny_Call_Name_kw (ld_glob I hg hm ?_ hdb)
  refine PySem.W.callWith_K (h₀ := X.base) I.ok.mod.kin T.o.kC (thn (ha.run pos pins s σ H _ I h) fun us s1 ⟨vs, H1, I1, r1, v, ev, q1⟩ => ⟨I1.kIn, ?_⟩) hs hpl
  subst ev
  show wpAny _ _ (call (.ref C) us) _ _ _
  obtain ⟨hp, g, dr, tk, os⟩ := s1
  have hsz : hp.objs.size ≤ hp.objs.size + 1 := Nat.le_succ _
  have hn : H1 (hp.objs.size + 1) = none := I1.hok.fresh hsz
  have keeps : ∀ b o, hp.get? b = some o → ((hp.push (PySem.W.kdv_tup us)).push (PySem.HandSPX.excO C hp.objs.size)).get? b = some o := fun b o e => Heap.get?_push_of_some _ (Heap.get?_push_of_some _ e)
  have made : ((hp.push (PySem.W.kdv_tup us)).push (PySem.HandSPX.excO C hp.objs.size)).get? (hp.objs.size + 1) = some (PySem.HandSPX.excO C hp.objs.size) := by heap_get
  have I2 : Inv X pins σ (upd H1 (hp.objs.size + 1) (exo (hp.objs.size + 1) C none)) ⟨(hp.push (PySem.W.kdv_tup us)).push (PySem.HandSPX.excO C hp.objs.size), g, dr, tk, os⟩ :=
    I1.laid (t' := tk) keeps hsz (exo_ok made)
  have r2 : Vals (V.ref (hp.objs.size + 1) :: [v]) (Value.ref (hp.objs.size + 1) :: us) := .cons rfl r1
  have hl : (Value.ref (hp.objs.size + 1) :: us).length = (["self", "value"] : List Str).length := by
    rw [← r2.length]; rfl
  have hus : us.length ≤ sizeLine := by
    rw [← Paired.length r1, sizeLine_eq]; show 1 ≤ 16777216; decide
  have hsp : spIniX X.K (V.ref (hp.objs.size + 1) :: [v]) (upd H1 (hp.objs.size + 1) (exo (hp.objs.size + 1) C none)) (fun v' H2 => v' = .non ∧ ∃ d, H1 d = none ∧ d ≠ hp.objs.size + 1 ∧ H2 = upd (upd H1 d (exd d [("value", v)])) (hp.objs.size + 1) (exo (hp.objs.size + 1) C (some d))) E0 := by
    refine ⟨_, C, fI, v, rfl, T, upd_same, fun dx n1 n2 => ⟨rfl, dx, ?_, n2, ?_⟩⟩
    · rw [upd_ne n2] at n1; exact n1
    · funext b
      by_cases hb : b = hp.objs.size + 1
      · rw [hb, upd_same, upd_same]
      · rw [upd_ne hb, upd_ne hb]
        by_cases hd : b = dx
        · rw [hd, upd_same, upd_same]
        · rw [upd_ne hd, upd_ne hd, upd_ne hb]
  refine wpAny_call (PySem.HandSPX.call_own F.excBase_ValueError (fun Y => PySem.HandSPX.refsVE_contains Y bm hbm) (I1.kIn _ _ hC) (PySem.W.looks_findIn I1.kIn T.ini) (fun self => PySem.W.bind_fn I1.kIn self T.tI) hus
    (codeAny_mono (F1.run _ X.stack _ _ ⟨Value.ref (hp.objs.size + 1) :: us, []⟩ (Value.ref (hp.objs.size + 1) :: us) _ _ E0 (hr.make C us []) (I2.env0.make C us []) (by have z := hb _ (Value.ref (hp.objs.size + 1) :: us) I2.kIn (by simpa using hl); simpa using z) r2 hsp) fun r s' hq' => ?_))
  cases r with
  | error er => exact hq'.elim
  | ok fl =>
    cases fl with
    | ret u =>
      obtain ⟨v', H2, os2, bare2, un2, hok2, rv, ev, d, nd, nda, rfl⟩ := hq'
      subst ev
      exact ⟨rv, .ref _, _, I2.call' (ch := []) os2 un2 hok2 bare2 (fun b z => absurd z (by simp)), rfl, q1 _ d hn nd nda⟩
    | next => exact False.elim hq'
    | brk => exact False.elim hq'
    | cont => exact False.elim hq'
theorem xinst {pins : List (Addr × Obj)} {σ : L2.St} {H : Hp} {s : Shared} {a C d : Addr} {v : V} (I : Inv X pins σ H s) (x : XAt H a C d v) :
    ∃ ox od mA, PySem.W.InstAt s.heap a ox C (some od) ∧ s.heap.Ns1 d mA ∧ (∀ f, RelO (List.lookup f [(("value" : Str), v)]) (mA f)) ∧ s.heap.get? d = some od := by
  obtain ⟨t1, e1⟩ := exo_at I.hok x.1
  obtain ⟨mA, hns, rel⟩ := exd_at I.hok x.2
  obtain ⟨od, es, ep, ho, rest⟩ := id hns
  exact ⟨_, od, mA, ⟨e1, rfl, rfl, ho⟩, hns, rel, ho⟩
theorem pe_xv {e : Expr} {te : TE} {pos : Pos} {n : Str} (he : PE X e te) (hb : attributeBase e n X.env (eval e X.env) = eval e X.env := by rfl) : PE X (.Attribute e n pos) (tXv X.K n te) := by
  refine ⟨fun pins s σ H Q I h => ?_⟩
  refine attr_of hb (thn (he.run pins s σ H _ I h) fun u s1 ⟨x, H1, I1, rx, a, C, d, fI, v, ex, en, T, xa, q⟩ => ?_)
  subst ex en
  obtain rfl : u = Value.ref a := rx
  obtain ⟨mA, hns, rel⟩ := exd_at I1.hok xa.2
  obtain ⟨t1, e1⟩ := exo_at I1.hok xa.1
  obtain ⟨od, ho, hl⟩ := lookIn_ns hns
  obtain ⟨u, hu, ru⟩ := RelO.some_of (v := v) (o := mA ("value" : Str)) (by have z := rel ("value" : Str); rwa [lookup_put, if_pos rfl] at z)
  have J : PySem.W.InstAt s1.heap a _ C (some od) := ⟨e1, rfl, rfl, ho⟩
  exact HandSPX.exc_get I1.kIn J T.x.ga T.x.gg T.x.exC (PySem.W.findObj_own T.x.hdC T.noV rfl (by rw [hl, hu])) (handed_of ru) ⟨v, H1, I1.tok _, ru, q⟩
theorem call_isX : CallR X (.builtin "isinstance") (rIsX X.K) := by
  intro pins s σ H xs us Q I r h
  obtain ⟨a, C, d, fI, v, c, u, b, rfl, hc, T, xa, e, q⟩ := h
  obtain ⟨u1, u2, rfl, r1, r2⟩ := vals2 r
  cases (show u1 = Value.ref a from r1)
  have e2 := hc.eq r2
  subst e2
  obtain ⟨ox, od, mA, J, _⟩ := xinst I xa
  exact PySem.W.kia_one (PySem.W.kitx_exc T.cl T.x.ga T.x.gg T.x.exC T.ha T.hn T.ht T.hm) I.kIn J e (fun z => nomatch z) fun tk => ⟨.bl b, H, I.tok tk, rfl, q⟩
end
end Hw

set_option Elab.async false
set_option linter.all false
set_option maxRecDepth 100000
set_option maxHeartbeats 4000000
namespace Hw
open PySem L2 PyProof.Rows
/-! written data, laid beside a place a -/
mutual
inductive Dx (a : Addr) (H : Hp) : V → PyData → Prop
  | flat {v : V} {d : PyData} : flatPD v = some d → Dx a H v d
  | lst {p : Addr} {xs : List V} {ds : List PyData} : H p = some (.lst xs) → p ≠ a → DxAll a H xs ds → Dx a H (.ref p) (.list ds)
  | tup {p : Addr} {xs : List V} {ds : List PyData} : H p = some (.tup xs) → p ≠ a → DxAll a H xs ds → Dx a H (.ref p) (.tuple ds)
  | dct {p : Addr} {kvs : List (Key × V)} {ds : List (PyData × PyData)} : H p = some (.dK kvs) → p ≠ a → (∀ q ∈ kvs, valV kvs q.1 = some q.2 ∧ flatB q.2 = true) → Paired (fun q e => e.1 = keyPD q.1 ∧ flatPD q.2 = some e.2) kvs ds → Dx a H (.ref p) (.dict ds)
inductive DxAll (a : Addr) (H : Hp) : List V → List PyData → Prop
  | nil : DxAll a H [] []
  | cons {v : V} {vs : List V} {d : PyData} {ds : List PyData} : Dx a H v d → DxAll a H vs ds → DxAll a H (v :: vs) (d :: ds)
end
section
variable {a : Addr} {H H' : Hp}
mutual
theorem Dx.keep (s : SameX a H H') : ∀ (v : V) (d : PyData), Dx a H v d → Dx a H' v d
  | _, .list ds, h => by
    cases h with
    | flat e => exact .flat e
    | lst h1 h2 h3 => exact .lst (s _ _ h2 h1) h2 (DxAll.keep s _ ds h3)
  | _, .tuple ds, h => by
    cases h with
    | flat e => exact .flat e
    | tup h1 h2 h3 => exact .tup (s _ _ h2 h1) h2 (DxAll.keep s _ ds h3)
  | _, .dict ds, h => by
    cases h with
    | flat e => exact .flat e
    | dct h1 h2 h3 h4 => exact .dct (s _ _ h2 h1) h2 h3 h4
  | _, .none, h => by cases h with | flat e => exact .flat e
  | _, .bool _, h => by cases h with | flat e => exact .flat e
  | _, .int _, h => by cases h with | flat e => exact .flat e
  | _, .str _, h => by cases h with | flat e => exact .flat e
theorem DxAll.keep (s : SameX a H H') : ∀ (vs : List V) (ds : List PyData), DxAll a H vs ds → DxAll a H' vs ds
  | _, [], h => by cases h; exact .nil
  | _, d :: ds, h => by
    cases h with
    | cons h1 h2 => exact .cons (Dx.keep s _ d h1) (DxAll.keep s _ ds h2)
end
theorem DxAll.length : ∀ {vs : List V} {ds : List PyData}, DxAll a H vs ds → vs.length = ds.length
  | _, _, .nil => rfl
  | _, _, .cons _ t => congrArg (· + 1) (DxAll.length t)
theorem DxAll.append : ∀ {vs ws : List V} {ds es : List PyData}, DxAll a H vs ds → DxAll a H ws es → DxAll a H (vs ++ ws) (ds ++ es)
  | _, _, _, _, .nil, t => t
  | _, _, _, _, .cons x y, t => .cons x (DxAll.append y t)
theorem DxAll.at : ∀ {vs : List V} {ds : List PyData} {i : Nat} {v : V}, DxAll a H vs ds → vs[i]? = some v → ∃ d, d ∈ ds ∧ Dx a H v d
  | _, _, _, _, .nil, e => by simp at e
  | _, _, 0, _, .cons x _, e => by
    simp at e; subst e
    exact ⟨_, List.mem_cons_self, x⟩
  | _, _, i + 1, v, .cons _ t, e => by
    obtain ⟨d, h1, h2⟩ := DxAll.at (i := i) t (by simpa using e)
    exact ⟨d, List.mem_cons_of_mem _ h1, h2⟩
theorem Dp_flat {K : PySem.W.Frag} {v : V} {d : PyData} (e : flatPD v = some d) : Dp K H v d := by
  cases v with
  | non => cases e; exact .non
  | bl b => cases e; exact .bl b
  | int i => cases e; exact .int i
  | str x => cases e; exact .str x
  | byt b => cases e
  | flt b => cases e
  | ref a => cases e
  | ty n => cases e
mutual
theorem Dx.dp (K : PySem.W.Frag) : ∀ (v : V) (d : PyData), d.hasDict = false → Dx a H v d → Dp K H v d
  | _, .list ds, n, h => by
    cases h with
    | flat e => exact Dp_flat e
    | lst h1 h2 h3 => exact .lst (sql_of h1) (DxAll.dp K _ ds (by simpa only [PyData.hasDict] using n) h3)
  | _, .tuple ds, n, h => by
    cases h with
    | flat e => exact Dp_flat e
    | tup h1 h2 h3 => exact .tup (sqt_of h1) (DxAll.dp K _ ds (by simpa only [PyData.hasDict] using n) h3)
  | _, .dict ds, n, h => by simp [PyData.hasDict] at n
  | _, .none, _, h => by cases h with | flat e => exact Dp_flat e
  | _, .bool _, _, h => by cases h with | flat e => exact Dp_flat e
  | _, .int _, _, h => by cases h with | flat e => exact Dp_flat e
  | _, .str _, _, h => by cases h with | flat e => exact Dp_flat e
theorem DxAll.dp (K : PySem.W.Frag) : ∀ (vs : List V) (ds : List PyData), PyData.hasDictAll ds = false → DxAll a H vs ds → DpAll K H vs ds
  | _, [], _, h => by cases h; exact .nil
  | _, d :: ds, n, h => by
    simp only [PyData.hasDictAll, Bool.or_eq_false_iff] at n
    cases h with
    | cons h1 h2 => exact .cons (Dx.dp K _ d n.1 h1) (DxAll.dp K _ ds n.2 h2)
end
end
/-! displays that lay data -/
def MkD (te : TE) (d : PyData) : Prop := ∀ (a : Addr) (σ : L2.St) (H : Hp) (Q : VK), H a ≠ none → (∀ v H', Same H H' → Dx a H' v d → Q v H') → te σ H Q
def MkA (ta : TA) (ds : List PyData) : Prop := ∀ (a : Addr) (σ : L2.St) (H : Hp) (Q : List V → Hp → Prop), H a ≠ none → (∀ vs H', Same H H' → DxAll a H' vs ds → Q vs H') → ta σ H Q
theorem same_some {a : Addr} {H H' : Hp} (s : Same H H') (h : H a ≠ none) : H' a ≠ none := by
  cases e : H a with
  | none => exact absurd e h
  | some o => rw [s _ _ e]; exact fun z => nomatch z
theorem mkA_nil : MkA tNil [] := fun _ _ H _ _ q => q [] H (Same.refl H) .nil
theorem mkA_cons {te : TE} {ta : TA} {d : PyData} {ds : List PyData} (h1 : MkD te d) (h2 : MkA ta ds) : MkA (tCons te ta) (d :: ds) := fun a σ H Q ha q =>
  h1 a σ H _ ha fun v H1 s1 x1 => h2 a σ H1 _ (same_some s1 ha) fun vs H2 s2 x2 => q (v :: vs) H2 (s1.trans s2) (.cons (Dx.keep (.of s2) _ _ x1) x2)
theorem mk_c {v : V} {d : PyData} (h : flatPD v = some d) : MkD (tC v) d := fun a σ H Q _ q => q v H (Same.refl H) (.flat h)
theorem mk_neg {i : Int} : MkD (tUn (rU fun i => .int (-i)) (tC (.int i))) (.int (-i)) := fun a σ H Q _ q => ⟨i, rfl, q _ H (Same.refl H) (.flat rfl)⟩
theorem mk_tup {ta : TA} {ds : List PyData} (h : MkA ta ds) (hl : ds.length ≤ 1000) : MkD (tTup ta) (.tuple ds) := fun a σ H Q ha q => h a σ H _ ha fun vs H1 s1 x1 =>
  ⟨Nat.le_of_lt (small1000 (by rw [x1.length]; exact hl)), fun p hp => q _ _ (s1.trans (same_upd hp)) (.tup upd_same (fun e => same_some s1 ha (e ▸ hp)) (DxAll.keep (.of (same_upd hp)) _ _ x1))⟩
theorem mk_lst {ta : TA} {ds : List PyData} (h : MkA ta ds) (hl : ds.length ≤ 1000) : MkD (tLst ta) (.list ds) := fun a σ H Q ha q => h a σ H _ ha fun vs H1 s1 x1 =>
  ⟨Nat.le_of_lt (small1000 (by rw [x1.length]; exact hl)), fun p hp => q _ _ (s1.trans (same_upd hp)) (.lst upd_same (fun e => same_some s1 ha (e ▸ hp)) (DxAll.keep (.of (same_upd hp)) _ _ x1))⟩
theorem mk_dnew : MkD tDNewK (.dict []) := fun a σ H Q ha q p hp => q _ _ (same_upd hp) (.dct upd_same (fun e => ha (e ▸ hp)) (fun _ z => nomatch z) .nil)
theorem mk_dict1 {k : Str} {i : Int} : MkD (tDisp [(tC (.str k), tC (.int i))]) (.dict [(.str k, .int i)]) := fun a σ H Q ha q p hp => by
  refine ⟨upd_same, [(Sum.inr k, .int i)], rfl, by show 1 ≤ 15; decide, ?_⟩
  refine q _ _ (fun b o e => ?_) (.dct upd_same (fun e => ha (e ▸ hp)) (kvs := [(Sum.inr k, .int i)]) ?_ (.cons ⟨rfl, rfl⟩ .nil))
  · have hb := ne_of_none e hp
    rw [upd_ne hb, upd_ne hb]; exact e
  · intro z hz
    rcases List.mem_cons.mp hz with rfl | hz
    · exact ⟨valV_pos (p := ((Sum.inr k : Key), V.int i)) (r := []) rfl, rfl⟩
    · cases hz
/-- what is shown of such data, and is equal to itself -/
def fineD (d : PyData) : Bool := d.showable && (decide (d.depth ≤ 60) && (decide (d.shown.length ≤ 1000) && (match d with | .dict _ => true | d => !d.hasDict && (SeqAt.shaped d && PyData.eqv d d))))
section
variable {X : Cx}
def rNeO (K : PySem.W.Frag) : R2 := fun x y H Q => ∃ (a : Addr) (d : PyData), y = x ∧ Dx a H x d ∧ fineD d = true ∧ Q (.bl false) H
theorem op_neO (hu : X.A.units + 64 < cLine) : OpR X (compareOp .NotEq) (rNeO X.K) := by
  intro pins s σ H x y v u Q I rx ry h
  obtain ⟨a, d, rfl, hd, hf, q⟩ := h
  unfold fineD at hf
  simp only [Bool.and_eq_true] at hf
  obtain ⟨_, _, _, hf⟩ := hf
  by_cases hdict : ∃ ds, d = .dict ds
  · obtain ⟨ds, rfl⟩ := hdict
    cases hd with
    | flat e => cases y <;> cases e
    | dct h1 h2 h3 h4 => exact op_ne_dictA (by omega) pins s σ H _ _ v u Q I rx ry ⟨_, _, _, _, rfl, rfl, h1, h1, rfl, h3, q⟩
  · have hf' : (!d.hasDict && (SeqAt.shaped d && PyData.eqv d d)) = true := by
      revert hf
      cases d with
      | dict ds => exact absurd ⟨ds, rfl⟩ hdict
      | _ => exact fun z => z
    simp only [Bool.and_eq_true, Bool.not_eq_true'] at hf'
    have z := Dx.dp X.K _ d hf'.1 hd
    exact op_neD hu pins s σ H _ _ v u Q I rx ry ⟨d, d, z, z, hf'.2.1, hf'.2.1, by rw [hf'.2.2]; exact q⟩
def rReprO : List V → Hp → VK → Prop := fun xs H Q => ∃ (x : V) (a : Addr) (d : PyData), xs = [x] ∧ Dx a H x d ∧ fineD d = true ∧ Q (.str d.shown) H
theorem call_reprO (hg : X.A.guards = some []) (hu : X.A.units + 100 < cLine) : CallR X (.builtin "repr") rReprO := by
  intro pins s σ H xs us Q I r h
  obtain ⟨x, a, d, rfl, hd, hf, q⟩ := h
  unfold fineD at hf
  simp only [Bool.and_eq_true, decide_eq_true_eq] at hf
  obtain ⟨h1, h2, h3, hf⟩ := hf
  refine call_repr hg hu pins s σ H _ us Q I r ⟨x, d, rfl, ?_, h1, h2, Nat.le_of_lt (small1000 h3), q⟩
  by_cases hdict : ∃ ds, d = .dict ds
  · obtain ⟨ds, rfl⟩ := hdict
    cases hd with
    | flat e => cases x <;> cases e
    | dct k1 k2 k3 k4 => exact .inr ⟨_, _, ds, rfl, k1, rfl, k4⟩
  · have hf' : (!d.hasDict && (SeqAt.shaped d && PyData.eqv d d)) = true := by
      revert hf
      cases d with
      | dict ds => exact absurd ⟨ds, rfl⟩ hdict
      | _ => exact fun z => z
    simp only [Bool.and_eq_true, Bool.not_eq_true'] at hf'
    exact .inl (Dx.dp X.K _ d hf'.1 hd)
/-- count(True) of bools -/
def isT : Value → Bool
  | .bool b => b
  | _ => false
def rCntT (K : PySem.W.Frag) : V → List V → Hp → VK → Prop := fun x xs H Q => ∃ (p : Addr) (bs : List Bool), x = .ref p ∧ xs = [.bl true] ∧ SqL K H p (bs.map V.bl) ∧ Q (.int (bs.count true : Nat)) H
theorem cnt_isT : ∀ {bs : List Bool} {us : List Value}, Vals (bs.map V.bl) us → us.countP isT = bs.count true
  | [], _, r => by cases r; rfl
  | b :: bs, _, r => by
    cases r with
    | cons r1 r2 =>
      have ih := cnt_isT r2
      rename_i u us'
      obtain rfl : u = Value.bool b := r1
      rw [List.countP_cons, ih, List.count_cons]
      cases b <;> rfl
theorem mem_vals : ∀ {bs : List Bool} {us : List Value}, Vals (bs.map V.bl) us → ∀ y ∈ us, ∃ b, y = Value.bool b
  | [], _, r, y, hy => by cases r; cases hy
  | b :: bs, _, r, y, hy => by
    cases r with
    | cons r1 r2 =>
      rcases List.mem_cons.mp hy with rfl | hy
      · exact ⟨b, r1⟩
      · exact mem_vals r2 y hy
theorem mt_cntT : MtR X "list.count" (rCntT X.K) := by
  intro pins s σ H x xs v us Q I rx rxs h
  obtain ⟨p, bs, rfl, rfl, hs, q⟩ := h
  cases rx
  obtain ⟨u, rfl, ru⟩ := rxs.one
  obtain rfl : u = Value.bool true := ru
  obtain ⟨its, rv, ⟨⟨cls, dd, data, sl⟩, n, ho, hc, hdn, hd⟩, hlen⟩ := I.list hs
  simp only at hc hd
  subst hc hd
  refine call_meets PySem.F.slot_list_count ⟨_, ho, rfl⟩ PySem.F.entry_list_count (PySem.F.args_list_count_2 _ _)
    (SeqAt.list_countAt p its.toArray n dd sl (.bool true) isT) ⟨ho, fun y hy => ?_, ?_⟩
  · obtain ⟨b, rfl⟩ := mem_vals rv y (by simpa using hy)
    have z := eqAt_V (A := X.A.in1) (s := s) (y := .bl b) (x := .bl true) (u := .bool b) (v := .bool true) rfl rfl rfl rfl
    have e : eqV (.bl b) (.bl true) = isT (.bool b) := by cases b <;> rfl
    rw [e] at z
    exact z
  · refine ⟨.int (bs.count true : Nat), H, I.tok _, ⟨s.toks, ?_⟩, q⟩
    have ec : its.toArray.toList.countP isT = bs.count true := cnt_isT rv
    rw [ec]
end
end Hw

set_option Elab.async false
set_option linter.all false
set_option maxRecDepth 100000
set_option maxHeartbeats 4000000
namespace Hw
open PySem L2 PyProof.Rows
section
variable {t u : TS} {te ta tb : TE} {g : TG} {D : Ends} {σ : L2.St} {H : Hp} {Q : VK} {tl tr : TA} {r : R2} {QA : List V → Hp → Prop} {sp : Sp} {dvs : List V} {E : XK}
theorem r_seq (h : t { D with nx := u D } σ H) : tSeq t u D σ H := h
theorem r_asg (h : te σ H fun x H1 => g x σ H1 D.nx) : tAsg te g D σ H := h
theorem r_ret (h : te σ H D.rt) : tRet te D σ H := h
theorem r_cons (h : te σ H fun x H1 => tr σ H1 fun xs H2 => QA (x :: xs) H2) : tCons te tr σ H QA := h
theorem r_op (h : ta σ H fun x H1 => tb σ H1 fun y H2 => r x y H2 Q) : tOp r ta tb σ H Q := h
theorem r_call (h : tl σ H fun vs H1 => sp (vs ++ dvs) H1 Q E) : tCall sp dvs E tl σ H Q := h
theorem r_var {i : Nat} {v : V} (e : σ[i]? = some (some v)) (h : Q v H) : tVar i σ H Q := ⟨v, e, h⟩
end
theorem lst_use {ta : TA} {ds : List PyData} {a : Addr} {σ : L2.St} {H : Hp} {Q : VK} (ha : H a ≠ none) (q : ∀ p xs H', Same H H' → H' p = some (.lst xs) → p ≠ a → DxAll a H' xs ds → Q (.ref p) H') (m : MkA ta ds) (hl : ds.length ≤ 1000) : tLst ta σ H Q :=
  mk_lst m hl a σ H Q ha fun v H' s x => by
    cases x with
    | flat e => cases v <;> cases e
    | lst h1 n1 x1 => exact q _ _ H' s h1 n1 x1
section
variable {t u : TS} {te to : TE} {D : Ends} {σ : L2.St} {H : Hp} {i : Nat} {c : TT} {ta : TA} {K : PySem.W.Frag} {T : String} {r : V → List V → Hp → VK → Prop}
theorem rs_set (h : te σ H fun x H1 => u D (σ.set i (some x)) H1) : tSeq (tAsg te (gName i)) u D σ H := h
theorem rs_bm (h : to σ H fun x H1 => tyV K T x H1 ∧ ta σ H1 fun xs H2 => r x xs H2 fun _ H3 => u D σ H3) : tSeq (tDrop (tBM K T r to ta)) u D σ H := h
theorem rs_ifR (h : c σ H fun b H1 => if b = true then te σ H1 D.rt else u D σ H1) : tSeq (tIfS c (tRet te) tNext) u D σ H := h
theorem r1_ifR (h : c σ H fun b H1 => if b = true then te σ H1 D.rt else D.nx σ H1) : tIfS c (tRet te) tNext D σ H := h
end
/-! tests that come out false, new objects apart -/
def AnsF (t : TT) (σ : L2.St) (H : Hp) : Prop := ∀ Q : Bool → Hp → Prop, (∀ H', Same H H' → Q false H') → t σ H Q
section
variable {t u : TT} {σ : L2.St} {H : Hp} {te : TE} {us : TS} {D : Ends}
theorem ansF_or (h1 : AnsF t σ H) (h2 : ∀ H', Same H H' → AnsF u σ H') : AnsF (tOr t u) σ H := fun Q q =>
  h1 _ fun H1 s1 => by
    show if false = true then Q true H1 else u σ H1 Q
    rw [if_neg Bool.false_ne_true]
    exact h2 H1 s1 Q fun H2 s2 => q H2 (s1.trans s2)
theorem rs_skip (h1 : AnsF t σ H) (h : ∀ H', Same H H' → us D σ H') : tSeq (tIfS t (tRet te) tNext) us D σ H := h1 _ fun H1 s1 => by
  show if false = true then _ else _
  rw [if_neg Bool.false_ne_true]
  exact h H1 s1
theorem r1_skip (h1 : AnsF t σ H) (h : ∀ H', Same H H' → D.nx σ H') : tIfS t (tRet te) tNext D σ H := h1 _ fun H1 s1 => by
  show if false = true then _ else _
  rw [if_neg Bool.false_ne_true]
  exact h H1 s1
end
section
variable {u : TS} {D : Ends} {σ : L2.St} {H : Hp} {i j : Nat} {ta : TA} {v : V} {Q : L2.St → Hp → Prop}
theorem rs_par (h : ta σ H fun vs H1 => ∃ v w, vs = [v, w] ∧ u D ((σ.set i (some v)).set j (some w)) H1) : tSeq (tPar i j ta) u D σ H := h
theorem r_gname (h : Q (σ.set i (some v)) H) : gName i v σ H Q := h
end
theorem rs_enum {K : PySem.W.Frag} {u tb : TS} {g : TG} {D : Ends} {σ : L2.St} {H : Hp} {i : Nat} {p : Addr} {xs : List V} (e : σ[i]? = some (some (.ref p))) (hs : SqL K H p xs) (Pv : Nat → L2.St → Hp → Prop) (h0 : Pv 0 σ H)
    (hG : ∀ j σ H, j ≤ xs.length → Pv j σ H → SqL K H p xs)
    (turn : ∀ j x σ H T, j < xs.length → Pv j σ H → H T = none → xs[j]? = some x → g (.ref T) σ (upd H T (.tup [.int (j : Int), x])) fun σ2 H2 => tb { D with nx := Pv (j + 1), ct := Pv (j + 1), bk := u D } σ2 H2)
    (done : ∀ σ H, Pv xs.length σ H → u D σ H) : tSeq (tFor (iEnum K (tCons (tVar i) tNil)) g tb) u D σ H :=
  ⟨.ref p, e, p, xs, rfl, hs, for_it walk_enum Pv h0 hG (fun j x σ H H' hj hp ⟨T, xa, ya, ex, nT, eH, e1, e2⟩ => by
    subst ex eH
    obtain rfl : V.int (j : Int) = xa := Option.some.inj e1
    exact turn j ya σ H T hj hp nT e2) done⟩
theorem paired_at {α β : Type} {F : α → β → Prop} : ∀ {xs : List α} {ys : List β} {i : Nat} {y : β}, Paired F xs ys → ys[i]? = some y → ∃ x, xs[i]? = some x ∧ F x y
  | _, _, _, _, .nil, e => by simp at e
  | _, _, 0, _, .cons a _, e => by simp at e; subst e; exact ⟨_, rfl, a⟩
  | _, _, i + 1, y, .cons _ t, e => by
    obtain ⟨x, h1, h2⟩ := paired_at (i := i) t (by simpa using e)
    exact ⟨x, by simpa using h1, h2⟩
theorem r_yes {σ : L2.St} {H : Hp} {te : TE} {Q1 : VK} {B : Prop} (h : te σ H Q1) : tYes σ H fun b H3 => if b = true then te σ H3 Q1 else B := by
  show if true = true then te σ H Q1 else B
  rw [if_pos rfl]
  exact h
end Hw

set_option Elab.async false
set_option linter.all false
set_option maxRecDepth 100000
set_option maxHeartbeats 4000000
namespace HN
open PySem PySem.Spec PyProof.Rows PySem.SeqAt
section
variable {prog : Program} {w : World} {A : Around} {E : Value → Shared → Prop} {s : Shared} {K : PySem.W.Frag} {x C f : Addr} {ox : Obj} {od : Option Obj} {b tb : Value}
/-- how an answer is turned about -/
def NotBack (Q : Value → Shared → Prop) (v : Value) (s' : Shared) : Prop := ∃ r, v = .bool r ∧ Q (.bool (!r)) s'
theorem ne_entry {Q : Fin → Shared → Prop} (hu : A.units < cLine) (X : K.In s.heap) (I : PySem.W.InstAt s.heap x ox C od) (hs : PySem.W.findIn K (.ref C) "__eq__" = some (some (.ref f))) (hf : PySem.W.isFn K (.ref f) = true)
    (h : wpAny (model prog w) A (call (.ref f) [.ref x, b]) (NotBack fun v s' => Q (.done (.ret v)) s') E s) : wpAny (model prog w) A (Builtin.«object.__ne__» ⟨[.ref x, b], []⟩) Q E s := by
  have one : wpAny (model prog w) A (callSpecialIfBound? (.ref x) "__eq__" [b]) (fun r s' => ∃ q, r = some (.bool q) ∧ Q (.done (.ret (.bool (!q)))) s') E s :=
    PySem.W.ifBound_K X I hs hf (wpAny_mono h (fun v s' z => by
      obtain ⟨r, e, q⟩ := z
      exact ⟨r, by rw [e], q⟩) fun _ _ e => e)
  unfold Builtin.«object.__ne__»
  repeat (first
    | with_reducible refine wpAny_cRoomFor hu ?_
    | (refine wpAny_bind (m := callSpecialIfBound? (.ref x) (Str.ofString "__eq__") [b]) (wpAny_mono one (fun r s' z => by
        obtain ⟨q, e, hq⟩ := z
        subst e
        repeat (first | exact hq | exact wpAny_pure hq | exact wpAny_truthy_bool hq | (refine wpAny_bind (m := truthy (.bool _)) (wpAny_truthy_bool ?_)) | wp_step)) fun _ _ e => e))
    | wp_step)
theorem ifBound_objNe {M : Model} {args : List Value} {Q : Option Value → Shared → Prop} (X : K.In s.heap) (I : PySem.W.InstAt s.heap x ox C od) (hs : PySem.W.findIn K (.ref C) "__ne__" = some (some (.builtin "object.__ne__")))
    (h : wpAny M A (call (.builtin "object.__ne__") (.ref x :: args)) (fun v => Q (some v)) E s) : wpAny M A (callSpecialIfBound? (.ref x) "__ne__" args) Q E s := by
  simp only [callSpecialIfBound?, bindSpecialIfBound?]
  refine wpAny_holding (wpAny_bind (wpAny_bind (wpAny_bind (I.type.here ((PySem.W.looks_findIn X hs).here ?_)))))
  refine wpAny_bind (wpAny_askSetting (wpAny_ite ?_))
  have last : wpAny M A (call (.builtin "object.__ne__") ([.ref x] ++ args) >>= fun v => pure (some v)) Q E s := wpAny_bind (wpAny_mono h (fun v s' z => wpAny_pure z) fun _ _ z => z)
  have nb := F.cmp_object.ne.bind
  split
  · exact wpAny_bind (wpAny_of_eq (nb _) (wpAny_pure (by exact last)))
  · exact wpAny_tryCatch (wpAny_bind (wpAny_of_eq (nb _) (wpAny_pure (by exact last))))
theorem rich_ne {Q : Value → Shared → Prop} (hu : A.units + 1 < cLine) (X : K.In s.heap) (I : PySem.W.InstAt s.heap x ox C od) (hb : PySem.W.Looks (model prog w) s.heap (typeOf b) tb) (hn : PySem.W.notFirst K C tb = true)
    (hm : PySem.W.mroIn K C (.type "object") = some true) (hs : PySem.W.findIn K (.ref C) "__eq__" = some (some (.ref f))) (hf : PySem.W.isFn K (.ref f) = true) (hne : PySem.W.findIn K (.ref C) "__ne__" = some (some (.builtin "object.__ne__")))
    (h : wpAny (model prog w) A.in1 (call (.ref f) [.ref x, b]) (NotBack Q) E s) : wpAny (model prog w) A (richCompare .NotEq (.ref x) b) Q E s := by
  have one : wpAny (model prog w) A (tryCompare (.ref x) "__ne__" b) (fun r s' => ∃ v, r = some v ∧ Q v s') E s := by
    unfold tryCompare
    refine wpAny_bind (ifBound_objNe X I hne (wpAny_call (codeAny_call_builtin F.cmp_object.ne.plain F.cmpEntry_ne (PySem.W.check_slot F.cmpKind_ne F.cmpSplit_ne (I.type.andThen (PySem.W.looks_mroIn X hm)) (F.cmpArgs_ne _ _) (ne_entry (A := A.in1) hu X I hs hf (wpAny_mono h (fun v s' z => ?_) fun _ _ e => e))))))
    obtain ⟨r, e, q⟩ := z
    refine ⟨r, e, ?_⟩
    exact wpAny_pure ⟨_, rfl, q⟩
  simp only [richCompare, cmpInfo_NotEq, oneThing_ref]
  refine wpAny_holding (wpAny_bind (wpAny_cRoomFor (Nat.lt_of_succ_lt hu) ?_))
  refine wpAny_bind (I.type.here (wpAny_bind (hb.here ?_)))
  split
  · rename_i q
    have e : PySem.W.subIn K tb (.ref C) = some false := by
      have hn' := hn
      unfold PySem.W.notFirst at hn'
      rcases Bool.or_eq_true_iff.mp hn' with e | e
      · rw [beq_iff_eq.mp e] at q; simp at q
      · exact beq_iff_eq.mp e
    refine wpAny_bind ((PySem.W.looks_subIn X e).here ?_)
    simp only [Bool.false_eq_true, if_false]
    refine wpAny_bind (wpAny_mono one (fun r s' z => ?_) fun _ _ z => z)
    obtain ⟨v, e, hq⟩ := z
    subst e
    exact wpAny_pure hq
  · refine wpAny_bind (wpAny_pure ?_)
    simp only [Bool.false_eq_true, if_false]
    refine wpAny_bind (wpAny_mono one (fun r s' z => ?_) fun _ _ z => z)
    obtain ⟨v, e, hq⟩ := z
    subst e
    exact wpAny_pure hq
end
end HN
namespace Hw
open PySem L2 PyProof.Rows
/-- x == y (or !=) where x has a class of the text with its own == -/
def rEqU (K : PySem.W.Frag) (C : Addr) (sp : Sp) (E : XK) (neg : Bool) : R2 := fun x y H Q => ∃ a dx fs t, x = .ref a ∧ H a = some (.ins C dx fs) ∧ TyX K H y t ∧ PySem.W.notFirst K C t = true ∧ sp [.ref a, y] H (fun v H' => ∃ b, v = .bl b ∧ Q (.bl (b != neg)) H') E
/-- the class's own comparison -/
structure EqM (K : PySem.W.Frag) (C f : Addr) : Prop where
  eq : PySem.W.findIn K (.ref C) "__eq__" = some (some (.ref f))
  fn : PySem.W.isFn K (.ref f) = true
  ne : PySem.W.findIn K (.ref C) "__ne__" = some (some (.builtin "object.__ne__"))
  obj : PySem.W.mroIn K C (.type "object") = some true
section
variable {X : Cx} {n : Nat} {CX : CXT} {C f : Addr} {fd : FuncData} {ps : List Str} {sp : Sp} {E : XK}
theorem own_run (F : FnOk X.prog X.w X.K X.mg X.base CX n f fd ps sp) (hb : Binds X.K fd ps []) (hx : Passes CX X E) {A : Around} (hr : Room n A) (hfr : A.frames = X.A.frames) {pins : List (Addr × Obj)} {σ : L2.St} {H : Hp} {s : Shared} {vs : List V} {us : List Value} (I : Inv X pins σ H s) (r2 : Vals vs us) {R : VK}
    (hsp : sp vs H R E) {QQ : Value → Shared → Prop} (hq : ∀ z u H' s', Inv X pins σ H' s' → RelV z u → R z H' → QQ u s') : wpAny (model X.prog X.w) A (call (.ref f) us) QQ X.xe s := by
  have e0 : Env0 X.prog X.w X.K X.mg X.base A X.stack s H := by
    have e := I.env0
    exact ⟨by rw [hfr]; exact e.frames, e.mod, e.bs, e.bsz, e.funs, e.frf, e.hok, e.bare⟩
  have hl := F.len _ _ _ _ hsp
  have hl2 : us.length = vs.length := (Vals.length r2).symm
  refine wpAny_call (codeAny_mono (F.run A X.stack s H ⟨us, []⟩ us vs _ E hr e0 (by
    have := hb s us I.kIn (by simpa [hl2] using hl)
    simpa using this) r2 hsp) fun r s' z => ?_)
  cases r with
  | error e => exact hx pins σ H s e s' I z
  | ok fl =>
    cases fl with
    | ret u =>
      obtain ⟨z, H', I', rz, q⟩ := I.after z
      exact hq z u H' s' I' rz q
    | next => exact False.elim z
    | brk => exact False.elim z
    | cont => exact False.elim z
theorem eqU_run (F : FnOk X.prog X.w X.K X.mg X.base CX n f fd ps sp) (hb : Binds X.K fd ps []) (hx : Passes CX X E) {A : Around} (hr : Room n A) (hfr : A.frames = X.A.frames) {pins : List (Addr × Obj)} {σ : L2.St} {H : Hp} {s : Shared} {a : Addr} {y : V} {v : Value} (I : Inv X pins σ H s) (ry : RelV y v) {R : Bool → Hp → Prop}
    (hsp : sp [.ref a, y] H (fun z H' => ∃ b, z = .bl b ∧ R b H') E) {QQ : Value → Shared → Prop} (hq : ∀ b H' s', Inv X pins σ H' s' → R b H' → QQ (.bool b) s') : wpAny (model X.prog X.w) A (call (.ref f) [.ref a, v]) QQ X.xe s :=
  own_run F hb hx hr hfr I (.cons (show RelV (V.ref a) (Value.ref a) from rfl) (.cons ry .nil)) hsp fun z u H' s' I' rz ⟨b, ez, q⟩ => by
    subst ez
    cases rz
    exact hq b H' s' I' q
/-- len of an object with its own __len__ -/
theorem call_lenU (F : FnOk X.prog X.w X.K X.mg X.base CX n f fd ps sp) (hb : Binds X.K fd ps []) (hx : Passes CX X E) (hs : PySem.W.findIn X.K (.ref C) "__len__" = some (some (.ref f))) (hf : PySem.W.isFn X.K (.ref f) = true) (hr : Room (n + 1) X.A) :
    CallR X (.builtin "len") (fun xs H Q => ∃ a dx fs, xs = [V.ref a] ∧ H a = some (.ins C dx fs) ∧ sp [.ref a] H (fun v H' => ∃ k : Nat, v = .int k ∧ k ≤ 1000000 ∧ Q (.int k) H') E) := by
  intro pins s σ H xs us Q I r h
  obtain ⟨a, dx, fs, rfl, ha, hsp⟩ := h
  obtain ⟨u, rfl, ru⟩ := vals1 r
  cases ru
  obtain ⟨m1, J, _⟩ := ins_get I.hok ha
  obtain ⟨od, J, _⟩ := J.look
  obtain ⟨m, hF⟩ := I.fr
  refine PySem.W.len_K hF I.ok.mod.kin J hs hf ?_
  refine own_run F hb hx hr.in1 rfl I (.cons (show RelV (V.ref a) (Value.ref a) from rfl) .nil) hsp fun z u H' s' I' rz q => ?_
  obtain ⟨k, ez, hk, q⟩ := q
  subst ez
  obtain ⟨t, rfl⟩ := rz
  exact ⟨⟨by omega, by have : (2 : Int) ^ 63 = 9223372036854775808 := by decide
                       omega⟩, .int k, H', I'.tok _, ⟨_, rfl⟩, q⟩
theorem op_eqU (F : FnOk X.prog X.w X.K X.mg X.base CX n f fd ps sp) (hb : Binds X.K fd ps []) (hx : Passes CX X E) (M : EqM X.K C f) (hr : Room n X.A) : OpR X (compareOp .Eq) (rEqU X.K C sp E false) := by
  intro pins s σ H x y v u Q I rx ry hq
  obtain ⟨a, dx, fs, t, rfl, ha, ty, nf, hsp⟩ := hq
  cases rx
  obtain ⟨m1, J, _⟩ := ins_get I.hok ha
  obtain ⟨od, J, _⟩ := J.look
  obtain ⟨m, hF⟩ := I.fr
  obtain ⟨Pk, Z, pk, _⟩ := kit_of I ry ty
  refine PySem.W.cmp_K (op := .Eq) (tb := t) hr.units0 hF I.ok.mod.kin J (Z.ty _ _ I.kIn pk) nf M.eq M.fn ?_
  exact eqU_run F hb hx hr rfl I ry hsp fun b H' s' I' q => ⟨.bl b, H', I', rfl, by simpa using q⟩
theorem op_neU (F : FnOk X.prog X.w X.K X.mg X.base CX n f fd ps sp) (hb : Binds X.K fd ps []) (hx : Passes CX X E) (M : EqM X.K C f) (hr : Room (n + 1) X.A) : OpR X (compareOp .NotEq) (rEqU X.K C sp E true) := by
  intro pins s σ H x y v u Q I rx ry hq
  obtain ⟨a, dx, fs, t, rfl, ha, ty, nf, hsp⟩ := hq
  cases rx
  obtain ⟨m1, J, _⟩ := ins_get I.hok ha
  obtain ⟨od, J, _⟩ := J.look
  obtain ⟨Pk, Z, pk, _⟩ := kit_of I ry ty
  refine HN.rich_ne (tb := t) (by have := hr.units; omega) I.kIn J (Z.ty _ _ I.kIn pk) nf M.obj M.eq M.fn M.ne ?_
  exact eqU_run F hb hx hr.in1 rfl I ry hsp fun b H' s' I' q => ⟨b, rfl, ⟨.bl (!b), H', I', rfl, by cases b <;> simpa using q⟩⟩
end
end Hw

set_option Elab.async false
set_option linter.all false
set_option maxRecDepth 100000
namespace Hw
open PySem L2 PyProof.Rows
/-! texts as lists of codes -/
def SL (l : List Nat) : Str := ⟨l.toArray⟩
theorem SL_cps (l : List Nat) : (SL l).cps.toList = l := rfl
theorem SL_of (z : Str) : SL z.cps.toList = z := by obtain ⟨a⟩ := z; rfl
theorem str_ext {x y : Str} (h : x.cps.toList = y.cps.toList) : x = y := by rw [← SL_of x, ← SL_of y, h]
theorem SL_len (l : List Nat) : (SL l).length = l.length := by show l.toArray.size = l.length; simp
theorem len_cps (z : Str) : z.length = z.cps.toList.length := by obtain ⟨a⟩ := z; simp [Str.length]
theorem app_cps (x y : Str) : (x ++ y).cps.toList = x.cps.toList ++ y.cps.toList := by
  show (x.cps ++ y.cps).toList = _
  simp
theorem app_len (x y : Str) : (x ++ y).length = x.length + y.length := by rw [len_cps, len_cps, len_cps, app_cps, List.length_append]
theorem sjoin_cps0 : ∀ (cs : List Str), (Str.join (Str.ofString "") cs).cps.toList = cs.flatMap fun z => z.cps.toList
  | [] => rfl
  | [x] => by simp [Str.join]
  | x :: y :: r => by
    have ih := sjoin_cps0 (y :: r)
    have e : Str.join (Str.ofString "") (x :: y :: r) = x ++ Str.ofString "" ++ Str.join (Str.ofString "") (y :: r) := rfl
    rw [e, app_cps, app_cps, ih]
    show x.cps.toList ++ [] ++ _ = _
    rw [List.append_nil]; rfl
theorem join_cps0 (cs : List Str) : (Txt.join (Str.ofString "") cs).cps.toList = cs.flatMap fun z => z.cps.toList := by rw [TL.join_eq]; exact sjoin_cps0 cs
/-- a name: one to eight letters -/
def Nm (z : Str) : Prop := 1 ≤ z.length ∧ z.length ≤ 8 ∧ ∀ c ∈ z.cps.toList, 97 ≤ c ∧ c ≤ 122
instance (z : Str) : Decidable (Nm z) := by unfold Nm; exact inferInstance
/-- the words that are tried in the place of a word that is known -/
def cand (w : Str) : Nat → Str
  | 0 => w
  | k + 1 => SL ([97 + k / 26, 97 + k % 26] ++ w.cps.toList.drop 2)
theorem cand_drop (w : Str) : ∀ k, (cand w k).cps.toList.drop 2 = w.cps.toList.drop 2
  | 0 => rfl
  | k + 1 => by
    show (SL ([97 + k / 26, 97 + k % 26] ++ w.cps.toList.drop 2)).cps.toList.drop 2 = _
    rw [SL_cps]; rfl
theorem cand_nm {w : Str} (h : Nm w) {k : Nat} (hk : k ≤ 676) : Nm (cand w k) := by
  cases k with
  | zero => exact h
  | succ k =>
    obtain ⟨h1, h2, h3⟩ := h
    have e : (cand w (k + 1)).cps.toList = [97 + k / 26, 97 + k % 26] ++ w.cps.toList.drop 2 := SL_cps _
    have l : (cand w (k + 1)).length = 2 + (w.length - 2) := by
      rw [len_cps, e, List.length_append, List.length_drop, ← len_cps]; rfl
    refine ⟨by omega, by omega, fun c hc => ?_⟩
    rw [e] at hc
    rcases List.mem_append.mp hc with hc | hc
    · simp only [List.mem_cons, List.not_mem_nil, or_false] at hc
      rcases hc with rfl | rfl <;> omega
    · exact h3 c (List.mem_of_mem_drop hc)
theorem cand_inj {w : Str} {i j : Nat} (h : cand w (i + 1) = cand w (j + 1)) : i = j := by
  have e : ([97 + i / 26, 97 + i % 26] ++ w.cps.toList.drop 2) = ([97 + j / 26, 97 + j % 26] ++ w.cps.toList.drop 2) := by
    have z := congrArg (fun s : Str => s.cps.toList) h
    exact z
  injection e with e1 e2
  injection e2 with e2 e3
  omega
theorem sub_len {α : Type} [DecidableEq α] : ∀ {l m : List α}, l.Nodup → (∀ x ∈ l, x ∈ m) → l.length ≤ m.length
  | [], _, _, _ => Nat.zero_le _
  | a :: l, m, hn, hs => by
    obtain ⟨ha, hl⟩ := List.nodup_cons.mp hn
    have hm : a ∈ m := hs a List.mem_cons_self
    have ih := sub_len (m := m.erase a) hl fun x hx => by
      refine (List.mem_erase_of_ne ?_).mpr (hs x (List.mem_cons_of_mem _ hx))
      rintro rfl; exact ha hx
    have e := List.length_erase_of_mem hm
    have p : 0 < m.length := List.length_pos_of_mem hm
    rw [List.length_cons]; omega
theorem cand_few {w : Str} {ks : List Str} {k : Nat} (h : ∀ j, j < k → cand w j ∈ ks) : k ≤ ks.length + 1 := by
  cases k with
  | zero => omega
  | succ k =>
    have z := sub_len (l := (List.range k).map fun j => cand w (j + 1)) (m := ks) ?_ ?_
    · rw [List.length_map, List.length_range] at z; omega
    · rw [List.Nodup, List.pairwise_map]
      exact List.Pairwise.imp (fun {i j} hij e => hij (cand_inj e)) (List.nodup_range (n := k))
    · intro x hx
      obtain ⟨j, hj, rfl⟩ := List.mem_map.mp hx
      exact h (j + 1) (by have := List.mem_range.mp hj; omega)
def alpha : Str := Str.ofString "abcdefghijklmnopqrstuvwxyz"
theorem alpha_at : ∀ k, k < 26 → alpha.cps.toList[k]? = some (97 + k) := by decide +kernel
theorem alpha_mem : ∀ c ∈ alpha.cps.toList, 97 ≤ c ∧ c ≤ 122 := by decide +kernel
theorem alpha_len : alpha.length = 26 := by decide +kernel
theorem ones_join (cs : List Nat) : (Txt.join (Str.ofString "") (cs.map fun c => SL [c])).cps.toList = cs := by
  rw [join_cps0, List.flatMap_map]
  induction cs with
  | nil => rfl
  | cons c cs ih =>
    rw [List.flatMap_cons, ih]; rfl
end Hw

set_option Elab.async false
set_option linter.all false
set_option maxRecDepth 100000
set_option maxHeartbeats 4000000
namespace Hw
open PySem L2 PyProof.Rows
/-! a built-in class called with keywords -/
theorem callWith_tyK {M : Model} {A : Around} {E : Value → Shared → Prop} {s : Shared} {pos : Pos} {T : String} {first : List Value} {args : List (Bool × Sem Value)} {keywords : List (Option Str × Sem Value)} {Q : Value → Shared → Prop}
    (hp : args.any (·.1) = false) (hk : keywords.any (·.1.isNone) = false) (h : wpAny M A (evalArgs (.type T) true args keywords) (fun a s1 => wpAny M A (call (.type T) (first ++ a.pos) a.kw) Q E s1) E s) :
    wpAny M A (callWith pos (.type T) first args keywords) Q E s := by
  unfold callWith
  refine wpAny_bind (wpAny_holding (wpAny_mono h (fun a s1 h1 => wpAny_bind (wpAny_standAt ?_)) fun _ _ z => z))
  simp only [hp, hk, Bool.or_false]
  refine wpAny_bind (wpAny_pure ?_)
  exact wpAny_bind (wpAny_mono h1 (fun r s2 hr => wpAny_bind (wpAny_holding (wpAny_point (wpAny_pure hr)))) fun _ _ z => z)
/-! enumerate(list, start=k) -/
def IteK (K : PySem.W.Frag) (a : Addr) (k0 : Int) : It :=
  ⟨fun i H => ∃ (xs : List V) (x : V), SqL K H a xs ∧ xs[i]? = some x, fun i H v H' => ∃ T x, v = .ref T ∧ H T = none ∧ H' = upd H T (.tup [.int (k0 + (i : Nat)), x]) ∧ ∀ xs, SqL K H a xs → xs[i]? = some x, fun i H => ∃ xs : List V, SqL K H a xs ∧ xs.length = i⟩
theorem turn_enumK {P : Program} {w : World} {K : PySem.W.Frag} {elts : List Expr} {kk : Nat} {tpos : Pos} (k0 : Int) (a e it : Addr) :
    Turn P w K (.Tuple elts kk tpos) (IteK K a k0) [e, it] e (fun i h => (∃ old, IsEnum h e it (k0 + (i : Nat)) old) ∧ h.IsListIter it a i ∧ e ≠ it) where
  mem := by simp
  obj := fun i h st b hb => by
    obtain ⟨⟨old, he⟩, ⟨o, ho, hc, hd⟩, _⟩ := st
    rcases (show b = e ∨ b = it by simpa using hb) with z | z
    · subst z; exact ⟨_, he, fun v q => nomatch q⟩
    · subst z; exact ⟨o, ho, fun v q => by rw [hd] at q; cases q⟩
  keep := fun i h h' st k => by
    obtain ⟨⟨old, he⟩, hi, hne⟩ := st
    exact ⟨⟨old, k e (by simp) _ he⟩, hi.at fun o q => k it (by simp) o q, hne⟩
  item := by
    intro X hP hw hK hc i pins s σ H E I hf st hg
    subst hP hw hK
    obtain ⟨⟨old, he⟩, hit, hne⟩ := st
    obtain ⟨xs, x, hq, hx⟩ := hg
    obtain ⟨its, rv, p, hz⟩ := I.list hq
    obtain ⟨u, hu, ru⟩ := rv.get hx
    have hel : e < s.heap.objs.size := Heap.lt_size he
    have hil : it < s.heap.objs.size := by
      obtain ⟨_, q, _⟩ := hit
      exact Heap.lt_size q
    have hae : a ≠ e := fun z => by
      obtain ⟨o1, q1, q2, _⟩ := p.isList
      subst z
      rw [show s.heap.get? a = _ from he] at q1
      obtain rfl := Option.some.inj q1
      injection q2 with q2
      exact absurd q2 (by decide)
    have hai : a ≠ it := fun z => by
      obtain ⟨o1, q1, q2, _⟩ := p.isList
      obtain ⟨o2, q3, q4, _⟩ := hit
      subst z
      rw [q3] at q1
      obtain rfl := Option.some.inj q1
      rw [q4] at q2
      injection q2 with q2
      exact absurd q2 (by decide)
    have hlt : i < its.toArray.size := by
      have := (List.getElem?_eq_some_iff.mp hu).1
      simpa using this
    refine wpAny_pyNext_enum_itemC (Draws.list (A := X.A.in1) (I.ok.hd hc) it a hai its.toArray) he ⟨hit, p.isList⟩ hlt hne (by simp [Ne.symm hae, hne]) fun x' h' tk hx' ho hst' hT hsz hk => ⟨_, rfl, wpAny_letOwnedTupleGo_enum (s := { s with heap := h', toks := tk + 1 }) ho fun h2 he' sb => ?_⟩
    obtain ⟨hit', hl'⟩ := hst'
    obtain rfl : u = x' := by
      rw [show its.toArray[i]? = its[i]? by simp] at hx'
      rw [hu] at hx'
      exact Option.some.inj hx'
    have hT2 : h2.get? s.heap.objs.size = some { cls := .type "tuple", data := .seq #[.int (k0 + (i : Nat)) tk, u] } := (sb.2 _ (Nat.ne_of_gt hel)).trans hT
    have new : ObjOk X.prog X.w (upd H s.heap.objs.size (.tup [.int (k0 + (i : Nat)), x])) h2 s.heap.objs.size (.tup [.int (k0 + (i : Nat)), x]) :=
      ⟨by show 2 ≤ sizeLine; decide, [.int (k0 + (i : Nat)) tk, u], .cons ⟨_, rfl⟩ (.cons ru .nil), ⟨_, hT2, rfl, _, rfl⟩⟩
    have I1 : Inv X pins σ (upd H s.heap.objs.size (.tup [.int (k0 + (i : Nat)), x])) { s with heap := h2, toks := tk + 1 } :=
      I.turnedNew (ch := [e, it]) (fun b ob hb q => (sb.2 b (fun z => hb (by simp [z]))).trans (hk b ob (fun z => hb (by simp [z])) (fun z => hb (by simp [z])) q)) hf (Nat.le_refl _) new
    refine ⟨.ref s.heap.objs.size, _, I1, rfl, ⟨_, x, rfl, I.hok.fresh (Nat.le_refl _), rfl, fun ys hy => by rw [I.list_inj hy hq]; exact hx⟩, ⟨⟨u, ?_⟩, hit'.at fun o q => (sb.2 it (Ne.symm hne)).trans q, hne⟩, fun b hb => ?_⟩
    · have e1 : k0 + ((i + 1 : Nat) : Int) = k0 + (i : Nat) + 1 := by omega
      rw [e1]; exact he'
    · have hb' : b < s.heap.objs.size := by
        rcases (show b = e ∨ b = it by simpa using hb) with z | z
        · rw [z]; exact hel
        · rw [z]; exact hil
      rw [upd_ne (Nat.ne_of_lt hb')]
      exact (hf b hb).1
  done := by
    intro X hP hw hK hc i pins s σ H E I hf st hg
    subst hP hw hK
    obtain ⟨⟨old, he⟩, hit, hne⟩ := st
    obtain ⟨xs, hq, hx⟩ := hg
    obtain ⟨its, rv, p, hz⟩ := I.list hq
    obtain ⟨f0, f1, f2, f3, f4, f5⟩ := hf it (by simp)
    have hl := rv.length
    have hai : a ≠ it := fun z => by
      obtain ⟨o1, q1, q2, _⟩ := p.isList
      obtain ⟨o2, q3, q4, _⟩ := hit
      subst z
      rw [q3] at q1
      obtain rfl := Option.some.inj q1
      rw [q4] at q2
      injection q2 with q2
      exact absurd q2 (by decide)
    have ei : its.toArray.size = i := by simp; omega
    refine wpAny_pyNext_enum_endD (Draws.list (A := X.A.in1) (I.ok.hd hc) it a hai its.toArray) he ⟨by rw [ei]; exact hit, p.isList⟩ fun h' eb => ⟨rfl, I.turned (t' := s.toks) (fun b o hb q => eb b o hb q) f0 f1 f3 f4 f5⟩
  self := fun A i s Q E st h => by
    obtain ⟨⟨_, he⟩, _⟩ := st
    exact wpAny_pyIter_enum he h
def iEnumK (K : PySem.W.Frag) (ta tk : TA) : TI := fun σ H R => ta σ H fun vs H1 => tk σ H1 fun zs H2 => ∃ a xs k, vs = [.ref a] ∧ zs = [.int k] ∧ -(2 ^ 62) ≤ k ∧ k < 2 ^ 62 ∧ SqL K H2 a xs ∧ R (IteK K a k) H2
theorem pi_enumK {X : Cx} {e ke : Expr} {ta tk : TA} {p pos tpos kp : Pos} {elts : List Expr} {kk : Nat} (hg : Gl X "enumerate") (hm : X.mg "enumerate" = none) (ha : PA X [e] ta) (hk : PK X [⟨some (Str.ofString "start"), ke, kp⟩] tk)
    (he : backTo pos (starEach [e] X.env) = (false, eval e X.env) :: backTo pos (starEach [] X.env) := by rfl) (hpl : (backTo pos (starEach [e] X.env)).any (·.1) = false := by rfl)
    (hall : (backToKw pos (keywordEach [⟨some (Str.ofString "start"), ke, kp⟩] X.env)).all (·.1.isSome) = true := by rfl) (hnone : (backToKw pos (keywordEach [⟨some (Str.ofString "start"), ke, kp⟩] X.env)).any (·.1.isNone) = false := by rfl)
    (hks : (backToKw pos (keywordEach [⟨some (Str.ofString "start"), ke, kp⟩] X.env)).filterMap (·.1) = [Str.ofString "start"] := by rfl) :
    PI X (.Tuple elts kk tpos) (.Call (.Name "enumerate" p) [e] [⟨some (Str.ofString "start"), ke, kp⟩] pos) (iEnumK X.K ta tk) := by
  refine ⟨fun pins s σ H R I h => ?_⟩
  refine wpAny_Call_Name_kw (ld_blt I hg hm boot_enumerate ?_ (by decide) (by decide))
  refine callWith_tyK hpl hnone ?_
  rw [he]
  refine evalArgs_kwB hall ?_
  rw [← he]
  refine thn (ha.run pos pins s σ H _ I h) fun us s1 ⟨vs, H1, I1, r1, q1⟩ => thn (hk.run pos pins s1 σ H1 _ I1 q1) fun ws s2 ⟨zs, H2, I2, r2, a, xs, k, ex, ez, k0, k1, hq, q⟩ => ?_
  subst ex ez
  rw [hks]
  obtain ⟨u, rfl, ru⟩ := r1.one
  obtain ⟨v, rfl, rv⟩ := r2.one
  obtain rfl : u = Value.ref a := ru
  obtain ⟨t, rfl⟩ := rv
  obtain ⟨its, rvs, p', hz⟩ := I2.list hq
  refine enum_begins_start (begins_list a its.toArray) p'.isList (by omega) (by omega) fun h' hen hit hsz hkp => ?_
  refine wpAny_pyIter_enum hen ?_
  have I3 : Inv X pins σ H2 { s2 with heap := h' } := I2.kept (t' := s2.toks) hkp
  have li : h'.IsListIter s2.heap.objs.size a 0 := ⟨_, hit, rfl, rfl⟩
  refine ⟨s2.heap.objs.size + 1, [s2.heap.objs.size + 1, s2.heap.objs.size], _, _, H2, rfl, I3, turn_enumK k a (s2.heap.objs.size + 1) s2.heap.objs.size, ⟨⟨.none, by rw [show k + ((0 : Nat) : Int) = k by omega]; exact hen⟩, li, Nat.succ_ne_self _⟩, fun b hb => ?_, q⟩
  have hle : s2.heap.objs.size ≤ b := by
    rcases (show b = s2.heap.objs.size + 1 ∨ b = s2.heap.objs.size by simpa using hb) with z | z
    · rw [z]; exact Nat.le_add_right _ _
    · rw [z]; exact Nat.le_refl _
  exact I2.fpOk hle (I2.hok.fresh hle)
theorem walk_enumK {K : PySem.W.Frag} {a : Addr} {xs : List V} {k : Int} : Walk (IteK K a k) xs.length (fun H => SqL K H a xs) (YPair (fun i => some (.int (k + (i : Nat)))) (fun i => xs[i]?)) := by
  refine ⟨fun i _ hi q => ⟨xs, xs[i], q, by simp [hi]⟩, fun _ q => ⟨xs, q, rfl⟩, fun i H v H' _ q y => ?_⟩
  obtain ⟨T, x, h1, h2, h3, h4⟩ := y
  exact ⟨T, .int (k + (i : Nat)), x, h1, h2, h3, rfl, h4 xs q⟩
/-! a def called with keywords alone -/
section
variable {X : Cx} {CX : CXT} {k : Nat} {f : Addr} {fd : FuncData} {ps ks : List Str} {sp : Sp} {E : XK} {x : Str} {p pos : Pos} {kws : List Keyword} {tk : TA} {g : List Value → List Value → List Value} {gV : List V → List V → List V}
def tCallK0 (sp : Sp) (gV : List V → List V → List V) (E : XK) (tk : TA) : TE := fun σ H Q => tk σ H fun zs H2 => sp (gV [] zs) H2 Q E
theorem pe_callK0 (F : FnOk X.prog X.w X.K X.mg X.base CX k f fd ps sp) (hr : Room k X.A) (hg : Gl X x) (hm : X.mg x = some (.ref f)) (hk : PySem.W.keepIn X.K (.ref f) = true) (hb : KBinds X.K fd ps ks g gV) (hx : Passes CX X E) (hkw : PK X kws tk)
    (hall : (backToKw pos (keywordEach kws X.env)).all (·.1.isSome) = true := by rfl) (hks : (backToKw pos (keywordEach kws X.env)).filterMap (·.1) = ks := by rfl) (hdb : (x == ("__debug__" : Str)) = false := by decide)
    (hpl : ((backTo pos (starEach [] X.env)).any (·.1) || (backToKw pos (keywordEach kws X.env)).any (·.1.isNone)) = false := by rfl) : PE X (.Call (.Name x p) [] kws pos) (tCallK0 sp gV E tk) := by
  refine ⟨fun pins s σ H Q I h => ?_⟩
  refine wpAny_Call_Name_kw (ld_glob I hg hm ?_ hdb)
  refine PySem.W.callWith_KW0 (h₀ := X.base) I.ok.mod.kin hk hall (thn (hkw.run pos pins s σ H _ I h) fun ws s2 ⟨zs, H2, I2, rz, q2⟩ => ⟨I2.kIn, ?_⟩) hpl
  rw [hks]
  exact run_fnk F hr hb hx I2 .nil rz q2
end
end Hw

set_option Elab.async false
set_option linter.all false
set_option maxRecDepth 100000
set_option maxHeartbeats 4000000
namespace Hw
open PySem L2 PyProof.Rows
/-! the less and the greater of two texts -/
def strLt (a b : Str) : Bool := decide (a.cps.toList < b.cps.toList)
def txtV : Value → Str
  | .str x _ => x
  | _ => Str.ofString ""
def IsS (v : Value) : Prop := ∃ x t, v = .str x t
theorem cmpS_lt {prog : Program} {w : World} {A : Around} (vs : Array Value) (hn : ∀ v ∈ vs, IsS v) :
    CmpOf prog w A .Lt (fun i v => vs[i]? = some v) (fun i j => strLt (txtV (vs.getD i .none)) (txtV (vs.getD j .none))) := fun i j vi vj s Q E hi hj h => by
  have e1 : vs.getD i .none = vi := by simp [Array.getD_eq_getD_getElem?, hi]
  have e2 : vs.getD j .none = vj := by simp [Array.getD_eq_getD_getElem?, hj]
  simp only [e1, e2] at h
  obtain ⟨x, t, rfl⟩ := hn _ (Array.mem_of_getElem? hi)
  obtain ⟨y, u, rfl⟩ := hn _ (Array.mem_of_getElem? hj)
  exact PyProof.Rows.lt_str h
theorem cmpS_gt {prog : Program} {w : World} {A : Around} (vs : Array Value) (hn : ∀ v ∈ vs, IsS v) :
    CmpOf prog w A .Gt (fun i v => vs[i]? = some v) (fun i j => strLt (txtV (vs.getD j .none)) (txtV (vs.getD i .none))) := fun i j vi vj s Q E hi hj h => by
  have e1 : vs.getD i .none = vi := by simp [Array.getD_eq_getD_getElem?, hi]
  have e2 : vs.getD j .none = vj := by simp [Array.getD_eq_getD_getElem?, hj]
  simp only [e1, e2] at h
  obtain ⟨x, t, rfl⟩ := hn _ (Array.mem_of_getElem? hi)
  obtain ⟨y, u, rfl⟩ := hn _ (Array.mem_of_getElem? hj)
  exact PySem.P.gt_str h
theorem max_two_S {prog : Program} {w : World} {A : Around} {E : Value → Shared → Prop} {s : Shared} {Q : Value → Shared → Prop} {a b : Value} (hh : A.handled = none) (ha : IsS a) (hb : IsS b)
    (h : ∀ h' tk, (∀ c o, s.heap.get? c = some o → h'.get? c = some o) → Q (if strLt (txtV a) (txtV b) then b else a) { s with heap := h', toks := tk }) :
    wpAny (model prog w) A (call (.builtin "max") [a, b]) Q E s := by
  have hT : (s.heap.push { cls := .type "tuple", data := .seq #[a, b] }).IsTuple s.heap.objs.size #[a, b] := ⟨_, Heap.get?_push_size _ rfl, rfl, 0, rfl⟩
  refine call_max_two (wpAny_pyIter_tuple hT ?_)
  have hsz : (s.heap.push { cls := .type "tuple", data := .seq #[a, b] }).objs.size = s.heap.objs.size + 1 := Heap.size_push ..
  refine ⟨_, [_, s.heap.objs.size], [_], _, _, _, _, rfl, Walks.tuple (A := A.in1) hh _ s.heap.objs.size (by rw [hsz]; exact Nat.ne_of_lt (Nat.lt_succ_self _)) #[a, b],
    ⟨⟨_, Heap.get?_push_size _ rfl, rfl, rfl⟩, hT.push _⟩, fun c hc => ?_, by simp, cmpS_gt #[a, b] (by simp [ha, hb]), fun v h' tk hP hk => ?_⟩
  · show c < ((s.heap.push _).push _).objs.size
    rw [Heap.size_push, hsz]
    rcases List.mem_cons.mp hc with rfl | hc
    · rw [hsz]; exact Nat.lt_succ_self _
    · rcases List.mem_cons.mp hc with rfl | hc
      · exact Nat.lt_succ_of_lt (Nat.lt_succ_self _)
      · cases hc
  · have hold : ∀ c o, s.heap.get? c = some o → h'.get? c = some o := fun c o e => by
      refine hk c o (fun hm => ?_) (Heap.get?_push_of_some _ (Heap.get?_push_of_some _ e))
      rcases List.mem_cons.mp hm with e1 | hm
      · have := Heap.lt_size e; rw [e1, hsz] at this; exact Nat.lt_irrefl _ (Nat.lt_of_succ_lt this)
      · cases hm
    have := h h' tk hold
    have hv : v = if strLt (txtV a) (txtV b) then b else a := by
      cases hc : strLt (txtV a) (txtV b) <;> simp [argBest, hc] at hP <;> simp [hP]
    rw [hv]; exact this
theorem min_two_S {prog : Program} {w : World} {A : Around} {E : Value → Shared → Prop} {s : Shared} {Q : Value → Shared → Prop} {a b : Value} (hh : A.handled = none) (ha : IsS a) (hb : IsS b)
    (h : ∀ h' tk, (∀ c o, s.heap.get? c = some o → h'.get? c = some o) → Q (if strLt (txtV b) (txtV a) then b else a) { s with heap := h', toks := tk }) :
    wpAny (model prog w) A (call (.builtin "min") [a, b]) Q E s := by
  have hT : (s.heap.push { cls := .type "tuple", data := .seq #[a, b] }).IsTuple s.heap.objs.size #[a, b] := ⟨_, Heap.get?_push_size _ rfl, rfl, 0, rfl⟩
  refine call_min_two (wpAny_pyIter_tuple hT ?_)
  have hsz : (s.heap.push { cls := .type "tuple", data := .seq #[a, b] }).objs.size = s.heap.objs.size + 1 := Heap.size_push ..
  refine ⟨_, [_, s.heap.objs.size], [_], _, _, _, _, rfl, Walks.tuple (A := A.in1) hh _ s.heap.objs.size (by rw [hsz]; exact Nat.ne_of_lt (Nat.lt_succ_self _)) #[a, b],
    ⟨⟨_, Heap.get?_push_size _ rfl, rfl, rfl⟩, hT.push _⟩, fun c hc => ?_, by simp, cmpS_lt #[a, b] (by simp [ha, hb]), fun v h' tk hP hk => ?_⟩
  · show c < ((s.heap.push _).push _).objs.size
    rw [Heap.size_push, hsz]
    rcases List.mem_cons.mp hc with rfl | hc
    · rw [hsz]; exact Nat.lt_succ_self _
    · rcases List.mem_cons.mp hc with rfl | hc
      · exact Nat.lt_succ_of_lt (Nat.lt_succ_self _)
      · cases hc
  · have hold : ∀ c o, s.heap.get? c = some o → h'.get? c = some o := fun c o e => by
      refine hk c o (fun hm => ?_) (Heap.get?_push_of_some _ (Heap.get?_push_of_some _ e))
      rcases List.mem_cons.mp hm with e1 | hm
      · have := Heap.lt_size e; rw [e1, hsz] at this; exact Nat.lt_irrefl _ (Nat.lt_of_succ_lt this)
      · cases hm
    have := h h' tk hold
    have hv : v = if strLt (txtV b) (txtV a) then b else a := by
      cases hc : strLt (txtV b) (txtV a) <;> simp [argBest, hc] at hP <;> simp [hP]
    rw [hv]; exact this
section
variable {X : Cx}
theorem call_maxS (hc : X.calm = true) : CallR X (.builtin "max") (fun xs H Q => ∃ a b, xs = [.str a, .str b] ∧ Q (.str (if strLt a b = true then b else a)) H) := by
  intro pins s σ H xs us Q I r h
  obtain ⟨i, j, rfl, q⟩ := h
  obtain ⟨u, w', rfl, ⟨t, rfl⟩, ⟨t', rfl⟩⟩ := vals2 r
  refine max_two_S (I.ok.hd hc) ⟨_, _, rfl⟩ ⟨_, _, rfl⟩ fun h' tk k => ⟨_, H, I.kept k, ?_, q⟩
  show RelV _ (if strLt i j = true then _ else _)
  by_cases hj : strLt i j = true
  · rw [if_pos hj, if_pos hj]; exact ⟨_, rfl⟩
  · rw [if_neg hj, if_neg hj]; exact ⟨_, rfl⟩
theorem call_minS (hc : X.calm = true) : CallR X (.builtin "min") (fun xs H Q => ∃ a b, xs = [.str a, .str b] ∧ Q (.str (if strLt b a = true then b else a)) H) := by
  intro pins s σ H xs us Q I r h
  obtain ⟨i, j, rfl, q⟩ := h
  obtain ⟨u, w', rfl, ⟨t, rfl⟩, ⟨t', rfl⟩⟩ := vals2 r
  refine min_two_S (I.ok.hd hc) ⟨_, _, rfl⟩ ⟨_, _, rfl⟩ fun h' tk k => ⟨_, H, I.kept k, ?_, q⟩
  show RelV _ (if strLt j i = true then _ else _)
  by_cases hj : strLt j i = true
  · rw [if_pos hj, if_pos hj]; exact ⟨_, rfl⟩
  · rw [if_neg hj, if_neg hj]; exact ⟨_, rfl⟩
/-! sorted over data, any number -/
def rSortB (K : PySem.W.Frag) : List V → Hp → VK → Prop := fun vs H Q => ∃ (a : Addr) (bs : List (V × PyData)), vs = [V.ref a] ∧ SqL K H a (bs.map (·.1)) ∧ (∀ b ∈ bs, Dp K H b.1 b.2 ∧ b.2.depth ≤ 50) ∧ PySem.W.AllAlike (bs.map (·.2)) ∧ PySem.W.Sortable (bs.map (·.2)) ∧ bs.length ≤ sizeLine ∧
  ∀ p, H p = none → Q (.ref p) (upd H p (.lst ((bs.mergeSort (PySem.W.dataLe false (·.2))).map (·.1))))
theorem each_of_vals {K : PySem.W.Frag} {P : Program} : ∀ {bs : List (V × PyData)} {us : List Value}, Vals (bs.map (·.1)) us → PySem.W.EachIs (fun (v : Value) (b : V × PyData) => RelV b.1 v) us bs
  | [], _, r => by cases r; exact .nil
  | b :: bs, _, r => by
    cases r with
    | cons r1 r2 => exact .cons r1 (each_of_vals (K := K) (P := P) r2)
theorem vals_of_each : ∀ {bs : List (V × PyData)} {us : List Value}, PySem.W.EachIs (fun (v : Value) (b : V × PyData) => RelV b.1 v) us bs → Vals (bs.map (·.1)) us
  | _, _, .nil => .nil
  | _, _, .cons r t => .cons r (vals_of_each t)
theorem reads_each {X : Cx} {pins : List (Addr × Obj)} {s : Shared} {σ : L2.St} {H : Hp} (I : Inv X pins σ H s) : ∀ {bs : List (V × PyData)} {us : List Value}, (∀ b ∈ bs, Dp X.K H b.1 b.2) → Vals (bs.map (·.1)) us → PySem.W.EachIs (fun (v : Value) (b : V × PyData) => ∃ as, Reads s.heap v b.2 as) us bs
  | [], _, _, r => by cases r; exact .nil
  | b :: bs, _, h, r => by
    cases r with
    | cons r1 r2 => exact .cons (Dp.reads I b.2 b.1 _ (h b List.mem_cons_self) r1) (reads_each I (fun b hb => h b (List.mem_cons_of_mem _ hb)) r2)
theorem cr_sortB (hu : X.A.units + 64 < cLine) : CallR X (.builtin "sorted") (rSortB X.K) := by
  intro pins s σ H vs us Q I r h
  obtain ⟨a, bs, rfl, hs, hd, hal, hk, hL, q⟩ := h
  obtain ⟨its, rv, hl, _⟩ := I.list hs
  rw [Vals.ref1 r]
  refine PySem.W.sorted_data (β := V × PyData) (vs := its) (bs := bs) (enc := (·.2)) (R := fun v b => RelV b.1 v) hl.isList (each_of_vals (K := X.K) (P := X.prog) rv) (reads_each I (fun b hb => (hd b hb).1) rv) hal hk hL (fun b hb => by have := (hd b hb).2; omega) fun out ho he => ?_
  have hv := vals_of_each he
  obtain ⟨ep, he'⟩ := PyProof.Rows.sortedAll_at s.heap its out.toArray
  have hlen : ((bs.mergeSort (PySem.W.dataLe false (·.2))).map (·.1)).length ≤ sizeLine := by rw [List.length_map, List.length_mergeSort]; exact hL
  exact ⟨.ref _, upd H (s.heap.objs.size + 1) (.lst ((bs.mergeSort (PySem.W.dataLe false (·.2))).map (·.1))), I.laid (t' := s.toks) (fun _ _ => PyProof.Rows.sortedAll_old) (Nat.le_succ _) ⟨hlen, out, ep, hv, he'⟩, rfl, q _ (I.hok.fresh (Nat.le_succ _))⟩
end

theorem walk_zipT {K : PySem.W.Frag} {a b : Addr} {xs ys : List V} {n : Nat} (hn : n = min xs.length ys.length) : Walk (RZ.ItzT K a b) n (fun H => SqT K H a xs ∧ SqT K H b ys) (YPair (fun i => xs[i]?) (fun i => ys[i]?)) := by
  subst hn
  refine ⟨fun i _ hi q => ?_, fun _ q => ⟨xs, ys, q.1, q.2, by omega⟩, fun i H v H' _ q y => ?_⟩
  · have h1 : i < xs.length := by omega
    have h2 : i < ys.length := by omega
    exact ⟨xs, ys, xs[i], ys[i], q.1, q.2, by simp [h1], by simp [h2]⟩
  · obtain ⟨T, x, z, h1, h2, h3, h4, h5⟩ := y
    exact ⟨T, x, z, h1, h2, h3, h4 xs q.1, h5 ys q.2⟩
/-! `<=` of two tuples of texts -/
theorem RcOp.le_str {A : Around} {s : Shared} (a b : Str) (t u : Tok) : Ob.RcOp .LtE A s (.str a t) (.str b u) (!strLt b a) := fun _ _ _ _ h => PySem.P.le_str h
def rLeS (K : PySem.W.Frag) : R2 := fun x y H Q => ∃ (a b : Addr) (ns ms : List Str), x = .ref a ∧ y = .ref b ∧ SqT K H a (ns.map V.str) ∧ SqT K H b (ms.map V.str) ∧
  Q (.bl (Ob.lexAt (fun j => ns.getD j (Str.ofString "") == ms.getD j (Str.ofString "")) (fun j => !strLt (ms.getD j (Str.ofString "")) (ns.getD j (Str.ofString ""))) (decide (ns.length ≤ ms.length)) 0 (min ns.length ms.length))) H
theorem str_item {us : List Value} {xs : List Str} (r : Vals (xs.map V.str) us) (j : Nat) (h : j < us.toArray.size) : ∃ t, us.toArray[j] = .str (xs.getD j (Str.ofString "")) t := by
  have h' : j < us.length := by simpa using h
  have hl := r.length
  rw [List.length_map] at hl
  obtain ⟨u, hu, ru⟩ := r.get (i := j) (x := V.str (xs.getD j (Str.ofString ""))) (by
    rw [List.getElem?_map, List.getElem?_eq_getElem (by omega : j < xs.length), List.getD_eq_getElem?_getD, List.getElem?_eq_getElem (by omega : j < xs.length)]; rfl)
  obtain ⟨t, rfl⟩ := ru
  refine ⟨t, ?_⟩
  rw [List.getElem?_eq_getElem h'] at hu
  simpa using Option.some.inj hu
theorem op_leS {X : Cx} (hu : X.A.units < cLine) : OpR X (compareOp .LtE) (rLeS X.K) := by
  intro pins s σ H x y v u Q I rx ry h
  obtain ⟨a, b, ns, ms, rfl, rfl, ha, hb, q⟩ := h
  cases rx
  cases ry
  obtain ⟨its, r1, p1, _⟩ := I.tuple ha
  obtain ⟨its2, r2, p2, _⟩ := I.tuple hb
  have e1 : its.toArray.size = ns.length := by rw [List.size_toArray, ← r1.length, List.length_map]
  have e2 : its2.toArray.size = ms.length := by rw [List.size_toArray, ← r2.length, List.length_map]
  have R := Ob.RcOp.tuples_le (A := X.A) (s := s) (e := fun j => ns.getD j (Str.ofString "") == ms.getD j (Str.ofString "")) (r := fun j => !strLt (ms.getD j (Str.ofString "")) (ns.getD j (Str.ofString ""))) p1 p2 hu (fun j h1 h2 => by
    obtain ⟨t, et⟩ := str_item r1 j h1
    obtain ⟨t', et'⟩ := str_item r2 j h2
    rw [et, et']
    exact SeqAt.EqAt.str_str _ _ _ _) (fun j h1 h2 _ => by
    obtain ⟨t, et⟩ := str_item r1 j h1
    obtain ⟨t', et'⟩ := str_item r2 j h2
    rw [et, et']
    exact RcOp.le_str _ _ _ _)
  rw [e1, e2] at R
  have z : wpAny (model X.prog X.w) X.A (compareOp .LtE (.ref a) (.ref b)) (EP X pins σ Q) X.xe s := R X.prog X.w X.xe (EP X pins σ Q) ⟨.bl _, H, I, rfl, q⟩
  exact z

/-! `v in x`, `v not in x` by the class's own `__contains__` -/
section
variable {X : Cx} {CX : CXT} {k : Nat} {f C : Addr} {fd : FuncData} {ps : List Str} {sp : Sp} {dvs : List V} {ds : List Value} {E : XK}
def rInM (C : Addr) (sp : Sp) (dvs : List V) (E : XK) (neg : Bool) : R2 := fun x y H Q => ∃ p dx fs, y = .ref p ∧ H p = some (.ins C dx fs) ∧ sp ([.ref p, x] ++ dvs) H (fun r H' => ∃ b, r = .bl b ∧ Q (.bl (if neg = true then !b else b)) H') E
theorem has_M {pins : List (Addr × Obj)} {s : Shared} {σ : L2.St} {H : Hp} {x : V} {v : Value} {p dx : Addr} {fs : List (Str × V)} {Qb : Bool → Shared → Prop} {Q' : VK} (I : Inv X pins σ H s) (rx : RelV x v) (hp : H p = some (.ins C dx fs)) (hm : Meth X.K C "__contains__" f) (F : FnOk X.prog X.w X.K X.mg X.base CX k f fd ps sp) (hr : Room k X.A) (hb : Binds X.K fd ps ds) (hd : Vals dvs ds) (hx : Passes CX X E)
    (h : sp ([.ref p, x] ++ dvs) H Q' E) (hq : ∀ u s1, EP X pins σ Q' u s1 → ∃ b, u = .bool b ∧ Qb b s1) : wpAny (model X.prog X.w) X.A (contains (.ref p) v) Qb X.xe s := by
  obtain ⟨mA, O, r, _⟩ := ins_get I.hok hp
  obtain ⟨od, J, hl⟩ := O.look
  unfold contains
  refine wpAny_holding (wpAny_bind (wpAny_bind (J.type.here ((PySem.W.looks_findIn I.kIn hm.at_).here ?_))))
  rw [if_neg (by simp)]
  refine wpAny_bind (PySem.W.unlessNone_K I.kIn J hm.at_ hm.fn ?_)
  refine thn (run_fn (us := [.ref p, v]) (vs := [.ref p, x]) F hr hb hd hx I (.cons rfl (.cons rx .nil)) h) fun u s1 hu => ?_
  obtain ⟨b, rfl, q⟩ := hq u s1 hu
  exact wpAny_truthy_bool q
theorem op_inM (hm : Meth X.K C "__contains__" f) (F : FnOk X.prog X.w X.K X.mg X.base CX k f fd ps sp) (hr : Room k X.A) (hb : Binds X.K fd ps ds) (hd : Vals dvs ds) (hx : Passes CX X E) : OpR X (compareOp .In) (rInM C sp dvs E false) := by
  intro pins s σ H x y v u Q I rx ry h
  obtain ⟨p, dx, fs, rfl, hp, h⟩ := h
  obtain rfl : u = Value.ref p := ry
  refine wpAny_bind (has_M (Qb := fun b s1 => wpAny (model X.prog X.w) X.A (pure (Value.bool b)) (EP X pins σ Q) X.xe s1) I rx hp hm F hr hb hd hx h fun u s1 hu => ?_)
  obtain ⟨z, H', I', rz, b, rfl, q⟩ := hu
  cases rz
  exact ⟨b, rfl, wpAny_pure ⟨.bl b, H', I', rfl, q⟩⟩
theorem op_notInM (hm : Meth X.K C "__contains__" f) (F : FnOk X.prog X.w X.K X.mg X.base CX k f fd ps sp) (hr : Room k X.A) (hb : Binds X.K fd ps ds) (hd : Vals dvs ds) (hx : Passes CX X E) : OpR X (compareOp .NotIn) (rInM C sp dvs E true) := by
  intro pins s σ H x y v u Q I rx ry h
  obtain ⟨p, dx, fs, rfl, hp, h⟩ := h
  obtain rfl : u = Value.ref p := ry
  refine wpAny_bind (has_M (Qb := fun b s1 => wpAny (model X.prog X.w) X.A (pure (Value.bool (!b))) (EP X pins σ Q) X.xe s1) I rx hp hm F hr hb hd hx h fun u s1 hu => ?_)
  obtain ⟨z, H', I', rz, b, rfl, q⟩ := hu
  cases rz
  exact ⟨b, rfl, wpAny_pure ⟨.bl (!b), H', I', rfl, q⟩⟩
end
end Hw

set_option Elab.async false
set_option linter.all false
set_option maxRecDepth 100000
set_option maxHeartbeats 4000000
namespace Hw
open PySem PySem.Spec L2 PyProof.Rows
/-! the order of texts and of pairs of texts -/
theorem strLt_irr (a : Str) : strLt a a = false := decide_eq_false (List.lt_irrefl _)
theorem strLt_tr {a b c : Str} (h : strLt a b = true) (h' : strLt b c = true) : strLt a c = true := decide_eq_true (List.lt_trans (of_decide_eq_true h) (of_decide_eq_true h'))
theorem strLt_as {a b : Str} (h : strLt a b = true) : strLt b a = false := by
  cases e : strLt b a with
  | false => rfl
  | true => have := strLt_tr h e; rw [strLt_irr] at this; cases this
theorem strLt_tri {a b : Str} (h : strLt a b = false) (h' : strLt b a = false) : a = b := by
  refine str_ext (List.le_antisymm ?_ ?_)
  · exact List.not_lt.mp (of_decide_eq_false h')
  · exact List.not_lt.mp (of_decide_eq_false h)
theorem strLt_ne {a b : Str} (h : strLt a b = true) : a ≠ b := fun e => by rw [e, strLt_irr] at h; cases h
def leS (a b : Str) : Bool := !strLt b a
theorem leS_tr (a b c : Str) (h : leS a b = true) (h' : leS b c = true) : leS a c = true := by
  unfold leS at *
  cases e : strLt c a with
  | false => rfl
  | true =>
    cases e1 : strLt b a with
    | true => rw [e1] at h; cases h
    | false =>
      cases e2 : strLt a b with
      | true => rw [strLt_tr e e2] at h'; cases h'
      | false => rw [strLt_tri e1 e2, e] at h'; cases h'
theorem leS_tot (a b : Str) : (leS a b || leS b a) = true := by
  unfold leS
  cases e : strLt b a with
  | false => rfl
  | true => rw [strLt_as e]; rfl
theorem leS_anti {a b : Str} (h : leS a b = true) (h' : leS b a = true) : a = b := by
  unfold leS at h h'
  exact strLt_tri (by simpa using h') (by simpa using h)
def sortS (l : List Str) : List Str := l.mergeSort leS
def Asc (l : List Str) : Prop := l.Pairwise fun a b => strLt a b = true
theorem sortS_perm (l : List Str) : (sortS l).Perm l := List.mergeSort_perm l leS
theorem sortS_le (l : List Str) : (sortS l).Pairwise fun a b => leS a b = true := List.pairwise_mergeSort leS_tr leS_tot l
theorem asc_of_le {l : List Str} (h : l.Pairwise fun a b => leS a b = true) (hn : l.Nodup) : Asc l := by
  refine (h.and hn).imp ?_
  rintro a b ⟨h1, h2⟩
  cases e : strLt a b with
  | true => rfl
  | false => exact absurd (strLt_tri e (by simpa [leS] using h1)) h2
theorem sortS_asc {l : List Str} (h : l.Nodup) : Asc (sortS l) := asc_of_le (sortS_le l) ((sortS_perm l).nodup_iff.mpr h)
theorem Asc.nodup {l : List Str} (h : Asc l) : l.Nodup := h.imp fun q => strLt_ne q
theorem Asc.le {l : List Str} (h : Asc l) : l.Pairwise fun a b => leS a b = true := h.imp fun q => by unfold leS; rw [strLt_as q]; rfl
theorem sortS_eq {l m : List Str} (h : m.Perm l) (hm : m.Pairwise fun a b => leS a b = true) : m = sortS l :=
  List.Perm.eq_of_pairwise (le := fun a b => leS a b = true) (fun a b _ _ h1 h2 => leS_anti h1 h2) hm (sortS_le l) (h.trans (sortS_perm l).symm)
theorem sortS_asc_id {l : List Str} (h : Asc l) : sortS l = l := (sortS_eq (.refl _) h.le).symm
theorem sortS_of_perm {l m : List Str} (h : l.Perm m) : sortS l = sortS m := sortS_eq ((sortS_perm l).trans h) (sortS_le l)
theorem risingS_le : ∀ (l : List Str) (p : Str), risingS p l = true → (p :: l).Pairwise fun a b => leS a b = true
  | [], _, _ => List.pairwise_singleton _ _
  | x :: r, p, h => by
    have h' : (!ltCps x.cps.toList p.cps.toList && risingS x r) = true := h
    rw [Bool.and_eq_true] at h'
    have ih := risingS_le r x h'.2
    have hpx : leS p x = true := by
      have := h'.1
      rw [PyProof.Rows.ltCps_eq] at this
      exact this
    refine List.pairwise_cons.mpr ⟨fun y hy => ?_, ih⟩
    rcases List.mem_cons.mp hy with rfl | hy
    · exact hpx
    · exact leS_tr _ _ _ hpx ((List.pairwise_cons.mp ih).1 y hy)
theorem sortedS_le : ∀ {l : List Str}, sortedS l = true → l.Pairwise fun a b => leS a b = true
  | [], _ => .nil
  | x :: r, h => risingS_le r x h
theorem sortedS_eq {l m : List Str} (h : m.Perm l) (hm : sortedS m = true) : m = sortS l := sortS_eq h (sortedS_le hm)
abbrev Tie := Str × Str
def ltP (p q : Tie) : Bool := if p.1 == q.1 then strLt p.2 q.2 else strLt p.1 q.1
def leP (p q : Tie) : Bool := !ltP q p
theorem ltP_irr (p : Tie) : ltP p p = false := by unfold ltP; rw [if_pos (beq_self_eq_true _), strLt_irr]
theorem ltP_iff {p q : Tie} : ltP p q = true ↔ strLt p.1 q.1 = true ∨ p.1 = q.1 ∧ strLt p.2 q.2 = true := by
  unfold ltP
  by_cases h : p.1 = q.1
  · rw [if_pos (beq_iff_eq.mpr h), h, strLt_irr]; simp
  · rw [if_neg (by simpa using h)]; simp [h]
theorem ltP_tr {p q r : Tie} (h : ltP p q = true) (h' : ltP q r = true) : ltP p r = true := by
  rw [ltP_iff] at *
  rcases h with h | ⟨e, h⟩ <;> rcases h' with h' | ⟨e', h'⟩
  · exact .inl (strLt_tr h h')
  · exact .inl (e' ▸ h)
  · exact .inl (e ▸ h')
  · exact .inr ⟨e.trans e', strLt_tr h h'⟩
theorem ltP_tri {p q : Tie} (h : ltP p q = false) (h' : ltP q p = false) : p = q := by
  have a : ¬ (ltP p q = true) := by rw [h]; exact Bool.false_ne_true
  have b : ¬ (ltP q p = true) := by rw [h']; exact Bool.false_ne_true
  rw [ltP_iff] at a b
  have e : p.1 = q.1 := strLt_tri (by simpa using fun z => a (.inl z)) (by simpa using fun z => b (.inl z))
  have e2 : p.2 = q.2 := strLt_tri (by simpa using fun z => a (.inr ⟨e, z⟩)) (by simpa using fun z => b (.inr ⟨e.symm, z⟩))
  exact Prod.ext e e2
theorem ltP_as {p q : Tie} (h : ltP p q = true) : ltP q p = false := by
  cases e : ltP q p with
  | false => rfl
  | true => have := ltP_tr h e; rw [ltP_irr] at this; cases this
theorem leP_tr (a b c : Tie) (h : leP a b = true) (h' : leP b c = true) : leP a c = true := by
  unfold leP at *
  cases e : ltP c a with
  | false => rfl
  | true =>
    cases e1 : ltP b a with
    | true => rw [e1] at h; cases h
    | false =>
      cases e2 : ltP a b with
      | true => rw [ltP_tr e e2] at h'; cases h'
      | false => rw [ltP_tri e1 e2, e] at h'; cases h'
theorem leP_tot (a b : Tie) : (leP a b || leP b a) = true := by
  unfold leP
  cases e : ltP b a with
  | false => rfl
  | true => rw [ltP_as e]; rfl
def sortP (l : List Tie) : List Tie := l.mergeSort leP
def AscP (l : List Tie) : Prop := l.Pairwise fun a b => ltP a b = true
theorem sortP_perm (l : List Tie) : (sortP l).Perm l := List.mergeSort_perm l leP
theorem sortP_le (l : List Tie) : (sortP l).Pairwise fun a b => leP a b = true := List.pairwise_mergeSort leP_tr leP_tot l
theorem sortP_asc {l : List Tie} (hn : l.Nodup) : AscP (sortP l) := by
  refine ((sortP_le l).and ((sortP_perm l).nodup_iff.mpr hn)).imp ?_
  rintro a b ⟨h1, h2⟩
  cases e : ltP a b with
  | true => rfl
  | false => exact absurd (ltP_tri e (by simpa [leP] using h1)) h2
/-! sorted of texts, of pairs of texts -/
def tieD (p : Tie) : PyData := .tuple [.str p.1, .str p.2]
theorem dataLe_tie (p q : Tie) : PySem.W.dataLe false id (tieD p) (tieD q) = leP p q := by
  rw [PySem.W.dataLe_eq]
  show (!PySem.W.dataLt (tieD q) (tieD p)) = _
  unfold tieD leP ltP
  rw [PySem.W.dataLt_pair (by simp [PySem.W.alike]) (by simp [PySem.W.alike]), PySem.W.dataLt_str, PySem.W.dataLt_str]
  simp only [PyData.eqv]
  by_cases h1 : q.1 = p.1
  · by_cases h2 : q.2 = p.2
    · simp [h1, h2, strLt]
    · simp [h1, h2, strLt]
  · simp [h1, strLt]
section
variable {X : Cx}
def rSortT (K : PySem.W.Frag) : List V → Hp → VK → Prop := fun vs H Q => ∃ (a : Addr) (zs : List Str), vs = [V.ref a] ∧ SqL K H a (zs.map V.str) ∧ zs.length ≤ sizeLine ∧ ∀ p, H p = none → Q (.ref p) (upd H p (.lst ((sortS zs).map V.str)))
theorem cr_sortT (hu : X.A.units + 64 < cLine) : CallR X (.builtin "sorted") (rSortT X.K) := by
  intro pins s σ H vs us Q I r h
  obtain ⟨a, zs, rfl, hs, hz, q⟩ := h
  have e1 : (zs.map fun z => (V.str z, PyData.str z)).map (·.1) = zs.map V.str := by rw [List.map_map]; rfl
  have e2 : (zs.map fun z => (V.str z, PyData.str z)).map (·.2) = zs.map PyData.str := by rw [List.map_map]; rfl
  refine cr_sortB hu pins s σ H _ us Q I r ⟨a, zs.map fun z => (V.str z, PyData.str z), rfl, by rw [e1]; exact hs, fun b hb => ?_, ?_, ?_, by rw [List.length_map]; exact hz, fun p hp => ?_⟩
  · obtain ⟨z, _, rfl⟩ := List.mem_map.mp hb
    exact ⟨Dp_flat rfl, by show PyData.depth (.str z) ≤ 50; rw [PyData.depth]; decide⟩
  · rw [e2]; exact PySem.W.AllAlike.of fun _ _ => by simp [PySem.W.alike]
  · rw [e2]; exact PySem.W.Sortable.others (enc := PyData.str) fun z => ⟨(fun e => nomatch e), fun xs e => nomatch e⟩
  · have e : (zs.map fun z => (V.str z, PyData.str z)).mergeSort (PySem.W.dataLe false (·.2)) = (sortS zs).map fun z => (V.str z, PyData.str z) := by
      refine (List.map_mergeSort fun a _ b _ => ?_).symm
      rw [PySem.W.dataLe_eq]
      show leS a b = !PySem.W.dataLt (.str b) (.str a)
      rw [PySem.W.dataLt_str]; rfl
    rw [e, List.map_map]
    exact q p hp

def TieAt (K : PySem.W.Frag) (H : Hp) (q : Addr) (p : Tie) : Prop := SqT K H q [.str p.1, .str p.2]
theorem zip_of {α β : Type} {F : α → β → Prop} : ∀ {xs : List α} {ys : List β}, Paired F xs ys → ∃ l : List (α × β), l.map (·.1) = xs ∧ l.map (·.2) = ys ∧ ∀ p ∈ l, F p.1 p.2
  | _, _, .nil => ⟨[], rfl, rfl, fun _ z => nomatch z⟩
  | _, _, .cons (a := a) (b := b) h t => by
    obtain ⟨l, rfl, rfl, h3⟩ := zip_of t
    refine ⟨(a, b) :: l, rfl, rfl, fun p hp => ?_⟩
    rcases List.mem_cons.mp hp with rfl | hp
    · exact h
    · exact h3 p hp
theorem paired_of {α β : Type} {F : α → β → Prop} : ∀ {l : List (α × β)}, (∀ p ∈ l, F p.1 p.2) → Paired F (l.map (·.1)) (l.map (·.2))
  | [], _ => .nil
  | p :: l, h => .cons (h p List.mem_cons_self) (paired_of fun q hq => h q (List.mem_cons_of_mem _ hq))
theorem paired_mem {α β : Type} {F : α → β → Prop} : ∀ {l : List (α × β)}, Paired F (l.map (·.1)) (l.map (·.2)) → ∀ p ∈ l, F p.1 p.2
  | [], _, _, z => nomatch z
  | q :: l, h, p, hp => by
    cases h with
    | cons h1 h2 =>
      rcases List.mem_cons.mp hp with rfl | hp
      · exact h1
      · exact paired_mem h2 p hp
def rSortTP (K : PySem.W.Frag) : List V → Hp → VK → Prop := fun vs H Q => ∃ (a : Addr) (qs : List Addr) (ps : List Tie), vs = [V.ref a] ∧ SqL K H a (qs.map V.ref) ∧ Paired (TieAt K H) qs ps ∧ ps.length ≤ sizeLine ∧
  ∀ p qs', H p = none → (∀ R : Addr → Tie → Prop, Paired R qs ps → Paired R qs' (sortP ps)) → Q (.ref p) (upd H p (.lst (qs'.map V.ref)))
theorem cr_sortTP (hu : X.A.units + 64 < cLine) : CallR X (.builtin "sorted") (rSortTP X.K) := by
  intro pins s σ H vs us Q I r h
  obtain ⟨a, qs, ps, rfl, hs, hp, hz, q⟩ := h
  obtain ⟨l, rfl, rfl, hl⟩ := zip_of hp
  have e1 : (l.map fun x => (V.ref x.1, tieD x.2)).map (·.1) = (l.map (·.1)).map V.ref := by rw [List.map_map, List.map_map]; rfl
  have e2 : (l.map fun x => (V.ref x.1, tieD x.2)).map (·.2) = (l.map (·.2)).map tieD := by rw [List.map_map, List.map_map]; rfl
  rw [List.length_map] at hz
  refine cr_sortB hu pins s σ H _ us Q I r ⟨a, l.map fun x => (V.ref x.1, tieD x.2), rfl, by rw [e1]; exact hs, fun b hb => ?_, ?_, ?_, by rw [List.length_map]; exact hz, fun p hp => ?_⟩
  · obtain ⟨z, hz, rfl⟩ := List.mem_map.mp hb
    refine ⟨.tup (hl z hz) (.cons (Dp_flat rfl) (.cons (Dp_flat rfl) .nil)), ?_⟩
    show PyData.depth (tieD z.2) ≤ 50
    unfold tieD
    simp [PyData.depth, PyData.depthAll]
  · rw [e2]; exact PySem.W.AllAlike.of fun _ _ => by simp [PySem.W.alike, PySem.W.alikeAll, tieD]
  · rw [e2]; exact PySem.W.Sortable.tuples (enc := tieD) fun z => ⟨_, _, rfl⟩
  · have e : (l.map fun x => (V.ref x.1, tieD x.2)).mergeSort (PySem.W.dataLe false (·.2)) = (l.mergeSort fun x y => leP x.2 y.2).map fun x => (V.ref x.1, tieD x.2) := by
      refine (List.map_mergeSort fun a _ b _ => ?_).symm
      exact (dataLe_tie a.2 b.2).symm
    have e3 : (l.mergeSort fun x y => leP x.2 y.2).map (·.2) = sortP (l.map (·.2)) := List.map_mergeSort fun a _ b _ => rfl
    rw [e, List.map_map]
    have := q p ((l.mergeSort fun x y => leP x.2 y.2).map (·.1)) hp (fun R hR => by
      rw [← e3]
      exact paired_of fun x hx => paired_mem hR x (List.mem_mergeSort.mp hx))
    rw [List.map_map] at this
    exact this
end
end Hw

set_option Elab.async false
set_option linter.all false
set_option maxRecDepth 100000
set_option maxHeartbeats 4000000
namespace Hw
open PySem L2 PyProof.Rows
/-! max(xs), xs a list of data -/
def rMaxB (K : PySem.W.Frag) : List V → Hp → VK → Prop := fun vs H Q => ∃ (a : Addr) (b0 : V × PyData) (bs : List (V × PyData)), vs = [V.ref a] ∧ SqL K H a ((b0 :: bs).map (·.1)) ∧ (∀ b ∈ b0 :: bs, Dp K H b.1 b.2 ∧ b.2.depth ≤ 50) ∧ PySem.W.AlikeAll ((b0 :: bs).map (·.2)) ∧
  ∀ b ∈ b0 :: bs, b.2 = PySem.W.maxD b0.2 (bs.map (·.2)) → Q b.1 H
theorem readsAll_vals {X : Cx} {pins : List (Addr × Obj)} {s : Shared} {σ : L2.St} {H : Hp} (I : Inv X pins σ H s) : ∀ {bs : List (V × PyData)} {us : List Value}, (∀ b ∈ bs, Dp X.K H b.1 b.2) → Vals (bs.map (·.1)) us → ∃ as, ReadsAll s.heap us (bs.map (·.2)) as
  | [], _, _, r => by cases r; exact ⟨_, .nil⟩
  | b :: bs, _, h, r => by
    cases r with
    | cons r1 r2 =>
      obtain ⟨as, x⟩ := Dp.reads I b.2 b.1 _ (h b List.mem_cons_self) r1
      obtain ⟨as', y⟩ := readsAll_vals I (fun b hb => h b (List.mem_cons_of_mem _ hb)) r2
      exact ⟨_, .cons x y⟩
theorem depthAll_le50 : ∀ {ds : List PyData} {n : Nat}, (∀ d ∈ ds, d.depth ≤ n) → PyData.depthAll ds ≤ n
  | [], _, _ => by rw [PyData.depthAll]; exact Nat.zero_le _
  | d :: ds, n, h => by
    rw [PyData.depthAll]
    have h1 := h d List.mem_cons_self
    have h2 := depthAll_le50 fun x hx => h x (List.mem_cons_of_mem _ hx)
    omega
section
variable {X : Cx}
theorem cr_maxB (hc : X.calm = true) (hu : X.A.units + 64 < cLine) : CallR X (.builtin "max") (rMaxB X.K) := by
  intro pins s σ H vs us Q I r h
  obtain ⟨a, b0, bs, rfl, hs, hd, hal, q⟩ := h
  obtain ⟨its, rv, hl, _⟩ := I.list hs
  rw [Vals.ref1 r]
  obtain ⟨as, hr⟩ := readsAll_vals I (fun b hb => (hd b hb).1) rv
  have hdep : PyData.depthAll ((b0 :: bs).map (·.2)) ≤ 50 := depthAll_le50 fun d hd' => by
    obtain ⟨b, hb, rfl⟩ := List.mem_map.mp hd'
    exact (hd b hb).2
  have hr' : ReadsAll s.heap its.toArray.toList (b0.2 :: bs.map (·.2)) as := hr
  refine PySem.W.max_list_data (x := b0.2) (xs := bs.map fun b : V × PyData => b.2) (I.ok.hd hc) hl.isList hr' hal (by
    have e : PyData.depthAll (b0.2 :: bs.map (·.2)) ≤ 50 := hdep
    omega) fun i v h' tk bs' hv hR hk => ?_
  have hv' : its[i]? = some v := by simpa using hv
  have hlen := rv.length
  obtain ⟨b, hb, rb⟩ : ∃ b, (b0 :: bs)[i]? = some b ∧ RelV b.1 v := by
    have hi := (List.getElem?_eq_some_iff.mp hv').1
    have hi2 : i < (b0 :: bs).length := by rw [List.length_map] at hlen; omega
    have e1 : ((b0 :: bs).map (·.1))[i]? = some ((b0 :: bs)[i]).1 := by rw [List.getElem?_map, List.getElem?_eq_getElem hi2]; rfl
    obtain ⟨u, hu1, hu2⟩ := rv.get e1
    rw [hv'] at hu1
    cases hu1
    exact ⟨_, List.getElem?_eq_getElem hi2, hu2⟩
  have hbm := List.mem_of_getElem? hb
  obtain ⟨as2, hR2⟩ := Dp.reads I b.2 b.1 _ (hd b hbm).1 rb
  have e := (reads_det (fun c o e _ => hk c o e) hR2 hR).1
  exact ⟨b.1, H, I.kept hk, rb, q b hbm e.symm⟩
end
/-! x, *y = a list -/
section
variable {X : Cx}
theorem walks_tail {prog : Program} {w : World} {A : Around} (hh : A.handled = none) (I ax : Addr) (hne : ax ≠ I) (items : Array Value) :
    Walks prog w A I [I, ax] [I] (items.size - 1) (fun i v => items[i + 1]? = some v) (fun i h => h.IsListIter I ax (i + 1) ∧ h.IsList ax items ∧ 0 < items.size) where
  sub := fun b hb => by simp at hb; simp [hb]
  frame := fun _ _ _ st hk => ⟨st.1.at fun o e => hk I (by simp) o e, st.2.1.at fun o e => hk ax (by simp) o e, st.2.2⟩
  item := fun i s Q E hi st hQ => by
    refine wpAny_pyNext_list_item st.1 st.2.1 (x := items[i + 1]) (by simp) fun h' hit' hs' => ?_
    exact hQ _ h' s.toks (by simp) ⟨hit', st.2.1.extBut hs'.extBut hne, st.2.2⟩ fun b o hb e => hs'.extBut b o (fun h => hb (by simp [h])) e
  done := fun s Q E st hQ => wpAny_pyNext_list_end hh st.1 st.2.1 (by have := st.2.2; simp; omega) fun h' he' => hQ h' s.toks fun b o hb e => he' b o (fun h => hb (by simp [h])) e
  self := fun _ _ _ _ st hQ => wpAny_pyIter_listiter st.1 hQ
theorem unpack_star {prog : Program} {w : World} {A : Around} {E : Value → Shared → Prop} {s : Shared} {l : Addr} {its : List Value} {x : Value} {Q : List Value → Shared → Prop} (hh : A.handled = none) (hl : s.heap.IsList l (x :: its).toArray) (hn : its.length < sizeLine)
    (h : ∀ (hp : Heap) (tk : Nat), (∀ b o, s.heap.get? b = some o → hp.get? b = some o) → Q [x, .ref hp.objs.size] { s with heap := hp.push { cls := .type "list", data := .seq its.toArray }, toks := tk }) :
    wpAny (model prog w) A (unpackItems (.ref l) 2 (some 1)) Q E s := by
  have hlt : l < s.heap.objs.size := by obtain ⟨_, e, _⟩ := hl; exact Heap.lt_size e
  unfold unpackItems
  refine wpAny_bind ?_
  unfold notIterableAtAll
  refine wpAny_bind (wpAny_specialOf hl.typeIs F.slot_list_iter.lookup ?_)
  refine wpAny_pure ?_
  simp only [Bool.false_eq_true, if_false]
  refine wpAny_bind (wpAny_holding (wpAny_pyIter_list hl ?_))
  have hit : (s.heap.push { cls := .type "list_iterator", data := .fields #[.ref l, .int 0 0] }).IsListIter s.heap.objs.size l 0 := ⟨_, Heap.get?_push_size _ rfl, rfl, rfl⟩
  have hne : l ≠ s.heap.objs.size := Nat.ne_of_lt hlt
  refine wpAny_bind (wpAny_holding ?_)
  show wpAny _ _ (pyNext (.ref s.heap.objs.size) >>= _) _ _ _
  refine wpAny_bind (wpAny_pyNext_list_item hit (hl.push _) (x := x) (by simp) fun h₁ hit₁ hs₁ => ?_)
  refine wpAny_bind (wpAny_holding ?_)
  show wpAny _ _ (pure []) _ _ _
  refine wpAny_pure (wpAny_pure ?_)
  rw [if_neg (by simp)]
  have hl₁ : h₁.IsList l (x :: its).toArray := (hl.push _).extBut hs₁.extBut hne
  have k₁ : ∀ b o, s.heap.get? b = some o → h₁.get? b = some o := fun b o e => hs₁.extBut b o (Nat.ne_of_lt (Heap.lt_size e)) (Heap.get?_push_of_some _ e)
  have hsz1 : s.heap.objs.size < h₁.objs.size := by obtain ⟨_, e, _⟩ := hit₁; exact Heap.lt_size e
  have hl1lt : l < h₁.objs.size := by obtain ⟨_, e, _⟩ := hl₁; exact Heap.lt_size e
  refine wpAny_bind (wpAny_holding ?_)
  refine wpAny_collect_iter (s := { s with heap := h₁ }) (T := "list_iterator") (.inr (.inr (.inl rfl))) (walks_tail (A := A.in1) hh s.heap.objs.size l hne (x :: its).toArray).toS (fun i s' st => st.1.typeIs) ⟨hit₁, hl₁, by simp⟩ (fun b hb => ?_) (by simp) (fun s' acc m hI => ?_) (by simp; omega)
  · rcases List.mem_cons.mp hb with rfl | hb
    · exact hsz1
    · rcases List.mem_cons.mp hb with rfl | hb
      · exact hl1lt
      · cases hb
  have hacc : acc.toList = its := by
    obtain ⟨e1, e2⟩ := hI
    have e1 : acc.size = its.length := by rw [e1]; simp
    refine List.ext_getElem (by simpa using e1) fun i h1 h2 => ?_
    have h3 : i < acc.size := by simpa using h1
    have := e2 i acc[i] (by simp [h3])
    have e4 : (x :: its)[i + 1]? = some acc[i] := by simpa using this
    rw [List.getElem?_cons_succ, List.getElem?_eq_getElem h2] at e4
    simpa using (Option.some.inj e4).symm
  rw [hacc]
  show wpAny _ _ (if its.length < 2 - 1 - 1 then _ else _) _ _ _
  rw [if_neg (by omega)]
  show wpAny _ _ (newList (its.take (its.length - (2 - 1 - 1))) >>= _) _ _ _
  have e0 : its.take (its.length - (2 - 1 - 1)) = its := by rw [show its.length - (2 - 1 - 1) = its.length from by omega, List.take_length]
  rw [e0]
  have e9 : its.drop (its.length - (2 - 1 - 1)) = [] := by rw [show its.length - (2 - 1 - 1) = its.length from by omega, List.drop_length]
  refine wpAny_bind (wpAny_newList ?_ (by omega))
  refine wpAny_pure ?_
  rw [e9]
  obtain ⟨hp, g, d, tk, os⟩ := s'
  have eg : g = s.gens := m.gens
  have ed : d = s.drawn := m.drawn
  have eo : os = s.os := m.os
  subst eg; subst ed; subst eo
  have k₂ : ∀ b o, s.heap.get? b = some o → hp.get? b = some o := fun b o e => m.heap b o (fun hb => by
    rw [List.mem_singleton.mp hb] at e
    exact absurd (Heap.lt_size e) (Nat.lt_irrefl _)) (k₁ b o e)
  exact h hp tk k₂
def gStar2 (K : PySem.W.Frag) (g1 g2 : TG) : TG := fun v σ H Q => ∃ (a : Addr) (x : V) (xs : List V), v = .ref a ∧ SqL K H a (x :: xs) ∧ xs.length < sizeLine ∧ ∀ p, H p = none → g1 x σ (upd H p (.lst xs)) fun σ1 H1 => g2 (.ref p) σ1 H1 Q
theorem pg_star2 {e1 e2 : Expr} {k : Nat} {pos sp : Pos} {g1 g2 : TG} (hc : X.calm = true) (h1 : PG X e1 g1) (h2 : PG X e2 g2) (hae : assignEach [e1, .Starred e2 sp] X.env = [(false, assign e1 X.env), (true, assign e2 X.env)] := by rfl) : PG X (.Tuple [e1, .Starred e2 sp] k pos) (gStar2 X.K g1 g2) := by
  refine ⟨fun pins s σ H v u Q I r hw => ?_⟩
  obtain ⟨a, x, xs, rfl, hq, hl, hw⟩ := hw
  cases r
  obtain ⟨its, rv, hl2, _⟩ := I.list hq
  rw [assign_Tuple]
  refine wpAny_bind (wpAny_standAt ?_)
  unfold unpack
  rw [hae]
  cases rv with
  | @cons _ u _ us r1 r2 =>
    refine wpAny_bind (wpAny_holding (unpack_star (I.ok.hd hc) hl2.isList (by have := r2.length; omega) fun hp tk k => ?_))
    have I1 : Inv X pins σ H { s with heap := hp, toks := tk } := I.kept (t' := tk) k
    have hget : (hp.push { cls := .type "list", data := .seq us.toArray }).get? hp.objs.size = some { cls := .type "list", data := .seq us.toArray } := Heap.get?_push_size _ rfl
    have I2 := I1.laid (t' := tk) (a := hp.objs.size) (o := .lst xs) (h' := hp.push { cls := .type "list", data := .seq us.toArray }) (fun b o e => Heap.get?_push_of_some _ e) (Nat.le_refl _) ⟨Nat.le_of_lt hl, us, _, r2, hget⟩
    have fin := hw hp.objs.size (I1.hok.fresh (Nat.le_refl _))
    show wpAny _ _ (assignInOrder [assign e1 X.env, assign e2 X.env] [u, .ref hp.objs.size]) _ _ _
    refine assignInOrder_cons (thn (h1.run pins _ σ _ _ _ _ I2 r1 fin) fun _ s1 ⟨σ1, H1, I3, q1⟩ => ?_)
    refine assignInOrder_cons (thn (h2.run pins s1 σ1 H1 (.ref hp.objs.size) _ _ I3 rfl q1) fun _ s2 ⟨σ2, H2, I4, q2⟩ => ?_)
    exact assignInOrder_nil ⟨σ2, H2, I4, q2⟩
end
/-- a dict comprehension, over anything that is walked -/
theorem dct_it {J : It} {n : Nat} {G : Hp → Prop} {Y : Nat → Hp → V → Hp → Prop} (wk : Walk J n G Y) {g : TG} {tt : TT} {tk tv : TE} {vs : List Nat} {σ : L2.St} {H1 : Hp} {D : Addr} {Qd : Hp → Prop} (Pv : Nat → Hp → Prop) (h0 : Pv 0 (upd H1 D (.dK []))) (hG : ∀ i H, i ≤ n → Pv i H → G H)
    (turn : ∀ i x H H', i < n → Pv i H → Y i H x H' → g x (wipe σ vs) H' fun σ2 H2 => wipe σ2 vs = wipe σ vs ∧ tt σ2 H2 fun b H3 =>
      if b = true then tk σ2 H3 fun y H4 => tv σ2 H4 fun z H5 => ∃ kvs k, y = kV k ∧ H5 D = some (.dK kvs) ∧ kvs.length < sizeLine ∧ Pv (i + 1) (upd H5 D (.dK (putK kvs k z))) else Pv (i + 1) H3) (hd : ∀ H, Pv n H → Qd H) :
    ∃ W : Nat → Nat → Hp → Prop, (∃ m, W 0 m (upd H1 D (.dK []))) ∧ ∀ i m H, W i m H →
      (J.stop i H ∧ Qd H) ∨ (J.go i H ∧ ∃ Nx : Hp → Prop, (∀ H', Nx H' → ∃ m', m' < m ∧ W (i + 1) m' H') ∧ ∀ x H', J.yld i H x H' → g x (wipe σ vs) H' fun σ2 H2 => wipe σ2 vs = wipe σ vs ∧ tt σ2 H2 fun b H3 =>
        if b = true then tk σ2 H3 fun y H4 => tv σ2 H4 fun z H5 => ∃ kvs k, y = kV k ∧ H5 D = some (.dK kvs) ∧ kvs.length < sizeLine ∧ Nx (upd H5 D (.dK (putK kvs k z))) else Nx H3) := by
  refine ⟨fun i m H => m = n - i ∧ i ≤ n ∧ Pv i H, ⟨n, (Nat.sub_zero n).symm, Nat.zero_le _, h0⟩, ?_⟩
  rintro i m H ⟨em, hi, p⟩
  subst em
  have gH := hG i H hi p
  rcases Nat.lt_or_ge i n with lt | ge
  · exact .inr ⟨wk.goes i H lt gH, Pv (i + 1), fun H' p' => ⟨n - (i + 1), by omega, rfl, lt, p'⟩, fun x H' y => turn i x H H' lt p (wk.yields i H x H' lt gH y)⟩
  · obtain rfl : i = n := by omega
    exact .inl ⟨wk.stops H gH, hd H p⟩
theorem cr_sumT {X : Cx} (hc : X.calm = true) : CallR X (.builtin "sum") (fun vs H Q => ∃ (a : Addr) (ns : List Int), vs = [V.ref a] ∧ SqT X.K H a (ns.map V.int) ∧ Q (.int ns.sum) H) := by
  intro pins s σ H vs us Q I r h
  obtain ⟨a, ns, rfl, hs, q⟩ := h
  obtain ⟨its, rv, hl, _⟩ := I.tuple hs
  rw [Vals.ref1 r]
  obtain ⟨xs, e⟩ := rv.ints.allInts.items
  have hn : numsOf (intItems xs).toList = ns := by rw [← e]; exact rv.ints.numsOf
  rw [nums_intItems] at hn
  have hl' : s.heap.IsTuple a (intItems xs) := by rw [← e]; exact hl
  refine PySem.W.ktm_sumG (I.ok.hd hc) hl' fun h' tk t' hk => ?_
  refine ⟨.int ns.sum, H, I.kept hk, ⟨t', ?_⟩, q⟩
  rw [preSum_eq, List.take_of_length_le (by simp), hn]
end Hw

set_option Elab.async false
set_option linter.all false
set_option maxRecDepth 100000
set_option maxHeartbeats 4000000
namespace Hw
open PySem PySem.Spec L2 PyProof.Rows
/-! for i, x in enumerate(t), t a tuple -/
theorem enum_new1 {v : Value} {o : Obj} {G : Heap → Prop} (B : Begins v o G) :
    Meets (Builtin.«enumerate.__new__» ⟨[.type "enumerate", v], []⟩) (fun _ R s => G s.heap ∧
      R (.ok (.ret (.ref (s.heap.push o).objs.size))) { s with heap := (s.heap.push o).push { cls := .type "enumerate", data := .fields #[.none, .bool false, .ref s.heap.objs.size, rawInt 0, .none, .none] } }) :=
  .of_wp fun prog w A R s h => by
    obtain ⟨hp, g, d, tk, os⟩ := s
    obtain ⟨h1, h⟩ := h
    have hsub := sub_enumerate
    have go : ∀ {A' : Around} {E : Value → Shared → Prop} {Q : Value → Shared → Prop}, Q (.ref hp.objs.size) ⟨hp.push o, g, d, tk, os⟩ → wpAny (model prog w) A' (pyIter v) Q E ⟨hp, g, d, tk, os⟩ :=
      fun q => B.iter prog w _ _ ⟨hp, g, d, tk, os⟩ _ h1 q
    wp_walk
    refine wpAny_stack_any fun st => wpAny_pure ?_
    split
    · rename_i c _ _ _ _ _
      cases (c == Value.type "enumerate")
      · wp_walk using go
        exact ⟨_, rfl, h⟩
      · wp_walk using go
        exact ⟨_, rfl, h⟩
    · wp_walk using go
      exact ⟨_, rfl, h⟩
theorem enum_call1 {prog : Program} {w : World} {A : Around} {E : Value → Shared → Prop} {s : Shared} {v : Value} {o : Obj} {G : Heap → Prop} {Q : Value → Shared → Prop} (B : Begins v o G) (h1 : G s.heap)
    (h : ∀ h', IsEnum h' (s.heap.objs.size + 1) s.heap.objs.size 0 .none → h'.get? s.heap.objs.size = some o → (∀ b o, s.heap.get? b = some o → h'.get? b = some o) → Q (.ref (s.heap.objs.size + 1)) { s with heap := h' }) :
    wpAny (model prog w) A (call (.type "enumerate") [v]) Q E s := by
  refine callType_new F.called_enumerate (by decide) (F.typeCall_enumerate_1 _) (F.newCall_enumerate_1 _) (fun obj => F.args_object_init_2 obj _) F.entry_enumerate_new (enum_new1 B) ⟨h1, ?_⟩
  have hz : (s.heap.push o).objs.size = s.heap.objs.size + 1 := Heap.size_push ..
  have he : ((s.heap.push o).push { cls := .type "enumerate", data := .fields #[.none, .bool false, .ref s.heap.objs.size, rawInt 0, .none, .none] }).get? (s.heap.push o).objs.size = some { cls := .type "enumerate", data := .fields #[.none, .bool false, .ref s.heap.objs.size, rawInt 0, .none, .none] } := Heap.get?_push_size _ rfl
  show _ ∧ _
  rw [hz] at he ⊢
  exact ⟨⟨_, he, rfl⟩, h _ he (Heap.get?_push_of_some _ (Heap.get?_push_size _ B.free)) fun b o x => Heap.get?_push_of_some _ (Heap.get?_push_of_some _ x)⟩
/-- the tuple at a as it stands at each turn, each item in a new pair -/
def IteT (K : PySem.W.Frag) (a : Addr) : It :=
  ⟨fun i H => ∃ (xs : List V) (x : V), SqT K H a xs ∧ xs[i]? = some x, fun i H v H' => ∃ T x, v = .ref T ∧ H T = none ∧ H' = upd H T (.tup [.int (i : Nat), x]) ∧ ∀ xs, SqT K H a xs → xs[i]? = some x, fun i H => ∃ xs : List V, SqT K H a xs ∧ xs.length = i⟩
theorem iter_at {h h' : Heap} {it a : Addr} {i : Nat} (x : h.IsTupleIter it a i) (k : ∀ o, h.get? it = some o → h'.get? it = some o) : h'.IsTupleIter it a i := by
  obtain ⟨o, e, r⟩ := x
  exact ⟨o, k o e, r⟩
theorem turn_enumT {P : Program} {w : World} {K : PySem.W.Frag} {elts : List Expr} {kk : Nat} {tpos : Pos} (a e it : Addr) (hae : a ≠ e) (hai : a ≠ it) :
    Turn P w K (.Tuple elts kk tpos) (IteT K a) [e, it] e (fun i h => (∃ old, IsEnum h e it ((i : Nat) : Int) old) ∧ h.IsTupleIter it a i ∧ e ≠ it) where
  mem := List.mem_cons_self
  obj := fun i h st b hb => by
    obtain ⟨⟨old, he⟩, ⟨o, ho, hc, hd⟩, _⟩ := st
    rcases List.mem_cons.mp hb with rfl | hb
    · exact ⟨_, he, fun v q => nomatch q⟩
    · rw [List.mem_singleton.mp hb]
      exact ⟨o, ho, fun v q => by rw [hd] at q; cases q⟩
  keep := fun i h h' st k => ⟨st.1.imp fun old he => k e List.mem_cons_self _ he, iter_at st.2.1 fun o q => k it (List.mem_cons_of_mem _ List.mem_cons_self) o q, st.2.2⟩
  item := by
    rintro X rfl rfl rfl hc i pins s σ H E I hf ⟨⟨old, he⟩, hit, hne⟩ ⟨xs, x, hq, hx⟩
    obtain ⟨its, rv, p, hz⟩ := I.tuple hq
    obtain ⟨u, hu, ru⟩ := rv.get hx
    have hlt : i < its.toArray.size := by simpa using (List.getElem?_eq_some_iff.mp hu).1
    have hel : e < s.heap.objs.size := Heap.lt_size he
    have hil : it < s.heap.objs.size := by obtain ⟨_, q, _⟩ := hit; exact Heap.lt_size q
    refine wpAny_pyNext_enum_itemD (Draws.tuple (A := X.A.in1) (I.ok.hd hc) it a hai its.toArray) he ⟨hit, p⟩ hlt hne (fun z => by
      rcases List.mem_cons.mp z with z | z
      · exact hne z
      · exact hae (List.mem_singleton.mp z).symm) fun y h' tk hy ho hst' hT hsz hk => ?_
    have ey : y = u := by
      have hu' : its.toArray[i]? = some u := by simpa using hu
      have hy : its.toArray[i]? = some y := hy
      rw [hu'] at hy
      exact (Option.some.inj hy).symm
    subst ey
    refine ⟨_, rfl, wpAny_letOwnedTupleGo_enum (s := { s with heap := h', toks := tk + 1 }) ho fun h'' he' sb => ?_⟩
    have hT2 : h''.get? s.heap.objs.size = some { cls := .type "tuple", data := .seq #[.int i tk, y] } := (sb.2 _ (Nat.ne_of_gt hel)).trans hT
    have I1 : Inv X pins σ (upd H s.heap.objs.size (.tup [.int (i : Nat), x])) { s with heap := h'', toks := tk + 1 } :=
      I.turnedNew (t' := tk + 1) (ch := [e, it]) (fun b ob hb q => (sb.2 b (fun z => hb (by simp [z]))).trans (hk b ob (fun z => hb (by simp [z])) (fun z => hb (by simp [z])) q)) hf (Nat.le_refl _)
        ⟨by show 2 ≤ sizeLine; decide, [.int i tk, y], .cons ⟨_, rfl⟩ (.cons ru .nil), ⟨_, hT2, rfl, _, rfl⟩⟩
    refine ⟨.ref s.heap.objs.size, _, I1, rfl, ⟨_, x, rfl, I.hok.fresh (Nat.le_refl _), rfl, fun ys hy => by rw [I.tuple_inj hy hq]; exact hx⟩, ⟨⟨y, ?_⟩, iter_at hst'.1 fun o q => (sb.2 it (Ne.symm hne)).trans q, hne⟩, fun b hb => ?_⟩
    · rw [show ((i + 1 : Nat) : Int) = (i : Int) + 1 from by omega]
      exact he'
    · have hb' : b < s.heap.objs.size := by
        rcases List.mem_cons.mp hb with rfl | hb2
        · exact hel
        · rw [List.mem_singleton.mp hb2]; exact hil
      rw [upd_ne (Nat.ne_of_lt hb')]
      exact (hf b hb).1
  done := by
    rintro X rfl rfl rfl hc i pins s σ H E I hf ⟨⟨old, he⟩, hit, hne⟩ ⟨xs, hq, hx⟩
    obtain ⟨its, rv, p, hz⟩ := I.tuple hq
    obtain ⟨f0, f1, f2, f3, f4, f5⟩ := hf it (List.mem_cons_of_mem _ List.mem_cons_self)
    have hl := rv.length
    have hi : i = its.toArray.size := by rw [← hx, hl]; simp
    subst hi
    exact wpAny_pyNext_enum_endD (Draws.tuple (prog := X.prog) (w := X.w) (A := X.A.in1) (I.ok.hd hc) it a hai its.toArray) he ⟨hit, p⟩ fun h' eb => ⟨rfl, I.turned (t' := s.toks) (fun b o hb q => eb b o hb q) f0 f1 f3 f4 f5⟩
  self := fun A i s Q E st h => st.1.elim fun _ he => wpAny_pyIter_enum he h
def iEnumT (K : PySem.W.Frag) (ta : TA) : TI := fun σ H R => ta σ H fun vs H1 => ∃ a xs, vs = [.ref a] ∧ SqT K H1 a xs ∧ R (IteT K a) H1
theorem pi_enumT {X : Cx} {e : Expr} {ta : TA} {p pos tpos : Pos} {elts : List Expr} {kk : Nat} (hg : Gl X "enumerate") (hm : X.mg "enumerate" = none) (ha : PA X [e] ta) (hs : starEach [e] X.env = [(false, eval e X.env)] := by rfl) :
    PI X (.Tuple elts kk tpos) (.Call (.Name "enumerate" p) [e] [] pos) (iEnumT X.K ta) := by
  refine ⟨fun pins s σ H R I h => Call_ (ld_blt I hg hm boot_enumerate (PyProof.Rows.callWith_type1 (thn (ha.run pos pins s σ H _ I h) fun us s1 ⟨vs, H1, I1, r1, q1⟩ => ?_) hs rfl))⟩
  obtain ⟨a, xs, rfl, hq, q⟩ := q1
  rw [Vals.ref1 r1]
  obtain ⟨its, rv, p', hz⟩ := I1.tuple hq
  have hal : a < s1.heap.objs.size := by obtain ⟨_, e, _⟩ := p'; exact Heap.lt_size e
  refine enum_call1 (begins_tuple a its.toArray) p' fun h' he hit hk => wpAny_pyIter_enum he ?_
  have I2 : Inv X pins σ H1 { s1 with heap := h' } := I1.kept (t' := s1.toks) hk
  refine ⟨s1.heap.objs.size + 1, [s1.heap.objs.size + 1, s1.heap.objs.size], _, _, H1, rfl, I2, turn_enumT a _ _ (Nat.ne_of_lt (Nat.lt_succ_of_lt hal)) (Nat.ne_of_lt hal), ⟨⟨.none, he⟩, ⟨_, hit, rfl, rfl⟩, Nat.succ_ne_self _⟩, fun b hb => ?_, q⟩
  have hle : s1.heap.objs.size ≤ b := by
    rcases List.mem_cons.mp hb with rfl | hb
    · exact Nat.le_succ _
    · rw [List.mem_singleton.mp hb]; exact Nat.le_refl _
  exact I1.fpOk hle (I1.hok.fresh hle)
theorem walk_enumT {K : PySem.W.Frag} {a : Addr} {xs : List V} : Walk (IteT K a) xs.length (fun H => SqT K H a xs) (YPair (fun i => some (.int (i : Nat))) (fun i => xs[i]?)) := by
  refine ⟨fun i H hi q => ⟨xs, xs[i], q, by simp [hi]⟩, fun H q => ⟨xs, q, rfl⟩, fun i H v H' hi q y => ?_⟩
  obtain ⟨T, x, h1, h2, h3, h4⟩ := y
  exact ⟨T, _, x, h1, h2, h3, rfl, h4 xs q⟩
end Hw

set_option Elab.async false
set_option linter.all false
set_option maxRecDepth 100000
set_option maxHeartbeats 4000000
namespace Hw
open PySem L2 PyProof.Rows
def topS (i : Nat) : Stmt := PySem.Challenge.pw_healedwebs_k43_rooms_and_floors.main.body.getD i (.Pass ⟨0, 0, 0, 0⟩)
abbrev sPot : Stmt := topS 26
abbrev sTake : Stmt := topS 27
abbrev sOf : Stmt := topS 28
abbrev sCells : Stmt := topS 29
section
variable {P : Program} {w : World} {K : PySem.W.Frag} {mg : Str → Option Value} {base : Heap}
theorem scPot : FnScope ["script", "place", "cell", "own", "small"] ["script", "place"] (defScope sPot) := ⟨rfl, rfl, rfl, by decide +kernel, rfl, by decide +kernel, by decide +kernel⟩
theorem scTake : FnScope ["pot", "upto", "digit", "prime", "blend"] ["pot", "upto"] (defScope sTake) := ⟨rfl, rfl, rfl, by decide +kernel, rfl, by decide +kernel, by decide +kernel⟩
theorem scOf : FnScope ["pot", "some"] ["pot", "some"] (defScope sOf) := ⟨rfl, rfl, rfl, by decide +kernel, rfl, by decide +kernel, by decide +kernel⟩
theorem scCells : FnScope ["script", "most"] ["script", "most"] (defScope sCells) := ⟨rfl, rfl, rfl, by decide +kernel, rfl, by decide +kernel, by decide +kernel⟩
theorem b01 (b : Prop) [Decidable b] : -(2 ^ 64) < (if b then (1 : Int) else 0) ∧ (if b then (1 : Int) else 0) < 2 ^ 64 := by
  split <;> exact ⟨by decide, by decide⟩
/-- names of the built-ins -/
structure Blt (mg : Str → Option Value) : Prop where
  len : mg "len" = none
  sum : mg "sum" = none
  int : mg "int" = none
  abs : mg "abs" = none
  list : mg "list" = none
  range : mg "range" = none
  max : mg "max" = none
  min : mg "min" = none
theorem ok_pot {f : Addr} {fd : FuncData} {k : Nat} (F : Fun K "_law_pot" "_law_pot" sPot f fd) (B : Blt mg) : FnOk P w K mg base CX0 (k + 1) f fd ["script", "place"] (spPot K) := by
  refine F.ok scPot (fun vs H Q E h => ?_) (fun cdv A outer s H vs Q E hr h => ?_)
  · obtain ⟨a, ns, i, rfl, _⟩ := h
    rfl
  · obtain ⟨a, ns, i, rfl, hS, hlen, h0, h1, q⟩ := h
    refine ⟨_, Evl.pss_cut (ps_set (i := 2) scPot.nd rfl (.inl rfl) (pe_ifExp (pt_cmpR op_lt (pv 1) (pe_callB call_len_seq (by rfl) B.len PySem.boot_len (pa_cons (pv 0) pa_nil)) (nomark _))
        (pe_ix ix_list (pv 0) (pv 1) (fun _ _ => rfl))
        (pe_op op_add (pe_op op_add (pe_op op_mod (pe_callB (cr_sum rfl) (by rfl) B.sum PyProof.Rows.boot_sum (pa_cons (pe_slice sl_list (pv 0) po_none (po_some pe_int)) pa_nil)) pe_int) (pe_op op_mul pe_int (pv 1))) pe_int)))
      (pss_cons (ps_set (i := 3) scPot.nd rfl (.inl rfl) (pe_op op_mul (pe_op op_mod (pe_callTy call_int1 (by rfl) B.int PyProof.Rows.boot_int (pa_cons (pe_callB call_abs (by rfl) B.abs PyProof.Rows.boot_abs (pa_cons (pv 2) pa_nil)) pa_nil))
          (pe_op op_powW (pe_op op_powW pe_int pe_int) pe_int))
          (pe_callTy call_int1 (by rfl) B.int PyProof.Rows.boot_int (pa_cons (pe_cmpR op_ge (pe_callB call_abs (by rfl) B.abs PyProof.Rows.boot_abs (pa_cons (pv 2) pa_nil)) (pe_op op_powW pe_int pe_int) (nomark _)) pa_nil))))
      (pss_cons (ps_set (i := 4) scPot.nd rfl (.inl rfl) (pe_op op_mod (pe_callTy call_int1 (by rfl) B.int PyProof.Rows.boot_int (pa_cons (pv 2) pa_nil)) pe_int))
      (pss_one (ps_ret (pe_lst (pa_cons (pv 3) (pa_cons (pe_op op_mod (pe_callTy call_int1 (by rfl) B.int PyProof.Rows.boot_int (pa_cons
        (pe_op op_add (pe_op op_add (pe_op op_mul (pv 4) pe_int) (pe_op op_mul (pe_op op_mul pe_int (pv 1)) (pv 1))) pe_int) pa_nil)) pe_int) (pa_cons pe_int pa_nil)))))))), ?_⟩
    -- the cell: any int, whatever the way
    refine ⟨fun σ' H' => ∃ c : Int, σ' = [some (.ref a), some (.int i), some (.int c), none, none] ∧ Same H H', ?_, ?_⟩
    · refine ⟨_, rfl, .ref a, rfl, a, ns.map V.int, rfl, .inl hS, _, _, rfl, rfl, _, rfl, ite2 (fun e => ?_) (fun e => ?_)⟩
      · have e' : i < (ns.map V.int).length := of_decide_eq_true e
        obtain ⟨j, rfl⟩ : ∃ j : Nat, i = (j : Int) := ⟨i.toNat, by omega⟩
        have hj : j < ns.length := by rw [List.length_map] at e'; omega
        refine ⟨.ref a, rfl, .int (j : Int), rfl, a, _, _, .int ns[j], rfl, rfl, hS, atI_nat (j := j) ?_, ns[j], rfl, Same.refl H⟩
        rw [List.getElem?_map, List.getElem?_eq_getElem hj]; rfl
      · refine ⟨.ref a, rfl, 1, rfl, a, _, rfl, hS, fun c nc => ?_⟩
        have s1 : Same H (upd H c (.lst (cutV (ns.map V.int) none (some 1)))) := same_upd nc
        have ec : cutV (ns.map V.int) none (some 1) = (ns.take 1).map V.int := by
          unfold cutV
          rw [show HT.sIx (ns.map V.int).length (ns.map V.int).length (some 1) = min 1 (ns.map V.int).length from HT.sIx_nat _ _ 1, HT.sIx_none]
          rw [List.length_map, List.drop_zero, Nat.sub_zero, List.map_take]
          rw [List.take_eq_take_iff, List.length_map]; omega
        refine ⟨c, ns.take 1, rfl, sql_of (by rw [upd_same, ec]), ?_⟩
        refine ⟨_, _, rfl, rfl, (by show (0 : Int) < 1000003; decide), .int i, rfl, _, _, rfl, rfl, .inl ⟨by decide, by decide⟩, _, _, rfl, rfl, _, _, rfl, rfl, _, rfl, s1⟩
    · rintro σ' H1 ⟨c, rfl, s1⟩
      refine ⟨.int c, rfl, c, rfl, .inl ⟨_, rfl, _, _, rfl, rfl, ⟨by decide, by decide +kernel⟩, _, _, rfl, rfl, ⟨by decide, by decide +kernel⟩, _, _, rfl, rfl, (by show (0 : Int) < ((10 : Int) ^ Int.toNat 60) ^ Int.toNat 5; decide +kernel), ?_⟩⟩
      refine ⟨.int c, rfl, c, rfl, _, _, rfl, rfl, ⟨by decide, by decide +kernel⟩, _, _, rfl, rfl, .inr ⟨_, rfl, _, _, rfl, rfl, .inr ?_, ?_⟩⟩
      · exact b01 _
      have own0 : ∀ (x m : Int) (b : Prop) [Decidable b], m ≠ 0 → 0 ≤ x % m * (if b then 1 else 0) := fun x m b _ hm => Int.mul_nonneg (Int.emod_nonneg _ hm) (by split <;> decide)
      refine ⟨.int c, rfl, .inl ⟨_, rfl, _, _, rfl, rfl, (by show (0 : Int) < 2305843009213693951; decide), ?_⟩⟩
      have e0 := Int.emod_nonneg c (show (2305843009213693951 : Int) ≠ 0 by decide)
      have e1 := Int.emod_lt_of_pos c (show (0 : Int) < 2305843009213693951 by decide)
      refine ⟨_, rfl, .int (c % 2305843009213693951), rfl, _, _, rfl, rfl, .inl ⟨by omega, by omega⟩, .int i, rfl, _, _, rfl, rfl, .inl ⟨by decide, by decide⟩, .int i, rfl, _, _, rfl, rfl, .inr ⟨by omega, by omega⟩,
        _, _, rfl, rfl, _, _, rfl, rfl, .inl ⟨_, rfl, _, _, rfl, rfl, (by show (0 : Int) < 2305843009213693921; decide), by show 3 ≤ sizeLine; decide, fun p hp => ?_⟩⟩
      refine q p _ (s1.trans (same_upd hp)) (s1.free hp) ⟨⟨_, _, _, upd_same, own0 _ _ _ (by decide +kernel), Int.emod_nonneg _ (by decide), ?_, by decide, by decide⟩⟩
      exact Int.lt_of_lt_of_le (Int.emod_lt_of_pos _ (by decide)) (by decide)
theorem ok_take {f : Addr} {fd : FuncData} {k : Nat} (F : Fun K "_law_take" "_law_take" sTake f fd) (B : Blt mg) : FnOk P w K mg base CX0 (k + 1) f fd ["pot", "upto"] spTake := by
  refine F.ok scTake (fun vs H Q E h => ?_) (fun cdv A outer s H vs Q E hr h => ?_)
  · obtain ⟨a, u, N, rfl, _⟩ := h
    rfl
  · obtain ⟨a, u, N, rfl, hP, hN, hu0, hu1, q⟩ := h
    refine ⟨_, pss_cons (ps_if (pt_cmpR op_gt (pe_ix ix_list (pv 0) pe_int (fun _ _ => rfl)) pe_int (nomark _))
        (pss_cons (ps_set (i := 2) scTake.nd rfl (.inl rfl) (pe_op op_mod (pe_callTy call_int1 (by rfl) B.int PyProof.Rows.boot_int (pa_cons (pe_ix ix_list (pv 0) pe_int (fun _ _ => rfl)) pa_nil)) (pv 1)))
        (pss_cons (ps_asg (pe_op op_fdiv (pe_ix ix_list (pv 0) pe_int (fun _ _ => rfl)) (pv 1)) (pg_sub (pv 0) pe_int set_list))
        (pss_one (ps_ret (pv 2))))) pss_nil)
      (pss_cons (ps_asg (pe_op op_add (pe_ix ix_list (pv 0) pe_int (fun _ _ => rfl)) pe_int) (pg_sub (pv 0) pe_int set_list))
      (pss_cons (ps_set (i := 3) scTake.nd rfl (.inl rfl) (pe_ix ix_list (pe_lst (pa_cons pe_int (pa_cons pe_int (pa_cons pe_int (pa_cons pe_int (pa_cons pe_int pa_nil))))))
          (pe_op op_mod (pe_callTy call_int1 (by rfl) B.int PyProof.Rows.boot_int (pa_cons (pe_ix ix_list (pv 0) pe_int (fun _ _ => rfl)) pa_nil)) pe_int) (fun _ _ => rfl)))
      (pss_cons (ps_set (i := 4) scTake.nd rfl (.inl rfl) (pe_op op_mod (pe_callTy call_int1 (by rfl) B.int PyProof.Rows.boot_int (pa_cons (pe_op op_powW (pe_callTy call_int1 (by rfl) B.int PyProof.Rows.boot_int (pa_cons
          (pe_op op_add (pe_op op_add (pe_ix ix_list (pv 0) pe_int (fun _ _ => rfl)) (pe_op op_mul (pe_op op_mul pe_int (pe_ix ix_list (pv 0) pe_int (fun _ _ => rfl))) (pe_ix ix_list (pv 0) pe_int (fun _ _ => rfl)))) pe_int) pa_nil)) pe_int) pa_nil)) (pv 3)))
      (pss_cons (ps_set (i := 4) scTake.nd rfl (.inl rfl) (pe_op op_mod (pe_callTy call_int1 (by rfl) B.int PyProof.Rows.boot_int (pa_cons (pe_op op_mul (pv 4) (pe_op op_add (pe_op op_mod (pe_callTy call_int1 (by rfl) B.int PyProof.Rows.boot_int (pa_cons (pv 4) pa_nil)) pe_int)
          (pe_op op_mul pe_int (pe_ix ix_list (pv 0) pe_int (fun _ _ => rfl))))) pa_nil)) pe_int))
      (pss_one (ps_ret (pe_op op_mod (pe_callTy call_int1 (by rfl) B.int PyProof.Rows.boot_int (pa_cons (pe_op op_fdiv (pv 4) pe_int) pa_nil)) (pv 1)))))))), ?_⟩
    obtain ⟨x, y, z, e, hx, hy, hy1, hz, hz1⟩ := hP.ex
    have hS : SqL K H a [.int x, .int y, .int z] := sql_of e
    refine ⟨.ref a, rfl, a, _, 0, .int x, rfl, rfl, hS, rfl, _, _, rfl, rfl, _, rfl, ite2 (fun c => ?_) (fun c => ?_)⟩
    · have c' : 0 < x := of_decide_eq_true c
      refine ⟨.ref a, rfl, a, _, 0, .int x, rfl, rfl, hS, rfl, .inl ⟨x, rfl, .int u, rfl, _, _, rfl, rfl, hu0, ?_⟩⟩
      refine ⟨.ref a, rfl, a, _, 0, .int x, rfl, rfl, hS, rfl, .int u, rfl, _, _, rfl, rfl, ⟨hu0, by omega⟩, .ref a, rfl, a, _, 0, 0, rfl, rfl, e, rfl, ?_⟩
      refine ⟨.int (x % u), rfl, ?_⟩
      exact q _ _ (Int.emod_nonneg _ (by omega)) (Int.emod_lt_of_pos _ hu0) ((SameX.refl a H).put) ⟨⟨_, y, z, upd_same, Int.ediv_nonneg hx (by omega), hy, hy1, hz, by omega⟩⟩
    · refine ⟨.ref a, rfl, a, _, 2, .int z, rfl, rfl, hS, rfl, _, _, rfl, rfl, .ref a, rfl, a, _, 2, 2, rfl, rfl, e, rfl, ?_⟩
      have e2 : upd H a (.lst ([V.int x, .int y, .int z].set 2 (.int (z + 1)))) a = some (.lst [.int x, .int y, .int (z + 1)]) := upd_same
      generalize hH2 : upd H a (.lst ([V.int x, .int y, .int z].set 2 (.int (z + 1)))) = H2 at e2 ⊢
      have s2 : SameX a H H2 := by rw [← hH2]; exact (SameX.refl a H).put
      refine ⟨by show 5 ≤ sizeLine; decide, fun p hp => ?_⟩
      have s3 : Same H2 (upd H2 p (.lst [.int 2147483647, .int 2147483629, .int 2147483587, .int 2147483579, .int 2147483563])) := same_upd hp
      have hp1 : (upd H2 p (.lst [.int 2147483647, .int 2147483629, .int 2147483587, .int 2147483579, .int 2147483563])) p = some (.lst [.int 2147483647, .int 2147483629, .int 2147483587, .int 2147483579, .int 2147483563]) := upd_same
      have e3 := s3 _ _ e2
      have s4 := s2.trans (.of s3)
      generalize (upd H2 p (.lst [.int 2147483647, .int 2147483629, .int 2147483587, .int 2147483579, .int 2147483563])) = H3 at s3 hp1 e3 s4 ⊢
      have hS3 : SqL K H3 a [.int x, .int y, .int (z + 1)] := sql_of e3
      refine ⟨.ref a, rfl, a, _, 2, .int (z + 1), rfl, rfl, hS3, rfl, .inl ⟨_, rfl, _, _, rfl, rfl, (by show (0 : Int) < 5; decide), ?_⟩⟩
      have m0 := Int.emod_nonneg (z + 1) (show (5 : Int) ≠ 0 by decide)
      have m1 := Int.emod_lt_of_pos (z + 1) (show (0 : Int) < 5 by decide)
      obtain ⟨pr, hpr, hp0, hp2⟩ : ∃ pr : Int, atI [V.int 2147483647, .int 2147483629, .int 2147483587, .int 2147483579, .int 2147483563] ((z + 1) % 5) = some (.int pr) ∧ 0 < pr ∧ pr < 2 ^ 31 := by
        generalize (z + 1) % 5 = m at m0 m1
        obtain h | h | h | h | h : m = 0 ∨ m = 1 ∨ m = 2 ∨ m = 3 ∨ m = 4 := by omega
        all_goals (subst h; exact ⟨_, rfl, by decide, by decide⟩)
      refine ⟨p, _, _, .int pr, rfl, rfl, sql_of hp1, hpr, ?_⟩
      -- blend
      refine ⟨.ref a, rfl, a, _, 1, .int y, rfl, rfl, hS3, rfl, .ref a, rfl, a, _, 2, .int (z + 1), rfl, rfl, hS3, rfl, _, _, rfl, rfl, .inl ⟨by decide, by decide⟩,
        .ref a, rfl, a, _, 2, .int (z + 1), rfl, rfl, hS3, rfl, _, _, rfl, rfl, .inr ⟨by omega, by omega⟩, _, _, rfl, rfl, _, _, rfl, rfl, .inl ⟨_, rfl, _, _, rfl, rfl, ⟨by decide, ?_⟩, .inl ⟨_, rfl, .int pr, rfl, _, _, rfl, rfl, hp0, ?_⟩⟩⟩
      · have w0 : 0 ≤ (z + 1) * (z + 1) := Int.mul_nonneg (by omega) (by omega)
        have w1 : (z + 1) * (z + 1) ≤ 1073741824 * 1073741824 := Int.mul_le_mul (by omega) (by omega) (by omega) (by omega)
        have hb : Builtin.Int.intBits (y + 98319 * (z + 1) * (z + 1) + 465) ≤ 100 := by
          refine bits_nat ?_
          rw [Int.mul_assoc]
          generalize (z + 1) * (z + 1) = ww at w0 w1
          omega
        omega
      generalize ((y + 98319 * (z + 1) * (z + 1) + 465) ^ Int.toNat 3) = big
      have b0 := Int.emod_nonneg big (show pr ≠ 0 by omega)
      have b1 := Int.emod_lt_of_pos big hp0
      refine ⟨.int (big % pr), rfl, .int (big % pr), rfl, .inl ⟨_, rfl, _, _, rfl, rfl, (by show (0 : Int) < 10009; decide), .ref a, rfl, a, _, 2, .int (z + 1), rfl, rfl, hS3, rfl, _, _, rfl, rfl, .inl ⟨by decide, by decide⟩, _, _, rfl, rfl,
        _, _, rfl, rfl, .inl ⟨by omega, by omega⟩, .inl ⟨_, rfl, _, _, rfl, rfl, (by show (0 : Int) < 2305843009213693907; decide), ?_⟩⟩⟩
      refine ⟨_, rfl, _, _, rfl, rfl, ⟨by decide, by decide⟩, .inl ⟨_, rfl, .int u, rfl, _, _, rfl, rfl, hu0, ?_⟩⟩
      exact q _ _ (Int.emod_nonneg _ (by omega)) (Int.emod_lt_of_pos _ hu0) s4 ⟨⟨x, y, z + 1, e3, hx, hy, hy1, by omega, by omega⟩⟩
theorem ok_of {f fT : Addr} {fd fdT : FuncData} {k : Nat} (F : Fun K "_law_of" "_law_of" sOf f fd) (B : Blt mg) (GT : FnOk P w K mg base CX0 k fT fdT ["pot", "upto"] spTake) (gT : mg "_law_take" = some (.ref fT)) (kT : PySem.W.keepIn K (.ref fT) = true) (bT : Binds K fdT ["pot", "upto"] []) :
    FnOk P w K mg base CX0 (k + 1) f fd ["pot", "some"] (spOf K) := by
  refine F.ok scOf (fun vs H Q E h => ?_) (fun cdv A outer s H vs Q E hr h => ?_)
  · obtain ⟨a, b, xs, N, rfl, _⟩ := h
    rfl
  · obtain ⟨a, b, xs, N, rfl, hP, hN, hS, hab, h0, h1, q⟩ := h
    refine ⟨_, pss_one (ps_ret (pe_ix ix_list (pv 1) (pe_call GT hr (by rfl) gT kT bT .nil pass0 (pa_cons (pv 0) (pa_cons (pe_callB call_len_seq (by rfl) B.len PySem.boot_len (pa_cons (pv 1) pa_nil)) pa_nil))) (fun _ _ => rfl))), ?_⟩
    refine ⟨.ref b, rfl, .ref a, rfl, .ref b, rfl, b, xs, rfl, .inl hS, a, (xs.length : Int), N, rfl, hP, hN, by omega, by omega, fun r H' r0 r1 sx hP' => ?_⟩
    have hj : r.toNat < xs.length := by omega
    have hS' : SqL K H' b xs := by
      rcases hS with (h | ⟨o, h⟩) | h
      · exact .inl (.inl (sx _ _ (Ne.symm hab) h))
      · exact .inl (.inr ⟨o, sx _ _ (Ne.symm hab) h⟩)
      · exact .inr h
    refine ⟨b, xs, r, xs[r.toNat], rfl, rfl, hS', ?_, q r.toNat _ H' (List.getElem?_eq_getElem hj) sx hP'⟩
    exact at_of (j := r.toNat) (by omega) (List.getElem?_eq_getElem hj)
theorem ok_cells {f : Addr} {fd : FuncData} {k : Nat} (F : Fun K "_law_cells" "_law_cells" sCells f fd) (B : Blt mg) : FnOk P w K mg base CX0 (k + 1) f fd ["script", "most"] (spCells K) := by
  refine F.ok scCells (fun vs H Q E h => ?_) (fun cdv A outer s H vs Q E hr h => ?_)
  · obtain ⟨a, xs, m, rfl, _⟩ := h
    rfl
  · obtain ⟨a, xs, m, rfl, hS, hl, h0, h1, q⟩ := h
    refine ⟨_, pss_one (ps_ret (pe_listRg rfl (by rfl) B.list (prg_1 (by rfl) B.range (pe_callB (call_max2 rfl) (by rfl) B.max PyProof.Rows.boot_max (pa_cons pe_int (pa_cons
      (pe_callB (call_min2 rfl) (by rfl) B.min PyProof.Rows.boot_min (pa_cons (pv 1) (pa_cons (pe_callB call_len_seq (by rfl) B.len PySem.boot_len (pa_cons (pv 0) pa_nil)) pa_nil))) pa_nil)))))), ?_⟩
    refine ⟨.int m, rfl, .ref a, rfl, a, xs, rfl, .inl hS, _, _, rfl, _, _, rfl, _, rfl, ?_⟩
    have key : ∀ v : Int, 0 < v → v ≤ m → v ≤ 1000 → RgOk 0 v ∧ ∀ p, H p = none → Q (.ref p) (upd H p (.lst (rgV 0 v))) := fun v v0 v1 v2 => ⟨.of_le (by omega) (by omega) (by omega) (by omega), fun p hp => by
      refine q v.toNat p _ (by omega) (by omega) (same_upd hp) hp ?_
      rw [upd_same]
      unfold rgV
      rw [Int.sub_zero]
      refine congrArg (fun l => some (HO.lst l)) (List.map_congr_left fun i _ => ?_)
      rw [Int.zero_add]⟩
    refine key _ ?_ ?_ ?_
    all_goals (repeat' split) <;> omega
end
end Hw

set_option Elab.async false
set_option linter.all false
set_option maxRecDepth 100000
set_option maxHeartbeats 4000000
namespace Hw
open PySem L2 PyProof.Rows
theorem valV_seen {ns : List Str} (w : Str) : valV (ns.map fun z => ((Sum.inr z : Key), V.bl true)) (Sum.inr w) = if w ∈ ns then some (V.bl true) else none := by
  induction ns with
  | nil => exact valV_nil
  | cons z ns ih =>
    rw [List.map_cons]
    by_cases h : z = w
    · subst h
      rw [valV_pos rfl, if_pos List.mem_cons_self]
    · rw [valV_neg (fun e => h (Sum.inr.inj e)), ih]
      by_cases hm : w ∈ ns
      · rw [if_pos hm, if_pos (List.mem_cons_of_mem _ hm)]
      · rw [if_neg hm, if_neg (fun e => by rcases List.mem_cons.mp e with rfl | e; exact h rfl; exact hm e)]
theorem rs_while {c : TT} {tb u : TS} {D : Ends} {σ : L2.St} {H : Hp} (Pv : L2.St → Hp → Prop) (μ : L2.St → Hp → Nat) (h0 : Pv σ H)
    (hs : ∀ σ H, Pv σ H → ∃ b : Bool, (∀ Q : Bool → Hp → Prop, Q b H → c σ H Q) ∧ (b = true → tb { D with nx := fun σ' H' => Pv σ' H' ∧ μ σ' H' < μ σ H, ct := fun σ' H' => Pv σ' H' ∧ μ σ' H' < μ σ H, bk := u D } σ H) ∧ (b = false → u D σ H)) :
    tSeq (tWhile c tb) u D σ H := by
  refine ⟨fun m σ H => m = μ σ H ∧ Pv σ H, ⟨_, rfl, h0⟩, ?_⟩
  rintro m σ H ⟨rfl, p⟩
  obtain ⟨b, hc, h1, h2⟩ := hs σ H p
  refine hc _ ?_
  cases b with
  | true => exact ⟨_, fun σ' H' ⟨p', l⟩ => ⟨_, l, rfl, p'⟩, h1 rfl⟩
  | false => exact h2 rfl
def at7 (σ : L2.St) : Nat := match σ[7]? with
  | some (some (V.int k)) => (400 - k).toNat
  | _ => 0
theorem cut2 (w : Str) : cutS w (some 2) none = SL (w.cps.toList.drop 2) := by
  unfold cutS SL
  rw [show HT.sIx w.length 0 (some 2) = min 2 w.length from HT.sIx_nat w.length 0 2, HT.sIx_none]
  refine congrArg (fun l : List Nat => (⟨l.toArray⟩ : Str)) ?_
  rw [len_cps]
  have e : w.cps.toList.drop (min 2 w.cps.toList.length) = w.cps.toList.drop 2 := by
    by_cases h : 2 ≤ w.cps.toList.length
    · rw [Nat.min_eq_left h]
    · rw [Nat.min_eq_right (by omega), List.drop_of_length_le (Nat.le_refl _), List.drop_of_length_le (by omega)]
  rw [e]
  refine List.take_of_length_le ?_
  rw [List.length_drop]; omega
theorem cand_succ (w : Str) (k : Nat) : (SL [97 + k / 26] ++ SL [97 + k % 26]) ++ cutS (cand w k) (some 2) none = cand w (k + 1) := by
  refine str_ext ?_
  rw [app_cps, app_cps, cut2, cand_drop]; rfl
def wordsD : List V := [.str "places", .str "tie", .str "come", .str "die", .str "ring", .str "all", .str "least"]
theorem words_nm : ∀ v ∈ wordsD, ∃ z, v = V.str z ∧ Nm z := by
  intro v hv
  simp only [wordsD, List.mem_cons, List.not_mem_nil, or_false] at hv
  rcases hv with rfl | rfl | rfl | rfl | rfl | rfl | rfl <;> exact ⟨_, rfl, by decide +kernel⟩
def fewD : List V := [.int 0, .int 1, .int 1, .int 2, .int 7]
theorem few_int : ∀ v ∈ fewD, ∃ x : Nat, v = V.int (x : Int) ∧ x ≤ 7 := by
  intro v hv
  simp only [fewD, List.mem_cons, List.not_mem_nil, or_false] at hv
  rcases hv with rfl | rfl | rfl | rfl | rfl
  · exact ⟨0, rfl, by decide⟩
  · exact ⟨1, rfl, by decide⟩
  · exact ⟨1, rfl, by decide⟩
  · exact ⟨2, rfl, by decide⟩
  · exact ⟨7, rfl, by decide⟩
/-- one of the signs of a text, or of the items of a list -/
def spOfS : Sp := fun vs H Q _ => ∃ (a : Addr) (z : Str) (N : Nat), vs = [.ref a, .str z] ∧ Pot H a N ∧ N < 1000000000 ∧ 0 < z.length ∧ z.length < 1000 ∧ ∀ c H', c ∈ z.cps.toList → SameX a H H' → Pot H' a (N + 1) → Q (.str (SL [c])) H'
def spOf2 (K : PySem.W.Frag) : Sp := fun vs H Q E => spOf K vs H Q E ∨ spOfS vs H Q E
/-- many unlike names -/
def spNames : Sp := fun vs H Q _ => ∃ (a : Addr) (m N : Nat), vs = [.ref a, .int m] ∧ Pot H a N ∧ N + 11 * m < 900000000 ∧ m ≤ 300 ∧
  ∀ p (ns : List Str) H', ns.length = m → ns.Nodup → (∀ z ∈ ns, Nm z) → SameX a H H' → H p = none → H' p = some (.lst (ns.map V.str)) → Pot H' a (N + 11 * m) → Q (.ref p) H'
section
variable {P : Program} {w : World} {K : PySem.W.Frag} {mg : Str → Option Value} {base : Heap}
theorem ok_of2 {f fT : Addr} {fd fdT : FuncData} {k : Nat} (F : Fun K "_law_of" "_law_of" sOf f fd) (B : Blt mg) (GT : FnOk P w K mg base CX0 k fT fdT ["pot", "upto"] spTake) (gT : mg "_law_take" = some (.ref fT)) (kT : PySem.W.keepIn K (.ref fT) = true) (bT : Binds K fdT ["pot", "upto"] []) :
    FnOk P w K mg base CX0 (k + 1) f fd ["pot", "some"] (spOf2 K) := by
  refine F.ok scOf (fun vs H Q E h => ?_) (fun cdv A outer s H vs Q E hr h => ?_)
  · rcases h with h | h
    · obtain ⟨a, b, xs, N, rfl, _⟩ := h
      rfl
    · obtain ⟨a, z, N, rfl, _⟩ := h
      rfl
  · refine ⟨_, pss_one (ps_ret (pe_ix (ix_list.or ix_str) (pv 1) (pe_call GT hr (by rfl) gT kT bT .nil pass0 (pa_cons (pv 0) (pa_cons (pe_callB (call_len_seq.or call_len_str) (by rfl) B.len PySem.boot_len (pa_cons (pv 1) pa_nil)) pa_nil))) (fun _ _ => rfl))), ?_⟩
    rcases h with ⟨a, b, xs, N, rfl, hP, hN, hS, hab, h0, h1, q⟩ | ⟨a, z, N, rfl, hP, hN, h0, h1, q⟩
    · refine ⟨.ref b, rfl, .ref a, rfl, .ref b, rfl, .inl ⟨b, xs, rfl, .inl hS, a, (xs.length : Int), N, rfl, hP, hN, by omega, by omega, fun r H' r0 r1 sx hP' => ?_⟩⟩
      have hj : r.toNat < xs.length := by omega
      have hS' : SqL K H' b xs := by
        rcases hS with (h | ⟨o, h⟩) | h
        · exact .inl (.inl (sx _ _ (Ne.symm hab) h))
        · exact .inl (.inr ⟨o, sx _ _ (Ne.symm hab) h⟩)
        · exact .inr h
      refine .inl ⟨b, xs, r, xs[r.toNat], rfl, rfl, hS', ?_, q r.toNat _ H' (List.getElem?_eq_getElem hj) sx hP'⟩
      exact at_of (j := r.toNat) (by omega) (List.getElem?_eq_getElem hj)
    · refine ⟨.str z, rfl, .ref a, rfl, .str z, rfl, .inr ⟨z, rfl, Nat.le_of_lt (small1000 (by omega)), a, (z.length : Int), N, rfl, hP, hN, by omega, by omega, fun r H' r0 r1 sx hP' => ?_⟩⟩
      have hj : r.toNat < z.cps.toList.length := by rw [← len_cps]; omega
      refine .inr ⟨z, r, z.cps.toList[r.toNat], rfl, rfl, Nat.le_of_lt (small1000 (by omega)), ?_, q _ H' (List.getElem_mem hj) sx hP'⟩
      have hh := atI_nat (List.getElem?_eq_getElem hj)
      rw [Int.toNat_of_nonneg r0] at hh
      exact hh
theorem lc_range {g : TG} {tt : TT} {te : TE} {vs : List Nat} {σ : L2.St} {H1 : Hp} {D : Addr} {Qd : Hp → Prop} (n : Nat) (Pv : Nat → Hp → Prop) (h0 : Pv 0 (upd H1 D (.lst [])))
    (hs : ∀ i H, i < n → Pv i H → g (.int (0 + (i : Int))) (wipe σ vs) H fun σ2 H2 => wipe σ2 vs = wipe σ vs ∧ tt σ2 H2 fun b H3 => if b = true then te σ2 H3 fun y H4 => ∃ acc, H4 D = some (.lst acc) ∧ acc.length < sizeLine ∧ Pv (i + 1) (upd H4 D (.lst (acc ++ [y]))) else Pv (i + 1) H3)
    (hd : ∀ H, Pv n H → Qd H) : ∃ W : Nat → Nat → Hp → Prop, (∃ m, W 0 m (upd H1 D (.lst []))) ∧ ∀ i m H, W i m H →
      ((Itr 0 n).stop i H ∧ Qd H) ∨ ((Itr 0 n).go i H ∧ ∃ Nx : Hp → Prop, (∀ H', Nx H' → ∃ m', m' < m ∧ W (i + 1) m' H') ∧ ∀ x H', (Itr 0 n).yld i H x H' → g x (wipe σ vs) H' fun σ2 H2 => wipe σ2 vs = wipe σ vs ∧ tt σ2 H2 fun b H3 =>
        if b = true then te σ2 H3 fun y H4 => ∃ acc, H4 D = some (.lst acc) ∧ acc.length < sizeLine ∧ Nx (upd H4 D (.lst (acc ++ [y]))) else Nx H3) :=
  lc_it (walk_range (lo := 0) (n := n)) Pv h0 (fun _ _ _ _ => trivial) (fun i x H H' hi hp ⟨e1, e2⟩ => by subst e1 e2; exact hs i _ hi hp) hd
def nN : List Str := ["pot", "many", "signs", "found", "known", "lap", "word", "at", "sign"]
end
end Hw

set_option Elab.async false
set_option linter.all false
set_option maxRecDepth 100000
set_option maxHeartbeats 4000000
namespace Hw
open PySem L2 PyProof.Rows
def tieOf (a b : Str) : Tie := (if strLt b a = true then b else a, if strLt a b = true then b else a)
def spTie : Sp := fun vs H Q _ => ∃ a b : Str, vs = [.str a, .str b] ∧ ∀ p, H p = none → Q (.ref p) (upd H p (.tup [.str (tieOf a b).1, .str (tieOf a b).2]))
section
variable {P : Program} {w : World} {K : PySem.W.Frag} {mg : Str → Option Value} {base : Heap}
def encT (ts : List Tie) : List (List Key × V) := ts.map fun t => (([Sum.inr t.1, Sum.inr t.2] : List Key), V.bl true)
theorem encT_any (ts : List Tie) (t : Tie) : ((encT ts).any fun kv => decide (kv.1 = ([Sum.inr t.1, Sum.inr t.2] : List Key))) = decide (t ∈ ts) := by
  rw [encT, List.any_map, Bool.eq_iff_iff, List.any_eq_true, decide_eq_true_iff]
  constructor
  · rintro ⟨u, hu, e⟩
    have e' := of_decide_eq_true e
    injection e' with e1 e2
    injection e2 with e2 _
    injection e1 with e1
    injection e2 with e2
    exact (show u = t from Prod.ext e1 e2) ▸ hu
  · intro h
    exact ⟨t, h, decide_eq_true rfl⟩
theorem putT_tie (ts : List Tie) (t : Tie) : putK (encT ts) ([Sum.inr t.1, Sum.inr t.2] : List Key) (V.bl true) = encT (if t ∈ ts then ts else ts ++ [t]) := by
  unfold putK
  rw [encT_any]
  by_cases h : t ∈ ts
  · rw [if_pos (decide_eq_true h), if_pos h]
    unfold encT
    rw [List.map_map]
    refine List.map_congr_left fun u _ => ?_
    show (if _ then _ else _) = _
    split <;> rfl
  · rw [if_neg (by simpa using h), if_neg h]
    unfold encT
    rw [List.map_append]; rfl
theorem tieOf_lt {u v : Str} (h : u ≠ v) : strLt (tieOf u v).1 (tieOf u v).2 = true ∧ ((tieOf u v).1 = u ∨ (tieOf u v).1 = v) ∧ ((tieOf u v).2 = u ∨ (tieOf u v).2 = v) := by
  unfold tieOf
  cases e1 : strLt v u with
  | true =>
    rw [strLt_as e1]
    exact ⟨by simpa using e1, .inr (by simp), .inl (by simp)⟩
  | false =>
    cases e2 : strLt u v with
    | true => exact ⟨by simpa using e2, .inl (by simp), .inr (by simp)⟩
    | false => exact absurd (strLt_tri e2 e1) h
/-- a drawn web while it is drawn: its places at pl, its ties in the dict at d -/
def WB (a pl d : Addr) (ns : List Str) (H0 : Hp) (N c : Nat) (H : Hp) : Prop := SameX a H0 H ∧ Pot H a N ∧ H pl = some (.lst (ns.map V.str)) ∧ pl ≠ d ∧ pl ≠ a ∧ d ≠ a ∧ ∃ ts : List Tie, H d = some (.dT (encT ts)) ∧ ts.Nodup ∧ (∀ t ∈ ts, t.1 ∈ ns ∧ t.2 ∈ ns ∧ strLt t.1 t.2 = true) ∧ ts.length ≤ c
theorem WB.step {a pl d : Addr} {ns : List Str} {H0 H H' : Hp} {N N' c : Nat} (w : WB a pl d ns H0 N c H) (s : SameX a H H') (p : Pot H' a N') : WB a pl d ns H0 N' c H' := by
  obtain ⟨sx, hp, h1, n1, n2, n3, ts, h2, hr⟩ := w
  exact ⟨sx.trans s, p, s _ _ n2 h1, n1, n2, n3, ts, s _ _ n3 h2, hr⟩
theorem WB.mono {a pl d : Addr} {ns : List Str} {H0 H : Hp} {N N' c c' : Nat} (w : WB a pl d ns H0 N c H) (hN : N ≤ N') (hc : c ≤ c') : WB a pl d ns H0 N' c' H := by
  obtain ⟨sx, hp, h1, n1, n2, n3, ts, h2, h3, h4, h5⟩ := w
  exact ⟨sx, hp.mono hN, h1, n1, n2, n3, ts, h2, h3, h4, Nat.le_trans h5 hc⟩
theorem put_tie {a pl d : Addr} {ns : List Str} {H0 H : Hp} {N c : Nat} {u v : Str} {E : XK} {Q : Hp → Prop} (w : WB a pl d ns H0 N c H) (hd0 : H0 d = none) (hc : c ≤ 1000) (hu : u ∈ ns) (hv : v ∈ ns) (hne : u ≠ v)
    (q : ∀ Hn, WB a pl d ns H0 N (c + 1) Hn → Q Hn) : spTie [.str u, .str v] H (fun k H1 => ∃ d' Hn, V.ref d = .ref d' ∧ DPut H1 d' k (.bl true) Hn ∧ Q Hn) E := by
  obtain ⟨sx, hp, h1, n1, n2, n3, ts, h2, h3, h4, h5⟩ := w
  refine ⟨u, v, rfl, fun p hp0 => ?_⟩
  have npd : d ≠ p := ne_of_none h2 hp0
  have ed : (upd H p (.tup [.str (tieOf u v).1, .str (tieOf u v).2])) d = some (.dT (encT ts)) := by rw [upd_ne npd]; exact h2
  have et : (upd H p (.tup [.str (tieOf u v).1, .str (tieOf u v).2])) p = some (.tup (([Sum.inr (tieOf u v).1, Sum.inr (tieOf u v).2] : List Key).map kV)) := upd_same
  refine ⟨d, _, rfl, DPut.t ed et (by rw [encT, List.length_map]; exact small1000 (by omega)), q _ ?_⟩
  rw [putT_tie]
  obtain ⟨l1, l2, l3⟩ := tieOf_lt hne
  have m1 : (tieOf u v).1 ∈ ns := by rcases l2 with e | e <;> rw [e] <;> assumption
  have m2 : (tieOf u v).2 ∈ ns := by rcases l3 with e | e <;> rw [e] <;> assumption
  refine ⟨fun b o hb e => ?_, ?_, ?_, n1, n2, n3, _, upd_same, ?_, ?_, ?_⟩
  · have e1 : b ≠ d := ne_of_none e hd0
    have e2 := sx _ _ hb e
    rw [upd_ne e1, upd_ne (ne_of_none e2 hp0)]
    exact e2
  · obtain ⟨xx, yy, zz, e, hh⟩ := hp.ex
    exact ⟨xx, yy, zz, by rw [upd_ne (Ne.symm n3), upd_ne (ne_of_none e hp0)]; exact e, hh⟩
  · rw [upd_ne n1, upd_ne (ne_of_none h1 hp0)]; exact h1
  · by_cases hm : tieOf u v ∈ ts
    · rw [if_pos hm]; exact h3
    · rw [if_neg hm, List.nodup_append]
      exact ⟨h3, by simp, fun x hx y hy e => hm (by rw [List.mem_singleton.mp hy] at e; exact e ▸ hx)⟩
  · intro t ht
    by_cases hm : tieOf u v ∈ ts
    · rw [if_pos hm] at ht; exact h4 t ht
    · rw [if_neg hm] at ht
      rcases List.mem_append.mp ht with ht | ht
      · exact h4 t ht
      · rw [List.mem_singleton.mp ht]; exact ⟨m1, m2, l1⟩
  · by_cases hm : tieOf u v ∈ ts
    · rw [if_pos hm]; omega
    · rw [if_neg hm, List.length_append]
      show ts.length + 1 ≤ c + 1
      omega
end
end Hw

set_option Elab.async false
set_option linter.all false
set_option maxRecDepth 100000
set_option maxHeartbeats 4000000
namespace Hw
open PySem L2 PyProof.Rows
/-- an own web: its places ascending, its ties ascending -/
structure OwnW (ns : List Str) (ts : List Tie) : Prop where
  asc : Asc ns
  nm : ∀ z ∈ ns, Nm z
  few : ns.length ≤ 200
  tasc : AscP ts
  tie : ∀ t ∈ ts, t.1 ∈ ns ∧ t.2 ∈ ns ∧ strLt t.1 t.2 = true
  tfew : ts.length ≤ 1000
/-- an own web as it lies: a pair of lists -/
def WebAt (H : Hp) (p : Addr) (ns : List Str) (ts : List Tie) : Prop := ∃ (pl tl : Addr) (qs : List Addr), H p = some (.tup [.ref pl, .ref tl]) ∧ H pl = some (.lst (ns.map V.str)) ∧ H tl = some (.lst (qs.map V.ref)) ∧ Paired (fun q (t : Tie) => H q = some (.tup [.str t.1, .str t.2])) qs ts
def spWeb : Sp := fun vs H Q _ => ∃ (a : Addr) (m N : Nat), vs = [.ref a, .int m] ∧ Pot H a N ∧ N < 400000000 ∧ m ≤ 200 ∧
  ∀ p ns ts H', OwnW ns ts → ns.length ≤ m → ts.length ≤ 900 → WebAt H' p ns ts → SameX a H H' → Pot H' a (N + 4000) → Q (.ref p) H'
def nW : List Str := ["pot", "most", "places", "way", "ties", "at", "lap"]
theorem at_ns {ns : List Str} {r : Int} {j : Nat} (e : r = (j : Int)) (h : j < ns.length) : atI (ns.map V.str) r = some (.str ns[j]) := by
  subst e
  exact atI_nat (by rw [List.getElem?_map, List.getElem?_eq_getElem h]; rfl)
theorem at_last {ns : List Str} (h : 0 < ns.length) : atI (ns.map V.str) (-1) = some (.str (ns[ns.length - 1]'(by omega))) := by
  have hne : ns ≠ [] := fun e => by rw [e] at h; exact absurd h (by decide)
  have e1 : ns.map V.str = ns.dropLast.map V.str ++ [V.str (ns.getLast hne)] := by
    rw [← List.map_singleton, ← List.map_append, List.dropLast_concat_getLast]
  rw [e1, atI_last, List.getLast_eq_getElem]
theorem paired_mono {α β : Type} {F G : α → β → Prop} (h : ∀ x y, F x y → G x y) : ∀ {xs : List α} {ys : List β}, Paired F xs ys → Paired G xs ys
  | _, _, .nil => .nil
  | _, _, .cons a t => .cons (h _ _ a) (paired_mono h t)
theorem keys_ties {H : Hp} : ∀ {ts : List Tie} {bs : List Addr}, IsKeys H (encT ts) bs → Paired (fun q (t : Tie) => H q = some (.tup [.str t.1, .str t.2])) bs ts
  | [], _, h => by
    have h' : IsKeys H [] _ := h
    cases h'; exact .nil
  | t :: ts, _, h => by
    have h' : IsKeys H ((([Sum.inr t.1, Sum.inr t.2] : List Key), V.bl true) :: encT ts) _ := h
    cases h' with
    | cons h1 h2 => exact .cons h1 (keys_ties h2)
theorem nodup_ne {ns : List Str} (h : ns.Nodup) {i j : Nat} (hi : i < ns.length) (hj : j < ns.length) (hij : i < j) : ns[i] ≠ ns[j] := List.pairwise_iff_getElem.mp h i j hi hj hij
theorem if_any {t : TT} {A B : TS} {D : Ends} {σ : L2.St} {H : Hp} (ht : ∀ Q : Bool → Hp → Prop, Q true H → Q false H → t σ H Q) (h1 : A D σ H) (h2 : B D σ H) : tIfS t A B D σ H :=
  ht _ (show if true = true then A D σ H else B D σ H by rw [if_pos rfl]; exact h1) (show if false = true then A D σ H else B D σ H by rw [if_neg Bool.false_ne_true]; exact h2)
theorem rs_rng {wi : TI} {g : TG} {tb u : TS} {D : Ends} {σ : L2.St} {H : Hp} (lo : Int) (n : Nat) (P0 : Hp → Prop) (Pv : Nat → L2.St → Hp → Prop) (hw : ∀ R : It → Hp → Prop, (∀ H1, P0 H1 → R (Itr lo n) H1) → wi σ H R) (h0 : ∀ H1, P0 H1 → Pv 0 σ H1)
    (hs : ∀ i σ H, i < n → Pv i σ H → g (.int (lo + i)) σ H fun σ2 H2 => tb { D with nx := Pv (i + 1), ct := Pv (i + 1), bk := u D } σ2 H2) (hd : ∀ σ H, Pv n σ H → u D σ H) : tSeq (tFor wi g tb) u D σ H :=
  hw _ fun H1 p => for_range (D := { D with nx := u D }) Pv (h0 H1 p) hs hd
theorem rs_if_put {t : TT} {A B u : TS} {D : Ends} {σ : L2.St} {H : Hp} (P1 : Bool → Hp → Prop) (P2 : Hp → Prop) (ht : ∀ Q : Bool → Hp → Prop, (∀ b H', P1 b H' → Q b H') → t σ H Q) (h3 : ∀ H', P2 H' → u D σ H')
    (h1 : ∀ (D' : Ends) H', (∀ H4, P2 H4 → D'.nx σ H4) → P1 true H' → A D' σ H') (h2 : ∀ (D' : Ends) H', (∀ H4, P2 H4 → D'.nx σ H4) → P1 false H' → B D' σ H') : tSeq (tIfS t A B) u D σ H :=
  ht _ fun b H' p => by
    show if b = true then A { D with nx := u D } σ H' else B { D with nx := u D } σ H'
    cases b with
    | true => rw [if_pos rfl]; exact h1 _ H' h3 p
    | false => rw [if_neg Bool.false_ne_true]; exact h2 _ H' h3 p
def lapsD : List V := [.int 0, .int 1, .int 1, .int 2]
theorem laps_int : ∀ v ∈ lapsD, ∃ x : Nat, v = V.int (x : Int) ∧ x ≤ 2 := by
  intro v hv
  simp only [lapsD, List.mem_cons, List.not_mem_nil, or_false] at hv
  rcases hv with rfl | rfl | rfl | rfl
  · exact ⟨0, rfl, by decide⟩
  · exact ⟨1, rfl, by decide⟩
  · exact ⟨1, rfl, by decide⟩
  · exact ⟨2, rfl, by decide⟩
section
variable {P : Program} {w : World} {K : PySem.W.Frag} {mg : Str → Option Value} {base : Heap}
end
end Hw

set_option Elab.async false
set_option linter.all false
set_option maxRecDepth 100000
set_option maxHeartbeats 4000000
namespace Hw
open PySem L2 PyProof.Rows
def sBl : Str := Str.ofString " "
def sNl : Str := Str.ofString "\n"
def placesLine (ns : List Str) : Str := Txt.join sBl (Str.ofString "places" :: ns)
def tieLine (t : Tie) : Str := Txt.join sBl [Str.ofString "tie", t.1, t.2]
def webLines (ns : List Str) (ts : List Tie) : List Str := placesLine ns :: ts.map tieLine
def webText (ns : List Str) (ts : List Tie) : Str := Txt.join sNl (webLines ns ts)
theorem paired_get {α β : Type} {F : α → β → Prop} : ∀ {xs : List α} {ys : List β} {i : Nat} {x : α}, Paired F xs ys → xs[i]? = some x → ∃ y, ys[i]? = some y ∧ F x y
  | _, _, _, _, .nil, e => by simp at e
  | _, _, 0, _, .cons a _, e => by simp at e; subst e; exact ⟨_, rfl, a⟩
  | _, _, i + 1, y, .cons _ t, e => by
    obtain ⟨x, h1, h2⟩ := paired_get (i := i) t (by simpa using e)
    exact ⟨x, by simpa using h1, h2⟩
theorem join_len (y : Str) : ∀ ps : List Str, (Txt.join y ps).length ≤ (ps.map (·.length)).sum + ps.length * y.length
  | [] => by rw [TL.join_eq]; exact Nat.zero_le _
  | [p] => by rw [TL.join_eq]; simp [Str.join]
  | p :: q :: r => by
    have ih := join_len y (q :: r)
    rw [TL.join_eq] at ih ⊢
    have e : Str.join y (p :: q :: r) = p ++ y ++ Str.join y (q :: r) := rfl
    rw [e, app_len, app_len]
    simp only [List.map_cons, List.sum_cons, List.length_cons] at ih ⊢
    have : (r.length + 1 + 1) * y.length = (r.length + 1) * y.length + y.length := by rw [Nat.add_mul (r.length + 1) 1, Nat.one_mul]
    omega
theorem sum_le {ps : List Str} {b : Nat} (h : ∀ p ∈ ps, p.length ≤ b) : (ps.map (·.length)).sum ≤ ps.length * b := by
  induction ps with
  | nil => exact Nat.zero_le _
  | cons p ps ih =>
    have h1 := h p List.mem_cons_self
    have h2 := ih fun q hq => h q (List.mem_cons_of_mem _ hq)
    rw [List.map_cons, List.sum_cons, List.length_cons, Nat.add_mul, Nat.one_mul]
    omega
theorem OwnW.first {ns : List Str} {ts : List Tie} (o : OwnW ns ts) : ((Str.ofString "places" :: ns).map (·.length)).sum + (Str.ofString "places" :: ns).length * sBl.length ≤ 2000 := by
  have h := sum_le (ps := ns) (b := 8) fun p hp => (o.nm p hp).2.1
  have h1 := o.few
  have e1 : (Str.ofString "places").length = 6 := by decide +kernel
  have e2 : sBl.length = 1 := by decide +kernel
  rw [List.map_cons, List.sum_cons, List.length_cons, e1, e2]
  omega
theorem OwnW.tl {ns : List Str} {ts : List Tie} (o : OwnW ns ts) {t : Tie} (ht : t ∈ ts) : (([Str.ofString "tie", t.1, t.2] : List Str).map (·.length)).sum + ([Str.ofString "tie", t.1, t.2] : List Str).length * sBl.length ≤ 22 := by
  obtain ⟨h1, h2, _⟩ := o.tie t ht
  have a := (o.nm _ h1).2.1
  have b := (o.nm _ h2).2.1
  have e1 : (Str.ofString "tie").length = 3 := by decide +kernel
  have e2 : sBl.length = 1 := by decide +kernel
  simp only [List.map_cons, List.map_nil, List.sum_cons, List.sum_nil, List.length_cons, List.length_nil, e1, e2]
  omega
theorem OwnW.lines {ns : List Str} {ts : List Tie} (o : OwnW ns ts) : ((webLines ns ts).map (·.length)).sum + (webLines ns ts).length * sNl.length ≤ 16777216 := by
  have h1 : ∀ p ∈ webLines ns ts, p.length ≤ 2000 := by
    intro p hp
    rcases List.mem_cons.mp hp with rfl | hp
    · exact Nat.le_trans (join_len _ _) o.first
    · obtain ⟨t, ht, rfl⟩ := List.mem_map.mp hp
      exact Nat.le_trans (join_len _ _) (Nat.le_trans (o.tl ht) (by decide))
  have h2 := sum_le h1
  have e2 : sNl.length = 1 := by decide +kernel
  have e3 : (webLines ns ts).length ≤ 1001 := by
    show (ts.map tieLine).length + 1 ≤ 1001
    rw [List.length_map]; have := o.tfew; omega
  rw [e2]
  have : (webLines ns ts).length * 2000 ≤ 1001 * 2000 := Nat.mul_le_mul_right _ e3
  omega
def rJn (K : PySem.W.Frag) : V → List V → Hp → VK → Prop := fun x xs H Q => ∃ a p, ∃ ys : List Str, x = .str a ∧ xs = [.ref p] ∧ (SqL K H p (ys.map V.str) ∨ SqT K H p (ys.map V.str)) ∧ (ys.map (·.length)).sum + ys.length * a.length ≤ 16777216 ∧ Q (.str (Txt.join a ys)) H
def spText : Sp := fun vs H Q _ => ∃ p ns ts, vs = [.ref p] ∧ OwnW ns ts ∧ WebAt H p ns ts ∧ ∀ H', Same H H' → Q (.str (webText ns ts)) H'
section
variable {P : Program} {w : World} {K : PySem.W.Frag} {mg : Str → Option Value} {base : Heap}
end
end Hw

set_option Elab.async false
set_option linter.all false
set_option maxRecDepth 100000
set_option maxHeartbeats 4000000
namespace Hw
open PySem L2 PyProof.Rows
/-! the rows of neighbours -/
def nbr (ts : List Tie) (n : Str) : List Str := ts.flatMap fun t => (if t.1 = n then [t.2] else []) ++ (if t.2 = n then [t.1] else [])
theorem nbr_len (ts : List Tie) (n : Str) : (nbr ts n).length ≤ 2 * ts.length := by
  induction ts with
  | nil => exact Nat.zero_le _
  | cons t ts ih =>
    have e : nbr (t :: ts) n = ((if t.1 = n then [t.2] else []) ++ (if t.2 = n then [t.1] else [])) ++ nbr ts n := by simp [nbr]
    rw [e, List.length_append, List.length_append, List.length_cons]
    have h1 : (if t.1 = n then [t.2] else []).length ≤ 1 := by split <;> simp
    have h2 : (if t.2 = n then [t.1] else []).length ≤ 1 := by split <;> simp
    omega
theorem nbr_mem {ns : List Str} {ts : List Tie} (h : ∀ t ∈ ts, t.1 ∈ ns ∧ t.2 ∈ ns ∧ strLt t.1 t.2 = true) {n m : Str} (hm : m ∈ nbr ts n) : m ∈ ns := by
  obtain ⟨t, ht, hm⟩ := List.mem_flatMap.mp hm
  obtain ⟨h1, h2, _⟩ := h t ht
  rcases List.mem_append.mp hm with hm | hm
  · split at hm
    · rw [List.mem_singleton.mp hm]; exact h2
    · cases hm
  · split at hm
    · rw [List.mem_singleton.mp hm]; exact h1
    · cases hm
theorem valV_names {g : Str → V} {ns : List Str} (w : Str) : valV (ns.map fun z => ((Sum.inr z : Key), g z)) (Sum.inr w) = if w ∈ ns then some (g w) else none := by
  induction ns with
  | nil => exact valV_nil
  | cons z ns ih =>
    rw [List.map_cons]
    by_cases h : z = w
    · subst h
      rw [valV_pos rfl, if_pos List.mem_cons_self]
    · rw [valV_neg (fun e => h (Sum.inr.inj e)), ih]
      by_cases hm : w ∈ ns
      · rw [if_pos hm, if_pos (List.mem_cons_of_mem _ hm)]
      · rw [if_neg hm, if_neg (fun e => by rcases List.mem_cons.mp e with rfl | e; exact h rfl; exact hm e)]
/-- a dict at d of lists, one for each name -/
structure NearL (f : Str → Addr) (H : Hp) (d : Addr) (ns : List Str) (L : Str → List Str) : Prop where
  dict : H d = some (.dK (ns.map fun n => ((Sum.inr n : Key), V.ref (f n))))
  lst : ∀ n ∈ ns, H (f n) = some (.lst ((L n).map V.str))
  inj : ∀ m ∈ ns, ∀ n ∈ ns, f m = f n → m = n
theorem NearL.get {f : Str → Addr} {H : Hp} {d : Addr} {ns : List Str} {L : Str → List Str} (w : NearL f H d ns L) {n : Str} (h : n ∈ ns) : DGet H d (.str n) (some (.ref (f n))) := by
  have := DGet.k (k := Sum.inr n) w.dict
  rw [valV_names (g := fun n => V.ref (f n)), if_pos h] at this
  exact this
theorem NearL.keep {f : Str → Addr} {H H' : Hp} {d : Addr} {ns : List Str} {L : Str → List Str} (w : NearL f H d ns L) (s : Same H H') : NearL f H' d ns L :=
  ⟨s _ _ w.dict, fun n hn => s _ _ (w.lst n hn), w.inj⟩
theorem NearL.congr {f : Str → Addr} {H : Hp} {d : Addr} {ns : List Str} {L M : Str → List Str} (w : NearL f H d ns L) (h : ∀ n ∈ ns, L n = M n) : NearL f H d ns M :=
  ⟨w.dict, fun n hn => by rw [← h n hn]; exact w.lst n hn, w.inj⟩
theorem NearL.push {f : Str → Addr} {H : Hp} {d : Addr} {ns : List Str} {L : Str → List Str} (w : NearL f H d ns L) {x y : Str} (hx : x ∈ ns) : NearL f (upd H (f x) (.lst ((L x).map V.str ++ [.str y]))) d ns (fun n => if n = x then L n ++ [y] else L n) := by
  refine ⟨?_, fun n hn => ?_, w.inj⟩
  · rw [upd_ne (ne_of w.dict (w.lst x hx) (fun z => nomatch z))]; exact w.dict
  · by_cases h : n = x
    · subst h
      rw [upd_same, if_pos rfl, List.map_append]; rfl
    · rw [upd_ne (fun e => h (w.inj n hn x hx e)), if_neg h]; exact w.lst n hn
theorem nbr_snoc (ts : List Tie) (t : Tie) (n : Str) : nbr (ts ++ [t]) n = nbr ts n ++ ((if t.1 = n then [t.2] else []) ++ (if t.2 = n then [t.1] else [])) := by simp [nbr]
theorem nbr_push {ts : List Tie} {t : Tie} (h : t.1 ≠ t.2) (n : Str) : (if n = t.2 then (if n = t.1 then nbr ts n ++ [t.2] else nbr ts n) ++ [t.1] else (if n = t.1 then nbr ts n ++ [t.2] else nbr ts n)) = nbr (ts ++ [t]) n := by
  rw [nbr_snoc]
  by_cases h1 : n = t.1
  · have h2 : n ≠ t.2 := fun e => h (h1.symm.trans e)
    rw [if_neg h2, if_pos h1, if_pos h1.symm, if_neg (Ne.symm h2)]; simp
  · by_cases h2 : n = t.2
    · rw [if_pos h2, if_neg h1, if_neg (Ne.symm h1), if_pos h2.symm]; simp
    · rw [if_neg h2, if_neg h1, if_neg (Ne.symm h1), if_neg (Ne.symm h2)]; simp
theorem mergeK_new : ∀ {more kvs : List (Key × V)}, ((kvs ++ more).map (·.1)).Nodup → mergeK kvs more = kvs ++ more
  | [], kvs, _ => by simp [mergeK]
  | p :: more, kvs, h => by
    have hn : valV kvs p.1 = none := by
      unfold valV
      rw [List.find?_eq_none.mpr]
      · rfl
      · intro q hq hc
        have e := of_decide_eq_true hc
        rw [List.map_append, List.nodup_append] at h
        exact h.2.2 q.1 (List.mem_map.mpr ⟨q, hq, rfl⟩) p.1 (List.mem_map.mpr ⟨p, List.mem_cons_self, rfl⟩) e
    have ih := mergeK_new (more := more) (kvs := kvs ++ [p]) (by rw [List.append_assoc]; exact h)
    show mergeK (putK kvs p.1 p.2) more = _
    rw [putK_new _ hn]
    exact ih.trans (by simp)
end Hw

set_option Elab.async false
set_option linter.all false
set_option maxRecDepth 100000
set_option maxHeartbeats 4000000
namespace Hw
open PySem L2 PyProof.Rows
abbrev TieL (H : Hp) (q : Addr) (t : Tie) : Prop := H q = some (.tup [.str t.1, .str t.2])
def spNear : Sp := fun vs H Q _ => ∃ (p tl : Addr) (ns : List Str) (ts : List Tie) (qs : List Addr), vs = [.ref p, .ref tl] ∧ OwnW ns ts ∧ H p = some (.lst (ns.map V.str)) ∧ H tl = some (.lst (qs.map V.ref)) ∧ Paired (TieL H) qs ts ∧
  ∀ d f H', Same H H' → NearL f H' d ns (nbr ts) → H d = none → (∀ n ∈ ns, H (f n) = none) → Q (.ref d) H'
theorem nodup_take {ns : List Str} (h : ns.Nodup) {i : Nat} {x : Str} (hx : ns[i]? = some x) : x ∉ ns.take i := by
  intro hm
  obtain ⟨j, hj, e⟩ := List.mem_iff_getElem.mp hm
  rw [List.length_take] at hj
  obtain ⟨hi, rfl⟩ := List.getElem?_eq_some_iff.mp hx
  rw [List.getElem_take] at e
  exact nodup_ne h (by omega) hi (by omega) e
/-- the rows while they are made -/
def NearUp (H0 : Hp) (D : Addr) (ns : List Str) (f : Str → Addr) (H : Hp) : Prop := Same H0 H ∧ (∀ n ∈ ns, H (f n) = some (.lst []) ∧ H0 (f n) = none ∧ f n ≠ D) ∧ ∀ m ∈ ns, ∀ n ∈ ns, f m = f n → m = n
theorem NearUp.keep {H0 H H' : Hp} {D : Addr} {ns : List Str} {f : Str → Addr} (w : NearUp H0 D ns f H) (s : Same H H') : NearUp H0 D ns f H' := ⟨w.1.trans s, fun n hn => ⟨s _ _ (w.2.1 n hn).1, (w.2.1 n hn).2⟩, w.2.2⟩
theorem NearUp.put {H0 H : Hp} {D : Addr} {ns : List Str} {f : Str → Addr} {o : HO} (w : NearUp H0 D ns f H) (hD : H0 D = none) : NearUp H0 D ns f (upd H D o) :=
  ⟨fun b u e => by rw [upd_ne (ne_of_none e hD)]; exact w.1 _ _ e, fun n hn => ⟨by rw [upd_ne (w.2.1 n hn).2.2]; exact (w.2.1 n hn).1, (w.2.1 n hn).2⟩, w.2.2⟩
theorem NearUp.new {H0 H : Hp} {D l : Addr} {ns : List Str} {f : Str → Addr} {x : Str} (w : NearUp H0 D ns f H) (hx : x ∉ ns) (nl : H l = none) (hl : l ≠ D) : NearUp H0 D (ns ++ [x]) (fun n => if n = x then l else f n) (upd H l (.lst [])) := by
  have hf : ∀ n ∈ ns, (if n = x then l else f n) = f n := fun n hn => if_neg fun e => hx (by rw [← e]; exact hn)
  have hxl : (if x = x then l else f x) = l := if_pos rfl
  refine ⟨w.1.trans (same_upd nl), fun n hn => ?_, fun m hm n hn e => ?_⟩
  · rcases List.mem_append.mp hn with hn | hn
    · dsimp only
      rw [hf n hn]
      exact ⟨(same_upd nl) _ _ (w.2.1 n hn).1, (w.2.1 n hn).2⟩
    · rw [List.mem_singleton.mp hn]
      dsimp only
      rw [hxl]
      exact ⟨upd_same, w.1.free nl, hl⟩
  · have e : (if m = x then l else f m) = (if n = x then l else f n) := e
    have ne : ∀ n ∈ ns, f n ≠ l := fun n hn z => by
      have := (w.2.1 n hn).1
      rw [z, nl] at this; cases this
    rcases List.mem_append.mp hm with hm | hm <;> rcases List.mem_append.mp hn with hn | hn
    · rw [hf m hm, hf n hn] at e; exact w.2.2 m hm n hn e
    · rw [List.mem_singleton.mp hn, hf m hm, hxl] at e; exact absurd e (ne m hm)
    · rw [List.mem_singleton.mp hm, hf n hn, hxl] at e; exact absurd e.symm (ne n hn)
    · rw [List.mem_singleton.mp hm, List.mem_singleton.mp hn]
theorem NearUp.done {H0 H : Hp} {D d : Addr} {ns : List Str} {f : Str → Addr} (w : NearUp H0 D ns f H) (hd : H d = some (.dK (ns.map fun n => ((Sum.inr n : Key), V.ref (f n))))) : NearL f H d ns (nbr []) :=
  ⟨hd, fun n hn => (w.2.1 n hn).1, w.2.2⟩
/-- one tie more -/
theorem tie_push {H0 H : Hp} {d : Addr} {ns : List Str} {f : Str → Addr} {ts : List Tie} {t : Tie} (s : Same H0 H) (w : NearL f H d ns (nbr ts)) (h0 : ∀ n ∈ ns, H0 (f n) = none) (h1 : t.1 ∈ ns) (h2 : t.2 ∈ ns) (hne : t.1 ≠ t.2) :
    ∃ L1, NearL f (upd H (f t.1) (.lst ((nbr ts t.1).map V.str ++ [.str t.2]))) d ns L1 ∧ L1 t.2 = nbr ts t.2 ∧
      Same H0 (upd (upd H (f t.1) (.lst ((nbr ts t.1).map V.str ++ [.str t.2]))) (f t.2) (.lst ((nbr ts t.2).map V.str ++ [.str t.1]))) ∧
      NearL f (upd (upd H (f t.1) (.lst ((nbr ts t.1).map V.str ++ [.str t.2]))) (f t.2) (.lst ((nbr ts t.2).map V.str ++ [.str t.1]))) d ns (nbr (ts ++ [t])) := by
  have w1 := w.push (y := t.2) h1
  have e2 : (if t.2 = t.1 then nbr ts t.2 ++ [t.2] else nbr ts t.2) = nbr ts t.2 := if_neg (Ne.symm hne)
  have w2 := w1.push (y := t.1) h2
  rw [e2] at w2
  refine ⟨_, w1, e2, fun b o e => ?_, w2.congr fun n _ => nbr_push hne n⟩
  rw [upd_ne (ne_of_none e (h0 _ h2)), upd_ne (ne_of_none e (h0 _ h1))]
  exact s _ _ e
theorem near_turn {K : PySem.W.Frag} {D' : Ends} {i2 i3 i4 : Nat} {σ : L2.St} {H0 H : Hp} {d : Addr} {ns : List Str} {f : Str → Addr} {ts : List Tie} {t : Tie} (v2 : σ[i2]? = some (some (.ref d))) (v3 : σ[i3]? = some (some (.str t.1))) (v4 : σ[i4]? = some (some (.str t.2)))
    (s : Same H0 H) (w : NearL f H d ns (nbr ts)) (h0 : ∀ n ∈ ns, H0 (f n) = none) (h1 : t.1 ∈ ns) (h2 : t.2 ∈ ns) (hne : t.1 ≠ t.2) (hl : ts.length ≤ 100000) (fin : ∀ H', Same H0 H' → NearL f H' d ns (nbr (ts ++ [t])) → D'.nx σ H') :
    tSeq (tDrop (tBM K "list" rAppend (tDGet (tVar i2) (tVar i3)) (tCons (tVar i4) tNil))) (tDrop (tBM K "list" rAppend (tDGet (tVar i2) (tVar i4)) (tCons (tVar i3) tNil))) D' σ H := by
  obtain ⟨L1, w1, eL, s2, w2⟩ := tie_push s w h0 h1 h2 hne
  have q2 := w1.lst t.2 h2
  rw [eL] at q2
  have l1 := nbr_len ts t.1
  have l2 := nbr_len ts t.2
  refine rs_bm ⟨.ref d, v2, .str t.1, v3, d, .ref (f t.1), rfl, w.get h1, .inl ⟨rfl, _, sql_of (w.lst _ h1)⟩, .str t.2, v4, f t.1, _, _, rfl, rfl, w.lst _ h1, by rw [List.length_map, sizeLine_eq]; omega, ?_⟩
  exact ⟨.ref d, v2, .str t.2, v4, d, .ref (f t.2), rfl, w1.get h2, .inl ⟨rfl, _, sql_of q2⟩, .str t.1, v3, f t.2, _, _, rfl, rfl, q2, by rw [List.length_map, sizeLine_eq]; omega, fin _ s2 w2⟩
theorem rs_list {K : PySem.W.Frag} {te : TE} {g : TG} {tb u : TS} {D : Ends} {σ : L2.St} {H : Hp} (a : Addr) (xs : List V) (ha : ∀ Q : VK, Q (.ref a) H → te σ H Q) (Pv : Nat → L2.St → Hp → Prop) (h0 : Pv 0 σ H) (hl : ∀ i σ H, i ≤ xs.length → Pv i σ H → SqL K H a xs)
    (hs : ∀ i x σ H, xs[i]? = some x → Pv i σ H → g x σ H fun σ2 H2 => tb { D with nx := Pv (i + 1), ct := Pv (i + 1), bk := u D } σ2 H2) (hd : ∀ σ H, Pv xs.length σ H → u D σ H) : tSeq (tFor (iList K te) g tb) u D σ H :=
  ha _ ⟨a, rfl, ⟨xs, hl 0 σ H (Nat.zero_le _) h0⟩, for_list (D := { D with nx := u D }) Pv h0 hl hs hd⟩
theorem rs_tup {K : PySem.W.Frag} {te : TE} {g : TG} {tb u : TS} {D : Ends} {σ : L2.St} {H : Hp} (a : Addr) (xs : List V) (ha : ∀ Q : VK, Q (.ref a) H → te σ H Q) (Pv : Nat → L2.St → Hp → Prop) (h0 : Pv 0 σ H) (hl : ∀ i σ H, i ≤ xs.length → Pv i σ H → SqT K H a xs)
    (hs : ∀ i x σ H, xs[i]? = some x → Pv i σ H → g x σ H fun σ2 H2 => tb { D with nx := Pv (i + 1), ct := Pv (i + 1), bk := u D } σ2 H2) (hd : ∀ σ H, Pv xs.length σ H → u D σ H) : tSeq (tFor (iTup K te) g tb) u D σ H :=
  ha _ ⟨a, rfl, ⟨xs, hl 0 σ H (Nat.zero_le _) h0⟩, for_tup (D := { D with nx := u D }) Pv h0 hl hs hd⟩
theorem map_get {α : Type} {g : α → V} {xs : List α} {i : Nat} {x : V} (h : (xs.map g)[i]? = some x) : ∃ z, xs[i]? = some z ∧ x = g z := by
  rw [List.getElem?_map] at h
  cases hh : xs[i]? with
  | none => rw [hh] at h; cases h
  | some z => rw [hh] at h; exact ⟨z, rfl, (Option.some.inj h).symm⟩
theorem take_snoc {α : Type} {xs : List α} {i : Nat} {x : α} (h : xs[i]? = some x) : xs.take (i + 1) = xs.take i ++ [x] := by rw [List.take_succ, h]; rfl
theorem paired_in {α β : Type} {F G : α → β → Prop} : ∀ {xs : List α} {ys : List β}, (∀ x y, y ∈ ys → F x y → G x y) → Paired F xs ys → Paired G xs ys
  | _, _, _, .nil => .nil
  | _, _, h, .cons a t => .cons (h _ _ List.mem_cons_self a) (paired_in (fun x y hy => h x y (List.mem_cons_of_mem _ hy)) t)
theorem paired_map {α β γ : Type} {F : α → γ → Prop} {g : β → γ} : ∀ {xs : List α} {ys : List β}, Paired (fun x y => F x (g y)) xs ys → Paired F xs (ys.map g)
  | _, _, .nil => .nil
  | _, _, .cons a t => .cons a (paired_map t)
section
variable {P : Program} {w : World} {K : PySem.W.Frag} {mg : Str → Option Value} {base : Heap}
end
end Hw

set_option Elab.async false
set_option linter.all false
set_option maxRecDepth 100000
set_option maxHeartbeats 4000000
namespace Hw
open PySem L2 PyProof.Rows
abbrev AnyBlk (X : Cx) (scope : Scope) (R : Cx → Prop) : Prop := ∀ (s : Shared) (H : Hp) (C : Addr) (cl : List (Str × Addr)) (fp : List Addr), R (X.blk s H scope (compEnvC scope cl C X.env) fp)
section
variable {X : Cx}
theorem sw_dc {kx vx : Expr} {gs : List Comprehension} {scope : Scope} {pos py : Pos} {y : Str} {l : Nat} {env : Env} (h1 : env.scope.kind = .function) (h2 : env.scope.names.lookup y = some .local) (h3 : (py.line == pos.line) = true)
    (h4 : (scope.names.any fun (n, k) => n == y && (k == .local || k == .cell)) = false) : swapsWith (.DictComp kx vx gs scope pos) (some (.Name y py)) l env = pure true := by
  have a : env.blockKind = .function := by unfold Env.blockKind; rw [h1]; rfl
  have b : env.kindOf y = some .local := h2
  unfold swapsWith
  simp only [a, b, h4, Expr.pos, h3]
  rfl
/-- y = {k: v for ..}, stored while the block stands -/
theorem ps_setDc {i : Nat} {y : Str} {py pos spos : Pos} {kx vx tg iter : Expr} {ifs : List Expr} {scope : Scope} {own : List (Str × Nat)} {wi : TI} {g : TG} {tt : TT} {tk tv : TE} (calm : X.calm = true) (nd : X.N.Nodup) (hy : X.N[i]? = some y) (hyl : X.env.scope.names.lookup y = some .local)
    (sw : swapsWith (.DictComp kx vx [⟨tg, iter, ifs, 0⟩] scope pos) (some (.Name y py)) spos.line X.env = pure true) (walks : PI X tg iter wi) (blk : BlkOk X.N X.env.scope scope own)
    (target : AnyBlk X scope fun Y => PG Y tg g) (tests : AnyBlk X scope fun Y => PTs Y ifs tt) (keys : AnyBlk X scope fun Y => PE Y kx tk) (vals : AnyBlk X scope fun Y => PE Y vx tv) (hs : ∀ x, foldedSetIterable iter X.env x = pure x := by intro _; rfl) :
    PS X (.Assign [.Name y py] (.DictComp kx vx [⟨tg, iter, ifs, 0⟩] scope pos) spos) (tAsg (tDc wi g tt tk tv (own.map (·.2))) (gName i)) := by
  refine ⟨fun pins s σ H D I reading => ?_⟩
  rw [exec_Assign_Name_used _ _ _ _ sw]
  refine wpAny_bind (wpAny_standAt (wpAny_bind ?_))
  show wpAny _ X.A (do let _ ← comprehension (.DictComp kx vx [⟨tg, iter, ifs, 0⟩] scope pos) scope X.env (firstIterPos [⟨tg, iter, ifs, 0⟩] pos) newDict false (eval iter X.env) (some (assign (.Name y py) X.env))) _ _ s
  have reading' : tDc wi g tt tk tv (own.map (·.2)) σ H (fun x H1 => gName i x σ H1 D.nx) := reading
  refine wpAny_bind (thn (dc_core (Qf := fun _ s' => SP X pins D .next s') calm nd I walks blk target tests keys vals hs reading' ?_) fun _ s' done => wpAny_pure (wpAny_pure done))
  intro L C s' m H' I' q ns f
  show wpAny _ _ (assign (.Name y py) X.env (.ref L)) _ _ _
  refine wpAny_assign_Name (store_ok2 (v := V.ref L) I' nd hy (.inl hyl) rfl (fun s2 I2 put => ?_) (.inr hyl))
  obtain ⟨a, sb, ha⟩ := put
  obtain ⟨f0, f1, f2, f3, f4, f5⟩ := f
  have ne : C ≠ a := ha.elim (fun z => by rw [z]; exact f1) (fun z e => f4 y a z e.symm)
  exact ⟨m, ns.sameBut sb ne, fun h3 sb3 => ⟨_, H', I2.turned (t' := s2.toks) (fun b o hb e => (sb3.2 b hb).trans e) f0 f1 f3 f4 f5, q⟩⟩
end
end Hw

set_option Elab.async false
set_option linter.all false
set_option maxRecDepth 100000
set_option maxHeartbeats 4000000
namespace Hw
open PySem L2 PyProof.Rows
abbrev sTied : Stmt := topS 9
/-- places, ties as tuples, and what is told of them -/
structure FineW (ns : List Str) (ts : List Tie) : Prop where
  nd : ns.Nodup
  few : ns.length ≤ 200
  tie : ∀ t ∈ ts, t.1 ∈ ns ∧ t.2 ∈ ns ∧ strLt t.1 t.2 = true
  tfew : ts.length ≤ 100000
def spTied : Sp := fun vs H Q _ => ∃ (p tl : Addr) (ns : List Str) (ts : List Tie) (qs : List Addr), vs = [.ref p, .ref tl] ∧ FineW ns ts ∧ H p = some (.tup (ns.map V.str)) ∧ H tl = some (.tup (qs.map V.ref)) ∧ Paired (TieL H) qs ts ∧
  ∀ d f H', Same H H' → NearL f H' d ns (nbr ts) → H d = none → (∀ n ∈ ns, H (f n) = none) → Q (.ref d) H'
theorem putK_names {ns : List Str} {f : Str → Addr} {z : Str} {l : Addr} (h : z ∉ ns) : putK (ns.map fun n => ((Sum.inr n : Key), V.ref (f n))) (Sum.inr z) (V.ref l) = (ns ++ [z]).map fun n => ((Sum.inr n : Key), V.ref (if n = z then l else f n)) := by
  rw [putK_new _ (by rw [valV_names (g := fun n => V.ref (f n)), if_neg h]), List.map_append]
  congr 1
  · exact List.map_congr_left fun n hn => by rw [if_neg (fun e => h (by rw [← e]; exact hn))]
  · simp
section
variable {P : Program} {w : World} {K : PySem.W.Frag} {mg : Str → Option Value} {base : Heap}
theorem scTied : FnScope ["places", "ties", "tied", "one", "other", "place"] ["places", "ties"] (defScope sTied) := ⟨rfl, rfl, rfl, by decide +kernel, rfl, by decide +kernel, by decide +kernel⟩
theorem ok_tied {f : Addr} {fd : FuncData} {k : Nat} (F : Fun K "tied_by" "tied_by" sTied f fd) : FnOk P w K mg base CX0 (k + 1) f fd ["places", "ties"] spTied := by
  refine F.ok scTied (fun vs H Q E h => ?_) (fun cdv A outer s H vs Q E hr h => ?_)
  · obtain ⟨p, tl, ns, ts, qs, rfl, _⟩ := h
    rfl
  · obtain ⟨p, tl, ns, ts, qs, rfl, own, e1, e3, e4, q⟩ := h
    have hu := hu_of hr
    refine ⟨_, pss_cons (ps_setDc (i := 2) (own := [("place", 5)]) (g := gName 5) (tt := tYes) rfl scTied.nd rfl rfl (sw_dc rfl rfl rfl (by decide +kernel)) (pi_tup (pv 0))
        (blkOk_by (N := ["places", "ties", "tied", "one", "other", "place"]) (sc := defScope sTied) (by decide +kernel)) (fun _ _ _ _ _ => pg_name (i := 5) scTied.nd rfl (Or.inl rfl)) (fun _ _ _ _ _ => pts_nil)
        (fun _ _ _ _ _ => pv 5) (fun _ _ _ _ _ => pe_lst pa_nil))
      (pss_cons (ps_for PassesOwn.never rfl (pi_tup (pv 1)) (pg_tup rfl (pgs_cons (pg_name (i := 3) scTied.nd rfl (Or.inl rfl)) (pgs_cons (pg_name (i := 4) scTied.nd rfl (Or.inl rfl)) pgs_nil)))
        (pss_cons (ps_expr (pe_bm PySem.F.plainAttrs_list PySem.F.slot_list_append PySem.F.type_list_append mt_append (pe_dget hu (pv 2) (pv 3) (fun _ _ => rfl)) (pa_cons (pv 4) pa_nil)))
        (pss_one (ps_expr (pe_bm PySem.F.plainAttrs_list PySem.F.slot_list_append PySem.F.type_list_append mt_append (pe_dget hu (pv 2) (pv 4) (fun _ _ => rfl)) (pa_cons (pv 3) pa_nil))))))
      (pss_one (ps_ret (pv 2)))), ?_⟩
    have l40 := own.few
    have l1000 := own.tfew
    have hnd := own.nd
    refine rs_set ?_
    refine ⟨.ref p, rfl, p, rfl, ⟨_, sqt_of e1⟩, fun D nD => dc_tup (xs := ns.map V.str) (fun i H' => ∃ f, NearUp H D (ns.take i) f H' ∧ H' D = some (.dK ((ns.take i).map fun n => ((Sum.inr n : Key), V.ref (f n)))))
      ⟨fun _ => 0, ⟨same_upd nD, (fun _ z => nomatch z), (fun _ z => nomatch z)⟩, upd_same⟩ (fun i H' _ ⟨f, w, _⟩ => sqt_of (w.1 _ _ e1)) ?_ ?_⟩
    · rintro i x H' hx ⟨f, w, eD⟩
      obtain ⟨z, hz, rfl⟩ := map_get hx
      have hzt := nodup_take hnd hz
      refine ⟨rfl, r_yes ?_⟩
      refine ⟨.str z, rfl, Nat.zero_le _, fun l nl => ?_⟩
      have hl : l ≠ D := fun e => by rw [e, eD] at nl; cases nl
      have w1 := w.new hzt nl hl
      refine ⟨_, Sum.inr z, rfl, (same_upd nl) _ _ eD, small1000 (by rw [List.length_map, List.length_take]; omega), fun n => if n = z then l else f n, by rw [take_snoc hz]; exact w1.put nD, ?_⟩
      rw [upd_same, take_snoc hz, putK_names hzt]
    · rintro H1 ⟨f, w, eD⟩
      rw [List.length_map, List.take_length] at w eD
      have nl0 := w.done eD
      have s0 := w.1
      have hf0 : ∀ n ∈ ns, H (f n) = none := fun n hn => (w.2.1 n hn).2.1
      refine rs_tup tl (qs.map V.ref) (fun Q1 q1 => ⟨_, rfl, q1⟩) (fun i σ' H' => ∃ o3 o4, σ' = [some (.ref p), some (.ref tl), some (.ref D), o3, o4, none] ∧ Same H H' ∧ NearL f H' D ns (nbr (ts.take i)))
        ⟨_, _, rfl, s0, nl0⟩ (fun i σ' H' _ ⟨o3, o4, _, sx, _⟩ => sqt_of (sx _ _ e3)) ?_ ?_
      · rintro i x σ2 H2 hx ⟨o3, o4, rfl, sx, nl⟩
        obtain ⟨q', hq', rfl⟩ := map_get hx
        obtain ⟨t, ht, et⟩ := paired_get e4 hq'
        obtain ⟨m1, m2, m3⟩ := own.tie t (List.mem_of_getElem? ht)
        refine ⟨q', [.str t.1, .str t.2], rfl, sqt_of (sx _ _ et), rfl, _, [.str t.2], rfl, _, [], rfl, rfl, ?_⟩
        refine near_turn (t := t) (ts := ts.take i) rfl rfl rfl sx nl hf0 m1 m2 (strLt_ne m3) (by rw [List.length_take]; omega) (fun H3 s3 n3 => ⟨_, _, rfl, s3, by rw [take_snoc ht]; exact n3⟩)
      · rintro σ2 H2 ⟨o3, o4, rfl, sx, nl⟩
        rw [List.length_map, Paired.length e4, List.take_length] at nl
        exact ⟨.ref D, rfl, q D f H2 sx nl nD hf0⟩
end
end Hw

set_option Elab.async false
set_option linter.all false
set_option maxRecDepth 100000
set_option maxHeartbeats 4000000
namespace Hw
open PySem L2 PyProof.Rows
/-! how far, level by level -/
abbrev Far := List (Str × Nat)
def lookF (far : Far) (n : Str) : Nat := ((far.find? fun p => decide (p.1 = n)).map (·.2)).getD 0
def encF (far : Far) : List (Key × V) := far.map fun p => ((Sum.inr p.1 : Key), V.int (p.2 : Int))
theorem valV_far (far : Far) (n : Str) : valV (encF far) (Sum.inr n) = if n ∈ far.map (·.1) then some (.int (lookF far n : Nat)) else none := by
  induction far with
  | nil => exact valV_nil
  | cons p far ih =>
    show valV (((Sum.inr p.1 : Key), V.int (p.2 : Int)) :: encF far) _ = _
    by_cases h : p.1 = n
    · rw [valV_pos (congrArg Sum.inr h), if_pos (by rw [← h]; exact List.mem_cons_self)]
      show some (V.int _) = some (V.int _)
      unfold lookF
      rw [List.find?_cons_of_pos (by exact decide_eq_true h)]
      rfl
    · rw [valV_neg (fun e => h (Sum.inr.inj e)), ih]
      have e : lookF (p :: far) n = lookF far n := by
        unfold lookF
        rw [List.find?_cons_of_neg (by simpa using h)]
      rw [e, List.map_cons]
      by_cases hm : n ∈ far.map (·.1)
      · rw [if_pos hm, if_pos (List.mem_cons_of_mem _ hm)]
      · rw [if_neg hm, if_neg (fun z => by rcases List.mem_cons.mp z with z | z; exact h z.symm; exact hm z)]
def stepO (one : Str) (s : Far × List Str) (o : Str) : Far × List Str := if o ∈ s.1.map (·.1) then s else (s.1 ++ [(o, lookF s.1 one + 1)], s.2 ++ [o])
def stepE (nb : Str → List Str) (s : Far × List Str) (one : Str) : Far × List Str := (nb one).foldl (stepO one) s
def lvl (nb : Str → List Str) (s : Far × List Str) : Far × List Str := s.2.foldl (stepE nb) (s.1, [])
def lev (nb : Str → List Str) (p : Str) : Nat → Far × List Str
  | 0 => ([(p, 0)], [p])
  | i + 1 => lvl nb (lev nb p i)
/-- what stands at every moment -/
structure FarOk (ns : List Str) (n0 : Nat) (s : Far × List Str) : Prop where
  nd : (s.1.map (·.1)).Nodup
  sub : ∀ n ∈ s.1.map (·.1), n ∈ ns
  bey : ∀ n ∈ s.2, n ∈ s.1.map (·.1)
  len : s.1.length = n0 + s.2.length
theorem FarOk.few {ns : List Str} {n0 : Nat} {s : Far × List Str} (f : FarOk ns n0 s) : s.1.length ≤ ns.length := by
  have := sub_len f.nd f.sub
  rw [List.length_map] at this
  exact this
theorem FarOk.stepO {ns : List Str} {n0 : Nat} {s : Far × List Str} (f : FarOk ns n0 s) {one o : Str} (ho : o ∈ ns) : FarOk ns n0 (stepO one s o) ∧ ∀ n ∈ s.1.map (·.1), n ∈ (Hw.stepO one s o).1.map (·.1) := by
  unfold Hw.stepO
  by_cases h : o ∈ s.1.map (·.1)
  · rw [if_pos h]; exact ⟨f, fun _ z => z⟩
  · rw [if_neg h]
    refine ⟨⟨?_, ?_, ?_, ?_⟩, ?_⟩
    · show ((s.1 ++ [(o, lookF s.1 one + 1)]).map (·.1)).Nodup
      rw [List.map_append, List.nodup_append]
      exact ⟨f.nd, by simp, fun x hx y hy e => h (by rw [List.mem_singleton.mp hy] at e; rw [show x = o from e] at hx; exact hx)⟩
    · intro n hn
      have hn : n ∈ (s.1 ++ [(o, lookF s.1 one + 1)]).map (·.1) := hn
      rw [List.map_append] at hn
      rcases List.mem_append.mp hn with hn | hn
      · exact f.sub n hn
      · rw [List.mem_singleton.mp hn]; exact ho
    · intro n hn
      show n ∈ (s.1 ++ [(o, lookF s.1 one + 1)]).map (·.1)
      rw [List.map_append]
      rcases List.mem_append.mp hn with hn | hn
      · exact List.mem_append_left _ (f.bey n hn)
      · exact List.mem_append_right _ (by rw [List.mem_singleton.mp hn]; exact List.mem_cons_self)
    · show (s.1 ++ [_]).length = n0 + (s.2 ++ [_]).length
      rw [List.length_append, List.length_append, f.len]; rfl
    · intro n hn
      show n ∈ (s.1 ++ [(o, lookF s.1 one + 1)]).map (·.1)
      rw [List.map_append]
      exact List.mem_append_left _ hn
theorem FarOk.foldO {ns : List Str} {n0 : Nat} {one : Str} : ∀ {os : List Str} {s : Far × List Str}, FarOk ns n0 s → (∀ o ∈ os, o ∈ ns) → FarOk ns n0 (os.foldl (Hw.stepO one) s) ∧ ∀ n ∈ s.1.map (·.1), n ∈ (os.foldl (Hw.stepO one) s).1.map (·.1)
  | [], _, f, _ => ⟨f, fun _ z => z⟩
  | o :: os, s, f, h => by
    obtain ⟨f1, k1⟩ := f.stepO (one := one) (h o List.mem_cons_self)
    obtain ⟨f2, k2⟩ := FarOk.foldO (one := one) f1 fun o ho => h o (List.mem_cons_of_mem _ ho)
    exact ⟨f2, fun n hn => k2 n (k1 n hn)⟩
theorem FarOk.foldE {ns : List Str} {n0 : Nat} {nb : Str → List Str} (hnb : ∀ n ∈ ns, ∀ o ∈ nb n, o ∈ ns) : ∀ {es : List Str} {s : Far × List Str}, FarOk ns n0 s → (∀ o ∈ es, o ∈ ns) → FarOk ns n0 (es.foldl (stepE nb) s) ∧ ∀ n ∈ s.1.map (·.1), n ∈ (es.foldl (stepE nb) s).1.map (·.1)
  | [], _, f, _ => ⟨f, fun _ z => z⟩
  | o :: os, s, f, h => by
    obtain ⟨f1, k1⟩ := f.foldO (one := o) (hnb o (h o List.mem_cons_self))
    obtain ⟨f2, k2⟩ := FarOk.foldE hnb f1 fun o ho => h o (List.mem_cons_of_mem _ ho)
    exact ⟨f2, fun n hn => k2 n (k1 n hn)⟩
theorem FarOk.lvl {ns : List Str} {n0 : Nat} {nb : Str → List Str} (hnb : ∀ n ∈ ns, ∀ o ∈ nb n, o ∈ ns) {s : Far × List Str} (f : FarOk ns n0 s) : FarOk ns s.1.length (lvl nb s) :=
  (FarOk.foldE hnb (s := (s.1, [])) ⟨f.nd, f.sub, (fun _ z => nomatch z), rfl⟩ fun o ho => f.sub o (f.bey o ho)).1
theorem lev_ok {ns : List Str} {nb : Str → List Str} (hnb : ∀ n ∈ ns, ∀ o ∈ nb n, o ∈ ns) {p : Str} (hp : p ∈ ns) : ∀ i, ∃ n0, FarOk ns n0 (lev nb p i)
  | 0 => ⟨0, by simp [lev], by simp [lev, hp], by simp [lev], by simp [lev]⟩
  | i + 1 => by
    obtain ⟨n0, f⟩ := lev_ok hnb hp i
    exact ⟨_, f.lvl hnb⟩
def muF (ns : List Str) (s : Far × List Str) : Nat := 2 * (ns.length - s.1.length) + (if s.2 = [] then 0 else 1)
theorem mu_lvl {ns : List Str} {n0 : Nat} {nb : Str → List Str} (hnb : ∀ n ∈ ns, ∀ o ∈ nb n, o ∈ ns) {s : Far × List Str} (f : FarOk ns n0 s) (hs : s.2 ≠ []) : muF ns (lvl nb s) < muF ns s := by
  have f1 := f.lvl hnb
  have l1 := f1.len
  have l2 := f1.few
  have l3 := f.few
  unfold muF
  rw [if_neg hs]
  by_cases h : (Hw.lvl nb s).2 = []
  · rw [if_pos h]
    rw [h] at l1
    have : (Hw.lvl nb s).1.length = s.1.length := l1
    omega
  · rw [if_neg h]
    have : 0 < (Hw.lvl nb s).2.length := List.length_pos_iff.mpr h
    omega
/-- all that is joined to p, with how far it is -/
def Bfs (nb : Str → List Str) (p : Str) (far : Far) : Prop := ∃ i, lev nb p i = (far, [])
theorem lev_stay {nb : Str → List Str} {p : Str} {far : Far} {i : Nat} (h : lev nb p i = (far, [])) : ∀ k, lev nb p (i + k) = (far, [])
  | 0 => h
  | k + 1 => by
    show lvl nb (lev nb p (i + k)) = _
    rw [lev_stay h k]; rfl
theorem Bfs.uniq {nb : Str → List Str} {p : Str} {far far' : Far} (h : Bfs nb p far) (h' : Bfs nb p far') : far = far' := by
  obtain ⟨i, h⟩ := h
  obtain ⟨j, h'⟩ := h'
  have a := lev_stay h j
  have b := lev_stay h' i
  rw [Nat.add_comm] at b
  rw [a] at b
  exact congrArg Prod.fst b
end Hw

set_option Elab.async false
set_option linter.all false
set_option maxRecDepth 100000
set_option maxHeartbeats 4000000
namespace Hw
open PySem L2 PyProof.Rows
structure BfsH (H0 : Hp) (fd el bl : Addr) (s : Far × List Str) (edge : List Str) (H : Hp) : Prop where
  same : Same H0 H
  far : H fd = some (.dK (encF s.1))
  edge : H el = some (.lst (edge.map V.str))
  bey : H bl = some (.lst (s.2.map V.str))
  f0 : H0 fd = none
  b0 : H0 bl = none
  ne : el ≠ bl
def oneB (K : PySem.W.Frag) : TS := tIfS (tB (tDNotIn (tVar 6) (tVar 2))) (tSeq (sDPut (tVar 2) (tVar 6) (tOp (rI0 fun i j => V.int (i + j)) (tDGet (tVar 2) (tVar 5)) (tC (V.int 1)))) (tDrop (tBM K "list" rAppend (tVar 4) (tCons (tVar 6) tNil)))) tNext
def lapB (K : PySem.W.Frag) (te : TE) : TS := tSeq (tAsg (tLst tNil) (gName 4)) (tSeq (tFor (iList K (tVar 3)) (gName 5) (tFor (iList K te) (gName 6) (oneB K))) (tAsg (tVar 4) (gName 3)))
theorem bfs_one {K : PySem.W.Frag} {D : Ends} {s0 s1 : Option V} {H0 H : Hp} {fd el bl : Addr} {s : Far × List Str} {edge ns : List Str} {n0 : Nat} {one o : Str} (h : BfsH H0 fd el bl s edge H) (f : FarOk ns n0 s) (hl : ns.length ≤ 1000) (h1 : one ∈ s.1.map (·.1)) (ho : o ∈ ns)
    (fin : ∀ H', BfsH H0 fd el bl (stepO one s o) edge H' → D.nx [s0, s1, some (.ref fd), some (.ref el), some (.ref bl), some (.str one), some (.str o)] H') : oneB K D [s0, s1, some (.ref fd), some (.ref el), some (.ref bl), some (.str one), some (.str o)] H := by
  have few := f.few
  have len := f.len
  refine ⟨.str o, rfl, .ref fd, rfl, fd, _, rfl, DGet.k (k := Sum.inr o) h.far, _, rfl, ?_⟩
  rw [valV_far]
  by_cases hm : o ∈ s.1.map (·.1)
  · rw [if_pos hm]
    have := fin H (by unfold stepO; rw [if_pos hm]; exact h)
    exact this
  · rw [if_neg hm]
    have g1 : DGet H fd (.str one) (some (.int (lookF s.1 one : Nat))) := by
      have := DGet.k (k := Sum.inr one) h.far
      rw [valV_far, if_pos h1] at this
      exact this
    refine ⟨.ref fd, rfl, .str one, rfl, fd, _, rfl, g1, _, _, rfl, rfl, .ref fd, rfl, .str o, rfl, fd, _, rfl, DPut.k (k := Sum.inr o) h.far (by unfold encF; rw [List.length_map]; exact small1000 (by omega)), ?_⟩
    have hn : valV (encF s.1) (Sum.inr o) = none := by rw [valV_far, if_neg hm]
    rw [putK_new _ hn]
    have nfb : bl ≠ fd := ne_of h.bey h.far (fun z => nomatch z)
    have nef : el ≠ fd := ne_of h.edge h.far (fun z => nomatch z)
    refine ⟨.ref bl, rfl, .inl ⟨rfl, _, sql_of (by rw [upd_ne nfb]; exact h.bey)⟩, .str o, rfl, bl, _, _, rfl, rfl, by rw [upd_ne nfb]; exact h.bey, small1000 (by rw [List.length_map]; omega), fin _ ?_⟩
    unfold stepO
    rw [if_neg hm]
    refine ⟨fun b u e => ?_, ?_, ?_, ?_, h.f0, h.b0, h.ne⟩
    · rw [upd_ne (ne_of_none e h.b0), upd_ne (ne_of_none e h.f0)]
      exact h.same _ _ e
    · rw [upd_ne (Ne.symm nfb), upd_same]
      show some (HO.dK (encF s.1 ++ [_])) = some (HO.dK (encF (s.1 ++ [_])))
      unfold encF
      rw [List.map_append]
      rfl
    · rw [upd_ne h.ne, upd_ne nef]; exact h.edge
    · rw [upd_same]
      show _ = some (HO.lst ((s.2 ++ [o]).map V.str))
      rw [List.map_append]; rfl
theorem foldl_snoc {α β : Type} {g : β → α → β} {xs : List α} {i : Nat} {x : α} {b : β} (h : xs[i]? = some x) : (xs.take (i + 1)).foldl g b = g ((xs.take i).foldl g b) x := by
  rw [take_snoc h, List.foldl_append]; rfl
/-- the neighbours of one place -/
theorem bfs_all {K : PySem.W.Frag} {D : Ends} {te : TE} {s0 s1 o6 : Option V} {H0 H : Hp} {fd el bl : Addr} {s : Far × List Str} {edge ns : List Str} {nb : Str → List Str} {n0 : Nat} {one : Str} {a : Addr} (h : BfsH H0 fd el bl s edge H) (f : FarOk ns n0 s) (hl : ns.length ≤ 1000) (h1 : one ∈ s.1.map (·.1)) (hnb : ∀ o ∈ nb one, o ∈ ns)
    (ha : H0 a = some (.lst ((nb one).map V.str))) (hte : ∀ Q : VK, Q (.ref a) H → te [s0, s1, some (.ref fd), some (.ref el), some (.ref bl), some (.str one), o6] H Q)
    (fin : ∀ H' o6', BfsH H0 fd el bl (stepE nb s one) edge H' → D.nx [s0, s1, some (.ref fd), some (.ref el), some (.ref bl), some (.str one), o6'] H') : tFor (iList K te) (gName 6) (oneB K) D [s0, s1, some (.ref fd), some (.ref el), some (.ref bl), some (.str one), o6] H := by
  refine hte _ ⟨a, rfl, ⟨_, sql_of (h.same _ _ ha)⟩, for_list (xs := (nb one).map V.str) (fun i σ' H' => ∃ o6', σ' = [s0, s1, some (.ref fd), some (.ref el), some (.ref bl), some (.str one), o6'] ∧ BfsH H0 fd el bl (((nb one).take i).foldl (stepO one) s) edge H') ⟨_, rfl, h⟩ (fun i σ' H' _ ⟨_, _, w⟩ => sql_of (w.same _ _ ha)) ?_ ?_⟩
  · rintro i x σ' H' hx ⟨o6', rfl, w⟩
    obtain ⟨o, ho, rfl⟩ := map_get hx
    obtain ⟨fi, ki⟩ := f.foldO (one := one) (os := (nb one).take i) fun o ho => hnb o (List.mem_of_mem_take ho)
    exact bfs_one w fi hl (ki _ h1) (hnb o (List.mem_of_getElem? ho)) fun H'' w' => ⟨_, rfl, by rw [foldl_snoc ho]; exact w'⟩
  · rintro σ' H' ⟨o6', rfl, w⟩
    rw [List.length_map, List.take_length] at w
    exact fin H' o6' w
/-- a level -/
theorem bfs_lap {K : PySem.W.Frag} {D : Ends} {te : TE} {s0 s1 o4 o5 o6 : Option V} {H0 H : Hp} {fd el : Addr} {s : Far × List Str} {ns : List Str} {nb : Str → List Str} {n0 : Nat} {fa : Str → Addr} (e1 : Same H0 H) (e2 : H fd = some (.dK (encF s.1))) (e3 : H el = some (.lst (s.2.map V.str))) (f0 : H0 fd = none) (f : FarOk ns n0 s) (hl : ns.length ≤ 1000) (hnb : ∀ n ∈ ns, ∀ o ∈ nb n, o ∈ ns)
    (ha : ∀ n ∈ ns, H0 (fa n) = some (.lst ((nb n).map V.str))) (hte : ∀ n ∈ ns, ∀ (bl : Addr) (o6 : Option V) (H' : Hp) (Q : VK), Same H0 H' → Q (.ref (fa n)) H' → te [s0, s1, some (.ref fd), some (.ref el), some (.ref bl), some (.str n), o6] H' Q)
    (fin : ∀ H' bl o5' o6', Same H0 H' → H' fd = some (.dK (encF (lvl nb s).1)) → H' bl = some (.lst ((lvl nb s).2.map V.str)) → D.nx [s0, s1, some (.ref fd), some (.ref bl), some (.ref bl), o5', o6'] H') : lapB K te D [s0, s1, some (.ref fd), some (.ref el), o4, o5, o6] H := by
  refine rs_set ⟨Nat.zero_le _, fun bl nbl => ?_⟩
  have nel : el ≠ bl := ne_of_none e3 nbl
  have w0 : BfsH H0 fd el bl (s.1, []) s.2 (upd H bl (.lst [])) := ⟨e1.trans (same_upd nbl), (same_upd nbl) _ _ e2, (same_upd nbl) _ _ e3, upd_same, f0, e1.free nbl, nel⟩
  have f1 : FarOk ns s.1.length (s.1, []) := ⟨f.nd, f.sub, (fun _ z => nomatch z), rfl⟩
  refine rs_list el (s.2.map V.str) (fun Q q => ⟨_, rfl, q⟩) (fun i σ' H' => ∃ o5' o6', σ' = [s0, s1, some (.ref fd), some (.ref el), some (.ref bl), o5', o6'] ∧ BfsH H0 fd el bl ((s.2.take i).foldl (stepE nb) (s.1, [])) s.2 H') ⟨_, _, rfl, w0⟩ (fun i σ' H' _ ⟨_, _, _, w⟩ => sql_of w.edge) ?_ ?_
  · rintro i x σ' H' hx ⟨o5', o6', rfl, w⟩
    obtain ⟨one, ho, rfl⟩ := map_get hx
    have h1 := f.bey one (List.mem_of_getElem? ho)
    have hin := f.sub one h1
    obtain ⟨fi, ki⟩ := f1.foldE hnb (es := s.2.take i) fun o ho => f.sub o (f.bey o (List.mem_of_mem_take ho))
    refine r_gname ?_
    exact bfs_all w fi hl (ki _ h1) (hnb one hin) (ha one hin) (fun Q q => hte one hin bl o6' H' Q w.same q) fun H'' o6'' w' => ⟨_, _, rfl, by rw [foldl_snoc ho]; exact w'⟩
  · rintro σ' H' ⟨o5', o6', rfl, w⟩
    rw [List.length_map, List.take_length] at w
    exact ⟨.ref bl, rfl, fin H' bl o5' o6' w.same w.far w.bey⟩
end Hw

set_option Elab.async false
set_option linter.all false
set_option maxRecDepth 100000
set_option maxHeartbeats 4000000
namespace HI
open PySem L2 PyProof.Rows Hw
abbrev Tie := Int × Int
theorem nodup_ne {ns : List Int} (h : ns.Nodup) {i j : Nat} (hi : i < ns.length) (hj : j < ns.length) (hij : i < j) : ns[i] ≠ ns[j] := List.pairwise_iff_getElem.mp h i j hi hj hij
def nbr (ts : List Tie) (n : Int) : List Int := ts.flatMap fun t => (if t.1 = n then [t.2] else []) ++ (if t.2 = n then [t.1] else [])
theorem nbr_len (ts : List Tie) (n : Int) : (nbr ts n).length ≤ 2 * ts.length := by
  induction ts with
  | nil => exact Nat.zero_le _
  | cons t ts ih =>
    have e : nbr (t :: ts) n = ((if t.1 = n then [t.2] else []) ++ (if t.2 = n then [t.1] else [])) ++ nbr ts n := by simp [nbr]
    rw [e, List.length_append, List.length_append, List.length_cons]
    have h1 : (if t.1 = n then [t.2] else []).length ≤ 1 := by split <;> simp
    have h2 : (if t.2 = n then [t.1] else []).length ≤ 1 := by split <;> simp
    omega
theorem nbr_mem {ns : List Int} {ts : List Tie} (h : ∀ t ∈ ts, t.1 ∈ ns ∧ t.2 ∈ ns ∧ t.1 < t.2) {n m : Int} (hm : m ∈ nbr ts n) : m ∈ ns := by
  obtain ⟨t, ht, hm⟩ := List.mem_flatMap.mp hm
  obtain ⟨h1, h2, _⟩ := h t ht
  rcases List.mem_append.mp hm with hm | hm
  · split at hm
    · rw [List.mem_singleton.mp hm]; exact h2
    · cases hm
  · split at hm
    · rw [List.mem_singleton.mp hm]; exact h1
    · cases hm
theorem valV_names {g : Int → V} {ns : List Int} (w : Int) : valV (ns.map fun z => ((Sum.inl z : Key), g z)) (Sum.inl w) = if w ∈ ns then some (g w) else none := by
  induction ns with
  | nil => exact valV_nil
  | cons z ns ih =>
    rw [List.map_cons]
    by_cases h : z = w
    · subst h
      rw [valV_pos rfl, if_pos List.mem_cons_self]
    · rw [valV_neg (fun e => h (Sum.inl.inj e)), ih]
      by_cases hm : w ∈ ns
      · rw [if_pos hm, if_pos (List.mem_cons_of_mem _ hm)]
      · rw [if_neg hm, if_neg (fun e => by rcases List.mem_cons.mp e with rfl | e; exact h rfl; exact hm e)]
structure NearL (f : Int → Addr) (H : Hp) (d : Addr) (ns : List Int) (L : Int → List Int) : Prop where
  dict : H d = some (.dK (ns.map fun n => ((Sum.inl n : Key), V.ref (f n))))
  lst : ∀ n ∈ ns, H (f n) = some (.lst ((L n).map V.int))
  inj : ∀ m ∈ ns, ∀ n ∈ ns, f m = f n → m = n
theorem NearL.get {f : Int → Addr} {H : Hp} {d : Addr} {ns : List Int} {L : Int → List Int} (w : NearL f H d ns L) {n : Int} (h : n ∈ ns) : DGet H d (.int n) (some (.ref (f n))) := by
  have := DGet.k (k := Sum.inl n) w.dict
  rw [valV_names (g := fun n => V.ref (f n)), if_pos h] at this
  exact this
theorem NearL.keep {f : Int → Addr} {H H' : Hp} {d : Addr} {ns : List Int} {L : Int → List Int} (w : NearL f H d ns L) (s : Same H H') : NearL f H' d ns L :=
  ⟨s _ _ w.dict, fun n hn => s _ _ (w.lst n hn), w.inj⟩
theorem NearL.congr {f : Int → Addr} {H : Hp} {d : Addr} {ns : List Int} {L M : Int → List Int} (w : NearL f H d ns L) (h : ∀ n ∈ ns, L n = M n) : NearL f H d ns M :=
  ⟨w.dict, fun n hn => by rw [← h n hn]; exact w.lst n hn, w.inj⟩
theorem NearL.push {f : Int → Addr} {H : Hp} {d : Addr} {ns : List Int} {L : Int → List Int} (w : NearL f H d ns L) {x y : Int} (hx : x ∈ ns) : NearL f (upd H (f x) (.lst ((L x).map V.int ++ [.int y]))) d ns (fun n => if n = x then L n ++ [y] else L n) := by
  refine ⟨?_, fun n hn => ?_, w.inj⟩
  · rw [upd_ne (ne_of w.dict (w.lst x hx) (fun z => nomatch z))]; exact w.dict
  · by_cases h : n = x
    · subst h
      rw [upd_same, if_pos rfl, List.map_append]; rfl
    · rw [upd_ne (fun e => h (w.inj n hn x hx e)), if_neg h]; exact w.lst n hn
theorem nbr_snoc (ts : List Tie) (t : Tie) (n : Int) : nbr (ts ++ [t]) n = nbr ts n ++ ((if t.1 = n then [t.2] else []) ++ (if t.2 = n then [t.1] else [])) := by simp [nbr]
theorem nbr_push {ts : List Tie} {t : Tie} (h : t.1 ≠ t.2) (n : Int) : (if n = t.2 then (if n = t.1 then nbr ts n ++ [t.2] else nbr ts n) ++ [t.1] else (if n = t.1 then nbr ts n ++ [t.2] else nbr ts n)) = nbr (ts ++ [t]) n := by
  rw [nbr_snoc]
  by_cases h1 : n = t.1
  · have h2 : n ≠ t.2 := fun e => h (h1.symm.trans e)
    rw [if_neg h2, if_pos h1, if_pos h1.symm, if_neg (Ne.symm h2)]; simp
  · by_cases h2 : n = t.2
    · rw [if_pos h2, if_neg h1, if_neg (Ne.symm h1), if_pos h2.symm]; simp
    · rw [if_neg h2, if_neg h1, if_neg (Ne.symm h1), if_neg (Ne.symm h2)]; simp
abbrev TieL (H : Hp) (q : Addr) (t : Tie) : Prop := H q = some (.tup [.int t.1, .int t.2])
theorem nodup_take {ns : List Int} (h : ns.Nodup) {i : Nat} {x : Int} (hx : ns[i]? = some x) : x ∉ ns.take i := by
  intro hm
  obtain ⟨j, hj, e⟩ := List.mem_iff_getElem.mp hm
  rw [List.length_take] at hj
  obtain ⟨hi, rfl⟩ := List.getElem?_eq_some_iff.mp hx
  rw [List.getElem_take] at e
  exact nodup_ne h (by omega) hi (by omega) e
def NearUp (H0 : Hp) (D : Addr) (ns : List Int) (f : Int → Addr) (H : Hp) : Prop := Same H0 H ∧ (∀ n ∈ ns, H (f n) = some (.lst []) ∧ H0 (f n) = none ∧ f n ≠ D) ∧ ∀ m ∈ ns, ∀ n ∈ ns, f m = f n → m = n
theorem NearUp.keep {H0 H H' : Hp} {D : Addr} {ns : List Int} {f : Int → Addr} (w : NearUp H0 D ns f H) (s : Same H H') : NearUp H0 D ns f H' := ⟨w.1.trans s, fun n hn => ⟨s _ _ (w.2.1 n hn).1, (w.2.1 n hn).2⟩, w.2.2⟩
theorem NearUp.put {H0 H : Hp} {D : Addr} {ns : List Int} {f : Int → Addr} {o : HO} (w : NearUp H0 D ns f H) (hD : H0 D = none) : NearUp H0 D ns f (upd H D o) :=
  ⟨fun b u e => by rw [upd_ne (ne_of_none e hD)]; exact w.1 _ _ e, fun n hn => ⟨by rw [upd_ne (w.2.1 n hn).2.2]; exact (w.2.1 n hn).1, (w.2.1 n hn).2⟩, w.2.2⟩
theorem NearUp.new {H0 H : Hp} {D l : Addr} {ns : List Int} {f : Int → Addr} {x : Int} (w : NearUp H0 D ns f H) (hx : x ∉ ns) (nl : H l = none) (hl : l ≠ D) : NearUp H0 D (ns ++ [x]) (fun n => if n = x then l else f n) (upd H l (.lst [])) := by
  have hf : ∀ n ∈ ns, (if n = x then l else f n) = f n := fun n hn => if_neg fun e => hx (by rw [← e]; exact hn)
  have hxl : (if x = x then l else f x) = l := if_pos rfl
  refine ⟨w.1.trans (same_upd nl), fun n hn => ?_, fun m hm n hn e => ?_⟩
  · rcases List.mem_append.mp hn with hn | hn
    · dsimp only
      rw [hf n hn]
      exact ⟨(same_upd nl) _ _ (w.2.1 n hn).1, (w.2.1 n hn).2⟩
    · rw [List.mem_singleton.mp hn]
      dsimp only
      rw [hxl]
      exact ⟨upd_same, w.1.free nl, hl⟩
  · have e : (if m = x then l else f m) = (if n = x then l else f n) := e
    have ne : ∀ n ∈ ns, f n ≠ l := fun n hn z => by
      have := (w.2.1 n hn).1
      rw [z, nl] at this; cases this
    rcases List.mem_append.mp hm with hm | hm <;> rcases List.mem_append.mp hn with hn | hn
    · rw [hf m hm, hf n hn] at e; exact w.2.2 m hm n hn e
    · rw [List.mem_singleton.mp hn, hf m hm, hxl] at e; exact absurd e (ne m hm)
    · rw [List.mem_singleton.mp hm, hf n hn, hxl] at e; exact absurd e.symm (ne n hn)
    · rw [List.mem_singleton.mp hm, List.mem_singleton.mp hn]
theorem NearUp.done {H0 H : Hp} {D d : Addr} {ns : List Int} {f : Int → Addr} (w : NearUp H0 D ns f H) (hd : H d = some (.dK (ns.map fun n => ((Sum.inl n : Key), V.ref (f n))))) : NearL f H d ns (nbr []) :=
  ⟨hd, fun n hn => (w.2.1 n hn).1, w.2.2⟩
theorem tie_push {H0 H : Hp} {d : Addr} {ns : List Int} {f : Int → Addr} {ts : List Tie} {t : Tie} (s : Same H0 H) (w : NearL f H d ns (nbr ts)) (h0 : ∀ n ∈ ns, H0 (f n) = none) (h1 : t.1 ∈ ns) (h2 : t.2 ∈ ns) (hne : t.1 ≠ t.2) :
    ∃ L1, NearL f (upd H (f t.1) (.lst ((nbr ts t.1).map V.int ++ [.int t.2]))) d ns L1 ∧ L1 t.2 = nbr ts t.2 ∧
      Same H0 (upd (upd H (f t.1) (.lst ((nbr ts t.1).map V.int ++ [.int t.2]))) (f t.2) (.lst ((nbr ts t.2).map V.int ++ [.int t.1]))) ∧
      NearL f (upd (upd H (f t.1) (.lst ((nbr ts t.1).map V.int ++ [.int t.2]))) (f t.2) (.lst ((nbr ts t.2).map V.int ++ [.int t.1]))) d ns (nbr (ts ++ [t])) := by
  have w1 := w.push (y := t.2) h1
  have e2 : (if t.2 = t.1 then nbr ts t.2 ++ [t.2] else nbr ts t.2) = nbr ts t.2 := if_neg (Ne.symm hne)
  have w2 := w1.push (y := t.1) h2
  rw [e2] at w2
  refine ⟨_, w1, e2, fun b o e => ?_, w2.congr fun n _ => nbr_push hne n⟩
  rw [upd_ne (ne_of_none e (h0 _ h2)), upd_ne (ne_of_none e (h0 _ h1))]
  exact s _ _ e
theorem near_turn {K : PySem.W.Frag} {D' : Ends} {i2 i3 i4 : Nat} {σ : L2.St} {H0 H : Hp} {d : Addr} {ns : List Int} {f : Int → Addr} {ts : List Tie} {t : Tie} (v2 : σ[i2]? = some (some (.ref d))) (v3 : σ[i3]? = some (some (.int t.1))) (v4 : σ[i4]? = some (some (.int t.2)))
    (s : Same H0 H) (w : NearL f H d ns (nbr ts)) (h0 : ∀ n ∈ ns, H0 (f n) = none) (h1 : t.1 ∈ ns) (h2 : t.2 ∈ ns) (hne : t.1 ≠ t.2) (hl : ts.length ≤ 100000) (fin : ∀ H', Same H0 H' → NearL f H' d ns (nbr (ts ++ [t])) → D'.nx σ H') :
    tSeq (tDrop (tBM K "list" rAppend (tDGet (tVar i2) (tVar i3)) (tCons (tVar i4) tNil))) (tDrop (tBM K "list" rAppend (tDGet (tVar i2) (tVar i4)) (tCons (tVar i3) tNil))) D' σ H := by
  obtain ⟨L1, w1, eL, s2, w2⟩ := tie_push s w h0 h1 h2 hne
  have q2 := w1.lst t.2 h2
  rw [eL] at q2
  have l1 := nbr_len ts t.1
  have l2 := nbr_len ts t.2
  refine rs_bm ⟨.ref d, v2, .int t.1, v3, d, .ref (f t.1), rfl, w.get h1, .inl ⟨rfl, _, sql_of (w.lst _ h1)⟩, .int t.2, v4, f t.1, _, _, rfl, rfl, w.lst _ h1, by rw [List.length_map, sizeLine_eq]; omega, ?_⟩
  exact ⟨.ref d, v2, .int t.2, v4, d, .ref (f t.2), rfl, w1.get h2, .inl ⟨rfl, _, sql_of q2⟩, .int t.1, v3, f t.2, _, _, rfl, rfl, q2, by rw [List.length_map, sizeLine_eq]; omega, fin _ s2 w2⟩
section
variable {P : Program} {w : World} {K : PySem.W.Frag} {mg : Str → Option Value} {base : Heap}
end
abbrev sTied : Stmt := topS 9
structure FineW (ns : List Int) (ts : List Tie) : Prop where
  nd : ns.Nodup
  few : ns.length ≤ 200
  tie : ∀ t ∈ ts, t.1 ∈ ns ∧ t.2 ∈ ns ∧ t.1 < t.2
  tfew : ts.length ≤ 100000
def spTied : Sp := fun vs H Q _ => ∃ (p tl : Addr) (ns : List Int) (ts : List Tie) (qs : List Addr), vs = [.ref p, .ref tl] ∧ FineW ns ts ∧ H p = some (.lst (ns.map V.int)) ∧ H tl = some (.tup (qs.map V.ref)) ∧ Paired (TieL H) qs ts ∧
  ∀ d f H', Same H H' → NearL f H' d ns (nbr ts) → H d = none → (∀ n ∈ ns, H (f n) = none) → Q (.ref d) H'
theorem putK_names {ns : List Int} {f : Int → Addr} {z : Int} {l : Addr} (h : z ∉ ns) : putK (ns.map fun n => ((Sum.inl n : Key), V.ref (f n))) (Sum.inl z) (V.ref l) = (ns ++ [z]).map fun n => ((Sum.inl n : Key), V.ref (if n = z then l else f n)) := by
  rw [putK_new _ (by rw [valV_names (g := fun n => V.ref (f n)), if_neg h]), List.map_append]
  congr 1
  · exact List.map_congr_left fun n hn => by rw [if_neg (fun e => h (by rw [← e]; exact hn))]
  · simp
section
variable {P : Program} {w : World} {K : PySem.W.Frag} {mg : Str → Option Value} {base : Heap}
theorem scTied : FnScope ["places", "ties", "tied", "one", "other", "place"] ["places", "ties"] (defScope sTied) := ⟨rfl, rfl, rfl, by decide +kernel, rfl, by decide +kernel, by decide +kernel⟩
theorem ok_tied {f : Addr} {fd : FuncData} {k : Nat} (F : Fun K "tied_by" "tied_by" sTied f fd) : FnOk P w K mg base CX0 (k + 1) f fd ["places", "ties"] spTied := by
  refine F.ok scTied (fun vs H Q E h => ?_) (fun cdv A outer s H vs Q E hr h => ?_)
  · obtain ⟨p, tl, ns, ts, qs, rfl, _⟩ := h
    rfl
  · obtain ⟨p, tl, ns, ts, qs, rfl, own, e1, e3, e4, q⟩ := h
    have hu := hu_of hr
    refine ⟨_, pss_cons (ps_setDc (i := 2) (own := [("place", 5)]) (g := gName 5) (tt := tYes) rfl scTied.nd rfl rfl (sw_dc rfl rfl rfl (by decide +kernel)) (pi_list (pv 0))
        (blkOk_by (N := ["places", "ties", "tied", "one", "other", "place"]) (sc := defScope sTied) (by decide +kernel)) (fun _ _ _ _ _ => pg_name (i := 5) scTied.nd rfl (Or.inl rfl)) (fun _ _ _ _ _ => pts_nil)
        (fun _ _ _ _ _ => pv 5) (fun _ _ _ _ _ => pe_lst pa_nil))
      (pss_cons (ps_for PassesOwn.never rfl (pi_tup (pv 1)) (pg_tup rfl (pgs_cons (pg_name (i := 3) scTied.nd rfl (Or.inl rfl)) (pgs_cons (pg_name (i := 4) scTied.nd rfl (Or.inl rfl)) pgs_nil)))
        (pss_cons (ps_expr (pe_bm PySem.F.plainAttrs_list PySem.F.slot_list_append PySem.F.type_list_append mt_append (pe_dget hu (pv 2) (pv 3) (fun _ _ => rfl)) (pa_cons (pv 4) pa_nil)))
        (pss_one (ps_expr (pe_bm PySem.F.plainAttrs_list PySem.F.slot_list_append PySem.F.type_list_append mt_append (pe_dget hu (pv 2) (pv 4) (fun _ _ => rfl)) (pa_cons (pv 3) pa_nil))))))
      (pss_one (ps_ret (pv 2)))), ?_⟩
    have l40 := own.few
    have l1000 := own.tfew
    have hnd := own.nd
    refine rs_set ?_
    refine ⟨.ref p, rfl, p, rfl, ⟨_, sql_of e1⟩, fun D nD => dct_it (walk_list (xs := ns.map V.int)) (fun i H' => ∃ f, NearUp H D (ns.take i) f H' ∧ H' D = some (.dK ((ns.take i).map fun n => ((Sum.inl n : Key), V.ref (f n)))))
      ⟨fun _ => 0, ⟨same_upd nD, (fun _ z => nomatch z), (fun _ z => nomatch z)⟩, upd_same⟩ (fun i H' _ ⟨f, w, _⟩ => sql_of (w.1 _ _ e1)) ?_ ?_⟩
    · rintro i x H'' H' hi ⟨f, w, eD⟩ ⟨rfl, hx⟩
      obtain ⟨z, hz, rfl⟩ := map_get hx
      have hzt := nodup_take hnd hz
      refine ⟨rfl, r_yes ?_⟩
      refine ⟨.int z, rfl, Nat.zero_le _, fun l nl => ?_⟩
      have hl : l ≠ D := fun e => by rw [e, eD] at nl; cases nl
      have w1 := w.new hzt nl hl
      refine ⟨_, Sum.inl z, rfl, (same_upd nl) _ _ eD, small1000 (by rw [List.length_map, List.length_take]; omega), fun n => if n = z then l else f n, by rw [take_snoc hz]; exact w1.put nD, ?_⟩
      rw [upd_same, take_snoc hz, putK_names hzt]
    · rintro H1 ⟨f, w, eD⟩
      rw [List.length_map, List.take_length] at w eD
      have nl0 := w.done eD
      have s0 := w.1
      have hf0 : ∀ n ∈ ns, H (f n) = none := fun n hn => (w.2.1 n hn).2.1
      refine rs_tup tl (qs.map V.ref) (fun Q1 q1 => ⟨_, rfl, q1⟩) (fun i σ' H' => ∃ o3 o4, σ' = [some (.ref p), some (.ref tl), some (.ref D), o3, o4, none] ∧ Same H H' ∧ NearL f H' D ns (nbr (ts.take i)))
        ⟨_, _, rfl, s0, nl0⟩ (fun i σ' H' _ ⟨o3, o4, _, sx, _⟩ => sqt_of (sx _ _ e3)) ?_ ?_
      · rintro i x σ2 H2 hx ⟨o3, o4, rfl, sx, nl⟩
        obtain ⟨q', hq', rfl⟩ := map_get hx
        obtain ⟨t, ht, et⟩ := Hw.paired_get e4 hq'
        obtain ⟨m1, m2, m3⟩ := own.tie t (List.mem_of_getElem? ht)
        refine ⟨q', [.int t.1, .int t.2], rfl, sqt_of (sx _ _ et), rfl, _, [.int t.2], rfl, _, [], rfl, rfl, ?_⟩
        refine near_turn (t := t) (ts := ts.take i) rfl rfl rfl sx nl hf0 m1 m2 (Int.ne_of_lt m3) (by rw [List.length_take]; omega) (fun H3 s3 n3 => ⟨_, _, rfl, s3, by rw [take_snoc ht]; exact n3⟩)
      · rintro σ2 H2 ⟨o3, o4, rfl, sx, nl⟩
        rw [List.length_map, Paired.length e4, List.take_length] at nl
        exact ⟨.ref D, rfl, q D f H2 sx nl nD hf0⟩
end
abbrev Far := List (Int × Nat)
def lookF (far : Far) (n : Int) : Nat := ((far.find? fun p => decide (p.1 = n)).map (·.2)).getD 0
def encF (far : Far) : List (Key × V) := far.map fun p => ((Sum.inl p.1 : Key), V.int (p.2 : Int))
theorem valV_far (far : Far) (n : Int) : valV (encF far) (Sum.inl n) = if n ∈ far.map (·.1) then some (.int (lookF far n : Nat)) else none := by
  induction far with
  | nil => exact valV_nil
  | cons p far ih =>
    show valV (((Sum.inl p.1 : Key), V.int (p.2 : Int)) :: encF far) _ = _
    by_cases h : p.1 = n
    · rw [valV_pos (congrArg Sum.inl h), if_pos (by rw [← h]; exact List.mem_cons_self)]
      show some (V.int _) = some (V.int _)
      unfold lookF
      rw [List.find?_cons_of_pos (by exact decide_eq_true h)]
      rfl
    · rw [valV_neg (fun e => h (Sum.inl.inj e)), ih]
      have e : lookF (p :: far) n = lookF far n := by
        unfold lookF
        rw [List.find?_cons_of_neg (by simpa using h)]
      rw [e, List.map_cons]
      by_cases hm : n ∈ far.map (·.1)
      · rw [if_pos hm, if_pos (List.mem_cons_of_mem _ hm)]
      · rw [if_neg hm, if_neg (fun z => by rcases List.mem_cons.mp z with z | z; exact h z.symm; exact hm z)]
def stepO (one : Int) (s : Far × List Int) (o : Int) : Far × List Int := if o ∈ s.1.map (·.1) then s else (s.1 ++ [(o, lookF s.1 one + 1)], s.2 ++ [o])
def stepE (nb : Int → List Int) (s : Far × List Int) (one : Int) : Far × List Int := (nb one).foldl (stepO one) s
def lvl (nb : Int → List Int) (s : Far × List Int) : Far × List Int := s.2.foldl (stepE nb) (s.1, [])
def lev (nb : Int → List Int) (p : Int) : Nat → Far × List Int
  | 0 => ([(p, 0)], [p])
  | i + 1 => lvl nb (lev nb p i)
structure FarOk (ns : List Int) (n0 : Nat) (s : Far × List Int) : Prop where
  nd : (s.1.map (·.1)).Nodup
  sub : ∀ n ∈ s.1.map (·.1), n ∈ ns
  bey : ∀ n ∈ s.2, n ∈ s.1.map (·.1)
  len : s.1.length = n0 + s.2.length
theorem FarOk.few {ns : List Int} {n0 : Nat} {s : Far × List Int} (f : FarOk ns n0 s) : s.1.length ≤ ns.length := by
  have := sub_len f.nd f.sub
  rw [List.length_map] at this
  exact this
theorem FarOk.stepO {ns : List Int} {n0 : Nat} {s : Far × List Int} (f : FarOk ns n0 s) {one o : Int} (ho : o ∈ ns) : FarOk ns n0 (stepO one s o) ∧ ∀ n ∈ s.1.map (·.1), n ∈ (HI.stepO one s o).1.map (·.1) := by
  unfold HI.stepO
  by_cases h : o ∈ s.1.map (·.1)
  · rw [if_pos h]; exact ⟨f, fun _ z => z⟩
  · rw [if_neg h]
    refine ⟨⟨?_, ?_, ?_, ?_⟩, ?_⟩
    · show ((s.1 ++ [(o, lookF s.1 one + 1)]).map (·.1)).Nodup
      rw [List.map_append, List.nodup_append]
      exact ⟨f.nd, by simp, fun x hx y hy e => h (by rw [List.mem_singleton.mp hy] at e; rw [show x = o from e] at hx; exact hx)⟩
    · intro n hn
      have hn : n ∈ (s.1 ++ [(o, lookF s.1 one + 1)]).map (·.1) := hn
      rw [List.map_append] at hn
      rcases List.mem_append.mp hn with hn | hn
      · exact f.sub n hn
      · rw [List.mem_singleton.mp hn]; exact ho
    · intro n hn
      show n ∈ (s.1 ++ [(o, lookF s.1 one + 1)]).map (·.1)
      rw [List.map_append]
      rcases List.mem_append.mp hn with hn | hn
      · exact List.mem_append_left _ (f.bey n hn)
      · exact List.mem_append_right _ (by rw [List.mem_singleton.mp hn]; exact List.mem_cons_self)
    · show (s.1 ++ [_]).length = n0 + (s.2 ++ [_]).length
      rw [List.length_append, List.length_append, f.len]; rfl
    · intro n hn
      show n ∈ (s.1 ++ [(o, lookF s.1 one + 1)]).map (·.1)
      rw [List.map_append]
      exact List.mem_append_left _ hn
theorem FarOk.foldO {ns : List Int} {n0 : Nat} {one : Int} : ∀ {os : List Int} {s : Far × List Int}, FarOk ns n0 s → (∀ o ∈ os, o ∈ ns) → FarOk ns n0 (os.foldl (HI.stepO one) s) ∧ ∀ n ∈ s.1.map (·.1), n ∈ (os.foldl (HI.stepO one) s).1.map (·.1)
  | [], _, f, _ => ⟨f, fun _ z => z⟩
  | o :: os, s, f, h => by
    obtain ⟨f1, k1⟩ := f.stepO (one := one) (h o List.mem_cons_self)
    obtain ⟨f2, k2⟩ := FarOk.foldO (one := one) f1 fun o ho => h o (List.mem_cons_of_mem _ ho)
    exact ⟨f2, fun n hn => k2 n (k1 n hn)⟩
theorem FarOk.foldE {ns : List Int} {n0 : Nat} {nb : Int → List Int} (hnb : ∀ n ∈ ns, ∀ o ∈ nb n, o ∈ ns) : ∀ {es : List Int} {s : Far × List Int}, FarOk ns n0 s → (∀ o ∈ es, o ∈ ns) → FarOk ns n0 (es.foldl (stepE nb) s) ∧ ∀ n ∈ s.1.map (·.1), n ∈ (es.foldl (stepE nb) s).1.map (·.1)
  | [], _, f, _ => ⟨f, fun _ z => z⟩
  | o :: os, s, f, h => by
    obtain ⟨f1, k1⟩ := f.foldO (one := o) (hnb o (h o List.mem_cons_self))
    obtain ⟨f2, k2⟩ := FarOk.foldE hnb f1 fun o ho => h o (List.mem_cons_of_mem _ ho)
    exact ⟨f2, fun n hn => k2 n (k1 n hn)⟩
theorem FarOk.lvl {ns : List Int} {n0 : Nat} {nb : Int → List Int} (hnb : ∀ n ∈ ns, ∀ o ∈ nb n, o ∈ ns) {s : Far × List Int} (f : FarOk ns n0 s) : FarOk ns s.1.length (lvl nb s) :=
  (FarOk.foldE hnb (s := (s.1, [])) ⟨f.nd, f.sub, (fun _ z => nomatch z), rfl⟩ fun o ho => f.sub o (f.bey o ho)).1
theorem lev_ok {ns : List Int} {nb : Int → List Int} (hnb : ∀ n ∈ ns, ∀ o ∈ nb n, o ∈ ns) {p : Int} (hp : p ∈ ns) : ∀ i, ∃ n0, FarOk ns n0 (lev nb p i)
  | 0 => ⟨0, by simp [lev], by simp [lev, hp], by simp [lev], by simp [lev]⟩
  | i + 1 => by
    obtain ⟨n0, f⟩ := lev_ok hnb hp i
    exact ⟨_, f.lvl hnb⟩
def muF (ns : List Int) (s : Far × List Int) : Nat := 2 * (ns.length - s.1.length) + (if s.2 = [] then 0 else 1)
theorem mu_lvl {ns : List Int} {n0 : Nat} {nb : Int → List Int} (hnb : ∀ n ∈ ns, ∀ o ∈ nb n, o ∈ ns) {s : Far × List Int} (f : FarOk ns n0 s) (hs : s.2 ≠ []) : muF ns (lvl nb s) < muF ns s := by
  have f1 := f.lvl hnb
  have l1 := f1.len
  have l2 := f1.few
  have l3 := f.few
  unfold muF
  rw [if_neg hs]
  by_cases h : (HI.lvl nb s).2 = []
  · rw [if_pos h]
    rw [h] at l1
    have : (HI.lvl nb s).1.length = s.1.length := l1
    omega
  · rw [if_neg h]
    have : 0 < (HI.lvl nb s).2.length := List.length_pos_iff.mpr h
    omega
def Bfs (nb : Int → List Int) (p : Int) (far : Far) : Prop := ∃ i, lev nb p i = (far, [])
theorem lev_stay {nb : Int → List Int} {p : Int} {far : Far} {i : Nat} (h : lev nb p i = (far, [])) : ∀ k, lev nb p (i + k) = (far, [])
  | 0 => h
  | k + 1 => by
    show lvl nb (lev nb p (i + k)) = _
    rw [lev_stay h k]; rfl
theorem Bfs.uniq {nb : Int → List Int} {p : Int} {far far' : Far} (h : Bfs nb p far) (h' : Bfs nb p far') : far = far' := by
  obtain ⟨i, h⟩ := h
  obtain ⟨j, h'⟩ := h'
  have a := lev_stay h j
  have b := lev_stay h' i
  rw [Nat.add_comm] at b
  rw [a] at b
  exact congrArg Prod.fst b
structure BfsH (H0 : Hp) (fd el bl : Addr) (s : Far × List Int) (edge : List Int) (H : Hp) : Prop where
  same : Same H0 H
  far : H fd = some (.dK (encF s.1))
  edge : H el = some (.lst (edge.map V.int))
  bey : H bl = some (.lst (s.2.map V.int))
  f0 : H0 fd = none
  b0 : H0 bl = none
  ne : el ≠ bl
def oneB (K : PySem.W.Frag) : TS := tIfS (tB (tDNotIn (tVar 6) (tVar 2))) (tSeq (sDPut (tVar 2) (tVar 6) (tOp (rI0 fun i j => V.int (i + j)) (tDGet (tVar 2) (tVar 5)) (tC (V.int 1)))) (tDrop (tBM K "list" rAppend (tVar 4) (tCons (tVar 6) tNil)))) tNext
def lapB (K : PySem.W.Frag) (te : TE) : TS := tSeq (tAsg (tLst tNil) (gName 4)) (tSeq (tFor (iList K (tVar 3)) (gName 5) (tFor (iList K te) (gName 6) (oneB K))) (tAsg (tVar 4) (gName 3)))
theorem bfs_one {K : PySem.W.Frag} {D : Ends} {s0 s1 : Option V} {H0 H : Hp} {fd el bl : Addr} {s : Far × List Int} {edge ns : List Int} {n0 : Nat} {one o : Int} (h : BfsH H0 fd el bl s edge H) (f : FarOk ns n0 s) (hl : ns.length ≤ 1000) (h1 : one ∈ s.1.map (·.1)) (ho : o ∈ ns)
    (fin : ∀ H', BfsH H0 fd el bl (stepO one s o) edge H' → D.nx [s0, s1, some (.ref fd), some (.ref el), some (.ref bl), some (.int one), some (.int o)] H') : oneB K D [s0, s1, some (.ref fd), some (.ref el), some (.ref bl), some (.int one), some (.int o)] H := by
  have few := f.few
  have len := f.len
  refine ⟨.int o, rfl, .ref fd, rfl, fd, _, rfl, DGet.k (k := Sum.inl o) h.far, _, rfl, ?_⟩
  rw [valV_far]
  by_cases hm : o ∈ s.1.map (·.1)
  · rw [if_pos hm]
    have := fin H (by unfold stepO; rw [if_pos hm]; exact h)
    exact this
  · rw [if_neg hm]
    have g1 : DGet H fd (.int one) (some (.int (lookF s.1 one : Nat))) := by
      have := DGet.k (k := Sum.inl one) h.far
      rw [valV_far, if_pos h1] at this
      exact this
    refine ⟨.ref fd, rfl, .int one, rfl, fd, _, rfl, g1, _, _, rfl, rfl, .ref fd, rfl, .int o, rfl, fd, _, rfl, DPut.k (k := Sum.inl o) h.far (by unfold encF; rw [List.length_map]; exact small1000 (by omega)), ?_⟩
    have hn : valV (encF s.1) (Sum.inl o) = none := by rw [valV_far, if_neg hm]
    rw [putK_new _ hn]
    have nfb : bl ≠ fd := ne_of h.bey h.far (fun z => nomatch z)
    have nef : el ≠ fd := ne_of h.edge h.far (fun z => nomatch z)
    refine ⟨.ref bl, rfl, .inl ⟨rfl, _, sql_of (by rw [upd_ne nfb]; exact h.bey)⟩, .int o, rfl, bl, _, _, rfl, rfl, by rw [upd_ne nfb]; exact h.bey, small1000 (by rw [List.length_map]; omega), fin _ ?_⟩
    unfold stepO
    rw [if_neg hm]
    refine ⟨fun b u e => ?_, ?_, ?_, ?_, h.f0, h.b0, h.ne⟩
    · rw [upd_ne (ne_of_none e h.b0), upd_ne (ne_of_none e h.f0)]
      exact h.same _ _ e
    · rw [upd_ne (Ne.symm nfb), upd_same]
      show some (HO.dK (encF s.1 ++ [_])) = some (HO.dK (encF (s.1 ++ [_])))
      unfold encF
      rw [List.map_append]
      rfl
    · rw [upd_ne h.ne, upd_ne nef]; exact h.edge
    · rw [upd_same]
      show _ = some (HO.lst ((s.2 ++ [o]).map V.int))
      rw [List.map_append]; rfl
theorem foldl_snoc {α β : Type} {g : β → α → β} {xs : List α} {i : Nat} {x : α} {b : β} (h : xs[i]? = some x) : (xs.take (i + 1)).foldl g b = g ((xs.take i).foldl g b) x := by
  rw [take_snoc h, List.foldl_append]; rfl
theorem bfs_all {K : PySem.W.Frag} {D : Ends} {te : TE} {s0 s1 o6 : Option V} {H0 H : Hp} {fd el bl : Addr} {s : Far × List Int} {edge ns : List Int} {nb : Int → List Int} {n0 : Nat} {one : Int} {a : Addr} (h : BfsH H0 fd el bl s edge H) (f : FarOk ns n0 s) (hl : ns.length ≤ 1000) (h1 : one ∈ s.1.map (·.1)) (hnb : ∀ o ∈ nb one, o ∈ ns)
    (ha : H0 a = some (.lst ((nb one).map V.int))) (hte : ∀ Q : VK, Q (.ref a) H → te [s0, s1, some (.ref fd), some (.ref el), some (.ref bl), some (.int one), o6] H Q)
    (fin : ∀ H' o6', BfsH H0 fd el bl (stepE nb s one) edge H' → D.nx [s0, s1, some (.ref fd), some (.ref el), some (.ref bl), some (.int one), o6'] H') : tFor (iList K te) (gName 6) (oneB K) D [s0, s1, some (.ref fd), some (.ref el), some (.ref bl), some (.int one), o6] H := by
  refine hte _ ⟨a, rfl, ⟨_, sql_of (h.same _ _ ha)⟩, for_list (xs := (nb one).map V.int) (fun i σ' H' => ∃ o6', σ' = [s0, s1, some (.ref fd), some (.ref el), some (.ref bl), some (.int one), o6'] ∧ BfsH H0 fd el bl (((nb one).take i).foldl (stepO one) s) edge H') ⟨_, rfl, h⟩ (fun i σ' H' _ ⟨_, _, w⟩ => sql_of (w.same _ _ ha)) ?_ ?_⟩
  · rintro i x σ' H' hx ⟨o6', rfl, w⟩
    obtain ⟨o, ho, rfl⟩ := map_get hx
    obtain ⟨fi, ki⟩ := f.foldO (one := one) (os := (nb one).take i) fun o ho => hnb o (List.mem_of_mem_take ho)
    exact bfs_one w fi hl (ki _ h1) (hnb o (List.mem_of_getElem? ho)) fun H'' w' => ⟨_, rfl, by rw [foldl_snoc ho]; exact w'⟩
  · rintro σ' H' ⟨o6', rfl, w⟩
    rw [List.length_map, List.take_length] at w
    exact fin H' o6' w
theorem bfs_lap {K : PySem.W.Frag} {D : Ends} {te : TE} {s0 s1 o4 o5 o6 : Option V} {H0 H : Hp} {fd el : Addr} {s : Far × List Int} {ns : List Int} {nb : Int → List Int} {n0 : Nat} {fa : Int → Addr} (e1 : Same H0 H) (e2 : H fd = some (.dK (encF s.1))) (e3 : H el = some (.lst (s.2.map V.int))) (f0 : H0 fd = none) (f : FarOk ns n0 s) (hl : ns.length ≤ 1000) (hnb : ∀ n ∈ ns, ∀ o ∈ nb n, o ∈ ns)
    (ha : ∀ n ∈ ns, H0 (fa n) = some (.lst ((nb n).map V.int))) (hte : ∀ n ∈ ns, ∀ (bl : Addr) (o6 : Option V) (H' : Hp) (Q : VK), Same H0 H' → Q (.ref (fa n)) H' → te [s0, s1, some (.ref fd), some (.ref el), some (.ref bl), some (.int n), o6] H' Q)
    (fin : ∀ H' bl o5' o6', Same H0 H' → H' fd = some (.dK (encF (lvl nb s).1)) → H' bl = some (.lst ((lvl nb s).2.map V.int)) → D.nx [s0, s1, some (.ref fd), some (.ref bl), some (.ref bl), o5', o6'] H') : lapB K te D [s0, s1, some (.ref fd), some (.ref el), o4, o5, o6] H := by
  refine rs_set ⟨Nat.zero_le _, fun bl nbl => ?_⟩
  have nel : el ≠ bl := ne_of_none e3 nbl
  have w0 : BfsH H0 fd el bl (s.1, []) s.2 (upd H bl (.lst [])) := ⟨e1.trans (same_upd nbl), (same_upd nbl) _ _ e2, (same_upd nbl) _ _ e3, upd_same, f0, e1.free nbl, nel⟩
  have f1 : FarOk ns s.1.length (s.1, []) := ⟨f.nd, f.sub, (fun _ z => nomatch z), rfl⟩
  refine rs_list el (s.2.map V.int) (fun Q q => ⟨_, rfl, q⟩) (fun i σ' H' => ∃ o5' o6', σ' = [s0, s1, some (.ref fd), some (.ref el), some (.ref bl), o5', o6'] ∧ BfsH H0 fd el bl ((s.2.take i).foldl (stepE nb) (s.1, [])) s.2 H') ⟨_, _, rfl, w0⟩ (fun i σ' H' _ ⟨_, _, _, w⟩ => sql_of w.edge) ?_ ?_
  · rintro i x σ' H' hx ⟨o5', o6', rfl, w⟩
    obtain ⟨one, ho, rfl⟩ := map_get hx
    have h1 := f.bey one (List.mem_of_getElem? ho)
    have hin := f.sub one h1
    obtain ⟨fi, ki⟩ := f1.foldE hnb (es := s.2.take i) fun o ho => f.sub o (f.bey o (List.mem_of_mem_take ho))
    refine r_gname ?_
    exact bfs_all w fi hl (ki _ h1) (hnb one hin) (ha one hin) (fun Q q => hte one hin bl o6' H' Q w.same q) fun H'' o6'' w' => ⟨_, _, rfl, by rw [foldl_snoc ho]; exact w'⟩
  · rintro σ' H' ⟨o5', o6', rfl, w⟩
    rw [List.length_map, List.take_length] at w
    exact ⟨.ref bl, rfl, fin H' bl o5' o6' w.same w.far w.bey⟩
def spFars : Sp := fun vs H Q _ => ∃ (d : Addr) (p : Int) (f : Int → Addr) (ns : List Int) (ts : List Tie), vs = [.ref d, .int p] ∧ NearL f H d ns (nbr ts) ∧ p ∈ ns ∧ ns.length ≤ 1000 ∧ (∀ n ∈ ns, ∀ o ∈ nbr ts n, o ∈ ns) ∧
  ∀ far fd H', Bfs (nbr ts) p far → (∃ n0, FarOk ns n0 (far, [])) → Same H H' → H' fd = some (.dK (encF far)) → H fd = none → Q (.ref fd) H'
theorem rs_whileM {c : TT} {tb u : TS} {D : Ends} {σ : L2.St} {H : Hp} (Pv : Nat → L2.St → Hp → Prop) (m0 : Nat) (h0 : Pv m0 σ H)
    (hs : ∀ m σ H, Pv m σ H → ∃ b : Bool, (∀ Q : Bool → Hp → Prop, (∀ H', Same H H' → Q b H') → c σ H Q) ∧ (b = true → ∀ H', Same H H' → ∀ D' : Ends, (∀ σ'' H'', (∃ m', m' < m ∧ Pv m' σ'' H'') → D'.nx σ'' H'') → tb D' σ H') ∧ (b = false → ∀ H', Same H H' → u D σ H')) :
    tSeq (tWhile c tb) u D σ H := by
  refine ⟨Pv, ⟨m0, h0⟩, fun m σ H p => ?_⟩
  obtain ⟨b, hc, h1, h2⟩ := hs m σ H p
  refine hc _ fun H' s' => ?_
  cases b with
  | true => exact ⟨fun σ'' H'' => ∃ m', m' < m ∧ Pv m' σ'' H'', fun σ' H' ⟨m', l, p'⟩ => ⟨m', l, p'⟩, h1 rfl H' s' _ fun σ'' H'' z => z⟩
  | false => exact h2 rfl H' s'
def LevAt (H0 : Hp) (s0 s1 : Option V) (fd : Addr) (ns : List Int) (nb : Int → List Int) (p : Int) (m : Nat) (σ : L2.St) (H : Hp) : Prop := ∃ i el o4 o5 o6, σ = [s0, s1, some (.ref fd), some (.ref el), o4, o5, o6] ∧ Same H0 H ∧ H fd = some (.dK (encF (lev nb p i).1)) ∧ H el = some (.lst ((lev nb p i).2.map V.int)) ∧ m = muF ns (lev nb p i)
theorem bfs_way {K : PySem.W.Frag} {c : TT} {u : TS} {D : Ends} {te : TE} {s0 s1 o4 o5 o6 : Option V} {H0 H : Hp} {fd el : Addr} {p : Int} {ns : List Int} {nb : Int → List Int} {fa : Int → Addr} (e1 : Same H0 H) (e2 : H fd = some (.dK (encF [(p, 0)]))) (e3 : H el = some (.lst [.int p])) (f0 : H0 fd = none) (hp : p ∈ ns) (hl : ns.length ≤ 1000) (hnb : ∀ n ∈ ns, ∀ o ∈ nb n, o ∈ ns)
    (ha : ∀ n ∈ ns, H0 (fa n) = some (.lst ((nb n).map V.int))) (hte : ∀ n ∈ ns, ∀ (el bl : Addr) (o6 : Option V) (H' : Hp) (Q : VK), Same H0 H' → Q (.ref (fa n)) H' → te [s0, s1, some (.ref fd), some (.ref el), some (.ref bl), some (.int n), o6] H' Q)
    (hc : ∀ (el : Addr) (xs : List Int) (σ : L2.St) (H' : Hp) (Q : Bool → Hp → Prop), σ[3]? = some (some (.ref el)) → H' el = some (.lst (xs.map V.int)) → (∀ x ∈ xs, x ∈ ns) → (∀ H'', Same H' H'' → Q (!xs.isEmpty) H'') → c σ H' Q)
    (fin : ∀ far H' σ', σ'[2]? = some (some (.ref fd)) → Bfs nb p far → (∃ n0, FarOk ns n0 (far, [])) → Same H0 H' → H' fd = some (.dK (encF far)) → u D σ' H') : tSeq (tWhile c (lapB K te)) u D [s0, s1, some (.ref fd), some (.ref el), o4, o5, o6] H := by
  refine rs_whileM (LevAt H0 s0 s1 fd ns nb p) _ ⟨0, el, _, _, _, rfl, e1, e2, e3, rfl⟩ ?_
  rintro m σ H1 ⟨i, el1, o4', o5', o6', rfl, sx, efd, eel, rfl⟩
  obtain ⟨n0, f⟩ := lev_ok hnb hp i
  refine ⟨!(lev nb p i).2.isEmpty, fun Q q => hc el1 _ _ H1 Q rfl eel (fun x hx => f.sub x (f.bey x hx)) q, fun hb H2 s2 D' hD => ?_, fun hb H2 s2 => ?_⟩
  · have hne : (lev nb p i).2 ≠ [] := fun e => by rw [e] at hb; cases hb
    refine bfs_lap (fa := fa) (sx.trans s2) (s2 _ _ efd) (s2 _ _ eel) f0 f hl hnb ha (fun n hn bl o6'' H' Q s' q' => hte n hn el1 bl o6'' H' Q s' q') fun H' bl o5'' o6'' s' e' b' => hD _ _ ⟨_, mu_lvl hnb f hne, i + 1, bl, _, _, _, rfl, s', e', b', rfl⟩
  · have he : (lev nb p i).2 = [] := by
      cases h : (lev nb p i).2 with
      | nil => rfl
      | cons x xs => rw [h] at hb; cases hb
    have hb' : lev nb p i = ((lev nb p i).1, []) := Prod.ext rfl he
    exact fin _ _ _ rfl ⟨i, hb'⟩ ⟨n0, by rw [hb'] at f; exact f⟩ (sx.trans s2) (s2 _ _ efd)
theorem strs_dp {K : PySem.W.Frag} {H : Hp} : ∀ xs : List Int, DpAll K H (xs.map V.int) (xs.map PyData.int)
  | [] => .nil
  | x :: xs => .cons (.int x) (strs_dp xs)
section
variable {P : Program} {w : World} {K : PySem.W.Frag} {mg : Str → Option Value} {base : Heap}
end
abbrev sAlong : Stmt := topS 10
def FullF (ns : List Int) (s : Far × List Int) : Prop := ∀ n ∈ ns, n ∈ s.1.map (·.1)
theorem full_of {ns : List Int} {n0 : Nat} {s : Far × List Int} (f : FarOk ns n0 s) (e : s.1.length = ns.length) : FullF ns s := by
  intro n hn
  by_cases h : n ∈ s.1.map (·.1)
  · exact h
  · exfalso
    have := sub_len (l := n :: s.1.map (·.1)) (m := ns) (List.nodup_cons.mpr ⟨h, f.nd⟩) (fun z hz => by
      rcases List.mem_cons.mp hz with hz | hz
      · rw [hz]; exact hn
      · exact f.sub z hz)
    rw [List.length_cons, List.length_map] at this
    omega
theorem FullF.stepO {ns : List Int} {s : Far × List Int} (f : FullF ns s) {one o : Int} (ho : o ∈ ns) : HI.stepO one s o = s := by
  unfold HI.stepO
  rw [if_pos (f o ho)]
theorem FullF.foldO {ns : List Int} {one : Int} : ∀ {os : List Int} {s : Far × List Int}, FullF ns s → (∀ o ∈ os, o ∈ ns) → os.foldl (HI.stepO one) s = s
  | [], _, _, _ => rfl
  | o :: os, s, f, h => by
    rw [List.foldl_cons, f.stepO (h o List.mem_cons_self)]
    exact FullF.foldO f fun o ho => h o (List.mem_cons_of_mem _ ho)
theorem FullF.foldE {ns : List Int} {nb : Int → List Int} (hnb : ∀ n ∈ ns, ∀ o ∈ nb n, o ∈ ns) : ∀ {es : List Int} {s : Far × List Int}, FullF ns s → (∀ o ∈ es, o ∈ ns) → es.foldl (stepE nb) s = s
  | [], _, _, _ => rfl
  | o :: os, s, f, h => by
    rw [List.foldl_cons, show stepE nb s o = s from f.foldO (hnb o (h o List.mem_cons_self))]
    exact FullF.foldE hnb f fun o ho => h o (List.mem_cons_of_mem _ ho)
theorem full_bfs {ns : List Int} {nb : Int → List Int} (hnb : ∀ n ∈ ns, ∀ o ∈ nb n, o ∈ ns) {p : Int} (hp : p ∈ ns) {k i : Nat} {s : Far × List Int} (e : s = ((lev nb p k).2.take i).foldl (stepE nb) ((lev nb p k).1, [])) (f : FullF ns s) : Bfs nb p s.1 ∧ ∃ n0, FarOk ns n0 (s.1, []) := by
  obtain ⟨n0, f0⟩ := lev_ok hnb hp k
  have h1 : lev nb p (k + 1) = s := by
    show (lev nb p k).2.foldl (stepE nb) ((lev nb p k).1, []) = s
    rw [← List.take_append_drop i (lev nb p k).2, List.foldl_append, ← e]
    exact f.foldE hnb fun o ho => f0.sub o (f0.bey o (List.mem_of_mem_drop ho))
  obtain ⟨n1, f1⟩ := lev_ok hnb hp (k + 1)
  have h2 : lev nb p (k + 1 + 1) = (s.1, []) := by
    show lvl nb (lev nb p (k + 1)) = _
    rw [h1]
    rw [h1] at f1
    have ff : FullF ns (s.1, []) := f
    exact ff.foldE hnb fun o ho => f1.sub o (f1.bey o ho)
  obtain ⟨n2, f2⟩ := lev_ok hnb hp (k + 1 + 1)
  rw [h2] at f2
  exact ⟨⟨_, h2⟩, n2, f2⟩
theorem rs_whileR {c : TT} {tb u : TS} {D : Ends} {σ : L2.St} {H : Hp} (Pv : Nat → L2.St → Hp → Prop) (m0 : Nat) (h0 : Pv m0 σ H)
    (hs : ∀ m σ H, Pv m σ H → ∃ b : Bool, (∀ Q : Bool → Hp → Prop, (∀ H', Same H H' → Q b H') → c σ H Q) ∧ (b = true → ∀ H', Same H H' → ∀ D' : Ends, D'.rt = D.rt → (∀ σ'' H'', (∃ m', m' < m ∧ Pv m' σ'' H'') → D'.nx σ'' H'') → tb D' σ H') ∧ (b = false → ∀ H', Same H H' → u D σ H')) :
    tSeq (tWhile c tb) u D σ H := by
  refine ⟨Pv, ⟨m0, h0⟩, fun m σ H p => ?_⟩
  obtain ⟨b, hc, h1, h2⟩ := hs m σ H p
  refine hc _ fun H' s' => ?_
  cases b with
  | true => exact ⟨fun σ'' H'' => ∃ m', m' < m ∧ Pv m' σ'' H'', fun σ' H' ⟨m', l, p'⟩ => ⟨m', l, p'⟩, h1 rfl H' s' _ rfl fun σ'' H'' z => z⟩
  | false => exact h2 rfl H' s'
def lapC (K : PySem.W.Frag) (tc : TT) (te : TE) : TS := tSeq (tAsg (tLst tNil) (gName 4)) (tSeq (tFor (iList K (tVar 3)) (gName 5) (tSeq (tIfS tc (tRet (tVar 2)) tNext) (tFor (iList K te) (gName 6) (oneB K)))) (tAsg (tVar 4) (gName 3)))
theorem along_lap {K : PySem.W.Frag} {D : Ends} {tc : TT} {te : TE} {s0 s1 o4 o5 o6 : Option V} {H0 H : Hp} {fd el : Addr} {p : Int} {k : Nat} {ns : List Int} {nb : Int → List Int} {n0 : Nat} {fa : Int → Addr} (e1 : Same H0 H) (e2 : H fd = some (.dK (encF (lev nb p k).1))) (e3 : H el = some (.lst ((lev nb p k).2.map V.int))) (f0 : H0 fd = none) (f : FarOk ns n0 (lev nb p k)) (hp : p ∈ ns) (hl : ns.length ≤ 1000) (hnb : ∀ n ∈ ns, ∀ o ∈ nb n, o ∈ ns)
    (ha : ∀ n ∈ ns, H0 (fa n) = some (.lst ((nb n).map V.int))) (hte : ∀ n ∈ ns, ∀ (bl : Addr) (o6 : Option V) (H' : Hp) (Q : VK), Same H0 H' → Q (.ref (fa n)) H' → te [s0, s1, some (.ref fd), some (.ref el), some (.ref bl), some (.int n), o6] H' Q)
    (htc : ∀ (far : Far) (o3 o4 o5 o6 : Option V) (H' : Hp) (Q : Bool → Hp → Prop), Same H0 H' → H' fd = some (.dK (encF far)) → Q (decide (far.length = ns.length)) H' → tc [s0, s1, some (.ref fd), o3, o4, o5, o6] H' Q)
    (ret : ∀ far H', Bfs nb p far → (∃ n0, FarOk ns n0 (far, [])) → Same H0 H' → H' fd = some (.dK (encF far)) → D.rt (.ref fd) H')
    (fin : ∀ H' bl o5' o6', Same H0 H' → H' fd = some (.dK (encF (lev nb p (k + 1)).1)) → H' bl = some (.lst ((lev nb p (k + 1)).2.map V.int)) → D.nx [s0, s1, some (.ref fd), some (.ref bl), some (.ref bl), o5', o6'] H') : lapC K tc te D [s0, s1, some (.ref fd), some (.ref el), o4, o5, o6] H := by
  refine rs_set ⟨Nat.zero_le _, fun bl nbl => ?_⟩
  have nel : el ≠ bl := ne_of_none e3 nbl
  have w0 : BfsH H0 fd el bl ((lev nb p k).1, []) (lev nb p k).2 (upd H bl (.lst [])) := ⟨e1.trans (same_upd nbl), (same_upd nbl) _ _ e2, (same_upd nbl) _ _ e3, upd_same, f0, e1.free nbl, nel⟩
  have f1 : FarOk ns (lev nb p k).1.length ((lev nb p k).1, []) := ⟨f.nd, f.sub, (fun _ z => nomatch z), rfl⟩
  refine rs_list el ((lev nb p k).2.map V.int) (fun Q q => ⟨_, rfl, q⟩) (fun i σ' H' => ∃ o5' o6', σ' = [s0, s1, some (.ref fd), some (.ref el), some (.ref bl), o5', o6'] ∧ BfsH H0 fd el bl (((lev nb p k).2.take i).foldl (stepE nb) ((lev nb p k).1, [])) (lev nb p k).2 H') ⟨_, _, rfl, w0⟩ (fun i σ' H' _ ⟨_, _, _, w⟩ => sql_of w.edge) ?_ ?_
  · rintro i x σ' H' hx ⟨o5', o6', rfl, w⟩
    obtain ⟨one, ho, rfl⟩ := map_get hx
    have h1 := f.bey one (List.mem_of_getElem? ho)
    have hin := f.sub one h1
    obtain ⟨fi, ki⟩ := f1.foldE hnb (es := (lev nb p k).2.take i) fun o ho => f.sub o (f.bey o (List.mem_of_mem_take ho))
    refine r_gname ?_
    refine htc _ _ _ _ _ H' _ w.same w.far ?_
    show if decide _ = true then _ else _
    by_cases hf : (((lev nb p k).2.take i).foldl (stepE nb) ((lev nb p k).1, [])).1.length = ns.length
    · rw [if_pos (decide_eq_true hf)]
      obtain ⟨b, n2, g⟩ := full_bfs hnb hp rfl (full_of fi hf)
      exact ⟨.ref fd, rfl, ret _ H' b ⟨n2, g⟩ w.same w.far⟩
    · rw [if_neg (by simpa using hf)]
      exact bfs_all w fi hl (ki _ h1) (hnb one hin) (ha one hin) (fun Q q => hte one hin bl o6' H' Q w.same q) fun H'' o6'' w' => ⟨_, _, rfl, by rw [foldl_snoc ho]; exact w'⟩
  · rintro σ' H' ⟨o5', o6', rfl, w⟩
    rw [List.length_map, List.take_length] at w
    exact ⟨.ref bl, rfl, fin H' bl o5' o6' w.same w.far w.bey⟩
theorem along_way {K : PySem.W.Frag} {c : TT} {u : TS} {D : Ends} {tc : TT} {te : TE} {s0 s1 o4 o5 o6 : Option V} {H0 H : Hp} {fd el : Addr} {p : Int} {ns : List Int} {nb : Int → List Int} {fa : Int → Addr} (e1 : Same H0 H) (e2 : H fd = some (.dK (encF [(p, 0)]))) (e3 : H el = some (.lst [.int p])) (f0 : H0 fd = none) (hp : p ∈ ns) (hl : ns.length ≤ 1000) (hnb : ∀ n ∈ ns, ∀ o ∈ nb n, o ∈ ns)
    (ha : ∀ n ∈ ns, H0 (fa n) = some (.lst ((nb n).map V.int))) (hte : ∀ n ∈ ns, ∀ (el bl : Addr) (o6 : Option V) (H' : Hp) (Q : VK), Same H0 H' → Q (.ref (fa n)) H' → te [s0, s1, some (.ref fd), some (.ref el), some (.ref bl), some (.int n), o6] H' Q)
    (htc : ∀ (far : Far) (o3 o4 o5 o6 : Option V) (H' : Hp) (Q : Bool → Hp → Prop), Same H0 H' → H' fd = some (.dK (encF far)) → Q (decide (far.length = ns.length)) H' → tc [s0, s1, some (.ref fd), o3, o4, o5, o6] H' Q)
    (hc : ∀ (el : Addr) (xs : List Int) (σ : L2.St) (H' : Hp) (Q : Bool → Hp → Prop), σ[3]? = some (some (.ref el)) → H' el = some (.lst (xs.map V.int)) → (∀ x ∈ xs, x ∈ ns) → (∀ H'', Same H' H'' → Q (!xs.isEmpty) H'') → c σ H' Q)
    (ret : ∀ far H', Bfs nb p far → (∃ n0, FarOk ns n0 (far, [])) → Same H0 H' → H' fd = some (.dK (encF far)) → D.rt (.ref fd) H')
    (fin : ∀ far H' σ', σ'[2]? = some (some (.ref fd)) → Bfs nb p far → (∃ n0, FarOk ns n0 (far, [])) → Same H0 H' → H' fd = some (.dK (encF far)) → u D σ' H') : tSeq (tWhile c (lapC K tc te)) u D [s0, s1, some (.ref fd), some (.ref el), o4, o5, o6] H := by
  refine rs_whileR (LevAt H0 s0 s1 fd ns nb p) _ ⟨0, el, _, _, _, rfl, e1, e2, e3, rfl⟩ ?_
  rintro m σ H1 ⟨i, el1, o4', o5', o6', rfl, sx, efd, eel, rfl⟩
  obtain ⟨n0, f⟩ := lev_ok hnb hp i
  refine ⟨!(lev nb p i).2.isEmpty, fun Q q => hc el1 _ _ H1 Q rfl eel (fun x hx => f.sub x (f.bey x hx)) q, fun hb H2 s2 D' hr hD => ?_, fun hb H2 s2 => ?_⟩
  · have hne : (lev nb p i).2 ≠ [] := fun e => by rw [e] at hb; cases hb
    refine along_lap (fa := fa) (sx.trans s2) (s2 _ _ efd) (s2 _ _ eel) f0 f hp hl hnb ha (fun n hn bl o6'' H' Q s' q' => hte n hn el1 bl o6'' H' Q s' q') htc (fun far H' b g s' e' => by rw [hr]; exact ret far H' b g s' e') fun H' bl o5'' o6'' s' e' b' => hD _ _ ⟨_, mu_lvl hnb f hne, i + 1, bl, _, _, _, rfl, s', e', b', rfl⟩
  · have he : (lev nb p i).2 = [] := by
      cases h : (lev nb p i).2 with
      | nil => rfl
      | cons x xs => rw [h] at hb; cases hb
    have hb' : lev nb p i = ((lev nb p i).1, []) := Prod.ext rfl he
    exact fin _ _ _ rfl ⟨i, hb'⟩ ⟨n0, by rw [hb'] at f; exact f⟩ (sx.trans s2) (s2 _ _ efd)
section
variable {P : Program} {w : World} {K : PySem.W.Frag} {mg : Str → Option Value} {base : Heap}
theorem scAlong : FnScope ["tied", "place", "far", "edge", "beyond", "one", "other"] ["tied", "place"] (defScope sAlong) := ⟨rfl, rfl, rfl, by decide +kernel, rfl, by decide +kernel, by decide +kernel⟩
theorem ok_along {f : Addr} {fd : FuncData} {k : Nat} (F : Fun K "far_along" "far_along" sAlong f fd) (B : Blt mg) : FnOk P w K mg base CX0 (k + 1) f fd ["tied", "place"] spFars := by
  refine F.ok scAlong (fun vs H Q E h => ?_) (fun cdv A outer s H vs Q E hr h => ?_)
  · obtain ⟨d, p, f, ns, ts, rfl, _⟩ := h
    rfl
  · obtain ⟨d, p, f, ns, ts, rfl, nl, hp, hl, hnb, q⟩ := h
    have hu := hu_of hr
    have hu64 := hr.units
    refine ⟨_, pss_cons (ps_set (i := 2) scAlong.nd rfl (.inl rfl) (pe_disp (pps_cons (pv 1) pe_int pps_nil) (by rfl) (by rfl) (fun z => by cases z) (by decide)))
      (pss_cons (ps_set (i := 3) scAlong.nd rfl (.inl rfl) (pe_lst (pa_cons (pv 1) pa_nil)))
      (pss_cons (ps_while PassesOwn.never (pt_truth (pv 3) (by intro _; rfl))
        (pss_cons (ps_set (i := 4) scAlong.nd rfl (.inl rfl) (pe_lst pa_nil))
        (pss_cons (ps_for PassesOwn.never rfl (pi_list (pv 3)) (pg_name (i := 5) scAlong.nd rfl (.inl rfl))
          (pss_cons (ps_if (pt_cmpR op_eq (pe_callB call_lenD (by rfl) B.len PySem.boot_len (pa_cons (pv 2) pa_nil)) (pe_callB call_lenD (by rfl) B.len PySem.boot_len (pa_cons (pv 0) pa_nil)) (nomark _)) (pss_one (ps_ret (pv 2))) pss_nil)
          (pss_one (ps_for PassesOwn.never rfl (pi_list (pe_dget hu (pv 0) (pv 5) (fun _ _ => rfl))) (pg_name (i := 6) scAlong.nd rfl (.inl rfl))
            (pss_one (ps_if (pt_cmp (pc_dnotin hu (pv 6) (pv 2)))
              (pss_cons (ps_dput hu (pv 2) (pv 6) (pe_op op_add (pe_dget hu (pv 2) (pv 5) (fun _ _ => rfl)) pe_int) rfl)
              (pss_one (ps_expr (pe_bm PySem.F.plainAttrs_list PySem.F.slot_list_append PySem.F.type_list_append mt_append (pv 4) (pa_cons (pv 6) pa_nil))))) pss_nil))))))
        (pss_one (ps_set (i := 3) scAlong.nd rfl (.inl rfl) (pv 4))))))
      (pss_one (ps_ret (pv 2))))), ?_⟩
    refine rs_set ?_
    intro fd' nfd
    refine ⟨.int p, rfl, upd_same, [(Sum.inl p, .int 0)], rfl, by show 1 ≤ 15; decide, ?_⟩
    have sf : Same H (upd (upd H fd' (.dK [])) fd' (.dK (mergeK [] [((Sum.inl p : Key), V.int 0)]))) := fun b o e => by
      have hb := ne_of_none e nfd
      rw [upd_ne hb, upd_ne hb]; exact e
    have ef : (upd (upd H fd' (.dK [])) fd' (.dK (mergeK [] [((Sum.inl p : Key), V.int 0)]))) fd' = some (.dK (encF [(p, 0)])) := upd_same
    generalize (upd (upd H fd' (.dK [])) fd' (.dK (mergeK [] [((Sum.inl p : Key), V.int 0)]))) = H1 at sf ef ⊢
    refine rs_set ?_
    refine ⟨.int p, rfl, by show 1 ≤ sizeLine; decide, fun el nel => ?_⟩
    refine along_way (fa := f) (sf.trans (same_upd nel)) ((same_upd nel) _ _ ef) upd_same nfd hp hl hnb nl.lst (fun n hn el' bl o6 H' Q s' q' => ⟨.ref d, rfl, .int n, rfl, d, .ref (f n), rfl, (nl.keep s').get hn, q'⟩) (fun far o3 o4 o5 o6 H' Q s' e q' => ?_) (fun el' xs σ' H' Q hσ e hx q' => ?_) (fun far H' b hf s' e => q far fd' H' b hf s' e nfd) (fun far H' σ' hσ b hf s' e => ⟨.ref fd', hσ, q far fd' H' b hf s' e nfd⟩)
    · refine ⟨.ref fd', rfl, fd', _, rfl, e, .ref d, rfl, d, _, rfl, s' _ _ nl.dict, ?_⟩
      have eb : decide (V.int ((encF far).length : Nat) = V.int ((ns.map fun n => ((Sum.inl n : Key), V.ref (f n))).length : Nat)) = decide (far.length = ns.length) := by
        rw [List.length_map]
        unfold encF
        rw [List.length_map]
        rw [decide_eq_decide]
        constructor
        · intro e
          injection e with e
          omega
        · intro e
          rw [e]
      exact ⟨rfl, _, rfl, by rw [← eb] at q'; exact q'⟩
    · refine ⟨.ref el', hσ, _, .inl ⟨_, sql_of e, rfl⟩, ?_⟩
      have eb : (xs.map V.int).isEmpty = xs.isEmpty := by cases xs <;> rfl
      rw [eb]
      exact q' _ (Same.refl _)
end
end HI

set_option Elab.async false
set_option linter.all false
set_option maxRecDepth 100000
set_option maxHeartbeats 4000000
namespace Hw
open PySem L2 PyProof.Rows
section
variable {P : Program} {w : World} {K : PySem.W.Frag} {mg : Str → Option Value} {base : Heap}
theorem rs_no {t : TT} {A u : TS} {D : Ends} {σ : L2.St} {H : Hp} (h : t σ H fun b H1 => if b = true then A { D with nx := u D } σ H1 else u D σ H1) : tSeq (tIfS t A tNext) u D σ H := h
theorem rs_listR {K : PySem.W.Frag} {te : TE} {g : TG} {tb u : TS} {D : Ends} {σ : L2.St} {H : Hp} (P0 : Addr → List V → Hp → Prop) (Pv : Addr → List V → Hp → Nat → L2.St → Hp → Prop) (hw : ∀ Q : VK, (∀ l xs H1, P0 l xs H1 → Q (.ref l) H1) → te σ H Q) (h0 : ∀ l xs H1, P0 l xs H1 → Pv l xs H1 0 σ H1)
    (hl : ∀ l xs H1 i σ H, Pv l xs H1 i σ H → SqL K H l xs) (hs : ∀ l xs H1 i x σ H, P0 l xs H1 → xs[i]? = some x → Pv l xs H1 i σ H → g x σ H fun σ2 H2 => tb { D with nx := Pv l xs H1 (i + 1), ct := Pv l xs H1 (i + 1), bk := u D } σ2 H2)
    (hd : ∀ l xs H1 σ H, P0 l xs H1 → Pv l xs H1 xs.length σ H → u D σ H) : tSeq (tFor (iList K te) g tb) u D σ H :=
  hw _ fun l xs H1 p => ⟨l, rfl, ⟨_, hl _ _ _ _ _ _ (h0 l xs H1 p)⟩, for_list (D := { D with nx := u D }) (xs := xs) (Pv l xs H1) (h0 l xs H1 p) (fun i σ H _ q => hl _ _ _ _ _ _ q) (fun i x σ H hx q => hs l xs H1 i x σ H p hx q) (fun σ H q => hd l xs H1 σ H p q)⟩
theorem rs_t {te : TE} {g : TG} {u : TS} {D : Ends} {σ : L2.St} {H : Hp} (h : te σ H fun x H1 => g x σ H1 (u D)) : tSeq (tAsg te g) u D σ H := h
theorem g2_of {K : PySem.W.Frag} {σ : L2.St} {H : Hp} {i j : Nat} {p : Addr} {x y : V} {R : L2.St → Hp → Prop} (e : SqT K H p [x, y]) (h : R ((σ.set i (some x)).set j (some y)) H) : gTup K 2 (gCons (gName i) (gCons (gName j) gNil)) (.ref p) σ H R :=
  ⟨p, [x, y], rfl, e, rfl, _, [y], rfl, _, [], rfl, rfl, h⟩
end
end Hw

set_option Elab.async false
set_option linter.all false
set_option maxRecDepth 100000
set_option maxHeartbeats 4000000
namespace HI
open PySem L2 PyProof.Rows Hw
/-- the one to whom a place is tied in the low tree: its room's number i -/
def par (d i : Nat) : Nat := if i < d then 0 else (i - d) / (d - 1) + 1
def tiesL (d n : Nat) : List Tie := (List.range (n - 1)).map fun i => (((par d i : Nat) : Int), ((i + 1 : Nat) : Int))
def ltPr (a b : Nat × Int) : Bool := decide (a.1 < b.1) || (decide (a.1 = b.1) && decide (a.2 < b.2))
def maxPr (x : Nat × Int) (xs : List (Nat × Int)) : Nat × Int := xs.foldl (fun a y => if ltPr a y then y else a) x
def lastR (ts : List Tie) (n : Nat) (p : Int) : Nat × Int := match ((lev (nbr ts) p n).1.map fun q => (q.2, q.1)) with
  | [] => (0, 0)
  | x :: xs => maxPr x xs
def endOk (ts : List Tie) (n : Nat) (p : Int) : Bool := (lev (nbr ts) p n).2.isEmpty
def leastV (d n : Nat) : Nat := (lastR (tiesL d n) n (lastR (tiesL d n) n 0).2).1
def chk (d n : Nat) : Bool := endOk (tiesL d n) n 0 && endOk (tiesL d n) n (lastR (tiesL d n) n 0).2 && decide ((lastR (tiesL d n) n 0).2 ∈ (List.range n).map fun i => ((i : Nat) : Int))
end HI

set_option Elab.async false
set_option linter.all false
set_option maxRecDepth 100000
set_option maxHeartbeats 4000000
namespace HI
open PySem L2 PyProof.Rows Hw
abbrev sWithin : Stmt := topS 1
abbrev sPair : Stmt := topS 2
abbrev sLayers : Stmt := topS 23
abbrev sTreeRoom : Stmt := topS 22
abbrev sWebFloor : Stmt := topS 24
abbrev sLFloor : Stmt := topS 30
abbrev sLRoom : Stmt := topS 31
def layS : Nat → Int → Int
  | 0, _ => 0
  | n + 1, m => layS n m + (m - 1) ^ n
def roomV (f : Nat) (m : Int) : Int := if f % 2 = 0 then 1 + m * layS (f / 2) m else 2 * layS (f / 2 + 1) m
theorem pow_nn {m : Int} (h : 1 ≤ m) (n : Nat) : 0 ≤ (m - 1) ^ n := Int.pow_nonneg (by omega)
theorem lay_nn {m : Int} (h : 1 ≤ m) : ∀ n, 0 ≤ layS n m
  | 0 => Int.le_refl _
  | n + 1 => by
    have a := lay_nn h n
    have b := pow_nn h n
    show 0 ≤ layS n m + (m - 1) ^ n
    omega
theorem lay_one {m : Int} (h : 1 ≤ m) : ∀ n, 0 < n → 1 ≤ layS n m
  | 0, z => absurd z (by omega)
  | 1, _ => by
    show 1 ≤ 0 + (m - 1) ^ 0
    rw [Int.pow_zero]; decide
  | n + 2, _ => by
    have a := lay_one h (n + 1) (by omega)
    have b := pow_nn h (n + 1)
    show 1 ≤ layS (n + 1) m + (m - 1) ^ (n + 1)
    omega
theorem pow_one {m : Int} (h : 2 ≤ m) (n : Nat) : 1 ≤ (m - 1) ^ n := by
  induction n with
  | zero => rw [Int.pow_zero]; decide
  | succ n ih =>
    rw [Int.pow_succ]
    have h1 : (1 : Int) ≤ m - 1 := by omega
    have : (1 : Int) * 1 ≤ (m - 1) ^ n * (m - 1) := Int.mul_le_mul ih h1 (by decide) (by omega)
    omega
theorem lay_ge {m : Int} (h : 2 ≤ m) : ∀ n : Nat, (n : Int) ≤ layS n m
  | 0 => Int.le_refl _
  | n + 1 => by
    have a := lay_ge h n
    have b := pow_one h n
    show ((n + 1 : Nat) : Int) ≤ layS n m + (m - 1) ^ n
    omega
theorem lay_mul (m : Int) (r : Nat) : 1 + m * layS (r + 1) m = 1 + m * layS r m + m * (m - 1) ^ r := by
  show 1 + m * (layS r m + (m - 1) ^ r) = _
  rw [Int.mul_add]; omega
def IsFloor (many most : Int) (r : Nat) : Prop := (∀ i : Nat, i < r → 1 + most * layS i most < many) ∧ ¬ (1 + most * layS r most < many)
theorem IsFloor.uniq {many most : Int} {r r' : Nat} (h : IsFloor many most r) (h' : IsFloor many most r') : r = r' := by
  rcases Nat.lt_trichotomy r r' with a | a | a
  · exact absurd (h'.1 r a) h.2
  · exact a
  · exact absurd (h.1 r' a) h'.2
theorem floor_lt {many most : Int} (h1 : 1 ≤ many) (h2 : 1 ≤ most) (h3 : most = 1 → many ≤ 2) {r : Nat} (h : 1 + most * layS r most < many) : (r : Int) < many := by
  by_cases hm : most = 1
  · by_cases hr : r = 0
    · subst hr; omega
    · have := lay_one h2 r (by omega)
      have := h3 hm
      subst hm
      rw [Int.one_mul] at h
      omega
  · have g := lay_ge (m := most) (by omega) r
    have nn := lay_nn h2 r
    have : 1 * layS r most ≤ most * layS r most := Int.mul_le_mul_of_nonneg_right h2 nn
    omega
def spWithin : Sp := fun vs H Q _ => ∃ v a b : Int, vs = [.int v, .int a, .int b] ∧ Q (.bl (decide (a ≤ v ∧ v ≤ b))) H
def spPairI : Sp := fun vs H Q _ => ∃ a b : Int, vs = [.int a, .int b] ∧ a < b ∧ ∀ p, H p = none → Q (.ref p) (upd H p (.tup [.int a, .int b]))
def spLayers : Sp := fun vs H Q _ => ∃ (n : Nat) (m : Int), vs = [.int n, .int m] ∧ n ≤ 1000 ∧ 1 ≤ m ∧ m ≤ 200 ∧ Q (.int (layS n m)) H
def spTreeRoom : Sp := fun vs H Q _ => ∃ (f : Nat) (m : Int), vs = [.int f, .int m] ∧ f ≤ 40 ∧ 1 ≤ m ∧ m ≤ 200 ∧ Q (.int (roomV f m)) H
def spLRoom : Sp := fun vs H Q _ => ∃ (f : Nat) (m : Int), vs = [.int f, .int m] ∧ f ≤ 1000 ∧ 1 ≤ m ∧ m ≤ 200 ∧ ∀ H', Same H H' → Q (.int (roomV f m)) H'
def spFloor : Sp := fun vs H Q _ => ∃ many most : Int, vs = [.int many, .int most] ∧ 1 ≤ many ∧ many ≤ 1000000 ∧ 1 ≤ most ∧ most ≤ 200 ∧ (most = 1 → many ≤ 2) ∧ ∀ (r : Nat) H', IsFloor many most r → Same H H' → Q (.int r) H'
section
variable {P : Program} {w : World} {K : PySem.W.Frag} {mg : Str → Option Value} {base : Heap}
theorem scWithin : FnScope ["value", "least", "most"] ["value", "least", "most"] (defScope sWithin) := ⟨rfl, rfl, rfl, by decide +kernel, rfl, by decide +kernel, by decide +kernel⟩
theorem ok_within {f : Addr} {fd : FuncData} {k : Nat} (F : Fun K "is_within" "is_within" sWithin f fd) (B : Blt mg) (bi : mg "isinstance" = none) (bb : mg "bool" = none) : FnOk P w K mg base CX0 (k + 1) f fd ["value", "least", "most"] spWithin := by
  refine F.ok scWithin (fun vs H Q E h => ?_) (fun cdv A outer s H vs Q E hr h => ?_)
  · obtain ⟨v, a, b, rfl, _⟩ := h
    rfl
  · obtain ⟨v, a, b, rfl, q⟩ := h
    refine ⟨_, pss_cons (ps_if (PW.pt (pw_or (pt_not (pt_val (pe_callB call_isi (by rfl) bi PyProof.Rows.boot_isinstance (pa_cons (pv 0) (pa_cons (pe_bltn (v := .ty "int") (by rfl) B.int (by decide +kernel) rfl) pa_nil)))))
        (pw_or1 (pt_val (pe_callB call_isi (by rfl) bi PyProof.Rows.boot_isinstance (pa_cons (pv 0) (pa_cons (pe_bltn (v := .ty "bool") (by rfl) bb (by decide +kernel) rfl) pa_nil))))))) (pss_one (ps_ret pe_bl)) pss_nil)
      (pss_one (ps_ret (pe_chain op_le op_le (pv 1) (pv 0) (pv 2)))), ?_⟩
    refine rs_no ?_
    refine ⟨.int v, rfl, .int v, .ty "int", .type "int", .type "int", true, rfl, .ty _, .base (.int v), kit_ty (by decide +kernel), true, rfl, ?_⟩
    refine ⟨.int v, rfl, .int v, .ty "bool", .type "int", .type "bool", false, rfl, .ty _, .base (.int v), kit_ty (by decide +kernel), false, rfl, ?_⟩
    refine ⟨.int a, rfl, .int v, rfl, a, v, rfl, rfl, decide (a ≤ v), rfl, ?_⟩
    by_cases h1 : a ≤ v
    · rw [decide_eq_true h1]
      refine ⟨.int b, rfl, v, b, rfl, rfl, ?_⟩
      have e : decide (v ≤ b) = decide (a ≤ v ∧ v ≤ b) := by simp [h1]
      show Q (.bl (decide (v ≤ b))) H
      rw [e]; exact q
    · rw [decide_eq_false h1]
      have e : decide (a ≤ v ∧ v ≤ b) = false := decide_eq_false fun z => h1 z.1
      rw [e] at q; exact q
theorem scPair : FnScope ["one", "other"] ["one", "other"] (defScope sPair) := ⟨rfl, rfl, rfl, by decide +kernel, rfl, by decide +kernel, by decide +kernel⟩
theorem ok_pairI {f : Addr} {fd : FuncData} {k : Nat} (F : Fun K "pair_of" "pair_of" sPair f fd) : FnOk P w K mg base CX0 (k + 1) f fd ["one", "other"] spPairI := by
  refine F.ok scPair (fun vs H Q E h => ?_) (fun cdv A outer s H vs Q E hr h => ?_)
  · obtain ⟨a, b, rfl, _⟩ := h
    rfl
  · obtain ⟨a, b, rfl, hab, q⟩ := h
    refine ⟨_, pss_one (ps_ret (pe_ifExp (pt_cmpR op_lt (pv 0) (pv 1) (nomark _)) (pe_tup (pa_cons (pv 0) (pa_cons (pv 1) pa_nil))) (pe_tup (pa_cons (pv 1) (pa_cons (pv 0) pa_nil))))), ?_⟩
    refine ⟨.int a, rfl, .int b, rfl, a, b, rfl, rfl, _, rfl, ?_⟩
    rw [decide_eq_true hab]
    show if true = true then _ else _
    rw [if_pos rfl]
    exact ⟨.int a, rfl, .int b, rfl, by show 2 ≤ sizeLine; decide, fun p np => q p np⟩
theorem scLayers : FnScope ["many", "most", "total", "layer", "_"] ["many", "most"] (defScope sLayers) := ⟨rfl, rfl, rfl, by decide +kernel, rfl, by decide +kernel, by decide +kernel⟩
theorem ok_layers {f : Addr} {fd : FuncData} {k : Nat} (F : Fun K "layers" "layers" sLayers f fd) (B : Blt mg) : FnOk P w K mg base CX0 (k + 1) f fd ["many", "most"] spLayers := by
  refine F.ok scLayers (fun vs H Q E h => ?_) (fun cdv A outer s H vs Q E hr h => ?_)
  · obtain ⟨n, m, rfl, _⟩ := h
    rfl
  · obtain ⟨n, m, rfl, hn, h1, h2, q⟩ := h
    refine ⟨_, pss_cons (ps_set (i := 2) scLayers.nd rfl (.inl rfl) pe_int) (pss_cons (ps_set (i := 3) scLayers.nd rfl (.inl rfl) pe_int)
      (pss_cons (ps_for PassesOwn.never rfl (pi_range1 (by rfl) B.range (pa_cons (pv 0) pa_nil)) (pg_name (i := 4) scLayers.nd rfl (.inl rfl))
        (pss_cons (ps_aug (i := 2) scLayers.nd rfl (.inl rfl) (pv 3) ip_add) (pss_one (ps_aug (i := 3) scLayers.nd rfl (.inl rfl) (pe_op op_sub (pv 1) pe_int) iop_mul))))
      (pss_one (ps_ret (pv 2))))), ?_⟩
    refine rs_set ?_
    refine rs_set ?_
    refine rs_rng 0 ((n : Nat) : Int).toNat (fun H' => H' = H) (fun i σ' H' => ∃ o4, σ' = [some (.int n), some (.int m), some (.int (layS i m)), some (.int ((m - 1) ^ i)), o4] ∧ H' = H)
      (fun R hR => ⟨.int n, rfl, (n : Int), rfl, by omega, by omega, hR H rfl⟩) (fun H' e => ⟨none, by rw [Int.pow_zero]; rfl, e⟩) ?_ ?_
    · rintro i σ' H' hi ⟨o4, rfl, rfl⟩
      refine r_gname ?_
      refine r_seq ⟨_, rfl, .int ((m - 1) ^ i), rfl, _, _, rfl, rfl, ?_⟩
      refine ⟨_, rfl, .int m, rfl, _, _, rfl, rfl, _, _, rfl, rfl, .inr ⟨by omega, by omega⟩, ?_⟩
      refine ⟨some (.int (0 + (i : Int))), ?_, rfl⟩
      rw [Int.pow_succ]
      rfl
    · rintro σ' H' ⟨o4, rfl, rfl⟩
      rw [Int.toNat_natCast]
      exact ⟨.int (layS n m), rfl, q⟩
end
end HI

set_option Elab.async false
set_option linter.all false
set_option maxRecDepth 100000
set_option maxHeartbeats 4000000
namespace HI
open PySem L2 PyProof.Rows Hw
theorem no_skip {A u : TS} {D : Ends} {σ : L2.St} {H : Hp} {b : Bool} (hb : b = true) (h : u D σ H) : ∃ b', V.bl b = .bl b' ∧ (if (!b') = true then A { D with nx := u D } σ H else u D σ H) :=
  ⟨b, rfl, by rw [hb]; exact h⟩
section
variable {P : Program} {w : World} {K : PySem.W.Frag} {mg : Str → Option Value} {base : Heap}
theorem scTreeRoom : FnScope ["far", "most"] ["far", "most"] (defScope sTreeRoom) := ⟨rfl, rfl, rfl, by decide +kernel, rfl, by decide +kernel, by decide +kernel⟩
theorem ok_treeroom {f fW fL : Addr} {fd fdW fdL : FuncData} {k : Nat} (F : Fun K "tree_room" "tree_room" sTreeRoom f fd) (hF : ∃ t, mg "MOST_FAR" = some (.int 40 t)) (hT : ∃ t, mg "MOST_TIES" = some (.int 200 t))
    (GW : FnOk P w K mg base CX0 k fW fdW ["value", "least", "most"] spWithin) (gW : mg "is_within" = some (.ref fW)) (kW : PySem.W.keepIn K (.ref fW) = true) (bW : Binds K fdW ["value", "least", "most"] [])
    (GL : FnOk P w K mg base CX0 k fL fdL ["many", "most"] spLayers) (gL : mg "layers" = some (.ref fL)) (kL : PySem.W.keepIn K (.ref fL) = true) (bL : Binds K fdL ["many", "most"] []) :
    FnOk P w K mg base CX0 (k + 1) f fd ["far", "most"] spTreeRoom := by
  refine F.ok scTreeRoom (fun vs H Q E h => ?_) (fun cdv A outer s H vs Q E hr h => ?_)
  · obtain ⟨n, m, rfl, _⟩ := h
    rfl
  · obtain ⟨n, m, rfl, hn, h1, h2, q⟩ := h
    obtain ⟨t1, g1⟩ := hF
    obtain ⟨t2, g2⟩ := hT
    refine ⟨_, pss_cons (ps_if (pt_not (pt_val (pe_call GW hr (by rfl) gW kW bW .nil pass0 (pa_cons (pv 0) (pa_cons pe_int (pa_cons (pe_glob (v := .int 40) (by rfl) g1 ⟨_, rfl⟩) pa_nil)))))) (pss_one ps_never) pss_nil)
      (pss_cons (ps_if (pt_not (pt_val (pe_call GW hr (by rfl) gW kW bW .nil pass0 (pa_cons (pv 1) (pa_cons pe_int (pa_cons (pe_glob (v := .int 200) (by rfl) g2 ⟨_, rfl⟩) pa_nil)))))) (pss_one ps_never) pss_nil)
      (pss_cons (ps_if (pt_cmpR op_eq (pe_op op_mod (pv 0) pe_int) pe_int (nomark _)) (pss_one (ps_ret (pe_op op_add pe_int (pe_op op_mul (pv 1) (pe_call GL hr (by rfl) gL kL bL .nil pass0 (pa_cons (pe_op op_fdiv (pv 0) pe_int) (pa_cons (pv 1) pa_nil))))))) pss_nil)
      (pss_one (ps_ret (pe_op op_mul pe_int (pe_call GL hr (by rfl) gL kL bL .nil pass0 (pa_cons (pe_op op_add (pe_op op_fdiv (pv 0) pe_int) pe_int) (pa_cons (pv 1) pa_nil)))))))), ?_⟩
    refine rs_no ?_
    refine ⟨.int n, rfl, (n : Int), 0, 40, rfl, ?_⟩
    refine no_skip (decide_eq_true ⟨by omega, by omega⟩) ?_
    refine rs_no ?_
    refine ⟨.int m, rfl, m, 1, 200, rfl, ?_⟩
    refine no_skip (decide_eq_true ⟨by omega, by omega⟩) ?_
    refine rs_no ?_
    refine ⟨.int n, rfl, _, _, rfl, rfl, (show (0 : Int) < 2 by decide), rfl, _, rfl, ?_⟩
    by_cases hp : n % 2 = 0
    · rw [decide_eq_true (show V.int ((n : Int) % 2) = V.int 0 from congrArg V.int (by omega))]
      show if true = true then _ else _
      rw [if_pos rfl]
      refine ⟨.int m, rfl, .int n, rfl, _, _, rfl, rfl, ⟨by decide, by decide⟩, .int m, rfl, n / 2, m, rfl, by omega, h1, h2, ?_⟩
      refine ⟨_, _, rfl, rfl, .inl ⟨by omega, by omega⟩, _, _, rfl, rfl, ?_⟩
      unfold roomV at q
      rw [if_pos hp] at q
      exact q
    · rw [decide_eq_false (show ¬ V.int ((n : Int) % 2) = V.int 0 from fun e => by injection e with e; omega)]
      show if false = true then _ else _
      rw [if_neg Bool.false_ne_true]
      refine ⟨.int n, rfl, _, _, rfl, rfl, ⟨by decide, by decide⟩, _, _, rfl, rfl, .int m, rfl, n / 2 + 1, m, rfl, by omega, h1, h2, ?_⟩
      refine ⟨_, _, rfl, rfl, .inl ⟨by decide, by decide⟩, ?_⟩
      unfold roomV at q
      rw [if_neg hp] at q
      exact q
theorem scLRoom : FnScope ["far", "most", "found", "layer", "lap"] ["far", "most"] (defScope sLRoom) := ⟨rfl, rfl, rfl, by decide +kernel, rfl, by decide +kernel, by decide +kernel⟩
theorem ok_lroom {f : Addr} {fd : FuncData} {k : Nat} (F : Fun K "_law_room" "_law_room" sLRoom f fd) (B : Blt mg) : FnOk P w K mg base CX0 (k + 1) f fd ["far", "most"] spLRoom := by
  refine F.ok scLRoom (fun vs H Q E h => ?_) (fun cdv A outer s H vs Q E hr h => ?_)
  · obtain ⟨n, m, rfl, _⟩ := h
    rfl
  · obtain ⟨n, m, rfl, hn, h1, h2, q⟩ := h
    refine ⟨_, pss_cons (ps_if (pt_cmpR op_eq (pv 0) pe_int (nomark _)) (pss_one (ps_ret pe_int)) pss_nil)
      (pss_cons (ps_asg (pe_ifExp (pt_cmpR op_eq (pe_op op_mod (pv 0) pe_int) pe_int (nomark _)) (pe_tup (pa_cons pe_int (pa_cons (pv 1) pa_nil))) (pe_tup (pa_cons pe_int (pa_cons (pe_op op_mul pe_int (pe_op op_sub (pv 1) pe_int)) pa_nil))))
        (pg_tup rfl (pgs_cons (pg_name (i := 2) scLRoom.nd rfl (.inl rfl)) (pgs_cons (pg_name (i := 3) scLRoom.nd rfl (.inl rfl)) pgs_nil))))
      (pss_cons (ps_for PassesOwn.never rfl (pi_range1 (by rfl) B.range (pa_cons (pe_op op_fdiv (pv 0) pe_int) pa_nil)) (pg_name (i := 4) scLRoom.nd rfl (.inl rfl))
        (pss_one (ps_par (i := 2) (j := 3) rfl scLRoom.nd rfl rfl (by decide) rfl rfl (pa_cons (pe_op op_add (pv 2) (pv 3)) (pa_cons (pe_op op_mul (pv 3) (pe_op op_sub (pv 1) pe_int)) pa_nil)) rfl)))
      (pss_one (ps_ret (pe_callTy call_int1 (by rfl) B.int PyProof.Rows.boot_int (pa_cons (pv 2) pa_nil)))))), ?_⟩
    refine rs_no ?_
    refine ⟨.int n, rfl, rfl, _, rfl, ?_⟩
    by_cases h0 : n = 0
    · subst h0
      have ed : decide (V.int ((0 : Nat) : Int) = V.int 0) = true := decide_eq_true rfl
      rw [ed]
      show if true = true then _ else _
      rw [if_pos rfl]
      have e : roomV 0 m = 1 := by
        unfold roomV
        rw [if_pos rfl]
        show 1 + m * 0 = 1
        omega
      have q' := q H (Same.refl _)
      rw [e] at q'
      exact q'
    rw [decide_eq_false (show ¬ V.int (n : Int) = V.int 0 from fun e => by injection e with e; omega)]
    show if false = true then _ else _
    rw [if_neg Bool.false_ne_true]
    have hl : ((n : Int) / 2).toNat = n / 2 := by omega
    refine rs_t ?_
    refine ⟨.int n, rfl, _, _, rfl, rfl, (show (0 : Int) < 2 by decide), rfl, _, rfl, ?_⟩
    by_cases hp : n % 2 = 0
    · rw [decide_eq_true (show V.int ((n : Int) % 2) = V.int 0 from congrArg V.int (by omega))]
      show if true = true then _ else _
      rw [if_pos rfl]
      refine ⟨.int m, rfl, by show 2 ≤ sizeLine; decide, fun p np => g2_of (sqt_of upd_same) ?_⟩
      refine rs_rng 0 ((n : Int) / 2).toNat (fun H' => Same H H') (fun i σ' H' => ∃ o4, σ' = [some (.int n), some (.int m), some (.int (1 + m * layS i m)), some (.int (m * (m - 1) ^ i)), o4] ∧ Same H H')
        (fun R hR => ⟨.int n, rfl, _, _, rfl, rfl, ⟨by decide, by decide⟩, _, rfl, by omega, by omega, hR _ (same_upd np)⟩) (fun H' e => ⟨none, by rw [Int.pow_zero, Int.mul_one]; show _ = [_, _, some (V.int (1 + m * 0)), _, _]; rw [Int.mul_zero]; rfl, e⟩) ?_ ?_
      · rintro i σ' H' hi ⟨o4, rfl, sx⟩
        refine r_gname ?_
        refine ⟨.int (1 + m * layS i m), rfl, .int (m * (m - 1) ^ i), rfl, _, _, rfl, rfl, .int (m * (m - 1) ^ i), rfl, .int m, rfl, _, _, rfl, rfl, _, _, rfl, rfl, .inr ⟨by omega, by omega⟩, _, _, rfl, ?_⟩
        refine ⟨some (.int (0 + (i : Int))), ?_, sx⟩
        rw [lay_mul, Int.pow_succ, ← Int.mul_assoc]
        rfl
      · rintro σ' H' ⟨o4, rfl, sx⟩
        rw [hl]
        refine ⟨.int (1 + m * layS (n / 2) m), rfl, .inl ⟨_, rfl, ?_⟩⟩
        have q' := q H' sx
        unfold roomV at q'
        rw [if_pos hp] at q'
        exact q'
    · rw [decide_eq_false (show ¬ V.int ((n : Int) % 2) = V.int 0 from fun e => by injection e with e; omega)]
      show if false = true then _ else _
      rw [if_neg Bool.false_ne_true]
      refine ⟨.int m, rfl, _, _, rfl, rfl, _, _, rfl, rfl, .inl ⟨by decide, by decide⟩, by show 2 ≤ sizeLine; decide, fun p np => g2_of (sqt_of upd_same) ?_⟩
      refine rs_rng 0 ((n : Int) / 2).toNat (fun H' => Same H H') (fun i σ' H' => ∃ o4, σ' = [some (.int n), some (.int m), some (.int (2 * layS (i + 1) m)), some (.int (2 * (m - 1) ^ (i + 1))), o4] ∧ Same H H')
        (fun R hR => ⟨.int n, rfl, _, _, rfl, rfl, ⟨by decide, by decide⟩, _, rfl, by omega, by omega, hR _ (same_upd np)⟩) (fun H' e => ⟨none, by
          have e1 : 2 * layS (0 + 1) m = 2 := by
            show 2 * (0 + (m - 1) ^ 0) = 2
            rw [Int.pow_zero]; rfl
          have e2 : 2 * (m - 1) ^ (0 + 1) = 2 * (m - 1) := by rw [Int.pow_succ, Int.pow_zero, Int.one_mul]
          rw [e1, e2]; rfl, e⟩) ?_ ?_
      · rintro i σ' H' hi ⟨o4, rfl, sx⟩
        refine r_gname ?_
        refine ⟨.int (2 * layS (i + 1) m), rfl, .int (2 * (m - 1) ^ (i + 1)), rfl, _, _, rfl, rfl, .int (2 * (m - 1) ^ (i + 1)), rfl, .int m, rfl, _, _, rfl, rfl, _, _, rfl, rfl, .inr ⟨by omega, by omega⟩, _, _, rfl, ?_⟩
        refine ⟨some (.int (0 + (i : Int))), ?_, sx⟩
        have e1 : 2 * layS (i + 1 + 1) m = 2 * layS (i + 1) m + 2 * (m - 1) ^ (i + 1) := by
          show 2 * (layS (i + 1) m + (m - 1) ^ (i + 1)) = _
          rw [Int.mul_add]
        rw [e1, Int.pow_succ (m - 1) (i + 1), ← Int.mul_assoc]
        rfl
      · rintro σ' H' ⟨o4, rfl, sx⟩
        rw [hl]
        refine ⟨.int (2 * layS (n / 2 + 1) m), rfl, .inl ⟨_, rfl, ?_⟩⟩
        have q' := q H' sx
        unfold roomV at q'
        rw [if_neg hp] at q'
        exact q'
end
end HI

set_option Elab.async false
set_option linter.all false
set_option maxRecDepth 100000
set_option maxHeartbeats 4000000
namespace HI
open PySem L2 PyProof.Rows Hw
section
variable {P : Program} {w : World} {K : PySem.W.Frag} {mg : Str → Option Value} {base : Heap}
theorem scWebFloor : FnScope ["many", "most", "far", "reached", "layer"] ["many", "most"] (defScope sWebFloor) := ⟨rfl, rfl, rfl, by decide +kernel, rfl, by decide +kernel, by decide +kernel⟩
theorem ok_webfloor {f fW : Addr} {fd fdW : FuncData} {k : Nat} (F : Fun K "web_floor" "web_floor" sWebFloor f fd) (hF : ∃ t, mg "MOST_MANY" = some (.int 1000000 t)) (hT : ∃ t, mg "MOST_TIES" = some (.int 200 t))
    (GW : FnOk P w K mg base CX0 k fW fdW ["value", "least", "most"] spWithin) (gW : mg "is_within" = some (.ref fW)) (kW : PySem.W.keepIn K (.ref fW) = true) (bW : Binds K fdW ["value", "least", "most"] []) :
    FnOk P w K mg base CX0 (k + 1) f fd ["many", "most"] spFloor := by
  refine F.ok scWebFloor (fun vs H Q E h => ?_) (fun cdv A outer s H vs Q E hr h => ?_)
  · obtain ⟨n, m, rfl, _⟩ := h
    rfl
  · obtain ⟨n, m, rfl, n1, n2, h1, h2, h3, q⟩ := h
    obtain ⟨t1, g1⟩ := hF
    obtain ⟨t2, g2⟩ := hT
    refine ⟨_, pss_cons (ps_if (pt_not (pt_val (pe_call GW hr (by rfl) gW kW bW .nil pass0 (pa_cons (pv 0) (pa_cons pe_int (pa_cons (pe_glob (v := .int 1000000) (by rfl) g1 ⟨_, rfl⟩) pa_nil)))))) (pss_one ps_never) pss_nil)
      (pss_cons (ps_if (pt_not (pt_val (pe_call GW hr (by rfl) gW kW bW .nil pass0 (pa_cons (pv 1) (pa_cons pe_int (pa_cons (pe_glob (v := .int 200) (by rfl) g2 ⟨_, rfl⟩) pa_nil)))))) (pss_one ps_never) pss_nil)
      (pss_cons (ps_if (PW.pt (pw_and (pt_cmpR op_eq (pv 1) pe_int (nomark _)) (pw_and1 (pt_cmpR op_gt (pv 0) pe_int (nomark _))))) (pss_one ps_never) pss_nil)
      (pss_cons (ps_set (i := 2) scWebFloor.nd rfl (.inl rfl) pe_int) (pss_cons (ps_set (i := 3) scWebFloor.nd rfl (.inl rfl) pe_int) (pss_cons (ps_set (i := 4) scWebFloor.nd rfl (.inl rfl) (pv 1))
      (pss_cons (ps_while PassesOwn.never (pt_cmpR op_lt (pv 3) (pv 0) (nomark _))
        (pss_cons (ps_aug (i := 2) scWebFloor.nd rfl (.inl rfl) pe_int ip_add) (pss_cons (ps_aug (i := 3) scWebFloor.nd rfl (.inl rfl) (pv 4) ip_add) (pss_one (ps_aug (i := 4) scWebFloor.nd rfl (.inl rfl) (pe_op op_sub (pv 1) pe_int) iop_mul)))))
      (pss_one (ps_ret (pv 2))))))))), ?_⟩
    refine rs_no ?_
    refine ⟨.int n, rfl, n, 1, 1000000, rfl, ?_⟩
    refine no_skip (decide_eq_true ⟨by omega, by omega⟩) ?_
    refine rs_no ?_
    refine ⟨.int m, rfl, m, 1, 200, rfl, ?_⟩
    refine no_skip (decide_eq_true ⟨by omega, by omega⟩) ?_
    have start : ∀ u : TS, ∀ D : Ends, (∀ σ, σ = [some (V.int n), some (V.int m), none, none, none] → u D σ H) → True := fun _ _ _ => True.intro
    clear start
    refine rs_no ?_
    refine ⟨.int m, rfl, rfl, _, rfl, ?_⟩
    have go : ∀ (D : Ends), D.rt = Q → tSeq (tAsg (tC (.int 0)) (gName 2)) (tSeq (tAsg (tC (.int 1)) (gName 3)) (tSeq (tAsg (tVar 1) (gName 4)) (tSeq (tWhile (tTest (tOp (rI0 fun i j => .bl (decide (i < j))) (tVar 3) (tVar 0))) (tSeq (tAug 2 (tC (.int 1)) (ipI fun i j => i + j)) (tSeq (tAug 3 (tVar 4) (ipI fun i j => i + j)) (tAug 4 (tOp (rI0 fun i j => .int (i - j)) (tVar 1) (tC (.int 1))) (rI CMul fun i j => .int (i * j)))))) (tRet (tVar 2))))) D [some (V.int n), some (V.int m), none, none, none] H := by
      intro D hD
      refine rs_set ?_
      refine rs_set ?_
      refine rs_set ⟨.int m, rfl, ?_⟩
      refine rs_whileM (fun μ σ H' => ∃ r : Nat, σ = [some (.int n), some (.int m), some (.int r), some (.int (1 + m * layS r m)), some (.int (m * (m - 1) ^ r))] ∧ Same H H' ∧ (∀ i : Nat, i < r → 1 + m * layS i m < n) ∧ μ = n.toNat - r) n.toNat
        ⟨0, by rw [Int.pow_zero, Int.mul_one]; show _ = [_, _, _, some (V.int (1 + m * 0)), _]; rw [Int.mul_zero]; rfl, Same.refl _, (fun i hi => absurd hi (Nat.not_lt_zero _)), rfl⟩ ?_
      rintro μ σ H' ⟨r, rfl, sx, hc, rfl⟩
      refine ⟨decide (1 + m * layS r m < n), fun Q1 q1 => ⟨.int (1 + m * layS r m), rfl, .int n, rfl, _, _, rfl, rfl, _, rfl, q1 H' (Same.refl _)⟩, fun hb H2 s2 D' hD' => ?_, fun hb H2 s2 => ?_⟩
      · have hb := of_decide_eq_true hb
        have hlt := floor_lt n1 h1 h3 hb
        refine r_seq ⟨_, rfl, _, _, rfl, rfl, ?_⟩
        refine r_seq ⟨_, rfl, .int (m * (m - 1) ^ r), rfl, _, _, rfl, rfl, ?_⟩
        refine ⟨_, rfl, .int m, rfl, _, _, rfl, rfl, _, _, rfl, rfl, .inr ⟨by omega, by omega⟩, hD' _ _ ⟨n.toNat - (r + 1), by omega, r + 1, ?_, sx.trans s2, fun i hi => ?_, rfl⟩⟩
        · rw [lay_mul, Int.pow_succ, ← Int.mul_assoc]
          rfl
        · rcases Nat.lt_or_ge i r with a | a
          · exact hc i a
          · have : i = r := by omega
            subst this; exact hb
      · have hb := of_decide_eq_false hb
        exact ⟨.int r, rfl, by rw [hD]; exact q r H2 ⟨hc, hb⟩ (sx.trans s2)⟩
    by_cases hm : m = 1
    · subst hm
      have h3 := h3 rfl
      rw [decide_eq_true (show V.int (1 : Int) = V.int 1 from rfl)]
      show if true = true then _ else _
      rw [if_pos rfl]
      refine ⟨.int n, rfl, n, 2, rfl, rfl, _, rfl, ?_⟩
      rw [decide_eq_false (show ¬ (2 : Int) < n by omega)]
      show if false = true then _ else _
      rw [if_neg Bool.false_ne_true]
      exact go _ rfl
    · rw [decide_eq_false (show ¬ V.int m = V.int 1 from fun e => hm (by injection e))]
      show if false = true then _ else _
      rw [if_neg Bool.false_ne_true]
      exact go _ rfl
theorem scLFloor : FnScope ["many", "most", "r", "power", "total"] ["many", "most"] (defScope sLFloor) := ⟨rfl, rfl, rfl, by decide +kernel, rfl, by decide +kernel, by decide +kernel⟩
theorem rs_par3 {i j l : Nat} {ta : TA} {u : TS} {D : Ends} {σ : L2.St} {H : Hp} (h : ta σ H fun vs H1 => ∃ x y z, vs = [x, y, z] ∧ u D (((σ.set i (some x)).set j (some y)).set l (some z)) H1) : tSeq (tPar3 i j l ta) u D σ H := h
theorem ok_lfloor {f : Addr} {fd : FuncData} {k : Nat} (F : Fun K "_law_floor" "_law_floor" sLFloor f fd) (B : Blt mg) : FnOk P w K mg base CX0 (k + 1) f fd ["many", "most"] spFloor := by
  refine F.ok scLFloor (fun vs H Q E h => ?_) (fun cdv A outer s H vs Q E hr h => ?_)
  · obtain ⟨n, m, rfl, _⟩ := h
    rfl
  · obtain ⟨n, m, rfl, n1, n2, h1, h2, h3, q⟩ := h
    refine ⟨_, pss_cons (ps_asg (pe_tup (pa_cons pe_int (pa_cons pe_int (pa_cons pe_int pa_nil)))) (pg_tup rfl (pgs_cons (pg_name (i := 2) scLFloor.nd rfl (.inl rfl)) (pgs_cons (pg_name (i := 3) scLFloor.nd rfl (.inl rfl)) (pgs_cons (pg_name (i := 4) scLFloor.nd rfl (.inl rfl)) pgs_nil)))))
      (pss_cons (ps_while PassesOwn.never (pt_cmpR op_lt (pe_op op_add pe_int (pe_op op_mul (pv 1) (pv 4))) (pv 0) (nomark _))
        (pss_one (ps_par3 (i := 2) (j := 4) (l := 3) rfl scLFloor.nd rfl rfl rfl (by decide) (by decide) (by decide) rfl rfl rfl (pa_cons (pe_op op_add (pv 2) pe_int) (pa_cons (pe_op op_add (pv 4) (pv 3)) (pa_cons (pe_op op_mul (pv 3) (pe_op op_sub (pv 1) pe_int)) pa_nil))) rfl)))
      (pss_one (ps_ret (pe_callTy call_int1 (by rfl) B.int PyProof.Rows.boot_int (pa_cons (pv 2) pa_nil))))), ?_⟩
    refine rs_t ⟨by show 3 ≤ sizeLine; decide, fun p np => ⟨p, [.int 0, .int 1, .int 0], rfl, sqt_of upd_same, rfl, _, [.int 1, .int 0], rfl, _, [.int 0], rfl, _, [], rfl, rfl, ?_⟩⟩
    refine rs_whileM (fun μ σ H' => ∃ r : Nat, σ = [some (.int n), some (.int m), some (.int r), some (.int ((m - 1) ^ r)), some (.int (layS r m))] ∧ Same H H' ∧ (∀ i : Nat, i < r → 1 + m * layS i m < n) ∧ μ = n.toNat - r) n.toNat
      ⟨0, by rw [Int.pow_zero]; rfl, same_upd np, (fun i hi => absurd hi (Nat.not_lt_zero _)), rfl⟩ ?_
    rintro μ σ H' ⟨r, rfl, sx, hc, rfl⟩
    refine ⟨decide (1 + m * layS r m < n), fun Q1 q1 => ⟨.int m, rfl, .int (layS r m), rfl, _, _, rfl, rfl, .inl ⟨by omega, by omega⟩, _, _, rfl, rfl, .int n, rfl, _, _, rfl, rfl, _, rfl, q1 H' (Same.refl _)⟩, fun hb H2 s2 D' hD' => ?_, fun hb H2 s2 => ?_⟩
    · have hb := of_decide_eq_true hb
      have hlt := floor_lt n1 h1 h3 hb
      refine ⟨.int r, rfl, _, _, rfl, rfl, .int (layS r m), rfl, .int ((m - 1) ^ r), rfl, _, _, rfl, rfl, .int ((m - 1) ^ r), rfl, .int m, rfl, _, _, rfl, rfl, _, _, rfl, rfl, .inr ⟨by omega, by omega⟩, _, _, _, rfl, hD' _ _ ⟨n.toNat - (r + 1), by omega, r + 1, ?_, sx.trans s2, fun i hi => ?_, rfl⟩⟩
      · rw [Int.pow_succ]
        rfl
      · rcases Nat.lt_or_ge i r with a | a
        · exact hc i a
        · have : i = r := by omega
          subst this; exact hb
    · have hb := of_decide_eq_false hb
      exact ⟨.int r, rfl, .inl ⟨_, rfl, q r H2 ⟨hc, hb⟩ (sx.trans s2)⟩⟩
end
end HI

set_option Elab.async false
set_option linter.all false
set_option maxRecDepth 100000
set_option maxHeartbeats 4000000
namespace HI
open PySem L2 PyProof.Rows Hw
abbrev sLast : Stmt := topS 19
abbrev sWay : Stmt := topS 18
def prD (q : Nat × Int) : PyData := .tuple [.int (q.1 : Nat), .int q.2]
theorem dataLt_pr (a b : Nat × Int) : PySem.W.dataLt (prD a) (prD b) = ltPr a b := by
  unfold prD ltPr
  rw [PySem.W.dataLt_pair (by simp [PySem.W.alike]) (by simp [PySem.W.alike]), PySem.W.dataLt_int, PySem.W.dataLt_int]
  simp only [PyData.eqv]
  by_cases h1 : a.1 = b.1
  · by_cases h2 : a.2 = b.2 <;> simp [h1, h2]
  · have h3 : ¬ ((a.1 : Int) = (b.1 : Int)) := by omega
    simp [h1, h3]
theorem maxD_pr (x : Nat × Int) (xs : List (Nat × Int)) : PySem.W.maxD (prD x) (xs.map prD) = prD (maxPr x xs) := by
  unfold PySem.W.maxD maxPr
  induction xs generalizing x with
  | nil => rfl
  | cons y xs ih =>
    rw [List.map_cons, List.foldl_cons, List.foldl_cons, dataLt_pr]
    by_cases h : ltPr x y = true
    · rw [if_pos h, if_pos h]; exact ih y
    · rw [if_neg h, if_neg h]; exact ih x
theorem prD_inj {a b : Nat × Int} (h : prD a = prD b) : a = b := by
  unfold prD at h
  injection h with h
  injection h with h1 h2
  injection h2 with h2 _
  injection h1 with h1
  injection h2 with h2
  exact Prod.ext (by omega) h2
theorem alike_pr (xs : List (Nat × Int)) : PySem.W.AlikeAll (xs.map prD) := by
  refine ⟨fun d hd d' hd' => ?_, fun d hd => ?_⟩
  · obtain ⟨a, _, rfl⟩ := List.mem_map.mp hd
    obtain ⟨b, _, rfl⟩ := List.mem_map.mp hd'
    unfold prD
    simp [PySem.W.alike, PySem.W.alikeAll]
  · obtain ⟨a, _, rfl⟩ := List.mem_map.mp hd
    exact fun e => nomatch e
theorem depth_pr (a : Nat × Int) : (prD a).depth ≤ 50 := by
  unfold prD
  simp [PyData.depth, PyData.depthAll]
theorem lev_self {ns : List Int} {nb : Int → List Int} (hnb : ∀ n ∈ ns, ∀ o ∈ nb n, o ∈ ns) {p : Int} (hp : p ∈ ns) : ∀ i, p ∈ (lev nb p i).1.map (·.1)
  | 0 => List.mem_cons_self
  | i + 1 => by
    obtain ⟨n0, f⟩ := lev_ok hnb hp i
    exact (FarOk.foldE hnb (s := ((lev nb p i).1, [])) ⟨f.nd, f.sub, (fun _ z => nomatch z), rfl⟩ fun o ho => f.sub o (f.bey o ho)).2 p (lev_self hnb hp i)
theorem lookF_mem {far : Far} (nd : (far.map (·.1)).Nodup) {z : Int × Nat} (hz : z ∈ far) : lookF far z.1 = z.2 := by
  unfold lookF
  induction far with
  | nil => cases hz
  | cons y far ih =>
    rw [List.map_cons, List.nodup_cons] at nd
    rcases List.mem_cons.mp hz with rfl | hm
    · rw [List.find?_cons_of_pos (by exact decide_eq_true rfl)]; rfl
    · rw [List.find?_cons_of_neg (by
        have : y.1 ≠ z.1 := fun e => nd.1 (by rw [e]; exact List.mem_map.mpr ⟨z, hm, rfl⟩)
        simpa using this)]
      exact ih nd.2 hm
theorem smallM2 {n : Nat} (h : n ≤ 100000) : n < sizeLine := by rw [sizeLine_eq]; omega
theorem snocP {α β : Type} {F : α → β → Prop} {x : α} {y : β} (f : F x y) : ∀ {xs : List α} {ys : List β}, Paired F xs ys → Paired F (xs ++ [x]) (ys ++ [y])
  | _, _, .nil => .cons f .nil
  | _, _, .cons h t => .cons h (snocP f t)
abbrev PrT (H : Hp) (a : Addr) (q : Nat × Int) : Prop := H a = some (.tup [.int (q.1 : Nat), .int q.2])
def spLast : Sp := fun vs H Q _ => ∃ (d : Addr) (p : Int) (f : Int → Addr) (ns : List Int) (ts : List Tie) (n : Nat), vs = [.ref d, .int p] ∧ NearL f H d ns (nbr ts) ∧ p ∈ ns ∧ ns.length ≤ 200 ∧ (∀ n ∈ ns, ∀ o ∈ nbr ts n, o ∈ ns) ∧ endOk ts n p = true ∧
  ∀ q H', Same H H' → PrT H' q (lastR ts n p) → Q (.ref q) H'
section
variable {P : Program} {w : World} {K : PySem.W.Frag} {mg : Str → Option Value} {base : Heap}
theorem scLast : FnScope ["tied", "place", "far", "other"] ["tied", "place"] (defScope sLast) := ⟨rfl, rfl, rfl, by decide +kernel, rfl, by decide +kernel, by decide +kernel⟩
theorem ok_last {f fA : Addr} {fd fdA : FuncData} {k : Nat} (F : Fun K "last_reached" "last_reached" sLast f fd) (B : Blt mg)
    (GA : FnOk P w K mg base CX0 k fA fdA ["tied", "place"] spFars) (gA : mg "far_along" = some (.ref fA)) (kA : PySem.W.keepIn K (.ref fA) = true) (bA : Binds K fdA ["tied", "place"] []) :
    FnOk P w K mg base CX0 (k + 1) f fd ["tied", "place"] spLast := by
  refine F.ok scLast (fun vs H Q E h => ?_) (fun cdv A outer s H vs Q E hr h => ?_)
  · obtain ⟨d, p, f, ns, ts, n, rfl, _⟩ := h
    rfl
  · obtain ⟨d, p, fa, ns, ts, n, rfl, nl, hp, hl, hnb, he, q⟩ := h
    have hu := hu_of hr
    have hu64 := hr.units
    refine ⟨_, pss_cons (ps_set (i := 2) scLast.nd rfl (.inr rfl) (pe_call GA hr (by rfl) gA kA bA .nil pass0 (pa_cons (pv 0) (pa_cons (pv 1) pa_nil))))
      (pss_one (ps_ret (pe_callB (cr_maxB rfl hu64) (by rfl) B.max PyProof.Rows.boot_max (pa_cons (pe_lock (pe_lc (own := [("other", 3)]) (g := gName 3) (tt := tYes) (te := tTup (tCons (tDGet (tVar 2) (tVar 3)) (tCons (tVar 3) tNil))) rfl scLast.nd (pi_keys (pv 2))
          (blkOk_by (N := ["tied", "place", "far", "other"]) (sc := defScope sLast) (by decide +kernel)) (fun _ _ _ _ _ => pg_name (i := 3) scLast.nd rfl (Or.inl rfl)) (fun _ _ _ _ _ => pts_nil)
          (fun _ _ _ _ _ => pe_tup (pa_cons (pe_dget hu (pv 2) (pv 3) (fun _ _ => rfl)) (pa_cons (pv 3) pa_nil))))) pa_nil)))), ?_⟩
    refine rs_set ?_
    refine ⟨.ref d, rfl, .int p, rfl, d, p, fa, ns, ts, rfl, nl, hp, by omega, hnb, fun far fd' H1 hb hf s1 e1 n1 => ?_⟩
    have hlev : lev (nbr ts) p n = ((lev (nbr ts) p n).1, []) := Prod.ext rfl (List.isEmpty_iff.mp he)
    have efar : far = (lev (nbr ts) p n).1 := hb.uniq ⟨n, hlev⟩
    obtain ⟨n0, fk⟩ := hf
    have few : far.length ≤ ns.length := fk.few
    refine ⟨fd', .dK (encF far), e1, trivial, fun od => ?_⟩
    refine ⟨.ref fd', rfl, fd', od, rfl, .inl ⟨encF far, upd_same, fun D nD => ?_⟩⟩
    have nfD : D ≠ fd' := fun z => by rw [z, upd_same] at nD; cases nD
    have nD1 : H1 D = none := by rw [upd_ne nfD] at nD; exact nD
    have hel : (encF far).length = far.length := by unfold encF; rw [List.length_map]
    refine lc_it walk_keys (fun i H' => SameX fd' H1 H' ∧ H' fd' = some (.frz od (.dK (encF far))) ∧ ∃ tp : List Addr, H' D = some (.lst (tp.map V.ref)) ∧ Paired (PrT H') tp ((far.take i).map fun q => (q.2, q.1)))
      ⟨fun b o hb e => by rw [upd_ne (ne_of_none e nD1), upd_ne hb]; exact e, by rw [upd_ne (Ne.symm nfD)]; exact upd_same, [], upd_same, .nil⟩ (fun i H' _ h => h.2.1) ?_ ?_
    · rintro i x H3 H2 hi ⟨sx, ed, tp, eD, hpp⟩ ⟨rfl, kk, v, hk, rfl⟩
      obtain ⟨z, hz, ez⟩ : ∃ z, far[i]? = some z ∧ (kk, v) = ((Sum.inl z.1 : Key), V.int (z.2 : Int)) := by
        unfold encF at hk
        rw [List.getElem?_map] at hk
        cases e : far[i]? with
        | none => rw [e] at hk; cases hk
        | some z => rw [e] at hk; exact ⟨z, rfl, (Option.some.inj hk).symm⟩
      cases ez
      have hzk : z.1 ∈ far.map (·.1) := List.mem_map.mpr ⟨z, List.mem_of_getElem? hz, rfl⟩
      have hval : valV (encF far) (Sum.inl z.1) = some (V.int (z.2 : Int)) := by
        rw [valV_far, if_pos hzk]
        rw [lookF_mem fk.nd (List.mem_of_getElem? hz)]
      have htp : tp.length ≤ 200 := by
        rw [Paired.length hpp, List.length_map, List.length_take]; omega
      refine ⟨rfl, r_yes ?_⟩
      have dg : DGet H2 fd' (.int z.1) (valV (encF far) (Sum.inl z.1)) := .inl ⟨_, Sum.inl z.1, .inr ⟨_, ed⟩, rfl, rfl⟩
      rw [hval] at dg
      refine ⟨.ref fd', rfl, .int z.1, rfl, fd', _, rfl, dg, .int z.1, rfl, by show 2 ≤ sizeLine; decide, fun a na => ?_⟩
      have s2 := same_upd (o := .tup [.int (z.2 : Int), .int z.1]) na
      have naD : a ≠ D := fun y => by rw [y, eD] at na; cases na
      refine ⟨_, s2 _ _ eD, smallM2 (by rw [List.length_map]; omega), fun b o hb e => ?_, ?_, tp ++ [a], by rw [upd_same, List.map_append]; rfl, ?_⟩
      · rw [upd_ne (ne_of_none e nD1)]
        exact s2 _ _ (sx _ _ hb e)
      · rw [upd_ne (Ne.symm nfD)]; exact s2 _ _ ed
      · rw [take_snoc hz, List.map_append]
        refine snocP ?_ (paired_mono (fun q n e => ?_) hpp)
        · show (upd _ D _) a = _
          rw [upd_ne naD, upd_same]
        · have e : H2 q = _ := e
          show (upd _ D _) q = _
          rw [upd_ne (fun y => by rw [y, eD] at e; cases e)]
          exact s2 _ _ e
    · rintro H2 ⟨sx, ed, tp, eD, hpp⟩
      rw [hel, List.take_length] at hpp
      refine ⟨ed, ?_⟩
      have nfD2 : D ≠ fd' := nfD
      have sF : Same H1 (upd H2 fd' (.dK (encF far))) := fun b o e => by
        by_cases hb : b = fd'
        · subst hb
          rw [upd_same, ← e1]; exact e
        · rw [upd_ne hb]; exact sx _ _ hb e
      have eD2 : (upd H2 fd' (.dK (encF far))) D = some (.lst (tp.map V.ref)) := by rw [upd_ne nfD]; exact eD
      have hp2 : Paired (PrT (upd H2 fd' (.dK (encF far)))) tp (far.map fun q => (q.2, q.1)) := paired_mono (fun q n e => by
        have e : H2 q = _ := e
        show (upd H2 fd' _) q = _
        rw [upd_ne (fun z => by rw [z, ed] at e; cases e)]
        exact e) hpp
      generalize (upd H2 fd' (.dK (encF far))) = H4 at sF eD2 hp2
      obtain ⟨l, hl1, hl2, hl3⟩ := zip_of hp2
      cases l with
      | nil =>
        exfalso
        have : far = [] := by
          have h2 : ([] : List (Nat × Int)) = far.map fun q => (q.2, q.1) := hl2
          exact List.map_eq_nil_iff.mp h2.symm
        have hs := lev_self hnb hp n
        rw [← efar, this] at hs
        cases hs
      | cons x0 l =>
        have eb1 : ((V.ref x0.1, prD x0.2) :: l.map fun x => (V.ref x.1, prD x.2)).map (·.1) = tp.map V.ref := by rw [← hl1]; simp
        have eb2 : ((V.ref x0.1, prD x0.2) :: l.map fun x => (V.ref x.1, prD x.2)).map (·.2) = ((x0 :: l).map (·.2)).map prD := by simp
        refine ⟨D, (V.ref x0.1, prD x0.2), l.map fun x => (V.ref x.1, prD x.2), rfl, by rw [eb1]; exact sql_of eD2, fun b hb => ?_, by rw [eb2]; exact alike_pr _, fun b hb e => ?_⟩
        · obtain ⟨x, hx, rfl⟩ : ∃ x ∈ x0 :: l, b = (V.ref x.1, prD x.2) := by
            rcases List.mem_cons.mp hb with rfl | hb
            · exact ⟨x0, List.mem_cons_self, rfl⟩
            · obtain ⟨x, hx, rfl⟩ := List.mem_map.mp hb
              exact ⟨x, List.mem_cons_of_mem _ hx, rfl⟩
          exact ⟨.tup (sqt_of (hl3 x hx)) (.cons (.int _) (.cons (.int _) .nil)), depth_pr _⟩
        · obtain ⟨x, hx, rfl⟩ : ∃ x ∈ x0 :: l, b = (V.ref x.1, prD x.2) := by
            rcases List.mem_cons.mp hb with rfl | hb
            · exact ⟨x0, List.mem_cons_self, rfl⟩
            · obtain ⟨x, hx, rfl⟩ := List.mem_map.mp hb
              exact ⟨x, List.mem_cons_of_mem _ hx, rfl⟩
          have e3 : PySem.W.maxD (prD x0.2) ((l.map fun x => (V.ref x.1, prD x.2)).map (·.2)) = prD (maxPr x0.2 (l.map (·.2))) := by
            rw [List.map_map, ← maxD_pr, List.map_map]; rfl
          have e4 := prD_inj (e.trans e3)
          refine q x.1 H4 (s1.trans sF) ?_
          have e5 : lastR ts n p = x.2 := by
            unfold lastR
            rw [← efar, ← hl2]
            show maxPr x0.2 (l.map (·.2)) = x.2
            exact e4.symm
          rw [e5]
          exact hl3 x hx
end
end HI

set_option Elab.async false
set_option linter.all false
set_option maxRecDepth 100000
set_option maxHeartbeats 4000000
namespace HI
open PySem L2 PyProof.Rows Hw
abbrev sChkL : Stmt := topS 16
abbrev sChkT : Stmt := topS 17
def limsV (d n : Nat) : List V := List.replicate n (.int (d : Int))
def nsI (n : Nat) : List Int := (List.range n).map fun i => ((i : Nat) : Int)
def GoodL (d n : Nat) : Prop := 2 ≤ d ∧ d ≤ 5 ∧ 2 ≤ n ∧ n ≤ 61
def spChk : Sp := fun vs H Q _ => ∃ (a : Addr) (d n : Nat), vs = [.ref a] ∧ H a = some (.tup (limsV d n)) ∧ GoodL d n ∧ ∀ H', Same H H' → Q .non H'
theorem lims_len (d n : Nat) : (limsV d n).length = n := by unfold limsV; rw [List.length_replicate]
theorem lims_at {d n i : Nat} {x : V} (h : (limsV d n)[i]? = some x) : x = .int (d : Int) := List.eq_of_mem_replicate (List.mem_of_getElem? h)
theorem all_repI (n : Nat) : (List.replicate n true).all id = true := by
  rw [List.all_eq_true]
  intro b hb
  rw [List.eq_of_mem_replicate hb]; rfl
def spWay : Sp := fun vs H Q _ => ∃ (t : Addr) (d n : Nat) (qs : List Addr), vs = [.int (n : Nat), .ref t] ∧ GoodL d n ∧ H t = some (.tup (qs.map V.ref)) ∧ Paired (TieL H) qs (tiesL d n) ∧ ∀ H', Same H H' → Q (.int (leastV d n : Nat)) H'
theorem par_le {d i : Nat} (hd : 2 ≤ d) : par d i ≤ i := by
  unfold par
  by_cases h : i < d
  · rw [if_pos h]; exact Nat.zero_le _
  · rw [if_neg h]
    have := Nat.div_le_self (i - d) (d - 1)
    omega
theorem par_mono {d i j : Nat} (h : i ≤ j) : par d i ≤ par d j := by
  unfold par
  by_cases h1 : i < d
  · rw [if_pos h1]; exact Nat.zero_le _
  · rw [if_neg h1, if_neg (show ¬ j < d by omega)]
    have := Nat.div_le_div_right (c := d - 1) (show i - d ≤ j - d by omega)
    omega
theorem mem_ns {n : Nat} {i : Nat} (h : i < n) : ((i : Nat) : Int) ∈ nsI n := List.mem_map.mpr ⟨i, List.mem_range.mpr h, rfl⟩
theorem ns_nd (n : Nat) : (nsI n).Nodup := List.Pairwise.map _ (fun a b h e => h (by omega)) List.nodup_range
theorem ns_len (n : Nat) : (nsI n).length = n := by unfold nsI; rw [List.length_map, List.length_range]
theorem ties_fine {d n : Nat} (g : GoodL d n) : FineW (nsI n) (tiesL d n) := by
  obtain ⟨g1, g2, g3, g4⟩ := g
  refine ⟨ns_nd n, by rw [ns_len]; omega, fun t ht => ?_, by unfold tiesL; rw [List.length_map, List.length_range]; omega⟩
  obtain ⟨i, hi, rfl⟩ := List.mem_map.mp ht
  have hi := List.mem_range.mp hi
  have := par_le (d := d) (i := i) g1
  exact ⟨mem_ns (by omega), mem_ns (by omega), by show ((par d i : Nat) : Int) < ((i + 1 : Nat) : Int); omega⟩
def chkAll (d n : Nat) : Bool := endOk (tiesL d n) n 0 && endOk (tiesL d n) n (lastR (tiesL d n) n 0).2 && decide ((lastR (tiesL d n) n 0).2 ∈ nsI n) && decide (1 ≤ leastV d n) && decide (leastV d n ≤ 100) && decide ((n : Int) ≤ roomV (leastV d n) d) && decide (roomV (leastV d n - 1) d < (n : Int)) && decide ((n : Int) ≤ 1 + (d : Int) * layS (leastV d n) d)
end HI

set_option Elab.async false
set_option linter.all false
set_option maxRecDepth 100000
set_option maxHeartbeats 4000000
namespace HI
open PySem L2 PyProof.Rows Hw
theorem all2 : ((List.range 60).all fun i => chkAll 2 (i + 2)) = true := by decide +kernel
theorem all3 : ((List.range 60).all fun i => chkAll 3 (i + 2)) = true := by decide +kernel
theorem all4 : ((List.range 60).all fun i => chkAll 4 (i + 2)) = true := by decide +kernel
theorem all5 : ((List.range 60).all fun i => chkAll 5 (i + 2)) = true := by decide +kernel
theorem chk_ok {d n : Nat} (g : GoodL d n) : chkAll d n = true := by
  obtain ⟨g1, g2, g3, g4⟩ := g
  have e : n - 2 + 2 = n := by omega
  have hm : n - 2 ∈ List.range 60 := List.mem_range.mpr (by omega)
  have h : d = 2 ∨ d = 3 ∨ d = 4 ∨ d = 5 := by omega
  rcases h with rfl | rfl | rfl | rfl
  · have := List.all_eq_true.mp all2 _ hm; rwa [e] at this
  · have := List.all_eq_true.mp all3 _ hm; rwa [e] at this
  · have := List.all_eq_true.mp all4 _ hm; rwa [e] at this
  · have := List.all_eq_true.mp all5 _ hm; rwa [e] at this
end HI

set_option Elab.async false
set_option linter.all false
set_option maxRecDepth 100000
set_option maxHeartbeats 4000000
namespace HI
open PySem L2 PyProof.Rows Hw
section
variable {P : Program} {w : World} {K : PySem.W.Frag} {mg : Str → Option Value} {base : Heap}
theorem scChkL : FnScope ["value", "limit"] ["value"] (defScope sChkL) := ⟨rfl, rfl, rfl, by decide +kernel, rfl, by decide +kernel, by decide +kernel⟩
theorem ok_chkl {f fW : Addr} {fd fdW : FuncData} {k : Nat} (F : Fun K "check_limits" "check_limits" sChkL f fd) (B : Blt mg) (bi : mg "isinstance" = none) (bt : mg "tuple" = none) (ba : mg "all" = none) (hL : ∃ t, mg "MOST_LIMITS" = some (.int 200 t)) (hT : ∃ t, mg "MOST_TIES" = some (.int 200 t))
    (GW : FnOk P w K mg base CX0 k fW fdW ["value", "least", "most"] spWithin) (gW : mg "is_within" = some (.ref fW)) (kW : PySem.W.keepIn K (.ref fW) = true) (bW : Binds K fdW ["value", "least", "most"] []) :
    FnOk P w K mg base CX0 (k + 1) f fd ["value"] spChk := by
  refine F.ok scChkL (fun vs H Q E h => ?_) (fun cdv A outer s H vs Q E hr h => ?_)
  · obtain ⟨a, d, n, rfl, _⟩ := h
    rfl
  · obtain ⟨a, d, n, rfl, e1, ⟨g1, g2, g3, g4⟩, q⟩ := h
    obtain ⟨t1, gL⟩ := hL
    obtain ⟨t2, gT⟩ := hT
    refine ⟨_, pss_one (ps_if (pt_not (PW.pt (pw_and (pt_val (pe_callB call_isi (by rfl) bi PyProof.Rows.boot_isinstance (pa_cons (pv 0) (pa_cons (pe_bltn (v := .ty "tuple") (by rfl) bt (by decide +kernel) rfl) pa_nil))))
      (pw_and (pt_chain op_le op_le pe_int (pe_callB call_len_seq (by rfl) B.len PySem.boot_len (pa_cons (pv 0) pa_nil)) (pe_glob (v := .int 200) (by rfl) gL ⟨_, rfl⟩))
      (pw_and1 (pt_val (pe_callB (cr_all rfl) (by rfl) ba PyProof.Rows.boot_all (pa_cons (pe_lc (own := [("limit", 1)]) (g := gName 1) (tt := tYes) rfl scChkL.nd (pi_tup (pv 0)) (blkOk_by (N := ["value", "limit"]) (sc := defScope sChkL) (by decide +kernel))
          (fun _ _ _ _ _ => pg_name (i := 1) scChkL.nd rfl (Or.inl rfl)) (fun _ _ _ _ _ => pts_nil) (fun _ _ _ _ _ => pe_call GW hr (by rfl) gW kW bW .nil pass0 (pa_cons (pv 1) (pa_cons pe_int (pa_cons (pe_glob (v := .int 200) (by rfl) gT ⟨_, rfl⟩) pa_nil))))) pa_nil)))))))) (pss_one ps_never) pss_nil), ?_⟩
    refine ⟨.ref a, rfl, .ref a, .ty "tuple", .type "tuple", .type "tuple", true, rfl, .ty _, .base (.tup e1), kit_ty (by decide +kernel), true, rfl, ?_⟩
    refine ⟨.ref a, rfl, a, limsV d n, rfl, .inr (sqt_of e1), _, _, rfl, rfl, true, congrArg V.bl (decide_eq_true (by rw [lims_len]; omega)), ?_⟩
    refine ⟨_, _, rfl, rfl, true, congrArg V.bl (decide_eq_true (by rw [lims_len]; omega)), ?_⟩
    refine ⟨.ref a, rfl, a, rfl, ⟨_, sqt_of e1⟩, fun D hD => lc_tup (xs := limsV d n) (fun i H' => Same H H' ∧ H' D = some (.lst ((List.replicate i true).map V.bl))) ⟨same_upd hD, upd_same⟩ (fun i H' _ h => sqt_of (h.1 _ _ e1)) ?_ ?_⟩
    · rintro i x H' hx ⟨sx, eD⟩
      obtain rfl := lims_at hx
      have hi := (List.getElem?_eq_some_iff.mp hx).1
      rw [lims_len] at hi
      refine ⟨rfl, r_yes ?_⟩
      refine ⟨.int (d : Int), rfl, (d : Int), 0, 200, rfl, _, eD, smallM2 (by rw [List.length_map, List.length_replicate]; omega), ?_, ?_⟩
      · intro b o e
        rw [upd_ne (ne_of_none e hD)]
        exact sx _ _ e
      · rw [upd_same, List.replicate_succ', List.map_append, decide_eq_true (show (0 : Int) ≤ d ∧ (d : Int) ≤ 200 by omega)]; rfl
    · rintro H' ⟨sx, eD⟩
      refine ⟨D, _, rfl, sql_of eD, true, congrArg V.bl (all_repI _), ?_⟩
      exact q H' sx
theorem scChkT : FnScope ["limits", "many"] ["limits"] (defScope sChkT) := ⟨rfl, rfl, rfl, by decide +kernel, rfl, by decide +kernel, by decide +kernel⟩
theorem sum_rep (d : Int) : ∀ n : Nat, (List.replicate n d).sum = (n : Int) * d
  | 0 => by simp
  | n + 1 => by
    rw [List.replicate_succ, List.sum_cons, sum_rep d n]
    rw [show ((n + 1 : Nat) : Int) = (n : Int) + 1 from by omega, Int.add_mul]
    omega
theorem ok_chkt {f : Addr} {fd : FuncData} {k : Nat} (F : Fun K "check_tree" "check_tree" sChkT f fd) (B : Blt mg) : FnOk P w K mg base CX0 (k + 1) f fd ["limits"] spChk := by
  refine F.ok scChkT (fun vs H Q E h => ?_) (fun cdv A outer s H vs Q E hr h => ?_)
  · obtain ⟨a, d, n, rfl, _⟩ := h
    rfl
  · obtain ⟨a, d, n, rfl, e1, ⟨g1, g2, g3, g4⟩, q⟩ := h
    refine ⟨_, pss_cons (ps_set (i := 1) scChkT.nd rfl (.inl rfl) (pe_callB call_len_seq (by rfl) B.len PySem.boot_len (pa_cons (pv 0) pa_nil)))
      (pss_one (ps_if (PW.pt (pw_and (pt_cmpR op_gt (pv 1) pe_int (nomark _)) (pw_and1 (PW.pt (pw_or (pt_cmpR op_in_seq pe_int (pv 0) (by rfl)) (pw_or1 (pt_cmpR op_lt (pe_callB (cr_sumT rfl) (by rfl) B.sum PyProof.Rows.boot_sum (pa_cons (pv 0) pa_nil)) (pe_op op_mul pe_int (pe_op op_sub (pv 1) pe_int)) (nomark _)))))))) (pss_one ps_never) pss_nil)), ?_⟩
    refine rs_set ?_
    refine ⟨.ref a, rfl, a, limsV d n, rfl, .inr (sqt_of e1), ?_⟩
    rw [lims_len]
    refine ⟨.int (n : Int), rfl, _, _, rfl, rfl, true, congrArg V.bl (decide_eq_true (by omega)), ?_⟩
    have hin : inV (.int 0) (limsV d n) = false := by
      unfold inV limsV
      rw [List.any_eq_false]
      intro y hy
      rw [List.eq_of_mem_replicate hy]
      show ¬ ((d : Int) == 0) = true
      simp
      omega
    refine ⟨.ref a, rfl, a, limsV d n, rfl, .inr (sqt_of e1), rfl, ?_, false, congrArg V.bl hin, ?_⟩
    · rw [List.all_eq_true]
      intro y hy
      rw [List.eq_of_mem_replicate hy]; rfl
    refine ⟨.ref a, rfl, a, List.replicate n (d : Int), rfl, by rw [List.map_replicate]; exact sqt_of e1, ?_⟩
    refine ⟨.int (n : Int), rfl, _, _, rfl, rfl, _, _, rfl, rfl, .inl ⟨by decide, by decide⟩, _, _, rfl, rfl, false, congrArg V.bl (decide_eq_false ?_), ?_⟩
    · rw [sum_rep]
      have : (n : Int) * 2 ≤ (n : Int) * d := Int.mul_le_mul_of_nonneg_left (by omega) (by omega)
      omega
    · exact q H (Same.refl _)
end
end HI

set_option Elab.async false
set_option linter.all false
set_option maxRecDepth 100000
set_option maxHeartbeats 4000000
namespace HI
open PySem L2 PyProof.Rows Hw
abbrev sLow : Stmt := topS 21
def ordD (d j : Nat) : PyData := .tuple [.int (-(d : Int)), .int (j : Int)]
def tiD (t : Tie) : PyData := .tuple [.int t.1, .int t.2]
theorem dataLt_ti (a b : Tie) : PySem.W.dataLt (tiD a) (tiD b) = (decide (a.1 < b.1) || (decide (a.1 = b.1) && decide (a.2 < b.2))) := by
  unfold tiD
  rw [PySem.W.dataLt_pair (by simp [PySem.W.alike]) (by simp [PySem.W.alike]), PySem.W.dataLt_int, PySem.W.dataLt_int]
  simp only [PyData.eqv]
  by_cases h1 : a.1 = b.1
  · by_cases h2 : a.2 = b.2 <;> simp [h1, h2]
  · simp [h1]
/-- data of pairs of ints, one ahead of the other, stand sorted -/
theorem sorted_pairs {l : List (Addr × Tie)} (h : (l.map (·.2)).Pairwise fun a b => a.1 < b.1 ∨ (a.1 = b.1 ∧ a.2 < b.2)) : (l.map fun x => (V.ref x.1, tiD x.2)).mergeSort (PySem.W.dataLe false (·.2)) = l.map fun x => (V.ref x.1, tiD x.2) := by
  refine List.mergeSort_of_pairwise ?_
  rw [List.pairwise_map] at h ⊢
  refine h.imp fun {x y} hxy => ?_
  rw [PySem.W.dataLe_eq]
  show (!PySem.W.dataLt (tiD y.2) (tiD x.2)) = true
  rw [dataLt_ti]
  rcases hxy with h | ⟨h1, h2⟩
  · have a : ¬ y.2.1 < x.2.1 := by omega
    have b : ¬ y.2.1 = x.2.1 := by omega
    simp [a, b]
  · have a : ¬ y.2.1 < x.2.1 := by omega
    have b : ¬ y.2.2 < x.2.2 := by omega
    simp [a, b]
theorem alike_ti (xs : List Tie) : PySem.W.AllAlike (xs.map tiD) := by
  intro d hd d' hd'
  obtain ⟨a, _, rfl⟩ := List.mem_map.mp hd
  obtain ⟨b, _, rfl⟩ := List.mem_map.mp hd'
  unfold tiD
  simp [PySem.W.alike, PySem.W.alikeAll]
theorem sortable_ti (xs : List Tie) : PySem.W.Sortable (xs.map tiD) := .inl fun d hd => by
  obtain ⟨a, _, rfl⟩ := List.mem_map.mp hd
  exact ⟨.int a.1, [.int a.2], rfl⟩
theorem depth_ti (a : Tie) : (tiD a).depth ≤ 50 := by
  unfold tiD
  simp [PyData.depth, PyData.depthAll]
/-- sorted of a list of refs to ascending pairs: as it stands -/
theorem sort_tied {K : PySem.W.Frag} {H : Hp} {a : Addr} {tp : List Addr} {ts : List Tie} {Q : VK} (e : H a = some (.lst (tp.map V.ref))) (hp : Paired (TieL H) tp ts) (ho : ts.Pairwise fun a b => a.1 < b.1 ∨ (a.1 = b.1 ∧ a.2 < b.2)) (hl : ts.length ≤ 1000)
    (q : ∀ p, H p = none → Q (.ref p) (upd H p (.lst (tp.map V.ref)))) : rSortB K [.ref a] H Q := by
  obtain ⟨l, rfl, rfl, hl3⟩ := zip_of hp
  have b1 : (l.map fun x => (V.ref x.1, tiD x.2)).map (·.1) = (l.map (·.1)).map V.ref := by rw [List.map_map, List.map_map]; rfl
  have b2 : (l.map fun x => (V.ref x.1, tiD x.2)).map (·.2) = (l.map (·.2)).map tiD := by rw [List.map_map, List.map_map]; rfl
  refine ⟨a, l.map fun x => (V.ref x.1, tiD x.2), rfl, by rw [b1]; exact sql_of e, fun b hb => ?_, by rw [b2]; exact alike_ti _, by rw [b2]; exact sortable_ti _, ?_, fun p np => ?_⟩
  · obtain ⟨x, hx, rfl⟩ := List.mem_map.mp hb
    exact ⟨.tup (sqt_of (hl3 x hx)) (.cons (.int _) (.cons (.int _) .nil)), depth_ti _⟩
  · rw [List.length_map] at hl ⊢
    exact Nat.le_of_lt (smallM2 (by omega))
  · rw [sorted_pairs ho, b1]
    exact q p np
def ordL (d n : Nat) : List Tie := (List.range n).map fun j => (-(d : Int), ((j : Nat) : Int))
theorem ord_asc (d n : Nat) : (ordL d n).Pairwise fun a b => a.1 < b.1 ∨ (a.1 = b.1 ∧ a.2 < b.2) := by
  unfold ordL
  rw [List.pairwise_map]
  exact List.pairwise_lt_range.imp fun {a b} h => .inr ⟨rfl, by show ((a : Nat) : Int) < ((b : Nat) : Int); omega⟩
theorem ties_asc (d n : Nat) : (tiesL d n).Pairwise fun a b => a.1 < b.1 ∨ (a.1 = b.1 ∧ a.2 < b.2) := by
  unfold tiesL
  rw [List.pairwise_map]
  refine List.pairwise_lt_range.imp fun {a b} h => ?_
  have hm := par_mono (d := d) (show a ≤ b by omega)
  by_cases e : par d a = par d b
  · exact .inr ⟨by show ((par d a : Nat) : Int) = ((par d b : Nat) : Int); omega, by show ((a + 1 : Nat) : Int) < ((b + 1 : Nat) : Int); omega⟩
  · exact .inl (by show ((par d a : Nat) : Int) < ((par d b : Nat) : Int); omega)
def roomL (d i : Nat) : List Int := List.replicate d 0 ++ (List.range i).flatMap fun j => List.replicate (d - 1) ((j + 1 : Nat) : Int)
theorem room_succ (d i : Nat) : roomL d (i + 1) = roomL d i ++ List.replicate (d - 1) ((i + 1 : Nat) : Int) := by
  unfold roomL
  rw [List.range_succ, List.flatMap_append, List.append_assoc]
  simp
theorem room_len (d : Nat) : ∀ i, (roomL d i).length = d + i * (d - 1)
  | 0 => by unfold roomL; simp
  | i + 1 => by rw [room_succ, List.length_append, room_len d i, List.length_replicate, Nat.add_mul]; omega
theorem room2 : ((List.range 60).all fun i => decide ((roomL 2 i)[i]? = some ((par 2 i : Nat) : Int))) = true := by decide +kernel
theorem room3 : ((List.range 60).all fun i => decide ((roomL 3 i)[i]? = some ((par 3 i : Nat) : Int))) = true := by decide +kernel
theorem room4 : ((List.range 60).all fun i => decide ((roomL 4 i)[i]? = some ((par 4 i : Nat) : Int))) = true := by decide +kernel
theorem room5 : ((List.range 60).all fun i => decide ((roomL 5 i)[i]? = some ((par 5 i : Nat) : Int))) = true := by decide +kernel
theorem room_at {d i : Nat} (g1 : 2 ≤ d) (g2 : d ≤ 5) (hi : i < 60) : (roomL d i)[i]? = some ((par d i : Nat) : Int) := by
  have hm : i ∈ List.range 60 := List.mem_range.mpr hi
  have h : d = 2 ∨ d = 3 ∨ d = 4 ∨ d = 5 := by omega
  rcases h with rfl | rfl | rfl | rfl
  · exact of_decide_eq_true (List.all_eq_true.mp room2 _ hm)
  · exact of_decide_eq_true (List.all_eq_true.mp room3 _ hm)
  · exact of_decide_eq_true (List.all_eq_true.mp room4 _ hm)
  · exact of_decide_eq_true (List.all_eq_true.mp room5 _ hm)
theorem flat_rep {α : Type} (x : α) : ∀ n : Nat, (List.replicate n [x]).flatten = List.replicate n x
  | 0 => rfl
  | n + 1 => by rw [List.replicate_succ, List.flatten_cons, flat_rep x n, List.replicate_succ]; rfl
def othI (n : Nat) : List Int := (List.range (n - 1)).map fun i => ((i + 1 : Nat) : Int)
theorem ns_cons {n : Nat} (h : 0 < n) : nsI n = 0 :: othI n := by
  obtain ⟨m, rfl⟩ : ∃ m, n = m + 1 := ⟨n - 1, by omega⟩
  unfold nsI othI
  rw [List.range_succ_eq_map, List.map_cons, List.map_map]
  rfl
theorem oth_len (n : Nat) : (othI n).length = n - 1 := by unfold othI; rw [List.length_map, List.length_range]
theorem oth_at {n j : Nat} {x : V} (h : ((othI n).map V.int)[j]? = some x) : j < n - 1 ∧ x = .int ((j + 1 : Nat) : Int) := by
  have hj := (List.getElem?_eq_some_iff.mp h).1
  rw [List.length_map, oth_len] at hj
  refine ⟨hj, ?_⟩
  unfold othI at h
  rw [List.map_map, List.getElem?_map, List.getElem?_range hj] at h
  exact (Option.some.inj h).symm
theorem ties_at {d n j : Nat} (h : j < n - 1) : (tiesL d n)[j]? = some (((par d j : Nat) : Int), ((j + 1 : Nat) : Int)) := by
  unfold tiesL
  rw [List.getElem?_map, List.getElem?_range h]; rfl
theorem ord_at {d n j : Nat} {t : Tie} (h : (ordL d n)[j]? = some t) : j < n ∧ t = (-(d : Int), ((j : Nat) : Int)) := by
  have hj := (List.getElem?_eq_some_iff.mp h).1
  unfold ordL at hj
  rw [List.length_map, List.length_range] at hj
  refine ⟨hj, ?_⟩
  unfold ordL at h
  rw [List.getElem?_map, List.getElem?_range hj] at h
  exact (Option.some.inj h).symm
theorem ns_at {n j : Nat} (h : j < n) : (nsI n)[j]? = some ((j : Nat) : Int) := by
  unfold nsI
  rw [List.getElem?_map, List.getElem?_range h]; rfl
theorem ord_len (d n : Nat) : (ordL d n).length = n := by unfold ordL; rw [List.length_map, List.length_range]
theorem ties_len (d n : Nat) : (tiesL d n).length = n - 1 := by unfold tiesL; rw [List.length_map, List.length_range]
def spLow : Sp := fun vs H Q _ => ∃ (a : Addr) (d n : Nat), vs = [.ref a] ∧ H a = some (.tup (limsV d n)) ∧ GoodL d n ∧ ∀ (t : Addr) (qs : List Addr) H', Same H H' → H' t = some (.tup (qs.map V.ref)) → Paired (TieL H') qs (tiesL d n) → Q (.ref t) H'
theorem lims_get {d n i : Nat} (h : i < n) : (limsV d n)[i]? = some (.int (d : Int)) := by
  unfold limsV
  rw [List.getElem?_replicate, if_pos h]
theorem r_sortB {K : PySem.W.Frag} {σ : L2.St} {H1 : Hp} {D : Addr} {Q' : VK} (h : rSortB K [V.ref D] H1 Q') : tNil σ H1 fun xs H2 => (fun vs H1 => rSortB K vs H1 Q') (V.ref D :: xs) H2 := h
section
variable {P : Program} {w : World} {K : PySem.W.Frag} {mg : Str → Option Value} {base : Heap}
abbrev nLow : List Str := ["limits", "order", "first", "others", "room", "ties", "at", "place", "limit", "pair"]
theorem scLow : FnScope nLow ["limits"] (defScope sLow) := ⟨rfl, rfl, rfl, by decide +kernel, rfl, by decide +kernel, by decide +kernel⟩
theorem ok_low {f fP : Addr} {fd fdP : FuncData} {k : Nat} (F : Fun K "low_tree" "low_tree" sLow f fd) (be : mg "enumerate" = none) (bs : mg "sorted" = none) (bt : mg "tuple" = none)
    (GP : FnOk P w K mg base CX0 k fP fdP ["one", "other"] spPairI) (gP : mg "pair_of" = some (.ref fP)) (kP : PySem.W.keepIn K (.ref fP) = true) (bP : Binds K fdP ["one", "other"] []) :
    FnOk P w K mg base CX0 (k + 1) f fd ["limits"] spLow := by
  refine F.ok scLow (fun vs H Q E h => ?_) (fun cdv A outer s H vs Q E hr h => ?_)
  · obtain ⟨a, d, n, rfl, _⟩ := h
    rfl
  · obtain ⟨a, d, n, rfl, e1, ⟨g1, g2, g3, g4⟩, q⟩ := h
    have hu64 := hr.units
    refine ⟨_, pss_cons (ps_set (i := 1) scLow.nd rfl (.inl rfl) (pe_callB (cr_sortB hu64) (by rfl) bs PyProof.Rows.boot_sorted (pa_cons (pe_lc (own := [("place", 7), ("limit", 8)]) (g := gTup K 2 (gCons (gName 7) (gCons (gName 8) gNil))) (tt := tYes) (te := tTup (tCons (tUn (rU fun i => V.int (-i)) (tVar 8)) (tCons (tVar 7) tNil))) rfl scLow.nd (pi_enumT (by rfl) be (pa_cons (pv 0) pa_nil))
          (blkOk_by (N := nLow) (sc := defScope sLow) (by decide +kernel)) (fun _ _ _ _ _ => pg_tup rfl (pgs_cons (pg_name (i := 7) scLow.nd rfl (Or.inl rfl)) (pgs_cons (pg_name (i := 8) scLow.nd rfl (Or.inl rfl)) pgs_nil))) (fun _ _ _ _ _ => pts_nil)
          (fun _ _ _ _ _ => pe_tup (pa_cons (pe_un un_neg (pv 8)) (pa_cons (pv 7) pa_nil)))) pa_nil)))
      (pss_cons (ps_asg (pe_lc (own := [("pair", 9)]) (g := gName 9) (tt := tYes) (te := tOp (rIxT K) (tVar 9) (tC (.int 1))) rfl scLow.nd (pi_list (pv 1))
          (blkOk_by (N := nLow) (sc := defScope sLow) (by decide +kernel)) (fun _ _ _ _ _ => pg_name (i := 9) scLow.nd rfl (Or.inl rfl)) (fun _ _ _ _ _ => pts_nil) (fun _ _ _ _ _ => pe_ix ix_tup (pv 9) pe_int (fun _ _ => rfl)))
        (pg_star2 rfl (pg_name (i := 2) scLow.nd rfl (.inl rfl)) (pg_name (i := 3) scLow.nd rfl (.inl rfl))))
      (pss_cons (ps_set (i := 4) scLow.nd rfl (.inl rfl) (pe_op op_rep (pe_lst (pa_cons (pv 2) pa_nil)) (pe_ix ix_tup (pv 0) (pv 2) (fun _ _ => rfl))))
      (pss_cons (ps_set (i := 5) scLow.nd rfl (.inl rfl) (pe_lst pa_nil))
      (pss_cons (ps_for PassesOwn.never rfl (pi_enum (by rfl) be (pa_cons (pv 3) pa_nil)) (pg_tup rfl (pgs_cons (pg_name (i := 6) scLow.nd rfl (Or.inl rfl)) (pgs_cons (pg_name (i := 7) scLow.nd rfl (Or.inl rfl)) pgs_nil)))
        (pss_cons (ps_expr (pe_bm PySem.F.plainAttrs_list PySem.F.slot_list_append PySem.F.type_list_append mt_append (pv 5) (pa_cons (pe_call GP hr (by rfl) gP kP bP .nil pass0 (pa_cons (pe_ix ix_list (pv 4) (pv 6) (fun _ _ => rfl)) (pa_cons (pv 7) pa_nil))) pa_nil)))
        (pss_one (ps_expr (pe_bm PySem.F.plainAttrs_list PySem.F.slot_list_extend PySem.F.type_list_extend mt_extend (pv 4) (pa_cons (pe_op op_rep (pe_lst (pa_cons (pv 7) pa_nil)) (pe_op op_sub (pe_ix ix_tup (pv 0) (pv 7) (fun _ _ => rfl)) pe_int)) pa_nil))))))
      (pss_one (ps_ret (pe_callTy call_tuple_of (by rfl) bt PyProof.Rows.boot_tuple (pa_cons (pe_callB (cr_sortB hu64) (by rfl) bs PyProof.Rows.boot_sorted (pa_cons (pv 5) pa_nil)) pa_nil)))))))), ?_⟩
    refine rs_set ?_
    refine ⟨.ref a, rfl, a, limsV d n, rfl, sqt_of e1, fun D nD => lc_it walk_enumT (fun i H' => Same H H' ∧ ∃ tp : List Addr, H' D = some (.lst (tp.map V.ref)) ∧ Paired (TieL H') tp (ordL d i)) ⟨same_upd nD, [], upd_same, .nil⟩ (fun i H' _ h => sqt_of (h.1 _ _ e1)) ?_ ?_⟩
    · rintro i x H' H'' hi ⟨sx, tp, eD, hp⟩ ⟨T, u, v, rfl, nT, rfl, hu, hv⟩
      obtain rfl : V.int (i : Int) = u := Option.some.inj hu
      obtain rfl := lims_at hv
      rw [lims_len] at hi
      have sT := same_upd (o := .tup [.int (i : Int), .int (d : Int)]) nT
      refine ⟨T, [.int (i : Int), .int (d : Int)], rfl, sqt_of upd_same, rfl, _, [.int (d : Int)], rfl, _, [], rfl, rfl, rfl, r_yes ?_⟩
      refine ⟨.int (d : Int), rfl, _, rfl, .int (i : Int), rfl, by show 2 ≤ sizeLine; decide, fun p np => ?_⟩
      have s2 := same_upd (o := .tup [.int (-(d : Int)), .int (i : Int)]) np
      have eD1 := sT _ _ eD
      have npD : p ≠ D := fun y => by rw [y, eD1] at np; cases np
      have htp : tp.length ≤ 61 := by rw [Paired.length hp, ord_len]; omega
      refine ⟨_, s2 _ _ eD1, smallM2 (by rw [List.length_map]; omega), fun b o e => ?_, tp ++ [p], by rw [upd_same, List.map_append]; rfl, ?_⟩
      · rw [upd_ne (ne_of_none e nD)]; exact s2 _ _ (sT _ _ (sx _ _ e))
      · have eo : ordL d (i + 1) = ordL d i ++ [(-(d : Int), ((i : Nat) : Int))] := by unfold ordL; rw [List.range_succ, List.map_append]; rfl
        rw [eo]
        refine snocP ?_ (paired_mono (fun q t e => ?_) hp)
        · show (upd _ D _) p = _
          rw [upd_ne npD, upd_same]
        · have e : H' q = _ := e
          show (upd _ D _) q = _
          rw [upd_ne (fun y => by rw [y, eD] at e; cases e)]
          exact s2 _ _ (sT _ _ e)
    rintro H1 ⟨s1, tp, eD, hp⟩
    rw [lims_len] at hp
    refine r_sortB ?_
    refine sort_tied eD hp (ord_asc d n) (by rw [ord_len]; omega) fun p1 np1 => ?_
    have s2 := same_upd (o := .lst (tp.map V.ref)) np1
    have e1l : (upd H1 p1 (.lst (tp.map V.ref))) p1 = some (.lst (tp.map V.ref)) := upd_same
    have hp2 : Paired (TieL (upd H1 p1 (.lst (tp.map V.ref)))) tp (ordL d n) := paired_mono (fun q t e => s2 _ _ e) hp
    have s12 := s1.trans s2
    generalize (upd H1 p1 (.lst (tp.map V.ref))) = H2 at s12 e1l hp2 ⊢
    clear s1 s2 np1 nD eD hp
    have htl : tp.length = n := by rw [Paired.length hp2, ord_len]
    refine rs_t ?_
    refine ⟨.ref p1, rfl, p1, rfl, ⟨_, sql_of e1l⟩, fun D2 nD2 => lc_list (xs := tp.map V.ref) (fun i H' => Same H2 H' ∧ H' D2 = some (.lst (((nsI n).take i).map V.int))) ⟨same_upd nD2, upd_same⟩ (fun i H' _ h => sql_of (h.1 _ _ e1l)) ?_ ?_⟩
    · rintro i x H' hx ⟨sx, eD⟩
      obtain ⟨qd, hq, rfl⟩ := Hw.map_get hx
      obtain ⟨t, ht, et⟩ := Hw.paired_get hp2 hq
      obtain ⟨hi, rfl⟩ := ord_at ht
      refine ⟨rfl, r_yes ?_⟩
      refine ⟨.ref qd, rfl, qd, _, 1, .int (i : Int), rfl, rfl, sqt_of (sx _ _ et), atI_nat (j := 1) rfl, _, eD, smallM2 (by rw [List.length_map, List.length_take, ns_len]; omega), fun b o e => ?_, ?_⟩
      · rw [upd_ne (ne_of_none e nD2)]; exact sx _ _ e
      · rw [upd_same, Hw.take_snoc (ns_at hi), List.map_append]; rfl
    rintro H3 ⟨s3, eD3⟩
    rw [List.length_map, htl, List.take_of_length_le (by rw [ns_len]; exact Nat.le_refl _), ns_cons (by omega)] at eD3
    have s13 := s12.trans s3
    refine ⟨D2, .int 0, (othI n).map V.int, rfl, sql_of eD3, smallM2 (by rw [List.length_map, oth_len]; omega), fun p2 np2 => ?_⟩
    have s14 := s13.trans (same_upd (o := .lst ((othI n).map V.int)) np2)
    have eo : (upd H3 p2 (.lst ((othI n).map V.int))) p2 = some (.lst ((othI n).map V.int)) := upd_same
    generalize (upd H3 p2 (.lst ((othI n).map V.int))) = H4 at s14 eo ⊢
    clear s3 s13 s12 nD2 eD3 np2 hp2 e1l
    refine r_gname ?_
    refine r_gname ?_
    refine rs_set ?_
    refine ⟨.int 0, rfl, by show 1 ≤ sizeLine; decide, fun p3 np3 => ?_⟩
    have s15 := same_upd (o := .lst [.int 0]) np3
    refine ⟨.ref a, rfl, .int 0, rfl, a, limsV d n, 0, .int (d : Int), rfl, rfl, sqt_of (s15 _ _ (s14 _ _ e1)), atI_nat (j := 0) (lims_get (by omega)), p3, (d : Int), [.int 0], rfl, rfl, upd_same, by omega, by omega, Nat.le_of_lt (smallM2 (by show 1 * _ ≤ _; omega)), fun p4 np4 => ?_⟩
    rw [flat_rep, Int.toNat_natCast]
    have er0 : List.replicate d (V.int 0) = (roomL d 0).map V.int := by unfold roomL; simp
    rw [er0]
    have s16 := s15.trans (same_upd (o := .lst ((roomL d 0).map V.int)) np4)
    have er : (upd (upd H4 p3 (.lst [.int 0])) p4 (.lst ((roomL d 0).map V.int))) p4 = some (.lst ((roomL d 0).map V.int)) := upd_same
    have n4 : H p4 = none := s14.free (s15.free np4)
    have n24 : p2 ≠ p4 := fun y => by rw [← y, s15 _ _ eo] at np4; cases np4
    generalize (upd (upd H4 p3 (.lst [.int 0])) p4 (.lst ((roomL d 0).map V.int))) = H5 at s16 er ⊢
    have eo5 := s16 _ _ eo
    have s05 := s14.trans s16
    clear s15 np3 np4 s16 eo s14
    refine rs_set ⟨Nat.zero_le _, fun p5 np5 => ?_⟩
    have s06 := s05.trans (same_upd (o := .lst []) np5)
    have n5 : H p5 = none := s05.free np5
    have n25 : p2 ≠ p5 := fun y => by rw [← y, eo5] at np5; cases np5
    have n45 : p4 ≠ p5 := fun y => by rw [← y, er] at np5; cases np5
    have eo6 := (same_upd (o := .lst []) np5) _ _ eo5
    have er6 := (same_upd (o := .lst []) np5) _ _ er
    have et6 : (upd H5 p5 (.lst [])) p5 = some (.lst []) := upd_same
    generalize (upd H5 p5 (.lst [])) = H6 at s06 eo6 er6 et6 ⊢
    clear np5 eo5 er s05
    refine rs_enum (i := 3) (p := p2) rfl (sql_of eo6) (fun i σ' H' => ∃ o6 o7, σ' = [some (.ref a), some (.ref p1), some (.int 0), some (.ref p2), some (.ref p4), some (.ref p5), o6, o7, none, none] ∧ Same H H' ∧ H' p2 = some (.lst ((othI n).map V.int)) ∧ H' p4 = some (.lst ((roomL d i).map V.int)) ∧ ∃ qs : List Addr, H' p5 = some (.lst (qs.map V.ref)) ∧ Paired (TieL H') qs ((tiesL d n).take i))
      ⟨_, _, rfl, s06, eo6, er6, [], et6, .nil⟩ (fun i σ' H' _ ⟨_, _, _, _, e, _⟩ => sql_of e) ?_ ?_
    · rintro j x σ' H' T hj ⟨o6, o7, rfl, sx, eo', er', qs, et', hq⟩ nT hx
      obtain ⟨hjn, rfl⟩ := oth_at hx
      have hpj := par_le (d := d) (i := j) g1
      have hql : qs.length ≤ 61 := by rw [Paired.length hq, List.length_take]; omega
      have sT := same_upd (o := .tup [.int (j : Int), .int ((j + 1 : Nat) : Int)]) nT
      refine g2_of (sqt_of upd_same) ?_
      refine rs_bm ⟨.ref p5, rfl, .inl ⟨rfl, _, sql_of (sT _ _ et')⟩, ?_⟩
      refine ⟨.ref p4, rfl, .int (j : Int), rfl, p4, (roomL d j).map V.int, (j : Int), .int ((par d j : Nat) : Int), rfl, rfl, sql_of (sT _ _ er'), atI_nat (by rw [List.getElem?_map, room_at g1 g2 (by omega)]; rfl), .int ((j + 1 : Nat) : Int), rfl, _, _, rfl, by omega, fun p6 np6 => ?_⟩
      have s6 := same_upd (o := .tup [.int ((par d j : Nat) : Int), .int ((j + 1 : Nat) : Int)]) np6
      have sT6 := sT.trans s6
      have e66 : (upd (upd H' T (.tup [.int (j : Int), .int ((j + 1 : Nat) : Int)])) p6 (.tup [.int ((par d j : Nat) : Int), .int ((j + 1 : Nat) : Int)])) p6 = some (.tup [.int ((par d j : Nat) : Int), .int ((j + 1 : Nat) : Int)]) := upd_same
      generalize (upd (upd H' T (.tup [.int (j : Int), .int ((j + 1 : Nat) : Int)])) p6 (.tup [.int ((par d j : Nat) : Int), .int ((j + 1 : Nat) : Int)])) = H7 at sT6 e66 ⊢
      have et7 := sT6 _ _ et'
      have er7 := sT6 _ _ er'
      have eo7 := sT6 _ _ eo'
      have s07 := sx.trans sT6
      have hq7 : Paired (TieL H7) (qs ++ [p6]) ((tiesL d n).take (j + 1)) := by
        rw [Hw.take_snoc (ties_at hjn)]
        exact snocP (F := TieL H7) e66 (paired_mono (fun q t e => sT6 _ _ e) hq)
      clear np6 s6 sT6 sT nT e66 hq sx eo' er' et'
      refine ⟨p5, _, _, rfl, rfl, et7, smallM2 (by rw [List.length_map]; omega), ?_⟩
      have e48 : (upd H7 p5 (.lst (qs.map V.ref ++ [.ref p6]))) p4 = some (.lst ((roomL d j).map V.int)) := by rw [upd_ne n45]; exact er7
      have e28 : (upd H7 p5 (.lst (qs.map V.ref ++ [.ref p6]))) p2 = some (.lst ((othI n).map V.int)) := by rw [upd_ne n25]; exact eo7
      have e58 : (upd H7 p5 (.lst (qs.map V.ref ++ [.ref p6]))) p5 = some (.lst ((qs ++ [p6]).map V.ref)) := by rw [upd_same, List.map_append]; rfl
      have s08 : Same H (upd H7 p5 (.lst (qs.map V.ref ++ [.ref p6]))) := fun b o e => by rw [upd_ne (ne_of_none e n5)]; exact s07 _ _ e
      have hq8 : Paired (TieL (upd H7 p5 (.lst (qs.map V.ref ++ [.ref p6])))) (qs ++ [p6]) ((tiesL d n).take (j + 1)) := paired_mono (fun q t e => by
        have e : H7 q = _ := e
        show (upd H7 p5 _) q = _
        rw [upd_ne (fun y => by rw [y, et7] at e; cases e)]
        exact e) hq7
      generalize (upd H7 p5 (.lst (qs.map V.ref ++ [.ref p6]))) = H8 at e48 e28 e58 s08 hq8 ⊢
      clear hq7 s07 et7 er7 eo7
      show tDrop _ _ _ _
      refine ⟨.ref p4, rfl, .inl ⟨rfl, _, sql_of e48⟩, .int ((j + 1 : Nat) : Int), rfl, by show 1 ≤ sizeLine; decide, fun p8 np8 => ?_⟩
      have s9 := same_upd (o := .lst [.int ((j + 1 : Nat) : Int)]) np8
      refine ⟨.ref a, rfl, .int ((j + 1 : Nat) : Int), rfl, a, limsV d n, ((j + 1 : Nat) : Int), .int (d : Int), rfl, rfl, sqt_of (s9 _ _ (s08 _ _ e1)), atI_nat (lims_get (by omega)), _, _, rfl, rfl, p8, (d : Int) - 1, [.int ((j + 1 : Nat) : Int)], rfl, rfl, upd_same, by omega, by omega, Nat.le_of_lt (smallM2 (by show 1 * _ ≤ _; omega)), fun p9 np9 => ?_⟩
      rw [flat_rep, show ((d : Int) - 1).toNat = d - 1 from by omega]
      have s10 := s9.trans (same_upd (o := .lst (List.replicate (d - 1) (.int ((j + 1 : Nat) : Int)))) np9)
      have e99 : (upd (upd H8 p8 (.lst [.int ((j + 1 : Nat) : Int)])) p9 (.lst (List.replicate (d - 1) (.int ((j + 1 : Nat) : Int))))) p9 = some (.lst (List.replicate (d - 1) (.int ((j + 1 : Nat) : Int)))) := upd_same
      generalize (upd (upd H8 p8 (.lst [.int ((j + 1 : Nat) : Int)])) p9 (.lst (List.replicate (d - 1) (.int ((j + 1 : Nat) : Int))))) = H9 at s10 e99 ⊢
      have hrl : (roomL d j).length ≤ 1000 := by
        rw [room_len]
        have : j * (d - 1) ≤ 60 * 4 := Nat.mul_le_mul (by omega) (by omega)
        omega
      refine ⟨p4, p9, _, _, rfl, rfl, s10 _ _ e48, e99, Nat.le_of_lt (smallM2 (by rw [List.length_map, List.length_replicate]; omega)), ?_⟩
      refine ⟨_, _, rfl, fun b o e => ?_, ?_, ?_, qs ++ [p6], ?_, paired_mono (fun q t e => ?_) hq8⟩
      · rw [upd_ne (ne_of_none e n4)]; exact s10 _ _ (s08 _ _ e)
      · rw [upd_ne n24]; exact s10 _ _ e28
      · rw [upd_same, room_succ, List.map_append, List.map_replicate]
      · rw [upd_ne (Ne.symm n45)]; exact s10 _ _ e58
      · have e : H8 q = _ := e
        show (upd H9 p4 _) q = _
        rw [upd_ne (fun y => by rw [y, e48] at e; cases e)]
        exact s10 _ _ e
    · rintro σ' H' ⟨o6, o7, rfl, sx, eo', er', qs, et', hq⟩
      rw [List.length_map, oth_len, List.take_of_length_le (by rw [ties_len]; exact Nat.le_refl _)] at hq
      refine ⟨.ref p5, rfl, ?_⟩
      refine r_sortB ?_
      refine sort_tied et' hq (ties_asc d n) (by rw [ties_len]; omega) fun p10 n10 => ⟨p10, _, rfl, .inl ⟨sql_of upd_same, fun p11 n11 => ?_⟩⟩
      have s2 := (same_upd (o := .lst (qs.map V.ref)) n10).trans (same_upd (o := .tup (qs.map V.ref)) n11)
      exact q p11 qs _ (sx.trans s2) upd_same (paired_mono (fun q t e => s2 _ _ e) hq)
end
end HI

set_option Elab.async false
set_option linter.all false
set_option maxRecDepth 100000
set_option maxHeartbeats 4000000
namespace HI
open PySem L2 PyProof.Rows Hw
abbrev sLeast : Stmt := topS 20
structure ChkOk (d n : Nat) : Prop where
  e0 : endOk (tiesL d n) n 0 = true
  e1 : endOk (tiesL d n) n (lastR (tiesL d n) n 0).2 = true
  mem : (lastR (tiesL d n) n 0).2 ∈ nsI n
  pos : 1 ≤ leastV d n
  few : leastV d n ≤ 100
  enough : (n : Int) ≤ roomV (leastV d n) d
  least : roomV (leastV d n - 1) d < (n : Int)
  floor : (n : Int) ≤ 1 + (d : Int) * layS (leastV d n) d
theorem chks {d n : Nat} (g : GoodL d n) : ChkOk d n := by
  have h := chk_ok g
  unfold chkAll at h
  simp only [Bool.and_eq_true, decide_eq_true_eq] at h
  obtain ⟨⟨⟨⟨⟨⟨⟨h1, h2⟩, h3⟩, h4⟩, h5⟩, h6⟩, h7⟩, h8⟩ := h
  exact ⟨h1, h2, h3, h4, h5, h6, h7, h8⟩
def spLeast : Sp := fun vs H Q _ => ∃ (a : Addr) (d n : Nat), vs = [.ref a] ∧ H a = some (.tup (limsV d n)) ∧ GoodL d n ∧ ∀ (p t : Addr) H', Same H H' → H' p = some (.tup [.int (leastV d n : Nat), .ref t]) → Q (.ref p) H'
theorem rs_drop {te : TE} {u : TS} {D : Ends} {σ : L2.St} {H : Hp} (h : te σ H fun _ H1 => u D σ H1) : tSeq (tDrop te) u D σ H := h
section
variable {P : Program} {w : World} {K : PySem.W.Frag} {mg : Str → Option Value} {base : Heap}
theorem scWay : FnScope ["many", "ties", "tied"] ["many", "ties"] (defScope sWay) := ⟨rfl, rfl, rfl, by decide +kernel, rfl, by decide +kernel, by decide +kernel⟩
theorem ok_way {f fT fL : Addr} {fd fdT fdL : FuncData} {k : Nat} (F : Fun K "way_through" "way_through" sWay f fd) (B : Blt mg)
    (GT : FnOk P w K mg base CX0 k fT fdT ["places", "ties"] spTied) (gT : mg "tied_by" = some (.ref fT)) (kT : PySem.W.keepIn K (.ref fT) = true) (bT : Binds K fdT ["places", "ties"] [])
    (GL : FnOk P w K mg base CX0 k fL fdL ["tied", "place"] spLast) (gL : mg "last_reached" = some (.ref fL)) (kL : PySem.W.keepIn K (.ref fL) = true) (bL : Binds K fdL ["tied", "place"] []) :
    FnOk P w K mg base CX0 (k + 1) f fd ["many", "ties"] spWay := by
  refine F.ok scWay (fun vs H Q E h => ?_) (fun cdv A outer s H vs Q E hr h => ?_)
  · obtain ⟨t, d, n, qs, rfl, _⟩ := h
    rfl
  · obtain ⟨t, d, n, qs, rfl, g, et, hq, q⟩ := h
    have ck := chks g
    have fine := ties_fine g
    obtain ⟨g1, g2, g3, g4⟩ := id g
    refine ⟨_, pss_cons (ps_set (i := 2) scWay.nd rfl (.inl rfl) (pe_call GT hr (by rfl) gT kT bT .nil pass0 (pa_cons (pe_listRg rfl (by rfl) B.list (prg_1 (by rfl) B.range (pv 0))) (pa_cons (pv 1) pa_nil))))
      (pss_one (ps_ret (pe_ix ix_tup (pe_call GL hr (by rfl) gL kL bL .nil pass0 (pa_cons (pv 2) (pa_cons (pe_ix ix_tup (pe_call GL hr (by rfl) gL kL bL .nil pass0 (pa_cons (pv 2) (pa_cons pe_int pa_nil))) pe_int (fun _ _ => rfl)) pa_nil))) pe_int (fun _ _ => rfl)))), ?_⟩
    refine rs_set ?_
    refine ⟨.int (n : Int), rfl, _, rfl, .of_le (by omega) (by omega) (by omega) (by omega), fun p np => ?_⟩
    have er : rgV 0 (n : Int) = (nsI n).map V.int := by
      unfold rgV nsI
      rw [List.map_map, Int.sub_zero, Int.toNat_natCast]
      refine List.map_congr_left fun i _ => ?_
      show V.int (0 + (i : Int)) = V.int (i : Int)
      rw [Int.zero_add]
    rw [er]
    have s1 := same_upd (o := .lst ((nsI n).map V.int)) np
    refine ⟨.ref t, rfl, p, t, nsI n, tiesL d n, qs, rfl, fine, upd_same, s1 _ _ et, paired_mono (fun q t e => s1 _ _ e) hq, fun D fa H2 s2 nl nD nf => ?_⟩
    have hnb : ∀ m ∈ nsI n, ∀ o ∈ nbr (tiesL d n) m, o ∈ nsI n := fun m _ o ho => nbr_mem fine.tie ho
    refine ⟨.ref D, rfl, .ref D, rfl, D, 0, fa, nsI n, tiesL d n, n, rfl, nl, mem_ns (i := 0) (by omega), by rw [ns_len]; omega, hnb, ck.e0, fun q1 H3 s3 e3 => ?_⟩
    refine ⟨q1, _, 1, .int (lastR (tiesL d n) n 0).2, rfl, rfl, sqt_of e3, atI_nat (j := 1) rfl, D, (lastR (tiesL d n) n 0).2, fa, nsI n, tiesL d n, n, rfl, nl.keep s3, ck.mem, by rw [ns_len]; omega, hnb, ck.e1, fun q2 H4 s4 e4 => ?_⟩
    exact ⟨q2, _, 0, .int (leastV d n : Nat), rfl, rfl, sqt_of e4, atI_nat (j := 0) rfl, q H4 (((s1.trans s2).trans s3).trans s4)⟩
theorem scLeast : FnScope ["limits", "ties"] ["limits"] (defScope sLeast) := ⟨rfl, rfl, rfl, by decide +kernel, rfl, by decide +kernel, by decide +kernel⟩
theorem ok_least {f fC fT fL fW : Addr} {fd fdC fdT fdL fdW : FuncData} {k : Nat} (F : Fun K "least_far" "least_far" sLeast f fd) (B : Blt mg)
    (GC : FnOk P w K mg base CX0 k fC fdC ["value"] spChk) (gC : mg "check_limits" = some (.ref fC)) (kC : PySem.W.keepIn K (.ref fC) = true) (bC : Binds K fdC ["value"] [])
    (GT : FnOk P w K mg base CX0 k fT fdT ["limits"] spChk) (gT : mg "check_tree" = some (.ref fT)) (kT : PySem.W.keepIn K (.ref fT) = true) (bT : Binds K fdT ["limits"] [])
    (GL : FnOk P w K mg base CX0 k fL fdL ["limits"] spLow) (gL : mg "low_tree" = some (.ref fL)) (kL : PySem.W.keepIn K (.ref fL) = true) (bL : Binds K fdL ["limits"] [])
    (GW : FnOk P w K mg base CX0 k fW fdW ["many", "ties"] spWay) (gW : mg "way_through" = some (.ref fW)) (kW : PySem.W.keepIn K (.ref fW) = true) (bW : Binds K fdW ["many", "ties"] []) :
    FnOk P w K mg base CX0 (k + 1) f fd ["limits"] spLeast := by
  refine F.ok scLeast (fun vs H Q E h => ?_) (fun cdv A outer s H vs Q E hr h => ?_)
  · obtain ⟨a, d, n, rfl, _⟩ := h
    rfl
  · obtain ⟨a, d, n, rfl, e1, g, q⟩ := h
    refine ⟨_, pss_cons (ps_expr (pe_call GC hr (by rfl) gC kC bC .nil pass0 (pa_cons (pv 0) pa_nil)))
      (pss_cons (ps_expr (pe_call GT hr (by rfl) gT kT bT .nil pass0 (pa_cons (pv 0) pa_nil)))
      (pss_cons (ps_set (i := 1) scLeast.nd rfl (.inl rfl) (pe_call GL hr (by rfl) gL kL bL .nil pass0 (pa_cons (pv 0) pa_nil)))
      (pss_one (ps_ret (pe_tup (pa_cons (pe_call GW hr (by rfl) gW kW bW .nil pass0 (pa_cons (pe_callB call_len_seq (by rfl) B.len PySem.boot_len (pa_cons (pv 0) pa_nil)) (pa_cons (pv 1) pa_nil))) (pa_cons (pv 1) pa_nil))))))), ?_⟩
    refine rs_drop ⟨.ref a, rfl, a, d, n, rfl, e1, g, fun H1 s1 => ?_⟩
    refine rs_drop ⟨.ref a, rfl, a, d, n, rfl, s1 _ _ e1, g, fun H2 s2 => ?_⟩
    have e2 := s2 _ _ (s1 _ _ e1)
    refine rs_set ?_
    refine ⟨.ref a, rfl, a, d, n, rfl, e2, g, fun t qs H3 s3 et hq => ?_⟩
    have e3 := s3 _ _ e2
    refine ⟨.ref a, rfl, a, limsV d n, rfl, .inr (sqt_of e3), ?_⟩
    rw [lims_len]
    refine ⟨.ref t, rfl, t, d, n, qs, rfl, g, et, hq, fun H4 s4 => ⟨.ref t, rfl, by show 2 ≤ sizeLine; decide, fun p np => ?_⟩⟩
    exact q p t _ ((((s1.trans s2).trans s3).trans s4).trans (same_upd np)) upd_same
end
end HI

set_option Elab.async false
set_option linter.all false
set_option maxRecDepth 100000
set_option maxHeartbeats 4000000
namespace Hw
open PySem L2 PyProof.Rows
section
variable {P : Program} {w : World} {K : PySem.W.Frag} {mg : Str → Option Value} {base : Heap}
def gRev : List Value → List Value → List Value := fun us ws => match us with
  | [] => ws.reverse
  | _ :: _ => []
def gVRev : List V → List V → List V := fun us ws => match us with
  | [] => ws.reverse
  | _ :: _ => []
theorem vals_rev : ∀ {vs : List V} {us : List Value}, Vals vs us → Vals vs.reverse us.reverse
  | _, _, .nil => .nil
  | _, _, .cons r t => by
    rw [List.reverse_cons, List.reverse_cons]
    exact (vals_rev t).append (.cons r .nil)
theorem rev_rel {vs : List V} {us : List Value} {zs : List V} {ws : List Value} (r : Vals vs us) (h : Vals zs ws) : Vals (gVRev vs zs) (gRev us ws) := by
  cases r with
  | nil => exact vals_rev h
  | cons _ _ => exact .nil
theorem kb2 {K : PySem.W.Frag} {fd : FuncData} {ps ks : List Str} (hp : ps.length = 2) (h : ∀ (s : Shared) (a b : Value), BindsTo s fd ⟨[], ks.zip [a, b]⟩ (ps.zip [b, a])) : KBinds K fd ps ks gRev gVRev := by
  refine ⟨fun s us ws _ hl => ?_, rev_rel⟩
  rw [hp] at hl
  cases us with
  | cons u us => cases hl
  | nil =>
    have hl : ws.reverse.length = 2 := hl
    rw [List.length_reverse] at hl
    match ws, hl with
    | [a, b], _ => exact h s a b
def gSame : List Value → List Value → List Value := fun us ws => match us with
  | [] => ws
  | _ :: _ => []
def gVSame : List V → List V → List V := fun us ws => match us with
  | [] => ws
  | _ :: _ => []
theorem same_rel {vs : List V} {us : List Value} {zs : List V} {ws : List Value} (r : Vals vs us) (h : Vals zs ws) : Vals (gVSame vs zs) (gSame us ws) := by
  cases r with
  | nil => exact h
  | cons _ _ => exact .nil
theorem kbS2 {K : PySem.W.Frag} {fd : FuncData} {p q : Str} (h : ∀ (s : Shared) (a b : Value), BindsTo s fd ⟨[], [(p, a), (q, b)]⟩ [(p, a), (q, b)]) : KBinds K fd [p, q] [p, q] gSame gVSame := by
  refine ⟨fun s us ws _ hl => ?_, same_rel⟩
  cases us with
  | cons u us => cases hl
  | nil =>
    have hl : ws.length = 2 := hl
    match ws, hl with
    | [a, b], _ => exact h s a b
theorem Pot.put {H : Hp} {x D : Addr} {N : Nat} {o : HO} (h : Pot H x N) (ne : x ≠ D) : Pot (upd H D o) x N := by
  obtain ⟨u, v, z, e, hh⟩ := h.ex
  exact ⟨u, v, z, by rw [upd_ne ne]; exact e, hh⟩
theorem Pot.sx {H H' : Hp} {x a : Addr} {N : Nat} (h : Pot H x N) (ne : x ≠ a) (s : SameX a H H') : Pot H' x N := by
  obtain ⟨u, v, z, e, hh⟩ := h.ex
  exact ⟨u, v, z, s _ _ ne e, hh⟩
theorem pot_ne_refs {H : Hp} {a l : Addr} {N : Nat} {qs : List Addr} (h : Pot H a N) (e : H l = some (.lst (qs.map V.ref))) : a ≠ l := by
  rintro rfl
  obtain ⟨x, y, z, e', _⟩ := h.ex
  rw [e] at e'
  cases qs with
  | nil => cases e'
  | cons q qs => cases e'
end
end Hw

set_option Elab.async false
set_option linter.all false
set_option maxRecDepth 100000
set_option maxHeartbeats 4000000
namespace HI
open PySem L2 PyProof.Rows Hw
abbrev sRight : Stmt := topS 32
abbrev sLaw : Stmt := topS 33
/-! numbers of up to sixty signs are told -/
theorem big_int {v : Int} (h0 : 0 ≤ v) (h1 : v < 10 ^ 60) : (PyData.int v).showable = true ∧ (PyData.int v).depth ≤ 60 ∧ (PyData.int v).shown.length ≤ sizeLine := by
  refine ⟨?_, ?_, ?_⟩
  · rw [PyData.showable]
    refine decide_eq_true ?_
    by_cases hz : v.natAbs = 0
    · rw [hz]; decide
    · refine (Nat.log2_lt hz).mpr ?_
      have a : v.natAbs < 10 ^ 60 := by
        have e : ((10 : Int) ^ 60) = ((10 ^ 60 : Nat) : Int) := by norm_cast
        omega
      have b : (10 : Nat) ^ 60 < 2 ^ 1920 := by decide +kernel
      exact Nat.lt_trans a b
  · rw [PyData.depth]; decide
  · rw [PyData.shown_int]
    exact Nat.le_trans (toString_length_le h0 (k := 60) (by decide) h1) (Nat.le_of_lt (smallM2 (by decide)))
theorem big_few {v : Int} (h0 : 0 ≤ v) (h1 : v ≤ 1000000) : v < 10 ^ 60 := by
  have e : (1000000 : Int) < 10 ^ 60 := by decide +kernel
  omega
theorem pow_le {m : Int} (h1 : 1 ≤ m) (h2 : m ≤ 201) : ∀ i : Nat, (m - 1) ^ i ≤ ((201 : Int) - 1) ^ i
  | 0 => by rw [Int.pow_zero, Int.pow_zero]; decide
  | i + 1 => by
    rw [Int.pow_succ, Int.pow_succ]
    exact Int.mul_le_mul (pow_le h1 h2 i) (by omega) (by omega) (pow_nn (by decide) i)
theorem lay_le {m : Int} (h1 : 1 ≤ m) (h2 : m ≤ 201) : ∀ n : Nat, layS n m ≤ layS n 201
  | 0 => Int.le_refl _
  | n + 1 => by
    have a := lay_le h1 h2 n
    have b := pow_le h1 h2 n
    show layS n m + (m - 1) ^ n ≤ layS n 201 + (201 - 1) ^ n
    omega
theorem lay_mono {m : Int} (h1 : 1 ≤ m) : ∀ {n k : Nat}, layS n m ≤ layS (n + k) m
  | n, 0 => Int.le_refl _
  | n, k + 1 => by
    have a := lay_mono h1 (n := n) (k := k)
    have b := pow_nn h1 (n + k)
    show layS n m ≤ layS (n + k) m + (m - 1) ^ (n + k)
    omega
theorem lay_bound {m : Int} (h1 : 1 ≤ m) (h2 : m ≤ 200) {n : Nat} (hn : n ≤ 21) : layS n m ≤ 10 ^ 55 := by
  have a := lay_le h1 (by omega) n
  have b : layS n 201 ≤ layS (n + (21 - n)) 201 := lay_mono (by decide)
  rw [show n + (21 - n) = 21 from by omega] at b
  have c : layS 21 201 ≤ 10 ^ 55 := by decide +kernel
  omega
theorem room_bound {m : Int} (h1 : 1 ≤ m) (h2 : m ≤ 200) {f : Nat} (hf : f ≤ 40) : 0 ≤ roomV f m ∧ roomV f m < 10 ^ 60 := by
  have e60 : ((10 : Int) ^ 60) = 100000 * 10 ^ 55 := by decide +kernel
  unfold roomV
  by_cases hp : f % 2 = 0
  · rw [if_pos hp]
    have a := lay_nn h1 (f / 2)
    have b := lay_bound h1 h2 (n := f / 2) (by omega)
    have c : m * layS (f / 2) m ≤ 200 * 10 ^ 55 := Int.mul_le_mul h2 b a (by decide)
    have d : 0 ≤ m * layS (f / 2) m := Int.mul_nonneg (by omega) a
    rw [e60]
    omega
  · rw [if_neg hp]
    have a := lay_nn h1 (f / 2 + 1)
    have b := lay_bound h1 h2 (n := f / 2 + 1) (by omega)
    rw [e60]
    omega
theorem floor_few {many most : Int} {r : Nat} (h1 : 1 ≤ many) (h2 : 1 ≤ most) (h3 : most = 1 → many ≤ 2) (h : IsFloor many most r) : (r : Int) ≤ many := by
  cases r with
  | zero => show (0 : Int) ≤ many; omega
  | succ r =>
    have := floor_lt h1 h2 h3 (h.1 r (Nat.lt_succ_self r))
    omega
end HI

set_option Elab.async false
set_option linter.all false
set_option maxRecDepth 100000
set_option maxHeartbeats 4000000
namespace HI
open PySem L2 PyProof.Rows Hw
theorem rs_ifM {t : TT} {A u : TS} {D : Ends} {σ : L2.St} {H : Hp} (b : Bool) (M : L2.St → Hp → Prop) (ht : ∀ Q : Bool → Hp → Prop, Q b H → t σ H Q) (hA : b = true → ∀ D' : Ends, D'.rt = D.rt → (∀ σ' H', M σ' H' → D'.nx σ' H') → A D' σ H) (h0 : b = false → M σ H) (hu : ∀ σ' H', M σ' H' → u D σ' H') : tSeq (tIfS t A tNext) u D σ H := by
  refine ht _ ?_
  cases b with
  | true => exact hA rfl _ rfl hu
  | false => exact hu _ _ (h0 rfl)
def spRight : Sp := fun vs H Q _ => ∃ (a : Addr), vs = [.ref a] ∧ Pot H a 0 ∧ ∀ H', SameX a H H' → Q (.bl true) H'
section
variable {P : Program} {w : World} {K : PySem.W.Frag} {mg : Str → Option Value} {base : Heap}
abbrev nRight : List Str := ["pot", "lap", "far", "most", "many", "few", "limit", "least"]
theorem scRight : FnScope nRight ["pot"] (defScope sRight) := ⟨rfl, rfl, rfl, by decide +kernel, rfl, by decide +kernel, by decide +kernel⟩
theorem ok_right {f fT fO fTR fLR fWF fLF fLe : Addr} {fd fdT fdO fdTR fdLR fdWF fdLF fdLe : FuncData} {k : Nat} (F : Fun K "_law_right" "_law_right" sRight f fd) (B : Blt mg) (br : mg "repr" = none) (bi : mg "isinstance" = none) (bb : mg "bool" = none)
    (GT : FnOk P w K mg base CX0 k fT fdT ["pot", "upto"] spTake) (gT : mg "_law_take" = some (.ref fT)) (kT : PySem.W.keepIn K (.ref fT) = true) (bT : Binds K fdT ["pot", "upto"] [])
    (GO : FnOk P w K mg base CX0 k fO fdO ["pot", "some"] (spOf2 K)) (gO : mg "_law_of" = some (.ref fO)) (kO : PySem.W.keepIn K (.ref fO) = true) (bO : Binds K fdO ["pot", "some"] [])
    (GTR : FnOk P w K mg base CX0 k fTR fdTR ["far", "most"] spTreeRoom) (gTR : mg "tree_room" = some (.ref fTR)) (kTR : PySem.W.keepIn K (.ref fTR) = true) (bTR : KBinds K fdTR ["far", "most"] ["most", "far"] gRev gVRev)
    (GLR : FnOk P w K mg base CX0 k fLR fdLR ["far", "most"] spLRoom) (gLR : mg "_law_room" = some (.ref fLR)) (kLR : PySem.W.keepIn K (.ref fLR) = true) (bLR : Binds K fdLR ["far", "most"] [])
    (GWF : FnOk P w K mg base CX0 k fWF fdWF ["many", "most"] spFloor) (gWF : mg "web_floor" = some (.ref fWF)) (kWF : PySem.W.keepIn K (.ref fWF) = true) (bWF : KBinds K fdWF ["many", "most"] ["many", "most"] gSame gVSame)
    (GLF : FnOk P w K mg base CX0 k fLF fdLF ["many", "most"] spFloor) (gLF : mg "_law_floor" = some (.ref fLF)) (kLF : PySem.W.keepIn K (.ref fLF) = true) (bLF : Binds K fdLF ["many", "most"] [])
    (GLe : FnOk P w K mg base CX0 k fLe fdLe ["limits"] spLeast) (gLe : mg "least_far" = some (.ref fLe)) (kLe : PySem.W.keepIn K (.ref fLe) = true) (bLe : Binds K fdLe ["limits"] []) :
    FnG P w K mg base CX0 (k + 1) f fd ["pot"] spRight := by
  refine funG F scRight (fun vs H Q E h => ?_) (fun cdv A outer s H vs Q E hg h => ?_)
  · obtain ⟨a, rfl, _⟩ := h
    rfl
  · obtain ⟨a, rfl, hP, q⟩ := h
    have hr := hg.r
    have hun := hr.un
    have hgg := hg.g
    have h100 : (A.deeper (envOfC "_law_right" (defScope sRight) s.heap.objs.size f cdv)).units + 100 < cLine := by omega
    refine ⟨_, pss_cons (ps_for PassesOwn.never rfl (pi_range1 (by rfl) B.range (pa_cons pe_int pa_nil)) (pg_name (i := 1) scRight.nd rfl (.inl rfl))
        (pss_cons (ps_par (i := 2) (j := 3) rfl scRight.nd rfl rfl (by decide) rfl rfl (pa_cons (pe_callTy call_int1 (by rfl) B.int PyProof.Rows.boot_int (pa_cons (pe_call GT hr (by rfl) gT kT bT .nil pass0 (pa_cons (pv 0) (pa_cons pe_int pa_nil))) pa_nil))
            (pa_cons (pe_callTy call_int1 (by rfl) B.int PyProof.Rows.boot_int (pa_cons (pe_call GO hr (by rfl) gO kO bO .nil pass0 (pa_cons (pv 0) (pa_cons (pe_lst (pa_cons pe_int (pa_cons pe_int (pa_cons pe_int (pa_cons pe_int (pa_cons (pe_op op_add pe_int (pe_call GT hr (by rfl) gT kT bT .nil pass0 (pa_cons (pv 0) (pa_cons pe_int pa_nil)))) pa_nil)))))) pa_nil))) pa_nil)) pa_nil)) rfl)
        (pss_cons (ps_if (pt_cmpR op_ne (pe_callB (call_repr hgg h100) (by rfl) br PyProof.Rows.boot_repr (pa_cons (pe_callK0 GTR hr (by rfl) gTR kTR bTR pass0 (pk_cons (pv 3) (pk_cons (pv 2) pk_nil))) pa_nil))
            (pe_callB (call_repr hgg h100) (by rfl) br PyProof.Rows.boot_repr (pa_cons (pe_call GLR hr (by rfl) gLR kLR bLR .nil pass0 (pa_cons (pv 2) (pa_cons (pv 3) pa_nil))) pa_nil)) (nomark _)) (pss_one (ps_ret pe_bl)) pss_nil)
        (pss_cons (ps_set (i := 4) scRight.nd rfl (.inl rfl) (pe_callTy call_int1 (by rfl) B.int PyProof.Rows.boot_int (pa_cons (pe_call GO hr (by rfl) gO kO bO .nil pass0 (pa_cons (pv 0) (pa_cons (pe_lst (pa_cons (pe_op op_add pe_int (pe_call GT hr (by rfl) gT kT bT .nil pass0 (pa_cons (pv 0) (pa_cons pe_int pa_nil)))) (pa_cons (pe_op op_add pe_int (pe_call GT hr (by rfl) gT kT bT .nil pass0 (pa_cons (pv 0) (pa_cons pe_int pa_nil)))) (pa_cons pe_int (pa_cons pe_int pa_nil))))) pa_nil))) pa_nil)))
        (pss_cons (ps_if (PW.pt (pw_or (pt_cmpR op_gt (pv 3) pe_int (nomark _)) (pw_or1 (pt_cmpR op_lt (pv 4) pe_int (nomark _)))))
            (pss_cons (ps_set (i := 4) scRight.nd rfl (.inl rfl) (pe_ifExp (pt_cmpR op_eq (pv 3) pe_int (nomark _)) (pe_callB (call_min2 rfl) (by rfl) B.min PyProof.Rows.boot_min (pa_cons (pv 4) (pa_cons pe_int pa_nil))) (pv 4)))
            (pss_one (ps_if (pt_cmpR op_ne (pe_callB (call_repr hgg h100) (by rfl) br PyProof.Rows.boot_repr (pa_cons (pe_callK0 GWF hr (by rfl) gWF kWF bWF pass0 (pk_cons (pv 4) (pk_cons (pv 3) pk_nil))) pa_nil))
              (pe_callB (call_repr hgg h100) (by rfl) br PyProof.Rows.boot_repr (pa_cons (pe_call GLF hr (by rfl) gLF kLF bLF .nil pass0 (pa_cons (pv 4) (pa_cons (pv 3) pa_nil))) pa_nil)) (nomark _)) (pss_one (ps_ret pe_bl)) pss_nil))) pss_nil)
        (pss_cons (ps_par (i := 5) (j := 6) rfl scRight.nd rfl rfl (by decide) rfl rfl (pa_cons (pe_callTy call_int1 (by rfl) B.int PyProof.Rows.boot_int (pa_cons (pe_op op_add pe_int (pe_call GT hr (by rfl) gT kT bT .nil pass0 (pa_cons (pv 0) (pa_cons pe_int pa_nil)))) pa_nil))
            (pa_cons (pe_callTy call_int1 (by rfl) B.int PyProof.Rows.boot_int (pa_cons (pe_op op_add pe_int (pe_call GT hr (by rfl) gT kT bT .nil pass0 (pa_cons (pv 0) (pa_cons pe_int pa_nil)))) pa_nil)) pa_nil)) rfl)
        (pss_cons (ps_set (i := 7) scRight.nd rfl (.inl rfl) (pe_ix ix_tup (pe_call GLe hr (by rfl) gLe kLe bLe .nil pass0 (pa_cons (pe_op op_repT (pe_tup (pa_cons (pv 6) pa_nil)) (pv 5)) pa_nil)) pe_int (fun _ _ => rfl)))
        (pss_cons (ps_if (PW.pt (pw_or (pt_not (pt_val (pe_callB call_isi (by rfl) bi PyProof.Rows.boot_isinstance (pa_cons (pv 7) (pa_cons (pe_bltn (v := .ty "int") (by rfl) B.int (by decide +kernel) rfl) pa_nil)))))
            (pw_or1 (pt_val (pe_callB call_isi (by rfl) bi PyProof.Rows.boot_isinstance (pa_cons (pv 7) (pa_cons (pe_bltn (v := .ty "bool") (by rfl) bb (by decide +kernel) rfl) pa_nil))))))) (pss_one (ps_ret pe_bl)) pss_nil)
        (pss_one (ps_if (PW.pt (pw_or (pt_cmpR op_lt (pe_call GLR hr (by rfl) gLR kLR bLR .nil pass0 (pa_cons (pv 7) (pa_cons (pv 6) pa_nil))) (pv 5) (nomark _))
            (pw_or (pt_cmpR op_ge (pe_call GLR hr (by rfl) gLR kLR bLR .nil pass0 (pa_cons (pe_op op_sub (pv 7) pe_int) (pa_cons (pv 6) pa_nil))) (pv 5) (nomark _))
            (pw_or1 (pt_cmpR op_lt (pv 7) (pe_call GLF hr (by rfl) gLF kLF bLF .nil pass0 (pa_cons (pv 5) (pa_cons (pv 6) pa_nil))) (nomark _)))))) (pss_one (ps_ret pe_bl)) pss_nil))))))))))
      (pss_one (ps_ret pe_bl)), ?_⟩
    refine rs_rng 0 (12 : Int).toNat (fun H' => H' = H) (fun i σ' H' => ∃ o1 o2 o3 o4 o5 o6 o7, σ' = [some (.ref a), o1, o2, o3, o4, o5, o6, o7] ∧ SameX a H H' ∧ Pot H' a (10 * i)) (fun R hR => ⟨12, rfl, by decide, by decide, hR H rfl⟩) (fun H' e => by subst e; exact ⟨_, _, _, _, _, _, _, rfl, SameX.refl a _, hP⟩) ?_ ?_
    · rintro i σ' H1 hi ⟨o1, o2, o3, o4, o5, o6, o7, rfl, sx, hp⟩
      have hi12 : i < 12 := hi
      refine r_gname ?_
      refine rs_par ?_
      refine ⟨.ref a, rfl, a, 41, 10 * i, rfl, hp, by omega, by decide, by decide, fun r H2 r0 r1 s2 hp2 => .inl ⟨_, rfl, ?_⟩⟩
      obtain ⟨far, rfl⟩ : ∃ m : Nat, r = (m : Int) := ⟨r.toNat, by omega⟩
      refine ⟨.ref a, rfl, .ref a, rfl, a, 200, _, rfl, hp2, by omega, by decide, by decide, fun r2 H3 q0 q1 s3 hp3 => ⟨_, _, rfl, rfl, by show 5 ≤ sizeLine; decide, fun l1 n1 => .inl ⟨a, l1, [.int 1, .int 2, .int 3, .int 4, .int (1 + r2)], _, rfl, hp3.same (same_upd n1), by omega, sql_of upd_same, fun e => hp3.some (e ▸ n1), by show 0 < 5; decide, by show 5 < 1000000000; decide, fun ix v H4 hv s4 hp4 => ?_⟩⟩⟩
      obtain ⟨most, rfl, m1, m2⟩ : ∃ m : Int, v = .int m ∧ 1 ≤ m ∧ m ≤ 200 := by
        have := List.mem_of_getElem? hv
        simp only [List.mem_cons, List.not_mem_nil, or_false] at this
        rcases this with rfl | rfl | rfl | rfl | rfl
        · exact ⟨1, rfl, by decide, by decide⟩
        · exact ⟨2, rfl, by decide, by decide⟩
        · exact ⟨3, rfl, by decide, by decide⟩
        · exact ⟨4, rfl, by decide, by decide⟩
        · exact ⟨1 + r2, rfl, by omega, by omega⟩
      refine .inl ⟨_, rfl, _, _, rfl, ?_⟩
      have sx4 : SameX a H H4 := sx.trans (s2.trans (s3.trans ((SameX.of (same_upd n1)).trans s4)))
      clear sx s2 s3 n1 s4 hp hp2 hp3 hv
      have rb := room_bound m1 m2 (f := far) (by omega)
      have bg := big_int rb.1 rb.2
      refine rs_no ?_
      refine ⟨.int most, rfl, .int (far : Int), rfl, far, most, rfl, by omega, m1, m2, ?_⟩
      refine ⟨.int (roomV far most), .int (roomV far most), rfl, .inl (.int _), bg.1, bg.2.1, bg.2.2, ?_⟩
      refine ⟨.int (far : Int), rfl, .int most, rfl, far, most, rfl, by omega, m1, m2, fun H5 s5 => ?_⟩
      refine ⟨.int (roomV far most), .int (roomV far most), rfl, .inl (.int _), bg.1, bg.2.1, bg.2.2, rfl, false, congrArg V.bl (by simp), ?_⟩
      have hp5 := hp4.same s5
      have sx5 := sx4.trans (.of s5)
      clear hp4 sx4 s5
      refine rs_set ?_
      refine ⟨.ref a, rfl, .ref a, rfl, a, 40, _, rfl, hp5, by omega, by decide, by decide, fun r3 H6 t0 t1 s6 hp6 => ⟨_, _, rfl, rfl, .ref a, rfl, a, 1000000, _, rfl, hp6, by omega, by decide, by decide, fun r4 H7 u0 u1 s7 hp7 => ⟨_, _, rfl, rfl, by show 4 ≤ sizeLine; decide, fun l2 n2 => .inl ⟨a, l2, [.int (1 + r3), .int (1 + r4), .int 1000000, .int 2], _, rfl, hp7.same (same_upd n2), by omega, sql_of upd_same, fun e => hp7.some (e ▸ n2), by show 0 < 4; decide, by show 4 < 1000000000; decide, fun ix2 v2 H8 hv2 s8 hp8 => ?_⟩⟩⟩⟩
      obtain ⟨many, rfl, k1, k2⟩ : ∃ m : Int, v2 = .int m ∧ 1 ≤ m ∧ m ≤ 1000000 := by
        have := List.mem_of_getElem? hv2
        simp only [List.mem_cons, List.not_mem_nil, or_false] at this
        rcases this with rfl | rfl | rfl | rfl
        · exact ⟨1 + r3, rfl, by omega, by omega⟩
        · exact ⟨1 + r4, rfl, by omega, by omega⟩
        · exact ⟨1000000, rfl, by decide, by decide⟩
        · exact ⟨2, rfl, by decide, by decide⟩
      refine .inl ⟨_, rfl, ?_⟩
      have sx8 : SameX a H H8 := sx5.trans (s6.trans (s7.trans ((SameX.of (same_upd n2)).trans s8)))
      clear sx5 s6 s7 n2 s8 hp5 hp6 hp7 hv2
      refine rs_ifM (decide (1 < most) || decide (many < 3)) (fun σ' H' => ∃ o1 o2 o3 o4 o5 o6 o7, σ' = [some (.ref a), o1, o2, o3, o4, o5, o6, o7] ∧ SameX a H H' ∧ Pot H' a (10 * i + 1 + 1 + 1 + 1 + 1 + 1)) (fun Q1 q1 => ?_) (fun hb D' hD' hM => ?_) (fun _ => ⟨_, _, _, _, _, _, _, rfl, sx8, hp8⟩) ?_
      · refine ⟨.int most, rfl, _, _, rfl, rfl, _, rfl, ?_⟩
        cases h1 : decide (1 < most) with
        | true =>
          rw [h1] at q1
          exact q1
        | false =>
          rw [h1] at q1
          exact ⟨.int many, rfl, _, _, rfl, rfl, _, rfl, q1⟩
      · have hc : most = 1 → many ≤ 2 := fun e => by
          subst e
          simp at hb
          omega
        refine rs_set ?_
        refine ⟨.int most, rfl, rfl, _, rfl, ?_⟩
        by_cases h2 : most = 2
        · subst h2
          rw [decide_eq_true (show V.int (2 : Int) = V.int 2 from rfl)]
          show if true = true then _ else _
          rw [if_pos rfl]
          refine ⟨.int many, rfl, many, 400, rfl, ?_⟩
          have w1 : 1 ≤ (if (400 : Int) < many then 400 else many) := by split <;> omega
          have w2 : (if (400 : Int) < many then 400 else many) ≤ 1000000 := by split <;> omega
          generalize (if (400 : Int) < many then 400 else many) = mm at w1 w2 ⊢
          have w3 : (2 : Int) = 1 → mm ≤ 2 := fun e => absurd e (by decide)
          refine ⟨.int mm, rfl, .int 2, rfl, mm, 2, rfl, w1, w2, m1, m2, w3, fun r Hx hf sy => ?_⟩
          have rf := floor_few (many := mm) w1 m1 w3 hf
          have bg2 := big_int (v := (r : Int)) (by omega) (big_few (by omega) (by have : mm ≤ 1000000 := w2; omega))
          refine ⟨.int (r : Int), .int (r : Int), rfl, .inl (.int _), bg2.1, bg2.2.1, bg2.2.2, ?_⟩
          refine ⟨.int mm, rfl, .int 2, rfl, mm, 2, rfl, w1, w2, m1, m2, w3, fun r' Hy hf' sy' => ?_⟩
          obtain rfl := hf.uniq hf'
          refine ⟨.int (r : Int), .int (r : Int), rfl, .inl (.int _), bg2.1, bg2.2.1, bg2.2.2, rfl, false, congrArg V.bl (by simp), ?_⟩
          exact hM _ _ ⟨_, _, _, _, _, _, _, rfl, sx8.trans (.of (sy.trans sy')), hp8.same (sy.trans sy')⟩
        · rw [decide_eq_false (show ¬ V.int most = V.int 2 from fun e => h2 (by injection e))]
          show if false = true then _ else _
          rw [if_neg Bool.false_ne_true]
          refine ⟨.int many, rfl, ?_⟩
          refine ⟨.int many, rfl, .int most, rfl, many, most, rfl, k1, k2, m1, m2, hc, fun r Hx hf sy => ?_⟩
          have rf := floor_few (many := many) k1 m1 hc hf
          have bg2 := big_int (v := (r : Int)) (by omega) (big_few (by omega) (by have : many ≤ 1000000 := k2; omega))
          refine ⟨.int (r : Int), .int (r : Int), rfl, .inl (.int _), bg2.1, bg2.2.1, bg2.2.2, ?_⟩
          refine ⟨.int many, rfl, .int most, rfl, many, most, rfl, k1, k2, m1, m2, hc, fun r' Hy hf' sy' => ?_⟩
          obtain rfl := hf.uniq hf'
          refine ⟨.int (r : Int), .int (r : Int), rfl, .inl (.int _), bg2.1, bg2.2.1, bg2.2.2, rfl, false, congrArg V.bl (by simp), ?_⟩
          exact hM _ _ ⟨_, _, _, _, _, _, _, rfl, sx8.trans (.of (sy.trans sy')), hp8.same (sy.trans sy')⟩
      rintro σ' H9 ⟨o1, o2, o3, o4, o5, o6, o7, rfl, sx9, hp9⟩
      clear hp8 sx8
      refine rs_par ?_
      refine ⟨.ref a, rfl, a, 60, _, rfl, hp9, by omega, by decide, by decide, fun r5 H10 y0 y1 s10 hp10 => ⟨_, _, rfl, rfl, .inl ⟨_, rfl, .ref a, rfl, a, 4, _, rfl, hp10, by omega, by decide, by decide, fun r6 H11 z0 z1 s11 hp11 => ⟨_, _, rfl, rfl, .inl ⟨_, rfl, _, _, rfl, ?_⟩⟩⟩⟩⟩
      obtain ⟨m5, rfl⟩ : ∃ m : Nat, r5 = (m : Int) := ⟨r5.toNat, by omega⟩
      obtain ⟨m6, rfl⟩ : ∃ m : Nat, r6 = (m : Int) := ⟨r6.toNat, by omega⟩
      have g : GoodL (2 + m6) (2 + m5) := ⟨by omega, by omega, by omega, by omega⟩
      have ck := chks g
      have hd : ((2 + m6 : Nat) : Int) = 2 + (m6 : Int) := by omega
      have hn : ((2 + m5 : Nat) : Int) = 2 + (m5 : Int) := by omega
      have hfl : (List.replicate (2 + (m5 : Int)).toNat [V.int (2 + (m6 : Int))]).flatten = limsV (2 + m6) (2 + m5) := by
        rw [flat_rep, ← hn, ← hd, Int.toNat_natCast]; rfl
      refine rs_set ?_
      refine ⟨.int (2 + (m6 : Int)), rfl, by show 1 ≤ sizeLine; decide, fun t nt => ⟨.int (2 + (m5 : Int)), rfl, t, 2 + (m5 : Int), [.int (2 + (m6 : Int))], rfl, rfl, sqt_of upd_same, by simp, by omega, by omega, by show 1 ≤ 1000; decide, fun t2 nt2 => ?_⟩⟩
      rw [hfl]
      refine ⟨t2, 2 + m6, 2 + m5, rfl, upd_same, g, fun p tt H12 s12 e12 => ⟨p, _, 0, .int (leastV (2 + m6) (2 + m5) : Nat), rfl, rfl, sqt_of e12, atI_nat (j := 0) rfl, ?_⟩⟩
      have sx12 : SameX a H H12 := sx9.trans (s10.trans (s11.trans (.of (((same_upd nt).trans (same_upd nt2)).trans s12))))
      have hp12 : Pot H12 a (10 * i + 1 + 1 + 1 + 1 + 1 + 1 + 1 + 1) := hp11.same (((same_upd nt).trans (same_upd nt2)).trans s12)
      clear sx9 s10 s11 nt nt2 s12 hp9 hp10 hp11 e12 hfl
      obtain ⟨_, _, _, c4, c5, c6, c7, c8⟩ := ck
      rw [hd, hn] at c6 c7 c8
      generalize leastV (2 + m6) (2 + m5) = L at c4 c5 c6 c7 c8 ⊢
      refine rs_no ?_
      refine ⟨.int (L : Int), rfl, .int (L : Int), .ty "int", .type "int", .type "int", true, rfl, .ty _, .base (.int _), kit_ty (by decide +kernel), true, rfl, ?_⟩
      refine ⟨.int (L : Int), rfl, .int (L : Int), .ty "bool", .type "int", .type "bool", false, rfl, .ty _, .base (.int _), kit_ty (by decide +kernel), false, rfl, ?_⟩
      show (if false = true then _ else _)
      rw [if_neg Bool.false_ne_true]
      refine ⟨.int (L : Int), rfl, .int (2 + (m6 : Int)), rfl, L, 2 + (m6 : Int), rfl, by omega, by omega, by omega, fun H13 s13 => ⟨.int (2 + (m5 : Int)), rfl, _, _, rfl, rfl, false, congrArg V.bl (decide_eq_false (by omega)), ?_⟩⟩
      refine ⟨.int (L : Int), rfl, _, _, rfl, rfl, .int (2 + (m6 : Int)), rfl, L - 1, 2 + (m6 : Int), (by rw [show ((L - 1 : Nat) : Int) = (L : Int) - 1 from by omega]; rfl), by omega, by omega, by omega, fun H14 s14 => ⟨.int (2 + (m5 : Int)), rfl, _, _, rfl, rfl, false, congrArg V.bl (decide_eq_false (by omega)), ?_⟩⟩
      refine ⟨.int (L : Int), rfl, .int (2 + (m5 : Int)), rfl, .int (2 + (m6 : Int)), rfl, 2 + (m5 : Int), 2 + (m6 : Int), rfl, by omega, by omega, by omega, by omega, fun e => by omega, fun r H15 hf s15 => ⟨_, _, rfl, rfl, false, congrArg V.bl (decide_eq_false (fun hlt => ?_)), ?_⟩⟩
      · have := hf.1 L (by omega)
        omega
      · have sf := (s13.trans s14).trans s15
        exact ⟨_, _, _, _, _, _, _, rfl, sx12.trans (.of sf), (hp12.same sf).mono (by omega)⟩
    · rintro σ' H' ⟨o1, o2, o3, o4, o5, o6, o7, rfl, sx, _⟩
      exact q H' sx
end
end HI

set_option Elab.async false
set_option linter.all false
set_option maxRecDepth 100000
set_option maxHeartbeats 4000000
namespace HI
open PySem L2 PyProof.Rows Hw
def spLaw (K : PySem.W.Frag) : Sp := fun vs H Q _ => ∃ (a : Addr) (ns : List Int), vs = [.ref a] ∧ SqL K H a (ns.map V.int) ∧ ns.length ≤ 63 ∧ ∀ H', Q (.bl true) H'
section
variable {P : Program} {w : World} {K : PySem.W.Frag} {mg : Str → Option Value} {base : Heap}
theorem scLaw : FnScope ["script", "place"] ["script"] (defScope sLaw) := ⟨rfl, rfl, rfl, by decide +kernel, rfl, by decide +kernel, by decide +kernel⟩
theorem ok_law {f fP fC fR : Addr} {fd fdP fdC fdR : FuncData} {k : Nat} (F : Fun K "law" "law" sLaw f fd) (ba : mg "all" = none)
    (GP : FnOk P w K mg base CX0 k fP fdP ["script", "place"] (spPot K)) (gP : mg "_law_pot" = some (.ref fP)) (kP : PySem.W.keepIn K (.ref fP) = true) (bP : Binds K fdP ["script", "place"] [])
    (GC : FnOk P w K mg base CX0 k fC fdC ["script", "most"] (spCells K)) (gC : mg "_law_cells" = some (.ref fC)) (kC : PySem.W.keepIn K (.ref fC) = true) (bC : Binds K fdC ["script", "most"] [])
    (GR : FnG P w K mg base CX0 k fR fdR ["pot"] spRight) (gR : mg "_law_right" = some (.ref fR)) (kR : PySem.W.keepIn K (.ref fR) = true) (bR : Binds K fdR ["pot"] []) :
    FnG P w K mg base CX0 (k + 1) f fd ["script"] (spLaw K) := by
  refine funG F scLaw (fun vs H Q E h => ?_) (fun cdv A outer s H vs Q E hg h => ?_)
  · obtain ⟨a, ns, rfl, _⟩ := h
    rfl
  · obtain ⟨a, ns, rfl, hS, hl, q⟩ := h
    have hr := hg.r
    refine ⟨_, pss_one (ps_ret (pe_callB (cr_all rfl) (by rfl) ba PyProof.Rows.boot_all (pa_cons (pe_lc (own := [("place", 1)]) (g := gName 1) (tt := tYes) rfl scLaw.nd
      (pi_list (pe_call GC hr (by rfl) gC kC bC .nil pass0 (pa_cons (pv 0) (pa_cons pe_int pa_nil)))) (blkOk_by (N := ["script", "place"]) (sc := defScope sLaw) (by decide +kernel))
      (fun _ _ _ _ _ => pg_name (i := 1) scLaw.nd rfl (Or.inl rfl)) (fun _ _ _ _ _ => pts_nil)
      (fun _ _ _ _ _ => pe_callG GR hg (by rfl) gR kR bR .nil pass0 (pa_cons (pe_call GP hr (by rfl) gP kP bP .nil pass0 (pa_cons (pv 0) (pa_cons (pv 1) pa_nil))) pa_nil))) pa_nil))), ?_⟩
    refine r_ret ?_
    refine ⟨.ref a, rfl, a, ns.map V.int, 3, rfl, hS, by rw [List.length_map]; exact hl, by decide, by decide, fun n p H1 n0 n3 s1 np hp => ?_⟩
    refine ⟨p, rfl, ⟨_, sql_of hp⟩, fun D hD => ?_⟩
    have lenr : ((List.range n).map fun i : Nat => V.int (i : Int)).length = n := by rw [List.length_map, List.length_range]
    have nDp : p ≠ D := ne_of_none hp hD
    refine lc_list (xs := (List.range n).map fun i : Nat => V.int (i : Int)) (fun i H' => Same H1 H' ∧ H' D = some (.lst (List.replicate i (.bl true)))) ⟨same_upd hD, upd_same⟩ (fun i H' _ h => sql_of (h.1 _ _ hp)) ?_ ?_
    · rintro i x H2 hx ⟨s2, eD⟩
      rw [List.getElem?_map] at hx
      have hi : i < n := by
        cases e : (List.range n)[i]? with
        | none => rw [e] at hx; cases hx
        | some y =>
          have z := (List.getElem?_eq_some_iff.mp e).1
          rwa [List.length_range] at z
      rw [List.getElem?_range hi] at hx
      obtain rfl : V.int (i : Int) = x := Option.some.inj hx
      refine ⟨rfl, ?_⟩
      refine r_yes ?_
      refine r_call (r_cons (r_call (r_cons (r_var (v := .ref a) rfl (r_cons (r_var (v := .int (i : Int)) rfl ⟨a, ns, i, rfl, (s1.trans s2).seq hS, hl, by omega, by omega, fun pp H3 s3 np3 hp3 => ?_⟩))))))
      refine ⟨pp, rfl, hp3, fun H4 s4 => ?_⟩
      have e4 : H4 D = some (.lst (List.replicate i (.bl true))) := s4 _ _ (ne_of_none eD np3) (s3 _ _ eD)
      refine ⟨_, e4, small1000 (by rw [List.length_replicate]; omega), fun b o e => ?_, ?_⟩
      · have nb : b ≠ D := ne_of_none e hD
        rw [upd_ne nb]
        exact s4 _ _ (ne_of_none (s2 _ _ e) np3) (s3 _ _ (s2 _ _ e))
      · rw [upd_same, ← List.replicate_succ']
    · rintro H2 ⟨s2, eD⟩
      rw [lenr] at eD
      refine ⟨D, List.replicate n true, rfl, sql_of (by rw [eD, List.map_replicate]), ?_⟩
      have e : (List.replicate n true).all id = true := by simp
      rw [e]
      exact q H2
end
end HI

set_option Elab.async false
set_option linter.all false
set_option maxRecDepth 100000
set_option maxHeartbeats 4000000
namespace Hw
open PySem L2 PyProof.Rows
theorem sub_bt {K : PySem.W.Frag} {T : String} {C : Addr} {l : List Value} (h : fastBuiltinMro T = some l) (hl : l.contains (.ref C) = false) : PySem.W.subIn K (.type T) (.ref C) = some false := by
  show (fastBuiltinMro T).map (·.contains (.ref C)) = some false
  rw [h]
  show some (l.contains (.ref C)) = some false
  rw [hl]
theorem kit_no {K : PySem.W.Frag} {T : String} {C : Addr} (hd : PySem.W.hasDictIn K C = true) (hy : PySem.W.typeIn K (.ref C) = some (.type "type")) (hs : PySem.W.subIn K (.type T) (.ref C) = some false) : PySem.W.kitOne K (.type T) (.ref C) = some false := by
  have hc : (PySem.W.clsIn K C).isSome = true := by
    obtain ⟨cd, hc, _⟩ := PySem.W.any_some hd
    rw [hc]; rfl
  unfold PySem.W.kitOne
  rw [if_neg (by simp)]
  show (if ((PySem.W.clsIn K C).isSome && PySem.W.typeIn K (.ref C) == some (.type "type")) = true then PySem.W.subIn K (.type T) (.ref C) else none) = some false
  rw [if_pos (by rw [hc, hy]; simp), hs]

theorem all_mk {P : Program} {w : World} {K : PySem.W.Frag} {h : Heap} {mg : Str → Option Value} {fa  f0 f1 f2 f3 f4 f5 f6 f7 f8 f9 f10 f11 f12 f13 f14 f15 f16 f17 f18 f19 f20 : Addr} (X : K.In h) (G : h.Ns mainGlobals mg) (hfa : mg "law" = some (.ref fa))
    {od0 an0 od1 an1 od2 an2 od3 an3 od4 an4 od5 an5 od6 an6 od7 an7 od8 an8 od9 an9 od10 an10 od11 an11 od12 an12 od13 an13 od14 an14 od15 an15 od16 an16 od17 an17 od18 an18 od19 an19 od20 an20 : Option Addr} {sl0 sl1 sl2 sl3 sl4 sl5 sl6 sl7 sl8 sl9 sl10 sl11 sl12 sl13 sl14 sl15 sl16 sl17 sl18 sl19 sl20 : Array (Option Value)} {oc0 kV0 dc0 pm0 cd0 ct0 oc1 kV1 dc1 pm1 cd1 ct1 oc2 kV2 dc2 pm2 cd2 ct2 oc3 kV3 dc3 pm3 cd3 ct3 oc4 kV4 dc4 pm4 cd4 ct4 oc5 kV5 dc5 pm5 cd5 ct5 oc6 kV6 dc6 pm6 cd6 ct6 oc7 kV7 dc7 pm7 cd7 ct7 oc8 kV8 dc8 pm8 cd8 ct8 oc9 kV9 dc9 pm9 cd9 ct9 oc10 kV10 dc10 pm10 cd10 ct10 oc11 kV11 dc11 pm11 cd11 ct11 oc12 kV12 dc12 pm12 cd12 ct12 oc13 kV13 dc13 pm13 cd13 ct13 oc14 kV14 dc14 pm14 cd14 ct14 oc15 kV15 dc15 pm15 cd15 ct15 oc16 kV16 dc16 pm16 cd16 ct16 oc17 kV17 dc17 pm17 cd17 ct17 oc18 kV18 dc18 pm18 cd18 ct18 oc19 kV19 dc19 pm19 cd19 ct19 oc20 kV20 dc20 pm20 cd20 ct20 : Value} {tL tM tD tF : Tok}
    (a0 : PySem.W.nsIn K mainGlobals "is_within" = some (some (.ref f0)))
    (l0 : K.lookup f0 = some ⟨oc0, od0, .func (PySem.W.fnOf "is_within" "is_within" (defArgs HI.sWithin) (defBody HI.sWithin) (defScope HI.sWithin) .none kV0 dc0 pm0 an0 cd0 ct0), sl0⟩)
    (c0 : PySem.W.codeIn K cd0 "is_within" = true)
    (k0 : PySem.W.keepIn K (.ref f0) = true)
    (a1 : PySem.W.nsIn K mainGlobals "pair_of" = some (some (.ref f1)))
    (l1 : K.lookup f1 = some ⟨oc1, od1, .func (PySem.W.fnOf "pair_of" "pair_of" (defArgs HI.sPair) (defBody HI.sPair) (defScope HI.sPair) .none kV1 dc1 pm1 an1 cd1 ct1), sl1⟩)
    (c1 : PySem.W.codeIn K cd1 "pair_of" = true)
    (k1 : PySem.W.keepIn K (.ref f1) = true)
    (a2 : PySem.W.nsIn K mainGlobals "tied_by" = some (some (.ref f2)))
    (l2 : K.lookup f2 = some ⟨oc2, od2, .func (PySem.W.fnOf "tied_by" "tied_by" (defArgs HI.sTied) (defBody HI.sTied) (defScope HI.sTied) .none kV2 dc2 pm2 an2 cd2 ct2), sl2⟩)
    (c2 : PySem.W.codeIn K cd2 "tied_by" = true)
    (k2 : PySem.W.keepIn K (.ref f2) = true)
    (a3 : PySem.W.nsIn K mainGlobals "far_along" = some (some (.ref f3)))
    (l3 : K.lookup f3 = some ⟨oc3, od3, .func (PySem.W.fnOf "far_along" "far_along" (defArgs HI.sAlong) (defBody HI.sAlong) (defScope HI.sAlong) .none kV3 dc3 pm3 an3 cd3 ct3), sl3⟩)
    (c3 : PySem.W.codeIn K cd3 "far_along" = true)
    (k3 : PySem.W.keepIn K (.ref f3) = true)
    (a4 : PySem.W.nsIn K mainGlobals "check_limits" = some (some (.ref f4)))
    (l4 : K.lookup f4 = some ⟨oc4, od4, .func (PySem.W.fnOf "check_limits" "check_limits" (defArgs HI.sChkL) (defBody HI.sChkL) (defScope HI.sChkL) .none kV4 dc4 pm4 an4 cd4 ct4), sl4⟩)
    (c4 : PySem.W.codeIn K cd4 "check_limits" = true)
    (k4 : PySem.W.keepIn K (.ref f4) = true)
    (a5 : PySem.W.nsIn K mainGlobals "check_tree" = some (some (.ref f5)))
    (l5 : K.lookup f5 = some ⟨oc5, od5, .func (PySem.W.fnOf "check_tree" "check_tree" (defArgs HI.sChkT) (defBody HI.sChkT) (defScope HI.sChkT) .none kV5 dc5 pm5 an5 cd5 ct5), sl5⟩)
    (c5 : PySem.W.codeIn K cd5 "check_tree" = true)
    (k5 : PySem.W.keepIn K (.ref f5) = true)
    (a6 : PySem.W.nsIn K mainGlobals "way_through" = some (some (.ref f6)))
    (l6 : K.lookup f6 = some ⟨oc6, od6, .func (PySem.W.fnOf "way_through" "way_through" (defArgs HI.sWay) (defBody HI.sWay) (defScope HI.sWay) .none kV6 dc6 pm6 an6 cd6 ct6), sl6⟩)
    (c6 : PySem.W.codeIn K cd6 "way_through" = true)
    (k6 : PySem.W.keepIn K (.ref f6) = true)
    (a7 : PySem.W.nsIn K mainGlobals "last_reached" = some (some (.ref f7)))
    (l7 : K.lookup f7 = some ⟨oc7, od7, .func (PySem.W.fnOf "last_reached" "last_reached" (defArgs HI.sLast) (defBody HI.sLast) (defScope HI.sLast) .none kV7 dc7 pm7 an7 cd7 ct7), sl7⟩)
    (c7 : PySem.W.codeIn K cd7 "last_reached" = true)
    (k7 : PySem.W.keepIn K (.ref f7) = true)
    (a8 : PySem.W.nsIn K mainGlobals "least_far" = some (some (.ref f8)))
    (l8 : K.lookup f8 = some ⟨oc8, od8, .func (PySem.W.fnOf "least_far" "least_far" (defArgs HI.sLeast) (defBody HI.sLeast) (defScope HI.sLeast) .none kV8 dc8 pm8 an8 cd8 ct8), sl8⟩)
    (c8 : PySem.W.codeIn K cd8 "least_far" = true)
    (k8 : PySem.W.keepIn K (.ref f8) = true)
    (a9 : PySem.W.nsIn K mainGlobals "low_tree" = some (some (.ref f9)))
    (l9 : K.lookup f9 = some ⟨oc9, od9, .func (PySem.W.fnOf "low_tree" "low_tree" (defArgs HI.sLow) (defBody HI.sLow) (defScope HI.sLow) .none kV9 dc9 pm9 an9 cd9 ct9), sl9⟩)
    (c9 : PySem.W.codeIn K cd9 "low_tree" = true)
    (k9 : PySem.W.keepIn K (.ref f9) = true)
    (a10 : PySem.W.nsIn K mainGlobals "tree_room" = some (some (.ref f10)))
    (l10 : K.lookup f10 = some ⟨oc10, od10, .func (PySem.W.fnOf "tree_room" "tree_room" (defArgs HI.sTreeRoom) (defBody HI.sTreeRoom) (defScope HI.sTreeRoom) .none kV10 dc10 pm10 an10 cd10 ct10), sl10⟩)
    (c10 : PySem.W.codeIn K cd10 "tree_room" = true)
    (k10 : PySem.W.keepIn K (.ref f10) = true)
    (a11 : PySem.W.nsIn K mainGlobals "layers" = some (some (.ref f11)))
    (l11 : K.lookup f11 = some ⟨oc11, od11, .func (PySem.W.fnOf "layers" "layers" (defArgs HI.sLayers) (defBody HI.sLayers) (defScope HI.sLayers) .none kV11 dc11 pm11 an11 cd11 ct11), sl11⟩)
    (c11 : PySem.W.codeIn K cd11 "layers" = true)
    (k11 : PySem.W.keepIn K (.ref f11) = true)
    (a12 : PySem.W.nsIn K mainGlobals "web_floor" = some (some (.ref f12)))
    (l12 : K.lookup f12 = some ⟨oc12, od12, .func (PySem.W.fnOf "web_floor" "web_floor" (defArgs HI.sWebFloor) (defBody HI.sWebFloor) (defScope HI.sWebFloor) .none kV12 dc12 pm12 an12 cd12 ct12), sl12⟩)
    (c12 : PySem.W.codeIn K cd12 "web_floor" = true)
    (k12 : PySem.W.keepIn K (.ref f12) = true)
    (a13 : PySem.W.nsIn K mainGlobals "_law_pot" = some (some (.ref f13)))
    (l13 : K.lookup f13 = some ⟨oc13, od13, .func (PySem.W.fnOf "_law_pot" "_law_pot" (defArgs sPot) (defBody sPot) (defScope sPot) .none kV13 dc13 pm13 an13 cd13 ct13), sl13⟩)
    (c13 : PySem.W.codeIn K cd13 "_law_pot" = true)
    (k13 : PySem.W.keepIn K (.ref f13) = true)
    (a14 : PySem.W.nsIn K mainGlobals "_law_take" = some (some (.ref f14)))
    (l14 : K.lookup f14 = some ⟨oc14, od14, .func (PySem.W.fnOf "_law_take" "_law_take" (defArgs sTake) (defBody sTake) (defScope sTake) .none kV14 dc14 pm14 an14 cd14 ct14), sl14⟩)
    (c14 : PySem.W.codeIn K cd14 "_law_take" = true)
    (k14 : PySem.W.keepIn K (.ref f14) = true)
    (a15 : PySem.W.nsIn K mainGlobals "_law_of" = some (some (.ref f15)))
    (l15 : K.lookup f15 = some ⟨oc15, od15, .func (PySem.W.fnOf "_law_of" "_law_of" (defArgs sOf) (defBody sOf) (defScope sOf) .none kV15 dc15 pm15 an15 cd15 ct15), sl15⟩)
    (c15 : PySem.W.codeIn K cd15 "_law_of" = true)
    (k15 : PySem.W.keepIn K (.ref f15) = true)
    (a16 : PySem.W.nsIn K mainGlobals "_law_cells" = some (some (.ref f16)))
    (l16 : K.lookup f16 = some ⟨oc16, od16, .func (PySem.W.fnOf "_law_cells" "_law_cells" (defArgs sCells) (defBody sCells) (defScope sCells) .none kV16 dc16 pm16 an16 cd16 ct16), sl16⟩)
    (c16 : PySem.W.codeIn K cd16 "_law_cells" = true)
    (k16 : PySem.W.keepIn K (.ref f16) = true)
    (a17 : PySem.W.nsIn K mainGlobals "_law_floor" = some (some (.ref f17)))
    (l17 : K.lookup f17 = some ⟨oc17, od17, .func (PySem.W.fnOf "_law_floor" "_law_floor" (defArgs HI.sLFloor) (defBody HI.sLFloor) (defScope HI.sLFloor) .none kV17 dc17 pm17 an17 cd17 ct17), sl17⟩)
    (c17 : PySem.W.codeIn K cd17 "_law_floor" = true)
    (k17 : PySem.W.keepIn K (.ref f17) = true)
    (a18 : PySem.W.nsIn K mainGlobals "_law_room" = some (some (.ref f18)))
    (l18 : K.lookup f18 = some ⟨oc18, od18, .func (PySem.W.fnOf "_law_room" "_law_room" (defArgs HI.sLRoom) (defBody HI.sLRoom) (defScope HI.sLRoom) .none kV18 dc18 pm18 an18 cd18 ct18), sl18⟩)
    (c18 : PySem.W.codeIn K cd18 "_law_room" = true)
    (k18 : PySem.W.keepIn K (.ref f18) = true)
    (a19 : PySem.W.nsIn K mainGlobals "_law_right" = some (some (.ref f19)))
    (l19 : K.lookup f19 = some ⟨oc19, od19, .func (PySem.W.fnOf "_law_right" "_law_right" (defArgs HI.sRight) (defBody HI.sRight) (defScope HI.sRight) .none kV19 dc19 pm19 an19 cd19 ct19), sl19⟩)
    (c19 : PySem.W.codeIn K cd19 "_law_right" = true)
    (k19 : PySem.W.keepIn K (.ref f19) = true)
    (a20 : PySem.W.nsIn K mainGlobals "law" = some (some (.ref f20)))
    (l20 : K.lookup f20 = some ⟨oc20, od20, .func (PySem.W.fnOf "law" "law" (defArgs HI.sLaw) (defBody HI.sLaw) (defScope HI.sLaw) .none kV20 dc20 pm20 an20 cd20 ct20), sl20⟩)
    (c20 : PySem.W.codeIn K cd20 "law" = true)
    (k20 : PySem.W.keepIn K (.ref f20) = true)
    (eG : PySem.W.specialIn K (.builtin "object.__class__") "__get__" = some (some (.builtin "getset_descriptor.__get__")))
    (eT : PySem.W.takesIn K (.builtin "object.__class__") = some true)
    (g_MOST_LIMITS : PySem.W.nsIn K mainGlobals "MOST_LIMITS" = some (some (.int 200 tL)))
    (g_MOST_TIES : PySem.W.nsIn K mainGlobals "MOST_TIES" = some (some (.int 200 tM)))
    (g_MOST_FAR : PySem.W.nsIn K mainGlobals "MOST_FAR" = some (some (.int 40 tD)))
    (g_MOST_MANY : PySem.W.nsIn K mainGlobals "MOST_MANY" = some (some (.int 1000000 tF)))
    (z0 : PySem.W.nsIn K mainGlobals "len" = some none)
    (z1 : PySem.W.nsIn K mainGlobals "sum" = some none)
    (z2 : PySem.W.nsIn K mainGlobals "int" = some none)
    (z3 : PySem.W.nsIn K mainGlobals "abs" = some none)
    (z4 : PySem.W.nsIn K mainGlobals "list" = some none)
    (z5 : PySem.W.nsIn K mainGlobals "range" = some none)
    (z6 : PySem.W.nsIn K mainGlobals "max" = some none)
    (z7 : PySem.W.nsIn K mainGlobals "min" = some none)
    (z8 : PySem.W.nsIn K mainGlobals "isinstance" = some none)
    (z9 : PySem.W.nsIn K mainGlobals "tuple" = some none)
    (z10 : PySem.W.nsIn K mainGlobals "all" = some none)
    (z11 : PySem.W.nsIn K mainGlobals "enumerate" = some none)
    (z12 : PySem.W.nsIn K mainGlobals "sorted" = some none)
    (z13 : PySem.W.nsIn K mainGlobals "repr" = some none)
    (z14 : PySem.W.nsIn K mainGlobals "bool" = some none)
    : ∃ fd : FuncData, (∀ (s : Shared) (v : Value), BindsTo s fd ⟨[v], []⟩ [("script", v)]) ∧ ∀ base : Heap, K.In base → base.Ns mainGlobals mg → FnG P w K mg base CX0 10 fa fd ["script"] (HI.spLaw K) := by
  have e := hfa.symm.trans (PySem.W.mg_of X G a20)
  cases e
  have B : Blt mg := ⟨PySem.W.mg_none_of X G z0, PySem.W.mg_none_of X G z1, PySem.W.mg_none_of X G z2, PySem.W.mg_none_of X G z3, PySem.W.mg_none_of X G z4, PySem.W.mg_none_of X G z5, PySem.W.mg_none_of X G z6, PySem.W.mg_none_of X G z7⟩
  have F0 := fun_mk (st := HI.sWithin) l0 c0 k0
  have b0 := F0.binds (ps := ["value", "least", "most"]) fun _ _ _ _ _ _ us hl => match us, hl with | [_, _, _], _ => rfl
  have F1 := fun_mk (st := HI.sPair) l1 c1 k1
  have b1 := F1.binds (ps := ["one", "other"]) fun _ _ _ _ _ _ us hl => match us, hl with | [_, _], _ => rfl
  have F2 := fun_mk (st := HI.sTied) l2 c2 k2
  have b2 := F2.binds (ps := ["places", "ties"]) fun _ _ _ _ _ _ us hl => match us, hl with | [_, _], _ => rfl
  have F3 := fun_mk (st := HI.sAlong) l3 c3 k3
  have b3 := F3.binds (ps := ["tied", "place"]) fun _ _ _ _ _ _ us hl => match us, hl with | [_, _], _ => rfl
  have F4 := fun_mk (st := HI.sChkL) l4 c4 k4
  have b4 := F4.binds (ps := ["value"]) fun _ _ _ _ _ _ us hl => match us, hl with | [_], _ => rfl
  have F5 := fun_mk (st := HI.sChkT) l5 c5 k5
  have b5 := F5.binds (ps := ["limits"]) fun _ _ _ _ _ _ us hl => match us, hl with | [_], _ => rfl
  have F6 := fun_mk (st := HI.sWay) l6 c6 k6
  have b6 := F6.binds (ps := ["many", "ties"]) fun _ _ _ _ _ _ us hl => match us, hl with | [_, _], _ => rfl
  have F7 := fun_mk (st := HI.sLast) l7 c7 k7
  have b7 := F7.binds (ps := ["tied", "place"]) fun _ _ _ _ _ _ us hl => match us, hl with | [_, _], _ => rfl
  have F8 := fun_mk (st := HI.sLeast) l8 c8 k8
  have b8 := F8.binds (ps := ["limits"]) fun _ _ _ _ _ _ us hl => match us, hl with | [_], _ => rfl
  have F9 := fun_mk (st := HI.sLow) l9 c9 k9
  have b9 := F9.binds (ps := ["limits"]) fun _ _ _ _ _ _ us hl => match us, hl with | [_], _ => rfl
  have F10 := fun_mk (st := HI.sTreeRoom) l10 c10 k10
  have b10 := F10.binds (ps := ["far", "most"]) fun _ _ _ _ _ _ us hl => match us, hl with | [_, _], _ => rfl
  have F11 := fun_mk (st := HI.sLayers) l11 c11 k11
  have b11 := F11.binds (ps := ["many", "most"]) fun _ _ _ _ _ _ us hl => match us, hl with | [_, _], _ => rfl
  have F12 := fun_mk (st := HI.sWebFloor) l12 c12 k12
  have b12 := F12.binds (ps := ["many", "most"]) fun _ _ _ _ _ _ us hl => match us, hl with | [_, _], _ => rfl
  have F13 := fun_mk (st := sPot) l13 c13 k13
  have b13 := F13.binds (ps := ["script", "place"]) fun _ _ _ _ _ _ us hl => match us, hl with | [_, _], _ => rfl
  have F14 := fun_mk (st := sTake) l14 c14 k14
  have b14 := F14.binds (ps := ["pot", "upto"]) fun _ _ _ _ _ _ us hl => match us, hl with | [_, _], _ => rfl
  have F15 := fun_mk (st := sOf) l15 c15 k15
  have b15 := F15.binds (ps := ["pot", "some"]) fun _ _ _ _ _ _ us hl => match us, hl with | [_, _], _ => rfl
  have F16 := fun_mk (st := sCells) l16 c16 k16
  have b16 := F16.binds (ps := ["script", "most"]) fun _ _ _ _ _ _ us hl => match us, hl with | [_, _], _ => rfl
  have F17 := fun_mk (st := HI.sLFloor) l17 c17 k17
  have b17 := F17.binds (ps := ["many", "most"]) fun _ _ _ _ _ _ us hl => match us, hl with | [_, _], _ => rfl
  have F18 := fun_mk (st := HI.sLRoom) l18 c18 k18
  have b18 := F18.binds (ps := ["far", "most"]) fun _ _ _ _ _ _ us hl => match us, hl with | [_, _], _ => rfl
  have F19 := fun_mk (st := HI.sRight) l19 c19 k19
  have b19 := F19.binds (ps := ["pot"]) fun _ _ _ _ _ _ us hl => match us, hl with | [_], _ => rfl
  have F20 := fun_mk (st := HI.sLaw) l20 c20 k20
  have b20 := F20.binds (ps := ["script"]) fun _ _ _ _ _ _ us hl => match us, hl with | [_], _ => rfl
  refine ⟨PySem.W.fnOf "law" "law" (defArgs HI.sLaw) (defBody HI.sLaw) (defScope HI.sLaw) .none kV20 dc20 pm20 an20 cd20 ct20, fun s v => .of_eq rfl, fun base _ _ => ?_⟩
  have h_MOST_LIMITS : ∃ t, mg "MOST_LIMITS" = some (.int 200 t) := ⟨_, PySem.W.mg_of X G g_MOST_LIMITS⟩
  have h_MOST_TIES : ∃ t, mg "MOST_TIES" = some (.int 200 t) := ⟨_, PySem.W.mg_of X G g_MOST_TIES⟩
  have h_MOST_FAR : ∃ t, mg "MOST_FAR" = some (.int 40 t) := ⟨_, PySem.W.mg_of X G g_MOST_FAR⟩
  have h_MOST_MANY : ∃ t, mg "MOST_MANY" = some (.int 1000000 t) := ⟨_, PySem.W.mg_of X G g_MOST_MANY⟩
  have G0 : FnOk P w K mg base CX0 1 f0 _ ["value", "least", "most"] HI.spWithin := HI.ok_within F0 B (PySem.W.mg_none_of X G z8) (PySem.W.mg_none_of X G z14)
  have G1 : FnOk P w K mg base CX0 1 f1 _ ["one", "other"] HI.spPairI := HI.ok_pairI F1
  have G2 : FnOk P w K mg base CX0 1 f2 _ ["places", "ties"] HI.spTied := HI.ok_tied F2
  have G3 : FnOk P w K mg base CX0 1 f3 _ ["tied", "place"] HI.spFars := HI.ok_along F3 B
  have G4 : FnOk P w K mg base CX0 2 f4 _ ["value"] HI.spChk := HI.ok_chkl F4 B (PySem.W.mg_none_of X G z8) (PySem.W.mg_none_of X G z9) (PySem.W.mg_none_of X G z10) h_MOST_LIMITS h_MOST_TIES G0 (PySem.W.mg_of X G a0) k0 b0
  have G5 : FnOk P w K mg base CX0 1 f5 _ ["limits"] HI.spChk := HI.ok_chkt F5 B
  have G7 : FnOk P w K mg base CX0 2 f7 _ ["tied", "place"] HI.spLast := HI.ok_last F7 B G3 (PySem.W.mg_of X G a3) k3 b3
  have G6 : FnOk P w K mg base CX0 3 f6 _ ["many", "ties"] HI.spWay := HI.ok_way F6 B (G2.mono (show 1 ≤ 2 by decide)) (PySem.W.mg_of X G a2) k2 b2 G7 (PySem.W.mg_of X G a7) k7 b7
  have G9 : FnOk P w K mg base CX0 2 f9 _ ["limits"] HI.spLow := HI.ok_low F9 (PySem.W.mg_none_of X G z11) (PySem.W.mg_none_of X G z12) (PySem.W.mg_none_of X G z9) G1 (PySem.W.mg_of X G a1) k1 b1
  have G8 : FnOk P w K mg base CX0 4 f8 _ ["limits"] HI.spLeast := HI.ok_least F8 B (G4.mono (show 2 ≤ 3 by decide)) (PySem.W.mg_of X G a4) k4 b4 (G5.mono (show 1 ≤ 3 by decide)) (PySem.W.mg_of X G a5) k5 b5 (G9.mono (show 2 ≤ 3 by decide)) (PySem.W.mg_of X G a9) k9 b9 G6 (PySem.W.mg_of X G a6) k6 b6
  have G11 : FnOk P w K mg base CX0 1 f11 _ ["many", "most"] HI.spLayers := HI.ok_layers F11 B
  have G10 : FnOk P w K mg base CX0 2 f10 _ ["far", "most"] HI.spTreeRoom := HI.ok_treeroom F10 h_MOST_FAR h_MOST_TIES G0 (PySem.W.mg_of X G a0) k0 b0 G11 (PySem.W.mg_of X G a11) k11 b11
  have G12 : FnOk P w K mg base CX0 2 f12 _ ["many", "most"] HI.spFloor := HI.ok_webfloor F12 h_MOST_MANY h_MOST_TIES G0 (PySem.W.mg_of X G a0) k0 b0
  have G13 : FnOk P w K mg base CX0 1 f13 _ ["script", "place"] (spPot K) := ok_pot F13 B
  have G14 : FnOk P w K mg base CX0 1 f14 _ ["pot", "upto"] spTake := ok_take F14 B
  have G15 : FnOk P w K mg base CX0 2 f15 _ ["pot", "some"] (spOf2 K) := ok_of2 F15 B G14 (PySem.W.mg_of X G a14) k14 b14
  have G16 : FnOk P w K mg base CX0 1 f16 _ ["script", "most"] (spCells K) := ok_cells F16 B
  have G17 : FnOk P w K mg base CX0 1 f17 _ ["many", "most"] HI.spFloor := HI.ok_lfloor F17 B
  have G18 : FnOk P w K mg base CX0 1 f18 _ ["far", "most"] HI.spLRoom := HI.ok_lroom F18 B
  have kb10 : KBinds K (PySem.W.fnOf "tree_room" "tree_room" (defArgs HI.sTreeRoom) (defBody HI.sTreeRoom) (defScope HI.sTreeRoom) .none kV10 dc10 pm10 an10 cd10 ct10) ["far", "most"] ["most", "far"] gRev gVRev := kb2 rfl fun s a b => .of_eq rfl
  have kb12 : KBinds K (PySem.W.fnOf "web_floor" "web_floor" (defArgs HI.sWebFloor) (defBody HI.sWebFloor) (defScope HI.sWebFloor) .none kV12 dc12 pm12 an12 cd12 ct12) ["many", "most"] ["many", "most"] gSame gVSame := kbS2 fun s a b => .of_eq rfl
  have G19 : FnG P w K mg base CX0 9 f19 _ ["pot"] HI.spRight := HI.ok_right F19 B (PySem.W.mg_none_of X G z13) (PySem.W.mg_none_of X G z8) (PySem.W.mg_none_of X G z14) (G14.mono (show 1 ≤ 8 by decide)) (PySem.W.mg_of X G a14) k14 b14 (G15.mono (show 2 ≤ 8 by decide)) (PySem.W.mg_of X G a15) k15 b15 (G10.mono (show 2 ≤ 8 by decide)) (PySem.W.mg_of X G a10) k10 kb10 (G18.mono (show 1 ≤ 8 by decide)) (PySem.W.mg_of X G a18) k18 b18 (G12.mono (show 2 ≤ 8 by decide)) (PySem.W.mg_of X G a12) k12 kb12 (G17.mono (show 1 ≤ 8 by decide)) (PySem.W.mg_of X G a17) k17 b17 (G8.mono (show 4 ≤ 8 by decide)) (PySem.W.mg_of X G a8) k8 b8
  exact HI.ok_law F20 (PySem.W.mg_none_of X G z10) (G13.mono (show 1 ≤ 9 by decide)) (PySem.W.mg_of X G a13) k13 b13 (G16.mono (show 1 ≤ 9 by decide)) (PySem.W.mg_of X G a16) k16 b16 G19 (PySem.W.mg_of X G a19) k19 b19
end Hw

set_option Elab.async false
open PySem PySem.W PyProof.Rows
set_option maxRecDepth 100000 in
set_option maxHeartbeats 0 in
theorem PySem.Challenge.cw_healedwebs_k43_rooms_and_floors_holds : PySem.Challenge.rw_healedwebs_k43_rooms_and_floors.Holds := by
  w_on; o_law; k_head; (case hw => w_witness2)
  k_fill
  refine Hw.walkG (l := PySem.Challenge.rw_healedwebs_k43_rooms_and_floors) (n := 63) (k := 10) (x := "script") (sp := fun w => HI.spLaw _) rfl (by decide) rfl ⟨rfl, by decide, by decide⟩ (fun w h Y => PySem.W.kIn_of Y) ?F (fun _ _ a ns hl _ hS => ⟨a, ns, rfl, hS, hl, fun _ => rfl⟩)
  case F =>
    intro w mg fa h KX G hmg
    refine' Hw.all_mk KX G hmg ?q_a0 ?q_l0 ?q_c0 ?q_k0 ?q_a1 ?q_l1 ?q_c1 ?q_k1 ?q_a2 ?q_l2 ?q_c2 ?q_k2 ?q_a3 ?q_l3 ?q_c3 ?q_k3 ?q_a4 ?q_l4 ?q_c4 ?q_k4 ?q_a5 ?q_l5 ?q_c5 ?q_k5 ?q_a6 ?q_l6 ?q_c6 ?q_k6 ?q_a7 ?q_l7 ?q_c7 ?q_k7 ?q_a8 ?q_l8 ?q_c8 ?q_k8 ?q_a9 ?q_l9 ?q_c9 ?q_k9 ?q_a10 ?q_l10 ?q_c10 ?q_k10 ?q_a11 ?q_l11 ?q_c11 ?q_k11 ?q_a12 ?q_l12 ?q_c12 ?q_k12 ?q_a13 ?q_l13 ?q_c13 ?q_k13 ?q_a14 ?q_l14 ?q_c14 ?q_k14 ?q_a15 ?q_l15 ?q_c15 ?q_k15 ?q_a16 ?q_l16 ?q_c16 ?q_k16 ?q_a17 ?q_l17 ?q_c17 ?q_k17 ?q_a18 ?q_l18 ?q_c18 ?q_k18 ?q_a19 ?q_l19 ?q_c19 ?q_k19 ?q_a20 ?q_l20 ?q_c20 ?q_k20 ?q_eG ?q_eT ?q_g_MOST_LIMITS ?q_g_MOST_TIES ?q_g_MOST_FAR ?q_g_MOST_MANY ?q_z0 ?q_z1 ?q_z2 ?q_z3 ?q_z4 ?q_z5 ?q_z6 ?q_z7 ?q_z8 ?q_z9 ?q_z10 ?q_z11 ?q_z12 ?q_z13 ?q_z14
    (case q_a0 => k_is)
    (case q_a1 => k_is)
    (case q_a2 => k_is)
    (case q_a3 => k_is)
    (case q_a4 => k_is)
    (case q_a5 => k_is)
    (case q_a6 => k_is)
    (case q_a7 => k_is)
    (case q_a8 => k_is)
    (case q_a9 => k_is)
    (case q_a10 => k_is)
    (case q_a11 => k_is)
    (case q_a12 => k_is)
    (case q_a13 => k_is)
    (case q_a14 => k_is)
    (case q_a15 => k_is)
    (case q_a16 => k_is)
    (case q_a17 => k_is)
    (case q_a18 => k_is)
    (case q_a19 => k_is)
    (case q_a20 => k_is)
    (case q_l0 => k_is)
    (case q_c0 => k_is)
    (case q_k0 => k_is)
    (case q_l1 => k_is)
    (case q_c1 => k_is)
    (case q_k1 => k_is)
    (case q_l2 => k_is)
    (case q_c2 => k_is)
    (case q_k2 => k_is)
    (case q_l3 => k_is)
    (case q_c3 => k_is)
    (case q_k3 => k_is)
    (case q_l4 => k_is)
    (case q_c4 => k_is)
    (case q_k4 => k_is)
    (case q_l5 => k_is)
    (case q_c5 => k_is)
    (case q_k5 => k_is)
    (case q_l6 => k_is)
    (case q_c6 => k_is)
    (case q_k6 => k_is)
    (case q_l7 => k_is)
    (case q_c7 => k_is)
    (case q_k7 => k_is)
    (case q_l8 => k_is)
    (case q_c8 => k_is)
    (case q_k8 => k_is)
    (case q_l9 => k_is)
    (case q_c9 => k_is)
    (case q_k9 => k_is)
    (case q_l10 => k_is)
    (case q_c10 => k_is)
    (case q_k10 => k_is)
    (case q_l11 => k_is)
    (case q_c11 => k_is)
    (case q_k11 => k_is)
    (case q_l12 => k_is)
    (case q_c12 => k_is)
    (case q_k12 => k_is)
    (case q_l13 => k_is)
    (case q_c13 => k_is)
    (case q_k13 => k_is)
    (case q_l14 => k_is)
    (case q_c14 => k_is)
    (case q_k14 => k_is)
    (case q_l15 => k_is)
    (case q_c15 => k_is)
    (case q_k15 => k_is)
    (case q_l16 => k_is)
    (case q_c16 => k_is)
    (case q_k16 => k_is)
    (case q_l17 => k_is)
    (case q_c17 => k_is)
    (case q_k17 => k_is)
    (case q_l18 => k_is)
    (case q_c18 => k_is)
    (case q_k18 => k_is)
    (case q_l19 => k_is)
    (case q_c19 => k_is)
    (case q_k19 => k_is)
    (case q_l20 => k_is)
    (case q_c20 => k_is)
    (case q_k20 => k_is)
    (case q_eG => k_is)
    (case q_eT => k_is)
    (case q_g_MOST_LIMITS => k_is)
    (case q_g_MOST_TIES => k_is)
    (case q_g_MOST_FAR => k_is)
    (case q_g_MOST_MANY => k_is)
    (case q_z0 => k_is)
    (case q_z1 => k_is)
    (case q_z2 => k_is)
    (case q_z3 => k_is)
    (case q_z4 => k_is)
    (case q_z5 => k_is)
    (case q_z6 => k_is)
    (case q_z7 => k_is)
    (case q_z8 => k_is)
    (case q_z9 => k_is)
    (case q_z10 => k_is)
    (case q_z11 => k_is)
    (case q_z12 => k_is)
    (case q_z13 => k_is)
    (case q_z14 => k_is)

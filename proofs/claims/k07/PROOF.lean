import PyProof.Rows.All
import Wide.All
import OpenK.AllK
import Wide.FinOn
import HandS.ForMost
import HandS.ForExc
import HandS.DictComp
import KE.KExcIs
import HandS.ExcInit
import HandS.ExcField
import HandS.IsInst
import HandS.SetFor
import HandS.Flow
import HandS.Walk
import HandS.Evl
import HandS.Conv
import HandS.OwnEq
import HandS.FStr
import HandS.Star
import KE.GoesEnumKw
import KE.SortData
import HandS.TupLe
import Flt.Ops
import HandS.Zip
import HandS.TupAny
import HandS.SetBool
import HandS.SetKeys
import HandS.StrMore
import HandS.WordsDict
import PyProof.Rows.RegFStrParts
import HandS.Style
import HandS.More
import HandS.WideBits
import HandS.MakeKw
import PySem.Challenge.RW_healedwebs_k07_whole_elder_webs_slots_an
set_option Elab.async false
set_option linter.all false
set_option maxRecDepth 100000
set_option maxHeartbeats 2000000
namespace Hw
open PySem L2 PyProof.Rows

/-! generic: powers of great ints, heaps but one place -/
def CPowW (i j : Int) : Prop := 0 ≤ j ∧ (Builtin.Int.intBits i : Int) * j ≤ 2 ^ 27
theorem op_powW {X : Cx} : OpR X (binaryOp .Pow) (rI CPowW fun i j => .int (i ^ j.toNat)) :=
  opI fun _ _ _ _ _ _ _ hc q => pow_int hc.1 hc.2 q
/-- all that is tracked but at a stays -/
def SameX (a : Addr) (H H' : Hp) : Prop := ∀ b o, b ≠ a → H b = some o → H' b = some o
theorem SameX.refl (a : Addr) (H : Hp) : SameX a H H := fun _ _ _ h => h
theorem SameX.trans {a : Addr} {H H1 H2 : Hp} (x : SameX a H H1) (y : SameX a H1 H2) : SameX a H H2 := fun b o hb h => y b o hb (x b o hb h)
theorem SameX.of {a : Addr} {H H' : Hp} (s : Same H H') : SameX a H H' := fun b o _ h => s b o h
theorem SameX.put {a : Addr} {H H' : Hp} {o : HO} (s : SameX a H H') : SameX a H (upd H' a o) := fun b u hb h => by
  rw [upd_ne hb]; exact s b u hb h
theorem SameX.free {a b : Addr} {H H' : Hp} (s : SameX a H H') (ha : H' a ≠ none) (h : H' b = none) : H b = none := by
  cases q : H b with
  | none => rfl
  | some o =>
    have hb : b ≠ a := fun e => ha (e ▸ h)
    rw [s b o hb q] at h; cases h
theorem same_upd {H : Hp} {p : Addr} {o : HO} (h : H p = none) : Same H (upd H p o) := fun b x e => by
  rw [upd_ne (ne_of_none e h)]; exact e
theorem sql_of {K : PySem.W.Frag} {H : Hp} {a : Addr} {xs : List V} (h : H a = some (.lst xs)) : SqL K H a xs := .inl (.inl h)
theorem sqt_of {K : PySem.W.Frag} {H : Hp} {a : Addr} {xs : List V} (h : H a = some (.tup xs)) : SqT K H a xs := .inl (.inl h)

/-! a pot: three ints, the third at most N -/
structure Pot (H : Hp) (a : Addr) (N : Nat) : Prop where
  ex : ∃ x y z : Int, H a = some (.lst [.int x, .int y, .int z]) ∧ 0 ≤ x ∧ 0 ≤ y ∧ y < 2 ^ 61 ∧ 0 ≤ z ∧ z ≤ N
theorem Pot.mono {H : Hp} {a : Addr} {N M : Nat} (p : Pot H a N) (h : N ≤ M) : Pot H a M := by
  obtain ⟨x, y, z, e, h1, h2, h3, h4, h5⟩ := p.ex
  exact ⟨x, y, z, e, h1, h2, h3, h4, by omega⟩
theorem Pot.same {H H' : Hp} {a : Addr} {N : Nat} (p : Pot H a N) (s : Same H H') : Pot H' a N := by
  obtain ⟨x, y, z, e, h⟩ := p.ex
  exact ⟨x, y, z, s _ _ e, h⟩
theorem Pot.some {H : Hp} {a : Addr} {N : Nat} (p : Pot H a N) : H a ≠ none := by
  obtain ⟨x, y, z, e, _⟩ := p.ex
  rw [e]; exact fun q => nomatch q
/-- what a place of the script is worth to a draw: any int -/
def spPot (K : PySem.W.Frag) : Sp := fun vs H Q _ => ∃ (a : Addr) (ns : List Int) (i : Int), vs = [.ref a, .int i] ∧ SqL K H a (ns.map V.int) ∧ ns.length ≤ 63 ∧ 0 ≤ i ∧ i < 1000 ∧
  ∀ p H', Same H H' → H p = none → Pot H' p 0 → Q (.ref p) H'
/-- a draw below u -/
def spTake : Sp := fun vs H Q _ => ∃ (a : Addr) (u : Int) (N : Nat), vs = [.ref a, .int u] ∧ Pot H a N ∧ N < 1000000000 ∧ 0 < u ∧ u < 1000000000 ∧
  ∀ r H', 0 ≤ r → r < u → SameX a H H' → Pot H' a (N + 1) → Q (.int r) H'
/-- one of the items of a list -/
def spOf (K : PySem.W.Frag) : Sp := fun vs H Q _ => ∃ (a b : Addr) (xs : List V) (N : Nat), vs = [.ref a, .ref b] ∧ Pot H a N ∧ N < 1000000000 ∧ SqL K H b xs ∧ a ≠ b ∧ 0 < xs.length ∧ xs.length < 1000000000 ∧
  ∀ (i : Nat) v H', xs[i]? = some v → SameX a H H' → Pot H' a (N + 1) → Q v H'
/-- the places of the script that are looked at -/
def spCells (K : PySem.W.Frag) : Sp := fun vs H Q _ => ∃ (a : Addr) (xs : List V) (m : Int), vs = [.ref a, .int m] ∧ SqL K H a xs ∧ xs.length ≤ 63 ∧ 0 < m ∧ m < 1000 ∧
  ∀ (n : Nat) p H', 0 < n → (n : Int) ≤ m → Same H H' → H p = none → H' p = some (.lst ((List.range n).map fun i : Nat => V.int (i : Int))) → Q (.ref p) H'
theorem bits_nat {i : Int} {n : Nat} (h : i.natAbs < 2 ^ n) : Builtin.Int.intBits i ≤ n := intBits_le h
end Hw

set_option Elab.async false
set_option linter.all false
set_option maxRecDepth 100000
set_option maxHeartbeats 4000000
namespace Hw
open PySem L2 PyProof.Rows
/-! defs that know that no repr runs around them -/
structure RoomG (k : Nat) (A : Around) : Prop where
  r : Room k A
  g : A.guards = some []
theorem RoomG.mono {j k : Nat} {A : Around} (r : RoomG k A) (h : j ≤ k) : RoomG j A := ⟨r.r.mono h, r.g⟩
theorem RoomG.deeper {k : Nat} {A : Around} (r : RoomG (k + 1) A) (env : Env) : RoomG k (A.deeper env) := ⟨r.r.deeper env, r.g⟩
theorem RoomG.make {k : Nat} {A : Around} (r : RoomG (k + 1) A) (C : Addr) (us : List Value) (kw : List (Str × Value)) : RoomG k (A.under (.builtin "type.__call__" ⟨.ref C :: us, kw⟩)) :=
  ⟨r.r.make C us kw, by
    have e : (A.under (.builtin "type.__call__" ⟨.ref C :: us, kw⟩)).guards = A.guards := by
      first | rfl | simp [Around.under, Code.guards, pushGuards, Code.isGuard, guardIds]
    rw [e]; exact r.g⟩
section
variable (P : Program) (w : World) (K : PySem.W.Frag) (mg : Str → Option Value) (base : Heap)
structure FnG (CX : CXT) (k : Nat) (f : Addr) (fd : FuncData) (ps : List Str) (sp : Sp) : Prop where
  len : ∀ vs H Q E, sp vs H Q E → vs.length = ps.length
  run : ∀ (A : Around) (outer : List Env) (s : Shared) (H : Hp) (args : Args) (us : List Value) (vs : List V) (Q : VK) (E : XK), RoomG k A → Env0 P w K mg base A outer s H →
    BindsTo s fd args (ps.zip us) → Vals vs us → sp vs H Q E → codeAny (model P w) A (.call (.ref f) args) (CR CX outer P w H s Q E) s
end
section
variable {P : Program} {w : World} {K : PySem.W.Frag} {mg : Str → Option Value} {base : Heap} {CX : CXT} {k : Nat} {f : Addr} {fd : FuncData} {ps : List Str} {sp sp' : Sp}
theorem toG (F : FnOk P w K mg base CX k f fd ps sp) : FnG P w K mg base CX k f fd ps sp := ⟨F.len, fun A o s H a us vs Q E hr => F.run A o s H a us vs Q E hr.r⟩
theorem FnG.mono {j : Nat} (F : FnG P w K mg base CX j f fd ps sp) (h : j ≤ k) : FnG P w K mg base CX k f fd ps sp := ⟨F.len, fun A o s H a us vs Q E hr => F.run A o s H a us vs Q E (hr.mono h)⟩
theorem FnG.imp (F : FnG P w K mg base CX k f fd ps sp) (h : ∀ vs H Q E, sp' vs H Q E → sp vs H Q E) : FnG P w K mg base CX k f fd ps sp' :=
  ⟨fun vs H Q E q => F.len vs H Q E (h _ _ _ _ q), fun A o s H a us vs Q E hr he hb hv hs => F.run A o s H a us vs Q E hr he hb hv (h _ _ _ _ hs)⟩
end
section
variable {X : Cx} {CX : CXT} {k : Nat} {f C : Addr} {fd : FuncData} {ps : List Str} {sp : Sp} {dvs : List V} {ds : List Value} {E : XK} {x m : Str} {p pos apos : Pos} {e o : Expr} {es : List Expr} {ta : TE} {t : TA}
theorem runG {pins : List (Addr × Obj)} {σ : L2.St} {H : Hp} {s : Shared} {Q : VK} {us : List Value} {vs : List V} (F : FnG X.prog X.w X.K X.mg X.base CX k f fd ps sp) (hr : RoomG k X.A) (hb : Binds X.K fd ps ds) (hd : Vals dvs ds)
    (hx : Passes CX X E) (I : Inv X pins σ H s) (r : Vals vs us) (h : sp (vs ++ dvs) H Q E) : wpAny (model X.prog X.w) X.A (call (.ref f) us) (EP X pins σ Q) X.xe s := by
  have rr : Vals (vs ++ dvs) (us ++ ds) := r.append hd
  have ll : (us ++ ds).length = ps.length := rr.length.symm.trans (F.len _ _ _ _ h)
  refine wpAny_call (codeAny_mono (F.run X.A X.stack s H ⟨us, []⟩ (us ++ ds) (vs ++ dvs) Q E hr I.env0 (hb s us I.kIn ll) rr h) fun r' s' hq => ?_)
  match r', hq with
  | .error er, hq => exact hx pins σ H s er s' I hq
  | .ok (.ret u), hq => exact I.after hq
  | .ok .next, hq => exact False.elim hq
  | .ok .brk, hq => exact False.elim hq
  | .ok .cont, hq => exact False.elim hq
theorem pe_callG (F : FnG X.prog X.w X.K X.mg X.base CX k f fd ps sp) (hr : RoomG k X.A) (hg : Gl X x) (hm : X.mg x = some (.ref f)) (hk : PySem.W.keepIn X.K (.ref f) = true) (hb : Binds X.K fd ps ds) (hd : Vals dvs ds)
    (hx : Passes CX X E) (ha : PA X (e :: es) t) (hdb : (x == ("__debug__" : Str)) = false := by decide) (he : starEach (e :: es) X.env = (false, eval e X.env) :: starEach es X.env := by rfl)
    (hpl : (backTo pos (starEach es X.env)).any (·.1) = false := by rfl) : PE X (.Call (.Name x p) (e :: es) [] pos) (tCall sp dvs E t) :=
  ⟨fun pins s σ H Q I h => wpAny_Call_Name_kw (ld_glob I hg hm (PySem.W.callWith_K (h₀ := X.base) I.ok.mod.kin hk (thn (ha.run pos pins s σ H _ I h) fun us s1 ⟨vs, H1, I1, r, q⟩ => ⟨I1.kIn, runG F hr hb hd hx I1 r q⟩) he hpl) hdb)⟩
theorem pe_call0G (F : FnG X.prog X.w X.K X.mg X.base CX k f fd ps sp) (hr : RoomG k X.A) (hg : Gl X x) (hm : X.mg x = some (.ref f)) (hk : PySem.W.keepIn X.K (.ref f) = true) (hb : Binds X.K fd ps ds) (hd : Vals dvs ds)
    (hx : Passes CX X E) (hdb : (x == ("__debug__" : Str)) = false := by decide) : PE X (.Call (.Name x p) [] [] pos) (tCall sp dvs E tNil) :=
  ⟨fun pins s σ H Q I h => wpAny_Call_Name_kw (ld_glob I hg hm (PySem.W.callWith_K0 I.kIn hk (runG (us := []) F hr hb hd hx I .nil h)) hdb)⟩
end
/-- a def by its body -/
theorem fnG_of {CX : CXT} {P : Program} {w : World} {K : PySem.W.Frag} {mg : Str → Option Value} {base : Heap} {k : Nat} {f : Addr} {name qual : Str} {params : Arguments} {body : List Stmt} {scope : Scope} {dV kV doc pm cdv ct oc : Value} {an od : Option Addr}
    {osl : Array (Option Value)} {N ps : List Str} {sp : Sp} (lk : K.lookup f = some ⟨oc, od, .func (PySem.W.fnOf name qual params body scope dV kV doc pm an cdv ct), osl⟩) (hcd : PySem.W.codeIn K cdv qual = true)
    (S : FnScope N ps scope) (len : ∀ vs H Q E, sp vs H Q E → vs.length = ps.length)
    (hbody : ∀ (A : Around) (outer : List Env) (s : Shared) (H : Hp) (vs : List V) (Q : VK) (E : XK), RoomG k (A.deeper (envOfC qual scope s.heap.objs.size f cdv)) → sp vs H Q E →
      ∃ t, PSs (cxOf CX P w K mg base N qual scope f cdv A outer s H E) body t ∧ t { nx := fun _ H' => Q .non H', rt := Q } (start N vs) H) :
    FnG P w K mg base CX (k + 1) f (PySem.W.fnOf name qual params body scope dV kV doc pm an cdv ct) ps sp := by
  refine ⟨len, fun A outer s H args us vs Q E hr e0 hb r hsp => ?_⟩
  have nl := len _ _ _ _ hsp
  have kin : K.In s.heap := e0.mod.kin.keeps fun b o e => (e0.bs b o e).1
  have nolim : s.heap.NoLimit := e0.mod.nolimit.keeps fun b o e => (e0.bs b o e).1
  have kinds : ∀ y ∈ ps.zip us, scope.names.lookup y.1 = some .local ∨ (scope.names.lookup y.1 = some .cell ∧ ((cellsFrom (s.heap.objs.size + 1) scope.names []).lookup y.1).isSome = true) := by
    rintro ⟨n, v⟩ hy
    rcases S.par n (List.of_mem_zip hy).1 with q | q
    · left; exact q
    · right; exact ⟨q, PySem.W.cellsFrom_some _ _ _ (.inl q)⟩
  refine codeAny_call_function hr.r.depth (kin _ _ lk) rfl S.co S.gen rfl (PySem.W.codeRec_of kin hcd) (hb _ _ _ _ ?_)
  refine wpAny_newFunctionEnv_cells S.kind kinds fun env he s1 x => ?_
  subst he
  refine ⟨nolim.keeps x.toInCall.keep, codeAny_func ?_⟩
  obtain ⟨t, ht, hq⟩ := hbody A outer s H vs Q E (hr.deeper _) hsp
  have I0 : Inv (cxOf CX P w K mg base N qual scope f cdv A outer s H E) [] (start N vs) H s1 := inv_start S hr.r.hd e0 nl r x
  refine wpAny_mono (ht.run [] s1 (start N vs) H _ I0 hq) (fun fl s' hs => ?_) fun _ _ hs => hs
  have done : ∀ {σ' : L2.St} {H' : Hp} {v : V} {u : Value}, Inv (cxOf CX P w K mg base N qual scope f cdv A outer s H E) [] σ' H' s' → RelV v u → Q v H' → CE outer P w H s Q u s' :=
    fun {_ H' v _} J rv q => ⟨v, H', J.os, J.bare, J.base, J.hok, rv, q⟩
  match fl, hs with
  | .ret u, ⟨v, σ', H', J, rv, q⟩ => exact done J rv q
  | .next, ⟨σ', H', J, q⟩ => exact done (v := V.non) (u := Value.none) J rfl q
  | .brk, ⟨_, _, _, q⟩ => exact False.elim q
  | .cont, ⟨_, _, _, q⟩ => exact False.elim q
section
variable {P : Program} {w : World} {K : PySem.W.Frag} {mg : Str → Option Value} {base : Heap}
theorem funG {x qual : Str} {st : Stmt} {f : Addr} {fd : FuncData} {N ps : List Str} {k : Nat} {sp : Sp} (F : Fun K x qual st f fd) (S : FnScope N ps (defScope st)) (len : ∀ vs H Q E, sp vs H Q E → vs.length = ps.length)
    (hbody : ∀ (cdv : Value) (A : Around) (outer : List Env) (s : Shared) (H : Hp) (vs : List V) (Q : VK) (E : XK), RoomG k (A.deeper (envOfC qual (defScope st) s.heap.objs.size f cdv)) → sp vs H Q E →
      ∃ t, PSs (cxOf CX0 P w K mg base N qual (defScope st) f cdv A outer s H E).nox (defBody st) t ∧ t { nx := fun _ H' => Q .non H', rt := Q } (start N vs) H) : FnG P w K mg base CX0 (k + 1) f fd ps sp := by
  obtain ⟨oc, od, kV, doc, pm, an, cdv, ct, osl, rfl, lk, hcd⟩ := F.ex
  exact fnG_of lk hcd S len fun A outer s H vs Q E hr hsp => by
    obtain ⟨t, h, q⟩ := hbody cdv A outer s H vs Q E hr hsp
    exact ⟨t, h.nox, q⟩
theorem funGX {x qual : Str} {st : Stmt} {f : Addr} {fd : FuncData} {N ps : List Str} {k : Nat} {sp : Sp} (F : Fun K x qual st f fd) (S : FnScope N ps (defScope st)) (len : ∀ vs H Q E, sp vs H Q E → vs.length = ps.length)
    (hbody : ∀ (cdv : Value) (A : Around) (outer : List Env) (s : Shared) (H : Hp) (vs : List V) (Q : VK) (E : XK), RoomG k (A.deeper (envOfC qual (defScope st) s.heap.objs.size f cdv)) → sp vs H Q E →
      ∃ t, PSs (cxOf (L2.CX P w) P w K mg base N qual (defScope st) f cdv A outer s H E) (defBody st) t ∧ t { nx := fun _ H' => Q .non H', rt := Q } (start N vs) H) : FnG P w K mg base (L2.CX P w) (k + 1) f fd ps sp := by
  obtain ⟨oc, od, kV, doc, pm, an, cdv, ct, osl, rfl, lk, hcd⟩ := F.ex
  exact fnG_of lk hcd S len fun A outer s H vs Q E hr hsp => hbody cdv A outer s H vs Q E hr hsp
end
/-- the law's call -/
theorem lawG {P : Program} {w : World} {K : PySem.W.Frag} {mg mb : Str → Option Value} {k : Nat} {fa a : Addr} {fd : FuncData} {x : Str} {sp : Sp} {s1 : Shared} {vs : List Value} {ns : List Int}
    (KX : K.In s1.heap) (hns : s1.heap.Ns mainGlobals mg) (hb : s1.heap.Ns builtinsNs mb) (hbb : ∀ x : Str, x ≠ "__name__" → mb x = bootBuiltins x) (hlim : s1.heap.NoLimit) (hgen : s1.gens = #[])
    (ha : s1.heap.get? a = some { cls := .type "list", data := .seq vs.toArray }) (hi : IntsAre vs ns) (hl : ns.length ≤ sizeLine) (hr : Room k callerA)
    (F : ∀ base : Heap, K.In base → base.Ns mainGlobals mg → FnG P w K mg base CX0 k fa fd [x] sp) (hbind : ∀ (s : Shared) (u : Value), BindsTo s fd ⟨[u], []⟩ [(x, u)])
    (hsp : ∀ H : Hp, Only H → SqL K H a (ns.map V.int) → sp [.ref a] H (fun v _ => v = .bl true) E0) :
    codeAny (model P w) callerA (.call (.ref fa) ⟨[.ref a], []⟩) (fun r s' => r = .ok (.ret (.bool true)) ∧ OldK s1.heap s'.heap ∧ s'.os = s1.os ∧ AllBare s'.gens) s1 := by
  have rv := vals_ints hi
  have core : ∀ H : Hp, Only H → SqL K H a (ns.map V.int) → HOk P w H s1.heap → (∀ b, H b ≠ none → b = a) → (H a ≠ none → K.lookup a = none) →
      codeAny (model P w) callerA (.call (.ref fa) ⟨[.ref a], []⟩) (fun r s' => r = .ok (.ret (.bool true)) ∧ OldK s1.heap s'.heap ∧ s'.os = s1.os ∧ AllBare s'.gens) s1 := by
    intro H hO hS hok onlyA notK
    have hid : ∀ {b : Addr} {o : Obj}, s1.heap.get? b = some o → H b = none → (hidT s1.heap H).get? b = some o := fun e n => hidT_get e n
    have free : ∀ {b : Addr}, (b = a → False) → H b = none := fun {b} h => by
      cases q : H b with
      | none => rfl
      | some u => exact (h (onlyA b (by rw [q]; simp))).elim
    have nsH : ∀ {b : Addr} {m : Str → Option Value}, s1.heap.Ns b m → (hidT s1.heap H).Ns b m := fun {b m} ⟨o, es, ep, e, d, r⟩ => by
      refine ⟨o, es, ep, hid e (free fun z => ?_), d, r⟩
      subst z
      rw [ha] at e
      have e' := Option.some.inj e
      rw [← e'] at d
      cases d
    have kinH : K.In (hidT s1.heap H) := fun b o e => by
      refine hid (KX b o e) ?_
      by_cases hba : b = a
      · subst hba
        cases q : H b with
        | none => rfl
        | some u =>
          have z := notK (by rw [q]; simp)
          rw [e] at z; cases z
      · exact free hba
    have modH : Mod K mg (hidT s1.heap H) := ⟨kinH, nsH hns, ⟨mb, nsH hb, hbb⟩, let ⟨mc, h1, h2⟩ := hlim; ⟨mc, nsH h1, h2⟩⟩
    have env0 : Env0 P w K mg (hidT s1.heap H) callerA [] s1 H := ⟨rfl, modH, fun b o e => of_hidT e, Nat.le_of_eq (hidT_size _ _), trivial, fun b hb => (by cases hb), hok, .of_eq hgen⟩
    refine codeAny_mono ((F _ kinH (nsH hns)).run callerA [] s1 H ⟨[.ref a], []⟩ [.ref a] [.ref a] _ _ ⟨hr, rfl⟩ env0 (hbind s1 (.ref a)) (.cons rfl .nil) (hsp H hO hS)) fun r s' h => ?_
    match r, h with
    | .error e, h => exact False.elim h
    | .ok .next, h => exact False.elim h
    | .ok .brk, h => exact False.elim h
    | .ok .cont, h => exact False.elim h
    | .ok (.ret u), h =>
      obtain ⟨v, H', os, bare, un, hok', r', q⟩ := h
      obtain rfl : v = .bl true := q
      obtain rfl : u = Value.bool true := r'
      refine ⟨rfl, OldK.of_keep fun b o e => ?_, os, bare⟩
      cases q : H b with
      | none => exact un.keep b o e q (by intro z; cases z) (by intro z; cases z)
      | some u =>
        obtain ⟨ob, xs, z⟩ : ∃ o xs, H b = some (.frz o (.lst xs)) := (hO b).resolve_left (by rw [q]; simp)
        have e1 := (hok b _ z).1
        have e2 := (hok' b _ (un.frzs b ob _ z)).1
        rw [e] at e1
        cases e1
        exact e2
  cases hk : K.lookup a with
  | some o =>
    have e := KX a o hk
    rw [ha] at e
    cases e
    exact core (fun _ => none) (fun _ => .inl rfl) (.inr ⟨_, vs.toArray, _, hk, rfl, rfl, rfl, by rw [List.size_toArray, hi.length]; exact hl, by simpa using rv⟩) (fun b u z => by cases (show (none : Option HO) = some u from z)) (fun b z => absurd rfl z) fun z => absurd rfl z
  | none =>
    have at_ : ∀ {b : Addr}, b ≠ a → (if b = a then some (HO.frz { cls := .type "list", data := .seq vs.toArray } (.lst (ns.map V.int))) else none) = none := fun h => if_neg h
    refine core (fun b => if b = a then some (.frz { cls := .type "list", data := .seq vs.toArray } (.lst (ns.map V.int))) else none) (fun b => ?_) (.inl (.inr ⟨{ cls := .type "list", data := .seq vs.toArray }, if_pos rfl⟩)) (fun b u z => ?_) (fun b z => ?_) fun _ => hk
    · by_cases hba : b = a
      · exact .inr ⟨_, _, if_pos hba⟩
      · exact .inl (at_ hba)
    · by_cases hba : b = a
      · subst hba
        have z' := (if_pos rfl).symm.trans z
        cases z'
        exact ⟨ha, by rw [List.length_map]; exact hl, vs, _, rv, ha⟩
      · have z' := (at_ hba).symm.trans z
        cases z'
    · by_cases hba : b = a
      · exact hba
      · exact absurd (at_ hba) z
theorem walkG {l : PySem.W.OpenLaw} {n k : Nat} {q : Program} {loose : List Str} {XP : (Str → Option Value) → Heap → Prop} {YP : World → Heap → Prop} {d : DefRec} {K : Params → PySem.W.Frag} {sp : World → Sp} {x : Str}
    (hn : l.most = some n) (hn2 : n ≤ sizeLine) (hdf : d.params.defaults = []) (hr : Room k callerA) (hY : ∀ (w : World) (h : Heap), YP w h → (K w.params).In h)
    (F : ∀ (w : World) (mg : Str → Option Value) (fa : Addr) (h : Heap), (K w.params).In h → h.Ns mainGlobals mg → mg d.name = some (.ref fa) →
      ∃ fd : FuncData, (∀ (s : Shared) (u : Value), BindsTo s fd ⟨[u], []⟩ [(x, u)]) ∧ ∀ base : Heap, (K w.params).In base → base.Ns mainGlobals mg → FnG l.prog w (K w.params) mg base CX0 k fa fd [x] (sp w))
    (hsp : ∀ (w : World) (H : Hp) (a : Addr) (ns : List Int), ns.length ≤ n → Only H → SqL (K w.params) H a (ns.map V.int) → sp w [.ref a] H (fun v _ => v = .bl true) E0) :
    PySem.W.WalkO q loose XP YP l.row.toRowW d [] (fun f vs => PySem.call f vs) := by
  refine Att.attach_call hn hdf fun w s0 s1 mg mb fa o pm cd doc a vs ns G Y ho hd hcd hmg hobj hints hlen hgen => ?_
  have KX := hY w _ Y
  obtain ⟨fd, hb, hF⟩ := F w mg fa _ KX G.T.g hmg
  exact lawG KX G.T.g G.T.b G.T.builtins G.T.nolimit hgen hobj hints (Nat.le_trans hlen hn2) hr hF hb (fun H hO hS => hsp w H a ns hlen hO hS)
end Hw

set_option Elab.async false
set_option linter.all false
set_option maxRecDepth 100000
set_option maxHeartbeats 4000000
namespace Hw
open PySem L2 PyProof.Rows
/-! repr of data -/
mutual
theorem Dp_noDict {K : PySem.W.Frag} {H : Hp} : ∀ (d : PyData) (v : V), Dp K H v d → d.hasDict = false
  | .none, _, _ => by simp only [PyData.hasDict]
  | .bool _, _, _ => by simp only [PyData.hasDict]
  | .int _, _, _ => by simp only [PyData.hasDict]
  | .str _, _, _ => by simp only [PyData.hasDict]
  | .list ds, _, h => by
    cases h with
    | lst _ ha => simp only [PyData.hasDict]; exact DpAll_noDict ds _ ha
  | .tuple ds, _, h => by
    cases h with
    | tup _ ha => simp only [PyData.hasDict]; exact DpAll_noDict ds _ ha
  | .dict _, _, h => nomatch h
theorem DpAll_noDict {K : PySem.W.Frag} {H : Hp} : ∀ (ds : List PyData) (vs : List V), DpAll K H vs ds → PyData.hasDictAll ds = false
  | [], _, _ => by simp only [PyData.hasDictAll]
  | d :: ds, _, h => by
    cases h with
    | cons h1 h2 =>
      simp only [PyData.hasDictAll]
      rw [Dp_noDict d _ h1, DpAll_noDict ds _ h2]; rfl
end
/-- what is flat, as data -/
def flatPD : V → Option PyData
  | .non => some .none
  | .bl b => some (.bool b)
  | .int i => some (.int i)
  | .str x => some (.str x)
  | _ => none
def keyPD : Key → PyData
  | .inl i => .int i
  | .inr x => .str x
/-- a dict with flat values, as data -/
def DpK (H : Hp) (v : V) (d : PyData) : Prop := ∃ (a : Addr) (kvs : List (Key × V)) (ds : List (PyData × PyData)), v = .ref a ∧ H a = some (.dK kvs) ∧ d = .dict ds ∧
  Paired (fun p q => q.1 = keyPD p.1 ∧ flatPD p.2 = some q.2) kvs ds
def rRepr (K : PySem.W.Frag) : List V → Hp → VK → Prop := fun xs H Q => ∃ (x : V) (d : PyData), xs = [x] ∧ (Dp K H x d ∨ DpK H x d) ∧ d.showable = true ∧ d.depth ≤ 60 ∧ d.shown.length ≤ sizeLine ∧ Q (.str d.shown) H
theorem flat_reads {h : Heap} {v : V} {d : PyData} {u : Value} (e : flatPD v = some d) (r : RelV v u) : Reads h u d [] := by
  cases v with
  | non => cases e; cases r; exact .none
  | bl b => cases e; cases r; exact .bool b
  | int i => cases e; obtain ⟨t, rfl⟩ := r; exact .int i t
  | str x => cases e; obtain ⟨t, rfl⟩ := r; exact .str x t
  | byt b => cases e
  | flt b => cases e
  | ref a => cases e
  | ty n => cases e
theorem key_reads {P : Program} {w : World} {h : Heap} {k : Key} {u : Value} (e : (mixKind P w).is k u = true) : Reads h u (keyPD k) [] := by
  rcases keyIs_shape e with ⟨i, t, rfl, rfl⟩ | ⟨x, t, rfl, rfl⟩
  · exact .int i t
  · exact .str x t
theorem dict_reads {P : Program} {w : World} {h : Heap} : ∀ {kvs : List (Key × V)} {ds : List (PyData × PyData)} {vs : List (Key × Value)} {es : List DictEntry}, Paired (fun p q => q.1 = keyPD p.1 ∧ flatPD p.2 = some q.2) kvs ds → KV kvs vs → PySem.Pairs (mixKind P w) es vs →
    ReadsAll h (es.map (·.key)) (ds.map (·.1)) [] ∧ ReadsAll h (es.map (·.val)) (ds.map (·.2)) []
  | [], _, _, _, .nil, kv, pr => by cases kv; cases pr; exact ⟨.nil, .nil⟩
  | p :: kvs, q :: ds, _, _, .cons a t, kv, pr => by
    cases kv with
    | cons k1 k2 =>
      cases pr with
      | cons p1 p2 p3 =>
        obtain ⟨r1, r2⟩ := dict_reads t k2 p3
        obtain ⟨e1, e2⟩ := a
        refine ⟨?_, ?_⟩
        · have z : ReadsAll h _ _ ([] ++ []) := .cons (key_reads (h := h) p1) r1
          rw [← k1.1, ← e1] at z
          exact z
        · have y := flat_reads (h := h) e2 k1.2
          rw [← p2] at y
          exact (ReadsAll.cons y r2 : ReadsAll h _ _ ([] ++ []))
section
variable {X : Cx}
theorem call_repr (hg : X.A.guards = some []) (hu : X.A.units + 100 < cLine) : CallR X (.builtin "repr") (rRepr X.K) := by
  intro pins s σ H xs us Q I r h
  obtain ⟨x, d, rfl, hd, hs, hdp, hz, q⟩ := h
  obtain ⟨u, w', rfl, ru, rw'⟩ : ∃ u w', us = [u] ∧ RelV x u ∧ w' = us := by
    cases r with
    | cons a t => cases t; exact ⟨_, _, rfl, a, rfl⟩
  have fin : ∀ h' (tk : Tok) (tk' : Nat), (∀ b o, s.heap.get? b = some o → h'.get? b = some o) → EP X pins σ Q (.str d.shown tk) { s with heap := h', toks := tk' } := fun h' tk tk' k => ⟨.str d.shown, H, I.kept (t' := tk') k, ⟨tk, rfl⟩, q⟩
  have big : ∀ {a : Addr} {as : List Addr}, Reads s.heap (.ref a) d as → (d.hasDict = true → sysModules ∉ as) → wpAny (model X.prog X.w) X.A (call (.builtin "repr") [.ref a]) (EP X pins σ Q) X.xe s := fun {a as} r1 hm =>
    repr_of_reads' (h₀ := s.heap) r1 hs hm hg (by omega) (fun _ _ e => e) (fun h' u tk k => fin h' u tk k) hz
  rcases hd with hd | ⟨a, kvs, ds, rfl, ha, rfl, hp⟩
  · have nd := Dp_noDict d x hd
    obtain ⟨as, r1⟩ := Dp.reads I d x u hd ru
    cases hd with
    | non => cases ru; exact P.repr_of_none (fin s.heap _ _ fun _ _ e => e)
    | bl b =>
      cases ru
      refine P.repr_of_bool ?_
      have z := fin s.heap s.toks (s.toks + 1) fun _ _ e => e
      simpa only [PyData.shown] using z
    | int i =>
      obtain ⟨t, rfl⟩ := ru
      refine P.repr_of_int (by simpa only [PyData.showable, decide_eq_true_eq] using hs) ?_
      have z := fin s.heap s.toks (s.toks + 1) fun _ _ e => e
      simpa only [PyData.shown] using z
    | str y =>
      obtain ⟨t, rfl⟩ := ru
      refine P.repr_of_str ?_ (by simpa only [PyData.shown] using hz)
      have z := fin s.heap s.toks (s.toks + 1) fun _ _ e => e
      simpa only [PyData.shown] using z
    | lst h1 h2 => cases ru; exact big r1 (by rw [nd]; exact fun z => nomatch z)
    | tup h1 h2 => cases ru; exact big r1 (by rw [nd]; exact fun z => nomatch z)
  · cases ru
    obtain ⟨hl, hsys, vs, kv, o, es, ep, ho, hex, hdat, _, hpr, _⟩ := dk_of I.hok ha
    obtain ⟨r1, r2⟩ := dict_reads (h := s.heap) hp kv hpr
    refine big (.dict ho hex.1 hdat r1 r2) fun _ hm => ?_
    have e : sysModules = a := by simpa using hm
    rw [← e] at hsys
    simp at hsys
end
end Hw

set_option Elab.async false
set_option linter.all false
set_option maxRecDepth 100000
set_option maxHeartbeats 4000000
namespace Hw
open PySem L2 PyProof.Rows
/-! an exception held as a value: the object at a, its own dict at d -/
def XAt (H : Hp) (a C d : Addr) (v : V) : Prop := H a = some (exo a C (some d)) ∧ H d = some (exd d [("value", v)])
theorem XAt.same {H H' : Hp} {a C d : Addr} {v : V} (x : XAt H a C d v) (s : Same H H') : XAt H' a C d v := ⟨s _ _ x.1, s _ _ x.2⟩
theorem XAt.sameX {H H' : Hp} {a C d p : Addr} {v : V} (x : XAt H a C d v) (s : SameX p H H') (ha : a ≠ p) (hd : d ≠ p) : XAt H' a C d v := ⟨s _ _ ha x.1, s _ _ hd x.2⟩
/-- what the written part says of such a class -/
structure XCls (K : PySem.W.Frag) (fI C : Addr) : Prop where
  o : OexC K C
  x : XfC K C
  noV : PySem.W.findIn K (.ref C) "value" = some none
  ini : PySem.W.findIn K (.ref C) "__init__" = some (some (.ref fI))
  tI : PySem.W.typeIn K (.ref fI) = some (.type "function")
  cl : (PySem.W.clsIn K C).isSome = true
  ha : PySem.W.findIn K (.ref C) "__class__" = some (some (.builtin "object.__class__"))
  hn : PySem.W.specialIn K (.builtin "object.__class__") "__get__" = some (some (.builtin "getset_descriptor.__get__"))
  ht : PySem.W.takesIn K (.builtin "object.__class__") = some true
  hm : PySem.W.mroIn K C (.type "object") = some true
def oexB (K : PySem.W.Frag) (C : Addr) : Bool := match K.lookup C with
  | some ⟨.type "type", _, .cls cd, sl⟩ => (match cd.mro, sl.toList with
    | .ref C' :: bm, [_, _, _, _, some (.builtin n), _] => C' == C && (n == "ValueError.__new__" && (!cd.hasDel && (cd.hasDict && PySem.HandSPX.refsVE bm)))
    | _, _ => false)
  | _ => false
theorem oexB_ok {K : PySem.W.Frag} {C : Addr} (q : oexB K C = true) :
    ∃ nm q N bs bm sn sub ab col dd k0 k1 k2 k3 k5, K.lookup C = some (excClassObj nm q C N bs bm true sn sub ab col dd k0 k1 k2 k3 k5 "ValueError.__new__") ∧ PySem.HandSPX.refsVE bm = true := by
  unfold oexB at q
  split at q
  · rename_i dd cd sl ho
    split at q
    · rename_i C' bm k0 k1 k2 k3 n k5 hm hs
      simp only [Bool.and_eq_true, beq_iff_eq, Bool.not_eq_true'] at q
      obtain ⟨rfl, rfl, hdel, hdi, hve⟩ := q
      obtain ⟨nm, bs, mro, ns, qn, hd, sn, sub, ab, col, del⟩ := cd
      dsimp only at hm hdel hdi
      subst hm hdel hdi
      have hsl : sl = #[k0, k1, k2, k3, some (.builtin "ValueError.__new__"), k5] := by
        obtain ⟨l⟩ := sl
        simp only at hs
        rw [hs]
      subst hsl
      exact ⟨nm, qn, ns, bs, bm, sn, sub, ab, col, dd, k0, k1, k2, k3, k5, ho, hve⟩
    · cases q
  · cases q
def xclsB (K : PySem.W.Frag) (fI C : Addr) : Bool :=
  oexB K C && (decide (PySem.W.findIn K (.ref C) "__setattr__" = some (some (.builtin "object.__setattr__"))) && (decide (PySem.W.subIn K (.ref C) (.type "BaseException") = some true) && (decide (PySem.W.typeIn K (.ref C) = some (.type "type")) && (PySem.W.keepIn K (.ref C) &&
  (xfB K C && (decide (PySem.W.findIn K (.ref C) "value" = some none) && (decide (PySem.W.findIn K (.ref C) "__init__" = some (some (.ref fI))) && (decide (PySem.W.typeIn K (.ref fI) = some (.type "function")) && ((PySem.W.clsIn K C).isSome &&
  (decide (PySem.W.findIn K (.ref C) "__class__" = some (some (.builtin "object.__class__"))) && (decide (PySem.W.specialIn K (.builtin "object.__class__") "__get__" = some (some (.builtin "getset_descriptor.__get__"))) &&
  (decide (PySem.W.takesIn K (.builtin "object.__class__") = some true) && decide (PySem.W.mroIn K C (.type "object") = some true)))))))))))))
theorem xclsB_ok {K : PySem.W.Frag} {fI C : Addr} (h : xclsB K fI C = true) : XCls K fI C := by
  unfold xclsB at h
  simp only [Bool.and_eq_true, decide_eq_true_eq] at h
  obtain ⟨a1, a2, a3, a4, a5, a6, a7, a8, a9, b1, b2, b3, b4, b5⟩ := h
  exact ⟨⟨oexB_ok a1, a2, a3, a4, a5⟩, xfB_ok a6, a7, a8, a9, b1, b2, b3, b4, b5⟩
/-- the promise of __init__(self, value) -/
def spIniX (K : PySem.W.Frag) : Sp := fun vs H Q _ => ∃ (a C fI : Addr) (v : V), vs = [.ref a, v] ∧ XCls K fI C ∧ H a = some (exo a C none) ∧
  ∀ dx, H dx = none → dx ≠ a → Q .non (upd (upd H dx (exd dx [("value", v)])) a (exo a C (some dx)))
/-- C(e): a new exception -/
def tMkX (C : Addr) (ta : TA) : TE := fun σ H Q => ta σ H fun vs H1 => ∃ v, vs = [v] ∧ ∀ a d, H1 a = none → H1 d = none → d ≠ a → Q (.ref a) (upd (upd H1 d (exd d [("value", v)])) a (exo a C (some d)))
/-- x.value of a held exception -/
def tXv (K : PySem.W.Frag) (n : Str) (te : TE) : TE := fun σ H Q => te σ H fun x H1 => ∃ (a C d fI : Addr) (v : V), x = .ref a ∧ n = "value" ∧ XCls K fI C ∧ XAt H1 a C d v ∧ Q v H1
/-- isinstance(x, c) of a held exception -/
def rIsX (K : PySem.W.Frag) : List V → Hp → VK → Prop := fun xs H Q => ∃ (a C d fI : Addr) (v c : V) (u : Value) (b : Bool), xs = [.ref a, c] ∧ ClsV c u ∧ XCls K fI C ∧ XAt H a C d v ∧ PySem.W.kitOne K (.ref C) u = some b ∧ Q (.bl b) H
section
variable {X : Cx}
theorem pe_mkX {x : Str} {C fI : Addr} {k : Nat} {fd : FuncData} {e : Expr} {es : List Expr} {ta : TA} {p pos : Pos} (T : XCls X.K fI C) (F1 : FnOk X.prog X.w X.K X.mg X.base CX0 k fI fd ["self", "value"] (spIniX X.K)) (hr : Room (k + 1) X.A) (hb : Binds X.K fd ["self", "value"] [])
    (hg : Gl X x) (hm : X.mg x = some (.ref C)) (ha : PA X (e :: es) ta) (hdb : (x == ("__debug__" : Str)) = false := by decide) (hs : starEach (e :: es) X.env = (false, eval e X.env) :: starEach es X.env := by rfl) (hpl : (backTo pos (starEach es X.env)).any (·.1) = false := by rfl) :
    PE X (.Call (.Name x p) (e :: es) [] pos) (tMkX C ta) := by
  refine ⟨fun pins s σ H Q I h => ?_⟩
  obtain ⟨nm, q, N, bs, bm, sn, sub, ab, col, dd, k0, k1, k2, k3, k5, hC, hbm⟩ := T.o.cls
  refine wpAny_Call_Name_kw (ld_glob I hg hm ?_ hdb)
  refine PySem.W.callWith_K (h₀ := X.base) I.ok.mod.kin T.o.kC (thn (ha.run pos pins s σ H _ I h) fun us s1 ⟨vs, H1, I1, r1, v, ev, q1⟩ => ⟨I1.kIn, ?_⟩) hs hpl
  subst ev
  show wpAny _ _ (call (.ref C) us) _ _ _
  obtain ⟨hp, g, dr, tk, os⟩ := s1
  have hsz : hp.objs.size ≤ hp.objs.size + 1 := Nat.le_succ _
  have hn : H1 (hp.objs.size + 1) = none := I1.hok.fresh hsz
  have keeps : ∀ b o, hp.get? b = some o → ((hp.push (PySem.W.kdv_tup us)).push (PySem.HandSPX.excO C hp.objs.size)).get? b = some o := fun b o e => Heap.get?_push_of_some _ (Heap.get?_push_of_some _ e)
  have made : ((hp.push (PySem.W.kdv_tup us)).push (PySem.HandSPX.excO C hp.objs.size)).get? (hp.objs.size + 1) = some (PySem.HandSPX.excO C hp.objs.size) := by heap_get
  have I2 : Inv X pins σ (upd H1 (hp.objs.size + 1) (exo (hp.objs.size + 1) C none)) ⟨(hp.push (PySem.W.kdv_tup us)).push (PySem.HandSPX.excO C hp.objs.size), g, dr, tk, os⟩ :=
    I1.laid (t' := tk) keeps hsz (exo_ok made)
  have r2 : Vals (V.ref (hp.objs.size + 1) :: [v]) (Value.ref (hp.objs.size + 1) :: us) := .cons rfl r1
  have hl : (Value.ref (hp.objs.size + 1) :: us).length = (["self", "value"] : List Str).length := by
    rw [← r2.length]; rfl
  have hus : us.length ≤ sizeLine := by
    rw [← Paired.length r1, sizeLine_eq]; show 1 ≤ 16777216; decide
  have hsp : spIniX X.K (V.ref (hp.objs.size + 1) :: [v]) (upd H1 (hp.objs.size + 1) (exo (hp.objs.size + 1) C none)) (fun v' H2 => v' = .non ∧ ∃ d, H1 d = none ∧ d ≠ hp.objs.size + 1 ∧ H2 = upd (upd H1 d (exd d [("value", v)])) (hp.objs.size + 1) (exo (hp.objs.size + 1) C (some d))) E0 := by
    refine ⟨_, C, fI, v, rfl, T, upd_same, fun dx n1 n2 => ⟨rfl, dx, ?_, n2, ?_⟩⟩
    · rw [upd_ne n2] at n1; exact n1
    · funext b
      by_cases hb : b = hp.objs.size + 1
      · rw [hb, upd_same, upd_same]
      · rw [upd_ne hb, upd_ne hb]
        by_cases hd : b = dx
        · rw [hd, upd_same, upd_same]
        · rw [upd_ne hd, upd_ne hd, upd_ne hb]
  refine wpAny_call (PySem.HandSPX.call_own F.excBase_ValueError (fun Y => PySem.HandSPX.refsVE_contains Y bm hbm) (I1.kIn _ _ hC) (PySem.W.looks_findIn I1.kIn T.ini) (fun self => PySem.W.bind_fn I1.kIn self T.tI) hus
    (codeAny_mono (F1.run _ X.stack _ _ ⟨Value.ref (hp.objs.size + 1) :: us, []⟩ (Value.ref (hp.objs.size + 1) :: us) _ _ E0 (hr.make C us []) (I2.env0.make C us []) (by have z := hb _ (Value.ref (hp.objs.size + 1) :: us) I2.kIn (by simpa using hl); simpa using z) r2 hsp) fun r s' hq' => ?_))
  cases r with
  | error er => exact hq'.elim
  | ok fl =>
    cases fl with
    | ret u =>
      obtain ⟨v', H2, os2, bare2, un2, hok2, rv, ev, d, nd, nda, rfl⟩ := hq'
      subst ev
      exact ⟨rv, .ref _, _, I2.call' (ch := []) os2 un2 hok2 bare2 (fun b z => absurd z (by simp)), rfl, q1 _ d hn nd nda⟩
    | next => exact False.elim hq'
    | brk => exact False.elim hq'
    | cont => exact False.elim hq'
theorem xinst {pins : List (Addr × Obj)} {σ : L2.St} {H : Hp} {s : Shared} {a C d : Addr} {v : V} (I : Inv X pins σ H s) (x : XAt H a C d v) :
    ∃ ox od mA, PySem.W.InstAt s.heap a ox C (some od) ∧ s.heap.Ns1 d mA ∧ (∀ f, RelO (List.lookup f [(("value" : Str), v)]) (mA f)) ∧ s.heap.get? d = some od := by
  obtain ⟨t1, e1⟩ := exo_at I.hok x.1
  obtain ⟨mA, hns, rel⟩ := exd_at I.hok x.2
  obtain ⟨od, es, ep, ho, rest⟩ := id hns
  exact ⟨_, od, mA, ⟨e1, rfl, rfl, ho⟩, hns, rel, ho⟩
theorem pe_xv {e : Expr} {te : TE} {pos : Pos} {n : Str} (he : PE X e te) (hb : attributeBase e n X.env (eval e X.env) = eval e X.env := by rfl) : PE X (.Attribute e n pos) (tXv X.K n te) := by
  refine ⟨fun pins s σ H Q I h => ?_⟩
  refine attr_of hb (thn (he.run pins s σ H _ I h) fun u s1 ⟨x, H1, I1, rx, a, C, d, fI, v, ex, en, T, xa, q⟩ => ?_)
  subst ex en
  obtain rfl : u = Value.ref a := rx
  obtain ⟨mA, hns, rel⟩ := exd_at I1.hok xa.2
  obtain ⟨t1, e1⟩ := exo_at I1.hok xa.1
  obtain ⟨od, ho, hl⟩ := lookIn_ns hns
  obtain ⟨u, hu, ru⟩ := RelO.some_of (v := v) (o := mA ("value" : Str)) (by have z := rel ("value" : Str); rwa [lookup_put, if_pos rfl] at z)
  have J : PySem.W.InstAt s1.heap a _ C (some od) := ⟨e1, rfl, rfl, ho⟩
  exact HandSPX.exc_get I1.kIn J T.x.ga T.x.gg T.x.exC (PySem.W.findObj_own T.x.hdC T.noV rfl (by rw [hl, hu])) (handed_of ru) ⟨v, H1, I1.tok _, ru, q⟩
theorem call_isX : CallR X (.builtin "isinstance") (rIsX X.K) := by
  intro pins s σ H xs us Q I r h
  obtain ⟨a, C, d, fI, v, c, u, b, rfl, hc, T, xa, e, q⟩ := h
  obtain ⟨u1, u2, rfl, r1, r2⟩ := vals2 r
  cases (show u1 = Value.ref a from r1)
  have e2 := hc.eq r2
  subst e2
  obtain ⟨ox, od, mA, J, _⟩ := xinst I xa
  exact PySem.W.kia_one (PySem.W.kitx_exc T.cl T.x.ga T.x.gg T.x.exC T.ha T.hn T.ht T.hm) I.kIn J e (fun z => nomatch z) fun tk => ⟨.bl b, H, I.tok tk, rfl, q⟩
end
end Hw

set_option Elab.async false
set_option linter.all false
set_option maxRecDepth 100000
set_option maxHeartbeats 4000000
namespace Hw
open PySem L2 PyProof.Rows
/-! written data, laid beside a place a -/
mutual
inductive Dx (a : Addr) (H : Hp) : V → PyData → Prop
  | flat {v : V} {d : PyData} : flatPD v = some d → Dx a H v d
  | lst {p : Addr} {xs : List V} {ds : List PyData} : H p = some (.lst xs) → p ≠ a → DxAll a H xs ds → Dx a H (.ref p) (.list ds)
  | tup {p : Addr} {xs : List V} {ds : List PyData} : H p = some (.tup xs) → p ≠ a → DxAll a H xs ds → Dx a H (.ref p) (.tuple ds)
  | dct {p : Addr} {kvs : List (Key × V)} {ds : List (PyData × PyData)} : H p = some (.dK kvs) → p ≠ a → (∀ q ∈ kvs, valV kvs q.1 = some q.2 ∧ flatB q.2 = true) → Paired (fun q e => e.1 = keyPD q.1 ∧ flatPD q.2 = some e.2) kvs ds → Dx a H (.ref p) (.dict ds)
inductive DxAll (a : Addr) (H : Hp) : List V → List PyData → Prop
  | nil : DxAll a H [] []
  | cons {v : V} {vs : List V} {d : PyData} {ds : List PyData} : Dx a H v d → DxAll a H vs ds → DxAll a H (v :: vs) (d :: ds)
end
section
variable {a : Addr} {H H' : Hp}
mutual
theorem Dx.keep (s : SameX a H H') : ∀ (v : V) (d : PyData), Dx a H v d → Dx a H' v d
  | _, .list ds, h => by
    cases h with
    | flat e => exact .flat e
    | lst h1 h2 h3 => exact .lst (s _ _ h2 h1) h2 (DxAll.keep s _ ds h3)
  | _, .tuple ds, h => by
    cases h with
    | flat e => exact .flat e
    | tup h1 h2 h3 => exact .tup (s _ _ h2 h1) h2 (DxAll.keep s _ ds h3)
  | _, .dict ds, h => by
    cases h with
    | flat e => exact .flat e
    | dct h1 h2 h3 h4 => exact .dct (s _ _ h2 h1) h2 h3 h4
  | _, .none, h => by cases h with | flat e => exact .flat e
  | _, .bool _, h => by cases h with | flat e => exact .flat e
  | _, .int _, h => by cases h with | flat e => exact .flat e
  | _, .str _, h => by cases h with | flat e => exact .flat e
theorem DxAll.keep (s : SameX a H H') : ∀ (vs : List V) (ds : List PyData), DxAll a H vs ds → DxAll a H' vs ds
  | _, [], h => by cases h; exact .nil
  | _, d :: ds, h => by
    cases h with
    | cons h1 h2 => exact .cons (Dx.keep s _ d h1) (DxAll.keep s _ ds h2)
end
theorem DxAll.length : ∀ {vs : List V} {ds : List PyData}, DxAll a H vs ds → vs.length = ds.length
  | _, _, .nil => rfl
  | _, _, .cons _ t => congrArg (· + 1) (DxAll.length t)
theorem DxAll.append : ∀ {vs ws : List V} {ds es : List PyData}, DxAll a H vs ds → DxAll a H ws es → DxAll a H (vs ++ ws) (ds ++ es)
  | _, _, _, _, .nil, t => t
  | _, _, _, _, .cons x y, t => .cons x (DxAll.append y t)
theorem DxAll.at : ∀ {vs : List V} {ds : List PyData} {i : Nat} {v : V}, DxAll a H vs ds → vs[i]? = some v → ∃ d, d ∈ ds ∧ Dx a H v d
  | _, _, _, _, .nil, e => by simp at e
  | _, _, 0, _, .cons x _, e => by
    simp at e; subst e
    exact ⟨_, List.mem_cons_self, x⟩
  | _, _, i + 1, v, .cons _ t, e => by
    obtain ⟨d, h1, h2⟩ := DxAll.at (i := i) t (by simpa using e)
    exact ⟨d, List.mem_cons_of_mem _ h1, h2⟩
theorem Dp_flat {K : PySem.W.Frag} {v : V} {d : PyData} (e : flatPD v = some d) : Dp K H v d := by
  cases v with
  | non => cases e; exact .non
  | bl b => cases e; exact .bl b
  | int i => cases e; exact .int i
  | str x => cases e; exact .str x
  | byt b => cases e
  | flt b => cases e
  | ref a => cases e
  | ty n => cases e
mutual
theorem Dx.dp (K : PySem.W.Frag) : ∀ (v : V) (d : PyData), d.hasDict = false → Dx a H v d → Dp K H v d
  | _, .list ds, n, h => by
    cases h with
    | flat e => exact Dp_flat e
    | lst h1 h2 h3 => exact .lst (sql_of h1) (DxAll.dp K _ ds (by simpa only [PyData.hasDict] using n) h3)
  | _, .tuple ds, n, h => by
    cases h with
    | flat e => exact Dp_flat e
    | tup h1 h2 h3 => exact .tup (sqt_of h1) (DxAll.dp K _ ds (by simpa only [PyData.hasDict] using n) h3)
  | _, .dict ds, n, h => by simp [PyData.hasDict] at n
  | _, .none, _, h => by cases h with | flat e => exact Dp_flat e
  | _, .bool _, _, h => by cases h with | flat e => exact Dp_flat e
  | _, .int _, _, h => by cases h with | flat e => exact Dp_flat e
  | _, .str _, _, h => by cases h with | flat e => exact Dp_flat e
theorem DxAll.dp (K : PySem.W.Frag) : ∀ (vs : List V) (ds : List PyData), PyData.hasDictAll ds = false → DxAll a H vs ds → DpAll K H vs ds
  | _, [], _, h => by cases h; exact .nil
  | _, d :: ds, n, h => by
    simp only [PyData.hasDictAll, Bool.or_eq_false_iff] at n
    cases h with
    | cons h1 h2 => exact .cons (Dx.dp K _ d n.1 h1) (DxAll.dp K _ ds n.2 h2)
end
end
/-! displays that lay data -/
def MkD (te : TE) (d : PyData) : Prop := ∀ (a : Addr) (σ : L2.St) (H : Hp) (Q : VK), H a ≠ none → (∀ v H', Same H H' → Dx a H' v d → Q v H') → te σ H Q
def MkA (ta : TA) (ds : List PyData) : Prop := ∀ (a : Addr) (σ : L2.St) (H : Hp) (Q : List V → Hp → Prop), H a ≠ none → (∀ vs H', Same H H' → DxAll a H' vs ds → Q vs H') → ta σ H Q
theorem same_some {a : Addr} {H H' : Hp} (s : Same H H') (h : H a ≠ none) : H' a ≠ none := by
  cases e : H a with
  | none => exact absurd e h
  | some o => rw [s _ _ e]; exact fun z => nomatch z
theorem mkA_nil : MkA tNil [] := fun _ _ H _ _ q => q [] H (Same.refl H) .nil
theorem mkA_cons {te : TE} {ta : TA} {d : PyData} {ds : List PyData} (h1 : MkD te d) (h2 : MkA ta ds) : MkA (tCons te ta) (d :: ds) := fun a σ H Q ha q =>
  h1 a σ H _ ha fun v H1 s1 x1 => h2 a σ H1 _ (same_some s1 ha) fun vs H2 s2 x2 => q (v :: vs) H2 (s1.trans s2) (.cons (Dx.keep (.of s2) _ _ x1) x2)
theorem mk_c {v : V} {d : PyData} (h : flatPD v = some d) : MkD (tC v) d := fun a σ H Q _ q => q v H (Same.refl H) (.flat h)
theorem mk_neg {i : Int} : MkD (tUn (rU fun i => .int (-i)) (tC (.int i))) (.int (-i)) := fun a σ H Q _ q => ⟨i, rfl, q _ H (Same.refl H) (.flat rfl)⟩
theorem mk_tup {ta : TA} {ds : List PyData} (h : MkA ta ds) (hl : ds.length ≤ 1000) : MkD (tTup ta) (.tuple ds) := fun a σ H Q ha q => h a σ H _ ha fun vs H1 s1 x1 =>
  ⟨Nat.le_of_lt (small1000 (by rw [x1.length]; exact hl)), fun p hp => q _ _ (s1.trans (same_upd hp)) (.tup upd_same (fun e => same_some s1 ha (e ▸ hp)) (DxAll.keep (.of (same_upd hp)) _ _ x1))⟩
theorem mk_lst {ta : TA} {ds : List PyData} (h : MkA ta ds) (hl : ds.length ≤ 1000) : MkD (tLst ta) (.list ds) := fun a σ H Q ha q => h a σ H _ ha fun vs H1 s1 x1 =>
  ⟨Nat.le_of_lt (small1000 (by rw [x1.length]; exact hl)), fun p hp => q _ _ (s1.trans (same_upd hp)) (.lst upd_same (fun e => same_some s1 ha (e ▸ hp)) (DxAll.keep (.of (same_upd hp)) _ _ x1))⟩
theorem mk_dnew : MkD tDNewK (.dict []) := fun a σ H Q ha q p hp => q _ _ (same_upd hp) (.dct upd_same (fun e => ha (e ▸ hp)) (fun _ z => nomatch z) .nil)
theorem mk_dict1 {k : Str} {i : Int} : MkD (tDisp [(tC (.str k), tC (.int i))]) (.dict [(.str k, .int i)]) := fun a σ H Q ha q p hp => by
  refine ⟨upd_same, [(Sum.inr k, .int i)], rfl, by show 1 ≤ 15; decide, ?_⟩
  refine q _ _ (fun b o e => ?_) (.dct upd_same (fun e => ha (e ▸ hp)) (kvs := [(Sum.inr k, .int i)]) ?_ (.cons ⟨rfl, rfl⟩ .nil))
  · have hb := ne_of_none e hp
    rw [upd_ne hb, upd_ne hb]; exact e
  · intro z hz
    rcases List.mem_cons.mp hz with rfl | hz
    · exact ⟨valV_pos (p := ((Sum.inr k : Key), V.int i)) (r := []) rfl, rfl⟩
    · cases hz
/-- what is shown of such data, and is equal to itself -/
def fineD (d : PyData) : Bool := d.showable && (decide (d.depth ≤ 60) && (decide (d.shown.length ≤ 1000) && (match d with | .dict _ => true | d => !d.hasDict && (SeqAt.shaped d && PyData.eqv d d))))
section
variable {X : Cx}
def rNeO (K : PySem.W.Frag) : R2 := fun x y H Q => ∃ (a : Addr) (d : PyData), y = x ∧ Dx a H x d ∧ fineD d = true ∧ Q (.bl false) H
theorem op_neO (hu : X.A.units + 64 < cLine) : OpR X (compareOp .NotEq) (rNeO X.K) := by
  intro pins s σ H x y v u Q I rx ry h
  obtain ⟨a, d, rfl, hd, hf, q⟩ := h
  unfold fineD at hf
  simp only [Bool.and_eq_true] at hf
  obtain ⟨_, _, _, hf⟩ := hf
  by_cases hdict : ∃ ds, d = .dict ds
  · obtain ⟨ds, rfl⟩ := hdict
    cases hd with
    | flat e => cases y <;> cases e
    | dct h1 h2 h3 h4 => exact op_ne_dictA (by omega) pins s σ H _ _ v u Q I rx ry ⟨_, _, _, _, rfl, rfl, h1, h1, rfl, h3, q⟩
  · have hf' : (!d.hasDict && (SeqAt.shaped d && PyData.eqv d d)) = true := by
      revert hf
      cases d with
      | dict ds => exact absurd ⟨ds, rfl⟩ hdict
      | _ => exact fun z => z
    simp only [Bool.and_eq_true, Bool.not_eq_true'] at hf'
    have z := Dx.dp X.K _ d hf'.1 hd
    exact op_neD hu pins s σ H _ _ v u Q I rx ry ⟨d, d, z, z, hf'.2.1, hf'.2.1, by rw [hf'.2.2]; exact q⟩
def rReprO : List V → Hp → VK → Prop := fun xs H Q => ∃ (x : V) (a : Addr) (d : PyData), xs = [x] ∧ Dx a H x d ∧ fineD d = true ∧ Q (.str d.shown) H
theorem call_reprO (hg : X.A.guards = some []) (hu : X.A.units + 100 < cLine) : CallR X (.builtin "repr") rReprO := by
  intro pins s σ H xs us Q I r h
  obtain ⟨x, a, d, rfl, hd, hf, q⟩ := h
  unfold fineD at hf
  simp only [Bool.and_eq_true, decide_eq_true_eq] at hf
  obtain ⟨h1, h2, h3, hf⟩ := hf
  refine call_repr hg hu pins s σ H _ us Q I r ⟨x, d, rfl, ?_, h1, h2, Nat.le_of_lt (small1000 h3), q⟩
  by_cases hdict : ∃ ds, d = .dict ds
  · obtain ⟨ds, rfl⟩ := hdict
    cases hd with
    | flat e => cases x <;> cases e
    | dct k1 k2 k3 k4 => exact .inr ⟨_, _, ds, rfl, k1, rfl, k4⟩
  · have hf' : (!d.hasDict && (SeqAt.shaped d && PyData.eqv d d)) = true := by
      revert hf
      cases d with
      | dict ds => exact absurd ⟨ds, rfl⟩ hdict
      | _ => exact fun z => z
    simp only [Bool.and_eq_true, Bool.not_eq_true'] at hf'
    exact .inl (Dx.dp X.K _ d hf'.1 hd)
/-- count(True) of bools -/
def isT : Value → Bool
  | .bool b => b
  | _ => false
def rCntT (K : PySem.W.Frag) : V → List V → Hp → VK → Prop := fun x xs H Q => ∃ (p : Addr) (bs : List Bool), x = .ref p ∧ xs = [.bl true] ∧ SqL K H p (bs.map V.bl) ∧ Q (.int (bs.count true : Nat)) H
theorem cnt_isT : ∀ {bs : List Bool} {us : List Value}, Vals (bs.map V.bl) us → us.countP isT = bs.count true
  | [], _, r => by cases r; rfl
  | b :: bs, _, r => by
    cases r with
    | cons r1 r2 =>
      have ih := cnt_isT r2
      rename_i u us'
      obtain rfl : u = Value.bool b := r1
      rw [List.countP_cons, ih, List.count_cons]
      cases b <;> rfl
theorem mem_vals : ∀ {bs : List Bool} {us : List Value}, Vals (bs.map V.bl) us → ∀ y ∈ us, ∃ b, y = Value.bool b
  | [], _, r, y, hy => by cases r; cases hy
  | b :: bs, _, r, y, hy => by
    cases r with
    | cons r1 r2 =>
      rcases List.mem_cons.mp hy with rfl | hy
      · exact ⟨b, r1⟩
      · exact mem_vals r2 y hy
theorem mt_cntT : MtR X "list.count" (rCntT X.K) := by
  intro pins s σ H x xs v us Q I rx rxs h
  obtain ⟨p, bs, rfl, rfl, hs, q⟩ := h
  cases rx
  obtain ⟨u, rfl, ru⟩ := rxs.one
  obtain rfl : u = Value.bool true := ru
  obtain ⟨its, rv, ⟨⟨cls, dd, data, sl⟩, n, ho, hc, hdn, hd⟩, hlen⟩ := I.list hs
  simp only at hc hd
  subst hc hd
  refine call_meets PySem.F.slot_list_count ⟨_, ho, rfl⟩ PySem.F.entry_list_count (PySem.F.args_list_count_2 _ _)
    (SeqAt.list_countAt p its.toArray n dd sl (.bool true) isT) ⟨ho, fun y hy => ?_, ?_⟩
  · obtain ⟨b, rfl⟩ := mem_vals rv y (by simpa using hy)
    have z := eqAt_V (A := X.A.in1) (s := s) (y := .bl b) (x := .bl true) (u := .bool b) (v := .bool true) rfl rfl rfl rfl
    have e : eqV (.bl b) (.bl true) = isT (.bool b) := by cases b <;> rfl
    rw [e] at z
    exact z
  · refine ⟨.int (bs.count true : Nat), H, I.tok _, ⟨s.toks, ?_⟩, q⟩
    have ec : its.toArray.toList.countP isT = bs.count true := cnt_isT rv
    rw [ec]
end
end Hw

set_option Elab.async false
set_option linter.all false
set_option maxRecDepth 100000
set_option maxHeartbeats 4000000
namespace Hw
open PySem L2 PyProof.Rows
section
variable {t u : TS} {te ta tb : TE} {g : TG} {D : Ends} {σ : L2.St} {H : Hp} {Q : VK} {tl tr : TA} {r : R2} {QA : List V → Hp → Prop} {sp : Sp} {dvs : List V} {E : XK}
theorem r_seq (h : t { D with nx := u D } σ H) : tSeq t u D σ H := h
theorem r_asg (h : te σ H fun x H1 => g x σ H1 D.nx) : tAsg te g D σ H := h
theorem r_ret (h : te σ H D.rt) : tRet te D σ H := h
theorem r_cons (h : te σ H fun x H1 => tr σ H1 fun xs H2 => QA (x :: xs) H2) : tCons te tr σ H QA := h
theorem r_op (h : ta σ H fun x H1 => tb σ H1 fun y H2 => r x y H2 Q) : tOp r ta tb σ H Q := h
theorem r_call (h : tl σ H fun vs H1 => sp (vs ++ dvs) H1 Q E) : tCall sp dvs E tl σ H Q := h
theorem r_var {i : Nat} {v : V} (e : σ[i]? = some (some v)) (h : Q v H) : tVar i σ H Q := ⟨v, e, h⟩
end
theorem lst_use {ta : TA} {ds : List PyData} {a : Addr} {σ : L2.St} {H : Hp} {Q : VK} (ha : H a ≠ none) (q : ∀ p xs H', Same H H' → H' p = some (.lst xs) → p ≠ a → DxAll a H' xs ds → Q (.ref p) H') (m : MkA ta ds) (hl : ds.length ≤ 1000) : tLst ta σ H Q :=
  mk_lst m hl a σ H Q ha fun v H' s x => by
    cases x with
    | flat e => cases v <;> cases e
    | lst h1 n1 x1 => exact q _ _ H' s h1 n1 x1
section
variable {t u : TS} {te to : TE} {D : Ends} {σ : L2.St} {H : Hp} {i : Nat} {c : TT} {ta : TA} {K : PySem.W.Frag} {T : String} {r : V → List V → Hp → VK → Prop}
theorem rs_set (h : te σ H fun x H1 => u D (σ.set i (some x)) H1) : tSeq (tAsg te (gName i)) u D σ H := h
theorem rs_bm (h : to σ H fun x H1 => tyV K T x H1 ∧ ta σ H1 fun xs H2 => r x xs H2 fun _ H3 => u D σ H3) : tSeq (tDrop (tBM K T r to ta)) u D σ H := h
theorem rs_ifR (h : c σ H fun b H1 => if b = true then te σ H1 D.rt else u D σ H1) : tSeq (tIfS c (tRet te) tNext) u D σ H := h
theorem r1_ifR (h : c σ H fun b H1 => if b = true then te σ H1 D.rt else D.nx σ H1) : tIfS c (tRet te) tNext D σ H := h
end
/-! tests that come out false, new objects apart -/
def AnsF (t : TT) (σ : L2.St) (H : Hp) : Prop := ∀ Q : Bool → Hp → Prop, (∀ H', Same H H' → Q false H') → t σ H Q
section
variable {t u : TT} {σ : L2.St} {H : Hp} {te : TE} {us : TS} {D : Ends}
theorem ansF_or (h1 : AnsF t σ H) (h2 : ∀ H', Same H H' → AnsF u σ H') : AnsF (tOr t u) σ H := fun Q q =>
  h1 _ fun H1 s1 => by
    show if false = true then Q true H1 else u σ H1 Q
    rw [if_neg Bool.false_ne_true]
    exact h2 H1 s1 Q fun H2 s2 => q H2 (s1.trans s2)
theorem rs_skip (h1 : AnsF t σ H) (h : ∀ H', Same H H' → us D σ H') : tSeq (tIfS t (tRet te) tNext) us D σ H := h1 _ fun H1 s1 => by
  show if false = true then _ else _
  rw [if_neg Bool.false_ne_true]
  exact h H1 s1
theorem r1_skip (h1 : AnsF t σ H) (h : ∀ H', Same H H' → D.nx σ H') : tIfS t (tRet te) tNext D σ H := h1 _ fun H1 s1 => by
  show if false = true then _ else _
  rw [if_neg Bool.false_ne_true]
  exact h H1 s1
end
section
variable {u : TS} {D : Ends} {σ : L2.St} {H : Hp} {i j : Nat} {ta : TA} {v : V} {Q : L2.St → Hp → Prop}
theorem rs_par (h : ta σ H fun vs H1 => ∃ v w, vs = [v, w] ∧ u D ((σ.set i (some v)).set j (some w)) H1) : tSeq (tPar i j ta) u D σ H := h
theorem r_gname (h : Q (σ.set i (some v)) H) : gName i v σ H Q := h
end
theorem rs_enum {K : PySem.W.Frag} {u tb : TS} {g : TG} {D : Ends} {σ : L2.St} {H : Hp} {i : Nat} {p : Addr} {xs : List V} (e : σ[i]? = some (some (.ref p))) (hs : SqL K H p xs) (Pv : Nat → L2.St → Hp → Prop) (h0 : Pv 0 σ H)
    (hG : ∀ j σ H, j ≤ xs.length → Pv j σ H → SqL K H p xs)
    (turn : ∀ j x σ H T, j < xs.length → Pv j σ H → H T = none → xs[j]? = some x → g (.ref T) σ (upd H T (.tup [.int (j : Int), x])) fun σ2 H2 => tb { D with nx := Pv (j + 1), ct := Pv (j + 1), bk := u D } σ2 H2)
    (done : ∀ σ H, Pv xs.length σ H → u D σ H) : tSeq (tFor (iEnum K (tCons (tVar i) tNil)) g tb) u D σ H :=
  ⟨.ref p, e, p, xs, rfl, hs, for_it walk_enum Pv h0 hG (fun j x σ H H' hj hp ⟨T, xa, ya, ex, nT, eH, e1, e2⟩ => by
    subst ex eH
    obtain rfl : V.int (j : Int) = xa := Option.some.inj e1
    exact turn j ya σ H T hj hp nT e2) done⟩
theorem paired_at {α β : Type} {F : α → β → Prop} : ∀ {xs : List α} {ys : List β} {i : Nat} {y : β}, Paired F xs ys → ys[i]? = some y → ∃ x, xs[i]? = some x ∧ F x y
  | _, _, _, _, .nil, e => by simp at e
  | _, _, 0, _, .cons a _, e => by simp at e; subst e; exact ⟨_, rfl, a⟩
  | _, _, i + 1, y, .cons _ t, e => by
    obtain ⟨x, h1, h2⟩ := paired_at (i := i) t (by simpa using e)
    exact ⟨x, by simpa using h1, h2⟩
theorem r_yes {σ : L2.St} {H : Hp} {te : TE} {Q1 : VK} {B : Prop} (h : te σ H Q1) : tYes σ H fun b H3 => if b = true then te σ H3 Q1 else B := by
  show if true = true then te σ H Q1 else B
  rw [if_pos rfl]
  exact h
end Hw

set_option Elab.async false
set_option linter.all false
set_option maxRecDepth 100000
set_option maxHeartbeats 4000000
namespace HN
open PySem PySem.Spec PyProof.Rows PySem.SeqAt
section
variable {prog : Program} {w : World} {A : Around} {E : Value → Shared → Prop} {s : Shared} {K : PySem.W.Frag} {x C f : Addr} {ox : Obj} {od : Option Obj} {b tb : Value}
/-- how an answer is turned about -/
def NotBack (Q : Value → Shared → Prop) (v : Value) (s' : Shared) : Prop := ∃ r, v = .bool r ∧ Q (.bool (!r)) s'
theorem ne_entry {Q : Fin → Shared → Prop} (hu : A.units < cLine) (X : K.In s.heap) (I : PySem.W.InstAt s.heap x ox C od) (hs : PySem.W.findIn K (.ref C) "__eq__" = some (some (.ref f))) (hf : PySem.W.isFn K (.ref f) = true)
    (h : wpAny (model prog w) A (call (.ref f) [.ref x, b]) (NotBack fun v s' => Q (.done (.ret v)) s') E s) : wpAny (model prog w) A (Builtin.«object.__ne__» ⟨[.ref x, b], []⟩) Q E s := by
  have one : wpAny (model prog w) A (callSpecialIfBound? (.ref x) "__eq__" [b]) (fun r s' => ∃ q, r = some (.bool q) ∧ Q (.done (.ret (.bool (!q)))) s') E s :=
    PySem.W.ifBound_K X I hs hf (wpAny_mono h (fun v s' z => by
      obtain ⟨r, e, q⟩ := z
      exact ⟨r, by rw [e], q⟩) fun _ _ e => e)
  unfold Builtin.«object.__ne__»
  repeat (first
    | with_reducible refine wpAny_cRoomFor hu ?_
    | (refine wpAny_bind (m := callSpecialIfBound? (.ref x) (Str.ofString "__eq__") [b]) (wpAny_mono one (fun r s' z => by
        obtain ⟨q, e, hq⟩ := z
        subst e
        repeat (first | exact hq | exact wpAny_pure hq | exact wpAny_truthy_bool hq | (refine wpAny_bind (m := truthy (.bool _)) (wpAny_truthy_bool ?_)) | wp_step)) fun _ _ e => e))
    | wp_step)
theorem ifBound_objNe {M : Model} {args : List Value} {Q : Option Value → Shared → Prop} (X : K.In s.heap) (I : PySem.W.InstAt s.heap x ox C od) (hs : PySem.W.findIn K (.ref C) "__ne__" = some (some (.builtin "object.__ne__")))
    (h : wpAny M A (call (.builtin "object.__ne__") (.ref x :: args)) (fun v => Q (some v)) E s) : wpAny M A (callSpecialIfBound? (.ref x) "__ne__" args) Q E s := by
  simp only [callSpecialIfBound?, bindSpecialIfBound?]
  refine wpAny_holding (wpAny_bind (wpAny_bind (wpAny_bind (I.type.here ((PySem.W.looks_findIn X hs).here ?_)))))
  refine wpAny_bind (wpAny_askSetting (wpAny_ite ?_))
  have last : wpAny M A (call (.builtin "object.__ne__") ([.ref x] ++ args) >>= fun v => pure (some v)) Q E s := wpAny_bind (wpAny_mono h (fun v s' z => wpAny_pure z) fun _ _ z => z)
  have nb := F.cmp_object.ne.bind
  split
  · exact wpAny_bind (wpAny_of_eq (nb _) (wpAny_pure (by exact last)))
  · exact wpAny_tryCatch (wpAny_bind (wpAny_of_eq (nb _) (wpAny_pure (by exact last))))
theorem rich_ne {Q : Value → Shared → Prop} (hu : A.units + 1 < cLine) (X : K.In s.heap) (I : PySem.W.InstAt s.heap x ox C od) (hb : PySem.W.Looks (model prog w) s.heap (typeOf b) tb) (hn : PySem.W.notFirst K C tb = true)
    (hm : PySem.W.mroIn K C (.type "object") = some true) (hs : PySem.W.findIn K (.ref C) "__eq__" = some (some (.ref f))) (hf : PySem.W.isFn K (.ref f) = true) (hne : PySem.W.findIn K (.ref C) "__ne__" = some (some (.builtin "object.__ne__")))
    (h : wpAny (model prog w) A.in1 (call (.ref f) [.ref x, b]) (NotBack Q) E s) : wpAny (model prog w) A (richCompare .NotEq (.ref x) b) Q E s := by
  have one : wpAny (model prog w) A (tryCompare (.ref x) "__ne__" b) (fun r s' => ∃ v, r = some v ∧ Q v s') E s := by
    unfold tryCompare
    refine wpAny_bind (ifBound_objNe X I hne (wpAny_call (codeAny_call_builtin F.cmp_object.ne.plain F.cmpEntry_ne (PySem.W.check_slot F.cmpKind_ne F.cmpSplit_ne (I.type.andThen (PySem.W.looks_mroIn X hm)) (F.cmpArgs_ne _ _) (ne_entry (A := A.in1) hu X I hs hf (wpAny_mono h (fun v s' z => ?_) fun _ _ e => e))))))
    obtain ⟨r, e, q⟩ := z
    refine ⟨r, e, ?_⟩
    exact wpAny_pure ⟨_, rfl, q⟩
  simp only [richCompare, cmpInfo_NotEq, oneThing_ref]
  refine wpAny_holding (wpAny_bind (wpAny_cRoomFor (Nat.lt_of_succ_lt hu) ?_))
  refine wpAny_bind (I.type.here (wpAny_bind (hb.here ?_)))
  split
  · rename_i q
    have e : PySem.W.subIn K tb (.ref C) = some false := by
      have hn' := hn
      unfold PySem.W.notFirst at hn'
      rcases Bool.or_eq_true_iff.mp hn' with e | e
      · rw [beq_iff_eq.mp e] at q; simp at q
      · exact beq_iff_eq.mp e
    refine wpAny_bind ((PySem.W.looks_subIn X e).here ?_)
    simp only [Bool.false_eq_true, if_false]
    refine wpAny_bind (wpAny_mono one (fun r s' z => ?_) fun _ _ z => z)
    obtain ⟨v, e, hq⟩ := z
    subst e
    exact wpAny_pure hq
  · refine wpAny_bind (wpAny_pure ?_)
    simp only [Bool.false_eq_true, if_false]
    refine wpAny_bind (wpAny_mono one (fun r s' z => ?_) fun _ _ z => z)
    obtain ⟨v, e, hq⟩ := z
    subst e
    exact wpAny_pure hq
end
end HN
namespace Hw
open PySem L2 PyProof.Rows
/-- x == y (or !=) where x has a class of the text with its own == -/
def rEqU (K : PySem.W.Frag) (C : Addr) (sp : Sp) (E : XK) (neg : Bool) : R2 := fun x y H Q => ∃ a dx fs t, x = .ref a ∧ H a = some (.ins C dx fs) ∧ TyX K H y t ∧ PySem.W.notFirst K C t = true ∧ sp [.ref a, y] H (fun v H' => ∃ b, v = .bl b ∧ Q (.bl (b != neg)) H') E
/-- the class's own comparison -/
structure EqM (K : PySem.W.Frag) (C f : Addr) : Prop where
  eq : PySem.W.findIn K (.ref C) "__eq__" = some (some (.ref f))
  fn : PySem.W.isFn K (.ref f) = true
  ne : PySem.W.findIn K (.ref C) "__ne__" = some (some (.builtin "object.__ne__"))
  obj : PySem.W.mroIn K C (.type "object") = some true
section
variable {X : Cx} {n : Nat} {CX : CXT} {C f : Addr} {fd : FuncData} {ps : List Str} {sp : Sp} {E : XK}
theorem own_run (F : FnOk X.prog X.w X.K X.mg X.base CX n f fd ps sp) (hb : Binds X.K fd ps []) (hx : Passes CX X E) {A : Around} (hr : Room n A) (hfr : A.frames = X.A.frames) {pins : List (Addr × Obj)} {σ : L2.St} {H : Hp} {s : Shared} {vs : List V} {us : List Value} (I : Inv X pins σ H s) (r2 : Vals vs us) {R : VK}
    (hsp : sp vs H R E) {QQ : Value → Shared → Prop} (hq : ∀ z u H' s', Inv X pins σ H' s' → RelV z u → R z H' → QQ u s') : wpAny (model X.prog X.w) A (call (.ref f) us) QQ X.xe s := by
  have e0 : Env0 X.prog X.w X.K X.mg X.base A X.stack s H := by
    have e := I.env0
    exact ⟨by rw [hfr]; exact e.frames, e.mod, e.bs, e.bsz, e.funs, e.frf, e.hok, e.bare⟩
  have hl := F.len _ _ _ _ hsp
  have hl2 : us.length = vs.length := (Vals.length r2).symm
  refine wpAny_call (codeAny_mono (F.run A X.stack s H ⟨us, []⟩ us vs _ E hr e0 (by
    have := hb s us I.kIn (by simpa [hl2] using hl)
    simpa using this) r2 hsp) fun r s' z => ?_)
  cases r with
  | error e => exact hx pins σ H s e s' I z
  | ok fl =>
    cases fl with
    | ret u =>
      obtain ⟨z, H', I', rz, q⟩ := I.after z
      exact hq z u H' s' I' rz q
    | next => exact False.elim z
    | brk => exact False.elim z
    | cont => exact False.elim z
theorem eqU_run (F : FnOk X.prog X.w X.K X.mg X.base CX n f fd ps sp) (hb : Binds X.K fd ps []) (hx : Passes CX X E) {A : Around} (hr : Room n A) (hfr : A.frames = X.A.frames) {pins : List (Addr × Obj)} {σ : L2.St} {H : Hp} {s : Shared} {a : Addr} {y : V} {v : Value} (I : Inv X pins σ H s) (ry : RelV y v) {R : Bool → Hp → Prop}
    (hsp : sp [.ref a, y] H (fun z H' => ∃ b, z = .bl b ∧ R b H') E) {QQ : Value → Shared → Prop} (hq : ∀ b H' s', Inv X pins σ H' s' → R b H' → QQ (.bool b) s') : wpAny (model X.prog X.w) A (call (.ref f) [.ref a, v]) QQ X.xe s :=
  own_run F hb hx hr hfr I (.cons (show RelV (V.ref a) (Value.ref a) from rfl) (.cons ry .nil)) hsp fun z u H' s' I' rz ⟨b, ez, q⟩ => by
    subst ez
    cases rz
    exact hq b H' s' I' q
/-- len of an object with its own __len__ -/
theorem call_lenU (F : FnOk X.prog X.w X.K X.mg X.base CX n f fd ps sp) (hb : Binds X.K fd ps []) (hx : Passes CX X E) (hs : PySem.W.findIn X.K (.ref C) "__len__" = some (some (.ref f))) (hf : PySem.W.isFn X.K (.ref f) = true) (hr : Room (n + 1) X.A) :
    CallR X (.builtin "len") (fun xs H Q => ∃ a dx fs, xs = [V.ref a] ∧ H a = some (.ins C dx fs) ∧ sp [.ref a] H (fun v H' => ∃ k : Nat, v = .int k ∧ k ≤ 1000000 ∧ Q (.int k) H') E) := by
  intro pins s σ H xs us Q I r h
  obtain ⟨a, dx, fs, rfl, ha, hsp⟩ := h
  obtain ⟨u, rfl, ru⟩ := vals1 r
  cases ru
  obtain ⟨m1, J, _⟩ := ins_get I.hok ha
  obtain ⟨od, J, _⟩ := J.look
  obtain ⟨m, hF⟩ := I.fr
  refine PySem.W.len_K hF I.ok.mod.kin J hs hf ?_
  refine own_run F hb hx hr.in1 rfl I (.cons (show RelV (V.ref a) (Value.ref a) from rfl) .nil) hsp fun z u H' s' I' rz q => ?_
  obtain ⟨k, ez, hk, q⟩ := q
  subst ez
  obtain ⟨t, rfl⟩ := rz
  exact ⟨⟨by omega, by have : (2 : Int) ^ 63 = 9223372036854775808 := by decide
                       omega⟩, .int k, H', I'.tok _, ⟨_, rfl⟩, q⟩
theorem op_eqU (F : FnOk X.prog X.w X.K X.mg X.base CX n f fd ps sp) (hb : Binds X.K fd ps []) (hx : Passes CX X E) (M : EqM X.K C f) (hr : Room n X.A) : OpR X (compareOp .Eq) (rEqU X.K C sp E false) := by
  intro pins s σ H x y v u Q I rx ry hq
  obtain ⟨a, dx, fs, t, rfl, ha, ty, nf, hsp⟩ := hq
  cases rx
  obtain ⟨m1, J, _⟩ := ins_get I.hok ha
  obtain ⟨od, J, _⟩ := J.look
  obtain ⟨m, hF⟩ := I.fr
  obtain ⟨Pk, Z, pk, _⟩ := kit_of I ry ty
  refine PySem.W.cmp_K (op := .Eq) (tb := t) hr.units0 hF I.ok.mod.kin J (Z.ty _ _ I.kIn pk) nf M.eq M.fn ?_
  exact eqU_run F hb hx hr rfl I ry hsp fun b H' s' I' q => ⟨.bl b, H', I', rfl, by simpa using q⟩
theorem op_neU (F : FnOk X.prog X.w X.K X.mg X.base CX n f fd ps sp) (hb : Binds X.K fd ps []) (hx : Passes CX X E) (M : EqM X.K C f) (hr : Room (n + 1) X.A) : OpR X (compareOp .NotEq) (rEqU X.K C sp E true) := by
  intro pins s σ H x y v u Q I rx ry hq
  obtain ⟨a, dx, fs, t, rfl, ha, ty, nf, hsp⟩ := hq
  cases rx
  obtain ⟨m1, J, _⟩ := ins_get I.hok ha
  obtain ⟨od, J, _⟩ := J.look
  obtain ⟨Pk, Z, pk, _⟩ := kit_of I ry ty
  refine HN.rich_ne (tb := t) (by have := hr.units; omega) I.kIn J (Z.ty _ _ I.kIn pk) nf M.obj M.eq M.fn M.ne ?_
  exact eqU_run F hb hx hr.in1 rfl I ry hsp fun b H' s' I' q => ⟨b, rfl, ⟨.bl (!b), H', I', rfl, by cases b <;> simpa using q⟩⟩
end
end Hw

set_option Elab.async false
set_option linter.all false
set_option maxRecDepth 100000
namespace Hw
open PySem L2 PyProof.Rows
/-! texts as lists of codes -/
def SL (l : List Nat) : Str := ⟨l.toArray⟩
theorem SL_cps (l : List Nat) : (SL l).cps.toList = l := rfl
theorem SL_of (z : Str) : SL z.cps.toList = z := by obtain ⟨a⟩ := z; rfl
theorem str_ext {x y : Str} (h : x.cps.toList = y.cps.toList) : x = y := by rw [← SL_of x, ← SL_of y, h]
theorem SL_len (l : List Nat) : (SL l).length = l.length := by show l.toArray.size = l.length; simp
theorem len_cps (z : Str) : z.length = z.cps.toList.length := by obtain ⟨a⟩ := z; simp [Str.length]
theorem app_cps (x y : Str) : (x ++ y).cps.toList = x.cps.toList ++ y.cps.toList := by
  show (x.cps ++ y.cps).toList = _
  simp
theorem app_len (x y : Str) : (x ++ y).length = x.length + y.length := by rw [len_cps, len_cps, len_cps, app_cps, List.length_append]
theorem sjoin_cps0 : ∀ (cs : List Str), (Str.join (Str.ofString "") cs).cps.toList = cs.flatMap fun z => z.cps.toList
  | [] => rfl
  | [x] => by simp [Str.join]
  | x :: y :: r => by
    have ih := sjoin_cps0 (y :: r)
    have e : Str.join (Str.ofString "") (x :: y :: r) = x ++ Str.ofString "" ++ Str.join (Str.ofString "") (y :: r) := rfl
    rw [e, app_cps, app_cps, ih]
    show x.cps.toList ++ [] ++ _ = _
    rw [List.append_nil]; rfl
theorem join_cps0 (cs : List Str) : (Txt.join (Str.ofString "") cs).cps.toList = cs.flatMap fun z => z.cps.toList := by rw [TL.join_eq]; exact sjoin_cps0 cs
/-- a name: one to eight letters -/
def Nm (z : Str) : Prop := 1 ≤ z.length ∧ z.length ≤ 8 ∧ ∀ c ∈ z.cps.toList, 97 ≤ c ∧ c ≤ 122
instance (z : Str) : Decidable (Nm z) := by unfold Nm; exact inferInstance
/-- the words that are tried in the place of a word that is known -/
def cand (w : Str) : Nat → Str
  | 0 => w
  | k + 1 => SL ([97 + k / 26, 97 + k % 26] ++ w.cps.toList.drop 2)
theorem cand_drop (w : Str) : ∀ k, (cand w k).cps.toList.drop 2 = w.cps.toList.drop 2
  | 0 => rfl
  | k + 1 => by
    show (SL ([97 + k / 26, 97 + k % 26] ++ w.cps.toList.drop 2)).cps.toList.drop 2 = _
    rw [SL_cps]; rfl
theorem cand_nm {w : Str} (h : Nm w) {k : Nat} (hk : k ≤ 676) : Nm (cand w k) := by
  cases k with
  | zero => exact h
  | succ k =>
    obtain ⟨h1, h2, h3⟩ := h
    have e : (cand w (k + 1)).cps.toList = [97 + k / 26, 97 + k % 26] ++ w.cps.toList.drop 2 := SL_cps _
    have l : (cand w (k + 1)).length = 2 + (w.length - 2) := by
      rw [len_cps, e, List.length_append, List.length_drop, ← len_cps]; rfl
    refine ⟨by omega, by omega, fun c hc => ?_⟩
    rw [e] at hc
    rcases List.mem_append.mp hc with hc | hc
    · simp only [List.mem_cons, List.not_mem_nil, or_false] at hc
      rcases hc with rfl | rfl <;> omega
    · exact h3 c (List.mem_of_mem_drop hc)
theorem cand_inj {w : Str} {i j : Nat} (h : cand w (i + 1) = cand w (j + 1)) : i = j := by
  have e : ([97 + i / 26, 97 + i % 26] ++ w.cps.toList.drop 2) = ([97 + j / 26, 97 + j % 26] ++ w.cps.toList.drop 2) := by
    have z := congrArg (fun s : Str => s.cps.toList) h
    exact z
  injection e with e1 e2
  injection e2 with e2 e3
  omega
theorem sub_len {α : Type} [DecidableEq α] : ∀ {l m : List α}, l.Nodup → (∀ x ∈ l, x ∈ m) → l.length ≤ m.length
  | [], _, _, _ => Nat.zero_le _
  | a :: l, m, hn, hs => by
    obtain ⟨ha, hl⟩ := List.nodup_cons.mp hn
    have hm : a ∈ m := hs a List.mem_cons_self
    have ih := sub_len (m := m.erase a) hl fun x hx => by
      refine (List.mem_erase_of_ne ?_).mpr (hs x (List.mem_cons_of_mem _ hx))
      rintro rfl; exact ha hx
    have e := List.length_erase_of_mem hm
    have p : 0 < m.length := List.length_pos_of_mem hm
    rw [List.length_cons]; omega
theorem cand_few {w : Str} {ks : List Str} {k : Nat} (h : ∀ j, j < k → cand w j ∈ ks) : k ≤ ks.length + 1 := by
  cases k with
  | zero => omega
  | succ k =>
    have z := sub_len (l := (List.range k).map fun j => cand w (j + 1)) (m := ks) ?_ ?_
    · rw [List.length_map, List.length_range] at z; omega
    · rw [List.Nodup, List.pairwise_map]
      exact List.Pairwise.imp (fun {i j} hij e => hij (cand_inj e)) (List.nodup_range (n := k))
    · intro x hx
      obtain ⟨j, hj, rfl⟩ := List.mem_map.mp hx
      exact h (j + 1) (by have := List.mem_range.mp hj; omega)
def alpha : Str := Str.ofString "abcdefghijklmnopqrstuvwxyz"
theorem alpha_at : ∀ k, k < 26 → alpha.cps.toList[k]? = some (97 + k) := by decide +kernel
theorem alpha_mem : ∀ c ∈ alpha.cps.toList, 97 ≤ c ∧ c ≤ 122 := by decide +kernel
theorem alpha_len : alpha.length = 26 := by decide +kernel
theorem ones_join (cs : List Nat) : (Txt.join (Str.ofString "") (cs.map fun c => SL [c])).cps.toList = cs := by
  rw [join_cps0, List.flatMap_map]
  induction cs with
  | nil => rfl
  | cons c cs ih =>
    rw [List.flatMap_cons, ih]; rfl
end Hw

set_option Elab.async false
set_option linter.all false
set_option maxRecDepth 100000
set_option maxHeartbeats 4000000
namespace Hw
open PySem L2 PyProof.Rows
/-! a built-in class called with keywords -/
theorem callWith_tyK {M : Model} {A : Around} {E : Value → Shared → Prop} {s : Shared} {pos : Pos} {T : String} {first : List Value} {args : List (Bool × Sem Value)} {keywords : List (Option Str × Sem Value)} {Q : Value → Shared → Prop}
    (hp : args.any (·.1) = false) (hk : keywords.any (·.1.isNone) = false) (h : wpAny M A (evalArgs (.type T) true args keywords) (fun a s1 => wpAny M A (call (.type T) (first ++ a.pos) a.kw) Q E s1) E s) :
    wpAny M A (callWith pos (.type T) first args keywords) Q E s := by
  unfold callWith
  refine wpAny_bind (wpAny_holding (wpAny_mono h (fun a s1 h1 => wpAny_bind (wpAny_standAt ?_)) fun _ _ z => z))
  simp only [hp, hk, Bool.or_false]
  refine wpAny_bind (wpAny_pure ?_)
  exact wpAny_bind (wpAny_mono h1 (fun r s2 hr => wpAny_bind (wpAny_holding (wpAny_point (wpAny_pure hr)))) fun _ _ z => z)
/-! enumerate(list, start=k) -/
def IteK (K : PySem.W.Frag) (a : Addr) (k0 : Int) : It :=
  ⟨fun i H => ∃ (xs : List V) (x : V), SqL K H a xs ∧ xs[i]? = some x, fun i H v H' => ∃ T x, v = .ref T ∧ H T = none ∧ H' = upd H T (.tup [.int (k0 + (i : Nat)), x]) ∧ ∀ xs, SqL K H a xs → xs[i]? = some x, fun i H => ∃ xs : List V, SqL K H a xs ∧ xs.length = i⟩
theorem turn_enumK {P : Program} {w : World} {K : PySem.W.Frag} {elts : List Expr} {kk : Nat} {tpos : Pos} (k0 : Int) (a e it : Addr) :
    Turn P w K (.Tuple elts kk tpos) (IteK K a k0) [e, it] e (fun i h => (∃ old, IsEnum h e it (k0 + (i : Nat)) old) ∧ h.IsListIter it a i ∧ e ≠ it) where
  mem := by simp
  obj := fun i h st b hb => by
    obtain ⟨⟨old, he⟩, ⟨o, ho, hc, hd⟩, _⟩ := st
    rcases (show b = e ∨ b = it by simpa using hb) with z | z
    · subst z; exact ⟨_, he, fun v q => nomatch q⟩
    · subst z; exact ⟨o, ho, fun v q => by rw [hd] at q; cases q⟩
  keep := fun i h h' st k => by
    obtain ⟨⟨old, he⟩, hi, hne⟩ := st
    exact ⟨⟨old, k e (by simp) _ he⟩, hi.at fun o q => k it (by simp) o q, hne⟩
  item := by
    intro X hP hw hK hc i pins s σ H E I hf st hg
    subst hP hw hK
    obtain ⟨⟨old, he⟩, hit, hne⟩ := st
    obtain ⟨xs, x, hq, hx⟩ := hg
    obtain ⟨its, rv, p, hz⟩ := I.list hq
    obtain ⟨u, hu, ru⟩ := rv.get hx
    have hel : e < s.heap.objs.size := Heap.lt_size he
    have hil : it < s.heap.objs.size := by
      obtain ⟨_, q, _⟩ := hit
      exact Heap.lt_size q
    have hae : a ≠ e := fun z => by
      obtain ⟨o1, q1, q2, _⟩ := p.isList
      subst z
      rw [show s.heap.get? a = _ from he] at q1
      obtain rfl := Option.some.inj q1
      injection q2 with q2
      exact absurd q2 (by decide)
    have hai : a ≠ it := fun z => by
      obtain ⟨o1, q1, q2, _⟩ := p.isList
      obtain ⟨o2, q3, q4, _⟩ := hit
      subst z
      rw [q3] at q1
      obtain rfl := Option.some.inj q1
      rw [q4] at q2
      injection q2 with q2
      exact absurd q2 (by decide)
    have hlt : i < its.toArray.size := by
      have := (List.getElem?_eq_some_iff.mp hu).1
      simpa using this
    refine wpAny_pyNext_enum_itemC (Draws.list (A := X.A.in1) (I.ok.hd hc) it a hai its.toArray) he ⟨hit, p.isList⟩ hlt hne (by simp [Ne.symm hae, hne]) fun x' h' tk hx' ho hst' hT hsz hk => ⟨_, rfl, wpAny_letOwnedTupleGo_enum (s := { s with heap := h', toks := tk + 1 }) ho fun h2 he' sb => ?_⟩
    obtain ⟨hit', hl'⟩ := hst'
    obtain rfl : u = x' := by
      rw [show its.toArray[i]? = its[i]? by simp] at hx'
      rw [hu] at hx'
      exact Option.some.inj hx'
    have hT2 : h2.get? s.heap.objs.size = some { cls := .type "tuple", data := .seq #[.int (k0 + (i : Nat)) tk, u] } := (sb.2 _ (Nat.ne_of_gt hel)).trans hT
    have new : ObjOk X.prog X.w (upd H s.heap.objs.size (.tup [.int (k0 + (i : Nat)), x])) h2 s.heap.objs.size (.tup [.int (k0 + (i : Nat)), x]) :=
      ⟨by show 2 ≤ sizeLine; decide, [.int (k0 + (i : Nat)) tk, u], .cons ⟨_, rfl⟩ (.cons ru .nil), ⟨_, hT2, rfl, _, rfl⟩⟩
    have I1 : Inv X pins σ (upd H s.heap.objs.size (.tup [.int (k0 + (i : Nat)), x])) { s with heap := h2, toks := tk + 1 } :=
      I.turnedNew (ch := [e, it]) (fun b ob hb q => (sb.2 b (fun z => hb (by simp [z]))).trans (hk b ob (fun z => hb (by simp [z])) (fun z => hb (by simp [z])) q)) hf (Nat.le_refl _) new
    refine ⟨.ref s.heap.objs.size, _, I1, rfl, ⟨_, x, rfl, I.hok.fresh (Nat.le_refl _), rfl, fun ys hy => by rw [I.list_inj hy hq]; exact hx⟩, ⟨⟨u, ?_⟩, hit'.at fun o q => (sb.2 it (Ne.symm hne)).trans q, hne⟩, fun b hb => ?_⟩
    · have e1 : k0 + ((i + 1 : Nat) : Int) = k0 + (i : Nat) + 1 := by omega
      rw [e1]; exact he'
    · have hb' : b < s.heap.objs.size := by
        rcases (show b = e ∨ b = it by simpa using hb) with z | z
        · rw [z]; exact hel
        · rw [z]; exact hil
      rw [upd_ne (Nat.ne_of_lt hb')]
      exact (hf b hb).1
  done := by
    intro X hP hw hK hc i pins s σ H E I hf st hg
    subst hP hw hK
    obtain ⟨⟨old, he⟩, hit, hne⟩ := st
    obtain ⟨xs, hq, hx⟩ := hg
    obtain ⟨its, rv, p, hz⟩ := I.list hq
    obtain ⟨f0, f1, f2, f3, f4, f5⟩ := hf it (by simp)
    have hl := rv.length
    have hai : a ≠ it := fun z => by
      obtain ⟨o1, q1, q2, _⟩ := p.isList
      obtain ⟨o2, q3, q4, _⟩ := hit
      subst z
      rw [q3] at q1
      obtain rfl := Option.some.inj q1
      rw [q4] at q2
      injection q2 with q2
      exact absurd q2 (by decide)
    have ei : its.toArray.size = i := by simp; omega
    refine wpAny_pyNext_enum_endD (Draws.list (A := X.A.in1) (I.ok.hd hc) it a hai its.toArray) he ⟨by rw [ei]; exact hit, p.isList⟩ fun h' eb => ⟨rfl, I.turned (t' := s.toks) (fun b o hb q => eb b o hb q) f0 f1 f3 f4 f5⟩
  self := fun A i s Q E st h => by
    obtain ⟨⟨_, he⟩, _⟩ := st
    exact wpAny_pyIter_enum he h
def iEnumK (K : PySem.W.Frag) (ta tk : TA) : TI := fun σ H R => ta σ H fun vs H1 => tk σ H1 fun zs H2 => ∃ a xs k, vs = [.ref a] ∧ zs = [.int k] ∧ -(2 ^ 62) ≤ k ∧ k < 2 ^ 62 ∧ SqL K H2 a xs ∧ R (IteK K a k) H2
theorem pi_enumK {X : Cx} {e ke : Expr} {ta tk : TA} {p pos tpos kp : Pos} {elts : List Expr} {kk : Nat} (hg : Gl X "enumerate") (hm : X.mg "enumerate" = none) (ha : PA X [e] ta) (hk : PK X [⟨some (Str.ofString "start"), ke, kp⟩] tk)
    (he : backTo pos (starEach [e] X.env) = (false, eval e X.env) :: backTo pos (starEach [] X.env) := by rfl) (hpl : (backTo pos (starEach [e] X.env)).any (·.1) = false := by rfl)
    (hall : (backToKw pos (keywordEach [⟨some (Str.ofString "start"), ke, kp⟩] X.env)).all (·.1.isSome) = true := by rfl) (hnone : (backToKw pos (keywordEach [⟨some (Str.ofString "start"), ke, kp⟩] X.env)).any (·.1.isNone) = false := by rfl)
    (hks : (backToKw pos (keywordEach [⟨some (Str.ofString "start"), ke, kp⟩] X.env)).filterMap (·.1) = [Str.ofString "start"] := by rfl) :
    PI X (.Tuple elts kk tpos) (.Call (.Name "enumerate" p) [e] [⟨some (Str.ofString "start"), ke, kp⟩] pos) (iEnumK X.K ta tk) := by
  refine ⟨fun pins s σ H R I h => ?_⟩
  refine wpAny_Call_Name_kw (ld_blt I hg hm boot_enumerate ?_ (by decide) (by decide))
  refine callWith_tyK hpl hnone ?_
  rw [he]
  refine evalArgs_kwB hall ?_
  rw [← he]
  refine thn (ha.run pos pins s σ H _ I h) fun us s1 ⟨vs, H1, I1, r1, q1⟩ => thn (hk.run pos pins s1 σ H1 _ I1 q1) fun ws s2 ⟨zs, H2, I2, r2, a, xs, k, ex, ez, k0, k1, hq, q⟩ => ?_
  subst ex ez
  rw [hks]
  obtain ⟨u, rfl, ru⟩ := r1.one
  obtain ⟨v, rfl, rv⟩ := r2.one
  obtain rfl : u = Value.ref a := ru
  obtain ⟨t, rfl⟩ := rv
  obtain ⟨its, rvs, p', hz⟩ := I2.list hq
  refine enum_begins_start (begins_list a its.toArray) p'.isList (by omega) (by omega) fun h' hen hit hsz hkp => ?_
  refine wpAny_pyIter_enum hen ?_
  have I3 : Inv X pins σ H2 { s2 with heap := h' } := I2.kept (t' := s2.toks) hkp
  have li : h'.IsListIter s2.heap.objs.size a 0 := ⟨_, hit, rfl, rfl⟩
  refine ⟨s2.heap.objs.size + 1, [s2.heap.objs.size + 1, s2.heap.objs.size], _, _, H2, rfl, I3, turn_enumK k a (s2.heap.objs.size + 1) s2.heap.objs.size, ⟨⟨.none, by rw [show k + ((0 : Nat) : Int) = k by omega]; exact hen⟩, li, Nat.succ_ne_self _⟩, fun b hb => ?_, q⟩
  have hle : s2.heap.objs.size ≤ b := by
    rcases (show b = s2.heap.objs.size + 1 ∨ b = s2.heap.objs.size by simpa using hb) with z | z
    · rw [z]; exact Nat.le_add_right _ _
    · rw [z]; exact Nat.le_refl _
  exact I2.fpOk hle (I2.hok.fresh hle)
theorem walk_enumK {K : PySem.W.Frag} {a : Addr} {xs : List V} {k : Int} : Walk (IteK K a k) xs.length (fun H => SqL K H a xs) (YPair (fun i => some (.int (k + (i : Nat)))) (fun i => xs[i]?)) := by
  refine ⟨fun i _ hi q => ⟨xs, xs[i], q, by simp [hi]⟩, fun _ q => ⟨xs, q, rfl⟩, fun i H v H' _ q y => ?_⟩
  obtain ⟨T, x, h1, h2, h3, h4⟩ := y
  exact ⟨T, .int (k + (i : Nat)), x, h1, h2, h3, rfl, h4 xs q⟩
/-! a def called with keywords alone -/
section
variable {X : Cx} {CX : CXT} {k : Nat} {f : Addr} {fd : FuncData} {ps ks : List Str} {sp : Sp} {E : XK} {x : Str} {p pos : Pos} {kws : List Keyword} {tk : TA} {g : List Value → List Value → List Value} {gV : List V → List V → List V}
def tCallK0 (sp : Sp) (gV : List V → List V → List V) (E : XK) (tk : TA) : TE := fun σ H Q => tk σ H fun zs H2 => sp (gV [] zs) H2 Q E
theorem pe_callK0 (F : FnOk X.prog X.w X.K X.mg X.base CX k f fd ps sp) (hr : Room k X.A) (hg : Gl X x) (hm : X.mg x = some (.ref f)) (hk : PySem.W.keepIn X.K (.ref f) = true) (hb : KBinds X.K fd ps ks g gV) (hx : Passes CX X E) (hkw : PK X kws tk)
    (hall : (backToKw pos (keywordEach kws X.env)).all (·.1.isSome) = true := by rfl) (hks : (backToKw pos (keywordEach kws X.env)).filterMap (·.1) = ks := by rfl) (hdb : (x == ("__debug__" : Str)) = false := by decide)
    (hpl : ((backTo pos (starEach [] X.env)).any (·.1) || (backToKw pos (keywordEach kws X.env)).any (·.1.isNone)) = false := by rfl) : PE X (.Call (.Name x p) [] kws pos) (tCallK0 sp gV E tk) := by
  refine ⟨fun pins s σ H Q I h => ?_⟩
  refine wpAny_Call_Name_kw (ld_glob I hg hm ?_ hdb)
  refine PySem.W.callWith_KW0 (h₀ := X.base) I.ok.mod.kin hk hall (thn (hkw.run pos pins s σ H _ I h) fun ws s2 ⟨zs, H2, I2, rz, q2⟩ => ⟨I2.kIn, ?_⟩) hpl
  rw [hks]
  exact run_fnk F hr hb hx I2 .nil rz q2
end
end Hw

set_option Elab.async false
set_option linter.all false
set_option maxRecDepth 100000
set_option maxHeartbeats 4000000
namespace Hw
open PySem L2 PyProof.Rows
/-! the less and the greater of two texts -/
def strLt (a b : Str) : Bool := decide (a.cps.toList < b.cps.toList)
def txtV : Value → Str
  | .str x _ => x
  | _ => Str.ofString ""
def IsS (v : Value) : Prop := ∃ x t, v = .str x t
theorem cmpS_lt {prog : Program} {w : World} {A : Around} (vs : Array Value) (hn : ∀ v ∈ vs, IsS v) :
    CmpOf prog w A .Lt (fun i v => vs[i]? = some v) (fun i j => strLt (txtV (vs.getD i .none)) (txtV (vs.getD j .none))) := fun i j vi vj s Q E hi hj h => by
  have e1 : vs.getD i .none = vi := by simp [Array.getD_eq_getD_getElem?, hi]
  have e2 : vs.getD j .none = vj := by simp [Array.getD_eq_getD_getElem?, hj]
  simp only [e1, e2] at h
  obtain ⟨x, t, rfl⟩ := hn _ (Array.mem_of_getElem? hi)
  obtain ⟨y, u, rfl⟩ := hn _ (Array.mem_of_getElem? hj)
  exact PyProof.Rows.lt_str h
theorem cmpS_gt {prog : Program} {w : World} {A : Around} (vs : Array Value) (hn : ∀ v ∈ vs, IsS v) :
    CmpOf prog w A .Gt (fun i v => vs[i]? = some v) (fun i j => strLt (txtV (vs.getD j .none)) (txtV (vs.getD i .none))) := fun i j vi vj s Q E hi hj h => by
  have e1 : vs.getD i .none = vi := by simp [Array.getD_eq_getD_getElem?, hi]
  have e2 : vs.getD j .none = vj := by simp [Array.getD_eq_getD_getElem?, hj]
  simp only [e1, e2] at h
  obtain ⟨x, t, rfl⟩ := hn _ (Array.mem_of_getElem? hi)
  obtain ⟨y, u, rfl⟩ := hn _ (Array.mem_of_getElem? hj)
  exact PySem.P.gt_str h
theorem max_two_S {prog : Program} {w : World} {A : Around} {E : Value → Shared → Prop} {s : Shared} {Q : Value → Shared → Prop} {a b : Value} (hh : A.handled = none) (ha : IsS a) (hb : IsS b)
    (h : ∀ h' tk, (∀ c o, s.heap.get? c = some o → h'.get? c = some o) → Q (if strLt (txtV a) (txtV b) then b else a) { s with heap := h', toks := tk }) :
    wpAny (model prog w) A (call (.builtin "max") [a, b]) Q E s := by
  have hT : (s.heap.push { cls := .type "tuple", data := .seq #[a, b] }).IsTuple s.heap.objs.size #[a, b] := ⟨_, Heap.get?_push_size _ rfl, rfl, 0, rfl⟩
  refine call_max_two (wpAny_pyIter_tuple hT ?_)
  have hsz : (s.heap.push { cls := .type "tuple", data := .seq #[a, b] }).objs.size = s.heap.objs.size + 1 := Heap.size_push ..
  refine ⟨_, [_, s.heap.objs.size], [_], _, _, _, _, rfl, Walks.tuple (A := A.in1) hh _ s.heap.objs.size (by rw [hsz]; exact Nat.ne_of_lt (Nat.lt_succ_self _)) #[a, b],
    ⟨⟨_, Heap.get?_push_size _ rfl, rfl, rfl⟩, hT.push _⟩, fun c hc => ?_, by simp, cmpS_gt #[a, b] (by simp [ha, hb]), fun v h' tk hP hk => ?_⟩
  · show c < ((s.heap.push _).push _).objs.size
    rw [Heap.size_push, hsz]
    rcases List.mem_cons.mp hc with rfl | hc
    · rw [hsz]; exact Nat.lt_succ_self _
    · rcases List.mem_cons.mp hc with rfl | hc
      · exact Nat.lt_succ_of_lt (Nat.lt_succ_self _)
      · cases hc
  · have hold : ∀ c o, s.heap.get? c = some o → h'.get? c = some o := fun c o e => by
      refine hk c o (fun hm => ?_) (Heap.get?_push_of_some _ (Heap.get?_push_of_some _ e))
      rcases List.mem_cons.mp hm with e1 | hm
      · have := Heap.lt_size e; rw [e1, hsz] at this; exact Nat.lt_irrefl _ (Nat.lt_of_succ_lt this)
      · cases hm
    have := h h' tk hold
    have hv : v = if strLt (txtV a) (txtV b) then b else a := by
      cases hc : strLt (txtV a) (txtV b) <;> simp [argBest, hc] at hP <;> simp [hP]
    rw [hv]; exact this
theorem min_two_S {prog : Program} {w : World} {A : Around} {E : Value → Shared → Prop} {s : Shared} {Q : Value → Shared → Prop} {a b : Value} (hh : A.handled = none) (ha : IsS a) (hb : IsS b)
    (h : ∀ h' tk, (∀ c o, s.heap.get? c = some o → h'.get? c = some o) → Q (if strLt (txtV b) (txtV a) then b else a) { s with heap := h', toks := tk }) :
    wpAny (model prog w) A (call (.builtin "min") [a, b]) Q E s := by
  have hT : (s.heap.push { cls := .type "tuple", data := .seq #[a, b] }).IsTuple s.heap.objs.size #[a, b] := ⟨_, Heap.get?_push_size _ rfl, rfl, 0, rfl⟩
  refine call_min_two (wpAny_pyIter_tuple hT ?_)
  have hsz : (s.heap.push { cls := .type "tuple", data := .seq #[a, b] }).objs.size = s.heap.objs.size + 1 := Heap.size_push ..
  refine ⟨_, [_, s.heap.objs.size], [_], _, _, _, _, rfl, Walks.tuple (A := A.in1) hh _ s.heap.objs.size (by rw [hsz]; exact Nat.ne_of_lt (Nat.lt_succ_self _)) #[a, b],
    ⟨⟨_, Heap.get?_push_size _ rfl, rfl, rfl⟩, hT.push _⟩, fun c hc => ?_, by simp, cmpS_lt #[a, b] (by simp [ha, hb]), fun v h' tk hP hk => ?_⟩
  · show c < ((s.heap.push _).push _).objs.size
    rw [Heap.size_push, hsz]
    rcases List.mem_cons.mp hc with rfl | hc
    · rw [hsz]; exact Nat.lt_succ_self _
    · rcases List.mem_cons.mp hc with rfl | hc
      · exact Nat.lt_succ_of_lt (Nat.lt_succ_self _)
      · cases hc
  · have hold : ∀ c o, s.heap.get? c = some o → h'.get? c = some o := fun c o e => by
      refine hk c o (fun hm => ?_) (Heap.get?_push_of_some _ (Heap.get?_push_of_some _ e))
      rcases List.mem_cons.mp hm with e1 | hm
      · have := Heap.lt_size e; rw [e1, hsz] at this; exact Nat.lt_irrefl _ (Nat.lt_of_succ_lt this)
      · cases hm
    have := h h' tk hold
    have hv : v = if strLt (txtV b) (txtV a) then b else a := by
      cases hc : strLt (txtV b) (txtV a) <;> simp [argBest, hc] at hP <;> simp [hP]
    rw [hv]; exact this
section
variable {X : Cx}
theorem call_maxS (hc : X.calm = true) : CallR X (.builtin "max") (fun xs H Q => ∃ a b, xs = [.str a, .str b] ∧ Q (.str (if strLt a b = true then b else a)) H) := by
  intro pins s σ H xs us Q I r h
  obtain ⟨i, j, rfl, q⟩ := h
  obtain ⟨u, w', rfl, ⟨t, rfl⟩, ⟨t', rfl⟩⟩ := vals2 r
  refine max_two_S (I.ok.hd hc) ⟨_, _, rfl⟩ ⟨_, _, rfl⟩ fun h' tk k => ⟨_, H, I.kept k, ?_, q⟩
  show RelV _ (if strLt i j = true then _ else _)
  by_cases hj : strLt i j = true
  · rw [if_pos hj, if_pos hj]; exact ⟨_, rfl⟩
  · rw [if_neg hj, if_neg hj]; exact ⟨_, rfl⟩
theorem call_minS (hc : X.calm = true) : CallR X (.builtin "min") (fun xs H Q => ∃ a b, xs = [.str a, .str b] ∧ Q (.str (if strLt b a = true then b else a)) H) := by
  intro pins s σ H xs us Q I r h
  obtain ⟨i, j, rfl, q⟩ := h
  obtain ⟨u, w', rfl, ⟨t, rfl⟩, ⟨t', rfl⟩⟩ := vals2 r
  refine min_two_S (I.ok.hd hc) ⟨_, _, rfl⟩ ⟨_, _, rfl⟩ fun h' tk k => ⟨_, H, I.kept k, ?_, q⟩
  show RelV _ (if strLt j i = true then _ else _)
  by_cases hj : strLt j i = true
  · rw [if_pos hj, if_pos hj]; exact ⟨_, rfl⟩
  · rw [if_neg hj, if_neg hj]; exact ⟨_, rfl⟩
/-! sorted over data, any number -/
def rSortB (K : PySem.W.Frag) : List V → Hp → VK → Prop := fun vs H Q => ∃ (a : Addr) (bs : List (V × PyData)), vs = [V.ref a] ∧ SqL K H a (bs.map (·.1)) ∧ (∀ b ∈ bs, Dp K H b.1 b.2 ∧ b.2.depth ≤ 50) ∧ PySem.W.AllAlike (bs.map (·.2)) ∧ PySem.W.Sortable (bs.map (·.2)) ∧ bs.length ≤ sizeLine ∧
  ∀ p, H p = none → Q (.ref p) (upd H p (.lst ((bs.mergeSort (PySem.W.dataLe false (·.2))).map (·.1))))
theorem each_of_vals {K : PySem.W.Frag} {P : Program} : ∀ {bs : List (V × PyData)} {us : List Value}, Vals (bs.map (·.1)) us → PySem.W.EachIs (fun (v : Value) (b : V × PyData) => RelV b.1 v) us bs
  | [], _, r => by cases r; exact .nil
  | b :: bs, _, r => by
    cases r with
    | cons r1 r2 => exact .cons r1 (each_of_vals (K := K) (P := P) r2)
theorem vals_of_each : ∀ {bs : List (V × PyData)} {us : List Value}, PySem.W.EachIs (fun (v : Value) (b : V × PyData) => RelV b.1 v) us bs → Vals (bs.map (·.1)) us
  | _, _, .nil => .nil
  | _, _, .cons r t => .cons r (vals_of_each t)
theorem reads_each {X : Cx} {pins : List (Addr × Obj)} {s : Shared} {σ : L2.St} {H : Hp} (I : Inv X pins σ H s) : ∀ {bs : List (V × PyData)} {us : List Value}, (∀ b ∈ bs, Dp X.K H b.1 b.2) → Vals (bs.map (·.1)) us → PySem.W.EachIs (fun (v : Value) (b : V × PyData) => ∃ as, Reads s.heap v b.2 as) us bs
  | [], _, _, r => by cases r; exact .nil
  | b :: bs, _, h, r => by
    cases r with
    | cons r1 r2 => exact .cons (Dp.reads I b.2 b.1 _ (h b List.mem_cons_self) r1) (reads_each I (fun b hb => h b (List.mem_cons_of_mem _ hb)) r2)
theorem cr_sortB (hu : X.A.units + 64 < cLine) : CallR X (.builtin "sorted") (rSortB X.K) := by
  intro pins s σ H vs us Q I r h
  obtain ⟨a, bs, rfl, hs, hd, hal, hk, hL, q⟩ := h
  obtain ⟨its, rv, hl, _⟩ := I.list hs
  rw [Vals.ref1 r]
  refine PySem.W.sorted_data (β := V × PyData) (vs := its) (bs := bs) (enc := (·.2)) (R := fun v b => RelV b.1 v) hl.isList (each_of_vals (K := X.K) (P := X.prog) rv) (reads_each I (fun b hb => (hd b hb).1) rv) hal hk hL (fun b hb => by have := (hd b hb).2; omega) fun out ho he => ?_
  have hv := vals_of_each he
  obtain ⟨ep, he'⟩ := PyProof.Rows.sortedAll_at s.heap its out.toArray
  have hlen : ((bs.mergeSort (PySem.W.dataLe false (·.2))).map (·.1)).length ≤ sizeLine := by rw [List.length_map, List.length_mergeSort]; exact hL
  exact ⟨.ref _, upd H (s.heap.objs.size + 1) (.lst ((bs.mergeSort (PySem.W.dataLe false (·.2))).map (·.1))), I.laid (t' := s.toks) (fun _ _ => PyProof.Rows.sortedAll_old) (Nat.le_succ _) ⟨hlen, out, ep, hv, he'⟩, rfl, q _ (I.hok.fresh (Nat.le_succ _))⟩
end

theorem walk_zipT {K : PySem.W.Frag} {a b : Addr} {xs ys : List V} {n : Nat} (hn : n = min xs.length ys.length) : Walk (RZ.ItzT K a b) n (fun H => SqT K H a xs ∧ SqT K H b ys) (YPair (fun i => xs[i]?) (fun i => ys[i]?)) := by
  subst hn
  refine ⟨fun i _ hi q => ?_, fun _ q => ⟨xs, ys, q.1, q.2, by omega⟩, fun i H v H' _ q y => ?_⟩
  · have h1 : i < xs.length := by omega
    have h2 : i < ys.length := by omega
    exact ⟨xs, ys, xs[i], ys[i], q.1, q.2, by simp [h1], by simp [h2]⟩
  · obtain ⟨T, x, z, h1, h2, h3, h4, h5⟩ := y
    exact ⟨T, x, z, h1, h2, h3, h4 xs q.1, h5 ys q.2⟩
/-! `<=` of two tuples of texts -/
theorem RcOp.le_str {A : Around} {s : Shared} (a b : Str) (t u : Tok) : Ob.RcOp .LtE A s (.str a t) (.str b u) (!strLt b a) := fun _ _ _ _ h => PySem.P.le_str h
def rLeS (K : PySem.W.Frag) : R2 := fun x y H Q => ∃ (a b : Addr) (ns ms : List Str), x = .ref a ∧ y = .ref b ∧ SqT K H a (ns.map V.str) ∧ SqT K H b (ms.map V.str) ∧
  Q (.bl (Ob.lexAt (fun j => ns.getD j (Str.ofString "") == ms.getD j (Str.ofString "")) (fun j => !strLt (ms.getD j (Str.ofString "")) (ns.getD j (Str.ofString ""))) (decide (ns.length ≤ ms.length)) 0 (min ns.length ms.length))) H
theorem str_item {us : List Value} {xs : List Str} (r : Vals (xs.map V.str) us) (j : Nat) (h : j < us.toArray.size) : ∃ t, us.toArray[j] = .str (xs.getD j (Str.ofString "")) t := by
  have h' : j < us.length := by simpa using h
  have hl := r.length
  rw [List.length_map] at hl
  obtain ⟨u, hu, ru⟩ := r.get (i := j) (x := V.str (xs.getD j (Str.ofString ""))) (by
    rw [List.getElem?_map, List.getElem?_eq_getElem (by omega : j < xs.length), List.getD_eq_getElem?_getD, List.getElem?_eq_getElem (by omega : j < xs.length)]; rfl)
  obtain ⟨t, rfl⟩ := ru
  refine ⟨t, ?_⟩
  rw [List.getElem?_eq_getElem h'] at hu
  simpa using Option.some.inj hu
theorem op_leS {X : Cx} (hu : X.A.units < cLine) : OpR X (compareOp .LtE) (rLeS X.K) := by
  intro pins s σ H x y v u Q I rx ry h
  obtain ⟨a, b, ns, ms, rfl, rfl, ha, hb, q⟩ := h
  cases rx
  cases ry
  obtain ⟨its, r1, p1, _⟩ := I.tuple ha
  obtain ⟨its2, r2, p2, _⟩ := I.tuple hb
  have e1 : its.toArray.size = ns.length := by rw [List.size_toArray, ← r1.length, List.length_map]
  have e2 : its2.toArray.size = ms.length := by rw [List.size_toArray, ← r2.length, List.length_map]
  have R := Ob.RcOp.tuples_le (A := X.A) (s := s) (e := fun j => ns.getD j (Str.ofString "") == ms.getD j (Str.ofString "")) (r := fun j => !strLt (ms.getD j (Str.ofString "")) (ns.getD j (Str.ofString ""))) p1 p2 hu (fun j h1 h2 => by
    obtain ⟨t, et⟩ := str_item r1 j h1
    obtain ⟨t', et'⟩ := str_item r2 j h2
    rw [et, et']
    exact SeqAt.EqAt.str_str _ _ _ _) (fun j h1 h2 _ => by
    obtain ⟨t, et⟩ := str_item r1 j h1
    obtain ⟨t', et'⟩ := str_item r2 j h2
    rw [et, et']
    exact RcOp.le_str _ _ _ _)
  rw [e1, e2] at R
  have z : wpAny (model X.prog X.w) X.A (compareOp .LtE (.ref a) (.ref b)) (EP X pins σ Q) X.xe s := R X.prog X.w X.xe (EP X pins σ Q) ⟨.bl _, H, I, rfl, q⟩
  exact z

/-! `v in x`, `v not in x` by the class's own `__contains__` -/
section
variable {X : Cx} {CX : CXT} {k : Nat} {f C : Addr} {fd : FuncData} {ps : List Str} {sp : Sp} {dvs : List V} {ds : List Value} {E : XK}
def rInM (C : Addr) (sp : Sp) (dvs : List V) (E : XK) (neg : Bool) : R2 := fun x y H Q => ∃ p dx fs, y = .ref p ∧ H p = some (.ins C dx fs) ∧ sp ([.ref p, x] ++ dvs) H (fun r H' => ∃ b, r = .bl b ∧ Q (.bl (if neg = true then !b else b)) H') E
theorem has_M {pins : List (Addr × Obj)} {s : Shared} {σ : L2.St} {H : Hp} {x : V} {v : Value} {p dx : Addr} {fs : List (Str × V)} {Qb : Bool → Shared → Prop} {Q' : VK} (I : Inv X pins σ H s) (rx : RelV x v) (hp : H p = some (.ins C dx fs)) (hm : Meth X.K C "__contains__" f) (F : FnOk X.prog X.w X.K X.mg X.base CX k f fd ps sp) (hr : Room k X.A) (hb : Binds X.K fd ps ds) (hd : Vals dvs ds) (hx : Passes CX X E)
    (h : sp ([.ref p, x] ++ dvs) H Q' E) (hq : ∀ u s1, EP X pins σ Q' u s1 → ∃ b, u = .bool b ∧ Qb b s1) : wpAny (model X.prog X.w) X.A (contains (.ref p) v) Qb X.xe s := by
  obtain ⟨mA, O, r, _⟩ := ins_get I.hok hp
  obtain ⟨od, J, hl⟩ := O.look
  unfold contains
  refine wpAny_holding (wpAny_bind (wpAny_bind (J.type.here ((PySem.W.looks_findIn I.kIn hm.at_).here ?_))))
  rw [if_neg (by simp)]
  refine wpAny_bind (PySem.W.unlessNone_K I.kIn J hm.at_ hm.fn ?_)
  refine thn (run_fn (us := [.ref p, v]) (vs := [.ref p, x]) F hr hb hd hx I (.cons rfl (.cons rx .nil)) h) fun u s1 hu => ?_
  obtain ⟨b, rfl, q⟩ := hq u s1 hu
  exact wpAny_truthy_bool q
theorem op_inM (hm : Meth X.K C "__contains__" f) (F : FnOk X.prog X.w X.K X.mg X.base CX k f fd ps sp) (hr : Room k X.A) (hb : Binds X.K fd ps ds) (hd : Vals dvs ds) (hx : Passes CX X E) : OpR X (compareOp .In) (rInM C sp dvs E false) := by
  intro pins s σ H x y v u Q I rx ry h
  obtain ⟨p, dx, fs, rfl, hp, h⟩ := h
  obtain rfl : u = Value.ref p := ry
  refine wpAny_bind (has_M (Qb := fun b s1 => wpAny (model X.prog X.w) X.A (pure (Value.bool b)) (EP X pins σ Q) X.xe s1) I rx hp hm F hr hb hd hx h fun u s1 hu => ?_)
  obtain ⟨z, H', I', rz, b, rfl, q⟩ := hu
  cases rz
  exact ⟨b, rfl, wpAny_pure ⟨.bl b, H', I', rfl, q⟩⟩
theorem op_notInM (hm : Meth X.K C "__contains__" f) (F : FnOk X.prog X.w X.K X.mg X.base CX k f fd ps sp) (hr : Room k X.A) (hb : Binds X.K fd ps ds) (hd : Vals dvs ds) (hx : Passes CX X E) : OpR X (compareOp .NotIn) (rInM C sp dvs E true) := by
  intro pins s σ H x y v u Q I rx ry h
  obtain ⟨p, dx, fs, rfl, hp, h⟩ := h
  obtain rfl : u = Value.ref p := ry
  refine wpAny_bind (has_M (Qb := fun b s1 => wpAny (model X.prog X.w) X.A (pure (Value.bool (!b))) (EP X pins σ Q) X.xe s1) I rx hp hm F hr hb hd hx h fun u s1 hu => ?_)
  obtain ⟨z, H', I', rz, b, rfl, q⟩ := hu
  cases rz
  exact ⟨b, rfl, wpAny_pure ⟨.bl (!b), H', I', rfl, q⟩⟩
end
end Hw

set_option Elab.async false
set_option linter.all false
set_option maxRecDepth 100000
set_option maxHeartbeats 4000000
namespace Hw
open PySem PySem.Spec L2 PyProof.Rows
/-! the order of texts and of pairs of texts -/
theorem strLt_irr (a : Str) : strLt a a = false := decide_eq_false (List.lt_irrefl _)
theorem strLt_tr {a b c : Str} (h : strLt a b = true) (h' : strLt b c = true) : strLt a c = true := decide_eq_true (List.lt_trans (of_decide_eq_true h) (of_decide_eq_true h'))
theorem strLt_as {a b : Str} (h : strLt a b = true) : strLt b a = false := by
  cases e : strLt b a with
  | false => rfl
  | true => have := strLt_tr h e; rw [strLt_irr] at this; cases this
theorem strLt_tri {a b : Str} (h : strLt a b = false) (h' : strLt b a = false) : a = b := by
  refine str_ext (List.le_antisymm ?_ ?_)
  · exact List.not_lt.mp (of_decide_eq_false h')
  · exact List.not_lt.mp (of_decide_eq_false h)
theorem strLt_ne {a b : Str} (h : strLt a b = true) : a ≠ b := fun e => by rw [e, strLt_irr] at h; cases h
def leS (a b : Str) : Bool := !strLt b a
theorem leS_tr (a b c : Str) (h : leS a b = true) (h' : leS b c = true) : leS a c = true := by
  unfold leS at *
  cases e : strLt c a with
  | false => rfl
  | true =>
    cases e1 : strLt b a with
    | true => rw [e1] at h; cases h
    | false =>
      cases e2 : strLt a b with
      | true => rw [strLt_tr e e2] at h'; cases h'
      | false => rw [strLt_tri e1 e2, e] at h'; cases h'
theorem leS_tot (a b : Str) : (leS a b || leS b a) = true := by
  unfold leS
  cases e : strLt b a with
  | false => rfl
  | true => rw [strLt_as e]; rfl
theorem leS_anti {a b : Str} (h : leS a b = true) (h' : leS b a = true) : a = b := by
  unfold leS at h h'
  exact strLt_tri (by simpa using h') (by simpa using h)
def sortS (l : List Str) : List Str := l.mergeSort leS
def Asc (l : List Str) : Prop := l.Pairwise fun a b => strLt a b = true
theorem sortS_perm (l : List Str) : (sortS l).Perm l := List.mergeSort_perm l leS
theorem sortS_le (l : List Str) : (sortS l).Pairwise fun a b => leS a b = true := List.pairwise_mergeSort leS_tr leS_tot l
theorem asc_of_le {l : List Str} (h : l.Pairwise fun a b => leS a b = true) (hn : l.Nodup) : Asc l := by
  refine (h.and hn).imp ?_
  rintro a b ⟨h1, h2⟩
  cases e : strLt a b with
  | true => rfl
  | false => exact absurd (strLt_tri e (by simpa [leS] using h1)) h2
theorem sortS_asc {l : List Str} (h : l.Nodup) : Asc (sortS l) := asc_of_le (sortS_le l) ((sortS_perm l).nodup_iff.mpr h)
theorem Asc.nodup {l : List Str} (h : Asc l) : l.Nodup := h.imp fun q => strLt_ne q
theorem Asc.le {l : List Str} (h : Asc l) : l.Pairwise fun a b => leS a b = true := h.imp fun q => by unfold leS; rw [strLt_as q]; rfl
theorem sortS_eq {l m : List Str} (h : m.Perm l) (hm : m.Pairwise fun a b => leS a b = true) : m = sortS l :=
  List.Perm.eq_of_pairwise (le := fun a b => leS a b = true) (fun a b _ _ h1 h2 => leS_anti h1 h2) hm (sortS_le l) (h.trans (sortS_perm l).symm)
theorem sortS_asc_id {l : List Str} (h : Asc l) : sortS l = l := (sortS_eq (.refl _) h.le).symm
theorem sortS_of_perm {l m : List Str} (h : l.Perm m) : sortS l = sortS m := sortS_eq ((sortS_perm l).trans h) (sortS_le l)
theorem risingS_le : ∀ (l : List Str) (p : Str), risingS p l = true → (p :: l).Pairwise fun a b => leS a b = true
  | [], _, _ => List.pairwise_singleton _ _
  | x :: r, p, h => by
    have h' : (!ltCps x.cps.toList p.cps.toList && risingS x r) = true := h
    rw [Bool.and_eq_true] at h'
    have ih := risingS_le r x h'.2
    have hpx : leS p x = true := by
      have := h'.1
      rw [PyProof.Rows.ltCps_eq] at this
      exact this
    refine List.pairwise_cons.mpr ⟨fun y hy => ?_, ih⟩
    rcases List.mem_cons.mp hy with rfl | hy
    · exact hpx
    · exact leS_tr _ _ _ hpx ((List.pairwise_cons.mp ih).1 y hy)
theorem sortedS_le : ∀ {l : List Str}, sortedS l = true → l.Pairwise fun a b => leS a b = true
  | [], _ => .nil
  | x :: r, h => risingS_le r x h
theorem sortedS_eq {l m : List Str} (h : m.Perm l) (hm : sortedS m = true) : m = sortS l := sortS_eq h (sortedS_le hm)
abbrev Tie := Str × Str
def ltP (p q : Tie) : Bool := if p.1 == q.1 then strLt p.2 q.2 else strLt p.1 q.1
def leP (p q : Tie) : Bool := !ltP q p
theorem ltP_irr (p : Tie) : ltP p p = false := by unfold ltP; rw [if_pos (beq_self_eq_true _), strLt_irr]
theorem ltP_iff {p q : Tie} : ltP p q = true ↔ strLt p.1 q.1 = true ∨ p.1 = q.1 ∧ strLt p.2 q.2 = true := by
  unfold ltP
  by_cases h : p.1 = q.1
  · rw [if_pos (beq_iff_eq.mpr h), h, strLt_irr]; simp
  · rw [if_neg (by simpa using h)]; simp [h]
theorem ltP_tr {p q r : Tie} (h : ltP p q = true) (h' : ltP q r = true) : ltP p r = true := by
  rw [ltP_iff] at *
  rcases h with h | ⟨e, h⟩ <;> rcases h' with h' | ⟨e', h'⟩
  · exact .inl (strLt_tr h h')
  · exact .inl (e' ▸ h)
  · exact .inl (e ▸ h')
  · exact .inr ⟨e.trans e', strLt_tr h h'⟩
theorem ltP_tri {p q : Tie} (h : ltP p q = false) (h' : ltP q p = false) : p = q := by
  have a : ¬ (ltP p q = true) := by rw [h]; exact Bool.false_ne_true
  have b : ¬ (ltP q p = true) := by rw [h']; exact Bool.false_ne_true
  rw [ltP_iff] at a b
  have e : p.1 = q.1 := strLt_tri (by simpa using fun z => a (.inl z)) (by simpa using fun z => b (.inl z))
  have e2 : p.2 = q.2 := strLt_tri (by simpa using fun z => a (.inr ⟨e, z⟩)) (by simpa using fun z => b (.inr ⟨e.symm, z⟩))
  exact Prod.ext e e2
theorem ltP_as {p q : Tie} (h : ltP p q = true) : ltP q p = false := by
  cases e : ltP q p with
  | false => rfl
  | true => have := ltP_tr h e; rw [ltP_irr] at this; cases this
theorem leP_tr (a b c : Tie) (h : leP a b = true) (h' : leP b c = true) : leP a c = true := by
  unfold leP at *
  cases e : ltP c a with
  | false => rfl
  | true =>
    cases e1 : ltP b a with
    | true => rw [e1] at h; cases h
    | false =>
      cases e2 : ltP a b with
      | true => rw [ltP_tr e e2] at h'; cases h'
      | false => rw [ltP_tri e1 e2, e] at h'; cases h'
theorem leP_tot (a b : Tie) : (leP a b || leP b a) = true := by
  unfold leP
  cases e : ltP b a with
  | false => rfl
  | true => rw [ltP_as e]; rfl
def sortP (l : List Tie) : List Tie := l.mergeSort leP
def AscP (l : List Tie) : Prop := l.Pairwise fun a b => ltP a b = true
theorem sortP_perm (l : List Tie) : (sortP l).Perm l := List.mergeSort_perm l leP
theorem sortP_le (l : List Tie) : (sortP l).Pairwise fun a b => leP a b = true := List.pairwise_mergeSort leP_tr leP_tot l
theorem sortP_asc {l : List Tie} (hn : l.Nodup) : AscP (sortP l) := by
  refine ((sortP_le l).and ((sortP_perm l).nodup_iff.mpr hn)).imp ?_
  rintro a b ⟨h1, h2⟩
  cases e : ltP a b with
  | true => rfl
  | false => exact absurd (ltP_tri e (by simpa [leP] using h1)) h2
/-! sorted of texts, of pairs of texts -/
def tieD (p : Tie) : PyData := .tuple [.str p.1, .str p.2]
theorem dataLe_tie (p q : Tie) : PySem.W.dataLe false id (tieD p) (tieD q) = leP p q := by
  rw [PySem.W.dataLe_eq]
  show (!PySem.W.dataLt (tieD q) (tieD p)) = _
  unfold tieD leP ltP
  rw [PySem.W.dataLt_pair (by simp [PySem.W.alike]) (by simp [PySem.W.alike]), PySem.W.dataLt_str, PySem.W.dataLt_str]
  simp only [PyData.eqv]
  by_cases h1 : q.1 = p.1
  · by_cases h2 : q.2 = p.2
    · simp [h1, h2, strLt]
    · simp [h1, h2, strLt]
  · simp [h1, strLt]
section
variable {X : Cx}
def rSortT (K : PySem.W.Frag) : List V → Hp → VK → Prop := fun vs H Q => ∃ (a : Addr) (zs : List Str), vs = [V.ref a] ∧ SqL K H a (zs.map V.str) ∧ zs.length ≤ sizeLine ∧ ∀ p, H p = none → Q (.ref p) (upd H p (.lst ((sortS zs).map V.str)))
theorem cr_sortT (hu : X.A.units + 64 < cLine) : CallR X (.builtin "sorted") (rSortT X.K) := by
  intro pins s σ H vs us Q I r h
  obtain ⟨a, zs, rfl, hs, hz, q⟩ := h
  have e1 : (zs.map fun z => (V.str z, PyData.str z)).map (·.1) = zs.map V.str := by rw [List.map_map]; rfl
  have e2 : (zs.map fun z => (V.str z, PyData.str z)).map (·.2) = zs.map PyData.str := by rw [List.map_map]; rfl
  refine cr_sortB hu pins s σ H _ us Q I r ⟨a, zs.map fun z => (V.str z, PyData.str z), rfl, by rw [e1]; exact hs, fun b hb => ?_, ?_, ?_, by rw [List.length_map]; exact hz, fun p hp => ?_⟩
  · obtain ⟨z, _, rfl⟩ := List.mem_map.mp hb
    exact ⟨Dp_flat rfl, by show PyData.depth (.str z) ≤ 50; rw [PyData.depth]; decide⟩
  · rw [e2]; exact PySem.W.AllAlike.of fun _ _ => by simp [PySem.W.alike]
  · rw [e2]; exact PySem.W.Sortable.others (enc := PyData.str) fun z => ⟨(fun e => nomatch e), fun xs e => nomatch e⟩
  · have e : (zs.map fun z => (V.str z, PyData.str z)).mergeSort (PySem.W.dataLe false (·.2)) = (sortS zs).map fun z => (V.str z, PyData.str z) := by
      refine (List.map_mergeSort fun a _ b _ => ?_).symm
      rw [PySem.W.dataLe_eq]
      show leS a b = !PySem.W.dataLt (.str b) (.str a)
      rw [PySem.W.dataLt_str]; rfl
    rw [e, List.map_map]
    exact q p hp

def TieAt (K : PySem.W.Frag) (H : Hp) (q : Addr) (p : Tie) : Prop := SqT K H q [.str p.1, .str p.2]
theorem zip_of {α β : Type} {F : α → β → Prop} : ∀ {xs : List α} {ys : List β}, Paired F xs ys → ∃ l : List (α × β), l.map (·.1) = xs ∧ l.map (·.2) = ys ∧ ∀ p ∈ l, F p.1 p.2
  | _, _, .nil => ⟨[], rfl, rfl, fun _ z => nomatch z⟩
  | _, _, .cons (a := a) (b := b) h t => by
    obtain ⟨l, rfl, rfl, h3⟩ := zip_of t
    refine ⟨(a, b) :: l, rfl, rfl, fun p hp => ?_⟩
    rcases List.mem_cons.mp hp with rfl | hp
    · exact h
    · exact h3 p hp
theorem paired_of {α β : Type} {F : α → β → Prop} : ∀ {l : List (α × β)}, (∀ p ∈ l, F p.1 p.2) → Paired F (l.map (·.1)) (l.map (·.2))
  | [], _ => .nil
  | p :: l, h => .cons (h p List.mem_cons_self) (paired_of fun q hq => h q (List.mem_cons_of_mem _ hq))
theorem paired_mem {α β : Type} {F : α → β → Prop} : ∀ {l : List (α × β)}, Paired F (l.map (·.1)) (l.map (·.2)) → ∀ p ∈ l, F p.1 p.2
  | [], _, _, z => nomatch z
  | q :: l, h, p, hp => by
    cases h with
    | cons h1 h2 =>
      rcases List.mem_cons.mp hp with rfl | hp
      · exact h1
      · exact paired_mem h2 p hp
def rSortTP (K : PySem.W.Frag) : List V → Hp → VK → Prop := fun vs H Q => ∃ (a : Addr) (qs : List Addr) (ps : List Tie), vs = [V.ref a] ∧ SqL K H a (qs.map V.ref) ∧ Paired (TieAt K H) qs ps ∧ ps.length ≤ sizeLine ∧
  ∀ p qs', H p = none → (∀ R : Addr → Tie → Prop, Paired R qs ps → Paired R qs' (sortP ps)) → Q (.ref p) (upd H p (.lst (qs'.map V.ref)))
theorem cr_sortTP (hu : X.A.units + 64 < cLine) : CallR X (.builtin "sorted") (rSortTP X.K) := by
  intro pins s σ H vs us Q I r h
  obtain ⟨a, qs, ps, rfl, hs, hp, hz, q⟩ := h
  obtain ⟨l, rfl, rfl, hl⟩ := zip_of hp
  have e1 : (l.map fun x => (V.ref x.1, tieD x.2)).map (·.1) = (l.map (·.1)).map V.ref := by rw [List.map_map, List.map_map]; rfl
  have e2 : (l.map fun x => (V.ref x.1, tieD x.2)).map (·.2) = (l.map (·.2)).map tieD := by rw [List.map_map, List.map_map]; rfl
  rw [List.length_map] at hz
  refine cr_sortB hu pins s σ H _ us Q I r ⟨a, l.map fun x => (V.ref x.1, tieD x.2), rfl, by rw [e1]; exact hs, fun b hb => ?_, ?_, ?_, by rw [List.length_map]; exact hz, fun p hp => ?_⟩
  · obtain ⟨z, hz, rfl⟩ := List.mem_map.mp hb
    refine ⟨.tup (hl z hz) (.cons (Dp_flat rfl) (.cons (Dp_flat rfl) .nil)), ?_⟩
    show PyData.depth (tieD z.2) ≤ 50
    unfold tieD
    simp [PyData.depth, PyData.depthAll]
  · rw [e2]; exact PySem.W.AllAlike.of fun _ _ => by simp [PySem.W.alike, PySem.W.alikeAll, tieD]
  · rw [e2]; exact PySem.W.Sortable.tuples (enc := tieD) fun z => ⟨_, _, rfl⟩
  · have e : (l.map fun x => (V.ref x.1, tieD x.2)).mergeSort (PySem.W.dataLe false (·.2)) = (l.mergeSort fun x y => leP x.2 y.2).map fun x => (V.ref x.1, tieD x.2) := by
      refine (List.map_mergeSort fun a _ b _ => ?_).symm
      exact (dataLe_tie a.2 b.2).symm
    have e3 : (l.mergeSort fun x y => leP x.2 y.2).map (·.2) = sortP (l.map (·.2)) := List.map_mergeSort fun a _ b _ => rfl
    rw [e, List.map_map]
    have := q p ((l.mergeSort fun x y => leP x.2 y.2).map (·.1)) hp (fun R hR => by
      rw [← e3]
      exact paired_of fun x hx => paired_mem hR x (List.mem_mergeSort.mp hx))
    rw [List.map_map] at this
    exact this
end
end Hw

set_option Elab.async false
set_option linter.all false
set_option maxRecDepth 100000
set_option maxHeartbeats 2000000
namespace Hw
open PySem PySem.Spec PyProof.Rows L2
/-! sets of texts: which texts are in, as a list -/
theorem paired_perm {α β : Type} {F : α → β → Prop} {ys ys' : List β} (p : ys'.Perm ys) : ∀ {xs : List α}, Paired F xs ys → ∃ xs', xs'.Perm xs ∧ Paired F xs' ys' := by
  induction p with
  | nil => intro xs h; exact ⟨xs, .refl _, h⟩
  | cons y _ ih =>
    intro xs h
    cases h with
    | cons a t =>
      obtain ⟨xs', h1, h2⟩ := ih t
      exact ⟨_ :: xs', h1.cons _, .cons a h2⟩
  | swap a b l =>
    intro xs h
    cases h with
    | cons u t =>
      cases t with
      | cons v t => exact ⟨_ :: _ :: _, .swap _ _ _, .cons v (.cons u t)⟩
  | trans _ _ ih1 ih2 =>
    intro xs h
    obtain ⟨x1, a1, b1⟩ := ih2 h
    obtain ⟨x2, a2, b2⟩ := ih1 b1
    exact ⟨x2, a2.trans a1, b2⟩
/-- an entry of such a set -/
def TxE (w : World) (z : Str) (e : Int × Value) : Prop := ∃ t, e = (hashStr w z, Value.str z t)
/-- the set at a: L its texts, each once -/
structure TxSet (w : World) (h : Heap) (a : Addr) (L : List Str) : Prop where
  ex : ∃ o es ep t, h.get? a = some o ∧ o.ExactSet ∧ o.data = .set es ep t ∧ Paired (TxE w) L es.toList ∧ t.fits es.size = true ∧ Ris t.place.toList ∧ (w.params.followText "set-order" = true ∨ t.led = true)
  once : L.Nodup
  few : L.length < scanBound
theorem TxSet.same {w : World} {h h' : Heap} {a : Addr} {L : List Str} (x : TxSet w h a L) (k : ∀ o, h.get? a = some o → h'.get? a = some o) : TxSet w h' a L := by
  obtain ⟨⟨o, es, ep, t, e, r⟩, b, c⟩ := x
  exact ⟨⟨o, es, ep, t, k o e, r⟩, b, c⟩
theorem txSet_elems {P : Program} {w : World} : ∀ {L : List Str} {l : List (Int × Value)}, Paired (TxE w) L l → ElemsOf (PySem.strKind P w) l
  | _, _, .nil => fun _ z => nomatch z
  | _, _, .cons ⟨t, e⟩ r => fun x hx => by
    rcases List.mem_cons.mp hx with rfl | hx
    · subst e
      exact ⟨⟨_, strKind_is _ _ _ _, rfl⟩, rfl⟩
    · exact txSet_elems (P := P) r x hx
theorem isStr_iff {w : World} {P : Program} {z y : Str} {e : Int × Value} (h : TxE w y e) : (PySem.strKind P w).is z e.2 = true ↔ y = z := by
  obtain ⟨t, rfl⟩ := h
  constructor
  · intro q
    exact (PySem.strKind P w).inj _ _ _ (strKind_is _ _ y t) q
  · rintro rfl
    exact strKind_is _ _ _ _
theorem paired_of_mem {α β : Type} {F : α → β → Prop} : ∀ {xs : List α} {ys : List β}, Paired F xs ys → ∀ y ∈ ys, ∃ x ∈ xs, F x y
  | _, _, .nil, _, z => nomatch z
  | _, _, .cons a t, y, hy => by
    rcases List.mem_cons.mp hy with rfl | hy
    · exact ⟨_, List.mem_cons_self, a⟩
    · obtain ⟨x, h1, h2⟩ := paired_of_mem t y hy
      exact ⟨x, List.mem_cons_of_mem _ h1, h2⟩
theorem paired_of_memL {α β : Type} {F : α → β → Prop} : ∀ {xs : List α} {ys : List β}, Paired F xs ys → ∀ x ∈ xs, ∃ y ∈ ys, F x y
  | _, _, .nil, _, z => nomatch z
  | _, _, .cons a t, x, hx => by
    rcases List.mem_cons.mp hx with rfl | hx
    · exact ⟨_, List.mem_cons_self, a⟩
    · obtain ⟨y, h1, h2⟩ := paired_of_memL t x hx
      exact ⟨y, List.mem_cons_of_mem _ h1, h2⟩
section
variable {P : Program} {w : World} {A : Around} {E : Value → Shared → Prop} {s : Shared} {a : Addr} {L : List Str}
theorem tx_len {es : Array (Int × Value)} (h : Paired (TxE w) L es.toList) : es.size = L.length := by rw [← Array.length_toList]; exact (Paired.length h).symm
/-- the last steps of an add: the rows are stored, and laid anew where they have grown too many -/
theorem tx_store {act : Bool → Sem Unit} (ha : ∀ (b : Bool) (s1 : Shared) (R : Unit → Shared → Prop), R () s1 → wpAny (model P w) A (act b) R E s1) {o : Obj} {es0 : Array (Int × Value)} {ep : Nat} {t0 : SetTable} (ho : s.heap.get? a = some o) (hex : o.ExactSet) (hd : o.data = .set es0 ep t0)
    {es : Array (Int × Value)} {t : SetTable} (hp : Paired (TxE w) L es.toList) (hn : L.Nodup) (hb : L.length < scanBound) (hf : t.fits es.size = true) (hr : Ris t.place.toList) (hl : w.params.followText "set-order" = true ∨ t.led = true) {dm : Bool} {R : Option Bool → Shared → Prop}
    (h : ∀ h' L', Heap.SameBut a s.heap h' → L'.Perm L → TxSet w h' a L' → R (some true) { s with heap := h' }) :
    wpAny (model P w) A (do
        storeSet a es t
        if (!dm && t.tooFull) = true then do
            act (relayAll t es (SetTable.grown es.size)).2.2
            storeSet a (relayAll t es (SetTable.grown es.size)).1 (relayAll t es (SetTable.grown es.size)).2.1
            pure (some true)
          else pure (some true)) R E s := by
  have hz : es.size < scanBound := by rw [tx_len hp]; exact hb
  refine wpAny_bind (wpAny_storeSet_of ho hd ?_ (fits_of_scanBound hz))
  have at1 : (s.heap.update a (Obj.putSet es t)).get? a = some { o with data := .set es (ep + 1) t } := by
    have q := Heap.get?_update_self (Obj.putSet es t) ho (by rw [putSet_of es t hd]; rfl)
    rwa [putSet_of es t hd] at q
  have sb := Heap.SameBut.update s.heap a (Obj.putSet es t)
  split
  · have p2 := relayAll_perm t es (SetTable.grown es.size)
    have f2 := relayAll_fits t es (SetTable.grown es.size)
    have r2 := relayAll_ris t es (SetTable.grown es.size)
    have l2 := relayAll_led t es (SetTable.grown es.size)
    revert p2 f2 r2 l2
    generalize relayAll t es (SetTable.grown es.size) = Y
    obtain ⟨es2, t2, gv⟩ := Y
    intro p2 f2 r2 l2
    obtain ⟨L2, q1, q2⟩ := paired_perm p2 hp
    have hb2 : L2.length < scanBound := by rw [q1.length_eq]; exact hb
    have hz2 : es2.size < scanBound := by rw [tx_len q2]; exact hb2
    refine wpAny_bind (ha _ _ _ (wpAny_bind (wpAny_storeSet_of at1 rfl ?_ (fits_of_scanBound hz2))))
    have at2 : ((s.heap.update a (Obj.putSet es t)).update a (Obj.putSet es2 t2)).get? a = some { o with data := .set es2 (ep + 1 + 1) t2 } := Heap.get?_update_self (Obj.putSet es2 t2) at1 rfl
    refine wpAny_pure (h _ L2 (sb.trans (Heap.SameBut.update _ a _)) q1 ⟨⟨_, es2, _, t2, at2, hex, rfl, q2, f2, r2, ?_⟩, q1.nodup_iff.mpr hn, hb2⟩)
    exact hl.imp id fun z => l2.trans z
  · exact wpAny_pure (h _ L sb (.refl _) ⟨⟨_, es, _, t, at1, hex, rfl, hp, hf, hr, hl⟩, hn, hb⟩)
/-- a text is put into the set -/
theorem tx_add {z : Str} {tk : Tok} {Q : Bool → Shared → Prop} (x : TxSet w s.heap a L) (room : L.length + 1 < scanBound)
    (h : ∀ (b : Bool) h' L', Heap.SameBut a s.heap h' → L'.Perm (if z ∈ L then L else z :: L) → TxSet w h' a L' → Q b { s with heap := h' }) :
    wpAny (model P w) A (setAddHashed a (.str z tk) ((PySem.strKind P w).hash z)) Q E s := by
  obtain ⟨⟨o, es, ep, t, ho, hex, hd, hp, hf, hr, hl⟩, hn, hb⟩ := x
  have kz : (PySem.strKind P w).is z (.str z tk) = true := strKind_is _ _ _ _
  have el := txSet_elems (P := P) hp
  have hz : es.size < scanBound := by rw [tx_len hp]; exact hb
  unfold setAddHashed setAddHashedIn
  refine wpAny_holding (wpAny_bind (wpAny_setState_of ho hd hf ?_))
  dsimp only
  rw [byScan_of (x := .str z tk) rfl hz el]
  simp only [↓reduceIte]
  unfold setAddByScan
  refine wpAny_bind (wpAny_bind (wpAny_rule (wpAny_bind (wpAny_setScan_of kz ho hd hf el ?_))))
  cases hi : List.findIdx? (fun e => (PySem.strKind P w).is z e.2) es.toList with
  | some j =>
    dsimp only
    obtain ⟨hj, pj, _⟩ := List.findIdx?_eq_some_iff_getElem.mp hi
    obtain ⟨y, hy, ey⟩ := paired_of_mem hp _ (List.getElem_mem hj)
    have hzm : z ∈ L := by rw [← (isStr_iff ey).mp pj]; exact hy
    have q := h false s.heap L (Heap.SameBut.refl a s.heap) (by rw [if_pos hzm]) ⟨⟨o, es, ep, t, ho, hex, hd, hp, hf, hr, hl⟩, hn, hb⟩
    exact wpAny_pure (wpAny_pure q)
  | none =>
    dsimp only
    have hzn : z ∉ L := fun m => by
      obtain ⟨e, he, ee⟩ := paired_of_memL hp z m
      have c := List.findIdx?_eq_none_iff.mp hi e he
      rw [(isStr_iff ee).mpr rfl] at c
      cases c
    have gw : ∀ (b : Bool) {s1 : Shared} {R : Unit → Shared → Prop}, R () s1 → wpAny (model P w) A (match b with | true => rule "set.scan.the-table-gave-way" | false => pure ()) R E s1 := fun b s1 R q => by
      cases b
      · exact wpAny_pure q
      · exact wpAny_rule q
    have p1 := layNew_perm t es ((PySem.strKind P w).hash z) (.str z tk)
    have f1 := layNew_fits t es ((PySem.strKind P w).hash z) (.str z tk)
    have r1 := layNew_ris t es ((PySem.strKind P w).hash z) (.str z tk) hr
    have l1 := layNew_led t es ((PySem.strKind P w).hash z) (.str z tk)
    revert p1 f1 r1 l1
    generalize layNew t es ((PySem.strKind P w).hash z) (.str z tk) = Y
    obtain ⟨es1, t1, wd, gv⟩ := Y
    intro p1 f1 r1 l1
    rw [Array.toList_push] at p1
    have p2 : es1.toList.Perm (((PySem.strKind P w).hash z, Value.str z tk) :: es.toList) := p1.trans (List.perm_append_singleton _ _)
    obtain ⟨L1, q1, q2⟩ := paired_perm p2 (.cons (F := TxE w) ⟨tk, rfl⟩ hp)
    have n1 : L1.Nodup := q1.nodup_iff.mpr (List.nodup_cons.mpr ⟨hzn, hn⟩)
    have b1 : L1.length < scanBound := by rw [q1.length_eq]; exact room
    have d1 : w.params.followText "set-order" = true ∨ t1.led = true := hl.imp id fun e => l1.trans e
    have fin : ∀ h' L', Heap.SameBut a s.heap h' → L'.Perm L1 → TxSet w h' a L' → Q true { s with heap := h' } := fun h' L' sb pm y => h true h' L' sb (by rw [if_neg hzn]; exact pm.trans q1) y
    refine wpAny_bind (gw _ ?_)
    split
    · refine wpAny_bind ?_
      rw [hashByValue_scannable 8 (x := .str z tk) rfl]
      refine wpAny_pure (tx_store (fun b s1 R q => gw b q) ho hex hd q2 n1 b1 ?_ ?_ ?_ fun h' L' sb pm y => ?_)
      · first | (split <;> first | exact f1 | exact SetTable.fits_plain_off f1) | exact f1
      · first | (split <;> exact r1) | exact r1
      · first | (split <;> exact d1) | exact d1
      · exact wpAny_pure (fin h' L' sb pm y)
    · refine wpAny_bind (wpAny_pure ?_)
      simp only [↓reduceIte]
      exact tx_store (fun b s1 R q => gw b q) ho hex hd q2 n1 b1 f1 r1 d1 fun h' L' sb pm y => wpAny_pure (fin h' L' sb pm y)
/-- found.add(z) -/
theorem tx_setadd {z : Str} {tk : Tok} {Q : Value → Shared → Prop} (x : TxSet w s.heap a L) (room : L.length + 1 < scanBound)
    (h : ∀ h' L', Heap.SameBut a s.heap h' → L'.Perm (if z ∈ L then L else z :: L) → TxSet w h' a L' → Q .none { s with heap := h', toks := s.toks + 1 }) :
    wpAny (model P w) A (call (.builtin "set.add") [.ref a, .str z tk]) Q E s := by
  have tys : s.TypeIs (.ref a) "set" := by
    obtain ⟨⟨o, _, _, _, ho, hex, _⟩, _⟩ := x
    exact ⟨o, ho, hex.1⟩
  refine wpAny_call_entry F.slot_set_add tys F.entry_set_add ?_ (F.args_set_add_2 _ _)
  unfold Builtin.«set.add» Builtin.Frozenset.oneOther
  simp only [List.isEmpty_nil, bind_assoc]
  unfold Builtin.Frozenset.addrOf setAdd
  refine wpAny_bind (wpAny_pure ?_)
  try dsimp only
  refine wpAny_bind (wpAny_pure ?_)
  try dsimp only
  refine wpAny_bind (wpAny_holding (wpAny_bind ((PySem.strKind P w).pyHash (k := z) (strKind_is _ _ _ _) ?_)))
  refine tx_add (s := { s with toks := s.toks + 1 }) x room fun b h' L' sb pm y => ?_
  show wpAny _ _ (ret Value.none) _ _ _
  exact wpAny_pure ⟨_, rfl, h h' L' sb pm y⟩
theorem tx_fresh {h : Heap} (w : World) : TxSet w (h.push { cls := .type "set", dict := none, data := .set #[] 0 (.fresh 0 0 (!w.params.followText "set-order")) }) h.objs.size [] :=
  ⟨⟨_, #[], 0, _, Heap.get?_push_size _ rfl, ⟨rfl, rfl, rfl⟩, rfl, .nil, by rfl, .nil, by
    show _ ∨ (!w.params.followText "set-order") = true
    cases w.params.followText "set-order"
    · exact .inr rfl
    · exact .inl rfl⟩, .nil, by decide⟩
end
end Hw

set_option Elab.async false
set_option linter.all false
set_option maxRecDepth 100000
set_option maxHeartbeats 2000000
namespace Hw
open PySem PySem.Spec PyProof.Rows L2
/-- the set of the texts L stands at a -/
def TxO (w : World) (a : Addr) (L : List Str) : HO := .ext fun h => TxSet w h a L
theorem txO_ok {w : World} {P : Program} {H : Hp} {h : Heap} {a : Addr} {L : List Str} (x : TxSet w h a L) : ObjOk P w H h a (TxO w a L) := by
  have ⟨⟨o, _, _, _, ho, _⟩, _, _⟩ := x
  exact ⟨x, ⟨o, ho⟩, fun h1 h2 y k => TxSet.same y k⟩
section
variable {X : Cx}
theorem txO_at {pins : List (Addr × Obj)} {σ : L2.St} {H : Hp} {s : Shared} {a : Addr} {L : List Str} (I : Inv X pins σ H s) (ha : H a = some (TxO X.w a L)) : TxSet X.w s.heap a L := (I.hok a _ ha).1
theorem txO_add {pins : List (Addr × Obj)} {σ : L2.St} {H : Hp} {s : Shared} {E : Value → Shared → Prop} {D : Addr} {L : List Str} {z : Str} {tk : Tok} {Q : Value → Shared → Prop} (I : Inv X pins σ H s) (hD : H D = some (TxO X.w D L)) (room : L.length + 1 < scanBound)
    (h : ∀ s' L', L'.Perm (if z ∈ L then L else z :: L) → Inv X pins σ (upd H D (TxO X.w D L')) s' → Q .none s') : wpAny (model X.prog X.w) X.A (call (.builtin "set.add") [.ref D, .str z tk]) Q E s := by
  refine tx_setadd (txO_at I hD) room fun h' L' sb pm y => ?_
  have ex : ∃ u, h'.get? D = some u := by
    have ⟨⟨o, _, _, _, ho, _⟩, _, _⟩ := y
    exact ⟨o, ho⟩
  exact h _ L' pm (I.write (e := D) (t' := s.toks + 1) (by rw [hD]; trivial) (.inl rfl) (fun b u hb hu => (sb.2 b hb).trans hu) ex (txO_ok y))
/-- {elt for target in iter if ..}, elt a text -/
def tScT (w : World) (wi : TI) (g : TG) (tt : TT) (te : TE) (vs : List Nat) : TE := fun σ H Q => wi σ H fun J H1 => ∀ D, H1 D = none → ∃ W : Nat → Nat → Hp → Prop, (∃ m, W 0 m (upd H1 D (TxO w D []))) ∧ ∀ i m H, W i m H →
  (J.stop i H ∧ Q (.ref D) H) ∨ (J.go i H ∧ ∃ Nx : Hp → Prop, (∀ H', Nx H' → ∃ m', m' < m ∧ W (i + 1) m' H') ∧ ∀ x H', J.yld i H x H' → g x (wipe σ vs) H' fun σ2 H2 => wipe σ2 vs = wipe σ vs ∧ tt σ2 H2 fun b H3 =>
    if b = true then te σ2 H3 fun y H4 => ∃ (z : Str) (L : List Str), y = .str z ∧ H4 D = some (TxO w D L) ∧ L.length + 1 < scanBound ∧ ∀ L', L'.Perm (if z ∈ L then L else z :: L) → Nx (upd H4 D (TxO w D L')) else Nx H3)
theorem pe_scT {elt tg iter : Expr} {ifs : List Expr} {scope : Scope} {own : List (PySem.Str × Nat)} {pos : Pos} {wi : TI} {g : TG} {tt : TT} {te : TE} (hc : X.calm = true) (hN : X.N.Nodup) (hi : PI X tg iter wi) (ok : BlkOk X.N X.env.scope scope own)
    (hg : ∀ (s : Shared) (H : Hp) (C : Addr) (cl : List (PySem.Str × Addr)) (fp : List Addr), PG (X.blk s H scope (compEnvC scope cl C X.env) fp) tg g) (ht : ∀ (s : Shared) (H : Hp) (C : Addr) (cl : List (PySem.Str × Addr)) (fp : List Addr), PTs (X.blk s H scope (compEnvC scope cl C X.env) fp) ifs tt)
    (he : ∀ (s : Shared) (H : Hp) (C : Addr) (cl : List (PySem.Str × Addr)) (fp : List Addr), PE (X.blk s H scope (compEnvC scope cl C X.env) fp) elt te) (hs : ∀ x, foldedSetIterable iter X.env x = pure x := by intro _; rfl) :
    PE X (.SetComp elt [⟨tg, iter, ifs, 0⟩] scope pos) (tScT X.w wi g tt te (own.map (·.2))) := by
  refine ⟨fun pins s σ H Q I h => ?_⟩
  rw [PpSet.eval_SetComp]
  have free : ∀ y ∈ scope.names, y.2 = .free → ∃ c, X.env.cells.lookup y.1 = some c := fun y hy e => (ok.free y hy e).elim (fun k => I.ok.has _ (.inl k)) fun k => I.ok.has _ (.inr k)
  refine wpAny_comprehension_free (use := none) rfl hs (closure_ok free) ok.kind (fun y hy e => by rw [ok.uniq y hy, e]) (thn (hi.run pins s σ H _ I h) fun xv s1 hx => thn hx fun itv s2 h2 => ?_)
  obtain ⟨it, fp, tn, J, H2, e, I2, T, st2, f2, q⟩ := h2
  subst e
  refine PpSet.newSet_ok (newEnv_comp ?_)
  obtain ⟨D, hD⟩ : ∃ D, s2.heap.objs.size = D := ⟨_, rfl⟩
  rw [hD]
  have nD : H2 D = none := I2.hok.fresh (Nat.le_of_eq hD)
  obtain ⟨W, ⟨m0, w0⟩, turn⟩ := q D nD
  obtain ⟨s3, hs3⟩ : ∃ s3 : Shared, { s2 with heap := s2.heap.push { cls := .type "set", dict := none, data := .set #[] 0 (.fresh 0 0 (!X.w.params.followText "set-order")) } } = s3 := ⟨_, rfl⟩
  rw [hs3]
  have heap3 : s3.heap = s2.heap.push { cls := .type "set", dict := none, data := .set #[] 0 (.fresh 0 0 (!X.w.params.followText "set-order")) } := by rw [← hs3]
  have I3 : Inv X pins σ (upd H2 D (TxO X.w D [])) s3 := by
    rw [← hs3, ← hD]
    exact I2.laid (t' := s2.toks) (fun b o e => Heap.get?_push_of_some _ e) (Nat.le_refl _) (txO_ok (tx_fresh X.w))
  have keep3 : ∀ b o, s2.heap.get? b = some o → s3.heap.get? b = some o := fun b o e => by rw [heap3]; exact Heap.get?_push_of_some _ e
  have below : ∀ b ∈ fp, b < s2.heap.objs.size := fun b hb => let ⟨_, e, _⟩ := T.obj _ _ st2 b hb; Heap.lt_size e
  have f3 : ∀ b ∈ fp, FpOk X pins (upd H2 D (TxO X.w D [])) b ∧ b < s3.heap.objs.size := fun b hb => by
    have lt := below b hb
    exact ⟨⟨by rw [upd_ne (by rw [← hD]; exact Nat.ne_of_lt lt)]; exact (f2 b hb).1, (f2 b hb).2⟩, by rw [heap3, Heap.size_push]; exact Nat.lt_succ_of_lt lt⟩
  have st3 : tn 0 s3.heap := T.keep _ _ _ st2 fun b _ o e => keep3 b o e
  have I4 := block_start I3 ok hN f3
  obtain ⟨H3, hH3⟩ : ∃ H3, upd H2 D (TxO X.w D []) = H3 := ⟨_, rfl⟩
  rw [hH3] at I3 I4 w0 f3
  obtain ⟨ce, hce⟩ : ∃ ce, compEnvC scope (cellsFrom (s3.heap.objs.size + 1) scope.names (cloFrom X.env.cells scope.names [])) s3.heap.objs.size X.env = ce := ⟨_, rfl⟩
  have pg := hg s3 H3 s3.heap.objs.size (cellsFrom (s3.heap.objs.size + 1) scope.names (cloFrom X.env.cells scope.names [])) fp
  have pt := ht s3 H3 s3.heap.objs.size (cellsFrom (s3.heap.objs.size + 1) scope.names (cloFrom X.env.cells scope.names [])) fp
  have pe := he s3 H3 s3.heap.objs.size (cellsFrom (s3.heap.objs.size + 1) scope.names (cloFrom X.env.cells scope.names [])) fp
  obtain ⟨s4, hs4⟩ : ∃ s4 : Shared, { s3 with heap := pushCells (s3.heap.push { cls := .type "dict", data := .dict #[] }) scope.names } = s4 := ⟨_, rfl⟩
  rw [hce] at I4 pg pt pe
  have I4' : Inv (X.blk s3 H3 scope ce fp) [] (wipe σ (own.map (·.2))) H3 s4 := by rw [← hs4]; exact I4
  have st4 : tn 0 s4.heap := T.keep _ _ _ st3 fun b _ o e => by rw [← hs4]; exact pushCells_keeps _ _ _ _ (Heap.get?_push_of_some _ e)
  have cl : ce.locals = s3.heap.objs.size := by rw [← hce]; rfl
  have still : ∀ {σ' : L2.St} {H' : Hp} {s' : Shared}, Inv (X.blk s3 H3 scope ce fp) [] σ' H' s' → (∀ b ∈ fp, H' b = none) → ∀ b ∈ fp, FpOk (X.blk s3 H3 scope ce fp) [] H' b := fun {σ' H' s'} I' hn b hb =>
    ⟨hn b hb, (I'.ok.exf b hb).1, I'.ok.exfs b hb, .inl hb, fun x c e => (I'.ok.exf b hb).2 x c e, fun p hp => absurd (show p ∈ ([] : List (Addr × Obj)) ++ [] from hp) (by simp)⟩
  have all : codeAny (model X.prog X.w) X.A (.compLoop (.SetComp elt [⟨tg, iter, ifs, 0⟩] scope pos) 0 (.ref it) (.ref D) ce) (compPost (model X.prog X.w) X.A X.xe none (EP X pins σ Q) (.ref D) s3.heap.objs.size) s4 := by
    refine PpSet.compLoopS_any (fun n s' => ∃ i H', Inv (X.blk s3 H3 scope ce fp) [] (wipe σ (own.map (·.2))) H' s' ∧ tn i s'.heap ∧ (∀ b ∈ fp, H' b = none) ∧ W i n H') ?_ m0 ⟨0, H3, I4', st4, fun b hb => (f3 b hb).1.1, w0⟩
    rintro n s5 ⟨i, H5, I5, st5, n5, w5⟩
    rcases turn i n H5 w5 with ⟨stop, qq⟩ | ⟨go, Nx, hNx, step⟩
    · refine thnF (T.done (X.blk s3 H3 scope ce fp) rfl rfl rfl hc i [] s5 _ H5 (fun _ _ => False) I5 (still I5 n5) st5 stop) fun r s6 ⟨hr, I6⟩ => ?_
      subst hr
      have I7 : Inv X pins σ H5 s6 := I3.call' (ch := fp) I6.os I6.base I6.hok I6.bare fun b hb => ⟨(f3 b hb).1.2.2.2.1, (f3 b hb).1.2.1, (f3 b hb).1.2.2.2.2.1, (f3 b hb).1.2.2.2.2.2⟩
      have nC : H5 s3.heap.objs.size = none := by
        have y : H5 ce.locals = none := I6.free
        rwa [cl] at y
      obtain ⟨m, hn, _⟩ := I6.loc
      have hn : s6.heap.Ns ce.locals m := hn
      rw [cl] at hn
      obtain ⟨f0, f1, _, f3', f4, f5⟩ := I3.fpOk (Nat.le_refl _) nC
      exact ⟨m, hn, fun h2 sb => ⟨.ref D, H5, I7.turned (t' := s6.toks) (fun b o hb e => (sb.2 b hb).trans e) f0 f1 f3' f4 f5, rfl, qq⟩⟩
    · refine thnF (T.item (X.blk s3 H3 scope ce fp) rfl rfl rfl hc i [] s5 _ H5 (fun _ _ => False) I5 (still I5 n5) st5 go) fun r s6 ⟨u, hr, h6⟩ => ?_
      subst hr
      refine thnF h6 fun _ s7 ⟨x, H7, I7, r7, y7, st7, n7⟩ => ?_
      have I8 := I7.pinned (still I7 n7) (T.obj _ _ st7)
      refine thnF (pg.run _ s7 _ H7 x u _ I8 r7 (step x H7 y7)) fun _ s8 ⟨σ8, H8, I9, hw8, q8⟩ => ?_
      refine thnF (pt.run _ s8 σ8 H8 _ I9 q8) fun b s9 ⟨H9, I10, q9⟩ => ?_
      have back : ∀ {s' : Shared} {H' : Hp}, Inv (X.blk s3 H3 scope ce fp) ([] ++ pinsAt fp s7.heap) σ8 H' s' → Nx H' → ∃ m, m < n ∧ ∃ i H', Inv (X.blk s3 H3 scope ce fp) [] (wipe σ (own.map (·.2))) H' s' ∧ tn i s'.heap ∧ (∀ b ∈ fp, H' b = none) ∧ W i m H' := fun {s' H'} I' nx => by
        obtain ⟨m', lt, w'⟩ := hNx H' nx
        have pin : ∀ b ∈ fp, ∀ o, s7.heap.get? b = some o → s'.heap.get? b = some o ∧ H' b = none := fun b hb o e => by
          have y := I'.pin (b, o) (List.mem_append_right _ (List.mem_append_right _ (mem_pinsAt hb e)))
          exact ⟨y.1, y.2.1⟩
        have len : (wipe σ (own.map (·.2))).length = σ8.length := by rw [← hw8, wipe_length]
        refine ⟨m', lt, i + 1, H', (I'.unpinned (pins := [])).weak len (fun j v e => ?_), T.keep _ _ _ st7 fun b hb o e => (pin b hb o e).1, fun b hb => ?_, w'⟩
        · rw [← hw8] at e
          exact (wipe_some e).1
        · obtain ⟨o, e, _⟩ := T.obj _ _ st7 b hb
          exact (pin b hb o e).2
      cases b with
      | false =>
        simp only [Bool.false_eq_true, if_false] at q9 ⊢
        exact back I10 q9
      | true =>
        simp only [if_true] at q9 ⊢
        refine thnF (pe.run _ s9 σ8 H9 _ I10 q9) fun v s10 ⟨yv, H10, I11, r10, z, L, ey, hD10, few, nx⟩ => ?_
        subst ey
        obtain ⟨t, rfl⟩ := r10
        exact txO_add (X := X.blk s3 H3 scope ce fp) I11 hD10 few fun s11 L' pm I12 => back I12 (nx L' pm)
  have goal := PpSet.codeAny_compStart_set (rest := []) all (T.self X.A 0 _ _ _ st4 all)
  rw [← hs4, ← hce] at goal
  exact goal
/-- over anything that is walked -/
theorem sct_it {J : It} {n : Nat} {G : Hp → Prop} {Y : Nat → Hp → V → Hp → Prop} (wk : Walk J n G Y) {w : World} {g : TG} {tt : TT} {te : TE} {vs : List Nat} {σ : L2.St} {H1 : Hp} {D : Addr} {Qd : Hp → Prop} (Pv : Nat → Hp → Prop) (h0 : Pv 0 (upd H1 D (TxO w D []))) (hG : ∀ i H, i ≤ n → Pv i H → G H)
    (hs : ∀ i x H H', i < n → Pv i H → Y i H x H' → g x (wipe σ vs) H' fun σ2 H2 => wipe σ2 vs = wipe σ vs ∧ tt σ2 H2 fun b H3 =>
      if b = true then te σ2 H3 fun y H4 => ∃ (z : Str) (L : List Str), y = .str z ∧ H4 D = some (TxO w D L) ∧ L.length + 1 < scanBound ∧ ∀ L', L'.Perm (if z ∈ L then L else z :: L) → Pv (i + 1) (upd H4 D (TxO w D L')) else Pv (i + 1) H3) (hd : ∀ H, Pv n H → Qd H) :
    ∃ W : Nat → Nat → Hp → Prop, (∃ m, W 0 m (upd H1 D (TxO w D []))) ∧ ∀ i m H, W i m H →
      (J.stop i H ∧ Qd H) ∨ (J.go i H ∧ ∃ Nx : Hp → Prop, (∀ H', Nx H' → ∃ m', m' < m ∧ W (i + 1) m' H') ∧ ∀ x H', J.yld i H x H' → g x (wipe σ vs) H' fun σ2 H2 => wipe σ2 vs = wipe σ vs ∧ tt σ2 H2 fun b H3 =>
        if b = true then te σ2 H3 fun y H4 => ∃ (z : Str) (L : List Str), y = .str z ∧ H4 D = some (TxO w D L) ∧ L.length + 1 < scanBound ∧ ∀ L', L'.Perm (if z ∈ L then L else z :: L) → Nx (upd H4 D (TxO w D L')) else Nx H3) := by
  refine ⟨fun i m H => m = n - i ∧ i ≤ n ∧ Pv i H, ⟨n, (Nat.sub_zero n).symm, Nat.zero_le _, h0⟩, ?_⟩
  rintro i m H ⟨em, hi, p⟩
  subst em
  have gH := hG i H hi p
  rcases Nat.lt_or_ge i n with lt | ge
  · exact .inr ⟨wk.goes i H lt gH, Pv (i + 1), fun H' p' => ⟨n - (i + 1), by omega, rfl, lt, p'⟩, fun x H' y => hs i x H H' lt p (wk.yields i H x H' lt gH y)⟩
  · obtain rfl : i = n := by omega
    exact .inl ⟨wk.stops H gH, hd H p⟩
/-- sorted of such a set -/
def rSortX (w : World) : List V → Hp → VK → Prop := fun vs H Q => ∃ (a : Addr) (L : List Str), vs = [V.ref a] ∧ H a = some (TxO w a L) ∧ ∀ p, H p = none → Q (.ref p) (upd H p (.lst ((sortS L).map V.str)))
theorem strs_reads {h : Heap} : ∀ {zs : List Str} {us : List Value}, Vals (zs.map V.str) us → PySem.W.EachIs (fun (v : Value) (z : Str) => ∃ as, Reads h v (.str z) as ∧ ∀ a, a ∉ as) us zs
  | [], _, r => by cases r; exact .nil
  | z :: zs, _, r => by
    cases r with
    | cons r1 r2 =>
      obtain ⟨t, rfl⟩ := r1
      exact .cons ⟨[], .str z t, fun a m => nomatch m⟩ (strs_reads r2)
theorem strs_each : ∀ {zs : List Str} {us : List Value}, Vals (zs.map V.str) us → PySem.W.EachIs (fun (v : Value) (z : Str) => RelV (.str z) v) us zs
  | [], _, r => by cases r; exact .nil
  | z :: zs, _, r => by
    cases r with
    | cons r1 r2 => exact .cons r1 (strs_each r2)
theorem each_vals : ∀ {zs : List Str} {us : List Value}, PySem.W.EachIs (fun (v : Value) (z : Str) => RelV (.str z) v) us zs → Vals (zs.map V.str) us
  | _, _, .nil => .nil
  | _, _, .cons r t => .cons r (each_vals t)
theorem tx_vals {w : World} : ∀ {L : List Str} {l : List (Int × Value)}, Paired (TxE w) L l → Vals (L.map V.str) (l.map (·.2))
  | _, _, .nil => .nil
  | _, _, .cons ⟨t, e⟩ r => by
    subst e
    exact .cons ⟨t, rfl⟩ (tx_vals r)
theorem vals_perm {us us' : List Value} (p : us'.Perm us) {L : List Str} (r : Vals (L.map V.str) us) : ∃ L2 : List Str, L2.Perm L ∧ Vals (L2.map V.str) us' := by
  have r' : Paired (fun (z : Str) (u : Value) => RelV (.str z) u) L us := by
    clear p
    induction L generalizing us with
    | nil => cases r; exact .nil
    | cons z L ih =>
      cases r with
      | cons r1 r2 => exact .cons r1 (ih r2)
  obtain ⟨L', q1, q2⟩ := paired_perm p r'
  refine ⟨L', q1, ?_⟩
  clear q1 r r' p
  induction q2 with
  | nil => exact .nil
  | cons a _ ih => exact .cons a ih
theorem cr_sortX (hc : X.calm = true) (hu : X.A.units + 64 < cLine) : CallR X (.builtin "sorted") (rSortX X.w) := by
  intro pins s σ H vs us Q I r h
  obtain ⟨a, L, rfl, ha, q⟩ := h
  rw [Vals.ref1 r]
  obtain ⟨⟨o, es, ep, t, ho, hex, hd, hp, hf, hr, hl⟩, hn, hb⟩ := txO_at I ha
  have hz : es.size < scanBound := by rw [tx_len hp]; exact hb
  refine Calls.call_function_entry kind_sorted plain_sorted entry_sorted (args_sorted1 _) ?_
  unfold Builtin.«sorted»
  refine wpAny_bind (m := checkCount "sorted" 1 1 _) (wpAny_pure ?_)
  refine wpAny_bind (collect_set (A := X.A.in1) (I.ok.hd hc) ⟨o, ho, hex.1, hd⟩ hf hz hr hl fun s1 out k1 z1 g1 o1 pm => ?_)
  obtain ⟨L1, pL, vL⟩ := vals_perm pm (tx_vals hp)
  have ln : L1.length = L.length := pL.length_eq
  have lo : out.length = L1.length := by rw [← vL.length, List.length_map]
  have small : L1.length ≤ sizeLine := by rw [ln]; exact fits_of_scanBound hb
  refine wpAny_bind (wpAny_newList ?_ (by rw [lo]; exact small))
  have at1 : (s1.heap.push (seqObj "list" out.toArray 0)).get? s1.heap.objs.size = some (seqObj "list" out.toArray 0) := Heap.get?_push_size _ rfl
  have e0 : L1.mergeSort (PySem.W.dataLe false PyData.str) = sortS L := by
    have e1 : L1.mergeSort (PySem.W.dataLe false PyData.str) = sortS L1 := by
      have e := (List.map_mergeSort (f := id) (r := leS) (s := PySem.W.dataLe false PyData.str) (l := L1) fun x _ y _ => ?_)
      · rw [List.map_id, List.map_id] at e
        exact e.symm
      · rw [PySem.W.dataLe_eq]
        show leS x y = !PySem.W.dataLt (.str y) (.str x)
        rw [PySem.W.dataLt_str]; rfl
    rw [e1]
    exact sortS_of_perm pL
  refine wpAny_bind (wpAny_holding (PySem.W.list_sort_data (enc := PyData.str) (R := fun v z => RelV (.str z) v) at1 (strs_each vL) ((strs_reads vL).mono fun v z ⟨as, rd, hn⟩ => ⟨as, rd, hn _⟩) (PySem.W.AllAlike.of fun _ _ => by simp [PySem.W.alike]) (PySem.W.Sortable.others (enc := PyData.str) fun z => ⟨(fun e => nomatch e), fun xs e => nomatch e⟩) small
    (fun z _ => by rw [PyData.depth]; show X.A.units + 1 + 1 + 0 < cLine; omega) fun out2 l2 e2 => ?_))
  rw [e0] at e2
  have v2 := each_vals e2
  obtain ⟨c, at2⟩ := sortedHeap_at (vs := out) (out := out2.toArray) at1
  have keep : ∀ b u, s.heap.get? b = some u → (sortedHeap (s1.heap.push (seqObj "list" out.toArray 0)) s1.heap.objs.size out out2.toArray).get? b = some u := fun b u e => by
    have e' := k1 b u e
    have lt := Heap.lt_size e'
    rw [sortedHeap_old (Nat.ne_of_lt lt) (by rw [size_push']; exact Nat.lt_succ_of_lt lt)]
    exact Heap.get?_push_of_some _ e'
  have nw : H s1.heap.objs.size = none := I.hok.fresh z1
  refine wpAny_pure ⟨_, rfl, .ref s1.heap.objs.size, upd H s1.heap.objs.size (.lst ((sortS L).map V.str)), ?_, rfl, q _ nw⟩
  have new : ObjOk X.prog X.w (upd H s1.heap.objs.size (.lst ((sortS L).map V.str))) (sortedHeap (s1.heap.push (seqObj "list" out.toArray 0)) s1.heap.objs.size out out2.toArray) s1.heap.objs.size (.lst ((sortS L).map V.str)) :=
    ⟨by rw [List.length_map, (sortS_perm L).length_eq]; exact fits_of_scanBound hb, out2, c, v2, at2⟩
  have J := I.call (ch := []) (g' := s1.gens) (d' := s1.drawn) (t' := s1.toks) (Un.laid keep z1 nw) (I.hok.laid keep z1 new) (by rw [g1]; exact I.bare) (fun _ z => nomatch z)
  obtain ⟨hp1, gg, dd, tt, oo⟩ := s1
  cases o1
  exact J
end
end Hw

set_option Elab.async false
set_option linter.all false
set_option maxRecDepth 100000
set_option maxHeartbeats 2000000
namespace Hw
open PySem PySem.Spec PyProof.Rows L2
/-- d.update(e), e another dict -/
def rDUpd : V → List V → Hp → VK → Prop := fun x xs H Q => ∃ (a b : Addr) (kvs more : List (Key × V)), x = .ref a ∧ xs = [.ref b] ∧ H a = some (.dK kvs) ∧ H b = some (.dK more) ∧ a ≠ b ∧ kvs.length + more.length ≤ sizeLine ∧ Q .non (upd H a (.dK (mergeK kvs more)))
theorem mt_update {X : Cx} : MtR X "dict.update" rDUpd := by
  intro pins s σ H x xs v us Q I rx rxs h
  obtain ⟨a, b, kvs, more, rfl, rfl, ha, hb, hne, hz, q⟩ := h
  cases rx
  obtain ⟨u, rfl, ru⟩ := rxs.one
  obtain rfl : u = Value.ref b := ru
  obtain ⟨z1, m1, vs1, rel1, d1⟩ := dk_of I.hok ha
  obtain ⟨z2, m2, vs2, rel2, d2⟩ := dk_of I.hok hb
  refine call_meetsIn PySem.F.slot_dict_update d1.typeIs PySem.F.entry_dict_update (PySem.F.args_dict_update_2 _ _) (meets_dict_update (mixKind X.prog X.w) a b hne m2) ⟨vs1, vs2, d1, d2, (by rw [← rel1.length, ← rel2.length]; exact hz), fun h' dd _ sb => ?_⟩
  have he : ∃ o, h'.get? a = some o := let ⟨o, _, _, ho, _⟩ := dd; ⟨o, ho⟩
  have hl : (mergeK kvs more).length ≤ sizeLine := Nat.le_trans (length_mergeK more kvs) hz
  exact ⟨.non, upd H a (.dK (mergeK kvs more)), d_write (t' := s.toks) I (by rw [ha]; exact True.intro) sb he (dk_new hl m1 (KV.merge rel2 rel1) dd), rfl, q⟩
end Hw

set_option Elab.async false
set_option linter.all false
set_option maxRecDepth 100000
set_option maxHeartbeats 4000000
namespace Hw
open PySem L2 PyProof.Rows
def topS (i : Nat) : Stmt := PySem.Challenge.pw_healedwebs_k07_whole_elder_webs_slots_an.main.body.getD i (.Pass ⟨0, 0, 0, 0⟩)
abbrev sPot : Stmt := topS 43
abbrev sTake : Stmt := topS 44
abbrev sOf : Stmt := topS 45
abbrev sCells : Stmt := topS 47
section
variable {P : Program} {w : World} {K : PySem.W.Frag} {mg : Str → Option Value} {base : Heap}
theorem scPot : FnScope ["script", "place", "cell", "own", "small"] ["script", "place"] (defScope sPot) := ⟨rfl, rfl, rfl, by decide +kernel, rfl, by decide +kernel, by decide +kernel⟩
theorem scTake : FnScope ["pot", "upto", "digit", "prime", "blend"] ["pot", "upto"] (defScope sTake) := ⟨rfl, rfl, rfl, by decide +kernel, rfl, by decide +kernel, by decide +kernel⟩
theorem scOf : FnScope ["pot", "some"] ["pot", "some"] (defScope sOf) := ⟨rfl, rfl, rfl, by decide +kernel, rfl, by decide +kernel, by decide +kernel⟩
theorem scCells : FnScope ["script", "most"] ["script", "most"] (defScope sCells) := ⟨rfl, rfl, rfl, by decide +kernel, rfl, by decide +kernel, by decide +kernel⟩
theorem b01 (b : Prop) [Decidable b] : -(2 ^ 64) < (if b then (1 : Int) else 0) ∧ (if b then (1 : Int) else 0) < 2 ^ 64 := by
  split <;> exact ⟨by decide, by decide⟩
/-- names of the built-ins -/
structure Blt (mg : Str → Option Value) : Prop where
  len : mg "len" = none
  sum : mg "sum" = none
  int : mg "int" = none
  abs : mg "abs" = none
  list : mg "list" = none
  range : mg "range" = none
  max : mg "max" = none
  min : mg "min" = none
theorem ok_pot {f : Addr} {fd : FuncData} {k : Nat} (F : Fun K "_law_pot" "_law_pot" sPot f fd) (B : Blt mg) : FnOk P w K mg base CX0 (k + 1) f fd ["script", "place"] (spPot K) := by
  refine F.ok scPot (fun vs H Q E h => ?_) (fun cdv A outer s H vs Q E hr h => ?_)
  · obtain ⟨a, ns, i, rfl, _⟩ := h
    rfl
  · obtain ⟨a, ns, i, rfl, hS, hlen, h0, h1, q⟩ := h
    refine ⟨_, Evl.pss_cut (ps_set (i := 2) scPot.nd rfl (.inl rfl) (pe_ifExp (pt_cmpR op_lt (pv 1) (pe_callB call_len_seq (by rfl) B.len PySem.boot_len (pa_cons (pv 0) pa_nil)) (nomark _))
        (pe_ix ix_list (pv 0) (pv 1) (fun _ _ => rfl))
        (pe_op op_add (pe_op op_add (pe_op op_mod (pe_callB (cr_sum rfl) (by rfl) B.sum PyProof.Rows.boot_sum (pa_cons (pe_slice sl_list (pv 0) po_none (po_some pe_int)) pa_nil)) pe_int) (pe_op op_mul pe_int (pv 1))) pe_int)))
      (pss_cons (ps_set (i := 3) scPot.nd rfl (.inl rfl) (pe_op op_mul (pe_op op_mod (pe_callTy call_int1 (by rfl) B.int PyProof.Rows.boot_int (pa_cons (pe_callB call_abs (by rfl) B.abs PyProof.Rows.boot_abs (pa_cons (pv 2) pa_nil)) pa_nil))
          (pe_op op_powW (pe_op op_powW pe_int pe_int) pe_int))
          (pe_callTy call_int1 (by rfl) B.int PyProof.Rows.boot_int (pa_cons (pe_cmpR op_ge (pe_callB call_abs (by rfl) B.abs PyProof.Rows.boot_abs (pa_cons (pv 2) pa_nil)) (pe_op op_powW pe_int pe_int) (nomark _)) pa_nil))))
      (pss_cons (ps_set (i := 4) scPot.nd rfl (.inl rfl) (pe_op op_mod (pe_callTy call_int1 (by rfl) B.int PyProof.Rows.boot_int (pa_cons (pv 2) pa_nil)) pe_int))
      (pss_one (ps_ret (pe_lst (pa_cons (pv 3) (pa_cons (pe_op op_mod (pe_callTy call_int1 (by rfl) B.int PyProof.Rows.boot_int (pa_cons
        (pe_op op_add (pe_op op_add (pe_op op_mul (pv 4) pe_int) (pe_op op_mul (pe_op op_mul pe_int (pv 1)) (pv 1))) pe_int) pa_nil)) pe_int) (pa_cons pe_int pa_nil)))))))), ?_⟩
    -- the cell: any int, whatever the way
    refine ⟨fun σ' H' => ∃ c : Int, σ' = [some (.ref a), some (.int i), some (.int c), none, none] ∧ Same H H', ?_, ?_⟩
    · refine ⟨_, rfl, .ref a, rfl, a, ns.map V.int, rfl, .inl hS, _, _, rfl, rfl, _, rfl, ite2 (fun e => ?_) (fun e => ?_)⟩
      · have e' : i < (ns.map V.int).length := of_decide_eq_true e
        obtain ⟨j, rfl⟩ : ∃ j : Nat, i = (j : Int) := ⟨i.toNat, by omega⟩
        have hj : j < ns.length := by rw [List.length_map] at e'; omega
        refine ⟨.ref a, rfl, .int (j : Int), rfl, a, _, _, .int ns[j], rfl, rfl, hS, atI_nat (j := j) ?_, ns[j], rfl, Same.refl H⟩
        rw [List.getElem?_map, List.getElem?_eq_getElem hj]; rfl
      · refine ⟨.ref a, rfl, 1, rfl, a, _, rfl, hS, fun c nc => ?_⟩
        have s1 : Same H (upd H c (.lst (cutV (ns.map V.int) none (some 1)))) := same_upd nc
        have ec : cutV (ns.map V.int) none (some 1) = (ns.take 1).map V.int := by
          unfold cutV
          rw [show HT.sIx (ns.map V.int).length (ns.map V.int).length (some 1) = min 1 (ns.map V.int).length from HT.sIx_nat _ _ 1, HT.sIx_none]
          rw [List.length_map, List.drop_zero, Nat.sub_zero, List.map_take]
          rw [List.take_eq_take_iff, List.length_map]; omega
        refine ⟨c, ns.take 1, rfl, sql_of (by rw [upd_same, ec]), ?_⟩
        refine ⟨_, _, rfl, rfl, (by show (0 : Int) < 1000003; decide), .int i, rfl, _, _, rfl, rfl, .inl ⟨by decide, by decide⟩, _, _, rfl, rfl, _, _, rfl, rfl, _, rfl, s1⟩
    · rintro σ' H1 ⟨c, rfl, s1⟩
      refine ⟨.int c, rfl, c, rfl, .inl ⟨_, rfl, _, _, rfl, rfl, ⟨by decide, by decide +kernel⟩, _, _, rfl, rfl, ⟨by decide, by decide +kernel⟩, _, _, rfl, rfl, (by show (0 : Int) < ((10 : Int) ^ Int.toNat 60) ^ Int.toNat 5; decide +kernel), ?_⟩⟩
      refine ⟨.int c, rfl, c, rfl, _, _, rfl, rfl, ⟨by decide, by decide +kernel⟩, _, _, rfl, rfl, .inr ⟨_, rfl, _, _, rfl, rfl, .inr ?_, ?_⟩⟩
      · exact b01 _
      have own0 : ∀ (x m : Int) (b : Prop) [Decidable b], m ≠ 0 → 0 ≤ x % m * (if b then 1 else 0) := fun x m b _ hm => Int.mul_nonneg (Int.emod_nonneg _ hm) (by split <;> decide)
      refine ⟨.int c, rfl, .inl ⟨_, rfl, _, _, rfl, rfl, (by show (0 : Int) < 2305843009213693951; decide), ?_⟩⟩
      have e0 := Int.emod_nonneg c (show (2305843009213693951 : Int) ≠ 0 by decide)
      have e1 := Int.emod_lt_of_pos c (show (0 : Int) < 2305843009213693951 by decide)
      refine ⟨_, rfl, .int (c % 2305843009213693951), rfl, _, _, rfl, rfl, .inl ⟨by omega, by omega⟩, .int i, rfl, _, _, rfl, rfl, .inl ⟨by decide, by decide⟩, .int i, rfl, _, _, rfl, rfl, .inr ⟨by omega, by omega⟩,
        _, _, rfl, rfl, _, _, rfl, rfl, .inl ⟨_, rfl, _, _, rfl, rfl, (by show (0 : Int) < 2305843009213693921; decide), by show 3 ≤ sizeLine; decide, fun p hp => ?_⟩⟩
      refine q p _ (s1.trans (same_upd hp)) (s1.free hp) ⟨⟨_, _, _, upd_same, own0 _ _ _ (by decide +kernel), Int.emod_nonneg _ (by decide), ?_, by decide, by decide⟩⟩
      exact Int.lt_of_lt_of_le (Int.emod_lt_of_pos _ (by decide)) (by decide)
theorem ok_take {f : Addr} {fd : FuncData} {k : Nat} (F : Fun K "_law_take" "_law_take" sTake f fd) (B : Blt mg) : FnOk P w K mg base CX0 (k + 1) f fd ["pot", "upto"] spTake := by
  refine F.ok scTake (fun vs H Q E h => ?_) (fun cdv A outer s H vs Q E hr h => ?_)
  · obtain ⟨a, u, N, rfl, _⟩ := h
    rfl
  · obtain ⟨a, u, N, rfl, hP, hN, hu0, hu1, q⟩ := h
    refine ⟨_, pss_cons (ps_if (pt_cmpR op_gt (pe_ix ix_list (pv 0) pe_int (fun _ _ => rfl)) pe_int (nomark _))
        (pss_cons (ps_set (i := 2) scTake.nd rfl (.inl rfl) (pe_op op_mod (pe_callTy call_int1 (by rfl) B.int PyProof.Rows.boot_int (pa_cons (pe_ix ix_list (pv 0) pe_int (fun _ _ => rfl)) pa_nil)) (pv 1)))
        (pss_cons (ps_asg (pe_op op_fdiv (pe_ix ix_list (pv 0) pe_int (fun _ _ => rfl)) (pv 1)) (pg_sub (pv 0) pe_int set_list))
        (pss_one (ps_ret (pv 2))))) pss_nil)
      (pss_cons (ps_asg (pe_op op_add (pe_ix ix_list (pv 0) pe_int (fun _ _ => rfl)) pe_int) (pg_sub (pv 0) pe_int set_list))
      (pss_cons (ps_set (i := 3) scTake.nd rfl (.inl rfl) (pe_ix ix_list (pe_lst (pa_cons pe_int (pa_cons pe_int (pa_cons pe_int (pa_cons pe_int (pa_cons pe_int pa_nil))))))
          (pe_op op_mod (pe_callTy call_int1 (by rfl) B.int PyProof.Rows.boot_int (pa_cons (pe_ix ix_list (pv 0) pe_int (fun _ _ => rfl)) pa_nil)) pe_int) (fun _ _ => rfl)))
      (pss_cons (ps_set (i := 4) scTake.nd rfl (.inl rfl) (pe_op op_mod (pe_callTy call_int1 (by rfl) B.int PyProof.Rows.boot_int (pa_cons (pe_op op_powW (pe_callTy call_int1 (by rfl) B.int PyProof.Rows.boot_int (pa_cons
          (pe_op op_add (pe_op op_add (pe_ix ix_list (pv 0) pe_int (fun _ _ => rfl)) (pe_op op_mul (pe_op op_mul pe_int (pe_ix ix_list (pv 0) pe_int (fun _ _ => rfl))) (pe_ix ix_list (pv 0) pe_int (fun _ _ => rfl)))) pe_int) pa_nil)) pe_int) pa_nil)) (pv 3)))
      (pss_cons (ps_set (i := 4) scTake.nd rfl (.inl rfl) (pe_op op_mod (pe_callTy call_int1 (by rfl) B.int PyProof.Rows.boot_int (pa_cons (pe_op op_mul (pv 4) (pe_op op_add (pe_op op_mod (pe_callTy call_int1 (by rfl) B.int PyProof.Rows.boot_int (pa_cons (pv 4) pa_nil)) pe_int)
          (pe_op op_mul pe_int (pe_ix ix_list (pv 0) pe_int (fun _ _ => rfl))))) pa_nil)) pe_int))
      (pss_one (ps_ret (pe_op op_mod (pe_callTy call_int1 (by rfl) B.int PyProof.Rows.boot_int (pa_cons (pe_op op_fdiv (pv 4) pe_int) pa_nil)) (pv 1)))))))), ?_⟩
    obtain ⟨x, y, z, e, hx, hy, hy1, hz, hz1⟩ := hP.ex
    have hS : SqL K H a [.int x, .int y, .int z] := sql_of e
    refine ⟨.ref a, rfl, a, _, 0, .int x, rfl, rfl, hS, rfl, _, _, rfl, rfl, _, rfl, ite2 (fun c => ?_) (fun c => ?_)⟩
    · have c' : 0 < x := of_decide_eq_true c
      refine ⟨.ref a, rfl, a, _, 0, .int x, rfl, rfl, hS, rfl, .inl ⟨x, rfl, .int u, rfl, _, _, rfl, rfl, hu0, ?_⟩⟩
      refine ⟨.ref a, rfl, a, _, 0, .int x, rfl, rfl, hS, rfl, .int u, rfl, _, _, rfl, rfl, ⟨hu0, by omega⟩, .ref a, rfl, a, _, 0, 0, rfl, rfl, e, rfl, ?_⟩
      refine ⟨.int (x % u), rfl, ?_⟩
      exact q _ _ (Int.emod_nonneg _ (by omega)) (Int.emod_lt_of_pos _ hu0) ((SameX.refl a H).put) ⟨⟨_, y, z, upd_same, Int.ediv_nonneg hx (by omega), hy, hy1, hz, by omega⟩⟩
    · refine ⟨.ref a, rfl, a, _, 2, .int z, rfl, rfl, hS, rfl, _, _, rfl, rfl, .ref a, rfl, a, _, 2, 2, rfl, rfl, e, rfl, ?_⟩
      have e2 : upd H a (.lst ([V.int x, .int y, .int z].set 2 (.int (z + 1)))) a = some (.lst [.int x, .int y, .int (z + 1)]) := upd_same
      generalize hH2 : upd H a (.lst ([V.int x, .int y, .int z].set 2 (.int (z + 1)))) = H2 at e2 ⊢
      have s2 : SameX a H H2 := by rw [← hH2]; exact (SameX.refl a H).put
      refine ⟨by show 5 ≤ sizeLine; decide, fun p hp => ?_⟩
      have s3 : Same H2 (upd H2 p (.lst [.int 2147483647, .int 2147483629, .int 2147483587, .int 2147483579, .int 2147483563])) := same_upd hp
      have hp1 : (upd H2 p (.lst [.int 2147483647, .int 2147483629, .int 2147483587, .int 2147483579, .int 2147483563])) p = some (.lst [.int 2147483647, .int 2147483629, .int 2147483587, .int 2147483579, .int 2147483563]) := upd_same
      have e3 := s3 _ _ e2
      have s4 := s2.trans (.of s3)
      generalize (upd H2 p (.lst [.int 2147483647, .int 2147483629, .int 2147483587, .int 2147483579, .int 2147483563])) = H3 at s3 hp1 e3 s4 ⊢
      have hS3 : SqL K H3 a [.int x, .int y, .int (z + 1)] := sql_of e3
      refine ⟨.ref a, rfl, a, _, 2, .int (z + 1), rfl, rfl, hS3, rfl, .inl ⟨_, rfl, _, _, rfl, rfl, (by show (0 : Int) < 5; decide), ?_⟩⟩
      have m0 := Int.emod_nonneg (z + 1) (show (5 : Int) ≠ 0 by decide)
      have m1 := Int.emod_lt_of_pos (z + 1) (show (0 : Int) < 5 by decide)
      obtain ⟨pr, hpr, hp0, hp2⟩ : ∃ pr : Int, atI [V.int 2147483647, .int 2147483629, .int 2147483587, .int 2147483579, .int 2147483563] ((z + 1) % 5) = some (.int pr) ∧ 0 < pr ∧ pr < 2 ^ 31 := by
        generalize (z + 1) % 5 = m at m0 m1
        obtain h | h | h | h | h : m = 0 ∨ m = 1 ∨ m = 2 ∨ m = 3 ∨ m = 4 := by omega
        all_goals (subst h; exact ⟨_, rfl, by decide, by decide⟩)
      refine ⟨p, _, _, .int pr, rfl, rfl, sql_of hp1, hpr, ?_⟩
      -- blend
      refine ⟨.ref a, rfl, a, _, 1, .int y, rfl, rfl, hS3, rfl, .ref a, rfl, a, _, 2, .int (z + 1), rfl, rfl, hS3, rfl, _, _, rfl, rfl, .inl ⟨by decide, by decide⟩,
        .ref a, rfl, a, _, 2, .int (z + 1), rfl, rfl, hS3, rfl, _, _, rfl, rfl, .inr ⟨by omega, by omega⟩, _, _, rfl, rfl, _, _, rfl, rfl, .inl ⟨_, rfl, _, _, rfl, rfl, ⟨by decide, ?_⟩, .inl ⟨_, rfl, .int pr, rfl, _, _, rfl, rfl, hp0, ?_⟩⟩⟩
      · have w0 : 0 ≤ (z + 1) * (z + 1) := Int.mul_nonneg (by omega) (by omega)
        have w1 : (z + 1) * (z + 1) ≤ 1073741824 * 1073741824 := Int.mul_le_mul (by omega) (by omega) (by omega) (by omega)
        have hb : Builtin.Int.intBits (y + 98297 * (z + 1) * (z + 1) + 443) ≤ 100 := by
          refine bits_nat ?_
          rw [Int.mul_assoc]
          generalize (z + 1) * (z + 1) = ww at w0 w1
          omega
        omega
      generalize ((y + 98297 * (z + 1) * (z + 1) + 443) ^ Int.toNat 3) = big
      have b0 := Int.emod_nonneg big (show pr ≠ 0 by omega)
      have b1 := Int.emod_lt_of_pos big hp0
      refine ⟨.int (big % pr), rfl, .int (big % pr), rfl, .inl ⟨_, rfl, _, _, rfl, rfl, (by show (0 : Int) < 10061; decide), .ref a, rfl, a, _, 2, .int (z + 1), rfl, rfl, hS3, rfl, _, _, rfl, rfl, .inl ⟨by decide, by decide⟩, _, _, rfl, rfl,
        _, _, rfl, rfl, .inl ⟨by omega, by omega⟩, .inl ⟨_, rfl, _, _, rfl, rfl, (by show (0 : Int) < 2305843009213693907; decide), ?_⟩⟩⟩
      refine ⟨_, rfl, _, _, rfl, rfl, ⟨by decide, by decide⟩, .inl ⟨_, rfl, .int u, rfl, _, _, rfl, rfl, hu0, ?_⟩⟩
      exact q _ _ (Int.emod_nonneg _ (by omega)) (Int.emod_lt_of_pos _ hu0) s4 ⟨⟨x, y, z + 1, e3, hx, hy, hy1, by omega, by omega⟩⟩
theorem ok_of {f fT : Addr} {fd fdT : FuncData} {k : Nat} (F : Fun K "_law_of" "_law_of" sOf f fd) (B : Blt mg) (GT : FnOk P w K mg base CX0 k fT fdT ["pot", "upto"] spTake) (gT : mg "_law_take" = some (.ref fT)) (kT : PySem.W.keepIn K (.ref fT) = true) (bT : Binds K fdT ["pot", "upto"] []) :
    FnOk P w K mg base CX0 (k + 1) f fd ["pot", "some"] (spOf K) := by
  refine F.ok scOf (fun vs H Q E h => ?_) (fun cdv A outer s H vs Q E hr h => ?_)
  · obtain ⟨a, b, xs, N, rfl, _⟩ := h
    rfl
  · obtain ⟨a, b, xs, N, rfl, hP, hN, hS, hab, h0, h1, q⟩ := h
    refine ⟨_, pss_one (ps_ret (pe_ix ix_list (pv 1) (pe_call GT hr (by rfl) gT kT bT .nil pass0 (pa_cons (pv 0) (pa_cons (pe_callB call_len_seq (by rfl) B.len PySem.boot_len (pa_cons (pv 1) pa_nil)) pa_nil))) (fun _ _ => rfl))), ?_⟩
    refine ⟨.ref b, rfl, .ref a, rfl, .ref b, rfl, b, xs, rfl, .inl hS, a, (xs.length : Int), N, rfl, hP, hN, by omega, by omega, fun r H' r0 r1 sx hP' => ?_⟩
    have hj : r.toNat < xs.length := by omega
    have hS' : SqL K H' b xs := by
      rcases hS with (h | ⟨o, h⟩) | h
      · exact .inl (.inl (sx _ _ (Ne.symm hab) h))
      · exact .inl (.inr ⟨o, sx _ _ (Ne.symm hab) h⟩)
      · exact .inr h
    refine ⟨b, xs, r, xs[r.toNat], rfl, rfl, hS', ?_, q r.toNat _ H' (List.getElem?_eq_getElem hj) sx hP'⟩
    exact at_of (j := r.toNat) (by omega) (List.getElem?_eq_getElem hj)
theorem ok_cells {f : Addr} {fd : FuncData} {k : Nat} (F : Fun K "_law_cells" "_law_cells" sCells f fd) (B : Blt mg) : FnOk P w K mg base CX0 (k + 1) f fd ["script", "most"] (spCells K) := by
  refine F.ok scCells (fun vs H Q E h => ?_) (fun cdv A outer s H vs Q E hr h => ?_)
  · obtain ⟨a, xs, m, rfl, _⟩ := h
    rfl
  · obtain ⟨a, xs, m, rfl, hS, hl, h0, h1, q⟩ := h
    refine ⟨_, pss_one (ps_ret (pe_listRg rfl (by rfl) B.list (prg_1 (by rfl) B.range (pe_callB (call_max2 rfl) (by rfl) B.max PyProof.Rows.boot_max (pa_cons pe_int (pa_cons
      (pe_callB (call_min2 rfl) (by rfl) B.min PyProof.Rows.boot_min (pa_cons (pv 1) (pa_cons (pe_callB call_len_seq (by rfl) B.len PySem.boot_len (pa_cons (pv 0) pa_nil)) pa_nil))) pa_nil)))))), ?_⟩
    refine ⟨.int m, rfl, .ref a, rfl, a, xs, rfl, .inl hS, _, _, rfl, _, _, rfl, _, rfl, ?_⟩
    have key : ∀ v : Int, 0 < v → v ≤ m → v ≤ 1000 → RgOk 0 v ∧ ∀ p, H p = none → Q (.ref p) (upd H p (.lst (rgV 0 v))) := fun v v0 v1 v2 => ⟨.of_le (by omega) (by omega) (by omega) (by omega), fun p hp => by
      refine q v.toNat p _ (by omega) (by omega) (same_upd hp) hp ?_
      rw [upd_same]
      unfold rgV
      rw [Int.sub_zero]
      refine congrArg (fun l => some (HO.lst l)) (List.map_congr_left fun i _ => ?_)
      rw [Int.zero_add]⟩
    refine key _ ?_ ?_ ?_
    all_goals (repeat' split) <;> omega
end
end Hw

set_option Elab.async false
set_option linter.all false
set_option maxRecDepth 100000
set_option maxHeartbeats 4000000
namespace Hw
open PySem L2 PyProof.Rows
abbrev sNames : Stmt := topS 48
theorem valV_seen {ns : List Str} (w : Str) : valV (ns.map fun z => ((Sum.inr z : Key), V.bl true)) (Sum.inr w) = if w ∈ ns then some (V.bl true) else none := by
  induction ns with
  | nil => exact valV_nil
  | cons z ns ih =>
    rw [List.map_cons]
    by_cases h : z = w
    · subst h
      rw [valV_pos rfl, if_pos List.mem_cons_self]
    · rw [valV_neg (fun e => h (Sum.inr.inj e)), ih]
      by_cases hm : w ∈ ns
      · rw [if_pos hm, if_pos (List.mem_cons_of_mem _ hm)]
      · rw [if_neg hm, if_neg (fun e => by rcases List.mem_cons.mp e with rfl | e; exact h rfl; exact hm e)]
theorem rs_while {c : TT} {tb u : TS} {D : Ends} {σ : L2.St} {H : Hp} (Pv : L2.St → Hp → Prop) (μ : L2.St → Hp → Nat) (h0 : Pv σ H)
    (hs : ∀ σ H, Pv σ H → ∃ b : Bool, (∀ Q : Bool → Hp → Prop, Q b H → c σ H Q) ∧ (b = true → tb { D with nx := fun σ' H' => Pv σ' H' ∧ μ σ' H' < μ σ H, ct := fun σ' H' => Pv σ' H' ∧ μ σ' H' < μ σ H, bk := u D } σ H) ∧ (b = false → u D σ H)) :
    tSeq (tWhile c tb) u D σ H := by
  refine ⟨fun m σ H => m = μ σ H ∧ Pv σ H, ⟨_, rfl, h0⟩, ?_⟩
  rintro m σ H ⟨rfl, p⟩
  obtain ⟨b, hc, h1, h2⟩ := hs σ H p
  refine hc _ ?_
  cases b with
  | true => exact ⟨_, fun σ' H' ⟨p', l⟩ => ⟨_, l, rfl, p'⟩, h1 rfl⟩
  | false => exact h2 rfl
def at7 (σ : L2.St) : Nat := match σ[7]? with
  | some (some (V.int k)) => (400 - k).toNat
  | _ => 0
theorem cut2 (w : Str) : cutS w (some 2) none = SL (w.cps.toList.drop 2) := by
  unfold cutS SL
  rw [show HT.sIx w.length 0 (some 2) = min 2 w.length from HT.sIx_nat w.length 0 2, HT.sIx_none]
  refine congrArg (fun l : List Nat => (⟨l.toArray⟩ : Str)) ?_
  rw [len_cps]
  have e : w.cps.toList.drop (min 2 w.cps.toList.length) = w.cps.toList.drop 2 := by
    by_cases h : 2 ≤ w.cps.toList.length
    · rw [Nat.min_eq_left h]
    · rw [Nat.min_eq_right (by omega), List.drop_of_length_le (Nat.le_refl _), List.drop_of_length_le (by omega)]
  rw [e]
  refine List.take_of_length_le ?_
  rw [List.length_drop]; omega
theorem cand_succ (w : Str) (k : Nat) : (SL [97 + k / 26] ++ SL [97 + k % 26]) ++ cutS (cand w k) (some 2) none = cand w (k + 1) := by
  refine str_ext ?_
  rw [app_cps, app_cps, cut2, cand_drop]; rfl
def wordsD : List V := [.str "places", .str "tie", .str "come", .str "die", .str "ring", .str "all", .str "least"]
theorem words_nm : ∀ v ∈ wordsD, ∃ z, v = V.str z ∧ Nm z := by
  intro v hv
  simp only [wordsD, List.mem_cons, List.not_mem_nil, or_false] at hv
  rcases hv with rfl | rfl | rfl | rfl | rfl | rfl | rfl <;> exact ⟨_, rfl, by decide +kernel⟩
def fewD : List V := [.int 0, .int 1, .int 1, .int 2, .int 7]
theorem few_int : ∀ v ∈ fewD, ∃ x : Nat, v = V.int (x : Int) ∧ x ≤ 7 := by
  intro v hv
  simp only [fewD, List.mem_cons, List.not_mem_nil, or_false] at hv
  rcases hv with rfl | rfl | rfl | rfl | rfl
  · exact ⟨0, rfl, by decide⟩
  · exact ⟨1, rfl, by decide⟩
  · exact ⟨1, rfl, by decide⟩
  · exact ⟨2, rfl, by decide⟩
  · exact ⟨7, rfl, by decide⟩
/-- one of the signs of a text, or of the items of a list -/
def spOfS : Sp := fun vs H Q _ => ∃ (a : Addr) (z : Str) (N : Nat), vs = [.ref a, .str z] ∧ Pot H a N ∧ N < 1000000000 ∧ 0 < z.length ∧ z.length < 1000 ∧ ∀ c H', c ∈ z.cps.toList → SameX a H H' → Pot H' a (N + 1) → Q (.str (SL [c])) H'
def spOf2 (K : PySem.W.Frag) : Sp := fun vs H Q E => spOf K vs H Q E ∨ spOfS vs H Q E
/-- many unlike names -/
def spNames : Sp := fun vs H Q _ => ∃ (a : Addr) (m N : Nat), vs = [.ref a, .int m] ∧ Pot H a N ∧ N + 11 * m < 900000000 ∧ m ≤ 300 ∧
  ∀ p (ns : List Str) H', ns.length = m → ns.Nodup → (∀ z ∈ ns, Nm z) → SameX a H H' → H p = none → H' p = some (.lst (ns.map V.str)) → Pot H' a (N + 11 * m) → Q (.ref p) H'
section
variable {P : Program} {w : World} {K : PySem.W.Frag} {mg : Str → Option Value} {base : Heap}
theorem ok_of2 {f fT : Addr} {fd fdT : FuncData} {k : Nat} (F : Fun K "_law_of" "_law_of" sOf f fd) (B : Blt mg) (GT : FnOk P w K mg base CX0 k fT fdT ["pot", "upto"] spTake) (gT : mg "_law_take" = some (.ref fT)) (kT : PySem.W.keepIn K (.ref fT) = true) (bT : Binds K fdT ["pot", "upto"] []) :
    FnOk P w K mg base CX0 (k + 1) f fd ["pot", "some"] (spOf2 K) := by
  refine F.ok scOf (fun vs H Q E h => ?_) (fun cdv A outer s H vs Q E hr h => ?_)
  · rcases h with h | h
    · obtain ⟨a, b, xs, N, rfl, _⟩ := h
      rfl
    · obtain ⟨a, z, N, rfl, _⟩ := h
      rfl
  · refine ⟨_, pss_one (ps_ret (pe_ix (ix_list.or ix_str) (pv 1) (pe_call GT hr (by rfl) gT kT bT .nil pass0 (pa_cons (pv 0) (pa_cons (pe_callB (call_len_seq.or call_len_str) (by rfl) B.len PySem.boot_len (pa_cons (pv 1) pa_nil)) pa_nil))) (fun _ _ => rfl))), ?_⟩
    rcases h with ⟨a, b, xs, N, rfl, hP, hN, hS, hab, h0, h1, q⟩ | ⟨a, z, N, rfl, hP, hN, h0, h1, q⟩
    · refine ⟨.ref b, rfl, .ref a, rfl, .ref b, rfl, .inl ⟨b, xs, rfl, .inl hS, a, (xs.length : Int), N, rfl, hP, hN, by omega, by omega, fun r H' r0 r1 sx hP' => ?_⟩⟩
      have hj : r.toNat < xs.length := by omega
      have hS' : SqL K H' b xs := by
        rcases hS with (h | ⟨o, h⟩) | h
        · exact .inl (.inl (sx _ _ (Ne.symm hab) h))
        · exact .inl (.inr ⟨o, sx _ _ (Ne.symm hab) h⟩)
        · exact .inr h
      refine .inl ⟨b, xs, r, xs[r.toNat], rfl, rfl, hS', ?_, q r.toNat _ H' (List.getElem?_eq_getElem hj) sx hP'⟩
      exact at_of (j := r.toNat) (by omega) (List.getElem?_eq_getElem hj)
    · refine ⟨.str z, rfl, .ref a, rfl, .str z, rfl, .inr ⟨z, rfl, Nat.le_of_lt (small1000 (by omega)), a, (z.length : Int), N, rfl, hP, hN, by omega, by omega, fun r H' r0 r1 sx hP' => ?_⟩⟩
      have hj : r.toNat < z.cps.toList.length := by rw [← len_cps]; omega
      refine .inr ⟨z, r, z.cps.toList[r.toNat], rfl, rfl, Nat.le_of_lt (small1000 (by omega)), ?_, q _ H' (List.getElem_mem hj) sx hP'⟩
      have hh := atI_nat (List.getElem?_eq_getElem hj)
      rw [Int.toNat_of_nonneg r0] at hh
      exact hh
theorem lc_range {g : TG} {tt : TT} {te : TE} {vs : List Nat} {σ : L2.St} {H1 : Hp} {D : Addr} {Qd : Hp → Prop} (n : Nat) (Pv : Nat → Hp → Prop) (h0 : Pv 0 (upd H1 D (.lst [])))
    (hs : ∀ i H, i < n → Pv i H → g (.int (0 + (i : Int))) (wipe σ vs) H fun σ2 H2 => wipe σ2 vs = wipe σ vs ∧ tt σ2 H2 fun b H3 => if b = true then te σ2 H3 fun y H4 => ∃ acc, H4 D = some (.lst acc) ∧ acc.length < sizeLine ∧ Pv (i + 1) (upd H4 D (.lst (acc ++ [y]))) else Pv (i + 1) H3)
    (hd : ∀ H, Pv n H → Qd H) : ∃ W : Nat → Nat → Hp → Prop, (∃ m, W 0 m (upd H1 D (.lst []))) ∧ ∀ i m H, W i m H →
      ((Itr 0 n).stop i H ∧ Qd H) ∨ ((Itr 0 n).go i H ∧ ∃ Nx : Hp → Prop, (∀ H', Nx H' → ∃ m', m' < m ∧ W (i + 1) m' H') ∧ ∀ x H', (Itr 0 n).yld i H x H' → g x (wipe σ vs) H' fun σ2 H2 => wipe σ2 vs = wipe σ vs ∧ tt σ2 H2 fun b H3 =>
        if b = true then te σ2 H3 fun y H4 => ∃ acc, H4 D = some (.lst acc) ∧ acc.length < sizeLine ∧ Nx (upd H4 D (.lst (acc ++ [y]))) else Nx H3) :=
  lc_it (walk_range (lo := 0) (n := n)) Pv h0 (fun _ _ _ _ => trivial) (fun i x H H' hi hp ⟨e1, e2⟩ => by subst e1 e2; exact hs i _ hi hp) hd
def nN : List Str := ["pot", "many", "signs", "found", "known", "lap", "word", "at", "sign"]
theorem scNames : FnScope ["pot", "many", "signs", "found", "known", "lap", "word", "at", "sign"] ["pot", "many"] (defScope sNames) := ⟨rfl, rfl, rfl, by decide +kernel, rfl, by decide +kernel, by decide +kernel⟩
theorem ok_names {f fT fO : Addr} {fd fdT fdO : FuncData} {k : Nat} (F : Fun K "_law_names" "_law_names" sNames f fd) (B : Blt mg) (GT : FnOk P w K mg base CX0 k fT fdT ["pot", "upto"] spTake) (gT : mg "_law_take" = some (.ref fT)) (kT : PySem.W.keepIn K (.ref fT) = true) (bT : Binds K fdT ["pot", "upto"] [])
    (GO : FnOk P w K mg base CX0 k fO fdO ["pot", "some"] (spOf2 K)) (gO : mg "_law_of" = some (.ref fO)) (kO : PySem.W.keepIn K (.ref fO) = true) (bO : Binds K fdO ["pot", "some"] []) :
    FnOk P w K mg base CX0 (k + 1) f fd ["pot", "many"] spNames := by
  refine F.ok scNames (fun vs H Q E h => ?_) (fun cdv A outer s H vs Q E hr h => ?_)
  · obtain ⟨a, m, N, rfl, _⟩ := h
    rfl
  · obtain ⟨a, m, N, rfl, hP, hN, hm, q⟩ := h
    have hu := hu_of hr
    refine ⟨_, pss_cons (ps_asg (pe_tup (pa_cons pe_str (pa_cons (pe_lst pa_nil) (pa_cons pe_dnewK pa_nil)))) (pg_tup rfl (pgs_cons (pg_name (i := 2) scNames.nd rfl (.inr rfl)) (pgs_cons (pg_name (i := 3) scNames.nd rfl (.inl rfl)) (pgs_cons (pg_name (i := 4) scNames.nd rfl (.inl rfl)) pgs_nil)))))
      (pss_cons (ps_for PassesOwn.never rfl (pi_range1 (by rfl) B.range (pa_cons (pv 1) pa_nil)) (pg_name (i := 5) scNames.nd rfl (.inl rfl))
        (pss_cons (ps_set (i := 6) scNames.nd rfl (.inl rfl) (pe_join pe_str (pe_lc (own := [("sign", 8)]) (g := gName 8) (tt := tYes) rfl scNames.nd
            (pi_range1 (by rfl) B.range (pa_cons (pe_op op_add pe_int (pe_call GO hr (by rfl) gO kO bO .nil pass0 (pa_cons (pv 0) (pa_cons (pe_lst (pa_cons pe_int (pa_cons pe_int (pa_cons pe_int (pa_cons pe_int (pa_cons pe_int pa_nil)))))) pa_nil)))) pa_nil))
            (blkOk_by (N := ["pot", "many", "signs", "found", "known", "lap", "word", "at", "sign"]) (sc := defScope sNames) (by decide +kernel)) (fun _ _ _ _ _ => pg_name (i := 8) scNames.nd rfl (Or.inl rfl)) (fun _ _ _ _ _ => pts_nil)
            (fun _ _ _ _ _ => pe_call GO hr (by rfl) gO kO bO .nil pass0 (pa_cons (pv 0) (pa_cons (pv 2) pa_nil))))))
        (Evl.pss_cut (ps_if (pt_cmpR op_eq (pe_call GT hr (by rfl) gT kT bT .nil pass0 (pa_cons (pv 0) (pa_cons pe_int pa_nil))) pe_int (nomark _))
            (pss_one (ps_set (i := 6) scNames.nd rfl (.inl rfl) (pe_call GO hr (by rfl) gO kO bO .nil pass0 (pa_cons (pv 0) (pa_cons (pe_lst (pa_cons pe_str (pa_cons pe_str (pa_cons pe_str (pa_cons pe_str (pa_cons pe_str (pa_cons pe_str (pa_cons pe_str pa_nil)))))))) pa_nil))))) pss_nil)
        (pss_cons (ps_set (i := 7) scNames.nd rfl (.inl rfl) pe_int)
        (pss_cons (ps_while PassesOwn.never (pt_cmp (pc_din hu (pv 6) (pv 4)))
            (pss_one (ps_par (i := 6) (j := 7) rfl scNames.nd rfl rfl (by decide) rfl rfl (pa_cons (pe_op op_add_str (pe_op op_add_str (pe_ix ix_str (pv 2) (pe_op op_fdiv (pv 7) pe_int) (fun _ _ => rfl)) (pe_ix ix_str (pv 2) (pe_op op_mod (pv 7) pe_int) (fun _ _ => rfl))) (pe_slice sl_str (pv 6) (po_some pe_int) po_none))
              (pa_cons (pe_op op_add (pv 7) pe_int) pa_nil)) rfl)))
        (pss_cons (ps_dput hu (pv 4) (pv 6) pe_bl rfl)
        (pss_one (ps_expr (pe_bm PySem.F.plainAttrs_list PySem.F.slot_list_append PySem.F.type_list_append mt_append (pv 3) (pa_cons (pv 6) pa_nil))))))))))
      (pss_one (ps_ret (pv 3)))), ?_⟩
    have hPn := hP.some
    refine ⟨Nat.zero_le _, fun fo nfo d nd => ⟨by show 3 ≤ sizeLine; decide, fun tp ntp => ?_⟩⟩
    have nfd : fo ≠ d := ne_of_none upd_same nd
    have e1 : (upd (upd (upd H fo (.lst [])) d (.dK [])) tp (.tup [.str (Str.ofString "abcdefghijklmnopqrstuvwxyz"), .ref fo, .ref d])) fo = some (.lst []) := by
      rw [upd_ne (ne_of_none (by rw [upd_ne nfd, upd_same]) ntp), upd_ne nfd, upd_same]
    have e2 : (upd (upd (upd H fo (.lst [])) d (.dK [])) tp (.tup [.str (Str.ofString "abcdefghijklmnopqrstuvwxyz"), .ref fo, .ref d])) d = some (.dK []) := by
      rw [upd_ne (ne_of_none upd_same ntp), upd_same]
    have s1 : Same H (upd (upd (upd H fo (.lst [])) d (.dK [])) tp (.tup [.str (Str.ofString "abcdefghijklmnopqrstuvwxyz"), .ref fo, .ref d])) := ((same_upd nfo).trans (same_upd nd)).trans (same_upd ntp)
    refine ⟨tp, [.str alpha, .ref fo, .ref d], rfl, sqt_of upd_same, rfl, _, [.ref fo, .ref d], rfl, _, [.ref d], rfl, _, [], rfl, rfl, ?_⟩
    generalize (upd (upd (upd H fo (.lst [])) d (.dK [])) tp (.tup [.str (Str.ofString "abcdefghijklmnopqrstuvwxyz"), .ref fo, .ref d])) = H1 at e1 e2 s1
    have nd0 : H d = none := (same_upd nfo).free nd
    -- the laps
    refine ⟨.int m, rfl, m, rfl, by omega, by omega, for_range (n := (m : Int).toNat) (fun i σ' H' => ∃ o5 o6 o7 o8 ns, σ' = [some (.ref a), some (.int m), some (.str alpha), some (.ref fo), some (.ref d), o5, o6, o7, o8] ∧ SameX a H H' ∧ Pot H' a (N + 11 * i) ∧
      H' fo = some (.lst (ns.map V.str)) ∧ H' d = some (.dK (ns.map fun z => ((Sum.inr z : Key), V.bl true))) ∧ ns.length = i ∧ ns.Nodup ∧ ∀ z ∈ ns, Nm z)
      ⟨_, _, _, _, [], rfl, .of s1, hP.same s1, e1, e2, rfl, List.nodup_nil, fun _ z => nomatch z⟩ ?_ ?_⟩
    · rintro i σ1 H2 hi ⟨o5, o6, o7, o8, ns, rfl, sx, hp, hfo, hd, hl, hnd, hnm⟩
      refine r_gname ?_
      have hdn : d ≠ fo := Ne.symm nfd
      have hda : d ≠ a := fun e => hPn (e ▸ nd0)
      have hfa : fo ≠ a := fun e => hPn (e ▸ nfo)
      have hi' : i < m := by omega
      -- ''.join([..])
      refine rs_set ⟨⟨_, rfl⟩, .ref a, rfl, by show 5 ≤ sizeLine; decide, fun l nl => .inl ⟨a, l, fewD, N + 11 * i, rfl, hp.same (same_upd nl), by omega, sql_of upd_same, fun e => hp.some (e ▸ nl), by decide, by decide, fun ix v H3 hv s3 hp3 => ?_⟩⟩
      obtain ⟨x, rfl, hx⟩ := few_int v (List.mem_of_getElem? hv)
      have sx3 : SameX a H2 H3 := (SameX.of (same_upd nl)).trans s3
      refine ⟨_, _, rfl, rfl, _, rfl, by omega, by omega, fun D hD => ?_⟩
      refine Hw.lc_range (1 + (x : Int)).toNat (fun j H' => ∃ cs : List Nat, cs.length = j ∧ (∀ c ∈ cs, 97 ≤ c ∧ c ≤ 122) ∧ H' D = some (.lst (cs.map fun c => V.str (SL [c]))) ∧ SameX a H3 H' ∧ Pot H' a (N + 11 * i + 1 + j))
        ⟨[], rfl, fun _ z => (by cases z), upd_same, .of (same_upd hD), hp3.same (same_upd hD)⟩ ?_ ?_
      · rintro j H4 hj ⟨cs, rfl, hcs, eD, sx4, hp4⟩
        refine ⟨rfl, r_yes ?_⟩
        refine ⟨.ref a, rfl, .str alpha, rfl, .inr ⟨a, alpha, _, rfl, hp4, by omega, by decide +kernel, by decide +kernel, fun c H5 hc s5 hp5 => ?_⟩⟩
        have hDa : D ≠ a := fun e => hp3.some (e ▸ hD)
        refine ⟨_, s5 _ _ hDa eD, small1000 (by rw [List.length_map]; omega), cs ++ [c], by rw [List.length_append]; rfl, fun z hz => ?_, ?_, fun b o hb e => ?_, ?_⟩
        · rcases List.mem_append.mp hz with hz | hz
          · exact hcs z hz
          · rw [List.mem_singleton.mp hz]; exact alpha_mem c hc
        · rw [upd_same, List.map_append]; rfl
        · rw [upd_ne (ne_of_none e hD)]; exact s5 _ _ hb (sx4 _ _ hb e)
        · obtain ⟨xx, yy, zz, e, hh⟩ := hp5.ex
          exact ⟨xx, yy, zz, by rw [upd_ne (Ne.symm hDa)]; exact e, hh⟩
      rintro H4 ⟨cs, hcl, hcs, eD, sx4, hp4⟩
      have hw0 : Nm (Txt.join (Str.ofString "") (cs.map fun c => SL [c])) := by
        have e := ones_join cs
        have l : (Txt.join (Str.ofString "") (cs.map fun c => SL [c])).length = cs.length := by rw [len_cps, e]
        exact ⟨by omega, by omega, by rw [e]; exact hcs⟩
      refine ⟨Str.ofString "", D, cs.map fun c => SL [c], rfl, rfl, .inl (sql_of (by rw [eD, List.map_map]; rfl)), ?_, ?_⟩
      · have e : ((cs.map fun c => SL [c]).map (·.length)).sum = cs.length := by
          rw [List.map_map]
          clear hcl hcs eD hw0
          induction cs with
          | nil => rfl
          | cons c cs ih => rw [List.map_cons, List.sum_cons, ih, List.length_cons]; show 1 + cs.length = cs.length + 1; omega
        rw [e, List.length_map]
        show cs.length + cs.length * 0 ≤ 16777216
        omega
      generalize (Txt.join (Str.ofString "") (cs.map fun c => SL [c])) = w0 at hw0
      have sx24 : SameX a H2 H4 := sx3.trans sx4
      -- if _law_take(pot, 17) == 0
      refine ⟨fun σ' H' => ∃ w o7 o8, Nm w ∧ σ' = [some (.ref a), some (.int m), some (.str alpha), some (.ref fo), some (.ref d), some (.int (0 + (i : Int))), some (.str w), o7, o8] ∧ SameX a H2 H' ∧ Pot H' a (N + 11 * (i + 1)), ?_, ?_⟩
      · refine ⟨.ref a, rfl, a, 17, _, rfl, hp4, by omega, by decide, by decide, fun r H5 r0 r1 s5 hp5 => ⟨rfl, _, rfl, ite2 (fun _ => ?_) (fun _ => ?_)⟩⟩
        · refine ⟨.ref a, rfl, by show 7 ≤ sizeLine; decide, fun l2 nl2 => .inl ⟨a, l2, wordsD, _, rfl, hp5.same (same_upd nl2), by omega, sql_of upd_same, fun e => hp5.some (e ▸ nl2), by decide, by decide, fun ix2 v2 H6 hv2 s6 hp6 => ?_⟩⟩
          obtain ⟨z, rfl, hz⟩ := words_nm v2 (List.mem_of_getElem? hv2)
          exact ⟨z, _, _, hz, rfl, (sx24.trans s5).trans ((SameX.of (same_upd nl2)).trans s6), hp6.mono (by omega)⟩
        · exact ⟨w0, _, _, hw0, rfl, sx24.trans s5, hp5.mono (by omega)⟩
      rintro σ5 H5 ⟨w, o7', o8', hw, rfl, sx5, hp5⟩
      have hfo5 := sx5 _ _ hfa hfo
      have hd5 := sx5 _ _ hda hd
      -- at = 0; while word in known
      refine rs_set ?_
      refine rs_while (fun σ' H' => H' = H5 ∧ ∃ kk : Nat, σ' = [some (.ref a), some (.int m), some (.str alpha), some (.ref fo), some (.ref d), some (.int (0 + (i : Int))), some (.str (cand w kk)), some (.int kk), o8'] ∧ ∀ j, j < kk → cand w j ∈ ns)
        (fun σ' _ => at7 σ') ⟨rfl, 0, rfl, fun _ z => absurd z (Nat.not_lt_zero _)⟩ ?_
      rintro σ6 H6 ⟨rfl, kk, rfl, hkk⟩
      have hfew := cand_few hkk
      refine ⟨(valV (ns.map fun z => ((Sum.inr z : Key), V.bl true)) (Sum.inr (cand w kk))).isSome, fun Q1 q1 => ⟨_, rfl, _, rfl, d, _, rfl, DGet.k (k := Sum.inr (cand w kk)) hd5, _, rfl, q1⟩, fun hin => ?_, fun hout => ?_⟩
      · have hmem : cand w kk ∈ ns := by
          by_cases h : cand w kk ∈ ns
          · exact h
          · rw [valV_seen, if_neg h] at hin; cases hin
        have a1 := alpha_at (kk / 26) (by omega)
        have a2 := alpha_at (kk % 26) (by omega)
        have lw := (cand_nm hw (k := kk) (by omega)).2.1
        refine ⟨_, rfl, _, rfl, _, _, rfl, rfl, ⟨by decide, by decide⟩, alpha, _, 97 + kk / 26, rfl, rfl, by decide +kernel, ?_, _, rfl, _, rfl, _, _, rfl, rfl, (by show (0 : Int) < 26; decide), alpha, _, 97 + kk % 26, rfl, rfl, by decide +kernel, ?_, _, _, rfl, rfl, (by show 1 + 1 ≤ sizeLine; decide), ?_⟩
        · have e : ((kk : Int) / 26) = ((kk / 26 : Nat) : Int) := by omega
          rw [e]; exact atI_nat a1
        · have e : ((kk : Int) % 26) = ((kk % 26 : Nat) : Int) := by omega
          rw [e]; exact atI_nat a2
        refine ⟨_, rfl, 2, rfl, cand w kk, rfl, Nat.le_of_lt (small1000 (by omega)), _, _, rfl, rfl, ?_, ?_⟩
        · rw [app_len, cut2, SL_len, List.length_drop, ← len_cps]
          refine Nat.le_of_lt (small1000 ?_)
          show 1 + 1 + _ ≤ 1000
          omega
        · refine ⟨_, rfl, _, _, rfl, rfl, _, _, rfl, ⟨rfl, kk + 1, ?_, ?_⟩, ?_⟩
          · rw [← cand_succ]; rfl
          · intro j hj
            by_cases e : j = kk
            · rw [e]; exact hmem
            · exact hkk j (by omega)
          · show (400 - ((kk : Int) + 1)).toNat < (400 - (kk : Int)).toNat
            omega
      · have hno : cand w kk ∉ ns := fun h => by
          rw [valV_seen, if_pos h] at hout; cases hout
        have hlen : (ns.map fun z => ((Sum.inr z : Key), V.bl true)).length < sizeLine := small1000 (by rw [List.length_map]; omega)
        -- known[word] = True; found.append(word)
        refine ⟨.ref d, rfl, _, rfl, d, _, rfl, DPut.k (k := Sum.inr (cand w kk)) hd5 hlen, ?_⟩
        have hv : valV (ns.map fun z => ((Sum.inr z : Key), V.bl true)) (Sum.inr (cand w kk)) = none := by rw [valV_seen, if_neg hno]
        have efo : (upd H6 d (.dK (putK (ns.map fun z => ((Sum.inr z : Key), V.bl true)) (Sum.inr (cand w kk)) (V.bl true)))) fo = some (.lst (ns.map V.str)) := by rw [upd_ne (Ne.symm hdn)]; exact hfo5
        refine ⟨.ref fo, rfl, .inl ⟨rfl, _, sql_of efo⟩, _, rfl, fo, _, _, rfl, rfl, efo, small1000 (by rw [List.length_map]; omega), ?_⟩
        refine ⟨_, _, _, _, ns ++ [cand w kk], rfl, fun b o hb e => ?_, ?_, ?_, ?_, ?_, ?_, ?_⟩
        · have n1 : b ≠ fo := ne_of_none e nfo
          have n2 : b ≠ d := ne_of_none e nd0
          rw [upd_ne n1, upd_ne n2]
          exact sx5 _ _ hb (sx _ _ hb e)
        · obtain ⟨xx, yy, zz, e, hh⟩ := hp5.ex
          exact ⟨xx, yy, zz, by rw [upd_ne (Ne.symm hfa), upd_ne (Ne.symm hda)]; exact e, hh⟩
        · rw [upd_same, List.map_append]; rfl
        · rw [upd_ne hdn, upd_same, putK_new _ hv, List.map_append]; rfl
        · rw [List.length_append, hl]; rfl
        · rw [List.nodup_append]
          exact ⟨hnd, by simp, fun x hx y hy e => hno (by rw [List.mem_singleton.mp hy] at e; exact e ▸ hx)⟩
        · intro z hz
          rcases List.mem_append.mp hz with hz | hz
          · exact hnm z hz
          · rw [List.mem_singleton.mp hz]; exact cand_nm hw (by omega)
    · rintro σ1 H2 ⟨o5, o6, o7, o8, ns, rfl, sx, hp, hfo, hd, hl, hnd, hnm⟩
      have em : (m : Int).toNat = m := Int.toNat_natCast m
      rw [em] at hp hl
      exact ⟨_, rfl, q fo ns H2 hl hnd hnm sx nfo hfo hp⟩
end
end Hw

set_option Elab.async false
set_option linter.all false
set_option maxRecDepth 100000
set_option maxHeartbeats 4000000
namespace Hw
open PySem L2 PyProof.Rows
abbrev sTie : Stmt := topS 49
def tieOf (a b : Str) : Tie := (if strLt b a = true then b else a, if strLt a b = true then b else a)
def spTie : Sp := fun vs H Q _ => ∃ a b : Str, vs = [.str a, .str b] ∧ ∀ p, H p = none → Q (.ref p) (upd H p (.tup [.str (tieOf a b).1, .str (tieOf a b).2]))
section
variable {P : Program} {w : World} {K : PySem.W.Frag} {mg : Str → Option Value} {base : Heap}
theorem scTie : FnScope ["one", "other"] ["one", "other"] (defScope sTie) := ⟨rfl, rfl, rfl, by decide +kernel, rfl, by decide +kernel, by decide +kernel⟩
theorem ok_tie {f : Addr} {fd : FuncData} {k : Nat} (F : Fun K "_law_tie" "_law_tie" sTie f fd) (B : Blt mg) : FnOk P w K mg base CX0 (k + 1) f fd ["one", "other"] spTie := by
  refine F.ok scTie (fun vs H Q E h => ?_) (fun cdv A outer s H vs Q E hr h => ?_)
  · obtain ⟨a, b, rfl, _⟩ := h
    rfl
  · obtain ⟨a, b, rfl, q⟩ := h
    refine ⟨_, pss_one (ps_ret (pe_tup (pa_cons (pe_callB (call_minS rfl) (by rfl) B.min PyProof.Rows.boot_min (pa_cons (pv 0) (pa_cons (pv 1) pa_nil))) (pa_cons (pe_callB (call_maxS rfl) (by rfl) B.max PyProof.Rows.boot_max (pa_cons (pv 0) (pa_cons (pv 1) pa_nil))) pa_nil)))), ?_⟩
    exact ⟨.str a, rfl, .str b, rfl, a, b, rfl, .str a, rfl, .str b, rfl, a, b, rfl, by show 2 ≤ sizeLine; decide, fun p hp => q p hp⟩

def encT (ts : List Tie) : List (List Key × V) := ts.map fun t => (([Sum.inr t.1, Sum.inr t.2] : List Key), V.bl true)
theorem encT_any (ts : List Tie) (t : Tie) : ((encT ts).any fun kv => decide (kv.1 = ([Sum.inr t.1, Sum.inr t.2] : List Key))) = decide (t ∈ ts) := by
  rw [encT, List.any_map, Bool.eq_iff_iff, List.any_eq_true, decide_eq_true_iff]
  constructor
  · rintro ⟨u, hu, e⟩
    have e' := of_decide_eq_true e
    injection e' with e1 e2
    injection e2 with e2 _
    injection e1 with e1
    injection e2 with e2
    exact (show u = t from Prod.ext e1 e2) ▸ hu
  · intro h
    exact ⟨t, h, decide_eq_true rfl⟩
theorem putT_tie (ts : List Tie) (t : Tie) : putK (encT ts) ([Sum.inr t.1, Sum.inr t.2] : List Key) (V.bl true) = encT (if t ∈ ts then ts else ts ++ [t]) := by
  unfold putK
  rw [encT_any]
  by_cases h : t ∈ ts
  · rw [if_pos (decide_eq_true h), if_pos h]
    unfold encT
    rw [List.map_map]
    refine List.map_congr_left fun u _ => ?_
    show (if _ then _ else _) = _
    split <;> rfl
  · rw [if_neg (by simpa using h), if_neg h]
    unfold encT
    rw [List.map_append]; rfl
theorem tieOf_lt {u v : Str} (h : u ≠ v) : strLt (tieOf u v).1 (tieOf u v).2 = true ∧ ((tieOf u v).1 = u ∨ (tieOf u v).1 = v) ∧ ((tieOf u v).2 = u ∨ (tieOf u v).2 = v) := by
  unfold tieOf
  cases e1 : strLt v u with
  | true =>
    rw [strLt_as e1]
    exact ⟨by simpa using e1, .inr (by simp), .inl (by simp)⟩
  | false =>
    cases e2 : strLt u v with
    | true => exact ⟨by simpa using e2, .inl (by simp), .inr (by simp)⟩
    | false => exact absurd (strLt_tri e2 e1) h
/-- a drawn web while it is drawn: its places at pl, its ties in the dict at d -/
def WB (a pl d : Addr) (ns : List Str) (H0 : Hp) (N c : Nat) (H : Hp) : Prop := SameX a H0 H ∧ Pot H a N ∧ H pl = some (.lst (ns.map V.str)) ∧ pl ≠ d ∧ pl ≠ a ∧ d ≠ a ∧ ∃ ts : List Tie, H d = some (.dT (encT ts)) ∧ ts.Nodup ∧ (∀ t ∈ ts, t.1 ∈ ns ∧ t.2 ∈ ns ∧ strLt t.1 t.2 = true) ∧ ts.length ≤ c
theorem WB.step {a pl d : Addr} {ns : List Str} {H0 H H' : Hp} {N N' c : Nat} (w : WB a pl d ns H0 N c H) (s : SameX a H H') (p : Pot H' a N') : WB a pl d ns H0 N' c H' := by
  obtain ⟨sx, hp, h1, n1, n2, n3, ts, h2, hr⟩ := w
  exact ⟨sx.trans s, p, s _ _ n2 h1, n1, n2, n3, ts, s _ _ n3 h2, hr⟩
theorem WB.mono {a pl d : Addr} {ns : List Str} {H0 H : Hp} {N N' c c' : Nat} (w : WB a pl d ns H0 N c H) (hN : N ≤ N') (hc : c ≤ c') : WB a pl d ns H0 N' c' H := by
  obtain ⟨sx, hp, h1, n1, n2, n3, ts, h2, h3, h4, h5⟩ := w
  exact ⟨sx, hp.mono hN, h1, n1, n2, n3, ts, h2, h3, h4, Nat.le_trans h5 hc⟩
theorem put_tie {a pl d : Addr} {ns : List Str} {H0 H : Hp} {N c : Nat} {u v : Str} {E : XK} {Q : Hp → Prop} (w : WB a pl d ns H0 N c H) (hd0 : H0 d = none) (hc : c ≤ 1000) (hu : u ∈ ns) (hv : v ∈ ns) (hne : u ≠ v)
    (q : ∀ Hn, WB a pl d ns H0 N (c + 1) Hn → Q Hn) : spTie [.str u, .str v] H (fun k H1 => ∃ d' Hn, V.ref d = .ref d' ∧ DPut H1 d' k (.bl true) Hn ∧ Q Hn) E := by
  obtain ⟨sx, hp, h1, n1, n2, n3, ts, h2, h3, h4, h5⟩ := w
  refine ⟨u, v, rfl, fun p hp0 => ?_⟩
  have npd : d ≠ p := ne_of_none h2 hp0
  have ed : (upd H p (.tup [.str (tieOf u v).1, .str (tieOf u v).2])) d = some (.dT (encT ts)) := by rw [upd_ne npd]; exact h2
  have et : (upd H p (.tup [.str (tieOf u v).1, .str (tieOf u v).2])) p = some (.tup (([Sum.inr (tieOf u v).1, Sum.inr (tieOf u v).2] : List Key).map kV)) := upd_same
  refine ⟨d, _, rfl, DPut.t ed et (by rw [encT, List.length_map]; exact small1000 (by omega)), q _ ?_⟩
  rw [putT_tie]
  obtain ⟨l1, l2, l3⟩ := tieOf_lt hne
  have m1 : (tieOf u v).1 ∈ ns := by rcases l2 with e | e <;> rw [e] <;> assumption
  have m2 : (tieOf u v).2 ∈ ns := by rcases l3 with e | e <;> rw [e] <;> assumption
  refine ⟨fun b o hb e => ?_, ?_, ?_, n1, n2, n3, _, upd_same, ?_, ?_, ?_⟩
  · have e1 : b ≠ d := ne_of_none e hd0
    have e2 := sx _ _ hb e
    rw [upd_ne e1, upd_ne (ne_of_none e2 hp0)]
    exact e2
  · obtain ⟨xx, yy, zz, e, hh⟩ := hp.ex
    exact ⟨xx, yy, zz, by rw [upd_ne (Ne.symm n3), upd_ne (ne_of_none e hp0)]; exact e, hh⟩
  · rw [upd_ne n1, upd_ne (ne_of_none h1 hp0)]; exact h1
  · by_cases hm : tieOf u v ∈ ts
    · rw [if_pos hm]; exact h3
    · rw [if_neg hm, List.nodup_append]
      exact ⟨h3, by simp, fun x hx y hy e => hm (by rw [List.mem_singleton.mp hy] at e; exact e ▸ hx)⟩
  · intro t ht
    by_cases hm : tieOf u v ∈ ts
    · rw [if_pos hm] at ht; exact h4 t ht
    · rw [if_neg hm] at ht
      rcases List.mem_append.mp ht with ht | ht
      · exact h4 t ht
      · rw [List.mem_singleton.mp ht]; exact ⟨m1, m2, l1⟩
  · by_cases hm : tieOf u v ∈ ts
    · rw [if_pos hm]; omega
    · rw [if_neg hm, List.length_append]
      show ts.length + 1 ≤ c + 1
      omega
end
end Hw

set_option Elab.async false
set_option linter.all false
set_option maxRecDepth 100000
set_option maxHeartbeats 4000000
namespace Hw
open PySem L2 PyProof.Rows
/-- an own web: its places ascending, its ties ascending -/
structure OwnW (ns : List Str) (ts : List Tie) : Prop where
  asc : Asc ns
  nm : ∀ z ∈ ns, Nm z
  few : ns.length ≤ 200
  tasc : AscP ts
  tie : ∀ t ∈ ts, t.1 ∈ ns ∧ t.2 ∈ ns ∧ strLt t.1 t.2 = true
  tfew : ts.length ≤ 1000
/-- an own web as it lies: a pair of lists -/
def WebAt (H : Hp) (p : Addr) (ns : List Str) (ts : List Tie) : Prop := ∃ (pl tl : Addr) (qs : List Addr), H p = some (.tup [.ref pl, .ref tl]) ∧ H pl = some (.lst (ns.map V.str)) ∧ H tl = some (.lst (qs.map V.ref)) ∧ Paired (fun q (t : Tie) => H q = some (.tup [.str t.1, .str t.2])) qs ts
def spWeb : Sp := fun vs H Q _ => ∃ (a : Addr) (m N : Nat), vs = [.ref a, .int m] ∧ Pot H a N ∧ N < 400000000 ∧ m ≤ 200 ∧
  ∀ p ns ts H', OwnW ns ts → ns.length ≤ m → ts.length ≤ 900 → WebAt H' p ns ts → SameX a H H' → Pot H' a (N + 4000) → Q (.ref p) H'
def nW : List Str := ["pot", "most", "places", "way", "ties", "at", "lap"]
theorem at_ns {ns : List Str} {r : Int} {j : Nat} (e : r = (j : Int)) (h : j < ns.length) : atI (ns.map V.str) r = some (.str ns[j]) := by
  subst e
  exact atI_nat (by rw [List.getElem?_map, List.getElem?_eq_getElem h]; rfl)
theorem at_last {ns : List Str} (h : 0 < ns.length) : atI (ns.map V.str) (-1) = some (.str (ns[ns.length - 1]'(by omega))) := by
  have hne : ns ≠ [] := fun e => by rw [e] at h; exact absurd h (by decide)
  have e1 : ns.map V.str = ns.dropLast.map V.str ++ [V.str (ns.getLast hne)] := by
    rw [← List.map_singleton, ← List.map_append, List.dropLast_concat_getLast]
  rw [e1, atI_last, List.getLast_eq_getElem]
theorem paired_mono {α β : Type} {F G : α → β → Prop} (h : ∀ x y, F x y → G x y) : ∀ {xs : List α} {ys : List β}, Paired F xs ys → Paired G xs ys
  | _, _, .nil => .nil
  | _, _, .cons a t => .cons (h _ _ a) (paired_mono h t)
theorem keys_ties {H : Hp} : ∀ {ts : List Tie} {bs : List Addr}, IsKeys H (encT ts) bs → Paired (fun q (t : Tie) => H q = some (.tup [.str t.1, .str t.2])) bs ts
  | [], _, h => by
    have h' : IsKeys H [] _ := h
    cases h'; exact .nil
  | t :: ts, _, h => by
    have h' : IsKeys H ((([Sum.inr t.1, Sum.inr t.2] : List Key), V.bl true) :: encT ts) _ := h
    cases h' with
    | cons h1 h2 => exact .cons h1 (keys_ties h2)
theorem nodup_ne {ns : List Str} (h : ns.Nodup) {i j : Nat} (hi : i < ns.length) (hj : j < ns.length) (hij : i < j) : ns[i] ≠ ns[j] := List.pairwise_iff_getElem.mp h i j hi hj hij
theorem if_any {t : TT} {A B : TS} {D : Ends} {σ : L2.St} {H : Hp} (ht : ∀ Q : Bool → Hp → Prop, Q true H → Q false H → t σ H Q) (h1 : A D σ H) (h2 : B D σ H) : tIfS t A B D σ H :=
  ht _ (show if true = true then A D σ H else B D σ H by rw [if_pos rfl]; exact h1) (show if false = true then A D σ H else B D σ H by rw [if_neg Bool.false_ne_true]; exact h2)
theorem rs_rng {wi : TI} {g : TG} {tb u : TS} {D : Ends} {σ : L2.St} {H : Hp} (lo : Int) (n : Nat) (P0 : Hp → Prop) (Pv : Nat → L2.St → Hp → Prop) (hw : ∀ R : It → Hp → Prop, (∀ H1, P0 H1 → R (Itr lo n) H1) → wi σ H R) (h0 : ∀ H1, P0 H1 → Pv 0 σ H1)
    (hs : ∀ i σ H, i < n → Pv i σ H → g (.int (lo + i)) σ H fun σ2 H2 => tb { D with nx := Pv (i + 1), ct := Pv (i + 1), bk := u D } σ2 H2) (hd : ∀ σ H, Pv n σ H → u D σ H) : tSeq (tFor wi g tb) u D σ H :=
  hw _ fun H1 p => for_range (D := { D with nx := u D }) Pv (h0 H1 p) hs hd
theorem rs_if_put {t : TT} {A B u : TS} {D : Ends} {σ : L2.St} {H : Hp} (P1 : Bool → Hp → Prop) (P2 : Hp → Prop) (ht : ∀ Q : Bool → Hp → Prop, (∀ b H', P1 b H' → Q b H') → t σ H Q) (h3 : ∀ H', P2 H' → u D σ H')
    (h1 : ∀ (D' : Ends) H', (∀ H4, P2 H4 → D'.nx σ H4) → P1 true H' → A D' σ H') (h2 : ∀ (D' : Ends) H', (∀ H4, P2 H4 → D'.nx σ H4) → P1 false H' → B D' σ H') : tSeq (tIfS t A B) u D σ H :=
  ht _ fun b H' p => by
    show if b = true then A { D with nx := u D } σ H' else B { D with nx := u D } σ H'
    cases b with
    | true => rw [if_pos rfl]; exact h1 _ H' h3 p
    | false => rw [if_neg Bool.false_ne_true]; exact h2 _ H' h3 p
def lapsD : List V := [.int 0, .int 1, .int 1, .int 2]
theorem laps_int : ∀ v ∈ lapsD, ∃ x : Nat, v = V.int (x : Int) ∧ x ≤ 2 := by
  intro v hv
  simp only [lapsD, List.mem_cons, List.not_mem_nil, or_false] at hv
  rcases hv with rfl | rfl | rfl | rfl
  · exact ⟨0, rfl, by decide⟩
  · exact ⟨1, rfl, by decide⟩
  · exact ⟨1, rfl, by decide⟩
  · exact ⟨2, rfl, by decide⟩
section
variable {P : Program} {w : World} {K : PySem.W.Frag} {mg : Str → Option Value} {base : Heap}
end
end Hw

set_option Elab.async false
set_option linter.all false
set_option maxRecDepth 100000
set_option maxHeartbeats 4000000
namespace Hw
open PySem L2 PyProof.Rows
def sBl : Str := Str.ofString " "
def sNl : Str := Str.ofString "\n"
def placesLine (ns : List Str) : Str := Txt.join sBl (Str.ofString "places" :: ns)
def tieLine (t : Tie) : Str := Txt.join sBl [Str.ofString "tie", t.1, t.2]
def webLines (ns : List Str) (ts : List Tie) : List Str := placesLine ns :: ts.map tieLine
def webText (ns : List Str) (ts : List Tie) : Str := Txt.join sNl (webLines ns ts)
theorem paired_get {α β : Type} {F : α → β → Prop} : ∀ {xs : List α} {ys : List β} {i : Nat} {x : α}, Paired F xs ys → xs[i]? = some x → ∃ y, ys[i]? = some y ∧ F x y
  | _, _, _, _, .nil, e => by simp at e
  | _, _, 0, _, .cons a _, e => by simp at e; subst e; exact ⟨_, rfl, a⟩
  | _, _, i + 1, y, .cons _ t, e => by
    obtain ⟨x, h1, h2⟩ := paired_get (i := i) t (by simpa using e)
    exact ⟨x, by simpa using h1, h2⟩
theorem join_len (y : Str) : ∀ ps : List Str, (Txt.join y ps).length ≤ (ps.map (·.length)).sum + ps.length * y.length
  | [] => by rw [TL.join_eq]; exact Nat.zero_le _
  | [p] => by rw [TL.join_eq]; simp [Str.join]
  | p :: q :: r => by
    have ih := join_len y (q :: r)
    rw [TL.join_eq] at ih ⊢
    have e : Str.join y (p :: q :: r) = p ++ y ++ Str.join y (q :: r) := rfl
    rw [e, app_len, app_len]
    simp only [List.map_cons, List.sum_cons, List.length_cons] at ih ⊢
    have : (r.length + 1 + 1) * y.length = (r.length + 1) * y.length + y.length := by rw [Nat.add_mul (r.length + 1) 1, Nat.one_mul]
    omega
theorem sum_le {ps : List Str} {b : Nat} (h : ∀ p ∈ ps, p.length ≤ b) : (ps.map (·.length)).sum ≤ ps.length * b := by
  induction ps with
  | nil => exact Nat.zero_le _
  | cons p ps ih =>
    have h1 := h p List.mem_cons_self
    have h2 := ih fun q hq => h q (List.mem_cons_of_mem _ hq)
    rw [List.map_cons, List.sum_cons, List.length_cons, Nat.add_mul, Nat.one_mul]
    omega
theorem OwnW.first {ns : List Str} {ts : List Tie} (o : OwnW ns ts) : ((Str.ofString "places" :: ns).map (·.length)).sum + (Str.ofString "places" :: ns).length * sBl.length ≤ 2000 := by
  have h := sum_le (ps := ns) (b := 8) fun p hp => (o.nm p hp).2.1
  have h1 := o.few
  have e1 : (Str.ofString "places").length = 6 := by decide +kernel
  have e2 : sBl.length = 1 := by decide +kernel
  rw [List.map_cons, List.sum_cons, List.length_cons, e1, e2]
  omega
theorem OwnW.tl {ns : List Str} {ts : List Tie} (o : OwnW ns ts) {t : Tie} (ht : t ∈ ts) : (([Str.ofString "tie", t.1, t.2] : List Str).map (·.length)).sum + ([Str.ofString "tie", t.1, t.2] : List Str).length * sBl.length ≤ 22 := by
  obtain ⟨h1, h2, _⟩ := o.tie t ht
  have a := (o.nm _ h1).2.1
  have b := (o.nm _ h2).2.1
  have e1 : (Str.ofString "tie").length = 3 := by decide +kernel
  have e2 : sBl.length = 1 := by decide +kernel
  simp only [List.map_cons, List.map_nil, List.sum_cons, List.sum_nil, List.length_cons, List.length_nil, e1, e2]
  omega
theorem OwnW.lines {ns : List Str} {ts : List Tie} (o : OwnW ns ts) : ((webLines ns ts).map (·.length)).sum + (webLines ns ts).length * sNl.length ≤ 16777216 := by
  have h1 : ∀ p ∈ webLines ns ts, p.length ≤ 2000 := by
    intro p hp
    rcases List.mem_cons.mp hp with rfl | hp
    · exact Nat.le_trans (join_len _ _) o.first
    · obtain ⟨t, ht, rfl⟩ := List.mem_map.mp hp
      exact Nat.le_trans (join_len _ _) (Nat.le_trans (o.tl ht) (by decide))
  have h2 := sum_le h1
  have e2 : sNl.length = 1 := by decide +kernel
  have e3 : (webLines ns ts).length ≤ 1001 := by
    show (ts.map tieLine).length + 1 ≤ 1001
    rw [List.length_map]; have := o.tfew; omega
  rw [e2]
  have : (webLines ns ts).length * 2000 ≤ 1001 * 2000 := Nat.mul_le_mul_right _ e3
  omega
def rJn (K : PySem.W.Frag) : V → List V → Hp → VK → Prop := fun x xs H Q => ∃ a p, ∃ ys : List Str, x = .str a ∧ xs = [.ref p] ∧ (SqL K H p (ys.map V.str) ∨ SqT K H p (ys.map V.str)) ∧ (ys.map (·.length)).sum + ys.length * a.length ≤ 16777216 ∧ Q (.str (Txt.join a ys)) H
def spText : Sp := fun vs H Q _ => ∃ p ns ts, vs = [.ref p] ∧ OwnW ns ts ∧ WebAt H p ns ts ∧ ∀ H', Same H H' → Q (.str (webText ns ts)) H'
section
variable {P : Program} {w : World} {K : PySem.W.Frag} {mg : Str → Option Value} {base : Heap}
end
end Hw

set_option Elab.async false
set_option linter.all false
set_option maxRecDepth 100000
set_option maxHeartbeats 4000000
namespace Hw
open PySem L2 PyProof.Rows
/-! the rows of neighbours -/
def nbr (ts : List Tie) (n : Str) : List Str := ts.flatMap fun t => (if t.1 = n then [t.2] else []) ++ (if t.2 = n then [t.1] else [])
theorem nbr_len (ts : List Tie) (n : Str) : (nbr ts n).length ≤ 2 * ts.length := by
  induction ts with
  | nil => exact Nat.zero_le _
  | cons t ts ih =>
    have e : nbr (t :: ts) n = ((if t.1 = n then [t.2] else []) ++ (if t.2 = n then [t.1] else [])) ++ nbr ts n := by simp [nbr]
    rw [e, List.length_append, List.length_append, List.length_cons]
    have h1 : (if t.1 = n then [t.2] else []).length ≤ 1 := by split <;> simp
    have h2 : (if t.2 = n then [t.1] else []).length ≤ 1 := by split <;> simp
    omega
theorem nbr_mem {ns : List Str} {ts : List Tie} (h : ∀ t ∈ ts, t.1 ∈ ns ∧ t.2 ∈ ns ∧ strLt t.1 t.2 = true) {n m : Str} (hm : m ∈ nbr ts n) : m ∈ ns := by
  obtain ⟨t, ht, hm⟩ := List.mem_flatMap.mp hm
  obtain ⟨h1, h2, _⟩ := h t ht
  rcases List.mem_append.mp hm with hm | hm
  · split at hm
    · rw [List.mem_singleton.mp hm]; exact h2
    · cases hm
  · split at hm
    · rw [List.mem_singleton.mp hm]; exact h1
    · cases hm
theorem valV_names {g : Str → V} {ns : List Str} (w : Str) : valV (ns.map fun z => ((Sum.inr z : Key), g z)) (Sum.inr w) = if w ∈ ns then some (g w) else none := by
  induction ns with
  | nil => exact valV_nil
  | cons z ns ih =>
    rw [List.map_cons]
    by_cases h : z = w
    · subst h
      rw [valV_pos rfl, if_pos List.mem_cons_self]
    · rw [valV_neg (fun e => h (Sum.inr.inj e)), ih]
      by_cases hm : w ∈ ns
      · rw [if_pos hm, if_pos (List.mem_cons_of_mem _ hm)]
      · rw [if_neg hm, if_neg (fun e => by rcases List.mem_cons.mp e with rfl | e; exact h rfl; exact hm e)]
/-- a dict at d of lists, one for each name -/
structure NearL (f : Str → Addr) (H : Hp) (d : Addr) (ns : List Str) (L : Str → List Str) : Prop where
  dict : H d = some (.dK (ns.map fun n => ((Sum.inr n : Key), V.ref (f n))))
  lst : ∀ n ∈ ns, H (f n) = some (.lst ((L n).map V.str))
  inj : ∀ m ∈ ns, ∀ n ∈ ns, f m = f n → m = n
theorem NearL.get {f : Str → Addr} {H : Hp} {d : Addr} {ns : List Str} {L : Str → List Str} (w : NearL f H d ns L) {n : Str} (h : n ∈ ns) : DGet H d (.str n) (some (.ref (f n))) := by
  have := DGet.k (k := Sum.inr n) w.dict
  rw [valV_names (g := fun n => V.ref (f n)), if_pos h] at this
  exact this
theorem NearL.keep {f : Str → Addr} {H H' : Hp} {d : Addr} {ns : List Str} {L : Str → List Str} (w : NearL f H d ns L) (s : Same H H') : NearL f H' d ns L :=
  ⟨s _ _ w.dict, fun n hn => s _ _ (w.lst n hn), w.inj⟩
theorem NearL.congr {f : Str → Addr} {H : Hp} {d : Addr} {ns : List Str} {L M : Str → List Str} (w : NearL f H d ns L) (h : ∀ n ∈ ns, L n = M n) : NearL f H d ns M :=
  ⟨w.dict, fun n hn => by rw [← h n hn]; exact w.lst n hn, w.inj⟩
theorem NearL.push {f : Str → Addr} {H : Hp} {d : Addr} {ns : List Str} {L : Str → List Str} (w : NearL f H d ns L) {x y : Str} (hx : x ∈ ns) : NearL f (upd H (f x) (.lst ((L x).map V.str ++ [.str y]))) d ns (fun n => if n = x then L n ++ [y] else L n) := by
  refine ⟨?_, fun n hn => ?_, w.inj⟩
  · rw [upd_ne (ne_of w.dict (w.lst x hx) (fun z => nomatch z))]; exact w.dict
  · by_cases h : n = x
    · subst h
      rw [upd_same, if_pos rfl, List.map_append]; rfl
    · rw [upd_ne (fun e => h (w.inj n hn x hx e)), if_neg h]; exact w.lst n hn
theorem nbr_snoc (ts : List Tie) (t : Tie) (n : Str) : nbr (ts ++ [t]) n = nbr ts n ++ ((if t.1 = n then [t.2] else []) ++ (if t.2 = n then [t.1] else [])) := by simp [nbr]
theorem nbr_push {ts : List Tie} {t : Tie} (h : t.1 ≠ t.2) (n : Str) : (if n = t.2 then (if n = t.1 then nbr ts n ++ [t.2] else nbr ts n) ++ [t.1] else (if n = t.1 then nbr ts n ++ [t.2] else nbr ts n)) = nbr (ts ++ [t]) n := by
  rw [nbr_snoc]
  by_cases h1 : n = t.1
  · have h2 : n ≠ t.2 := fun e => h (h1.symm.trans e)
    rw [if_neg h2, if_pos h1, if_pos h1.symm, if_neg (Ne.symm h2)]; simp
  · by_cases h2 : n = t.2
    · rw [if_pos h2, if_neg h1, if_neg (Ne.symm h1), if_pos h2.symm]; simp
    · rw [if_neg h2, if_neg h1, if_neg (Ne.symm h1), if_neg (Ne.symm h2)]; simp
theorem mergeK_new : ∀ {more kvs : List (Key × V)}, ((kvs ++ more).map (·.1)).Nodup → mergeK kvs more = kvs ++ more
  | [], kvs, _ => by simp [mergeK]
  | p :: more, kvs, h => by
    have hn : valV kvs p.1 = none := by
      unfold valV
      rw [List.find?_eq_none.mpr]
      · rfl
      · intro q hq hc
        have e := of_decide_eq_true hc
        rw [List.map_append, List.nodup_append] at h
        exact h.2.2 q.1 (List.mem_map.mpr ⟨q, hq, rfl⟩) p.1 (List.mem_map.mpr ⟨p, List.mem_cons_self, rfl⟩) e
    have ih := mergeK_new (more := more) (kvs := kvs ++ [p]) (by rw [List.append_assoc]; exact h)
    show mergeK (putK kvs p.1 p.2) more = _
    rw [putK_new _ hn]
    exact ih.trans (by simp)
end Hw

set_option Elab.async false
set_option linter.all false
set_option maxRecDepth 100000
set_option maxHeartbeats 4000000
namespace Hw
open PySem L2 PyProof.Rows
abbrev sNear : Stmt := topS 59
abbrev TieL (H : Hp) (q : Addr) (t : Tie) : Prop := H q = some (.tup [.str t.1, .str t.2])
def spNear : Sp := fun vs H Q _ => ∃ (p tl : Addr) (ns : List Str) (ts : List Tie) (qs : List Addr), vs = [.ref p, .ref tl] ∧ OwnW ns ts ∧ H p = some (.lst (ns.map V.str)) ∧ H tl = some (.lst (qs.map V.ref)) ∧ Paired (TieL H) qs ts ∧
  ∀ d f H', Same H H' → NearL f H' d ns (nbr ts) → H d = none → (∀ n ∈ ns, H (f n) = none) → Q (.ref d) H'
theorem nodup_take {ns : List Str} (h : ns.Nodup) {i : Nat} {x : Str} (hx : ns[i]? = some x) : x ∉ ns.take i := by
  intro hm
  obtain ⟨j, hj, e⟩ := List.mem_iff_getElem.mp hm
  rw [List.length_take] at hj
  obtain ⟨hi, rfl⟩ := List.getElem?_eq_some_iff.mp hx
  rw [List.getElem_take] at e
  exact nodup_ne h (by omega) hi (by omega) e
/-- the rows while they are made -/
def NearUp (H0 : Hp) (D : Addr) (ns : List Str) (f : Str → Addr) (H : Hp) : Prop := Same H0 H ∧ (∀ n ∈ ns, H (f n) = some (.lst []) ∧ H0 (f n) = none ∧ f n ≠ D) ∧ ∀ m ∈ ns, ∀ n ∈ ns, f m = f n → m = n
theorem NearUp.keep {H0 H H' : Hp} {D : Addr} {ns : List Str} {f : Str → Addr} (w : NearUp H0 D ns f H) (s : Same H H') : NearUp H0 D ns f H' := ⟨w.1.trans s, fun n hn => ⟨s _ _ (w.2.1 n hn).1, (w.2.1 n hn).2⟩, w.2.2⟩
theorem NearUp.put {H0 H : Hp} {D : Addr} {ns : List Str} {f : Str → Addr} {o : HO} (w : NearUp H0 D ns f H) (hD : H0 D = none) : NearUp H0 D ns f (upd H D o) :=
  ⟨fun b u e => by rw [upd_ne (ne_of_none e hD)]; exact w.1 _ _ e, fun n hn => ⟨by rw [upd_ne (w.2.1 n hn).2.2]; exact (w.2.1 n hn).1, (w.2.1 n hn).2⟩, w.2.2⟩
theorem NearUp.new {H0 H : Hp} {D l : Addr} {ns : List Str} {f : Str → Addr} {x : Str} (w : NearUp H0 D ns f H) (hx : x ∉ ns) (nl : H l = none) (hl : l ≠ D) : NearUp H0 D (ns ++ [x]) (fun n => if n = x then l else f n) (upd H l (.lst [])) := by
  have hf : ∀ n ∈ ns, (if n = x then l else f n) = f n := fun n hn => if_neg fun e => hx (by rw [← e]; exact hn)
  have hxl : (if x = x then l else f x) = l := if_pos rfl
  refine ⟨w.1.trans (same_upd nl), fun n hn => ?_, fun m hm n hn e => ?_⟩
  · rcases List.mem_append.mp hn with hn | hn
    · dsimp only
      rw [hf n hn]
      exact ⟨(same_upd nl) _ _ (w.2.1 n hn).1, (w.2.1 n hn).2⟩
    · rw [List.mem_singleton.mp hn]
      dsimp only
      rw [hxl]
      exact ⟨upd_same, w.1.free nl, hl⟩
  · have e : (if m = x then l else f m) = (if n = x then l else f n) := e
    have ne : ∀ n ∈ ns, f n ≠ l := fun n hn z => by
      have := (w.2.1 n hn).1
      rw [z, nl] at this; cases this
    rcases List.mem_append.mp hm with hm | hm <;> rcases List.mem_append.mp hn with hn | hn
    · rw [hf m hm, hf n hn] at e; exact w.2.2 m hm n hn e
    · rw [List.mem_singleton.mp hn, hf m hm, hxl] at e; exact absurd e (ne m hm)
    · rw [List.mem_singleton.mp hm, hf n hn, hxl] at e; exact absurd e.symm (ne n hn)
    · rw [List.mem_singleton.mp hm, List.mem_singleton.mp hn]
theorem NearUp.done {H0 H : Hp} {D d : Addr} {ns : List Str} {f : Str → Addr} (w : NearUp H0 D ns f H) (hd : H d = some (.dK (ns.map fun n => ((Sum.inr n : Key), V.ref (f n))))) : NearL f H d ns (nbr []) :=
  ⟨hd, fun n hn => (w.2.1 n hn).1, w.2.2⟩
/-- one tie more -/
theorem tie_push {H0 H : Hp} {d : Addr} {ns : List Str} {f : Str → Addr} {ts : List Tie} {t : Tie} (s : Same H0 H) (w : NearL f H d ns (nbr ts)) (h0 : ∀ n ∈ ns, H0 (f n) = none) (h1 : t.1 ∈ ns) (h2 : t.2 ∈ ns) (hne : t.1 ≠ t.2) :
    ∃ L1, NearL f (upd H (f t.1) (.lst ((nbr ts t.1).map V.str ++ [.str t.2]))) d ns L1 ∧ L1 t.2 = nbr ts t.2 ∧
      Same H0 (upd (upd H (f t.1) (.lst ((nbr ts t.1).map V.str ++ [.str t.2]))) (f t.2) (.lst ((nbr ts t.2).map V.str ++ [.str t.1]))) ∧
      NearL f (upd (upd H (f t.1) (.lst ((nbr ts t.1).map V.str ++ [.str t.2]))) (f t.2) (.lst ((nbr ts t.2).map V.str ++ [.str t.1]))) d ns (nbr (ts ++ [t])) := by
  have w1 := w.push (y := t.2) h1
  have e2 : (if t.2 = t.1 then nbr ts t.2 ++ [t.2] else nbr ts t.2) = nbr ts t.2 := if_neg (Ne.symm hne)
  have w2 := w1.push (y := t.1) h2
  rw [e2] at w2
  refine ⟨_, w1, e2, fun b o e => ?_, w2.congr fun n _ => nbr_push hne n⟩
  rw [upd_ne (ne_of_none e (h0 _ h2)), upd_ne (ne_of_none e (h0 _ h1))]
  exact s _ _ e
theorem near_turn {K : PySem.W.Frag} {D' : Ends} {i2 i3 i4 : Nat} {σ : L2.St} {H0 H : Hp} {d : Addr} {ns : List Str} {f : Str → Addr} {ts : List Tie} {t : Tie} (v2 : σ[i2]? = some (some (.ref d))) (v3 : σ[i3]? = some (some (.str t.1))) (v4 : σ[i4]? = some (some (.str t.2)))
    (s : Same H0 H) (w : NearL f H d ns (nbr ts)) (h0 : ∀ n ∈ ns, H0 (f n) = none) (h1 : t.1 ∈ ns) (h2 : t.2 ∈ ns) (hne : t.1 ≠ t.2) (hl : ts.length ≤ 100000) (fin : ∀ H', Same H0 H' → NearL f H' d ns (nbr (ts ++ [t])) → D'.nx σ H') :
    tSeq (tDrop (tBM K "list" rAppend (tDGet (tVar i2) (tVar i3)) (tCons (tVar i4) tNil))) (tDrop (tBM K "list" rAppend (tDGet (tVar i2) (tVar i4)) (tCons (tVar i3) tNil))) D' σ H := by
  obtain ⟨L1, w1, eL, s2, w2⟩ := tie_push s w h0 h1 h2 hne
  have q2 := w1.lst t.2 h2
  rw [eL] at q2
  have l1 := nbr_len ts t.1
  have l2 := nbr_len ts t.2
  refine rs_bm ⟨.ref d, v2, .str t.1, v3, d, .ref (f t.1), rfl, w.get h1, .inl ⟨rfl, _, sql_of (w.lst _ h1)⟩, .str t.2, v4, f t.1, _, _, rfl, rfl, w.lst _ h1, by rw [List.length_map, sizeLine_eq]; omega, ?_⟩
  exact ⟨.ref d, v2, .str t.2, v4, d, .ref (f t.2), rfl, w1.get h2, .inl ⟨rfl, _, sql_of q2⟩, .str t.1, v3, f t.2, _, _, rfl, rfl, q2, by rw [List.length_map, sizeLine_eq]; omega, fin _ s2 w2⟩
theorem rs_list {K : PySem.W.Frag} {te : TE} {g : TG} {tb u : TS} {D : Ends} {σ : L2.St} {H : Hp} (a : Addr) (xs : List V) (ha : ∀ Q : VK, Q (.ref a) H → te σ H Q) (Pv : Nat → L2.St → Hp → Prop) (h0 : Pv 0 σ H) (hl : ∀ i σ H, i ≤ xs.length → Pv i σ H → SqL K H a xs)
    (hs : ∀ i x σ H, xs[i]? = some x → Pv i σ H → g x σ H fun σ2 H2 => tb { D with nx := Pv (i + 1), ct := Pv (i + 1), bk := u D } σ2 H2) (hd : ∀ σ H, Pv xs.length σ H → u D σ H) : tSeq (tFor (iList K te) g tb) u D σ H :=
  ha _ ⟨a, rfl, ⟨xs, hl 0 σ H (Nat.zero_le _) h0⟩, for_list (D := { D with nx := u D }) Pv h0 hl hs hd⟩
theorem rs_tup {K : PySem.W.Frag} {te : TE} {g : TG} {tb u : TS} {D : Ends} {σ : L2.St} {H : Hp} (a : Addr) (xs : List V) (ha : ∀ Q : VK, Q (.ref a) H → te σ H Q) (Pv : Nat → L2.St → Hp → Prop) (h0 : Pv 0 σ H) (hl : ∀ i σ H, i ≤ xs.length → Pv i σ H → SqT K H a xs)
    (hs : ∀ i x σ H, xs[i]? = some x → Pv i σ H → g x σ H fun σ2 H2 => tb { D with nx := Pv (i + 1), ct := Pv (i + 1), bk := u D } σ2 H2) (hd : ∀ σ H, Pv xs.length σ H → u D σ H) : tSeq (tFor (iTup K te) g tb) u D σ H :=
  ha _ ⟨a, rfl, ⟨xs, hl 0 σ H (Nat.zero_le _) h0⟩, for_tup (D := { D with nx := u D }) Pv h0 hl hs hd⟩
theorem map_get {α : Type} {g : α → V} {xs : List α} {i : Nat} {x : V} (h : (xs.map g)[i]? = some x) : ∃ z, xs[i]? = some z ∧ x = g z := by
  rw [List.getElem?_map] at h
  cases hh : xs[i]? with
  | none => rw [hh] at h; cases h
  | some z => rw [hh] at h; exact ⟨z, rfl, (Option.some.inj h).symm⟩
theorem take_snoc {α : Type} {xs : List α} {i : Nat} {x : α} (h : xs[i]? = some x) : xs.take (i + 1) = xs.take i ++ [x] := by rw [List.take_succ, h]; rfl
theorem paired_in {α β : Type} {F G : α → β → Prop} : ∀ {xs : List α} {ys : List β}, (∀ x y, y ∈ ys → F x y → G x y) → Paired F xs ys → Paired G xs ys
  | _, _, _, .nil => .nil
  | _, _, h, .cons a t => .cons (h _ _ List.mem_cons_self a) (paired_in (fun x y hy => h x y (List.mem_cons_of_mem _ hy)) t)
theorem paired_map {α β γ : Type} {F : α → γ → Prop} {g : β → γ} : ∀ {xs : List α} {ys : List β}, Paired (fun x y => F x (g y)) xs ys → Paired F xs (ys.map g)
  | _, _, .nil => .nil
  | _, _, .cons a t => .cons a (paired_map t)
section
variable {P : Program} {w : World} {K : PySem.W.Frag} {mg : Str → Option Value} {base : Heap}
theorem scNear : FnScope ["places", "ties", "near", "one", "other", "name"] ["places", "ties"] (defScope sNear) := ⟨rfl, rfl, rfl, by decide +kernel, rfl, by decide +kernel, by decide +kernel⟩
theorem ok_near {f : Addr} {fd : FuncData} {k : Nat} (F : Fun K "_law_near" "_law_near" sNear f fd) (bd : mg "dict" = none) : FnOk P w K mg base CX0 (k + 1) f fd ["places", "ties"] spNear := by
  refine F.ok scNear (fun vs H Q E h => ?_) (fun cdv A outer s H vs Q E hr h => ?_)
  · obtain ⟨p, tl, ns, ts, qs, rfl, _⟩ := h
    rfl
  · obtain ⟨p, tl, ns, ts, qs, rfl, own, e1, e3, e4, q⟩ := h
    have hu := hu_of hr
    refine ⟨_, pss_cons (ps_set (i := 2) scNear.nd rfl (.inl rfl) (pe_callTy (call_dictP rfl) (by rfl) bd PyProof.Rows.boot_dict (pa_cons (pe_lc (own := [("name", 5)]) (g := gName 5) (tt := tYes) rfl scNear.nd (pi_list (pv 0))
        (blkOk_by (N := ["places", "ties", "near", "one", "other", "name"]) (sc := defScope sNear) (by decide +kernel)) (fun _ _ _ _ _ => pg_name (i := 5) scNear.nd rfl (Or.inl rfl)) (fun _ _ _ _ _ => pts_nil)
        (fun _ _ _ _ _ => pe_tup (pa_cons (pv 5) (pa_cons (pe_lst pa_nil) pa_nil)))) pa_nil)))
      (pss_cons (ps_for PassesOwn.never rfl (pi_list (pv 1)) (pg_tup rfl (pgs_cons (pg_name (i := 3) scNear.nd rfl (Or.inl rfl)) (pgs_cons (pg_name (i := 4) scNear.nd rfl (Or.inl rfl)) pgs_nil)))
        (pss_cons (ps_expr (pe_bm PySem.F.plainAttrs_list PySem.F.slot_list_append PySem.F.type_list_append mt_append (pe_dget hu (pv 2) (pv 3) (fun _ _ => rfl)) (pa_cons (pv 4) pa_nil)))
        (pss_one (ps_expr (pe_bm PySem.F.plainAttrs_list PySem.F.slot_list_append PySem.F.type_list_append mt_append (pe_dget hu (pv 2) (pv 4) (fun _ _ => rfl)) (pa_cons (pv 3) pa_nil))))))
      (pss_one (ps_ret (pv 2)))), ?_⟩
    have l40 := own.few
    have l1000 := own.tfew
    have hnd := own.asc.nodup
    refine rs_set ?_
    refine ⟨.ref p, rfl, p, rfl, ⟨_, sql_of e1⟩, fun D nD => lc_list (xs := ns.map V.str) (fun i H' => ∃ f tp, NearUp H D (ns.take i) f H' ∧ H' D = some (.lst (tp.map V.ref)) ∧ Paired (fun q n => H' q = some (.tup [.str n, .ref (f n)])) tp (ns.take i))
      ⟨fun _ => 0, [], ⟨same_upd nD, (fun _ z => nomatch z), (fun _ z => nomatch z)⟩, upd_same, .nil⟩ (fun i H' _ ⟨f, tp, w, _⟩ => sql_of (w.1 _ _ e1)) ?_ ?_⟩
    · rintro i x H' hx ⟨f, tp, w, eD, hp⟩
      obtain ⟨z, hz, rfl⟩ : ∃ z, ns[i]? = some z ∧ x = .str z := by
        rw [List.getElem?_map] at hx
        cases hh : ns[i]? with
        | none => rw [hh] at hx; cases hx
        | some z => rw [hh] at hx; exact ⟨z, rfl, (Option.some.inj hx).symm⟩
      have hi := (List.getElem?_eq_some_iff.mp hz).1
      have hzt := nodup_take hnd hz
      have et : ns.take (i + 1) = ns.take i ++ [z] := by rw [List.take_succ, hz]; rfl
      have htp : tp.length ≤ 200 := by
        rw [Paired.length hp, List.length_take]; omega
      refine ⟨rfl, r_yes ?_⟩
      refine ⟨.str z, rfl, Nat.zero_le _, fun l nl => ⟨by show 2 ≤ sizeLine; decide, fun q' nq => ?_⟩⟩
      have hl : l ≠ D := fun e => by rw [e, eD] at nl; cases nl
      have w1 := (w.new hzt nl hl).keep (same_upd (o := .tup [.str z, .ref l]) nq)
      have eD1 := (same_upd (o := .lst []) nl) _ _ eD
      have hqD : q' ≠ D := fun e => by rw [e, eD1] at nq; cases nq
      refine ⟨tp.map V.ref, (same_upd nq) _ _ eD1, small1000 (by rw [List.length_map]; omega), fun n => if n = z then l else f n, tp ++ [q'], by rw [et]; exact w1.put nD, by rw [upd_same, List.map_append]; rfl, ?_⟩
      rw [et]
      refine Paired.snoc (paired_in (fun q n hn e => ?_) hp) ?_
      · have ne : n ≠ z := fun e => hzt (by rw [← e]; exact hn)
        dsimp only
        rw [if_neg ne, upd_ne (ne_of e eD (fun z => nomatch z)), upd_ne (ne_of_none ((same_upd nl) _ _ e) nq)]
        exact (same_upd nl) _ _ e
      · dsimp only
        rw [if_pos rfl, upd_ne hqD, upd_same]
    · rintro H' ⟨f, tp, w, eD, hp⟩
      rw [List.length_map, List.take_length] at w hp
      refine ⟨D, tp, ns.map fun n => ((Sum.inr n : Key), V.ref (f n)), rfl, sql_of eD, paired_map (paired_mono (fun q n e => sqt_of e) hp), fun d nd => ?_⟩
      rw [mergeK_new (by rw [List.nil_append, List.map_map]; exact List.Pairwise.map _ (fun a b h e => h (Sum.inr.inj e)) hnd), List.nil_append]
      have w1 := w.keep (same_upd (o := .dK (ns.map fun n => ((Sum.inr n : Key), V.ref (f n)))) nd)
      have hd0 : H d = none := w.1.free nd
      have nl0 := w1.done upd_same
      have s0 := w1.1
      have hf0 : ∀ n ∈ ns, H (f n) = none := fun n hn => (w.2.1 n hn).2.1
      generalize (upd H' d (.dK (ns.map fun n => ((Sum.inr n : Key), V.ref (f n))))) = H1 at nl0 s0 ⊢
      clear w w1 hp eD
      refine rs_list tl (qs.map V.ref) (fun Q1 q1 => ⟨_, rfl, q1⟩) (fun i σ' H' => ∃ o3 o4, σ' = [some (.ref p), some (.ref tl), some (.ref d), o3, o4, none] ∧ Same H H' ∧ NearL f H' d ns (nbr (ts.take i)))
        ⟨_, _, rfl, s0, nl0⟩ (fun i σ' H' _ ⟨o3, o4, _, sx, _⟩ => sql_of (sx _ _ e3)) ?_ ?_
      · rintro i x σ2 H2 hx ⟨o3, o4, rfl, sx, nl⟩
        obtain ⟨q', hq', rfl⟩ := map_get hx
        obtain ⟨t, ht, et⟩ := paired_get e4 hq'
        obtain ⟨m1, m2, m3⟩ := own.tie t (List.mem_of_getElem? ht)
        refine ⟨q', [.str t.1, .str t.2], rfl, sqt_of (sx _ _ et), rfl, _, [.str t.2], rfl, _, [], rfl, rfl, ?_⟩
        refine near_turn (t := t) (ts := ts.take i) rfl rfl rfl sx nl hf0 m1 m2 (strLt_ne m3) (by rw [List.length_take]; omega) (fun H3 s3 n3 => ⟨_, _, rfl, s3, by rw [take_snoc ht]; exact n3⟩)
      · rintro σ2 H2 ⟨o3, o4, rfl, sx, nl⟩
        rw [List.length_map, Paired.length e4, List.take_length] at nl
        exact ⟨.ref d, rfl, q d f H2 sx nl hd0 hf0⟩
end
end Hw

set_option Elab.async false
set_option linter.all false
set_option maxRecDepth 100000
set_option maxHeartbeats 4000000
namespace Hw
open PySem L2 PyProof.Rows
abbrev AnyBlk (X : Cx) (scope : Scope) (R : Cx → Prop) : Prop := ∀ (s : Shared) (H : Hp) (C : Addr) (cl : List (Str × Addr)) (fp : List Addr), R (X.blk s H scope (compEnvC scope cl C X.env) fp)
section
variable {X : Cx}
theorem sw_dc {kx vx : Expr} {gs : List Comprehension} {scope : Scope} {pos py : Pos} {y : Str} {l : Nat} {env : Env} (h1 : env.scope.kind = .function) (h2 : env.scope.names.lookup y = some .local) (h3 : (py.line == pos.line) = true)
    (h4 : (scope.names.any fun (n, k) => n == y && (k == .local || k == .cell)) = false) : swapsWith (.DictComp kx vx gs scope pos) (some (.Name y py)) l env = pure true := by
  have a : env.blockKind = .function := by unfold Env.blockKind; rw [h1]; rfl
  have b : env.kindOf y = some .local := h2
  unfold swapsWith
  simp only [a, b, h4, Expr.pos, h3]
  rfl
/-- y = {k: v for ..}, stored while the block stands -/
theorem ps_setDc {i : Nat} {y : Str} {py pos spos : Pos} {kx vx tg iter : Expr} {ifs : List Expr} {scope : Scope} {own : List (Str × Nat)} {wi : TI} {g : TG} {tt : TT} {tk tv : TE} (calm : X.calm = true) (nd : X.N.Nodup) (hy : X.N[i]? = some y) (hyl : X.env.scope.names.lookup y = some .local)
    (sw : swapsWith (.DictComp kx vx [⟨tg, iter, ifs, 0⟩] scope pos) (some (.Name y py)) spos.line X.env = pure true) (walks : PI X tg iter wi) (blk : BlkOk X.N X.env.scope scope own)
    (target : AnyBlk X scope fun Y => PG Y tg g) (tests : AnyBlk X scope fun Y => PTs Y ifs tt) (keys : AnyBlk X scope fun Y => PE Y kx tk) (vals : AnyBlk X scope fun Y => PE Y vx tv) (hs : ∀ x, foldedSetIterable iter X.env x = pure x := by intro _; rfl) :
    PS X (.Assign [.Name y py] (.DictComp kx vx [⟨tg, iter, ifs, 0⟩] scope pos) spos) (tAsg (tDc wi g tt tk tv (own.map (·.2))) (gName i)) := by
  refine ⟨fun pins s σ H D I reading => ?_⟩
  rw [exec_Assign_Name_used _ _ _ _ sw]
  refine wpAny_bind (wpAny_standAt (wpAny_bind ?_))
  show wpAny _ X.A (do let _ ← comprehension (.DictComp kx vx [⟨tg, iter, ifs, 0⟩] scope pos) scope X.env (firstIterPos [⟨tg, iter, ifs, 0⟩] pos) newDict false (eval iter X.env) (some (assign (.Name y py) X.env))) _ _ s
  have reading' : tDc wi g tt tk tv (own.map (·.2)) σ H (fun x H1 => gName i x σ H1 D.nx) := reading
  refine wpAny_bind (thn (dc_core (Qf := fun _ s' => SP X pins D .next s') calm nd I walks blk target tests keys vals hs reading' ?_) fun _ s' done => wpAny_pure (wpAny_pure done))
  intro L C s' m H' I' q ns f
  show wpAny _ _ (assign (.Name y py) X.env (.ref L)) _ _ _
  refine wpAny_assign_Name (store_ok2 (v := V.ref L) I' nd hy (.inl hyl) rfl (fun s2 I2 put => ?_) (.inr hyl))
  obtain ⟨a, sb, ha⟩ := put
  obtain ⟨f0, f1, f2, f3, f4, f5⟩ := f
  have ne : C ≠ a := ha.elim (fun z => by rw [z]; exact f1) (fun z e => f4 y a z e.symm)
  exact ⟨m, ns.sameBut sb ne, fun h3 sb3 => ⟨_, H', I2.turned (t' := s2.toks) (fun b o hb e => (sb3.2 b hb).trans e) f0 f1 f3 f4 f5, q⟩⟩
end
end Hw

set_option Elab.async false
set_option linter.all false
set_option maxRecDepth 100000
set_option maxHeartbeats 4000000
namespace Hw
open PySem L2 PyProof.Rows
abbrev sTied : Stmt := topS 15
/-- places, ties as tuples, and what is told of them -/
structure FineW (ns : List Str) (ts : List Tie) : Prop where
  nd : ns.Nodup
  few : ns.length ≤ 200
  tie : ∀ t ∈ ts, t.1 ∈ ns ∧ t.2 ∈ ns ∧ strLt t.1 t.2 = true
  tfew : ts.length ≤ 100000
def spTied : Sp := fun vs H Q _ => ∃ (p tl : Addr) (ns : List Str) (ts : List Tie) (qs : List Addr), vs = [.ref p, .ref tl] ∧ FineW ns ts ∧ H p = some (.tup (ns.map V.str)) ∧ H tl = some (.tup (qs.map V.ref)) ∧ Paired (TieL H) qs ts ∧
  ∀ d f H', Same H H' → NearL f H' d ns (nbr ts) → H d = none → (∀ n ∈ ns, H (f n) = none) → Q (.ref d) H'
theorem putK_names {ns : List Str} {f : Str → Addr} {z : Str} {l : Addr} (h : z ∉ ns) : putK (ns.map fun n => ((Sum.inr n : Key), V.ref (f n))) (Sum.inr z) (V.ref l) = (ns ++ [z]).map fun n => ((Sum.inr n : Key), V.ref (if n = z then l else f n)) := by
  rw [putK_new _ (by rw [valV_names (g := fun n => V.ref (f n)), if_neg h]), List.map_append]
  congr 1
  · exact List.map_congr_left fun n hn => by rw [if_neg (fun e => h (by rw [← e]; exact hn))]
  · simp
section
variable {P : Program} {w : World} {K : PySem.W.Frag} {mg : Str → Option Value} {base : Heap}
theorem scTied : FnScope ["places", "ties", "tied", "one", "other", "place"] ["places", "ties"] (defScope sTied) := ⟨rfl, rfl, rfl, by decide +kernel, rfl, by decide +kernel, by decide +kernel⟩
theorem ok_tied {f : Addr} {fd : FuncData} {k : Nat} (F : Fun K "tied_by" "tied_by" sTied f fd) : FnOk P w K mg base CX0 (k + 1) f fd ["places", "ties"] spTied := by
  refine F.ok scTied (fun vs H Q E h => ?_) (fun cdv A outer s H vs Q E hr h => ?_)
  · obtain ⟨p, tl, ns, ts, qs, rfl, _⟩ := h
    rfl
  · obtain ⟨p, tl, ns, ts, qs, rfl, own, e1, e3, e4, q⟩ := h
    have hu := hu_of hr
    refine ⟨_, pss_cons (ps_setDc (i := 2) (own := [("place", 5)]) (g := gName 5) (tt := tYes) rfl scTied.nd rfl rfl (sw_dc rfl rfl rfl (by decide +kernel)) (pi_tup (pv 0))
        (blkOk_by (N := ["places", "ties", "tied", "one", "other", "place"]) (sc := defScope sTied) (by decide +kernel)) (fun _ _ _ _ _ => pg_name (i := 5) scTied.nd rfl (Or.inl rfl)) (fun _ _ _ _ _ => pts_nil)
        (fun _ _ _ _ _ => pv 5) (fun _ _ _ _ _ => pe_lst pa_nil))
      (pss_cons (ps_for PassesOwn.never rfl (pi_tup (pv 1)) (pg_tup rfl (pgs_cons (pg_name (i := 3) scTied.nd rfl (Or.inl rfl)) (pgs_cons (pg_name (i := 4) scTied.nd rfl (Or.inl rfl)) pgs_nil)))
        (pss_cons (ps_expr (pe_bm PySem.F.plainAttrs_list PySem.F.slot_list_append PySem.F.type_list_append mt_append (pe_dget hu (pv 2) (pv 3) (fun _ _ => rfl)) (pa_cons (pv 4) pa_nil)))
        (pss_one (ps_expr (pe_bm PySem.F.plainAttrs_list PySem.F.slot_list_append PySem.F.type_list_append mt_append (pe_dget hu (pv 2) (pv 4) (fun _ _ => rfl)) (pa_cons (pv 3) pa_nil))))))
      (pss_one (ps_ret (pv 2)))), ?_⟩
    have l40 := own.few
    have l1000 := own.tfew
    have hnd := own.nd
    refine rs_set ?_
    refine ⟨.ref p, rfl, p, rfl, ⟨_, sqt_of e1⟩, fun D nD => dc_tup (xs := ns.map V.str) (fun i H' => ∃ f, NearUp H D (ns.take i) f H' ∧ H' D = some (.dK ((ns.take i).map fun n => ((Sum.inr n : Key), V.ref (f n)))))
      ⟨fun _ => 0, ⟨same_upd nD, (fun _ z => nomatch z), (fun _ z => nomatch z)⟩, upd_same⟩ (fun i H' _ ⟨f, w, _⟩ => sqt_of (w.1 _ _ e1)) ?_ ?_⟩
    · rintro i x H' hx ⟨f, w, eD⟩
      obtain ⟨z, hz, rfl⟩ := map_get hx
      have hzt := nodup_take hnd hz
      refine ⟨rfl, r_yes ?_⟩
      refine ⟨.str z, rfl, Nat.zero_le _, fun l nl => ?_⟩
      have hl : l ≠ D := fun e => by rw [e, eD] at nl; cases nl
      have w1 := w.new hzt nl hl
      refine ⟨_, Sum.inr z, rfl, (same_upd nl) _ _ eD, small1000 (by rw [List.length_map, List.length_take]; omega), fun n => if n = z then l else f n, by rw [take_snoc hz]; exact w1.put nD, ?_⟩
      rw [upd_same, take_snoc hz, putK_names hzt]
    · rintro H1 ⟨f, w, eD⟩
      rw [List.length_map, List.take_length] at w eD
      have nl0 := w.done eD
      have s0 := w.1
      have hf0 : ∀ n ∈ ns, H (f n) = none := fun n hn => (w.2.1 n hn).2.1
      refine rs_tup tl (qs.map V.ref) (fun Q1 q1 => ⟨_, rfl, q1⟩) (fun i σ' H' => ∃ o3 o4, σ' = [some (.ref p), some (.ref tl), some (.ref D), o3, o4, none] ∧ Same H H' ∧ NearL f H' D ns (nbr (ts.take i)))
        ⟨_, _, rfl, s0, nl0⟩ (fun i σ' H' _ ⟨o3, o4, _, sx, _⟩ => sqt_of (sx _ _ e3)) ?_ ?_
      · rintro i x σ2 H2 hx ⟨o3, o4, rfl, sx, nl⟩
        obtain ⟨q', hq', rfl⟩ := map_get hx
        obtain ⟨t, ht, et⟩ := paired_get e4 hq'
        obtain ⟨m1, m2, m3⟩ := own.tie t (List.mem_of_getElem? ht)
        refine ⟨q', [.str t.1, .str t.2], rfl, sqt_of (sx _ _ et), rfl, _, [.str t.2], rfl, _, [], rfl, rfl, ?_⟩
        refine near_turn (t := t) (ts := ts.take i) rfl rfl rfl sx nl hf0 m1 m2 (strLt_ne m3) (by rw [List.length_take]; omega) (fun H3 s3 n3 => ⟨_, _, rfl, s3, by rw [take_snoc ht]; exact n3⟩)
      · rintro σ2 H2 ⟨o3, o4, rfl, sx, nl⟩
        rw [List.length_map, Paired.length e4, List.take_length] at nl
        exact ⟨.ref D, rfl, q D f H2 sx nl nD hf0⟩
end
end Hw

set_option Elab.async false
set_option linter.all false
set_option maxRecDepth 100000
set_option maxHeartbeats 4000000
namespace Hw
open PySem L2 PyProof.Rows
abbrev sIsName : Stmt := topS 4
theorem low_alpha : ∀ c, 97 ≤ c → c ≤ 122 → Unicode.isAlpha c = true ∧ Unicode.isLower c = true ∧ Unicode.isUpper c = false ∧ Unicode.isTitle c = false ∧ c < 128 := by
  have h : ((List.range 26).all fun i => Unicode.isAlpha (97 + i) && Unicode.isLower (97 + i) && !Unicode.isUpper (97 + i) && !Unicode.isTitle (97 + i)) = true := by decide +kernel
  intro c h1 h2
  have := List.all_eq_true.mp h (c - 97) (List.mem_range.mpr (by omega))
  rw [show 97 + (c - 97) = c by omega] at this
  simp only [Bool.and_eq_true, Bool.not_eq_true'] at this
  obtain ⟨⟨⟨a, b⟩, d⟩, e⟩ := this
  exact ⟨a, b, d, e, by omega⟩
theorem cps_mem {z : Str} {c : Nat} (h : c ∈ z.cps) : c ∈ z.cps.toList := by simpa using h
theorem nm_ascii {z : Str} (h : Nm z) : Txt.isascii z = true := by
  unfold Txt.isascii
  refine Array.all_eq_true_iff_forall_mem.mpr fun c hc => ?_
  have := h.2.2 c (cps_mem hc)
  exact decide_eq_true (by omega)
theorem nm_ne {z : Str} (h : Nm z) : ∃ c, c ∈ z.cps := by
  have h1 := h.1
  exact ⟨z.cps[0], Array.getElem_mem _⟩
theorem nm_alpha {z : Str} (h : Nm z) : Txt.isalpha z = true := by
  unfold Txt.isalpha
  rw [Bool.and_eq_true]
  refine ⟨?_, Array.all_eq_true_iff_forall_mem.mpr fun c hc => (low_alpha c (h.2.2 c (cps_mem hc)).1 (h.2.2 c (cps_mem hc)).2).1⟩
  have h1 := h.1
  exact decide_eq_true (by omega)
theorem nm_lower {z : Str} (h : Nm z) : Txt.islower z = true := by
  unfold Txt.islower
  obtain ⟨c, hc⟩ := nm_ne h
  have l := fun c (hc : c ∈ z.cps) => low_alpha c (h.2.2 c (cps_mem hc)).1 (h.2.2 c (cps_mem hc)).2
  rw [Bool.and_eq_true]
  refine ⟨Array.any_eq_true.mpr ?_, ?_⟩
  · obtain ⟨i, hi, rfl⟩ := Array.mem_iff_getElem.mp hc
    exact ⟨i, hi, (l _ hc).2.1⟩
  · rw [Bool.not_eq_true', Array.any_eq_false]
    intro i hi
    obtain ⟨_, _, a, b, _⟩ := l _ (Array.getElem_mem hi)
    rw [a, b]; decide
def spIsName : Sp := fun vs H Q _ => ∃ z, vs = [.str z] ∧ Nm z ∧ Q (.bl true) H
/-- more names of the built-ins -/
structure Blt3 (mg : Str → Option Value) : Prop where
  isi : mg "isinstance" = none
  str : mg "str" = none
  tuple : mg "tuple" = none
  all : mg "all" = none
  zip : mg "zip" = none
  enum : mg "enumerate" = none
  dict : mg "dict" = none
  sorted : mg "sorted" = none
  lnm : ∃ t, mg "LONGEST_NAME" = some (.int 8 t)
  mst : ∃ t, mg "MOST_PLACES" = some (.int 200 t)
section
variable {P : Program} {w : World} {K : PySem.W.Frag} {mg : Str → Option Value} {base : Heap}
theorem scIsName : FnScope ["value"] ["value"] (defScope sIsName) := ⟨rfl, rfl, rfl, by decide +kernel, rfl, by decide +kernel, by decide +kernel⟩
theorem ok_isname {f : Addr} {fd : FuncData} {k : Nat} (F : Fun K "is_name" "is_name" sIsName f fd) (B : Blt mg) (B3 : Blt3 mg) : FnOk P w K mg base CX0 (k + 1) f fd ["value"] spIsName := by
  refine F.ok scIsName (fun vs H Q E h => ?_) (fun cdv A outer s H vs Q E hr h => ?_)
  · obtain ⟨z, rfl, _⟩ := h
    rfl
  · obtain ⟨z, rfl, hz, q⟩ := h
    obtain ⟨t, gL⟩ := B3.lnm
    refine ⟨_, pss_one (ps_ret (pe_and (pe_callB call_isi (by rfl) B3.isi PyProof.Rows.boot_isinstance (pa_cons (pv 0) (pa_cons (pe_bltn (v := .ty "str") (by rfl) B3.str (by decide +kernel) rfl) pa_nil)))
      (pe_and (pe_cmpR op_le (pe_callB call_len_str (by rfl) B.len PySem.boot_len (pa_cons (pv 0) pa_nil)) (pe_glob (v := .int 8) (by rfl) gL ⟨_, rfl⟩) (nomark _))
      (pe_and (pe_m0 PySem.F.slot_str_isascii PySem.F.type_str_isascii mt_isascii (pv 0)) (pe_and (pe_m0 PySem.F.slot_str_isalpha PySem.F.type_str_isalpha mt_isalpha (pv 0)) (pe_one (pe_m0 PySem.F.slot_str_islower PySem.F.type_str_islower mt_islower (pv 0)))))))), ?_⟩
    refine ⟨.str z, rfl, .str z, .ty "str", .type "str", .type "str", true, rfl, .ty _, .base (.str z), kit_ty (by decide +kernel), true, rfl, ?_⟩
    refine ⟨.str z, rfl, z, rfl, Nat.le_of_lt (small1000 (by have := hz.2.1; omega)), _, _, rfl, rfl, true, congrArg V.bl (decide_eq_true (by have := hz.2.1; omega)), ?_⟩
    refine ⟨.str z, rfl, ⟨_, rfl⟩, z, rfl, rfl, trivial, true, congrArg V.bl (nm_ascii hz), ?_⟩
    refine ⟨.str z, rfl, ⟨_, rfl⟩, z, rfl, rfl, trivial, true, congrArg V.bl (nm_alpha hz), ?_⟩
    refine ⟨.str z, rfl, ⟨_, rfl⟩, z, rfl, rfl, trivial, ?_⟩
    rw [nm_lower hz]
    exact q
end
end Hw

set_option Elab.async false
set_option linter.all false
set_option maxRecDepth 100000
set_option maxHeartbeats 4000000
namespace Hw
open PySem L2 PyProof.Rows
abbrev sAsc : Stmt := topS 5
abbrev sArePl : Stmt := topS 19
def spAsc (K : PySem.W.Frag) : Sp := fun vs H Q _ => ∃ (p : Addr) (zs : List Str), vs = [.ref p] ∧ SqT K H p (zs.map V.str) ∧ Asc zs ∧ zs.length ≤ 1000 ∧ ∀ H', Same H H' → Q (.bl true) H'
theorem cut1 {xs : List V} : cutV xs (some 1) none = xs.drop 1 := by
  unfold cutV
  rw [show HT.sIx xs.length 0 (some 1) = min 1 xs.length from HT.sIx_nat _ 0 1, HT.sIx_none]
  have e : xs.drop (min 1 xs.length) = xs.drop 1 := by
    by_cases h : 1 ≤ xs.length
    · rw [Nat.min_eq_left h]
    · rw [Nat.min_eq_right (by omega), List.drop_of_length_le (Nat.le_refl _), List.drop_of_length_le (by omega)]
  rw [e]
  refine List.take_of_length_le ?_
  rw [List.length_drop]; omega
theorem sqT_same {K : PySem.W.Frag} {H H' : Hp} {p : Addr} {xs : List V} (h : SqT K H p xs) (s : Same H H') : SqT K H' p xs := by
  rcases h with (h | ⟨o, h⟩) | h
  · exact .inl (.inl (s _ _ h))
  · exact .inl (.inr ⟨o, s _ _ h⟩)
  · exact .inr h
theorem sqL_same {K : PySem.W.Frag} {H H' : Hp} {p : Addr} {xs : List V} (h : SqL K H p xs) (s : Same H H') : SqL K H' p xs := by
  rcases h with (h | ⟨o, h⟩) | h
  · exact .inl (.inl (s _ _ h))
  · exact .inl (.inr ⟨o, s _ _ h⟩)
  · exact .inr h
theorem asc_at {zs : List Str} (ha : Asc zs) {i : Nat} {x y : Str} (h1 : zs[i]? = some x) (h2 : zs[i + 1]? = some y) : x.cps.toList < y.cps.toList := by
  obtain ⟨p1, rfl⟩ := List.getElem?_eq_some_iff.mp h1
  obtain ⟨p2, rfl⟩ := List.getElem?_eq_some_iff.mp h2
  exact of_decide_eq_true (List.pairwise_iff_getElem.mp ha i (i + 1) p1 p2 (by omega))
theorem all_rep (n : Nat) : (List.replicate n true).all id = true := by
  rw [List.all_eq_true]
  intro x hx
  rw [(List.mem_replicate.mp hx).2]; rfl
section
variable {P : Program} {w : World} {K : PySem.W.Frag} {mg : Str → Option Value} {base : Heap}
theorem scAsc : FnScope ["values", "one", "other"] ["values"] (defScope sAsc) := ⟨rfl, rfl, rfl, by decide +kernel, rfl, by decide +kernel, by decide +kernel⟩
theorem ok_asc {f : Addr} {fd : FuncData} {k : Nat} (F : Fun K "ascends" "ascends" sAsc f fd) (B3 : Blt3 mg) : FnOk P w K mg base CX0 (k + 1) f fd ["values"] (spAsc K) := by
  refine F.ok scAsc (fun vs H Q E h => ?_) (fun cdv A outer s H vs Q E hr h => ?_)
  · obtain ⟨p, zs, rfl, _⟩ := h
    rfl
  · obtain ⟨p, zs, rfl, hp, ha, hl, q⟩ := h
    refine ⟨_, pss_one (ps_ret (pe_callB (cr_all rfl) (by rfl) B3.all PyProof.Rows.boot_all (pa_cons (pe_lc (own := [("one", 1), ("other", 2)]) (g := gTup _ 2 (gCons (gName 1) (gCons (gName 2) gNil))) (tt := tYes) rfl scAsc.nd
        (RZ.pi_zipA (by rfl) B3.zip (pa_cons (pv 0) (pa_cons (pe_slice sl_tupA (pv 0) (po_some pe_int) po_none) pa_nil))) (blkOk_by (N := ["values", "one", "other"]) (sc := defScope sAsc) (by decide +kernel))
        (fun _ _ _ _ _ => pg_tup rfl (pgs_cons (pg_name (i := 1) scAsc.nd rfl (Or.inl rfl)) (pgs_cons (pg_name (i := 2) scAsc.nd rfl (Or.inl rfl)) pgs_nil))) (fun _ _ _ _ _ => pts_nil) (fun _ _ _ _ _ => pe_cmpR op_lt_str (pv 1) (pv 2) (nomark _))) pa_nil))), ?_⟩
    refine ⟨.ref p, rfl, .ref p, rfl, 1, rfl, p, zs.map V.str, rfl, hp, fun hw => ?_, fun hw b nb => ?_⟩
    · obtain ⟨H1, eH1⟩ : ∃ H1, H1 = H := ⟨H, rfl⟩
      have s1 : Same H H1 := by rw [eH1]; exact Same.refl H
      have hb : SqT K H1 p ((zs.map V.str).drop 1) := by
        have e0 : (zs.map V.str).length = 0 := by
          have := hw.1
          rw [show HT.sIx (zs.map V.str).length 0 (some 1) = min 1 (zs.map V.str).length from HT.sIx_nat _ 0 1] at this
          omega
        rw [List.length_eq_zero_iff.mp e0] at hp ⊢
        rw [eH1]; exact hp
      rw [← eH1]
      refine ⟨p, _, zs.map V.str, (zs.map V.str).drop 1, rfl, .inr ⟨sqT_same hp s1, hb, fun D hD => lc_it (walk_zipT rfl) (fun i H' => Same H H' ∧ Same H1 H' ∧ H' D = some (.lst ((List.replicate i true).map V.bl))) ⟨s1.trans (same_upd hD), same_upd hD, upd_same⟩ (fun i H' _ h => ⟨sqT_same hp h.1, sqT_same hb h.2.1⟩) ?_ ?_⟩⟩
      · rintro i x H' H'' hi ⟨sx, sx1, eD⟩ ⟨T, x1, x2, rfl, nT, rfl, g1, g2⟩
        obtain ⟨z1, h1, rfl⟩ := map_get g1
        have g2 : ((zs.map V.str).drop 1)[i]? = some x2 := g2
        rw [List.getElem?_drop] at g2
        obtain ⟨z2, h2, rfl⟩ := map_get g2
        refine ⟨T, [.str z1, .str z2], rfl, sqt_of upd_same, rfl, _, [.str z2], rfl, _, [], rfl, rfl, rfl, r_yes ?_⟩
        have hlt : z1.cps.toList < z2.cps.toList := asc_at ha h1 (by rw [Nat.add_comm] at h2; exact h2)
        have hi1 := (List.getElem?_eq_some_iff.mp h1).1
        refine ⟨.str z1, rfl, .str z2, rfl, z1, z2, rfl, rfl, _, (same_upd nT) _ _ eD, small1000 (by rw [List.length_map, List.length_replicate]; omega), ?_, ?_, ?_⟩
        · intro b o e
          rw [upd_ne (ne_of_none (s1 _ _ e) hD)]
          exact (same_upd nT) _ _ (sx _ _ e)
        · intro b o e
          rw [upd_ne (ne_of_none e hD)]
          exact (same_upd nT) _ _ (sx1 _ _ e)
        · rw [upd_same, decide_eq_true hlt, List.replicate_succ', List.map_append]; rfl
      · rintro H' ⟨sx, sx1, eD⟩
        refine ⟨D, _, rfl, sql_of eD, ?_⟩
        rw [all_rep]
        exact q H' sx
    · have s1 : Same H (upd H b (.tup (cutV (zs.map V.str) (some 1) none))) := same_upd nb
      have hb : SqT K (upd H b (.tup (cutV (zs.map V.str) (some 1) none))) b ((zs.map V.str).drop 1) := by
        rw [cut1] 
        exact sqt_of upd_same
      generalize (upd H b (.tup (cutV (zs.map V.str) (some 1) none))) = H1 at s1 hb ⊢
      refine ⟨p, _, zs.map V.str, (zs.map V.str).drop 1, rfl, .inr ⟨sqT_same hp s1, hb, fun D hD => lc_it (walk_zipT rfl) (fun i H' => Same H H' ∧ Same H1 H' ∧ H' D = some (.lst ((List.replicate i true).map V.bl))) ⟨s1.trans (same_upd hD), same_upd hD, upd_same⟩ (fun i H' _ h => ⟨sqT_same hp h.1, sqT_same hb h.2.1⟩) ?_ ?_⟩⟩
      · rintro i x H' H'' hi ⟨sx, sx1, eD⟩ ⟨T, x1, x2, rfl, nT, rfl, g1, g2⟩
        obtain ⟨z1, h1, rfl⟩ := map_get g1
        have g2 : ((zs.map V.str).drop 1)[i]? = some x2 := g2
        rw [List.getElem?_drop] at g2
        obtain ⟨z2, h2, rfl⟩ := map_get g2
        refine ⟨T, [.str z1, .str z2], rfl, sqt_of upd_same, rfl, _, [.str z2], rfl, _, [], rfl, rfl, rfl, r_yes ?_⟩
        have hlt : z1.cps.toList < z2.cps.toList := asc_at ha h1 (by rw [Nat.add_comm] at h2; exact h2)
        have hi1 := (List.getElem?_eq_some_iff.mp h1).1
        refine ⟨.str z1, rfl, .str z2, rfl, z1, z2, rfl, rfl, _, (same_upd nT) _ _ eD, small1000 (by rw [List.length_map, List.length_replicate]; omega), ?_, ?_, ?_⟩
        · intro b o e
          rw [upd_ne (ne_of_none (s1 _ _ e) hD)]
          exact (same_upd nT) _ _ (sx _ _ e)
        · intro b o e
          rw [upd_ne (ne_of_none e hD)]
          exact (same_upd nT) _ _ (sx1 _ _ e)
        · rw [upd_same, decide_eq_true hlt, List.replicate_succ', List.map_append]; rfl
      · rintro H' ⟨sx, sx1, eD⟩
        refine ⟨D, _, rfl, sql_of eD, ?_⟩
        rw [all_rep]
        exact q H' sx
end
end Hw

set_option Elab.async false
set_option linter.all false
set_option maxRecDepth 100000
set_option maxHeartbeats 4000000
namespace Hw
open PySem L2 PyProof.Rows
abbrev sIsTie : Stmt := topS 20
def spArePl : Sp := fun vs H Q _ => ∃ (p : Addr) (zs : List Str), vs = [.ref p] ∧ H p = some (.tup (zs.map V.str)) ∧ Asc zs ∧ (∀ z ∈ zs, Nm z) ∧ zs.length ≤ 200 ∧ ∀ H', Same H H' → Q (.bl true) H'
/-- a tie of known places -/
def spIsTie : Sp := fun vs H Q _ => ∃ (p d : Addr) (ns : List Str) (t : Tie), vs = [.ref p, .ref d] ∧ H p = some (.tup [.str t.1, .str t.2]) ∧ H d = some (.dK (ns.map fun z => ((Sum.inr z : Key), V.bl true))) ∧ t.1 ∈ ns ∧ t.2 ∈ ns ∧ strLt t.1 t.2 = true ∧ ∀ H', Same H H' → Q (.bl true) H'
section
variable {P : Program} {w : World} {K : PySem.W.Frag} {mg : Str → Option Value} {base : Heap}
theorem scArePl : FnScope ["value", "place"] ["value"] (defScope sArePl) := ⟨rfl, rfl, rfl, by decide +kernel, rfl, by decide +kernel, by decide +kernel⟩
theorem ok_arepl {f fN fA : Addr} {fd fdN fdA : FuncData} {k : Nat} (F : Fun K "are_places" "are_places" sArePl f fd) (B : Blt mg) (B3 : Blt3 mg) (GN : FnOk P w K mg base CX0 k fN fdN ["value"] spIsName) (gN : mg "is_name" = some (.ref fN)) (kN : PySem.W.keepIn K (.ref fN) = true) (bN : Binds K fdN ["value"] [])
    (GA : FnOk P w K mg base CX0 k fA fdA ["values"] (spAsc K)) (gA : mg "ascends" = some (.ref fA)) (kA : PySem.W.keepIn K (.ref fA) = true) (bA : Binds K fdA ["values"] []) : FnOk P w K mg base CX0 (k + 1) f fd ["value"] spArePl := by
  refine F.ok scArePl (fun vs H Q E h => ?_) (fun cdv A outer s H vs Q E hr h => ?_)
  · obtain ⟨p, zs, rfl, _⟩ := h
    rfl
  · obtain ⟨p, zs, rfl, hp, ha, hn, hl, q⟩ := h
    obtain ⟨t, gL⟩ := B3.mst
    refine ⟨_, pss_one (ps_ret (pe_and (pe_callB call_isi (by rfl) B3.isi PyProof.Rows.boot_isinstance (pa_cons (pv 0) (pa_cons (pe_bltn (v := .ty "tuple") (by rfl) B3.tuple (by decide +kernel) rfl) pa_nil)))
      (pe_and (pe_cmpR op_le (pe_callB call_len_seq (by rfl) B.len PySem.boot_len (pa_cons (pv 0) pa_nil)) (pe_glob (v := .int 200) (by rfl) gL ⟨_, rfl⟩) (nomark _))
      (pe_and (pe_callB (cr_all rfl) (by rfl) B3.all PyProof.Rows.boot_all (pa_cons (pe_lc (own := [("place", 1)]) (g := gName 1) (tt := tYes) rfl scArePl.nd (pi_tup (pv 0)) (blkOk_by (N := ["value", "place"]) (sc := defScope sArePl) (by decide +kernel))
          (fun _ _ _ _ _ => pg_name (i := 1) scArePl.nd rfl (Or.inl rfl)) (fun _ _ _ _ _ => pts_nil) (fun _ _ _ _ _ => pe_call GN hr (by rfl) gN kN bN .nil pass0 (pa_cons (pv 1) pa_nil))) pa_nil))
        (pe_one (pe_call GA hr (by rfl) gA kA bA .nil pass0 (pa_cons (pv 0) pa_nil))))))), ?_⟩
    refine ⟨.ref p, rfl, .ref p, .ty "tuple", .type "tuple", .type "tuple", true, rfl, .ty _, .base (.tup hp), kit_ty (by decide +kernel), true, rfl, ?_⟩
    refine ⟨.ref p, rfl, p, zs.map V.str, rfl, .inr (sqt_of hp), _, _, rfl, rfl, true, congrArg V.bl (decide_eq_true (by rw [List.length_map]; omega)), ?_⟩
    refine ⟨.ref p, rfl, p, rfl, ⟨_, sqt_of hp⟩, fun D hD => lc_tup (xs := zs.map V.str) (fun i H' => Same H H' ∧ H' D = some (.lst ((List.replicate i true).map V.bl))) ⟨same_upd hD, upd_same⟩ (fun i H' _ h => sqt_of (h.1 _ _ hp)) ?_ ?_⟩
    · rintro i x H' hx ⟨sx, eD⟩
      obtain ⟨z, hz, rfl⟩ := map_get hx
      have hi := (List.getElem?_eq_some_iff.mp hz).1
      refine ⟨rfl, r_yes ?_⟩
      refine ⟨.str z, rfl, z, rfl, hn z (List.mem_of_getElem? hz), _, eD, small1000 (by rw [List.length_map, List.length_replicate]; omega), ?_, ?_⟩
      · intro b o e
        rw [upd_ne (ne_of_none e hD)]
        exact sx _ _ e
      · rw [upd_same, List.replicate_succ', List.map_append]; rfl
    · rintro H' ⟨sx, eD⟩
      refine ⟨D, _, rfl, sql_of eD, true, congrArg V.bl (all_rep _), ?_⟩
      exact ⟨.ref p, rfl, p, zs, rfl, sqt_of (sx _ _ hp), ha, by omega, fun H'' s'' => q H'' (sx.trans s'')⟩
theorem scIsTie : FnScope ["value", "known", "place"] ["value", "known"] (defScope sIsTie) := ⟨rfl, rfl, rfl, by decide +kernel, rfl, by decide +kernel, by decide +kernel⟩
theorem ok_istie {f : Addr} {fd : FuncData} {k : Nat} (F : Fun K "is_tie" "is_tie" sIsTie f fd) (B : Blt mg) (B3 : Blt3 mg) : FnOk P w K mg base CX0 (k + 1) f fd ["value", "known"] spIsTie := by
  refine F.ok scIsTie (fun vs H Q E h => ?_) (fun cdv A outer s H vs Q E hr h => ?_)
  · obtain ⟨p, d, ns, t, rfl, _⟩ := h
    rfl
  · obtain ⟨p, d, ns, t, rfl, hp, hd, m1, m2, hlt, q⟩ := h
    have hu := hu_of hr
    refine ⟨_, pss_one (ps_ret (pe_and (pe_callB call_isi (by rfl) B3.isi PyProof.Rows.boot_isinstance (pa_cons (pv 0) (pa_cons (pe_bltn (v := .ty "tuple") (by rfl) B3.tuple (by decide +kernel) rfl) pa_nil)))
      (pe_and (pe_cmpR op_eq (pe_callB call_len_seq (by rfl) B.len PySem.boot_len (pa_cons (pv 0) pa_nil)) pe_int (nomark _))
      (pe_and (pe_callB (cr_all rfl) (by rfl) B3.all PyProof.Rows.boot_all (pa_cons (pe_lc (own := [("place", 2)]) (g := gName 2) (tt := tYes) (te := tAndV (tCB (rIsi K) (tCons (tVar 2) (tCons (tC (.ty "str")) tNil))) (tDIn (tVar 2) (tVar 1))) rfl scIsTie.nd (pi_tup (pv 0)) (blkOk_by (N := ["value", "known", "place"]) (sc := defScope sIsTie) (by decide +kernel))
          (fun _ _ _ _ _ => pg_name (i := 2) scIsTie.nd rfl (Or.inl rfl)) (fun _ _ _ _ _ => pts_nil)
          (fun _ _ _ _ _ => pe_and (pe_callB call_isi (by rfl) B3.isi PyProof.Rows.boot_isinstance (pa_cons (pv 2) (pa_cons (pe_bltn (v := .ty "str") (by rfl) B3.str (by decide +kernel) rfl) pa_nil))) (pe_one (pe_cmp (pc_din hu (pv 2) (pv 1)) rfl)))) pa_nil))
        (pe_one (pe_cmpR op_lt_str (pe_ix ix_tup (pv 0) pe_int (fun _ _ => rfl)) (pe_ix ix_tup (pv 0) pe_int (fun _ _ => rfl)) (nomark _))))))), ?_⟩
    have hin : ∀ z ∈ ns, (valV (ns.map fun z => ((Sum.inr z : Key), V.bl true)) (Sum.inr z)).isSome = true := fun z hz => by rw [valV_names (g := fun _ => V.bl true), if_pos hz]; rfl
    refine ⟨.ref p, rfl, .ref p, .ty "tuple", .type "tuple", .type "tuple", true, rfl, .ty _, .base (.tup hp), kit_ty (by decide +kernel), true, rfl, ?_⟩
    refine ⟨.ref p, rfl, p, [.str t.1, .str t.2], rfl, .inr (sqt_of hp), rfl, true, rfl, ?_⟩
    refine ⟨.ref p, rfl, p, rfl, ⟨_, sqt_of hp⟩, fun D hD => lc_tup (xs := [.str t.1, .str t.2]) (fun i H' => Same H H' ∧ H' D = some (.lst ((List.replicate i true).map V.bl))) ⟨same_upd hD, upd_same⟩ (fun i H' _ h => sqt_of (h.1 _ _ hp)) ?_ ?_⟩
    · rintro i x H' hx ⟨sx, eD⟩
      obtain ⟨z, hz, rfl⟩ : ∃ z ∈ ns, x = .str z := by
        rcases List.mem_cons.mp (List.mem_of_getElem? hx) with rfl | hx
        · exact ⟨_, m1, rfl⟩
        · exact ⟨_, m2, List.mem_singleton.mp hx⟩
      have hi : i < 2 := (List.getElem?_eq_some_iff.mp hx).1
      refine ⟨rfl, r_yes ?_⟩
      refine ⟨.str z, rfl, .str z, .ty "str", .type "str", .type "str", true, rfl, .ty _, .base (.str z), kit_ty (by decide +kernel), true, rfl, ?_⟩
      refine ⟨.str z, rfl, .ref d, rfl, d, _, rfl, DGet.k (k := Sum.inr z) (sx _ _ hd), _, eD, small1000 (by rw [List.length_map, List.length_replicate]; omega), ?_, ?_⟩
      · intro b o e
        rw [upd_ne (ne_of_none e hD)]
        exact sx _ _ e
      · rw [hin z hz, upd_same, List.replicate_succ', List.map_append]; rfl
    · rintro H' ⟨sx, eD⟩
      refine ⟨D, _, rfl, sql_of eD, true, congrArg V.bl (all_rep _), ?_⟩
      have e' := sx _ _ hp
      refine ⟨.ref p, rfl, p, [.str t.1, .str t.2], 0, .str t.1, rfl, rfl, sqt_of e', rfl, .ref p, rfl, p, [.str t.1, .str t.2], 1, .str t.2, rfl, rfl, sqt_of e', rfl, t.1, t.2, rfl, rfl, ?_⟩
      have e : decide (t.1.cps.toList < t.2.cps.toList) = true := hlt
      rw [e]
      exact q H' sx
end
end Hw

set_option Elab.async false
set_option linter.all false
set_option maxRecDepth 100000
set_option maxHeartbeats 4000000
namespace Hw
open PySem L2 PyProof.Rows
abbrev sReadT : Stmt := topS 18
abbrev sReadW : Stmt := topS 17
/-! a text joined, split -/
theorem nm_no {z : Str} (h : Nm z) {c : Nat} (hc : c < 97) : c ∉ z.cps.toList := fun hm => by have := (h.2.2 c hm).1; omega
theorem split_bl {ps : List Str} (hne : ps ≠ []) (h : ∀ p ∈ ps, 32 ∉ p.cps.toList) : Txt.split (Txt.join sBl ps) sBl = ps := TL.split_join (s := 32) (S := []) rfl (by decide +kernel) hne h
theorem split_nl {ps : List Str} (hne : ps ≠ []) (h : ∀ p ∈ ps, 10 ∉ p.cps.toList) : Txt.split (Txt.join sNl ps) sNl = ps := TL.split_join (s := 10) (S := []) rfl (by decide +kernel) hne h
theorem nmtie {ns : List Str} {ts : List Tie} (nm : ∀ z ∈ ns, Nm z) {t : Tie} (h1 : t.1 ∈ ns) (h2 : t.2 ∈ ns) : Txt.split (tieLine t) sBl = [Str.ofString "tie", t.1, t.2] := by
  refine split_bl (by simp) fun p hp => ?_
  rcases List.mem_cons.mp hp with rfl | hp
  · decide +kernel
  · rcases List.mem_cons.mp hp with rfl | hp
    · exact nm_no (nm _ h1) (by decide)
    · rw [List.mem_singleton.mp hp]; exact nm_no (nm _ h2) (by decide)
theorem tieLine_len {ns : List Str} (nm : ∀ z ∈ ns, Nm z) {t : Tie} (h1 : t.1 ∈ ns) (h2 : t.2 ∈ ns) : (tieLine t).length ≤ 22 := by
  refine Nat.le_trans (join_len _ _) ?_
  have a := (nm _ h1).2.1
  have b := (nm _ h2).2.1
  have e1 : (Str.ofString "tie").length = 3 := by decide +kernel
  have e2 : sBl.length = 1 := by decide +kernel
  simp only [List.map_cons, List.map_nil, List.sum_cons, List.sum_nil, List.length_cons, List.length_nil, e1, e2]
  omega
/-- of two ties the later one is not ahead of the earlier one -/
theorem le_tie {t u : Tie} (h : ltP u t = true) : Ob.lexAt (fun j => [t.1, t.2].getD j (Str.ofString "") == [u.1, u.2].getD j (Str.ofString "")) (fun j => !strLt ([u.1, u.2].getD j (Str.ofString "")) ([t.1, t.2].getD j (Str.ofString ""))) (decide ([t.1, t.2].length ≤ [u.1, u.2].length)) 0 (min [t.1, t.2].length [u.1, u.2].length) = false := by
  show (if (t.1 == u.1) = true then (if (t.2 == u.2) = true then _ else !strLt u.2 t.2) else !strLt u.1 t.1) = false
  rw [ltP_iff] at h
  rcases h with h | ⟨e, h⟩
  · have ne : ¬ (t.1 == u.1) = true := by
      intro e
      rw [beq_iff_eq.mp e, strLt_irr] at h; cases h
    rw [if_neg ne, h]; rfl
  · have ne : ¬ (t.2 == u.2) = true := by
      intro e
      rw [beq_iff_eq.mp e, strLt_irr] at h; cases h
    rw [if_pos (beq_iff_eq.mpr e.symm), if_neg ne, h]; rfl
theorem nil_or_snoc {α : Type} (l : List α) : l = [] ∨ ∃ m x, l = m ++ [x] := by
  rcases List.eq_nil_or_concat l with h | ⟨m, x, h⟩
  · exact .inl h
  · exact .inr ⟨m, x, by rw [h, List.concat_eq_append]⟩
def spReadT : Sp := fun vs H Q _ => ∃ (l p : Addr) (z0 : Str) (ns : List Str) (ts : List Tie), vs = [.ref l, .ref p] ∧ H l = some (.lst ((z0 :: ts.map tieLine).map V.str)) ∧ H p = some (.tup (ns.map V.str)) ∧ FineW ns ts ∧ (∀ z ∈ ns, Nm z) ∧ AscP ts ∧
  ∀ t qs H', Same H H' → H' t = some (.tup (qs.map V.ref)) → Paired (TieL H') qs ts → Q (.ref t) H'
theorem rs_enumK {K : PySem.W.Frag} {wi : TI} {g : TG} {tb u : TS} {D : Ends} {σ : L2.St} {H : Hp} (k : Int) (xs : List V) (P0 : Addr → Hp → Prop) (Pv : Addr → Nat → L2.St → Hp → Prop) (hw : ∀ R : It → Hp → Prop, (∀ a H1, P0 a H1 → R (IteK K a k) H1) → wi σ H R) (h0 : ∀ a H1, P0 a H1 → Pv a 0 σ H1)
    (hG : ∀ a j σ H, j ≤ xs.length → Pv a j σ H → SqL K H a xs) (turn : ∀ a j x σ H T, j < xs.length → Pv a j σ H → H T = none → xs[j]? = some x → g (.ref T) σ (upd H T (.tup [.int (k + (j : Nat)), x])) fun σ2 H2 => tb { D with nx := Pv a (j + 1), ct := Pv a (j + 1), bk := u D } σ2 H2)
    (done : ∀ a σ H, Pv a xs.length σ H → u D σ H) : tSeq (tFor wi g tb) u D σ H :=
  hw _ fun a H1 p => for_it (D := { D with nx := u D }) walk_enumK (Pv a) (h0 a H1 p) (hG a) (fun j x σ H H' hj hp ⟨T, xa, ya, ex, nT, eH, e1, e2⟩ => by
    subst ex eH
    obtain rfl : V.int (k + (j : Nat)) = xa := Option.some.inj e1
    exact turn a j ya σ H T hj hp nT e2) (done a)
theorem rs_no {t : TT} {A u : TS} {D : Ends} {σ : L2.St} {H : Hp} (h : t σ H fun b H1 => if b = true then A { D with nx := u D } σ H1 else u D σ H1) : tSeq (tIfS t A tNext) u D σ H := h
section
variable {P : Program} {w : World} {K : PySem.W.Frag} {mg : Str → Option Value} {base : Heap}
theorem scReadT : FnScope ["lines", "places", "known", "ties", "number", "line", "words", "tie", "place"] ["lines", "places"] (defScope sReadT) := ⟨rfl, rfl, rfl, by decide +kernel, rfl, by decide +kernel, by decide +kernel⟩
theorem ok_readt {f fT : Addr} {fd fdT : FuncData} {k : Nat} (F : Fun K "read_ties" "read_ties" sReadT f fd) (B : Blt mg) (B3 : Blt3 mg) (GT : FnOk P w K mg base CX0 k fT fdT ["value", "known"] spIsTie) (gT : mg "is_tie" = some (.ref fT)) (kT : PySem.W.keepIn K (.ref fT) = true) (bT : Binds K fdT ["value", "known"] []) :
    FnOk P w K mg base CX0 (k + 1) f fd ["lines", "places"] spReadT := by
  refine F.ok scReadT (fun vs H Q E h => ?_) (fun cdv A outer s H vs Q E hr h => ?_)
  · obtain ⟨l, p, z0, ns, ts, rfl, _⟩ := h
    rfl
  · obtain ⟨l, p, z0, ns, ts, rfl, el, ep, own, nm, asc, q⟩ := h
    have hu := hu_of hr
    have hu0 := hr.units0
    refine ⟨_, pss_cons (ps_setDc (i := 2) (own := [("place", 8)]) (g := gName 8) (tt := tYes) rfl scReadT.nd rfl rfl (sw_dc rfl rfl rfl (by decide +kernel)) (pi_tup (pv 1))
        (blkOk_by (N := ["lines", "places", "known", "ties", "number", "line", "words", "tie", "place"]) (sc := defScope sReadT) (by decide +kernel)) (fun _ _ _ _ _ => pg_name (i := 8) scReadT.nd rfl (Or.inl rfl)) (fun _ _ _ _ _ => pts_nil)
        (fun _ _ _ _ _ => pv 8) (fun _ _ _ _ _ => pe_bl))
      (pss_cons (ps_set (i := 3) scReadT.nd rfl (.inl rfl) (pe_lst pa_nil))
      (pss_cons (ps_for PassesOwn.never rfl (pi_enumK (by rfl) B3.enum (pa_cons (pe_slice sl_list (pv 0) (po_some pe_int) po_none) pa_nil) (pk_cons pe_int pk_nil)) (pg_tup rfl (pgs_cons (pg_name (i := 4) scReadT.nd rfl (Or.inl rfl)) (pgs_cons (pg_name (i := 5) scReadT.nd rfl (Or.inl rfl)) pgs_nil)))
        (pss_cons (ps_set (i := 6) scReadT.nd rfl (.inl rfl) (pe_split (pv 5) pe_str))
        (pss_cons (ps_set (i := 7) scReadT.nd rfl (.inl rfl) (pe_callTy call_tuple_of (by rfl) B3.tuple PyProof.Rows.boot_tuple (pa_cons (pe_slice sl_list (pv 6) (po_some pe_int) po_none) pa_nil)))
        (pss_cons (ps_if (PW.pt (pw_or (pt_cmpR op_ne (pe_ix ix_list (pv 6) pe_int (fun _ _ => rfl)) pe_str (nomark _)) (pw_or1 (pt_not (pt_val (pe_call GT hr (by rfl) gT kT bT .nil pass0 (pa_cons (pv 7) (pa_cons (pv 2) pa_nil)))))))) (pss_one ps_never) pss_nil)
        (pss_cons (ps_if (PW.pt (pw_and (pt_truth (pv 3) (by intro _; rfl)) (pw_and1 (pt_cmpR (op_leS hu0) (pv 7) (pe_ix ix_list (pv 3) (pe_un un_neg pe_int) (fun _ _ => rfl)) (nomark _))))) (pss_one ps_never) pss_nil)
        (pss_one (ps_expr (pe_bm PySem.F.plainAttrs_list PySem.F.slot_list_append PySem.F.type_list_append mt_append (pv 3) (pa_cons (pv 7) pa_nil)))))))))
      (pss_one (ps_ret (pe_callTy call_tuple_of (by rfl) B3.tuple PyProof.Rows.boot_tuple (pa_cons (pv 3) pa_nil)))))), ?_⟩
    have l200 := own.few
    have lts := own.tfew
    have hnd := own.nd
    refine rs_set ?_
    refine ⟨.ref p, rfl, p, rfl, ⟨_, sqt_of ep⟩, fun D nD => dc_tup (xs := ns.map V.str) (fun i H' => Same H H' ∧ H' D = some (.dK ((ns.take i).map fun n => ((Sum.inr n : Key), V.bl true)))) ⟨same_upd nD, upd_same⟩ (fun i H' _ h => sqt_of (h.1 _ _ ep)) ?_ ?_⟩
    · rintro i x H' hx ⟨sx, eD⟩
      obtain ⟨z, hz, rfl⟩ := map_get hx
      have hzt := nodup_take hnd hz
      refine ⟨rfl, r_yes ?_⟩
      refine ⟨.str z, rfl, _, Sum.inr z, rfl, eD, small1000 (by rw [List.length_map, List.length_take]; omega), ?_, ?_⟩
      · intro b o e
        rw [upd_ne (ne_of_none e nD)]
        exact sx _ _ e
      · rw [upd_same, take_snoc hz, putK_new _ (by rw [valV_names (g := fun _ => V.bl true), if_neg hzt]), List.map_append]; rfl
    rintro H1 ⟨s1, eD⟩
    rw [List.length_map, List.take_length] at eD
    refine rs_set ?_
    refine ⟨Nat.zero_le _, fun ml nml => ?_⟩
    have s2 := s1.trans (same_upd (o := .lst []) nml)
    have hml0 : H ml = none := s1.free nml
    have eD2 := (same_upd (o := .lst []) nml) _ _ eD
    have em2 : (upd H1 ml (.lst [])) ml = some (.lst []) := upd_same
    generalize (upd H1 ml (.lst [])) = H2 at s2 eD2 em2 ⊢
    refine rs_enumK 2 ((ts.map tieLine).map V.str) (fun a H3 => Same H2 H3 ∧ H3 a = some (.lst ((ts.map tieLine).map V.str)) ∧ a ≠ ml)
      (fun a j σ' H' => ∃ o4 o5 o6 o7 qs, σ' = [some (.ref l), some (.ref p), some (.ref D), some (.ref ml), o4, o5, o6, o7, none] ∧ Same H H' ∧ H' D = some (.dK (ns.map fun n => ((Sum.inr n : Key), V.bl true))) ∧ H' a = some (.lst ((ts.map tieLine).map V.str)) ∧ a ≠ ml ∧ H' ml = some (.lst (qs.map V.ref)) ∧ Paired (TieL H') qs (ts.take j))
      (fun R hR => ⟨.ref l, rfl, 1, rfl, l, _, rfl, sql_of (s2 _ _ el), fun a na => ⟨a, (ts.map tieLine).map V.str, 2, rfl, rfl, by decide, by decide, sql_of (by rw [upd_same, cut1]; rfl), hR a _ ⟨same_upd na, by rw [upd_same, cut1]; rfl, fun e => by rw [e, em2] at na; cases na⟩⟩⟩)
      (fun a H3 ⟨s3, e3, ne⟩ => ⟨_, _, _, _, [], rfl, s2.trans s3, s3 _ _ eD2, e3, ne, s3 _ _ em2, .nil⟩)
      (fun a j σ' H' _ ⟨_, _, _, _, _, _, _, _, e, _⟩ => sql_of e) ?_ ?_
    · rintro a j x σ' H' T hj ⟨o4, o5, o6, o7, qs, rfl, sx, eD', ea, nam, em, hp⟩ nT hx
      obtain ⟨ln, hln, rfl⟩ := map_get hx
      rw [List.getElem?_map] at hln
      obtain ⟨t, ht, rfl⟩ : ∃ t, ts[j]? = some t ∧ ln = tieLine t := by
        cases hh : ts[j]? with
        | none => rw [hh] at hln; cases hln
        | some t => rw [hh] at hln; exact ⟨t, rfl, (Option.some.inj hln).symm⟩
      obtain ⟨m1, m2, m3⟩ := own.tie t (List.mem_of_getElem? ht)
      have hjl := (List.getElem?_eq_some_iff.mp ht).1
      refine ⟨T, [.int (2 + (j : Nat)), .str (tieLine t)], rfl, sqt_of upd_same, rfl, _, [.str (tieLine t)], rfl, _, [], rfl, rfl, ?_⟩
      have sT : Same H' (upd H' T (.tup [.int (2 + (j : Nat)), .str (tieLine t)])) := same_upd nT
      generalize (upd H' T (.tup [.int (2 + (j : Nat)), .str (tieLine t)])) = H3 at sT ⊢
      refine rs_set ?_
      refine ⟨.str (tieLine t), rfl, ⟨_, rfl⟩, tieLine t, sBl, rfl, rfl, by decide +kernel, Nat.le_of_lt (small1000 (by have := tieLine_len nm m1 m2; omega)), fun wl nwl => ?_⟩
      rw [nmtie (ts := ts) nm m1 m2]
      have sw := sT.trans (same_upd (o := .lst ([Str.ofString "tie", t.1, t.2].map V.str)) nwl)
      have ew : (upd H3 wl (.lst ([Str.ofString "tie", t.1, t.2].map V.str))) wl = some (.lst [.str (Str.ofString "tie"), .str t.1, .str t.2]) := upd_same
      generalize (upd H3 wl (.lst ([Str.ofString "tie", t.1, t.2].map V.str))) = H4 at sw ew ⊢
      refine rs_set ?_
      refine ⟨.ref wl, rfl, 1, rfl, wl, _, rfl, sql_of ew, fun c nc => ⟨c, _, rfl, .inl ⟨sql_of upd_same, fun tp ntp => ?_⟩⟩⟩
      rw [cut1] at ntp ⊢
      have sc := (same_upd (o := .lst ([V.str (Str.ofString "tie"), .str t.1, .str t.2].drop 1)) nc).trans (same_upd (o := .tup ([V.str (Str.ofString "tie"), .str t.1, .str t.2].drop 1)) ntp)
      have etp : (upd (upd H4 c (.lst ([V.str (Str.ofString "tie"), .str t.1, .str t.2].drop 1))) tp (.tup ([V.str (Str.ofString "tie"), .str t.1, .str t.2].drop 1))) tp = some (.tup [.str t.1, .str t.2]) := upd_same
      have htp0 : H' tp = none := (sw.trans (same_upd (o := .lst ([V.str (Str.ofString "tie"), .str t.1, .str t.2].drop 1)) nc)).free ntp
      generalize (upd (upd H4 c (.lst ([V.str (Str.ofString "tie"), .str t.1, .str t.2].drop 1))) tp (.tup ([V.str (Str.ofString "tie"), .str t.1, .str t.2].drop 1))) = H5 at sc etp ⊢
      have s5 := sw.trans sc
      refine rs_no ?_
      refine ⟨.ref wl, rfl, wl, _, 0, .str (Str.ofString "tie"), rfl, rfl, sql_of (sc _ _ ew), rfl, rfl, false, congrArg V.bl (by simp), ?_⟩
      refine ⟨.ref tp, rfl, .ref D, rfl, tp, D, ns, t, rfl, etp, s5 _ _ eD', m1, m2, m3, fun H6 s6 => ⟨true, rfl, ?_⟩⟩
      have s6' := s5.trans s6
      have em6 := s6' _ _ em
      refine rs_no ?_
      have hqs : qs.length = j := by rw [Paired.length hp, List.length_take]; omega
      have etp6 := s6 _ _ etp
      have nDm : D ≠ ml := ne_of eD' em (fun z => nomatch z)
      have pv : ∃ o4 o5 o6 o7 qs', ([some (.ref l), some (.ref p), some (.ref D), some (.ref ml), some (.int (2 + (j : Nat))), some (.str (tieLine t)), some (.ref wl), some (.ref tp), none] : L2.St) = [some (.ref l), some (.ref p), some (.ref D), some (.ref ml), o4, o5, o6, o7, none] ∧ Same H (upd H6 ml (.lst (qs.map V.ref ++ [.ref tp]))) ∧ (upd H6 ml (.lst (qs.map V.ref ++ [.ref tp]))) D = some (.dK (ns.map fun n => ((Sum.inr n : Key), V.bl true))) ∧
          (upd H6 ml (.lst (qs.map V.ref ++ [.ref tp]))) a = some (.lst ((ts.map tieLine).map V.str)) ∧ a ≠ ml ∧ (upd H6 ml (.lst (qs.map V.ref ++ [.ref tp]))) ml = some (.lst (qs'.map V.ref)) ∧ Paired (TieL (upd H6 ml (.lst (qs.map V.ref ++ [.ref tp])))) qs' (ts.take (j + 1)) := by
        refine ⟨_, _, _, _, qs ++ [tp], rfl, ?_, ?_, ?_, nam, ?_, ?_⟩
        · intro b o e
          rw [upd_ne (ne_of_none e hml0)]
          exact s6' _ _ (sx _ _ e)
        · rw [upd_ne nDm]; exact s6' _ _ eD'
        · rw [upd_ne nam]; exact s6' _ _ ea
        · rw [upd_same, List.map_append]; rfl
        · rw [take_snoc ht]
          refine Paired.snoc (paired_mono (fun q t' e => ?_) hp) ?_
          · show (upd H6 ml _) q = _
            rw [upd_ne (ne_of (show H' q = _ from e) em (fun z => nomatch z))]
            exact s6' _ _ e
          · show (upd H6 ml _) tp = _
            rw [upd_ne (ne_of etp6 em6 (fun z => nomatch z))]
            exact etp6
      have hsz : (qs.map V.ref).length < sizeLine := by rw [List.length_map, sizeLine_eq]; omega
      rcases nil_or_snoc qs with rfl | ⟨qs', ql, rfl⟩
      · exact ⟨.ref ml, rfl, false, .inl ⟨_, sql_of em6, rfl⟩, .ref ml, rfl, .inl ⟨rfl, _, sql_of em6⟩, .ref tp, rfl, ml, _, _, rfl, rfl, em6, hsz, pv⟩
      · refine ⟨.ref ml, rfl, true, .inl ⟨_, sql_of em6, by simp⟩, ?_⟩
        have hj1 : (qs' ++ [ql])[j - 1]? = some ql := by
          rw [List.length_append] at hqs
          have : j - 1 = qs'.length := by rw [← hqs]; simp
          rw [this]; simp
        obtain ⟨u, hu', eu⟩ := paired_get hp hj1
        have hjp : 0 < j := by rw [← hqs, List.length_append]; simp
        have hut : ltP u t = true := by
          rw [List.getElem?_take] at hu'
          split at hu'
          · obtain ⟨p1, rfl⟩ := List.getElem?_eq_some_iff.mp hu'
            obtain ⟨p2, rfl⟩ := List.getElem?_eq_some_iff.mp ht
            exact List.pairwise_iff_getElem.mp asc (j - 1) j p1 p2 (by omega)
          · cases hu'
        refine ⟨.ref tp, rfl, .ref ml, rfl, 1, rfl, ml, _, _, .ref ql, rfl, rfl, sql_of em6, by rw [List.map_append]; exact atI_last _ _, tp, ql, [t.1, t.2], [u.1, u.2], rfl, rfl, sqt_of etp6, sqt_of (s6' _ _ eu), false, congrArg V.bl (le_tie hut), ?_⟩
        exact ⟨.ref ml, rfl, .inl ⟨rfl, _, sql_of em6⟩, .ref tp, rfl, ml, _, _, rfl, rfl, em6, hsz, pv⟩
    · rintro a σ' H' ⟨o4, o5, o6, o7, qs, rfl, sx, eD', ea, nam, em, hp⟩
      rw [List.length_map, List.length_map, List.take_length] at hp
      exact ⟨.ref ml, rfl, ml, _, rfl, .inl ⟨sql_of em, fun t nt => q t qs _ (sx.trans (same_upd nt)) upd_same (paired_mono (fun q t e => (same_upd nt) _ _ e) hp)⟩⟩
end
end Hw

set_option Elab.async false
set_option linter.all false
set_option maxRecDepth 100000
set_option maxHeartbeats 4000000
namespace Hw
open PySem L2 PyProof.Rows
/-- a web as its text tells it -/
structure GoodW (ns : List Str) (ts : List Tie) : Prop where
  asc : Asc ns
  nm : ∀ z ∈ ns, Nm z
  few : ns.length ≤ 200
  tasc : AscP ts
  tie : ∀ t ∈ ts, t.1 ∈ ns ∧ t.2 ∈ ns ∧ strLt t.1 t.2 = true
  tfew : ts.length ≤ 100000
theorem GoodW.fine {ns : List Str} {ts : List Tie} (g : GoodW ns ts) : FineW ns ts := ⟨g.asc.nodup, g.few, g.tie, g.tfew⟩
theorem OwnW.good {ns : List Str} {ts : List Tie} (o : OwnW ns ts) : GoodW ns ts := ⟨o.asc, o.nm, by have := o.few; omega, o.tasc, o.tie, by have := o.tfew; omega⟩
theorem join_mem {y : Str} {c : Nat} : ∀ {ps : List Str}, c ∈ (Txt.join y ps).cps.toList → c ∈ y.cps.toList ∨ ∃ p ∈ ps, c ∈ p.cps.toList
  | [], h => by rw [TL.join_eq] at h; cases h
  | [p], h => by
    rw [TL.join_eq] at h
    exact .inr ⟨p, List.mem_cons_self, h⟩
  | p :: q :: r, h => by
    rw [TL.join_eq] at h
    have e : Str.join y (p :: q :: r) = p ++ y ++ Str.join y (q :: r) := rfl
    rw [e, app_cps, app_cps] at h
    rcases List.mem_append.mp h with h | h
    · rcases List.mem_append.mp h with h | h
      · exact .inr ⟨p, List.mem_cons_self, h⟩
      · exact .inl h
    · rw [← TL.join_eq] at h
      rcases join_mem h with h | ⟨z, hz, h⟩
      · exact .inl h
      · exact .inr ⟨z, List.mem_cons_of_mem _ hz, h⟩
theorem GoodW.split {ns : List Str} {ts : List Tie} (g : GoodW ns ts) : Txt.split (webText ns ts) sNl = webLines ns ts := by
  refine split_nl (by unfold webLines; exact fun z => nomatch z) fun p hp hm => ?_
  have b : 10 ∉ sBl.cps.toList := by decide +kernel
  rcases List.mem_cons.mp hp with rfl | hp
  · rcases join_mem hm with h | ⟨z, hz, h⟩
    · exact b h
    · rcases List.mem_cons.mp hz with rfl | hz
      · exact absurd h (by decide +kernel)
      · exact nm_no (g.nm z hz) (by decide) h
  · obtain ⟨t, ht, rfl⟩ := List.mem_map.mp hp
    obtain ⟨m1, m2, _⟩ := g.tie t ht
    rcases join_mem hm with h | ⟨z, hz, h⟩
    · exact b h
    · rcases List.mem_cons.mp hz with rfl | hz
      · exact absurd h (by decide +kernel)
      · rcases List.mem_cons.mp hz with rfl | hz
        · exact nm_no (g.nm _ m1) (by decide) h
        · rw [List.mem_singleton.mp hz] at h; exact nm_no (g.nm _ m2) (by decide) h
theorem GoodW.first {ns : List Str} {ts : List Tie} (g : GoodW ns ts) : Txt.split (placesLine ns) sBl = Str.ofString "places" :: ns := by
  refine split_bl (fun z => nomatch z) fun p hp => ?_
  rcases List.mem_cons.mp hp with rfl | hp
  · decide +kernel
  · exact nm_no (g.nm p hp) (by decide)
theorem GoodW.flen {ns : List Str} {ts : List Tie} (g : GoodW ns ts) : (placesLine ns).length ≤ 2000 := by
  refine Nat.le_trans (join_len _ _) ?_
  have h := sum_le (ps := ns) (b := 8) fun p hp => (g.nm p hp).2.1
  have h1 := g.few
  have e1 : (Str.ofString "places").length = 6 := by decide +kernel
  have e2 : sBl.length = 1 := by decide +kernel
  rw [List.map_cons, List.sum_cons, List.length_cons, e1, e2]
  omega
theorem GoodW.len {ns : List Str} {ts : List Tie} (g : GoodW ns ts) : (webText ns ts).length + 2 ≤ sizeLine := by
  have h := sum_le (ps := ts.map tieLine) (b := 22) fun p hp => by
    obtain ⟨t, ht, rfl⟩ := List.mem_map.mp hp
    obtain ⟨m1, m2, _⟩ := g.tie t ht
    exact tieLine_len g.nm m1 m2
  have h0 := g.flen
  have e2 : sNl.length = 1 := by decide +kernel
  have h2 := join_len sNl (webLines ns ts)
  have h3 := g.tfew
  rw [show webLines ns ts = placesLine ns :: ts.map tieLine from rfl, List.map_cons, List.sum_cons, List.length_cons, e2, List.length_map] at h2
  rw [List.length_map] at h
  rw [sizeLine_eq]
  show (Txt.join sNl (placesLine ns :: ts.map tieLine)).length + 2 ≤ _
  omega
/-- places and ties as they are read -/
def ReadAt (H : Hp) (pl t : Addr) (ns : List Str) (ts : List Tie) : Prop := H pl = some (.tup (ns.map V.str)) ∧ ∃ qs : List Addr, H t = some (.tup (qs.map V.ref)) ∧ Paired (TieL H) qs ts
def spReadW : Sp := fun vs H Q _ => ∃ (ns : List Str) (ts : List Tie), vs = [.str (webText ns ts)] ∧ GoodW ns ts ∧ ∀ p pl t H', Same H H' → H' p = some (.tup [.ref pl, .ref t]) → ReadAt H' pl t ns ts → Q (.ref p) H'
section
variable {P : Program} {w : World} {K : PySem.W.Frag} {mg : Str → Option Value} {base : Heap}
theorem scReadW : FnScope ["text", "lines", "words", "places"] ["text"] (defScope sReadW) := ⟨rfl, rfl, rfl, by decide +kernel, rfl, by decide +kernel, by decide +kernel⟩
theorem ok_readw {f fA fR : Addr} {fd fdA fdR : FuncData} {k : Nat} (F : Fun K "read_web" "read_web" sReadW f fd) (B : Blt mg) (B3 : Blt3 mg) (GA : FnOk P w K mg base CX0 k fA fdA ["value"] spArePl) (gA : mg "are_places" = some (.ref fA)) (kA : PySem.W.keepIn K (.ref fA) = true) (bA : Binds K fdA ["value"] [])
    (GR : FnOk P w K mg base CX0 k fR fdR ["lines", "places"] spReadT) (gR : mg "read_ties" = some (.ref fR)) (kR : PySem.W.keepIn K (.ref fR) = true) (bR : Binds K fdR ["lines", "places"] []) : FnOk P w K mg base CX0 (k + 1) f fd ["text"] spReadW := by
  refine F.ok scReadW (fun vs H Q E h => ?_) (fun cdv A outer s H vs Q E hr h => ?_)
  · obtain ⟨ns, ts, rfl, _⟩ := h
    rfl
  · obtain ⟨ns, ts, rfl, g, q⟩ := h
    refine ⟨_, pss_cons (ps_if (pt_not (pt_val (pe_callB call_isi (by rfl) B3.isi PyProof.Rows.boot_isinstance (pa_cons (pv 0) (pa_cons (pe_bltn (v := .ty "str") (by rfl) B3.str (by decide +kernel) rfl) pa_nil))))) (pss_one ps_never) pss_nil)
      (pss_cons (ps_set (i := 1) scReadW.nd rfl (.inl rfl) (pe_split (pv 0) pe_str))
      (pss_cons (ps_set (i := 2) scReadW.nd rfl (.inl rfl) (pe_split (pe_ix ix_list (pv 1) pe_int (fun _ _ => rfl)) pe_str))
      (pss_cons (ps_set (i := 3) scReadW.nd rfl (.inl rfl) (pe_callTy call_tuple_of (by rfl) B3.tuple PyProof.Rows.boot_tuple (pa_cons (pe_slice sl_list (pv 2) (po_some pe_int) po_none) pa_nil)))
      (pss_cons (ps_if (PW.pt (pw_or (pt_cmpR op_ne (pe_ix ix_list (pv 2) pe_int (fun _ _ => rfl)) pe_str (nomark _)) (pw_or1 (pt_not (pt_val (pe_call GA hr (by rfl) gA kA bA .nil pass0 (pa_cons (pv 3) pa_nil))))))) (pss_one ps_never) pss_nil)
      (pss_one (ps_ret (pe_tup (pa_cons (pv 3) (pa_cons (pe_call GR hr (by rfl) gR kR bR .nil pass0 (pa_cons (pv 1) (pa_cons (pv 3) pa_nil))) pa_nil))))))))), ?_⟩
    refine rs_no ?_
    refine ⟨.str (webText ns ts), rfl, .str (webText ns ts), .ty "str", .type "str", .type "str", true, rfl, .ty _, .base (.str _), kit_ty (by decide +kernel), true, rfl, ?_⟩
    refine rs_set ?_
    refine ⟨.str (webText ns ts), rfl, ⟨_, rfl⟩, webText ns ts, sNl, rfl, rfl, by decide +kernel, g.len, fun l nl => ?_⟩
    rw [g.split]
    have s1 : Same H (upd H l (.lst ((webLines ns ts).map V.str))) := same_upd nl
    have el : (upd H l (.lst ((webLines ns ts).map V.str))) l = some (.lst ((placesLine ns :: ts.map tieLine).map V.str)) := upd_same
    generalize (upd H l (.lst ((webLines ns ts).map V.str))) = H1 at s1 el ⊢
    refine rs_set ?_
    refine ⟨.ref l, rfl, l, _, 0, .str (placesLine ns), rfl, rfl, sql_of el, atI_nat (j := 0) rfl, ⟨_, rfl⟩, placesLine ns, sBl, rfl, rfl, by decide +kernel, by have := g.flen; rw [sizeLine_eq]; omega, fun wl nwl => ?_⟩
    rw [g.first]
    have s2 : Same H1 (upd H1 wl (.lst ((Str.ofString "places" :: ns).map V.str))) := same_upd nwl
    have ew : (upd H1 wl (.lst ((Str.ofString "places" :: ns).map V.str))) wl = some (.lst (.str (Str.ofString "places") :: ns.map V.str)) := upd_same
    generalize (upd H1 wl (.lst ((Str.ofString "places" :: ns).map V.str))) = H2 at s2 ew ⊢
    refine rs_set ?_
    refine ⟨.ref wl, rfl, 1, rfl, wl, _, rfl, sql_of ew, fun c nc => ⟨c, _, rfl, .inl ⟨sql_of upd_same, fun pl npl => ?_⟩⟩⟩
    rw [cut1] at npl ⊢
    have s3 := (same_upd (o := .lst ((V.str (Str.ofString "places") :: ns.map V.str).drop 1)) nc).trans (same_upd (o := .tup ((V.str (Str.ofString "places") :: ns.map V.str).drop 1)) npl)
    have epl : (upd (upd H2 c (.lst ((V.str (Str.ofString "places") :: ns.map V.str).drop 1))) pl (.tup ((V.str (Str.ofString "places") :: ns.map V.str).drop 1))) pl = some (.tup (ns.map V.str)) := upd_same
    generalize (upd (upd H2 c (.lst ((V.str (Str.ofString "places") :: ns.map V.str).drop 1))) pl (.tup ((V.str (Str.ofString "places") :: ns.map V.str).drop 1))) = H3 at s3 epl ⊢
    refine rs_no ?_
    refine ⟨.ref wl, rfl, wl, _, 0, .str (Str.ofString "places"), rfl, rfl, sql_of (s3 _ _ ew), atI_nat (j := 0) rfl, rfl, false, congrArg V.bl (by simp), ?_⟩
    refine ⟨.ref pl, rfl, pl, ns, rfl, epl, g.asc, g.nm, g.few, fun H4 s4 => ⟨true, rfl, ?_⟩⟩
    have s13 := (s2.trans s3).trans s4
    refine ⟨.ref pl, rfl, .ref l, rfl, .ref pl, rfl, l, pl, placesLine ns, ns, ts, rfl, s13 _ _ el, s4 _ _ epl, g.fine, g.nm, g.tasc, fun t qs H5 s5 et hp => ⟨by show 2 ≤ sizeLine; decide, fun p np => ?_⟩⟩
    have s6 := same_upd (o := .tup [.ref pl, .ref t]) np
    exact q p pl t _ (((s1.trans s13).trans s5).trans s6) upd_same ⟨s6 _ _ (s5 _ _ (s4 _ _ epl)), qs, s6 _ _ et, paired_mono (fun q t e => s6 _ _ e) hp⟩
end
end Hw

set_option Elab.async false
set_option linter.all false
set_option maxRecDepth 100000
set_option maxHeartbeats 4000000
namespace Hw
open PySem L2 PyProof.Rows
/-! how far, level by level -/
abbrev Far := List (Str × Nat)
def lookF (far : Far) (n : Str) : Nat := ((far.find? fun p => decide (p.1 = n)).map (·.2)).getD 0
def encF (far : Far) : List (Key × V) := far.map fun p => ((Sum.inr p.1 : Key), V.int (p.2 : Int))
theorem valV_far (far : Far) (n : Str) : valV (encF far) (Sum.inr n) = if n ∈ far.map (·.1) then some (.int (lookF far n : Nat)) else none := by
  induction far with
  | nil => exact valV_nil
  | cons p far ih =>
    show valV (((Sum.inr p.1 : Key), V.int (p.2 : Int)) :: encF far) _ = _
    by_cases h : p.1 = n
    · rw [valV_pos (congrArg Sum.inr h), if_pos (by rw [← h]; exact List.mem_cons_self)]
      show some (V.int _) = some (V.int _)
      unfold lookF
      rw [List.find?_cons_of_pos (by exact decide_eq_true h)]
      rfl
    · rw [valV_neg (fun e => h (Sum.inr.inj e)), ih]
      have e : lookF (p :: far) n = lookF far n := by
        unfold lookF
        rw [List.find?_cons_of_neg (by simpa using h)]
      rw [e, List.map_cons]
      by_cases hm : n ∈ far.map (·.1)
      · rw [if_pos hm, if_pos (List.mem_cons_of_mem _ hm)]
      · rw [if_neg hm, if_neg (fun z => by rcases List.mem_cons.mp z with z | z; exact h z.symm; exact hm z)]
def stepO (one : Str) (s : Far × List Str) (o : Str) : Far × List Str := if o ∈ s.1.map (·.1) then s else (s.1 ++ [(o, lookF s.1 one + 1)], s.2 ++ [o])
def stepE (nb : Str → List Str) (s : Far × List Str) (one : Str) : Far × List Str := (nb one).foldl (stepO one) s
def lvl (nb : Str → List Str) (s : Far × List Str) : Far × List Str := s.2.foldl (stepE nb) (s.1, [])
def lev (nb : Str → List Str) (p : Str) : Nat → Far × List Str
  | 0 => ([(p, 0)], [p])
  | i + 1 => lvl nb (lev nb p i)
/-- what stands at every moment -/
structure FarOk (ns : List Str) (n0 : Nat) (s : Far × List Str) : Prop where
  nd : (s.1.map (·.1)).Nodup
  sub : ∀ n ∈ s.1.map (·.1), n ∈ ns
  bey : ∀ n ∈ s.2, n ∈ s.1.map (·.1)
  len : s.1.length = n0 + s.2.length
theorem FarOk.few {ns : List Str} {n0 : Nat} {s : Far × List Str} (f : FarOk ns n0 s) : s.1.length ≤ ns.length := by
  have := sub_len f.nd f.sub
  rw [List.length_map] at this
  exact this
theorem FarOk.stepO {ns : List Str} {n0 : Nat} {s : Far × List Str} (f : FarOk ns n0 s) {one o : Str} (ho : o ∈ ns) : FarOk ns n0 (stepO one s o) ∧ ∀ n ∈ s.1.map (·.1), n ∈ (Hw.stepO one s o).1.map (·.1) := by
  unfold Hw.stepO
  by_cases h : o ∈ s.1.map (·.1)
  · rw [if_pos h]; exact ⟨f, fun _ z => z⟩
  · rw [if_neg h]
    refine ⟨⟨?_, ?_, ?_, ?_⟩, ?_⟩
    · show ((s.1 ++ [(o, lookF s.1 one + 1)]).map (·.1)).Nodup
      rw [List.map_append, List.nodup_append]
      exact ⟨f.nd, by simp, fun x hx y hy e => h (by rw [List.mem_singleton.mp hy] at e; rw [show x = o from e] at hx; exact hx)⟩
    · intro n hn
      have hn : n ∈ (s.1 ++ [(o, lookF s.1 one + 1)]).map (·.1) := hn
      rw [List.map_append] at hn
      rcases List.mem_append.mp hn with hn | hn
      · exact f.sub n hn
      · rw [List.mem_singleton.mp hn]; exact ho
    · intro n hn
      show n ∈ (s.1 ++ [(o, lookF s.1 one + 1)]).map (·.1)
      rw [List.map_append]
      rcases List.mem_append.mp hn with hn | hn
      · exact List.mem_append_left _ (f.bey n hn)
      · exact List.mem_append_right _ (by rw [List.mem_singleton.mp hn]; exact List.mem_cons_self)
    · show (s.1 ++ [_]).length = n0 + (s.2 ++ [_]).length
      rw [List.length_append, List.length_append, f.len]; rfl
    · intro n hn
      show n ∈ (s.1 ++ [(o, lookF s.1 one + 1)]).map (·.1)
      rw [List.map_append]
      exact List.mem_append_left _ hn
theorem FarOk.foldO {ns : List Str} {n0 : Nat} {one : Str} : ∀ {os : List Str} {s : Far × List Str}, FarOk ns n0 s → (∀ o ∈ os, o ∈ ns) → FarOk ns n0 (os.foldl (Hw.stepO one) s) ∧ ∀ n ∈ s.1.map (·.1), n ∈ (os.foldl (Hw.stepO one) s).1.map (·.1)
  | [], _, f, _ => ⟨f, fun _ z => z⟩
  | o :: os, s, f, h => by
    obtain ⟨f1, k1⟩ := f.stepO (one := one) (h o List.mem_cons_self)
    obtain ⟨f2, k2⟩ := FarOk.foldO (one := one) f1 fun o ho => h o (List.mem_cons_of_mem _ ho)
    exact ⟨f2, fun n hn => k2 n (k1 n hn)⟩
theorem FarOk.foldE {ns : List Str} {n0 : Nat} {nb : Str → List Str} (hnb : ∀ n ∈ ns, ∀ o ∈ nb n, o ∈ ns) : ∀ {es : List Str} {s : Far × List Str}, FarOk ns n0 s → (∀ o ∈ es, o ∈ ns) → FarOk ns n0 (es.foldl (stepE nb) s) ∧ ∀ n ∈ s.1.map (·.1), n ∈ (es.foldl (stepE nb) s).1.map (·.1)
  | [], _, f, _ => ⟨f, fun _ z => z⟩
  | o :: os, s, f, h => by
    obtain ⟨f1, k1⟩ := f.foldO (one := o) (hnb o (h o List.mem_cons_self))
    obtain ⟨f2, k2⟩ := FarOk.foldE hnb f1 fun o ho => h o (List.mem_cons_of_mem _ ho)
    exact ⟨f2, fun n hn => k2 n (k1 n hn)⟩
theorem FarOk.lvl {ns : List Str} {n0 : Nat} {nb : Str → List Str} (hnb : ∀ n ∈ ns, ∀ o ∈ nb n, o ∈ ns) {s : Far × List Str} (f : FarOk ns n0 s) : FarOk ns s.1.length (lvl nb s) :=
  (FarOk.foldE hnb (s := (s.1, [])) ⟨f.nd, f.sub, (fun _ z => nomatch z), rfl⟩ fun o ho => f.sub o (f.bey o ho)).1
theorem lev_ok {ns : List Str} {nb : Str → List Str} (hnb : ∀ n ∈ ns, ∀ o ∈ nb n, o ∈ ns) {p : Str} (hp : p ∈ ns) : ∀ i, ∃ n0, FarOk ns n0 (lev nb p i)
  | 0 => ⟨0, by simp [lev], by simp [lev, hp], by simp [lev], by simp [lev]⟩
  | i + 1 => by
    obtain ⟨n0, f⟩ := lev_ok hnb hp i
    exact ⟨_, f.lvl hnb⟩
def muF (ns : List Str) (s : Far × List Str) : Nat := 2 * (ns.length - s.1.length) + (if s.2 = [] then 0 else 1)
theorem mu_lvl {ns : List Str} {n0 : Nat} {nb : Str → List Str} (hnb : ∀ n ∈ ns, ∀ o ∈ nb n, o ∈ ns) {s : Far × List Str} (f : FarOk ns n0 s) (hs : s.2 ≠ []) : muF ns (lvl nb s) < muF ns s := by
  have f1 := f.lvl hnb
  have l1 := f1.len
  have l2 := f1.few
  have l3 := f.few
  unfold muF
  rw [if_neg hs]
  by_cases h : (Hw.lvl nb s).2 = []
  · rw [if_pos h]
    rw [h] at l1
    have : (Hw.lvl nb s).1.length = s.1.length := l1
    omega
  · rw [if_neg h]
    have : 0 < (Hw.lvl nb s).2.length := List.length_pos_iff.mpr h
    omega
/-- all that is joined to p, with how far it is -/
def Bfs (nb : Str → List Str) (p : Str) (far : Far) : Prop := ∃ i, lev nb p i = (far, [])
theorem lev_stay {nb : Str → List Str} {p : Str} {far : Far} {i : Nat} (h : lev nb p i = (far, [])) : ∀ k, lev nb p (i + k) = (far, [])
  | 0 => h
  | k + 1 => by
    show lvl nb (lev nb p (i + k)) = _
    rw [lev_stay h k]; rfl
theorem Bfs.uniq {nb : Str → List Str} {p : Str} {far far' : Far} (h : Bfs nb p far) (h' : Bfs nb p far') : far = far' := by
  obtain ⟨i, h⟩ := h
  obtain ⟨j, h'⟩ := h'
  have a := lev_stay h j
  have b := lev_stay h' i
  rw [Nat.add_comm] at b
  rw [a] at b
  exact congrArg Prod.fst b
end Hw

set_option Elab.async false
set_option linter.all false
set_option maxRecDepth 100000
set_option maxHeartbeats 4000000
namespace Hw
open PySem L2 PyProof.Rows
structure BfsH (H0 : Hp) (fd el bl : Addr) (s : Far × List Str) (edge : List Str) (H : Hp) : Prop where
  same : Same H0 H
  far : H fd = some (.dK (encF s.1))
  edge : H el = some (.lst (edge.map V.str))
  bey : H bl = some (.lst (s.2.map V.str))
  f0 : H0 fd = none
  b0 : H0 bl = none
  ne : el ≠ bl
def oneB (K : PySem.W.Frag) : TS := tIfS (tB (tDNotIn (tVar 6) (tVar 2))) (tSeq (sDPut (tVar 2) (tVar 6) (tOp (rI0 fun i j => V.int (i + j)) (tDGet (tVar 2) (tVar 5)) (tC (V.int 1)))) (tDrop (tBM K "list" rAppend (tVar 4) (tCons (tVar 6) tNil)))) tNext
def lapB (K : PySem.W.Frag) (te : TE) : TS := tSeq (tAsg (tLst tNil) (gName 4)) (tSeq (tFor (iList K (tVar 3)) (gName 5) (tFor (iList K te) (gName 6) (oneB K))) (tAsg (tVar 4) (gName 3)))
theorem bfs_one {K : PySem.W.Frag} {D : Ends} {s0 s1 : Option V} {H0 H : Hp} {fd el bl : Addr} {s : Far × List Str} {edge ns : List Str} {n0 : Nat} {one o : Str} (h : BfsH H0 fd el bl s edge H) (f : FarOk ns n0 s) (hl : ns.length ≤ 1000) (h1 : one ∈ s.1.map (·.1)) (ho : o ∈ ns)
    (fin : ∀ H', BfsH H0 fd el bl (stepO one s o) edge H' → D.nx [s0, s1, some (.ref fd), some (.ref el), some (.ref bl), some (.str one), some (.str o)] H') : oneB K D [s0, s1, some (.ref fd), some (.ref el), some (.ref bl), some (.str one), some (.str o)] H := by
  have few := f.few
  have len := f.len
  refine ⟨.str o, rfl, .ref fd, rfl, fd, _, rfl, DGet.k (k := Sum.inr o) h.far, _, rfl, ?_⟩
  rw [valV_far]
  by_cases hm : o ∈ s.1.map (·.1)
  · rw [if_pos hm]
    have := fin H (by unfold stepO; rw [if_pos hm]; exact h)
    exact this
  · rw [if_neg hm]
    have g1 : DGet H fd (.str one) (some (.int (lookF s.1 one : Nat))) := by
      have := DGet.k (k := Sum.inr one) h.far
      rw [valV_far, if_pos h1] at this
      exact this
    refine ⟨.ref fd, rfl, .str one, rfl, fd, _, rfl, g1, _, _, rfl, rfl, .ref fd, rfl, .str o, rfl, fd, _, rfl, DPut.k (k := Sum.inr o) h.far (by unfold encF; rw [List.length_map]; exact small1000 (by omega)), ?_⟩
    have hn : valV (encF s.1) (Sum.inr o) = none := by rw [valV_far, if_neg hm]
    rw [putK_new _ hn]
    have nfb : bl ≠ fd := ne_of h.bey h.far (fun z => nomatch z)
    have nef : el ≠ fd := ne_of h.edge h.far (fun z => nomatch z)
    refine ⟨.ref bl, rfl, .inl ⟨rfl, _, sql_of (by rw [upd_ne nfb]; exact h.bey)⟩, .str o, rfl, bl, _, _, rfl, rfl, by rw [upd_ne nfb]; exact h.bey, small1000 (by rw [List.length_map]; omega), fin _ ?_⟩
    unfold stepO
    rw [if_neg hm]
    refine ⟨fun b u e => ?_, ?_, ?_, ?_, h.f0, h.b0, h.ne⟩
    · rw [upd_ne (ne_of_none e h.b0), upd_ne (ne_of_none e h.f0)]
      exact h.same _ _ e
    · rw [upd_ne (Ne.symm nfb), upd_same]
      show some (HO.dK (encF s.1 ++ [_])) = some (HO.dK (encF (s.1 ++ [_])))
      unfold encF
      rw [List.map_append]
      rfl
    · rw [upd_ne h.ne, upd_ne nef]; exact h.edge
    · rw [upd_same]
      show _ = some (HO.lst ((s.2 ++ [o]).map V.str))
      rw [List.map_append]; rfl
theorem foldl_snoc {α β : Type} {g : β → α → β} {xs : List α} {i : Nat} {x : α} {b : β} (h : xs[i]? = some x) : (xs.take (i + 1)).foldl g b = g ((xs.take i).foldl g b) x := by
  rw [take_snoc h, List.foldl_append]; rfl
/-- the neighbours of one place -/
theorem bfs_all {K : PySem.W.Frag} {D : Ends} {te : TE} {s0 s1 o6 : Option V} {H0 H : Hp} {fd el bl : Addr} {s : Far × List Str} {edge ns : List Str} {nb : Str → List Str} {n0 : Nat} {one : Str} {a : Addr} (h : BfsH H0 fd el bl s edge H) (f : FarOk ns n0 s) (hl : ns.length ≤ 1000) (h1 : one ∈ s.1.map (·.1)) (hnb : ∀ o ∈ nb one, o ∈ ns)
    (ha : H0 a = some (.lst ((nb one).map V.str))) (hte : ∀ Q : VK, Q (.ref a) H → te [s0, s1, some (.ref fd), some (.ref el), some (.ref bl), some (.str one), o6] H Q)
    (fin : ∀ H' o6', BfsH H0 fd el bl (stepE nb s one) edge H' → D.nx [s0, s1, some (.ref fd), some (.ref el), some (.ref bl), some (.str one), o6'] H') : tFor (iList K te) (gName 6) (oneB K) D [s0, s1, some (.ref fd), some (.ref el), some (.ref bl), some (.str one), o6] H := by
  refine hte _ ⟨a, rfl, ⟨_, sql_of (h.same _ _ ha)⟩, for_list (xs := (nb one).map V.str) (fun i σ' H' => ∃ o6', σ' = [s0, s1, some (.ref fd), some (.ref el), some (.ref bl), some (.str one), o6'] ∧ BfsH H0 fd el bl (((nb one).take i).foldl (stepO one) s) edge H') ⟨_, rfl, h⟩ (fun i σ' H' _ ⟨_, _, w⟩ => sql_of (w.same _ _ ha)) ?_ ?_⟩
  · rintro i x σ' H' hx ⟨o6', rfl, w⟩
    obtain ⟨o, ho, rfl⟩ := map_get hx
    obtain ⟨fi, ki⟩ := f.foldO (one := one) (os := (nb one).take i) fun o ho => hnb o (List.mem_of_mem_take ho)
    exact bfs_one w fi hl (ki _ h1) (hnb o (List.mem_of_getElem? ho)) fun H'' w' => ⟨_, rfl, by rw [foldl_snoc ho]; exact w'⟩
  · rintro σ' H' ⟨o6', rfl, w⟩
    rw [List.length_map, List.take_length] at w
    exact fin H' o6' w
/-- a level -/
theorem bfs_lap {K : PySem.W.Frag} {D : Ends} {te : TE} {s0 s1 o4 o5 o6 : Option V} {H0 H : Hp} {fd el : Addr} {s : Far × List Str} {ns : List Str} {nb : Str → List Str} {n0 : Nat} {fa : Str → Addr} (e1 : Same H0 H) (e2 : H fd = some (.dK (encF s.1))) (e3 : H el = some (.lst (s.2.map V.str))) (f0 : H0 fd = none) (f : FarOk ns n0 s) (hl : ns.length ≤ 1000) (hnb : ∀ n ∈ ns, ∀ o ∈ nb n, o ∈ ns)
    (ha : ∀ n ∈ ns, H0 (fa n) = some (.lst ((nb n).map V.str))) (hte : ∀ n ∈ ns, ∀ (bl : Addr) (o6 : Option V) (H' : Hp) (Q : VK), Same H0 H' → Q (.ref (fa n)) H' → te [s0, s1, some (.ref fd), some (.ref el), some (.ref bl), some (.str n), o6] H' Q)
    (fin : ∀ H' bl o5' o6', Same H0 H' → H' fd = some (.dK (encF (lvl nb s).1)) → H' bl = some (.lst ((lvl nb s).2.map V.str)) → D.nx [s0, s1, some (.ref fd), some (.ref bl), some (.ref bl), o5', o6'] H') : lapB K te D [s0, s1, some (.ref fd), some (.ref el), o4, o5, o6] H := by
  refine rs_set ⟨Nat.zero_le _, fun bl nbl => ?_⟩
  have nel : el ≠ bl := ne_of_none e3 nbl
  have w0 : BfsH H0 fd el bl (s.1, []) s.2 (upd H bl (.lst [])) := ⟨e1.trans (same_upd nbl), (same_upd nbl) _ _ e2, (same_upd nbl) _ _ e3, upd_same, f0, e1.free nbl, nel⟩
  have f1 : FarOk ns s.1.length (s.1, []) := ⟨f.nd, f.sub, (fun _ z => nomatch z), rfl⟩
  refine rs_list el (s.2.map V.str) (fun Q q => ⟨_, rfl, q⟩) (fun i σ' H' => ∃ o5' o6', σ' = [s0, s1, some (.ref fd), some (.ref el), some (.ref bl), o5', o6'] ∧ BfsH H0 fd el bl ((s.2.take i).foldl (stepE nb) (s.1, [])) s.2 H') ⟨_, _, rfl, w0⟩ (fun i σ' H' _ ⟨_, _, _, w⟩ => sql_of w.edge) ?_ ?_
  · rintro i x σ' H' hx ⟨o5', o6', rfl, w⟩
    obtain ⟨one, ho, rfl⟩ := map_get hx
    have h1 := f.bey one (List.mem_of_getElem? ho)
    have hin := f.sub one h1
    obtain ⟨fi, ki⟩ := f1.foldE hnb (es := s.2.take i) fun o ho => f.sub o (f.bey o (List.mem_of_mem_take ho))
    refine r_gname ?_
    exact bfs_all w fi hl (ki _ h1) (hnb one hin) (ha one hin) (fun Q q => hte one hin bl o6' H' Q w.same q) fun H'' o6'' w' => ⟨_, _, rfl, by rw [foldl_snoc ho]; exact w'⟩
  · rintro σ' H' ⟨o5', o6', rfl, w⟩
    rw [List.length_map, List.take_length] at w
    exact ⟨.ref bl, rfl, fin H' bl o5' o6' w.same w.far w.bey⟩
end Hw

set_option Elab.async false
set_option linter.all false
set_option maxRecDepth 100000
set_option maxHeartbeats 4000000
namespace Hw
open PySem L2 PyProof.Rows
abbrev sFars : Stmt := topS 60
def spFars : Sp := fun vs H Q _ => ∃ (d : Addr) (p : Str) (f : Str → Addr) (ns : List Str) (ts : List Tie), vs = [.ref d, .str p] ∧ NearL f H d ns (nbr ts) ∧ p ∈ ns ∧ (∀ n ∈ ns, Nm n) ∧ ns.length ≤ 1000 ∧ (∀ n ∈ ns, ∀ o ∈ nbr ts n, o ∈ ns) ∧
  ∀ far fd H', Bfs (nbr ts) p far → (∃ n0, FarOk ns n0 (far, [])) → Same H H' → H' fd = some (.dK (encF far)) → H fd = none → Q (.ref fd) H'
theorem rs_whileM {c : TT} {tb u : TS} {D : Ends} {σ : L2.St} {H : Hp} (Pv : Nat → L2.St → Hp → Prop) (m0 : Nat) (h0 : Pv m0 σ H)
    (hs : ∀ m σ H, Pv m σ H → ∃ b : Bool, (∀ Q : Bool → Hp → Prop, (∀ H', Same H H' → Q b H') → c σ H Q) ∧ (b = true → ∀ H', Same H H' → ∀ D' : Ends, (∀ σ'' H'', (∃ m', m' < m ∧ Pv m' σ'' H'') → D'.nx σ'' H'') → tb D' σ H') ∧ (b = false → ∀ H', Same H H' → u D σ H')) :
    tSeq (tWhile c tb) u D σ H := by
  refine ⟨Pv, ⟨m0, h0⟩, fun m σ H p => ?_⟩
  obtain ⟨b, hc, h1, h2⟩ := hs m σ H p
  refine hc _ fun H' s' => ?_
  cases b with
  | true => exact ⟨fun σ'' H'' => ∃ m', m' < m ∧ Pv m' σ'' H'', fun σ' H' ⟨m', l, p'⟩ => ⟨m', l, p'⟩, h1 rfl H' s' _ fun σ'' H'' z => z⟩
  | false => exact h2 rfl H' s'
/-- where the loop stands -/
def LevAt (H0 : Hp) (s0 s1 : Option V) (fd : Addr) (ns : List Str) (nb : Str → List Str) (p : Str) (m : Nat) (σ : L2.St) (H : Hp) : Prop := ∃ i el o4 o5 o6, σ = [s0, s1, some (.ref fd), some (.ref el), o4, o5, o6] ∧ Same H0 H ∧ H fd = some (.dK (encF (lev nb p i).1)) ∧ H el = some (.lst ((lev nb p i).2.map V.str)) ∧ m = muF ns (lev nb p i)
/-- the whole way -/
theorem bfs_way {K : PySem.W.Frag} {c : TT} {u : TS} {D : Ends} {te : TE} {s0 s1 o4 o5 o6 : Option V} {H0 H : Hp} {fd el : Addr} {p : Str} {ns : List Str} {nb : Str → List Str} {fa : Str → Addr} (e1 : Same H0 H) (e2 : H fd = some (.dK (encF [(p, 0)]))) (e3 : H el = some (.lst [.str p])) (f0 : H0 fd = none) (hp : p ∈ ns) (hl : ns.length ≤ 1000) (hnb : ∀ n ∈ ns, ∀ o ∈ nb n, o ∈ ns)
    (ha : ∀ n ∈ ns, H0 (fa n) = some (.lst ((nb n).map V.str))) (hte : ∀ n ∈ ns, ∀ (el bl : Addr) (o6 : Option V) (H' : Hp) (Q : VK), Same H0 H' → Q (.ref (fa n)) H' → te [s0, s1, some (.ref fd), some (.ref el), some (.ref bl), some (.str n), o6] H' Q)
    (hc : ∀ (el : Addr) (xs : List Str) (σ : L2.St) (H' : Hp) (Q : Bool → Hp → Prop), σ[3]? = some (some (.ref el)) → H' el = some (.lst (xs.map V.str)) → (∀ x ∈ xs, x ∈ ns) → (∀ H'', Same H' H'' → Q (!xs.isEmpty) H'') → c σ H' Q)
    (fin : ∀ far H' σ', σ'[2]? = some (some (.ref fd)) → Bfs nb p far → (∃ n0, FarOk ns n0 (far, [])) → Same H0 H' → H' fd = some (.dK (encF far)) → u D σ' H') : tSeq (tWhile c (lapB K te)) u D [s0, s1, some (.ref fd), some (.ref el), o4, o5, o6] H := by
  refine rs_whileM (LevAt H0 s0 s1 fd ns nb p) _ ⟨0, el, _, _, _, rfl, e1, e2, e3, rfl⟩ ?_
  rintro m σ H1 ⟨i, el1, o4', o5', o6', rfl, sx, efd, eel, rfl⟩
  obtain ⟨n0, f⟩ := lev_ok hnb hp i
  refine ⟨!(lev nb p i).2.isEmpty, fun Q q => hc el1 _ _ H1 Q rfl eel (fun x hx => f.sub x (f.bey x hx)) q, fun hb H2 s2 D' hD => ?_, fun hb H2 s2 => ?_⟩
  · have hne : (lev nb p i).2 ≠ [] := fun e => by rw [e] at hb; cases hb
    refine bfs_lap (fa := fa) (sx.trans s2) (s2 _ _ efd) (s2 _ _ eel) f0 f hl hnb ha (fun n hn bl o6'' H' Q s' q' => hte n hn el1 bl o6'' H' Q s' q') fun H' bl o5'' o6'' s' e' b' => hD _ _ ⟨_, mu_lvl hnb f hne, i + 1, bl, _, _, _, rfl, s', e', b', rfl⟩
  · have he : (lev nb p i).2 = [] := by
      cases h : (lev nb p i).2 with
      | nil => rfl
      | cons x xs => rw [h] at hb; cases hb
    have hb' : lev nb p i = ((lev nb p i).1, []) := Prod.ext rfl he
    exact fin _ _ _ rfl ⟨i, hb'⟩ ⟨n0, by rw [hb'] at f; exact f⟩ (sx.trans s2) (s2 _ _ efd)
theorem nm_ok {z : Str} (h : Nm z) : PyData.strOk z = true := by
  unfold PyData.strOk
  refine Array.all_eq_true_iff_forall_mem.mpr fun c hc => ?_
  have := h.2.2 c (cps_mem hc)
  exact decide_eq_true (by omega)
theorem strs_lay {ns : List Str} (hnm : ∀ n ∈ ns, Nm n) : ∀ {xs : List Str}, (∀ x ∈ xs, x ∈ ns) → SeqAt.shaped (.list (xs.map PyData.str)) = true := by
  intro xs h
  have a : ∀ {xs : List Str}, (∀ x ∈ xs, x ∈ ns) → PyData.canLayAll0 (xs.map PyData.str) = true := by
    intro xs
    induction xs with
    | nil => intro _; rfl
    | cons x xs ih =>
      intro h
      show PyData.canLayAll0 (PyData.str x :: xs.map PyData.str) = true
      rw [PyData.canLayAll0, ih fun y hy => h y (List.mem_cons_of_mem _ hy), PyData.canLay0, nm_ok (hnm x (h x List.mem_cons_self))]; rfl
  have b : ∀ xs : List Str, PyData.depthAll (xs.map PyData.str) = 0 := by
    intro xs
    induction xs with
    | nil => rfl
    | cons x xs ih =>
      show PyData.depthAll (PyData.str x :: xs.map PyData.str) = 0
      rw [PyData.depthAll, ih, PyData.depth]; rfl
  unfold SeqAt.shaped
  rw [PyData.canLay0, a h, PyData.depth, b]; rfl
theorem strs_dp {K : PySem.W.Frag} {H : Hp} : ∀ xs : List Str, DpAll K H (xs.map V.str) (xs.map PyData.str)
  | [] => .nil
  | x :: xs => .cons (.str x) (strs_dp xs)
section
variable {P : Program} {w : World} {K : PySem.W.Frag} {mg : Str → Option Value} {base : Heap}
theorem scFars : FnScope ["near", "name", "fars", "level", "later", "here", "other"] ["near", "name"] (defScope sFars) := ⟨rfl, rfl, rfl, by decide +kernel, rfl, by decide +kernel, by decide +kernel⟩
theorem ok_fars {f : Addr} {fd : FuncData} {k : Nat} (F : Fun K "_law_fars" "_law_fars" sFars f fd) : FnOk P w K mg base CX0 (k + 1) f fd ["near", "name"] spFars := by
  refine F.ok scFars (fun vs H Q E h => ?_) (fun cdv A outer s H vs Q E hr h => ?_)
  · obtain ⟨d, p, f, ns, ts, rfl, _⟩ := h
    rfl
  · obtain ⟨d, p, f, ns, ts, rfl, nl, hp, hnm, hl, hnb, q⟩ := h
    have hu := hu_of hr
    have hu64 := hr.units
    refine ⟨_, pss_cons (ps_par (i := 2) (j := 3) rfl scFars.nd rfl rfl (by decide) rfl rfl (pa_cons (pe_disp (pps_cons (pv 1) pe_int pps_nil) (by rfl) (by rfl) (fun z => by cases z) (by decide)) (pa_cons (pe_lst (pa_cons (pv 1) pa_nil)) pa_nil)) rfl)
      (pss_cons (ps_while PassesOwn.never (pt_cmpR (op_neD hu64) (pv 3) (pe_lst pa_nil) (nomark _))
        (pss_cons (ps_set (i := 4) scFars.nd rfl (.inl rfl) (pe_lst pa_nil))
        (pss_cons (ps_for PassesOwn.never rfl (pi_list (pv 3)) (pg_name (i := 5) scFars.nd rfl (.inl rfl))
          (pss_one (ps_for PassesOwn.never rfl (pi_list (pe_dget hu (pv 0) (pv 5) (fun _ _ => rfl))) (pg_name (i := 6) scFars.nd rfl (.inl rfl))
            (pss_one (ps_if (pt_cmp (pc_dnotin hu (pv 6) (pv 2)))
              (pss_cons (ps_dput hu (pv 2) (pv 6) (pe_op op_add (pe_dget hu (pv 2) (pv 5) (fun _ _ => rfl)) pe_int) rfl)
              (pss_one (ps_expr (pe_bm PySem.F.plainAttrs_list PySem.F.slot_list_append PySem.F.type_list_append mt_append (pv 4) (pa_cons (pv 6) pa_nil))))) pss_nil)))))
        (pss_one (ps_set (i := 3) scFars.nd rfl (.inl rfl) (pv 4))))))
      (pss_one (ps_ret (pv 2)))), ?_⟩
    refine rs_par ?_
    intro fd' nfd
    refine ⟨.str p, rfl, upd_same, [(Sum.inr p, .int 0)], rfl, by show 1 ≤ 15; decide, ?_⟩
    have sf : Same H (upd (upd H fd' (.dK [])) fd' (.dK (mergeK [] [((Sum.inr p : Key), V.int 0)]))) := fun b o e => by
      have hb := ne_of_none e nfd
      rw [upd_ne hb, upd_ne hb]; exact e
    have ef : (upd (upd H fd' (.dK [])) fd' (.dK (mergeK [] [((Sum.inr p : Key), V.int 0)]))) fd' = some (.dK (encF [(p, 0)])) := upd_same
    generalize (upd (upd H fd' (.dK [])) fd' (.dK (mergeK [] [((Sum.inr p : Key), V.int 0)]))) = H1 at sf ef ⊢
    refine ⟨.str p, rfl, by show 1 ≤ sizeLine; decide, fun el nel => ⟨_, _, rfl, ?_⟩⟩
    refine bfs_way (fa := f) (sf.trans (same_upd nel)) ((same_upd nel) _ _ ef) upd_same nfd hp hl hnb nl.lst (fun n hn el' bl o6 H' Q s' q' => ⟨.ref d, rfl, .str n, rfl, d, .ref (f n), rfl, (nl.keep s').get hn, q'⟩) (fun el' xs σ' H' Q hσ e hx q' => ?_) (fun far H' σ' hσ b hf s' e => ⟨.ref fd', hσ, q far fd' H' b hf s' e nfd⟩)
    refine ⟨.ref el', hσ, Nat.zero_le _, fun l nl' => ⟨.list (xs.map PyData.str), .list [], .lst (sql_of ((same_upd nl') _ _ e)) (strs_dp xs), .lst (sql_of upd_same) .nil, strs_lay hnm hx, by decide +kernel, _, rfl, ?_⟩⟩
    have eb : PyData.eqv (.list (xs.map PyData.str)) (.list []) = xs.isEmpty := by
      rw [PyData.eqv]
      cases xs with
      | nil => rfl
      | cons x xs => rfl
    rw [eb]
    exact q' _ (same_upd nl')
end
end Hw

set_option Elab.async false
set_option linter.all false
set_option maxRecDepth 100000
set_option maxHeartbeats 4000000
namespace Hw
open PySem L2 PyProof.Rows
abbrev sAlong : Stmt := topS 16
/-! all reached: nothing more comes -/
def FullF (ns : List Str) (s : Far × List Str) : Prop := ∀ n ∈ ns, n ∈ s.1.map (·.1)
theorem full_of {ns : List Str} {n0 : Nat} {s : Far × List Str} (f : FarOk ns n0 s) (e : s.1.length = ns.length) : FullF ns s := by
  intro n hn
  by_cases h : n ∈ s.1.map (·.1)
  · exact h
  · exfalso
    have := sub_len (l := n :: s.1.map (·.1)) (m := ns) (List.nodup_cons.mpr ⟨h, f.nd⟩) (fun z hz => by
      rcases List.mem_cons.mp hz with hz | hz
      · rw [hz]; exact hn
      · exact f.sub z hz)
    rw [List.length_cons, List.length_map] at this
    omega
theorem FullF.stepO {ns : List Str} {s : Far × List Str} (f : FullF ns s) {one o : Str} (ho : o ∈ ns) : Hw.stepO one s o = s := by
  unfold Hw.stepO
  rw [if_pos (f o ho)]
theorem FullF.foldO {ns : List Str} {one : Str} : ∀ {os : List Str} {s : Far × List Str}, FullF ns s → (∀ o ∈ os, o ∈ ns) → os.foldl (Hw.stepO one) s = s
  | [], _, _, _ => rfl
  | o :: os, s, f, h => by
    rw [List.foldl_cons, f.stepO (h o List.mem_cons_self)]
    exact FullF.foldO f fun o ho => h o (List.mem_cons_of_mem _ ho)
theorem FullF.foldE {ns : List Str} {nb : Str → List Str} (hnb : ∀ n ∈ ns, ∀ o ∈ nb n, o ∈ ns) : ∀ {es : List Str} {s : Far × List Str}, FullF ns s → (∀ o ∈ es, o ∈ ns) → es.foldl (stepE nb) s = s
  | [], _, _, _ => rfl
  | o :: os, s, f, h => by
    rw [List.foldl_cons, show stepE nb s o = s from f.foldO (hnb o (h o List.mem_cons_self))]
    exact FullF.foldE hnb f fun o ho => h o (List.mem_cons_of_mem _ ho)
theorem full_bfs {ns : List Str} {nb : Str → List Str} (hnb : ∀ n ∈ ns, ∀ o ∈ nb n, o ∈ ns) {p : Str} (hp : p ∈ ns) {k i : Nat} {s : Far × List Str} (e : s = ((lev nb p k).2.take i).foldl (stepE nb) ((lev nb p k).1, [])) (f : FullF ns s) : Bfs nb p s.1 ∧ ∃ n0, FarOk ns n0 (s.1, []) := by
  obtain ⟨n0, f0⟩ := lev_ok hnb hp k
  have h1 : lev nb p (k + 1) = s := by
    show (lev nb p k).2.foldl (stepE nb) ((lev nb p k).1, []) = s
    rw [← List.take_append_drop i (lev nb p k).2, List.foldl_append, ← e]
    exact f.foldE hnb fun o ho => f0.sub o (f0.bey o (List.mem_of_mem_drop ho))
  obtain ⟨n1, f1⟩ := lev_ok hnb hp (k + 1)
  have h2 : lev nb p (k + 1 + 1) = (s.1, []) := by
    show lvl nb (lev nb p (k + 1)) = _
    rw [h1]
    rw [h1] at f1
    have ff : FullF ns (s.1, []) := f
    exact ff.foldE hnb fun o ho => f1.sub o (f1.bey o ho)
  obtain ⟨n2, f2⟩ := lev_ok hnb hp (k + 1 + 1)
  rw [h2] at f2
  exact ⟨⟨_, h2⟩, n2, f2⟩
theorem rs_whileR {c : TT} {tb u : TS} {D : Ends} {σ : L2.St} {H : Hp} (Pv : Nat → L2.St → Hp → Prop) (m0 : Nat) (h0 : Pv m0 σ H)
    (hs : ∀ m σ H, Pv m σ H → ∃ b : Bool, (∀ Q : Bool → Hp → Prop, (∀ H', Same H H' → Q b H') → c σ H Q) ∧ (b = true → ∀ H', Same H H' → ∀ D' : Ends, D'.rt = D.rt → (∀ σ'' H'', (∃ m', m' < m ∧ Pv m' σ'' H'') → D'.nx σ'' H'') → tb D' σ H') ∧ (b = false → ∀ H', Same H H' → u D σ H')) :
    tSeq (tWhile c tb) u D σ H := by
  refine ⟨Pv, ⟨m0, h0⟩, fun m σ H p => ?_⟩
  obtain ⟨b, hc, h1, h2⟩ := hs m σ H p
  refine hc _ fun H' s' => ?_
  cases b with
  | true => exact ⟨fun σ'' H'' => ∃ m', m' < m ∧ Pv m' σ'' H'', fun σ' H' ⟨m', l, p'⟩ => ⟨m', l, p'⟩, h1 rfl H' s' _ rfl fun σ'' H'' z => z⟩
  | false => exact h2 rfl H' s'
def lapC (K : PySem.W.Frag) (tc : TT) (te : TE) : TS := tSeq (tAsg (tLst tNil) (gName 4)) (tSeq (tFor (iList K (tVar 3)) (gName 5) (tSeq (tIfS tc (tRet (tVar 2)) tNext) (tFor (iList K te) (gName 6) (oneB K)))) (tAsg (tVar 4) (gName 3)))
/-- a level, left where all is reached -/
theorem along_lap {K : PySem.W.Frag} {D : Ends} {tc : TT} {te : TE} {s0 s1 o4 o5 o6 : Option V} {H0 H : Hp} {fd el : Addr} {p : Str} {k : Nat} {ns : List Str} {nb : Str → List Str} {n0 : Nat} {fa : Str → Addr} (e1 : Same H0 H) (e2 : H fd = some (.dK (encF (lev nb p k).1))) (e3 : H el = some (.lst ((lev nb p k).2.map V.str))) (f0 : H0 fd = none) (f : FarOk ns n0 (lev nb p k)) (hp : p ∈ ns) (hl : ns.length ≤ 1000) (hnb : ∀ n ∈ ns, ∀ o ∈ nb n, o ∈ ns)
    (ha : ∀ n ∈ ns, H0 (fa n) = some (.lst ((nb n).map V.str))) (hte : ∀ n ∈ ns, ∀ (bl : Addr) (o6 : Option V) (H' : Hp) (Q : VK), Same H0 H' → Q (.ref (fa n)) H' → te [s0, s1, some (.ref fd), some (.ref el), some (.ref bl), some (.str n), o6] H' Q)
    (htc : ∀ (far : Far) (o3 o4 o5 o6 : Option V) (H' : Hp) (Q : Bool → Hp → Prop), Same H0 H' → H' fd = some (.dK (encF far)) → Q (decide (far.length = ns.length)) H' → tc [s0, s1, some (.ref fd), o3, o4, o5, o6] H' Q)
    (ret : ∀ far H', Bfs nb p far → (∃ n0, FarOk ns n0 (far, [])) → Same H0 H' → H' fd = some (.dK (encF far)) → D.rt (.ref fd) H')
    (fin : ∀ H' bl o5' o6', Same H0 H' → H' fd = some (.dK (encF (lev nb p (k + 1)).1)) → H' bl = some (.lst ((lev nb p (k + 1)).2.map V.str)) → D.nx [s0, s1, some (.ref fd), some (.ref bl), some (.ref bl), o5', o6'] H') : lapC K tc te D [s0, s1, some (.ref fd), some (.ref el), o4, o5, o6] H := by
  refine rs_set ⟨Nat.zero_le _, fun bl nbl => ?_⟩
  have nel : el ≠ bl := ne_of_none e3 nbl
  have w0 : BfsH H0 fd el bl ((lev nb p k).1, []) (lev nb p k).2 (upd H bl (.lst [])) := ⟨e1.trans (same_upd nbl), (same_upd nbl) _ _ e2, (same_upd nbl) _ _ e3, upd_same, f0, e1.free nbl, nel⟩
  have f1 : FarOk ns (lev nb p k).1.length ((lev nb p k).1, []) := ⟨f.nd, f.sub, (fun _ z => nomatch z), rfl⟩
  refine rs_list el ((lev nb p k).2.map V.str) (fun Q q => ⟨_, rfl, q⟩) (fun i σ' H' => ∃ o5' o6', σ' = [s0, s1, some (.ref fd), some (.ref el), some (.ref bl), o5', o6'] ∧ BfsH H0 fd el bl (((lev nb p k).2.take i).foldl (stepE nb) ((lev nb p k).1, [])) (lev nb p k).2 H') ⟨_, _, rfl, w0⟩ (fun i σ' H' _ ⟨_, _, _, w⟩ => sql_of w.edge) ?_ ?_
  · rintro i x σ' H' hx ⟨o5', o6', rfl, w⟩
    obtain ⟨one, ho, rfl⟩ := map_get hx
    have h1 := f.bey one (List.mem_of_getElem? ho)
    have hin := f.sub one h1
    obtain ⟨fi, ki⟩ := f1.foldE hnb (es := (lev nb p k).2.take i) fun o ho => f.sub o (f.bey o (List.mem_of_mem_take ho))
    refine r_gname ?_
    refine htc _ _ _ _ _ H' _ w.same w.far ?_
    show if decide _ = true then _ else _
    by_cases hf : (((lev nb p k).2.take i).foldl (stepE nb) ((lev nb p k).1, [])).1.length = ns.length
    · rw [if_pos (decide_eq_true hf)]
      obtain ⟨b, n2, g⟩ := full_bfs hnb hp rfl (full_of fi hf)
      exact ⟨.ref fd, rfl, ret _ H' b ⟨n2, g⟩ w.same w.far⟩
    · rw [if_neg (by simpa using hf)]
      exact bfs_all w fi hl (ki _ h1) (hnb one hin) (ha one hin) (fun Q q => hte one hin bl o6' H' Q w.same q) fun H'' o6'' w' => ⟨_, _, rfl, by rw [foldl_snoc ho]; exact w'⟩
  · rintro σ' H' ⟨o5', o6', rfl, w⟩
    rw [List.length_map, List.take_length] at w
    exact ⟨.ref bl, rfl, fin H' bl o5' o6' w.same w.far w.bey⟩
theorem along_way {K : PySem.W.Frag} {c : TT} {u : TS} {D : Ends} {tc : TT} {te : TE} {s0 s1 o4 o5 o6 : Option V} {H0 H : Hp} {fd el : Addr} {p : Str} {ns : List Str} {nb : Str → List Str} {fa : Str → Addr} (e1 : Same H0 H) (e2 : H fd = some (.dK (encF [(p, 0)]))) (e3 : H el = some (.lst [.str p])) (f0 : H0 fd = none) (hp : p ∈ ns) (hl : ns.length ≤ 1000) (hnb : ∀ n ∈ ns, ∀ o ∈ nb n, o ∈ ns)
    (ha : ∀ n ∈ ns, H0 (fa n) = some (.lst ((nb n).map V.str))) (hte : ∀ n ∈ ns, ∀ (el bl : Addr) (o6 : Option V) (H' : Hp) (Q : VK), Same H0 H' → Q (.ref (fa n)) H' → te [s0, s1, some (.ref fd), some (.ref el), some (.ref bl), some (.str n), o6] H' Q)
    (htc : ∀ (far : Far) (o3 o4 o5 o6 : Option V) (H' : Hp) (Q : Bool → Hp → Prop), Same H0 H' → H' fd = some (.dK (encF far)) → Q (decide (far.length = ns.length)) H' → tc [s0, s1, some (.ref fd), o3, o4, o5, o6] H' Q)
    (hc : ∀ (el : Addr) (xs : List Str) (σ : L2.St) (H' : Hp) (Q : Bool → Hp → Prop), σ[3]? = some (some (.ref el)) → H' el = some (.lst (xs.map V.str)) → (∀ x ∈ xs, x ∈ ns) → (∀ H'', Same H' H'' → Q (!xs.isEmpty) H'') → c σ H' Q)
    (ret : ∀ far H', Bfs nb p far → (∃ n0, FarOk ns n0 (far, [])) → Same H0 H' → H' fd = some (.dK (encF far)) → D.rt (.ref fd) H')
    (fin : ∀ far H' σ', σ'[2]? = some (some (.ref fd)) → Bfs nb p far → (∃ n0, FarOk ns n0 (far, [])) → Same H0 H' → H' fd = some (.dK (encF far)) → u D σ' H') : tSeq (tWhile c (lapC K tc te)) u D [s0, s1, some (.ref fd), some (.ref el), o4, o5, o6] H := by
  refine rs_whileR (LevAt H0 s0 s1 fd ns nb p) _ ⟨0, el, _, _, _, rfl, e1, e2, e3, rfl⟩ ?_
  rintro m σ H1 ⟨i, el1, o4', o5', o6', rfl, sx, efd, eel, rfl⟩
  obtain ⟨n0, f⟩ := lev_ok hnb hp i
  refine ⟨!(lev nb p i).2.isEmpty, fun Q q => hc el1 _ _ H1 Q rfl eel (fun x hx => f.sub x (f.bey x hx)) q, fun hb H2 s2 D' hr hD => ?_, fun hb H2 s2 => ?_⟩
  · have hne : (lev nb p i).2 ≠ [] := fun e => by rw [e] at hb; cases hb
    refine along_lap (fa := fa) (sx.trans s2) (s2 _ _ efd) (s2 _ _ eel) f0 f hp hl hnb ha (fun n hn bl o6'' H' Q s' q' => hte n hn el1 bl o6'' H' Q s' q') htc (fun far H' b g s' e' => by rw [hr]; exact ret far H' b g s' e') fun H' bl o5'' o6'' s' e' b' => hD _ _ ⟨_, mu_lvl hnb f hne, i + 1, bl, _, _, _, rfl, s', e', b', rfl⟩
  · have he : (lev nb p i).2 = [] := by
      cases h : (lev nb p i).2 with
      | nil => rfl
      | cons x xs => rw [h] at hb; cases hb
    have hb' : lev nb p i = ((lev nb p i).1, []) := Prod.ext rfl he
    exact fin _ _ _ rfl ⟨i, hb'⟩ ⟨n0, by rw [hb'] at f; exact f⟩ (sx.trans s2) (s2 _ _ efd)
section
variable {P : Program} {w : World} {K : PySem.W.Frag} {mg : Str → Option Value} {base : Heap}
theorem scAlong : FnScope ["tied", "place", "far", "edge", "beyond", "one", "other"] ["tied", "place"] (defScope sAlong) := ⟨rfl, rfl, rfl, by decide +kernel, rfl, by decide +kernel, by decide +kernel⟩
theorem ok_along {f : Addr} {fd : FuncData} {k : Nat} (F : Fun K "far_along" "far_along" sAlong f fd) (B : Blt mg) : FnOk P w K mg base CX0 (k + 1) f fd ["tied", "place"] spFars := by
  refine F.ok scAlong (fun vs H Q E h => ?_) (fun cdv A outer s H vs Q E hr h => ?_)
  · obtain ⟨d, p, f, ns, ts, rfl, _⟩ := h
    rfl
  · obtain ⟨d, p, f, ns, ts, rfl, nl, hp, hnm, hl, hnb, q⟩ := h
    have hu := hu_of hr
    have hu64 := hr.units
    refine ⟨_, pss_cons (ps_set (i := 2) scAlong.nd rfl (.inl rfl) (pe_disp (pps_cons (pv 1) pe_int pps_nil) (by rfl) (by rfl) (fun z => by cases z) (by decide)))
      (pss_cons (ps_set (i := 3) scAlong.nd rfl (.inl rfl) (pe_lst (pa_cons (pv 1) pa_nil)))
      (pss_cons (ps_while PassesOwn.never (pt_truth (pv 3) (by intro _; rfl))
        (pss_cons (ps_set (i := 4) scAlong.nd rfl (.inl rfl) (pe_lst pa_nil))
        (pss_cons (ps_for PassesOwn.never rfl (pi_list (pv 3)) (pg_name (i := 5) scAlong.nd rfl (.inl rfl))
          (pss_cons (ps_if (pt_cmpR op_eq (pe_callB call_lenD (by rfl) B.len PySem.boot_len (pa_cons (pv 2) pa_nil)) (pe_callB call_lenD (by rfl) B.len PySem.boot_len (pa_cons (pv 0) pa_nil)) (nomark _)) (pss_one (ps_ret (pv 2))) pss_nil)
          (pss_one (ps_for PassesOwn.never rfl (pi_list (pe_dget hu (pv 0) (pv 5) (fun _ _ => rfl))) (pg_name (i := 6) scAlong.nd rfl (.inl rfl))
            (pss_one (ps_if (pt_cmp (pc_dnotin hu (pv 6) (pv 2)))
              (pss_cons (ps_dput hu (pv 2) (pv 6) (pe_op op_add (pe_dget hu (pv 2) (pv 5) (fun _ _ => rfl)) pe_int) rfl)
              (pss_one (ps_expr (pe_bm PySem.F.plainAttrs_list PySem.F.slot_list_append PySem.F.type_list_append mt_append (pv 4) (pa_cons (pv 6) pa_nil))))) pss_nil))))))
        (pss_one (ps_set (i := 3) scAlong.nd rfl (.inl rfl) (pv 4))))))
      (pss_one (ps_ret (pv 2))))), ?_⟩
    refine rs_set ?_
    intro fd' nfd
    refine ⟨.str p, rfl, upd_same, [(Sum.inr p, .int 0)], rfl, by show 1 ≤ 15; decide, ?_⟩
    have sf : Same H (upd (upd H fd' (.dK [])) fd' (.dK (mergeK [] [((Sum.inr p : Key), V.int 0)]))) := fun b o e => by
      have hb := ne_of_none e nfd
      rw [upd_ne hb, upd_ne hb]; exact e
    have ef : (upd (upd H fd' (.dK [])) fd' (.dK (mergeK [] [((Sum.inr p : Key), V.int 0)]))) fd' = some (.dK (encF [(p, 0)])) := upd_same
    generalize (upd (upd H fd' (.dK [])) fd' (.dK (mergeK [] [((Sum.inr p : Key), V.int 0)]))) = H1 at sf ef ⊢
    refine rs_set ?_
    refine ⟨.str p, rfl, by show 1 ≤ sizeLine; decide, fun el nel => ?_⟩
    refine along_way (fa := f) (sf.trans (same_upd nel)) ((same_upd nel) _ _ ef) upd_same nfd hp hl hnb nl.lst (fun n hn el' bl o6 H' Q s' q' => ⟨.ref d, rfl, .str n, rfl, d, .ref (f n), rfl, (nl.keep s').get hn, q'⟩) (fun far o3 o4 o5 o6 H' Q s' e q' => ?_) (fun el' xs σ' H' Q hσ e hx q' => ?_) (fun far H' b hf s' e => q far fd' H' b hf s' e nfd) (fun far H' σ' hσ b hf s' e => ⟨.ref fd', hσ, q far fd' H' b hf s' e nfd⟩)
    · refine ⟨.ref fd', rfl, fd', _, rfl, e, .ref d, rfl, d, _, rfl, s' _ _ nl.dict, ?_⟩
      have eb : decide (V.int ((encF far).length : Nat) = V.int ((ns.map fun n => ((Sum.inr n : Key), V.ref (f n))).length : Nat)) = decide (far.length = ns.length) := by
        rw [List.length_map]
        unfold encF
        rw [List.length_map]
        rw [decide_eq_decide]
        constructor
        · intro e
          injection e with e
          omega
        · intro e
          rw [e]
      exact ⟨rfl, _, rfl, by rw [← eb] at q'; exact q'⟩
    · refine ⟨.ref el', hσ, _, .inl ⟨_, sql_of e, rfl⟩, ?_⟩
      have eb : (xs.map V.str).isEmpty = xs.isEmpty := by cases xs <;> rfl
      rw [eb]
      exact q' _ (Same.refl _)
end
end Hw

set_option Elab.async false
set_option linter.all false
set_option maxRecDepth 100000
set_option maxHeartbeats 4000000
namespace Hw
open PySem L2 PyProof.Rows
abbrev sInitW : Stmt := inClass (topS 14) 0
abbrev sHasW : Stmt := inClass (topS 14) 2
abbrev sFarBy : Stmt := inClass (topS 14) 4
def wfl (z : Str) (pl t d : Addr) : List (Str × V) := putF "_tied" (.ref d) (putF "ties" (.ref t) (putF "places" (.ref pl) (putF "text" (.str z) [])))
theorem wfl_tied (z : Str) (pl t d : Addr) : (wfl z pl t d).lookup ("_tied" : Str) = some (.ref d) := by
  unfold wfl
  rw [lookup_putF, if_pos rfl]
theorem wfl_no (z : Str) (pl t d : Addr) {m : Str} (h1 : ¬ m = "_tied") (h2 : ¬ m = "ties") (h3 : ¬ m = "places") (h4 : ¬ m = "text") : (wfl z pl t d).lookup m = none := by
  unfold wfl
  rw [lookup_putF, if_neg h1, lookup_putF, if_neg h2, lookup_putF, if_neg h3, lookup_putF, if_neg h4]; rfl
/-- a Web at x -/
structure WebO (C : Addr) (H : Hp) (x : Addr) (ns : List Str) (ts : List Tie) : Prop where
  ex : ∃ dx pl t d f, H x = some (.ins C dx (wfl (webText ns ts) pl t d)) ∧ ReadAt H pl t ns ts ∧ NearL f H d ns (nbr ts)
  good : GoodW ns ts
theorem ReadAt.keep {H H' : Hp} {pl t : Addr} {ns : List Str} {ts : List Tie} (r : ReadAt H pl t ns ts) (s : Same H H') : ReadAt H' pl t ns ts := by
  obtain ⟨h1, qs, h2, h3⟩ := r
  exact ⟨s _ _ h1, qs, s _ _ h2, paired_mono (fun q t e => s _ _ e) h3⟩
theorem WebO.keep {C : Addr} {H H' : Hp} {x : Addr} {ns : List Str} {ts : List Tie} (w : WebO C H x ns ts) (s : Same H H') : WebO C H' x ns ts := by
  obtain ⟨⟨dx, pl, t, d, f, h1, h2, h3⟩, g⟩ := w
  exact ⟨⟨dx, pl, t, d, f, s _ _ h1, h2.keep s, h3.keep s⟩, g⟩
theorem ReadAt.put {H : Hp} {pl t x C dx : Addr} {fs : List (Str × V)} {o : HO} {ns : List Str} {ts : List Tie} (r : ReadAt H pl t ns ts) (hx : H x = some (.ins C dx fs)) : ReadAt (upd H x o) pl t ns ts := by
  obtain ⟨h1, qs, h2, h3⟩ := r
  have n : ∀ {b : Addr} {xs : List V}, H b = some (.tup xs) → (upd H x o) b = some (.tup xs) := fun {b xs} e => by rw [upd_ne (ne_of e hx (fun z => nomatch z))]; exact e
  exact ⟨n h1, qs, n h2, paired_mono (fun q t e => n e) h3⟩
theorem NearL.put {f : Str → Addr} {H : Hp} {d x C dx : Addr} {fs : List (Str × V)} {o : HO} {ns : List Str} {L : Str → List Str} (w : NearL f H d ns L) (hx : H x = some (.ins C dx fs)) : NearL f (upd H x o) d ns L :=
  ⟨by rw [upd_ne (ne_of w.dict hx (fun z => nomatch z))]; exact w.dict, fun n hn => by rw [upd_ne (ne_of (w.lst n hn) hx (fun z => nomatch z))]; exact w.lst n hn, w.inj⟩
structure TxtW (K : PySem.W.Frag) (mg : Str → Option Value) (C : Addr) : Prop where
  cl : Cls K C
  nT : NoAttr K C "text"
  nP : NoAttr K C "places"
  nI : NoAttr K C "ties"
  nD : NoAttr K C "_tied"
  mW : mg "Web" = some (.ref C)
def spInitW (C : Addr) : Sp := fun vs H Q _ => ∃ (x dx : Addr) (ns : List Str) (ts : List Tie), vs = [.ref x, .str (webText ns ts)] ∧ GoodW ns ts ∧ H x = some (.ins C dx []) ∧ ∀ H', WebO C H' x ns ts → SameX x H H' → Q .non H'
def spHasW (C : Addr) : Sp := fun vs H Q _ => ∃ (x : Addr) (z : Str) (ns : List Str) (ts : List Tie), vs = [.ref x, .str z] ∧ WebO C H x ns ts ∧ z ∈ ns ∧ Q (.bl true) H
def spFarBy (C : Addr) : Sp := fun vs H Q _ => ∃ (x : Addr) (p : Str) (ns : List Str) (ts : List Tie), vs = [.ref x, .str p] ∧ WebO C H x ns ts ∧ p ∈ ns ∧ ∀ far fd H', Bfs (nbr ts) p far → (∃ n0, FarOk ns n0 (far, [])) → Same H H' → H' fd = some (.dK (encF far)) → H fd = none → Q (.ref fd) H'
section
variable {P : Program} {w : World} {K : PySem.W.Frag} {mg : Str → Option Value} {base : Heap}
theorem scInitW : FnScope ["self", "text", "places", "ties"] ["self", "text"] (defScope sInitW) := ⟨rfl, rfl, rfl, by decide +kernel, rfl, by decide +kernel, by decide +kernel⟩
theorem ok_initW {f fR fT C : Addr} {fd fdR fdT : FuncData} {k : Nat} (F : Fun K "__init__" "Web.__init__" sInitW f fd) (T : TxtW K mg C) (GR : FnOk P w K mg base CX0 k fR fdR ["text"] spReadW) (gR : mg "read_web" = some (.ref fR)) (kR : PySem.W.keepIn K (.ref fR) = true) (bR : Binds K fdR ["text"] [])
    (GT : FnOk P w K mg base CX0 k fT fdT ["places", "ties"] spTied) (gT : mg "tied_by" = some (.ref fT)) (kT : PySem.W.keepIn K (.ref fT) = true) (bT : Binds K fdT ["places", "ties"] []) : FnOk P w K mg base CX0 (k + 1) f fd ["self", "text"] (spInitW C) := by
  refine F.ok scInitW (fun vs H Q E h => ?_) (fun cdv A outer s H vs Q E hr h => ?_)
  · obtain ⟨x, dx, ns, ts, rfl, _⟩ := h
    rfl
  · obtain ⟨x, dx, ns, ts, rfl, g, hx, q⟩ := h
    refine ⟨_, pss_cons (ps_asg (pe_call GR hr (by rfl) gR kR bR .nil pass0 (pa_cons (pv 1) pa_nil)) (pg_tup rfl (pgs_cons (pg_name (i := 2) scInitW.nd rfl (.inl rfl)) (pgs_cons (pg_name (i := 3) scInitW.nd rfl (.inl rfl)) pgs_nil))))
      (pss_cons (ps_fld (pv 0) (pv 1) rfl) (pss_cons (ps_fld (pv 0) (pv 2) rfl) (pss_cons (ps_fld (pv 0) (pv 3) rfl) (pss_one (ps_fld (pv 0) (pe_call GT hr (by rfl) gT kT bT .nil pass0 (pa_cons (pv 2) (pa_cons (pv 3) pa_nil))) rfl))))), ?_⟩
    refine ⟨.str (webText ns ts), rfl, ns, ts, rfl, g, fun p pl t H1 s1 ep r => ?_⟩
    refine ⟨p, [.ref pl, .ref t], rfl, sqt_of ep, rfl, _, [.ref t], rfl, _, [], rfl, rfl, ?_⟩
    have e0 := s1 _ _ hx
    have l1 := length_putF "text" (V.str (webText ns ts)) []
    have l2 := length_putF "places" (V.ref pl) (putF "text" (V.str (webText ns ts)) [])
    have l3 := length_putF "ties" (V.ref t) (putF "places" (V.ref pl) (putF "text" (V.str (webText ns ts)) []))
    have l0 : ([] : List (Str × V)).length = 0 := rfl
    have ra : ReadAt H1 pl t ns ts := r
    have r1 := ra.put (o := .ins C dx (putF "text" (.str (webText ns ts)) [])) e0
    have r2 := r1.put (o := .ins C dx (putF "places" (.ref pl) (putF "text" (.str (webText ns ts)) []))) upd_same
    have r3 := r2.put (o := .ins C dx (putF "ties" (.ref t) (putF "places" (.ref pl) (putF "text" (.str (webText ns ts)) [])))) upd_same
    refine ⟨.str (webText ns ts), rfl, .ref x, rfl, x, C, dx, [], rfl, e0, T.cl, T.nT, by omega, .ref pl, rfl, .ref x, rfl, x, C, dx, _, rfl, upd_same, T.cl, T.nP, by omega, .ref t, rfl, .ref x, rfl, x, C, dx, _, rfl, upd_same, T.cl, T.nI, by omega, ?_⟩
    obtain ⟨q1, qs, q2, q3⟩ := id r3
    refine ⟨.ref pl, rfl, .ref t, rfl, pl, t, ns, ts, qs, rfl, g.fine, q1, q2, q3, fun d fa H5 s5 nl nd nf => ?_⟩
    have ex := s5 _ _ (upd_same (H := upd (upd H1 x (.ins C dx (putF "text" (.str (webText ns ts)) []))) x (.ins C dx (putF "places" (.ref pl) (putF "text" (.str (webText ns ts)) [])))) (a := x) (o := .ins C dx (putF "ties" (.ref t) (putF "places" (.ref pl) (putF "text" (.str (webText ns ts)) [])))))
    refine ⟨.ref x, rfl, x, C, dx, _, rfl, ex, T.cl, T.nD, by omega, q _ ⟨⟨dx, pl, t, d, fa, upd_same, (r3.keep s5).put ex, nl.put ex⟩, g⟩ fun b o hb e => ?_⟩
    rw [upd_ne hb]
    refine s5 _ _ ?_
    rw [upd_ne hb, upd_ne hb, upd_ne hb]
    exact s1 _ _ e
theorem scHasW : FnScope ["self", "value"] ["self", "value"] (defScope sHasW) := ⟨rfl, rfl, rfl, by decide +kernel, rfl, by decide +kernel, by decide +kernel⟩
theorem ok_hasW {f C : Addr} {fd : FuncData} {k : Nat} (F : Fun K "__contains__" "Web.__contains__" sHasW f fd) (T : TxtW K mg C) (B3 : Blt3 mg) : FnOk P w K mg base CX0 (k + 1) f fd ["self", "value"] (spHasW C) := by
  refine F.ok scHasW (fun vs H Q E h => ?_) (fun cdv A outer s H vs Q E hr h => ?_)
  · obtain ⟨x, z, ns, ts, rfl, _⟩ := h
    rfl
  · obtain ⟨x, z, ns, ts, rfl, wb, hz, q⟩ := h
    obtain ⟨⟨dx, pl, t, d, fa, h1, h2, h3⟩, g⟩ := wb
    have hu := hu_of hr
    refine ⟨_, pss_one (ps_ret (pe_and (pe_callB call_isi (by rfl) B3.isi PyProof.Rows.boot_isinstance (pa_cons (pv 1) (pa_cons (pe_bltn (v := .ty "str") (by rfl) B3.str (by decide +kernel) rfl) pa_nil)))
      (pe_one (pe_cmp (pc_din hu (pv 1) (pe_fld (pv 0) rfl)) rfl)))), ?_⟩
    refine ⟨.str z, rfl, .str z, .ty "str", .type "str", .type "str", true, rfl, .ty _, .base (.str z), kit_ty (by decide +kernel), true, rfl, ?_⟩
    have := h3.get hz
    exact ⟨.str z, rfl, .ref x, rfl, x, C, dx, _, _, rfl, h1, T.cl, T.nD, wfl_tied _ _ _ _, d, _, rfl, this, q⟩
theorem scFarBy : FnScope ["self", "place"] ["self", "place"] (defScope sFarBy) := ⟨rfl, rfl, rfl, by decide +kernel, rfl, by decide +kernel, by decide +kernel⟩
theorem ok_farby {f fA C : Addr} {fd fdA : FuncData} {k : Nat} (F : Fun K "far_by_place" "Web.far_by_place" sFarBy f fd) (T : TxtW K mg C) (GA : FnOk P w K mg base CX0 k fA fdA ["tied", "place"] spFars) (gA : mg "far_along" = some (.ref fA)) (kA : PySem.W.keepIn K (.ref fA) = true) (bA : Binds K fdA ["tied", "place"] []) : FnOk P w K mg base CX0 (k + 1) f fd ["self", "place"] (spFarBy C) := by
  refine F.ok scFarBy (fun vs H Q E h => ?_) (fun cdv A outer s H vs Q E hr h => ?_)
  · obtain ⟨x, p, ns, ts, rfl, _⟩ := h
    rfl
  · obtain ⟨x, p, ns, ts, rfl, wb, hp, q⟩ := h
    obtain ⟨⟨dx, pl, t, d, fa, h1, h2, h3⟩, g⟩ := wb
    refine ⟨_, pss_one (ps_ret (pe_call GA hr (by rfl) gA kA bA .nil pass0 (pa_cons (pe_fld (pv 0) rfl) (pa_cons (pv 1) pa_nil)))), ?_⟩
    exact ⟨.ref x, rfl, x, C, dx, _, _, rfl, h1, T.cl, T.nD, wfl_tied _ _ _ _, .str p, rfl, d, p, fa, ns, ts, rfl, h3, hp, g.nm, by have := g.few; omega, (fun n hn o ho => nbr_mem g.tie ho), q⟩
end
end Hw

set_option Elab.async false
set_option linter.all false
set_option maxRecDepth 100000
set_option maxHeartbeats 4000000
namespace Hw
open PySem L2 PyProof.Rows
/-! that the levels tell the least ways, and so the same both ways -/
def Reach (nb : Str → List Str) (p : Str) : Nat → Str → Prop
  | 0, y => y = p
  | n + 1, y => ∃ c, Reach nb p n c ∧ y ∈ nb c
theorem Reach.cons {nb : Str → List Str} (hs : ∀ a b, b ∈ nb a → a ∈ nb b) {p q : Str} (h : q ∈ nb p) : ∀ {n : Nat} {y : Str}, Reach nb q n y → Reach nb p (n + 1) y
  | 0, y, e => by
    have e : y = q := e
    subst e
    exact ⟨p, rfl, h⟩
  | n + 1, y, ⟨c, hc, hy⟩ => ⟨c, Reach.cons hs h hc, hy⟩
theorem Reach.symm {nb : Str → List Str} (hs : ∀ a b, b ∈ nb a → a ∈ nb b) {p : Str} : ∀ {n : Nat} {y : Str}, Reach nb p n y → Reach nb y n p
  | 0, y, e => by
    have e : y = p := e
    exact e.symm
  | n + 1, y, ⟨c, hc, hy⟩ => (Reach.symm hs hc).cons hs (hs c y hy)
theorem nbr_sym (ts : List Tie) (a b : Str) (h : b ∈ nbr ts a) : a ∈ nbr ts b := by
  obtain ⟨t, ht, hm⟩ := List.mem_flatMap.mp h
  refine List.mem_flatMap.mpr ⟨t, ht, ?_⟩
  rcases List.mem_append.mp hm with hm | hm
  · split at hm
    · rename_i e
      rw [List.mem_singleton.mp hm]
      exact List.mem_append_right _ (by rw [if_pos rfl, e]; exact List.mem_cons_self)
    · cases hm
  · split at hm
    · rename_i e
      rw [List.mem_singleton.mp hm]
      exact List.mem_append_left _ (by rw [if_pos rfl, e]; exact List.mem_cons_self)
    · cases hm
theorem lookF_app_l {far more : Far} {y : Str} (h : y ∈ far.map (·.1)) : lookF (far ++ more) y = lookF far y := by
  unfold lookF
  rw [List.find?_append]
  obtain ⟨p, hp, e⟩ := List.mem_map.mp h
  cases hf : far.find? (fun p => decide (p.1 = y)) with
  | some q => rfl
  | none => exact absurd (decide_eq_true e) (by have := List.find?_eq_none.mp hf p hp; simpa using this)
theorem lookF_app_r {far more : Far} {y : Str} (h : y ∉ far.map (·.1)) : lookF (far ++ more) y = lookF more y := by
  unfold lookF
  rw [List.find?_append]
  have hf : far.find? (fun p => decide (p.1 = y)) = none := List.find?_eq_none.mpr fun p hp e => h (List.mem_map.mpr ⟨p, hp, of_decide_eq_true e⟩)
  rw [hf]; rfl
theorem lookF_const {ys : List Str} {y : Str} {k : Nat} (h : y ∈ ys) : lookF (ys.map fun z => (z, k)) y = k := by
  induction ys with
  | nil => cases h
  | cons z ys ih =>
    unfold lookF at ih ⊢
    rw [List.map_cons]
    by_cases e : z = y
    · rw [List.find?_cons_of_pos (by exact decide_eq_true e)]; rfl
    · rw [List.find?_cons_of_neg (by simpa using e)]
      rcases List.mem_cons.mp h with rfl | h
      · exact absurd rfl e
      · exact ih h
/-- while a level is made: old ones, new ones, from those that were looked at -/
structure Mid (far0 : Far) (i : Nat) (S : Str → Prop) (s : Far × List Str) : Prop where
  eq : s.1 = far0 ++ s.2.map fun y => (y, i + 1)
  mem : ∀ y, y ∈ s.2 ↔ y ∉ far0.map (·.1) ∧ S y
theorem map_keys (ys : List Str) (k : Nat) : (ys.map fun y => (y, k)).map (·.1) = ys := by
  rw [List.map_map]
  exact List.map_id' ys
theorem Mid.keys {far0 : Far} {i : Nat} {S : Str → Prop} {s : Far × List Str} (m : Mid far0 i S s) (y : Str) : y ∈ s.1.map (·.1) ↔ y ∈ far0.map (·.1) ∨ y ∈ s.2 := by
  rw [m.eq, List.map_append, List.mem_append, map_keys]
theorem Mid.stepO {far0 : Far} {i : Nat} {S : Str → Prop} {s : Far × List Str} (m : Mid far0 i S s) {one o : Str} (h1 : one ∈ far0.map (·.1)) (hl : lookF far0 one = i) : Mid far0 i (fun y => S y ∨ y = o) (stepO one s o) := by
  have hlk : lookF s.1 one = i := by rw [m.eq, lookF_app_l h1, hl]
  unfold Hw.stepO
  by_cases h : o ∈ s.1.map (·.1)
  · rw [if_pos h]
    refine ⟨m.eq, fun y => ⟨fun hy => ⟨((m.mem y).mp hy).1, .inl ((m.mem y).mp hy).2⟩, fun ⟨n, hy⟩ => ?_⟩⟩
    rcases hy with hy | rfl
    · exact (m.mem y).mpr ⟨n, hy⟩
    · rcases (m.keys y).mp h with h | h
      · exact absurd h n
      · exact h
  · rw [if_neg h, hlk]
    refine ⟨?_, fun y => ?_⟩
    · show s.1 ++ [(o, i + 1)] = far0 ++ (s.2 ++ [o]).map _
      rw [List.map_append, ← List.append_assoc, ← m.eq]; rfl
    · show y ∈ s.2 ++ [o] ↔ _
      rw [List.mem_append, List.mem_singleton, m.mem y]
      constructor
      · rintro (⟨a, b⟩ | rfl)
        · exact ⟨a, .inl b⟩
        · exact ⟨fun z => h ((m.keys y).mpr (.inl z)), .inr rfl⟩
      · rintro ⟨a, b | b⟩
        · exact .inl ⟨a, b⟩
        · exact .inr b
theorem Mid.congr {far0 : Far} {i : Nat} {S T : Str → Prop} {s : Far × List Str} (m : Mid far0 i S s) (h : ∀ y, S y ↔ T y) : Mid far0 i T s := ⟨m.eq, fun y => by rw [m.mem y, h y]⟩
theorem Mid.foldO {far0 : Far} {i : Nat} {one : Str} (h1 : one ∈ far0.map (·.1)) (hl : lookF far0 one = i) : ∀ {os : List Str} {S : Str → Prop} {s : Far × List Str}, Mid far0 i S s → Mid far0 i (fun y => S y ∨ y ∈ os) (os.foldl (Hw.stepO one) s)
  | [], S, s, m => m.congr fun y => by simp
  | o :: os, S, s, m => ((m.stepO h1 hl).foldO h1 hl (os := os)).congr fun y => by simp [or_assoc]
theorem Mid.foldE {far0 : Far} {i : Nat} {nb : Str → List Str} : ∀ {es : List Str} {S : Str → Prop} {s : Far × List Str}, (∀ e ∈ es, e ∈ far0.map (·.1) ∧ lookF far0 e = i) → Mid far0 i S s → Mid far0 i (fun y => S y ∨ ∃ e ∈ es, y ∈ nb e) (es.foldl (stepE nb) s)
  | [], S, s, _, m => m.congr fun y => by simp
  | e :: es, S, s, h, m => by
    have m1 : Mid far0 i (fun y => S y ∨ y ∈ nb e) (stepE nb s e) := m.foldO (h e List.mem_cons_self).1 (h e List.mem_cons_self).2
    exact (Mid.foldE (fun x hx => h x (List.mem_cons_of_mem _ hx)) m1).congr fun y => by simp [or_assoc]
/-- what is known behind i levels -/
structure Least (nb : Str → List Str) (p : Str) (i : Nat) (s : Far × List Str) : Prop where
  mem : ∀ y, y ∈ s.1.map (·.1) ↔ ∃ n, n ≤ i ∧ Reach nb p n y
  way : ∀ y, y ∈ s.1.map (·.1) → Reach nb p (lookF s.1 y) y ∧ ∀ n, Reach nb p n y → lookF s.1 y ≤ n
  edge : ∀ y, y ∈ s.2 ↔ y ∈ s.1.map (·.1) ∧ lookF s.1 y = i
theorem Least.lvl {nb : Str → List Str} {p : Str} {i : Nat} {s : Far × List Str} (l : Least nb p i s) : Least nb p (i + 1) (lvl nb s) := by
  have m : Mid s.1 i (fun y => False ∨ ∃ e ∈ s.2, y ∈ nb e) (Hw.lvl nb s) := Mid.foldE (fun e he => (l.edge e).mp he) ⟨by simp, fun y => by simp⟩
  have far : ∀ y, y ∈ s.1.map (·.1) → lookF (Hw.lvl nb s).1 y = lookF s.1 y := fun y hy => by rw [m.eq, lookF_app_l hy]
  have new : ∀ y, y ∈ (Hw.lvl nb s).2 → lookF (Hw.lvl nb s).1 y = i + 1 := fun y hy => by rw [m.eq, lookF_app_r ((m.mem y).mp hy).1, lookF_const hy]
  have le : ∀ y, y ∈ s.1.map (·.1) → lookF s.1 y ≤ i := fun y hy => by
    obtain ⟨n, hn, hr⟩ := (l.mem y).mp hy
    exact Nat.le_trans ((l.way y hy).2 n hr) hn
  have reach : ∀ y, y ∈ (Hw.lvl nb s).2 → Reach nb p (i + 1) y := fun y hy => by
    rcases ((m.mem y).mp hy).2 with f | ⟨e, he, hye⟩
    · exact f.elim
    · obtain ⟨e1, e2⟩ := (l.edge e).mp he
      have := (l.way e e1).1
      rw [e2] at this
      exact ⟨e, this, hye⟩
  have mem : ∀ y, y ∈ (Hw.lvl nb s).1.map (·.1) ↔ ∃ n, n ≤ i + 1 ∧ Reach nb p n y := fun y => by
    rw [m.keys y]
    constructor
    · rintro (h | h)
      · obtain ⟨n, hn, hr⟩ := (l.mem y).mp h
        exact ⟨n, by omega, hr⟩
      · exact ⟨i + 1, Nat.le_refl _, reach y h⟩
    · rintro ⟨n, hn, hr⟩
      by_cases hni : n ≤ i
      · exact .inl ((l.mem y).mpr ⟨n, hni, hr⟩)
      · obtain rfl : n = i + 1 := by omega
        obtain ⟨c, hc, hy⟩ := hr
        have hcm := (l.mem c).mpr ⟨i, Nat.le_refl _, hc⟩
        by_cases hlt : lookF s.1 c = i
        · by_cases hyf : y ∈ s.1.map (·.1)
          · exact .inl hyf
          · exact .inr ((m.mem y).mpr ⟨hyf, .inr ⟨c, (l.edge c).mpr ⟨hcm, hlt⟩, hy⟩⟩)
        · have hl := le c hcm
          exact .inl ((l.mem y).mpr ⟨lookF s.1 c + 1, by omega, c, (l.way c hcm).1, hy⟩)
  refine ⟨mem, fun y hy => ?_, fun y => ?_⟩
  · rcases (m.keys y).mp hy with h | h
    · rw [far y h]; exact l.way y h
    · rw [new y h]
      refine ⟨reach y h, fun n hr => ?_⟩
      by_cases hni : n ≤ i
      · exact absurd ((l.mem y).mpr ⟨n, hni, hr⟩) ((m.mem y).mp h).1
      · omega
  · constructor
    · intro h
      exact ⟨(m.keys y).mpr (.inr h), new y h⟩
    · rintro ⟨h1, h2⟩
      rcases (m.keys y).mp h1 with h | h
      · rw [far y h] at h2
        have := le y h
        omega
      · exact h
theorem lev_least (nb : Str → List Str) (p : Str) : ∀ i, Least nb p i (lev nb p i)
  | 0 => by
    have e : lookF [(p, 0)] p = 0 := by unfold lookF; rw [List.find?_cons_of_pos (by exact decide_eq_true rfl)]; rfl
    refine ⟨fun y => ?_, fun y hy => ?_, fun y => ?_⟩
    · show y ∈ [p] ↔ _
      rw [List.mem_singleton]
      constructor
      · intro h; exact ⟨0, Nat.le_refl _, h⟩
      · rintro ⟨n, hn, hr⟩
        obtain rfl : n = 0 := by omega
        exact hr
    · have hy : y ∈ [p] := hy
      rw [List.mem_singleton.mp hy]
      show Reach nb p (lookF [(p, 0)] p) p ∧ ∀ n, Reach nb p n p → lookF [(p, 0)] p ≤ n
      rw [e]
      exact ⟨rfl, fun n _ => Nat.zero_le _⟩
    · show y ∈ [p] ↔ y ∈ [p] ∧ lookF [(p, 0)] y = 0
      constructor
      · intro h
        refine ⟨h, ?_⟩
        rw [List.mem_singleton.mp h]; exact e
      · exact fun h => h.1
  | i + 1 => (lev_least nb p i).lvl
/-- all ways that there are -/
theorem Bfs.least {nb : Str → List Str} {p : Str} {far : Far} (h : Bfs nb p far) : (∀ y, y ∈ far.map (·.1) ↔ ∃ n, Reach nb p n y) ∧ ∀ y, y ∈ far.map (·.1) → Reach nb p (lookF far y) y ∧ ∀ n, Reach nb p n y → lookF far y ≤ n := by
  obtain ⟨i, h⟩ := h
  have l := lev_least nb p i
  rw [h] at l
  refine ⟨fun y => ⟨fun hy => ?_, fun ⟨n, hr⟩ => ?_⟩, l.way⟩
  · obtain ⟨n, _, hr⟩ := (l.mem y).mp hy
    exact ⟨n, hr⟩
  · have l2 := lev_least nb p (i + n)
    rw [lev_stay h n] at l2
    exact (l2.mem y).mpr ⟨n, by omega, hr⟩
/-- how far, told as a value -/
def farV (far : Far) (y : Str) : V := if y ∈ far.map (·.1) then .int (lookF far y : Nat) else .non
theorem far_sym {nb : Str → List Str} (hs : ∀ a b, b ∈ nb a → a ∈ nb b) {p q : Str} {far far' : Far} (h : Bfs nb p far) (h' : Bfs nb q far') : farV far q = farV far' p := by
  obtain ⟨m, w⟩ := h.least
  obtain ⟨m', w'⟩ := h'.least
  unfold farV
  by_cases hq : q ∈ far.map (·.1)
  · obtain ⟨n, hr⟩ := (m q).mp hq
    have hp : p ∈ far'.map (·.1) := (m' p).mpr ⟨n, hr.symm hs⟩
    rw [if_pos hq, if_pos hp]
    have a := (w q hq).2 _ ((w' p hp).1.symm hs)
    have b := (w' p hp).2 _ ((w q hq).1.symm hs)
    rw [Nat.le_antisymm a b]
  · have hp : p ∉ far'.map (·.1) := fun hp => by
      obtain ⟨n, hr⟩ := (m' p).mp hp
      exact hq ((m q).mpr ⟨n, hr.symm hs⟩)
    rw [if_neg hq, if_neg hp]
end Hw

set_option Elab.async false
set_option linter.all false
set_option maxRecDepth 100000
set_option maxHeartbeats 4000000
namespace Hw
open PySem L2 PyProof.Rows
/-! distances are below the number of places -/
theorem Least.mid {nb : Str → List Str} {p : Str} {i : Nat} {s : Far × List Str} (l : Least nb p i s) : Mid s.1 i (fun y => False ∨ ∃ e ∈ s.2, y ∈ nb e) (Hw.lvl nb s) := Mid.foldE (fun e he => (l.edge e).mp he) ⟨by simp, fun y => by simp⟩
theorem lev_short (nb : Str → List Str) (p : Str) : ∀ i, ∀ y ∈ (lev nb p i).1.map (·.1), lookF (lev nb p i).1 y + 1 ≤ (lev nb p i).1.length
  | 0, y, hy => by
    have hy : y ∈ [p] := hy
    rw [List.mem_singleton.mp hy]
    show lookF [(p, 0)] p + 1 ≤ 1
    unfold lookF
    rw [List.find?_cons_of_pos (by exact decide_eq_true rfl)]
    exact Nat.le_refl _
  | i + 1, y, hy => by
    have l := lev_least nb p i
    have m := l.mid
    have hy : y ∈ (lvl nb (lev nb p i)).1.map (·.1) := hy
    show lookF (lvl nb (lev nb p i)).1 y + 1 ≤ (lvl nb (lev nb p i)).1.length
    rcases (m.keys y).mp hy with h | h
    · have := lev_short nb p i y h
      rw [m.eq, lookF_app_l h, List.length_append]; omega
    · obtain ⟨n, f | ⟨e, he, _⟩⟩ := (m.mem y).mp h
      · exact f.elim
      · obtain ⟨e1, e2⟩ := (l.edge e).mp he
        have := lev_short nb p i e e1
        have pos : 0 < (lvl nb (lev nb p i)).2.length := List.length_pos_of_mem h
        rw [m.eq, lookF_app_r n, lookF_const h, List.length_append, List.length_map]; omega
theorem Bfs.short {nb : Str → List Str} {p : Str} {far : Far} (h : Bfs nb p far) {y : Str} (hy : y ∈ far.map (·.1)) : lookF far y + 1 ≤ far.length := by
  obtain ⟨i, h⟩ := h
  have := lev_short nb p i
  rw [h] at this
  exact this y hy
/-! data that are shown in few signs -/
structure Tame (w : Nat) (d : PyData) : Prop where
  lay : d.canLay0 = true
  sh : d.showable = true
  short : d.intsShort 13 = true
  dp : d.depth ≤ 10
  wt : d.weight ≤ w
theorem Tame.mono {w w' : Nat} {d : PyData} (t : Tame w d) (h : w ≤ w') : Tame w' d := ⟨t.lay, t.sh, t.short, t.dp, Nat.le_trans t.wt h⟩
theorem Tame.len {w : Nat} {d : PyData} (t : Tame w d) (h : w ≤ 2 ^ 20) : d.shown.length ≤ sizeLine := by
  have l : d.layable0 = true := by
    show (d.canLay0 && decide (d.depth ≤ 64) && decide (d.weight ≤ 2 ^ 20)) = true
    rw [t.lay, decide_eq_true (Nat.le_trans t.dp (by decide)), decide_eq_true (Nat.le_trans t.wt h)]; rfl
  have := PyProof.Rows.shown_le13 l t.short
  rw [sizeLine_eq]; omega
theorem tame_str {z : Str} (h : Nm z) : Tame 8 (.str z) := ⟨by rw [PyData.canLay0]; exact nm_ok h, by rw [PyData.showable], by rw [PyData.intsShort], by rw [PyData.depth]; decide, by rw [PyData.weight]; exact h.2.1⟩
theorem tame_non : Tame 8 .none := ⟨by rw [PyData.canLay0], by rw [PyData.showable], by rw [PyData.intsShort], by rw [PyData.depth]; decide, by rw [PyData.weight]; decide⟩
theorem tame_int {n : Nat} (h : n ≤ 200) : Tame 8 (.int (n : Int)) := by
  have a : ((List.range 201).all fun n => decide ((PyData.int (n : Int)).shown.length ≤ 13) && decide ((PyData.int (n : Int)).weight ≤ 8)) = true := by decide +kernel
  have b := List.all_eq_true.mp a n (List.mem_range.mpr (by omega))
  simp only [Bool.and_eq_true, decide_eq_true_eq] at b
  have c : ((n : Int)).natAbs.log2 < 1920 := by
    have : ((n : Int)).natAbs = n := Int.natAbs_natCast n
    rw [this]
    by_cases h0 : n = 0
    · rw [h0]; decide
    · exact (Nat.log2_lt h0).mpr (Nat.lt_of_le_of_lt h (by exact Nat.lt_of_lt_of_le (by decide : 200 < 2 ^ 8) (Nat.pow_le_pow_right (by decide) (by decide))))
  exact ⟨by rw [PyData.canLay0], by rw [PyData.showable]; exact decide_eq_true c, by rw [PyData.intsShort]; exact decide_eq_true b.1, by rw [PyData.depth]; decide, b.2⟩
theorem tame_all {w : Nat} : ∀ {ds : List PyData}, (∀ d ∈ ds, Tame w d ∧ d.depth ≤ 5) → PyData.canLayAll0 ds = true ∧ PyData.showableAll ds = true ∧ PyData.intsShortAll 13 ds = true ∧ PyData.depthAll ds ≤ 5 ∧ PyData.weightAll ds ≤ ds.length * (w + 1)
  | [], _ => ⟨by rw [PyData.canLayAll0], by rw [PyData.showableAll], by rw [PyData.intsShortAll], by rw [PyData.depthAll]; decide, by rw [PyData.weightAll]; exact Nat.zero_le _⟩
  | d :: ds, h => by
    obtain ⟨t, hd⟩ := h d List.mem_cons_self
    obtain ⟨a, b, c, e, f⟩ := tame_all fun x hx => h x (List.mem_cons_of_mem _ hx)
    refine ⟨by rw [PyData.canLayAll0, t.lay, a]; rfl, by rw [PyData.showableAll, t.sh, b]; rfl, by rw [PyData.intsShortAll, t.short, c]; rfl, by rw [PyData.depthAll]; omega, ?_⟩
    rw [PyData.weightAll, List.length_cons, Nat.add_mul, Nat.one_mul]
    have := t.wt
    omega
theorem tame_tup {w : Nat} {ds : List PyData} (h : ∀ d ∈ ds, Tame w d ∧ d.depth ≤ 5) : Tame (ds.length * (w + 1)) (.tuple ds) ∧ (PyData.tuple ds).depth ≤ PyData.depthAll ds + 1 := by
  obtain ⟨a, b, c, e, f⟩ := tame_all h
  exact ⟨⟨by rw [PyData.canLay0]; exact a, by rw [PyData.showable]; exact b, by rw [PyData.intsShort]; exact c, by rw [PyData.depth]; omega, by rw [PyData.weight]; exact f⟩, by rw [PyData.depth]; exact Nat.le_refl _⟩
theorem tame_lst {w : Nat} {ds : List PyData} (h : ∀ d ∈ ds, Tame w d ∧ d.depth ≤ 5) : Tame (ds.length * (w + 1)) (.list ds) := by
  obtain ⟨a, b, c, e, f⟩ := tame_all h
  exact ⟨by rw [PyData.canLay0]; exact a, by rw [PyData.showable]; exact b, by rw [PyData.intsShort]; exact c, by rw [PyData.depth]; omega, by rw [PyData.weight]; exact f⟩
/-- a pair of a name and a number -/
theorem tame_pair {z : Str} {n : Nat} (h : Nm z) (hn : n ≤ 200) : Tame 18 (.tuple [.str z, .int (n : Int)]) ∧ (PyData.tuple [.str z, .int (n : Int)]).depth ≤ 5 := by
  have t := tame_tup (w := 8) (ds := [.str z, .int (n : Int)]) fun d hd => by
    rcases List.mem_cons.mp hd with rfl | hd
    · exact ⟨tame_str h, by rw [PyData.depth]; decide⟩
    · rw [List.mem_singleton.mp hd]; exact ⟨tame_int hn, by rw [PyData.depth]; decide⟩
  exact ⟨t.1, by simp [PyData.depth, PyData.depthAll]⟩
/-- the text that is told of data -/
theorem repr_tame {X : Cx} {K : PySem.W.Frag} {w : Nat} {x : V} {d : PyData} {H : Hp} {Q : VK} (h : Dp K H x d) (t : Tame w d) (hw : w ≤ 2 ^ 20) (q : Q (.str d.shown) H) : rRepr K [x] H Q := ⟨x, d, rfl, .inl h, t.sh, Nat.le_trans t.dp (by decide), t.len hw, q⟩
end Hw

set_option Elab.async false
set_option linter.all false
set_option maxRecDepth 100000
set_option maxHeartbeats 1000000
namespace Hw
open PySem L2
/-! woods: ties + parts = places exactly if taking off ends leaves nothing -/
noncomputable section
open Classical
abbrev NB (ts : List Tie) := nbr ts
theorem mem_nbr {ts : List Tie} {u v : Str} : v ∈ nbr ts u ↔ ∃ t ∈ ts, (t.1 = u ∧ t.2 = v) ∨ (t.2 = u ∧ t.1 = v) := by
  unfold nbr
  rw [List.mem_flatMap]
  constructor
  · rintro ⟨t, ht, hm⟩
    refine ⟨t, ht, ?_⟩
    rcases List.mem_append.mp hm with hm | hm
    · split at hm
      · rename_i e
        exact .inl ⟨e, (List.mem_singleton.mp hm).symm⟩
      · cases hm
    · split at hm
      · rename_i e
        exact .inr ⟨e, (List.mem_singleton.mp hm).symm⟩
      · cases hm
  · rintro ⟨t, ht, ⟨e1, e2⟩ | ⟨e1, e2⟩⟩
    · exact ⟨t, ht, List.mem_append_left _ (by rw [if_pos e1, e2]; exact List.mem_cons_self)⟩
    · exact ⟨t, ht, List.mem_append_right _ (by rw [if_pos e1, e2]; exact List.mem_cons_self)⟩
def Conn (ts : List Tie) (u v : Str) : Prop := ∃ n, Reach (nbr ts) u n v
theorem Conn.refl {ts : List Tie} (u : Str) : Conn ts u u := ⟨0, rfl⟩
theorem Conn.symm {ts : List Tie} {u v : Str} (h : Conn ts u v) : Conn ts v u := by
  obtain ⟨n, h⟩ := h
  exact ⟨n, h.symm (nbr_sym ts)⟩
theorem Conn.step {ts : List Tie} {u v w : Str} (h : Conn ts u v) (e : w ∈ nbr ts v) : Conn ts u w := by
  obtain ⟨n, h⟩ := h
  exact ⟨n + 1, v, h, e⟩
theorem Conn.trans {ts : List Tie} {u v w : Str} (h : Conn ts u v) (h' : Conn ts v w) : Conn ts u w := by
  obtain ⟨n, h'⟩ := h'
  induction n generalizing w with
  | zero =>
    have e : w = v := h'
    rw [e]; exact h
  | succ n ih =>
    obtain ⟨c, hc, hw⟩ := h'
    exact (ih hc).step hw
theorem least_nat {P : Nat → Prop} (h : ∃ n, P n) : ∃ n, P n ∧ ∀ m, P m → n ≤ m := by
  obtain ⟨n, hn⟩ := h
  induction n using Nat.strongRecOn with
  | ind n ih =>
    by_cases e : ∃ m, m < n ∧ P m
    · obtain ⟨m, hm, pm⟩ := e
      exact ih m hm pm
    · exact ⟨n, hn, fun m pm => Nat.le_of_not_lt fun hl => e ⟨m, hl, pm⟩⟩
def rep (ns : List Str) (ts : List Tie) (v : Str) : Str := (ns.find? fun u => decide (Conn ts u v)).getD v
theorem rep_spec {ns : List Str} {ts : List Tie} {v : Str} (h : v ∈ ns) : rep ns ts v ∈ ns ∧ Conn ts (rep ns ts v) v := by
  unfold rep
  cases hf : ns.find? fun u => decide (Conn ts u v) with
  | none => exact absurd (decide_eq_true (Conn.refl v)) (by have := List.find?_eq_none.mp hf v h; simpa using this)
  | some u =>
    have := List.find?_some hf
    exact ⟨List.mem_of_find?_eq_some hf, of_decide_eq_true this⟩
theorem rep_eq {ns : List Str} {ts : List Tie} {u v : Str} (hu : u ∈ ns) (hv : v ∈ ns) (h : Conn ts u v) : rep ns ts u = rep ns ts v := by
  have e : (fun x => decide (Conn ts x u)) = fun x => decide (Conn ts x v) := by
    funext x
    exact decide_eq_decide.mpr ⟨fun a => a.trans h, fun a => a.trans h.symm⟩
  have hv' := rep_spec (ts := ts) hv
  unfold rep at *
  rw [e]
  cases hf : ns.find? fun x => decide (Conn ts x v) with
  | none => exact absurd (decide_eq_true (Conn.refl v)) (by have := List.find?_eq_none.mp hf v hv; simpa using this)
  | some w => rfl
theorem rep_rep {ns : List Str} {ts : List Tie} {v : Str} (h : v ∈ ns) : rep ns ts (rep ns ts v) = rep ns ts v := rep_eq (rep_spec h).1 h (rep_spec h).2
/-- what is asked of the web -/
structure Gr (ns : List Str) (ts : List Tie) : Prop where
  nd : ns.Nodup
  tnd : ts.Nodup
  tie : ∀ t ∈ ts, t.1 ∈ ns ∧ t.2 ∈ ns ∧ strLt t.1 t.2 = true
def lvOf (ns : List Str) (ts : List Tie) (v : Str) : Nat := if h : ∃ n, Reach (nbr ts) (rep ns ts v) n v ∧ ∀ m, Reach (nbr ts) (rep ns ts v) m v → n ≤ m then Classical.choose h else 0
theorem lv_spec {ns : List Str} {ts : List Tie} {v : Str} (hv : v ∈ ns) : Reach (nbr ts) (rep ns ts v) (lvOf ns ts v) v ∧ ∀ m, Reach (nbr ts) (rep ns ts v) m v → lvOf ns ts v ≤ m := by
  have h := least_nat (rep_spec (ts := ts) hv).2
  unfold lvOf
  rw [dif_pos h]
  exact Classical.choose_spec h
theorem Gr.nb {ns : List Str} {ts : List Tie} (g : Gr ns ts) {u v : Str} (h : v ∈ nbr ts u) : u ∈ ns ∧ v ∈ ns := by
  obtain ⟨t, ht, ⟨rfl, rfl⟩ | ⟨rfl, rfl⟩⟩ := mem_nbr.mp h
  · exact ⟨(g.tie t ht).1, (g.tie t ht).2.1⟩
  · exact ⟨(g.tie t ht).2.1, (g.tie t ht).1⟩
/-- the tie by which a place was reached -/
theorem par_ex {ns : List Str} {ts : List Tie} (g : Gr ns ts) {v : Str} (hv : v ∈ ns) (hr : rep ns ts v ≠ v) : ∃ t ∈ ts, ∃ c, ((t.1 = c ∧ t.2 = v) ∨ (t.2 = c ∧ t.1 = v)) ∧ lvOf ns ts c < lvOf ns ts v := by
  obtain ⟨h1, h2⟩ := lv_spec (ts := ts) hv
  cases hn : lvOf ns ts v with
  | zero =>
    rw [hn] at h1
    exact absurd (show v = rep ns ts v from h1).symm hr
  | succ k =>
    rw [hn] at h1 h2
    obtain ⟨c, hc, hvc⟩ := h1
    obtain ⟨t, ht, hh⟩ := mem_nbr.mp hvc
    have hcn := (g.nb hvc).1
    refine ⟨t, ht, c, hh, ?_⟩
    have e : rep ns ts c = rep ns ts v := rep_eq hcn hv (Conn.step (.refl c) hvc)
    have := (lv_spec (ts := ts) hcn).2 k (by rw [e]; exact hc)
    omega
def pt (ns : List Str) (ts : List Tie) (v : Str) : Tie := if h : ∃ t ∈ ts, ∃ c, ((t.1 = c ∧ t.2 = v) ∨ (t.2 = c ∧ t.1 = v)) ∧ lvOf ns ts c < lvOf ns ts v then Classical.choose h else (v, v)
theorem pt_spec {ns : List Str} {ts : List Tie} (g : Gr ns ts) {v : Str} (hv : v ∈ ns) (hr : rep ns ts v ≠ v) : pt ns ts v ∈ ts ∧ ∃ c, (((pt ns ts v).1 = c ∧ (pt ns ts v).2 = v) ∨ ((pt ns ts v).2 = c ∧ (pt ns ts v).1 = v)) ∧ lvOf ns ts c < lvOf ns ts v := by
  have h := par_ex g hv hr
  unfold pt
  rw [dif_pos h]
  exact Classical.choose_spec h
def reps (ns : List Str) (ts : List Tie) : List Str := ns.filter fun v => decide (rep ns ts v = v)
def nonreps (ns : List Str) (ts : List Tie) : List Str := ns.filter fun v => !decide (rep ns ts v = v)
theorem part_len {α : Type} (p : α → Bool) (l : List α) : l.length = (l.filter p).length + (l.filter fun x => !p x).length := by
  induction l with
  | nil => rfl
  | cons x l ih =>
    rw [List.filter_cons, List.filter_cons]
    cases p x with
    | true => simp; omega
    | false => simp; omega
theorem nodup_map_on {α β : Type} {f : α → β} : ∀ {l : List α}, l.Nodup → (∀ x ∈ l, ∀ y ∈ l, f x = f y → x = y) → (l.map f).Nodup
  | [], _, _ => List.nodup_nil
  | x :: l, h, hf => by
    obtain ⟨h1, h2⟩ := List.nodup_cons.mp h
    rw [List.map_cons]
    refine List.nodup_cons.mpr ⟨fun m => ?_, nodup_map_on h2 fun a ha b hb => hf a (List.mem_cons_of_mem _ ha) b (List.mem_cons_of_mem _ hb)⟩
    obtain ⟨y, hy, e⟩ := List.mem_map.mp m
    exact h1 ((hf y (List.mem_cons_of_mem _ hy) x List.mem_cons_self e) ▸ hy)
theorem len_sub {α : Type} {l m : List α} (h : l.Nodup) (hs : ∀ x ∈ l, x ∈ m) : l.length ≤ m.length := by
  induction l generalizing m with
  | nil => exact Nat.zero_le _
  | cons x l ih =>
    obtain ⟨h1, h2⟩ := List.nodup_cons.mp h
    obtain ⟨a, b, rfl⟩ := List.append_of_mem (hs x List.mem_cons_self)
    have := ih (m := a ++ b) h2 fun y hy => by
      have := hs y (List.mem_cons_of_mem _ hy)
      rcases List.mem_append.mp this with h | h
      · exact List.mem_append_left _ h
      · rcases List.mem_cons.mp h with rfl | h
        · exact absurd hy h1
        · exact List.mem_append_right _ h
    simp only [List.length_append, List.length_cons] at this ⊢
    omega
theorem all_of_len {α : Type} {l m : List α} (h : l.Nodup) (hs : ∀ x ∈ l, x ∈ m) (hl : m.length ≤ l.length) (x : α) (hx : x ∈ m) : x ∈ l := by
  by_cases hm : x ∈ l
  · exact hm
  · have := len_sub (l := x :: l) (m := m) (List.nodup_cons.mpr ⟨hm, h⟩) fun y hy => by
      rcases List.mem_cons.mp hy with rfl | hy
      · exact hx
      · exact hs y hy
    rw [List.length_cons] at this
    omega
theorem pts_nodup {ns : List Str} {ts : List Tie} (g : Gr ns ts) : ((nonreps ns ts).map (pt ns ts)).Nodup := by
  refine nodup_map_on (g.nd.filter _) fun v hv w hw e => ?_
  obtain ⟨v1, v2⟩ := List.mem_filter.mp hv
  obtain ⟨w1, w2⟩ := List.mem_filter.mp hw
  have v2 : rep ns ts v ≠ v := by simpa using v2
  have w2 : rep ns ts w ≠ w := by simpa using w2
  obtain ⟨_, c, hc, lc⟩ := pt_spec g v1 v2
  obtain ⟨_, d, hd, ld⟩ := pt_spec g w1 w2
  rw [← e] at hd
  rcases hc with ⟨c1, c2⟩ | ⟨c1, c2⟩ <;> rcases hd with ⟨d1, d2⟩ | ⟨d1, d2⟩
  · exact c2.symm.trans d2
  · have a : c = w := c1.symm.trans d2
    have b : d = v := d1.symm.trans c2
    rw [a] at lc; rw [b] at ld; omega
  · have a : c = w := c1.symm.trans d2
    have b : d = v := d1.symm.trans c2
    rw [a] at lc; rw [b] at ld; omega
  · exact c2.symm.trans d2
theorem pts_sub {ns : List Str} {ts : List Tie} (g : Gr ns ts) : ∀ t ∈ (nonreps ns ts).map (pt ns ts), t ∈ ts := by
  intro t ht
  obtain ⟨v, hv, rfl⟩ := List.mem_map.mp ht
  obtain ⟨v1, v2⟩ := List.mem_filter.mp hv
  exact (pt_spec g v1 (by simpa using v2)).1
/-- there are never too few ties -/
theorem ties_ge {ns : List Str} {ts : List Tie} (g : Gr ns ts) : ns.length ≤ ts.length + (reps ns ts).length := by
  have h1 := len_sub (pts_nodup g) (pts_sub g)
  have h2 := part_len (fun v => decide (rep ns ts v = v)) ns
  rw [List.length_map] at h1
  show ns.length ≤ ts.length + (ns.filter _).length
  have : (nonreps ns ts).length = (ns.filter fun v => !decide (rep ns ts v = v)).length := rfl
  omega
/-- as many as needed: each is one by which a place was reached -/
theorem ties_par {ns : List Str} {ts : List Tie} (g : Gr ns ts) (h : ts.length + (reps ns ts).length = ns.length) : ∀ t ∈ ts, ∃ v ∈ ns, rep ns ts v ≠ v ∧ pt ns ts v = t := by
  intro t ht
  have h2 := part_len (fun v => decide (rep ns ts v = v)) ns
  have e1 : (reps ns ts).length = (ns.filter fun v => decide (rep ns ts v = v)).length := rfl
  have e2 : (nonreps ns ts).length = (ns.filter fun v => !decide (rep ns ts v = v)).length := rfl
  have := all_of_len (pts_nodup g) (pts_sub g) (by rw [List.length_map]; omega) t ht
  obtain ⟨v, hv, e⟩ := List.mem_map.mp this
  obtain ⟨v1, v2⟩ := List.mem_filter.mp hv
  exact ⟨v, v1, by simpa using v2, e⟩
end
end Hw

set_option Elab.async false
set_option linter.all false
set_option maxRecDepth 100000
set_option maxHeartbeats 1000000
namespace Hw
open PySem L2
def esIn (ts : List Tie) (S : List Str) : List Tie := ts.filter fun t => decide (t.1 ∈ S) && decide (t.2 ∈ S)
def peel1 (ts : List Tie) (S : List Str) : List Str := S.filter fun p => decide (1 < (nbr (esIn ts S) p).length)
def PP (ns : List Str) (ts : List Tie) : Nat → List Str
  | 0 => ns
  | i + 1 => peel1 ts (PP ns ts i)
theorem mem_esIn {ts : List Tie} {S : List Str} {t : Tie} : t ∈ esIn ts S ↔ t ∈ ts ∧ t.1 ∈ S ∧ t.2 ∈ S := by
  unfold esIn
  rw [List.mem_filter, Bool.and_eq_true, decide_eq_true_iff, decide_eq_true_iff]
theorem esIn_sub {ts : List Tie} {S S' : List Str} (h : ∀ x ∈ S', x ∈ S) : ((esIn ts S).filter fun t => decide (t.1 ∈ S') && decide (t.2 ∈ S')) = esIn ts S' := by
  unfold esIn
  rw [List.filter_filter]
  refine List.filter_congr fun t _ => ?_
  rw [Bool.eq_iff_iff]
  simp only [Bool.and_eq_true, decide_eq_true_iff]
  exact ⟨fun a => a.1, fun a => ⟨a, h _ a.1, h _ a.2⟩⟩
theorem deg_eq {v : Str} : ∀ {E : List Tie}, (∀ t ∈ E, t.1 ≠ t.2) → (nbr E v).length = (E.filter fun t => decide (t.1 = v ∨ t.2 = v)).length
  | [], _ => rfl
  | t :: E, h => by
    have ih := deg_eq (v := v) fun u hu => h u (List.mem_cons_of_mem _ hu)
    have hn := h t List.mem_cons_self
    show (((if t.1 = v then [t.2] else []) ++ (if t.2 = v then [t.1] else [])) ++ nbr E v).length = _
    rw [List.length_append, ih, List.filter_cons]
    by_cases h1 : t.1 = v
    · have h2 : ¬ t.2 = v := fun e => hn (h1.trans e.symm)
      rw [if_pos h1, if_neg h2, if_pos (by exact decide_eq_true (.inl h1))]
      simp; omega
    · by_cases h2 : t.2 = v
      · rw [if_neg h1, if_pos h2, if_pos (by exact decide_eq_true (.inr h2))]
        simp; omega
      · rw [if_neg h1, if_neg h2, if_neg (by simp [h1, h2])]
        simp
theorem two_in {α : Type} {l : List α} (hn : l.Nodup) (h : 1 < l.length) : ∃ x ∈ l, ∃ y ∈ l, x ≠ y := by
  match l, hn, h with
  | x :: y :: r, hn, _ =>
    exact ⟨x, List.mem_cons_self, y, List.mem_cons_of_mem _ List.mem_cons_self, fun e => (List.nodup_cons.mp hn).1 (by rw [e]; exact List.mem_cons_self)⟩
theorem in_two {α : Type} {l : List α} {x y : α} (hx : x ∈ l) (hy : y ∈ l) (h : x ≠ y) : 1 < l.length := by
  have := len_sub (l := [x, y]) (m := l) (by simp [h]) fun z hz => by
    rcases List.mem_cons.mp hz with rfl | hz
    · exact hx
    · rw [List.mem_singleton.mp hz]; exact hy
  exact this
theorem ex_max {α : Type} {R : α → α → Prop} (tr : ∀ a b c, R a b → R b c → R a c) (irr : ∀ a, ¬ R a a) : ∀ {l : List α}, l ≠ [] → ∃ x ∈ l, ∀ y ∈ l, ¬ R x y
  | [], h => absurd rfl h
  | [a], _ => ⟨a, List.mem_cons_self, fun y hy => by rw [List.mem_singleton.mp hy]; exact irr a⟩
  | a :: b :: l, _ => by
    obtain ⟨x, hx, h⟩ := ex_max tr irr (l := b :: l) (fun z => nomatch z)
    by_cases e : R x a
    · exact ⟨a, List.mem_cons_self, fun y hy => by
        rcases List.mem_cons.mp hy with rfl | hy
        · exact irr _
        · exact fun z => h y hy (tr _ _ _ e z)⟩
    · exact ⟨x, List.mem_cons_of_mem _ hx, fun y hy => by
        rcases List.mem_cons.mp hy with rfl | hy
        · exact e
        · exact h y hy⟩
theorem filter_lt {α : Type} {p : α → Bool} {l : List α} (h : l.filter p ≠ l) : (l.filter p).length < l.length := by
  rcases Nat.lt_or_ge (l.filter p).length l.length with a | a
  · exact a
  · exact absurd ((List.filter_sublist (p := p) (l := l)).eq_of_length (Nat.le_antisymm (List.length_filter_le _ _) a)) h
theorem PP_sub {ns : List Str} {ts : List Tie} {i : Nat} : ∀ {k : Nat} {x : Str}, x ∈ PP ns ts (i + k) → x ∈ PP ns ts i
  | 0, _, h => h
  | k + 1, x, h => PP_sub (k := k) (List.mem_filter.mp (show x ∈ peel1 ts (PP ns ts (i + k)) from h)).1
theorem PP_stay {ns : List Str} {ts : List Tie} {i : Nat} (h : PP ns ts (i + 1) = PP ns ts i) : ∀ k, PP ns ts (i + k) = PP ns ts i
  | 0 => rfl
  | k + 1 => by
    show peel1 ts (PP ns ts (i + k)) = _
    rw [PP_stay h k]
    exact h
theorem PP_stuck (ns : List Str) (ts : List Tie) : ∃ i, i ≤ ns.length ∧ PP ns ts (i + 1) = PP ns ts i := by
  by_cases h : ∃ i, i ≤ ns.length ∧ PP ns ts (i + 1) = PP ns ts i
  · exact h
  · exfalso
    have a : ∀ i, i ≤ ns.length + 1 → (PP ns ts i).length + i ≤ ns.length := by
      intro i
      induction i with
      | zero => intro _; exact Nat.le_refl _
      | succ i ih =>
        intro hi
        have h1 := ih (by omega)
        have h2 : (PP ns ts (i + 1)).length < (PP ns ts i).length := filter_lt fun e => h ⟨i, by omega, e⟩
        omega
    have := a (ns.length + 1) (Nat.le_refl _)
    omega
theorem Gr.ne {ns : List Str} {ts : List Tie} (g : Gr ns ts) : ∀ t ∈ ts, t.1 ≠ t.2 := fun t ht => strLt_ne (g.tie t ht).2.2
/-- woods are eaten up -/
theorem peel_none {ns : List Str} {ts : List Tie} (g : Gr ns ts) (h : ts.length + (reps ns ts).length = ns.length) : PP ns ts (ns.length + 1) = [] := by
  obtain ⟨i, hi, hs⟩ := PP_stuck ns ts
  have e : PP ns ts (ns.length + 1) = PP ns ts i := by
    have := PP_stay hs (ns.length + 1 - i)
    rw [show i + (ns.length + 1 - i) = ns.length + 1 by omega] at this
    exact this
  rw [e]
  by_cases hne : PP ns ts i = []
  · exact hne
  · exfalso
    obtain ⟨v, hv, hmax⟩ := ex_max (R := fun a b => lvOf ns ts a < lvOf ns ts b) (fun a b c => Nat.lt_trans) (fun a => Nat.lt_irrefl _) hne
    have hd : 1 < (nbr (esIn ts (PP ns ts i)) v).length := by
      have hv' := hv
      rw [← hs] at hv'
      exact of_decide_eq_true (List.mem_filter.mp (show v ∈ peel1 ts (PP ns ts i) from hv')).2
    rw [deg_eq fun t ht => g.ne t (mem_esIn.mp ht).1] at hd
    obtain ⟨t, ht, u, hu, hne2⟩ := two_in ((g.tnd.filter _).filter _) hd
    have key : ∀ t ∈ (esIn ts (PP ns ts i)).filter (fun t => decide (t.1 = v ∨ t.2 = v)), t = pt ns ts v := by
      intro t ht
      obtain ⟨h1, h2⟩ := List.mem_filter.mp ht
      obtain ⟨h3, h4, h5⟩ := mem_esIn.mp h1
      have h2 : t.1 = v ∨ t.2 = v := of_decide_eq_true h2
      obtain ⟨w, hw, hrw, hpw⟩ := ties_par g h t h3
      obtain ⟨_, c, hc, lc⟩ := pt_spec g hw hrw
      rw [hpw] at hc
      by_cases hwv : w = v
      · rw [← hwv]; exact hpw.symm
      · exfalso
        -- then v is the one by which w was reached
        rcases hc with ⟨c1, c2⟩ | ⟨c1, c2⟩
        · have hcv : c = v := by
            rcases h2 with h2 | h2
            · exact c1.symm.trans h2
            · exact absurd (c2.symm.trans h2) hwv
          have hw' : w ∈ PP ns ts i := by rw [← c2]; exact h5
          exact hmax w hw' (by rw [← hcv]; exact lc)
        · have hcv : c = v := by
            rcases h2 with h2 | h2
            · exact absurd (c2.symm.trans h2) hwv
            · exact c1.symm.trans h2
          have hw' : w ∈ PP ns ts i := by rw [← c2]; exact h4
          exact hmax w hw' (by rw [← hcv]; exact lc)
    exact hne2 ((key t ht).trans (key u hu).symm)
noncomputable section
open Classical
def rkOf (ns : List Str) (ts : List Tie) (v : Str) : Nat := if h : ∃ n, v ∉ PP ns ts n ∧ ∀ m, v ∉ PP ns ts m → n ≤ m then Classical.choose h else 0
theorem rk_spec {ns : List Str} {ts : List Tie} {L : Nat} (hL : PP ns ts L = []) (v : Str) : v ∉ PP ns ts (rkOf ns ts v) ∧ ∀ m, v ∉ PP ns ts m → rkOf ns ts v ≤ m := by
  have h := least_nat (P := fun n => v ∉ PP ns ts n) ⟨L, by rw [hL]; exact fun z => nomatch z⟩
  unfold rkOf
  rw [dif_pos h]
  exact Classical.choose_spec h
def kl (ns : List Str) (ts : List Tie) (u v : Str) : Prop := rkOf ns ts u < rkOf ns ts v ∨ (rkOf ns ts u = rkOf ns ts v ∧ strLt u v = true)
theorem kl_tr {ns : List Str} {ts : List Tie} (a b c : Str) (h : kl ns ts a b) (h' : kl ns ts b c) : kl ns ts a c := by
  rcases h with h | ⟨h, k⟩ <;> rcases h' with h' | ⟨h', k'⟩
  · exact .inl (Nat.lt_trans h h')
  · exact .inl (by omega)
  · exact .inl (by omega)
  · exact .inr ⟨h.trans h', strLt_tr k k'⟩
theorem kl_irr {ns : List Str} {ts : List Tie} (a : Str) : ¬ kl ns ts a a := by
  rintro (h | ⟨_, k⟩)
  · exact Nat.lt_irrefl _ h
  · rw [strLt_irr] at k; cases k
theorem kl_tri {ns : List Str} {ts : List Tie} {a b : Str} (h : a ≠ b) : kl ns ts a b ∨ kl ns ts b a := by
  unfold kl
  rcases Nat.lt_trichotomy (rkOf ns ts a) (rkOf ns ts b) with e | e | e
  · exact .inl (.inl e)
  · cases h1 : strLt a b with
    | true => exact .inl (.inr ⟨e, rfl⟩)
    | false =>
      cases h2 : strLt b a with
      | true => exact .inr (.inr ⟨e.symm, rfl⟩)
      | false => exact absurd (strLt_tri h1 h2) h
  · exact .inr (.inl e)
theorem kl_le {ns : List Str} {ts : List Tie} {a b : Str} (h : kl ns ts a b) : rkOf ns ts a ≤ rkOf ns ts b := by
  rcases h with h | ⟨h, _⟩ <;> omega
def lowEnd (ns : List Str) (ts : List Tie) (t : Tie) : Str := if kl ns ts t.1 t.2 then t.1 else t.2
theorem low_spec {ns : List Str} {ts : List Tie} {t : Tie} (h : t.1 ≠ t.2) : (lowEnd ns ts t = t.1 ∧ kl ns ts t.1 t.2) ∨ (lowEnd ns ts t = t.2 ∧ kl ns ts t.2 t.1) := by
  unfold lowEnd
  by_cases e : kl ns ts t.1 t.2
  · rw [if_pos e]; exact .inl ⟨rfl, e⟩
  · rw [if_neg e]
    rcases kl_tri (ns := ns) (ts := ts) h with a | a
    · exact absurd a e
    · exact .inr ⟨rfl, a⟩
def topOf (ns : List Str) (ts : List Tie) (r : Str) : Str := if h : ∃ x, (x ∈ ns ∧ Conn ts r x) ∧ ∀ y, y ∈ ns → Conn ts r y → ¬ kl ns ts x y then Classical.choose h else r
theorem top_spec {ns : List Str} {ts : List Tie} {r : Str} (hr : r ∈ ns) : (topOf ns ts r ∈ ns ∧ Conn ts r (topOf ns ts r)) ∧ ∀ y, y ∈ ns → Conn ts r y → ¬ kl ns ts (topOf ns ts r) y := by
  have h : ∃ x, (x ∈ ns ∧ Conn ts r x) ∧ ∀ y, y ∈ ns → Conn ts r y → ¬ kl ns ts x y := by
    obtain ⟨x, hx, hm⟩ := ex_max (R := kl ns ts) kl_tr kl_irr (l := ns.filter fun x => decide (Conn ts r x)) (List.ne_nil_of_mem (List.mem_filter.mpr ⟨hr, decide_eq_true (.refl r)⟩))
    obtain ⟨h1, h2⟩ := List.mem_filter.mp hx
    exact ⟨x, ⟨h1, of_decide_eq_true h2⟩, fun y hy hc => hm y (List.mem_filter.mpr ⟨hy, decide_eq_true hc⟩)⟩
  unfold topOf
  rw [dif_pos h]
  exact Classical.choose_spec h
/-- what is eaten up has few ties -/
theorem peel_few {ns : List Str} {ts : List Tie} (g : Gr ns ts) {L : Nat} (hL : PP ns ts L = []) : ts.length + (reps ns ts).length ≤ ns.length := by
  have inj : ∀ t ∈ ts, ∀ u ∈ ts, lowEnd ns ts t = lowEnd ns ts u → t = u := by
    intro t ht u hu e
    by_cases h : t = u
    · exact h
    · exfalso
      -- v goes while two of its ties are there
      have other : ∀ t ∈ ts, ∀ k, rkOf ns ts (lowEnd ns ts t) = k + 1 → t ∈ (esIn ts (PP ns ts k)).filter fun x => decide (x.1 = lowEnd ns ts t ∨ x.2 = lowEnd ns ts t) := by
        intro t ht k hk
        have inP : ∀ x, k < rkOf ns ts x → x ∈ PP ns ts k := fun x hx => by
          by_cases hm : x ∈ PP ns ts k
          · exact hm
          · have := (rk_spec hL x).2 k hm
            omega
        rcases low_spec (ns := ns) (ts := ts) (g.ne t ht) with ⟨e1, e2⟩ | ⟨e1, e2⟩
        · have h2 := kl_le e2
          rw [← e1, hk] at h2
          refine List.mem_filter.mpr ⟨mem_esIn.mpr ⟨ht, inP _ (by rw [← e1, hk]; omega), inP _ (by omega)⟩, decide_eq_true (.inl e1.symm)⟩
        · have h2 := kl_le e2
          rw [← e1, hk] at h2
          refine List.mem_filter.mpr ⟨mem_esIn.mpr ⟨ht, inP _ (by omega), inP _ (by rw [← e1, hk]; omega)⟩, decide_eq_true (.inr e1.symm)⟩
      have hvn : lowEnd ns ts t ∈ ns := by
        rcases low_spec (ns := ns) (ts := ts) (g.ne t ht) with ⟨e1, _⟩ | ⟨e1, _⟩
        · rw [e1]; exact (g.tie t ht).1
        · rw [e1]; exact (g.tie t ht).2.1
      obtain ⟨s1, s2⟩ := rk_spec hL (lowEnd ns ts t)
      cases hk : rkOf ns ts (lowEnd ns ts t) with
      | zero =>
        rw [hk] at s1
        exact s1 hvn
      | succ k =>
        rw [hk] at s1
        have hin : lowEnd ns ts t ∈ PP ns ts k := by
          by_cases hm : lowEnd ns ts t ∈ PP ns ts k
          · exact hm
          · have := s2 k hm
            omega
        have a := other t ht k hk
        have b := other u hu k (by rw [← e]; exact hk)
        rw [← e] at b
        have hd := in_two a b h
        rw [← deg_eq fun x hx => g.ne x (mem_esIn.mp hx).1] at hd
        exact s1 (List.mem_filter.mpr ⟨hin, decide_eq_true hd⟩)
  have hnd : ((ts.map (lowEnd ns ts)) ++ (reps ns ts).map (topOf ns ts)).Nodup := by
    rw [List.nodup_append]
    refine ⟨nodup_map_on g.tnd inj, nodup_map_on (g.nd.filter _) fun r hr q hq e => ?_, fun x hx y hy e => ?_⟩
    · obtain ⟨r1, r2⟩ := List.mem_filter.mp hr
      obtain ⟨q1, q2⟩ := List.mem_filter.mp hq
      have r2 : rep ns ts r = r := of_decide_eq_true r2
      have q2 : rep ns ts q = q := of_decide_eq_true q2
      have hc : Conn ts r q := (top_spec r1).1.2.trans (by rw [e]; exact (top_spec q1).1.2.symm)
      rw [← r2, ← q2]
      exact rep_eq r1 q1 hc
    · subst e
      obtain ⟨t, ht, rfl⟩ := List.mem_map.mp hx
      obtain ⟨r, hr, e⟩ := List.mem_map.mp hy
      obtain ⟨r1, _⟩ := List.mem_filter.mp hr
      obtain ⟨⟨_, t2⟩, t3⟩ := top_spec (ts := ts) r1
      rw [e] at t2 t3
      obtain ⟨g1, g2, _⟩ := g.tie t ht
      rcases low_spec (ns := ns) (ts := ts) (g.ne t ht) with ⟨e1, e2⟩ | ⟨e1, e2⟩
      · rw [e1] at t2 t3
        exact t3 _ g2 (t2.step (mem_nbr.mpr ⟨t, ht, .inl ⟨rfl, rfl⟩⟩)) e2
      · rw [e1] at t2 t3
        exact t3 _ g1 (t2.step (mem_nbr.mpr ⟨t, ht, .inr ⟨rfl, rfl⟩⟩)) e2
  have := len_sub hnd (m := ns) fun x hx => by
    rcases List.mem_append.mp hx with hx | hx
    · obtain ⟨t, ht, rfl⟩ := List.mem_map.mp hx
      rcases low_spec (ns := ns) (ts := ts) (g.ne t ht) with ⟨e1, _⟩ | ⟨e1, _⟩
      · rw [e1]; exact (g.tie t ht).1
      · rw [e1]; exact (g.tie t ht).2.1
    · obtain ⟨r, hr, rfl⟩ := List.mem_map.mp hx
      exact (top_spec (List.mem_filter.mp hr).1).1.1
  rw [List.length_append, List.length_map, List.length_map] at this
  exact this
/-- the lemma on woods -/
theorem wood_iff {ns : List Str} {ts : List Tie} (g : Gr ns ts) : ts.length + (reps ns ts).length = ns.length ↔ PP ns ts (ns.length + 1) = [] :=
  ⟨peel_none g, fun h => Nat.le_antisymm (peel_few g h) (ties_ge g)⟩
end
end Hw

set_option Elab.async false
set_option linter.all false
set_option maxRecDepth 100000
set_option maxHeartbeats 1000000
namespace Hw
open PySem L2
noncomputable section
open Classical
theorem bfs_ex {ns : List Str} {nb : Str → List Str} (hnb : ∀ n ∈ ns, ∀ o ∈ nb n, o ∈ ns) {p : Str} (hp : p ∈ ns) : ∃ far, Bfs nb p far ∧ ∃ n0, FarOk ns n0 (far, []) := by
  have a : ∀ m i, muF ns (lev nb p i) ≤ m → ∃ far, Bfs nb p far ∧ ∃ n0, FarOk ns n0 (far, []) := by
    intro m
    induction m with
    | zero =>
      intro i h
      obtain ⟨n0, f⟩ := lev_ok hnb hp i
      by_cases e : (lev nb p i).2 = []
      · have e' : lev nb p i = ((lev nb p i).1, []) := Prod.ext rfl e
        exact ⟨_, ⟨i, e'⟩, n0, by rw [e'] at f; exact f⟩
      · have := mu_lvl hnb f e
        omega
    | succ m ih =>
      intro i h
      obtain ⟨n0, f⟩ := lev_ok hnb hp i
      by_cases e : (lev nb p i).2 = []
      · have e' : lev nb p i = ((lev nb p i).1, []) := Prod.ext rfl e
        exact ⟨_, ⟨i, e'⟩, n0, by rw [e'] at f; exact f⟩
      · have := mu_lvl hnb f e
        exact ih (i + 1) (by show muF ns (lvl nb (lev nb p i)) ≤ m; omega)
  exact a _ 0 (Nat.le_refl _)
def compOf (ts : List Tie) (p : Str) : List Str := if h : ∃ far, Bfs (nbr ts) p far then sortS ((Classical.choose h).map (·.1)) else []
theorem comp_eq {ts : List Tie} {p : Str} {far : Far} (h : Bfs (nbr ts) p far) : compOf ts p = sortS (far.map (·.1)) := by
  have hx : ∃ far, Bfs (nbr ts) p far := ⟨far, h⟩
  unfold compOf
  rw [dif_pos hx, (Classical.choose_spec hx).uniq h]
theorem Gr.nbs {ns : List Str} {ts : List Tie} (g : Gr ns ts) : ∀ n ∈ ns, ∀ o ∈ nbr ts n, o ∈ ns := fun n _ o ho => (g.nb ho).2
theorem mem_comp {ns : List Str} {ts : List Tie} (g : Gr ns ts) {p : Str} (hp : p ∈ ns) {z : Str} : z ∈ compOf ts p ↔ Conn ts p z := by
  obtain ⟨far, hb, _⟩ := bfs_ex g.nbs hp
  rw [comp_eq hb, (sortS_perm _).mem_iff]
  exact hb.least.1 z
theorem comp_asc {ns : List Str} {ts : List Tie} (g : Gr ns ts) {p : Str} (hp : p ∈ ns) : Asc (compOf ts p) := by
  obtain ⟨far, hb, n0, f⟩ := bfs_ex g.nbs hp
  rw [comp_eq hb]
  exact sortS_asc f.nd
theorem Conn.within {ns : List Str} {ts : List Tie} (g : Gr ns ts) {p z : Str} (hp : p ∈ ns) (h : Conn ts p z) : z ∈ ns := by
  obtain ⟨n, h⟩ := h
  induction n generalizing z with
  | zero => rw [show z = p from h]; exact hp
  | succ n ih =>
    obtain ⟨c, hc, hz⟩ := h
    exact (g.nb hz).2
def pstep (ts : List Tie) (acc : List (List Str)) (place : Str) : List (List Str) := if place ∈ acc.flatten then acc else acc ++ [compOf ts place]
def partsL (ns : List Str) (ts : List Tie) : List (List Str) := ns.foldl (pstep ts) []
theorem rep_first {ns : List Str} {ts : List Tie} {i : Nat} {x : Str} (hn : ns.Nodup) (hx : ns[i]? = some x) : rep ns ts x = x ↔ ∀ u ∈ ns.take i, ¬ Conn ts u x := by
  have hi := (List.getElem?_eq_some_iff.mp hx).1
  have e : ns = ns.take i ++ x :: ns.drop (i + 1) := by
    have h2 := (List.getElem?_eq_some_iff.mp hx).2
    rw [← h2]
    simp
  have hr : rep ns ts x = ((ns.take i ++ x :: ns.drop (i + 1)).find? fun u => decide (Conn ts u x)).getD x := by
    unfold rep
    rw [← e]
  rw [hr, List.find?_append]
  constructor
  · intro h u hu hc
    cases hf : (ns.take i).find? fun u => decide (Conn ts u x) with
    | none => exact absurd (decide_eq_true hc) (by have := List.find?_eq_none.mp hf u hu; simpa using this)
    | some w =>
      rw [hf] at h
      have hw : w = x := h
      have hm := List.mem_of_find?_eq_some hf
      rw [hw] at hm
      exact nodup_take hn hx hm
  · intro h
    have hf : (ns.take i).find? (fun u => decide (Conn ts u x)) = none := List.find?_eq_none.mpr fun u hu => by simpa using h u hu
    rw [hf, List.find?_cons_of_pos (by exact decide_eq_true (Conn.refl x))]
    rfl
/-- the parts behind i places -/
structure PIn (ns : List Str) (ts : List Tie) (i : Nat) (ps : List (List Str)) : Prop where
  mem : ∀ z, z ∈ ps.flatten ↔ ∃ u ∈ ns.take i, Conn ts u z
  len : ps.length = ((ns.take i).filter fun v => decide (rep ns ts v = v)).length
  each : ∀ q ∈ ps, ∃ u ∈ ns.take i, q = compOf ts u ∧ ∃ r, q = u :: r
  ord : ps.Pairwise fun p q => ∃ a r b r', p = a :: r ∧ q = b :: r' ∧ strLt a b = true
  nd : ps.flatten.Nodup
theorem pin {ns : List Str} {ts : List Tie} (g : Gr ns ts) (ha : Asc ns) : ∀ i, PIn ns ts i ((ns.take i).foldl (pstep ts) [])
  | 0 => ⟨fun z => by simp, by simp, by simp, by simp, by simp⟩
  | i + 1 => by
    have ih := pin g ha i
    cases hx : ns[i]? with
    | none =>
      have e : ns.take (i + 1) = ns.take i := by
        rw [List.take_succ, hx]; simp
      refine ⟨?_, ?_, ?_, ?_, ?_⟩ <;> rw [e]
      · exact ih.mem
      · exact ih.len
      · exact ih.each
      · exact ih.ord
      · exact ih.nd
    | some x =>
      rw [take_snoc hx, List.foldl_append]
      show PIn ns ts (i + 1) (pstep ts ((ns.take i).foldl (pstep ts) []) x)
      generalize (ns.take i).foldl (pstep ts) [] = ps at ih
      have hxn := List.mem_of_getElem? hx
      have hrf := rep_first (ts := ts) g.nd hx
      unfold pstep
      by_cases h : x ∈ ps.flatten
      · rw [if_pos h]
        obtain ⟨u, hu, hc⟩ := (ih.mem x).mp h
        refine ⟨fun z => ?_, ?_, fun q hq => ?_, ih.ord, ih.nd⟩
        · rw [ih.mem z, take_snoc hx]
          constructor
          · rintro ⟨w, hw, hz⟩
            exact ⟨w, List.mem_append_left _ hw, hz⟩
          · rintro ⟨w, hw, hz⟩
            rcases List.mem_append.mp hw with hw | hw
            · exact ⟨w, hw, hz⟩
            · rw [List.mem_singleton.mp hw] at hz
              exact ⟨u, hu, hc.trans hz⟩
        · have hne : rep ns ts x ≠ x := fun e => hrf.mp e u hu hc
          rw [take_snoc hx, List.filter_append, ih.len, List.filter_cons_of_neg (by simpa using hne)]
          simp
        · obtain ⟨w, hw, hh⟩ := ih.each q hq
          exact ⟨w, by rw [take_snoc hx]; exact List.mem_append_left _ hw, hh⟩
      · rw [if_neg h]
        have hno : ∀ u ∈ ns.take i, ¬ Conn ts u x := fun u hu hc => h ((ih.mem x).mpr ⟨u, hu, hc⟩)
        have hxr : rep ns ts x = x := hrf.mpr hno
        -- x is the least of its part
        have hhead : ∃ r, compOf ts x = x :: r := by
          have hm : x ∈ compOf ts x := (mem_comp g hxn).mpr (.refl x)
          have hs := comp_asc g hxn
          cases hc : compOf ts x with
          | nil => rw [hc] at hm; cases hm
          | cons b r =>
            rw [hc] at hm hs
            by_cases e : x = b
            · exact ⟨r, by rw [e]⟩
            · exfalso
              have hxr' : x ∈ r := by
                rcases List.mem_cons.mp hm with a | a
                · exact absurd a e
                · exact a
              have hlt : strLt b x = true := (List.pairwise_cons.mp hs).1 x hxr'
              have hcb : Conn ts x b := (mem_comp g hxn).mp (by rw [hc]; exact List.mem_cons_self)
              have hbn := hcb.within g hxn
              obtain ⟨j, hj, ej⟩ := List.mem_iff_getElem.mp hbn
              have hi := (List.getElem?_eq_some_iff.mp hx).1
              have ei := (List.getElem?_eq_some_iff.mp hx).2
              rcases Nat.lt_trichotomy j i with l | l | l
              · refine hno b ?_ hcb.symm
                rw [List.mem_take_iff_getElem]
                exact ⟨j, by omega, ej⟩
              · subst l
                rw [ej] at ei
                exact e ei.symm
              · have := List.pairwise_iff_getElem.mp ha i j hi hj l
                rw [ei, ej] at this
                rw [strLt_as this] at hlt; cases hlt
        obtain ⟨r, hr⟩ := hhead
        refine ⟨fun z => ?_, ?_, fun q hq => ?_, ?_, ?_⟩
        · rw [List.flatten_append, List.mem_append, ih.mem z, take_snoc hx]
          simp only [List.flatten_cons, List.flatten_nil, List.append_nil]
          rw [mem_comp g hxn]
          constructor
          · rintro (⟨w, hw, hz⟩ | hz)
            · exact ⟨w, List.mem_append_left _ hw, hz⟩
            · exact ⟨x, List.mem_append_right _ List.mem_cons_self, hz⟩
          · rintro ⟨w, hw, hz⟩
            rcases List.mem_append.mp hw with hw | hw
            · exact .inl ⟨w, hw, hz⟩
            · rw [List.mem_singleton.mp hw] at hz; exact .inr hz
        · rw [take_snoc hx, List.filter_append, List.length_append, List.length_append, ih.len, List.filter_cons_of_pos (by exact decide_eq_true hxr)]
          simp
        · rcases List.mem_append.mp hq with hq | hq
          · obtain ⟨w, hw, hh⟩ := ih.each q hq
            exact ⟨w, by rw [take_snoc hx]; exact List.mem_append_left _ hw, hh⟩
          · rw [List.mem_singleton.mp hq]
            exact ⟨x, by rw [take_snoc hx]; exact List.mem_append_right _ List.mem_cons_self, rfl, r, hr⟩
        · rw [List.pairwise_append]
          refine ⟨ih.ord, List.pairwise_singleton _ _, fun p hp q hq => ?_⟩
          rw [List.mem_singleton.mp hq]
          obtain ⟨u, hu, _, r', hr'⟩ := ih.each p hp
          refine ⟨u, r', x, r, hr', hr, ?_⟩
          rw [List.mem_take_iff_getElem] at hu
          obtain ⟨j, hj, ej⟩ := hu
          have hi := (List.getElem?_eq_some_iff.mp hx).1
          have ei := (List.getElem?_eq_some_iff.mp hx).2
          have := List.pairwise_iff_getElem.mp ha j i (by omega) hi (by omega)
          rw [ej, ei] at this
          exact this
        · rw [List.flatten_append, List.nodup_append]
          simp only [List.flatten_cons, List.flatten_nil, List.append_nil]
          refine ⟨ih.nd, (comp_asc g hxn).nodup, fun a ha' b hb e => ?_⟩
          subst e
          obtain ⟨u, hu, hc⟩ := (ih.mem a).mp ha'
          exact hno u hu (hc.trans ((mem_comp g hxn).mp hb).symm)
theorem parts_in {ns : List Str} {ts : List Tie} (g : Gr ns ts) (ha : Asc ns) : PIn ns ts ns.length (partsL ns ts) := by
  have := pin g ha ns.length
  rw [List.take_length] at this
  exact this
theorem parts_len {ns : List Str} {ts : List Tie} (g : Gr ns ts) (ha : Asc ns) : (partsL ns ts).length = (reps ns ts).length := by
  have := (parts_in g ha).len
  rw [List.take_length] at this
  exact this
end
end Hw

set_option Elab.async false
set_option linter.all false
set_option maxRecDepth 100000
set_option maxHeartbeats 4000000
namespace Hw
open PySem L2 PyProof.Rows
abbrev sPartsOf : Stmt := topS 23
theorem wfl_places (z : Str) (pl t d : Addr) : (wfl z pl t d).lookup ("places" : Str) = some (.ref pl) := by
  unfold wfl
  rw [lookup_putF, if_neg (by decide), lookup_putF, if_neg (by decide), lookup_putF, if_pos rfl]
theorem wfl_ties (z : Str) (pl t d : Addr) : (wfl z pl t d).lookup ("ties" : Str) = some (.ref t) := by
  unfold wfl
  rw [lookup_putF, if_neg (by decide), lookup_putF, if_pos rfl]
theorem AscP.nodupP {l : List Tie} (h : AscP l) : l.Nodup := h.imp fun q e => by rw [e, ltP_irr] at q; cases q
theorem GoodW.gr {ns : List Str} {ts : List Tie} (g : GoodW ns ts) : Gr ns ts := ⟨g.asc.nodup, g.tasc.nodupP, g.tie⟩
theorem smallM {n : Nat} (h : n ≤ 100000) : n < sizeLine := by rw [sizeLine_eq]; omega
def PartT (H : Hp) (q : Addr) (part : List Str) : Prop := H q = some (.tup (part.map V.str))
def PartsAt (H : Hp) (p : Addr) (ps : List (List Str)) : Prop := ∃ qs : List Addr, H p = some (.tup (qs.map V.ref)) ∧ Paired (PartT H) qs ps
def spPartsOf (C : Addr) : Sp := fun vs H Q _ => ∃ (x : Addr) (ns : List Str) (ts : List Tie), vs = [.ref x] ∧ WebO C H x ns ts ∧ ns.length < 64 ∧ ∀ p H', PartsAt H' p (partsL ns ts) → Same H H' → Q (.ref p) H'
theorem paired_snoc {α β : Type} {F : α → β → Prop} {x : α} {y : β} (f : F x y) : ∀ {xs : List α} {ys : List β}, Paired F xs ys → Paired F (xs ++ [x]) (ys ++ [y])
  | _, _, .nil => .cons f .nil
  | _, _, .cons h t => .cons h (paired_snoc f t)
/-- names that are taken up, each once -/
def putAll (ks l : List Str) : List Str := l.foldl (fun a z => if z ∈ a then a else a ++ [z]) ks
theorem putAll_mem {l : List Str} : ∀ {ks : List Str} {z : Str}, z ∈ putAll ks l ↔ z ∈ ks ∨ z ∈ l := by
  induction l with
  | nil => intro ks z; simp [putAll]
  | cons y l ih =>
    intro ks z
    show z ∈ putAll (if y ∈ ks then ks else ks ++ [y]) l ↔ _
    rw [ih]
    by_cases h : y ∈ ks
    · rw [if_pos h, List.mem_cons]
      constructor
      · rintro (a | a)
        · exact .inl a
        · exact .inr (.inr a)
      · rintro (a | rfl | a)
        · exact .inl a
        · exact .inl h
        · exact .inr a
    · rw [if_neg h, List.mem_append, List.mem_singleton, List.mem_cons, or_assoc]
theorem putAll_nd {l : List Str} : ∀ {ks : List Str}, ks.Nodup → (putAll ks l).Nodup := by
  induction l with
  | nil => intro ks h; exact h
  | cons y l ih =>
    intro ks h
    show (putAll (if y ∈ ks then ks else ks ++ [y]) l).Nodup
    by_cases hy : y ∈ ks
    · rw [if_pos hy]; exact ih h
    · rw [if_neg hy]
      refine ih ?_
      rw [List.nodup_append]
      exact ⟨h, by simp, fun a ha b hb e => hy (by rw [List.mem_singleton.mp hb] at e; exact e ▸ ha)⟩
theorem putAll_snoc {l : List Str} {j : Nat} {y : Str} (h : l[j]? = some y) (ks : List Str) : putAll ks (l.take (j + 1)) = if y ∈ putAll ks (l.take j) then putAll ks (l.take j) else putAll ks (l.take j) ++ [y] := by
  unfold putAll
  rw [foldl_snoc h]
abbrev encS (ks : List Str) : List (Key × V) := ks.map fun z => ((Sum.inr z : Key), V.bl true)
theorem putS (ks : List Str) (z : Str) : putK (encS ks) (Sum.inr z) (V.bl true) = encS (if z ∈ ks then ks else ks ++ [z]) := by
  have ha : ((encS ks).any fun kv => decide (kv.1 = (Sum.inr z : Key))) = decide (z ∈ ks) := by
    rw [List.any_map, Bool.eq_iff_iff, List.any_eq_true, decide_eq_true_iff]
    constructor
    · rintro ⟨u, hu, e⟩
      have e' := of_decide_eq_true e
      injection e' with e'
      exact e' ▸ hu
    · intro h
      exact ⟨z, h, decide_eq_true rfl⟩
  unfold putK
  rw [ha]
  by_cases h : z ∈ ks
  · rw [if_pos (decide_eq_true h), if_pos h]
    rw [List.map_map]
    refine List.map_congr_left fun u _ => ?_
    show (if _ then _ else _) = _
    split <;> rfl
  · rw [if_neg (by simpa using h), if_neg h]
    show ks.map _ ++ _ = (ks ++ [z]).map _
    rw [List.map_append]; rfl
section
variable {P : Program} {w : World} {K : PySem.W.Frag} {mg : Str → Option Value} {base : Heap}
theorem scPartsOf : FnScope ["web", "parts", "seen", "place", "part", "name"] ["web"] (defScope sPartsOf) := ⟨rfl, rfl, rfl, by decide +kernel, rfl, by decide +kernel, by decide +kernel⟩
/-- where the loop of parts stands -/
def PartsI (H0 : Hp) (pa sd : Addr) (ns : List Str) (ps : List (List Str)) (H : Hp) : Prop := Same H0 H ∧ (∃ qs : List Addr, H pa = some (.lst (qs.map V.ref)) ∧ Paired (PartT H) qs ps) ∧ ∃ ks : List Str, H sd = some (.dK (encS ks)) ∧ (∀ z, z ∈ ks ↔ z ∈ ps.flatten) ∧ ks.Nodup ∧ (∀ z ∈ ks, z ∈ ns)
theorem ok_partsof {f fB C : Addr} {fd fdB : FuncData} {k : Nat} (F : Fun K "parts_of" "parts_of" sPartsOf f fd) (T : TxtW K mg C) (B3 : Blt3 mg)
    (mB : Meth K C "far_by_place" fB) (GB : FnOk P w K mg base CX0 k fB fdB ["self", "place"] (spFarBy C)) (bB : Binds K fdB ["self", "place"] []) : FnOk P w K mg base CX0 (k + 1) f fd ["web"] (spPartsOf C) := by
  refine F.ok scPartsOf (fun vs H Q E h => ?_) (fun cdv A outer s H vs Q E hr h => ?_)
  · obtain ⟨x, ns, ts, rfl, _⟩ := h
    rfl
  · obtain ⟨x, ns, ts, rfl, wb, h64, q⟩ := h
    have hu := hu_of hr
    refine ⟨_, pss_cons (ps_set (i := 1) scPartsOf.nd rfl (.inl rfl) (pe_lst pa_nil))
      (pss_cons (ps_set (i := 2) scPartsOf.nd rfl (.inl rfl) pe_dnewK)
      (pss_cons (ps_for PassesOwn.never rfl (pi_tup (pe_fld (pv 0) rfl)) (pg_name (i := 3) scPartsOf.nd rfl (.inl rfl))
        (pss_one (ps_if (pt_cmp (pc_dnotin hu (pv 3) (pv 2)))
          (pss_cons (ps_set (i := 4) scPartsOf.nd rfl (.inl rfl) (pe_callTy call_tuple_of (by rfl) B3.tuple PyProof.Rows.boot_tuple (pa_cons (pe_callB (call_sortedD rfl) (by rfl) B3.sorted PyProof.Rows.boot_sorted (pa_cons (pe_meth (pv 0) T.cl mB GB hr bB .nil pass0 (pa_cons (pv 3) pa_nil)) pa_nil)) pa_nil)))
          (pss_cons (ps_expr (pe_bm PySem.F.plainAttrs_list PySem.F.slot_list_append PySem.F.type_list_append mt_append (pv 1) (pa_cons (pv 4) pa_nil)))
          (pss_one (ps_for PassesOwn.never rfl (pi_tup (pv 4)) (pg_name (i := 5) scPartsOf.nd rfl (.inl rfl))
            (pss_one (ps_dput hu (pv 2) (pv 5) pe_bl rfl)))))) pss_nil)))
      (pss_one (ps_ret (pe_callTy call_tuple_of (by rfl) B3.tuple PyProof.Rows.boot_tuple (pa_cons (pv 1) pa_nil)))))), ?_⟩
    obtain ⟨⟨dx, pl, t, d, fa, h1, ⟨hp1, tq, hp2, hp3⟩, h3⟩, g⟩ := id wb
    have hnd := g.asc.nodup
    refine rs_set ?_
    refine ⟨Nat.zero_le _, fun pa npa => ?_⟩
    refine rs_set ?_
    intro sd nsd
    have npsd : pa ≠ sd := ne_of_none upd_same nsd
    have nsd0 : H sd = none := (same_upd npa).free nsd
    have w0 : PartsI H pa sd ns [] (upd (upd H pa (.lst [])) sd (.dK [])) := ⟨(same_upd npa).trans (same_upd nsd), ⟨[], (same_upd nsd) _ _ upd_same, .nil⟩, [], upd_same, (fun z => by simp), List.nodup_nil, (fun _ z => nomatch z)⟩
    generalize (upd (upd H pa (.lst [])) sd (.dK [])) = H1 at w0 ⊢
    refine rs_tup pl (ns.map V.str) (fun Q1 q1 => ⟨.ref x, rfl, x, C, dx, _, _, rfl, w0.1 _ _ h1, T.cl, T.nP, wfl_places _ _ _ _, q1⟩) (fun i σ' H' => ∃ o3 o4 o5, σ' = [some (.ref x), some (.ref pa), some (.ref sd), o3, o4, o5] ∧ PartsI H pa sd ns ((ns.take i).foldl (pstep ts) []) H')
      ⟨_, _, _, rfl, w0⟩ (fun i σ' H' _ ⟨_, _, _, _, wi⟩ => sqt_of (wi.1 _ _ hp1)) ?_ ?_
    · rintro i v σ2 H2 hx ⟨o3, o4, o5, rfl, s2, ⟨qs, eq, hq⟩, ks, es, hmem, hks, hkn⟩
      obtain ⟨z, hz, rfl⟩ := map_get hx
      have hzn := List.mem_of_getElem? hz
      have hkl : ks.length ≤ 200 := Nat.le_trans (sub_len hks hkn) g.few
      refine r_gname ?_
      refine ⟨.str z, rfl, .ref sd, rfl, sd, _, rfl, DGet.k (k := Sum.inr z) es, _, rfl, ?_⟩
      rw [valV_seen]
      have hst : (ns.take (i + 1)).foldl (pstep ts) [] = pstep ts ((ns.take i).foldl (pstep ts) []) z := foldl_snoc hz
      have hpl : ((ns.take i).foldl (pstep ts) []).length ≤ ns.length := by
        rw [(pin g.gr g.asc i).len]
        exact Nat.le_trans (List.length_filter_le _ _) (by rw [List.length_take]; omega)
      generalize (ns.take i).foldl (pstep ts) [] = ps at hq hmem hst hpl ⊢
      by_cases hin : z ∈ ks
      · rw [if_pos hin]
        refine ⟨_, _, _, rfl, s2, ?_⟩
        rw [hst]
        unfold pstep
        rw [if_pos ((hmem z).mp hin)]
        exact ⟨⟨qs, eq, hq⟩, ks, es, hmem, hks, hkn⟩
      · rw [if_neg hin]
        have hps : pstep ts ps z = ps ++ [compOf ts z] := by
          unfold pstep
          rw [if_neg (fun e => hin ((hmem z).mpr e))]
        refine rs_set ?_
        refine ⟨.ref x, rfl, x, dx, _, rfl, s2 _ _ h1, wfl_no _ _ _ _ (by decide +kernel) (by decide +kernel) (by decide +kernel) (by decide +kernel), .str z, rfl, x, z, ns, ts, rfl, wb.keep s2, hzn, fun far fd' H3 hb hf s3 e nf => ?_⟩
        obtain ⟨n0, fk⟩ := id hf
        have few : far.length ≤ ns.length := fk.few
        refine ⟨fd', encF far, far.map (·.1), rfl, .inl e, by unfold encF; rw [List.map_map, List.map_map]; rfl, by rw [List.length_map]; omega, fun ys sl hperm hsrt nsl => ?_⟩
        rw [sortedS_eq hperm hsrt, ← comp_eq hb]
        have hcl : (compOf ts z).length ≤ 200 := by
          rw [comp_eq hb, (sortS_perm _).length_eq, List.length_map]
          have := g.few
          omega
        refine ⟨sl, _, rfl, .inl ⟨sql_of upd_same, fun pt npt => ?_⟩⟩
        have s35 := (s3.trans (same_upd (o := .lst ((compOf ts z).map V.str)) nsl)).trans (same_upd (o := .tup ((compOf ts z).map V.str)) npt)
        have ept : (upd (upd H3 sl (.lst ((compOf ts z).map V.str))) pt (.tup ((compOf ts z).map V.str))) pt = some (.tup ((compOf ts z).map V.str)) := upd_same
        generalize (upd (upd H3 sl (.lst ((compOf ts z).map V.str))) pt (.tup ((compOf ts z).map V.str))) = H5 at s35 ept ⊢
        have eq5 := s35 _ _ eq
        have hql : qs.length ≤ 200 := by rw [Paired.length hq]; have := g.few; omega
        refine rs_bm ⟨.ref pa, rfl, .inl ⟨rfl, _, sql_of eq5⟩, .ref pt, rfl, pa, _, _, rfl, rfl, eq5, smallM (by rw [List.length_map]; omega), ?_⟩
        have nptpa : pt ≠ pa := ne_of ept eq5 (fun z => nomatch z)
        have npas : pa ≠ sd := npsd
        -- the names
        have wJ : ∀ H', H' = upd H5 pa (.lst (qs.map V.ref ++ [.ref pt])) → Same H H' ∧ H' pa = some (.lst ((qs ++ [pt]).map V.ref)) ∧ Paired (PartT H') (qs ++ [pt]) (ps ++ [compOf ts z]) ∧ H' sd = some (.dK (encS ks)) ∧ H' pt = some (.tup ((compOf ts z).map V.str)) := by
          rintro H' rfl
          refine ⟨fun b o e => ?_, by rw [upd_same, List.map_append]; rfl, ?_, by rw [upd_ne (Ne.symm npas)]; exact s35 _ _ es, by rw [upd_ne nptpa]; exact ept⟩
          · rw [upd_ne (ne_of_none e npa)]
            exact s35 _ _ (s2 _ _ e)
          · refine paired_snoc (F := PartT _) (by show (upd H5 pa _) pt = _; rw [upd_ne nptpa]; exact ept) (paired_mono (fun q part e => ?_) hq)
            have e5 := s35 _ _ (show H2 q = _ from e)
            show (upd H5 pa _) q = _
            rw [upd_ne (ne_of e5 eq5 (fun z => nomatch z))]
            exact e5
        obtain ⟨w1, w2, w3, w4, w5⟩ := wJ _ rfl
        generalize (upd H5 pa (.lst (qs.map V.ref ++ [.ref pt]))) = H6 at w1 w2 w3 w4 w5 ⊢
        refine ⟨.ref pt, rfl, pt, rfl, ⟨_, sqt_of w5⟩, for_tup (xs := (compOf ts z).map V.str) (fun j σ' H' => ∃ o5', σ' = [some (.ref x), some (.ref pa), some (.ref sd), some (.str z), some (.ref pt), o5'] ∧ Same H H' ∧ H' pa = some (.lst ((qs ++ [pt]).map V.ref)) ∧ Paired (PartT H') (qs ++ [pt]) (ps ++ [compOf ts z]) ∧ H' sd = some (.dK (encS (putAll ks ((compOf ts z).take j)))) ∧ H' pt = some (.tup ((compOf ts z).map V.str)))
          ⟨_, rfl, w1, w2, w3, w4, w5⟩ (fun j σ' H' _ ⟨_, _, _, _, _, _, e⟩ => sqt_of e) ?_ ?_⟩
        · rintro j v σ3 H7 hv ⟨o5', rfl, u1, u2, u3, u4, u5⟩
          obtain ⟨y, hy, rfl⟩ := map_get hv
          refine r_gname ?_
          have hpn : ∀ u ∈ putAll ks ((compOf ts z).take j), u ∈ ns := fun u hu => by
            rcases putAll_mem.mp hu with a | a
            · exact hkn u a
            · exact ((mem_comp g.gr hzn).mp (List.mem_of_mem_take a)).within g.gr hzn
          have hpl2 : (putAll ks ((compOf ts z).take j)).length ≤ 200 := Nat.le_trans (sub_len (putAll_nd hks) hpn) g.few
          refine ⟨.ref sd, rfl, .str y, rfl, sd, _, rfl, DPut.k (k := Sum.inr y) u4 (smallM (by rw [List.length_map]; omega)), ?_⟩
          rw [putS, ← putAll_snoc hy]
          refine ⟨_, rfl, fun b o e => ?_, ?_, ?_, upd_same, ?_⟩
          · rw [upd_ne (ne_of_none e nsd0)]; exact u1 _ _ e
          · rw [upd_ne npas]; exact u2
          · refine paired_mono (fun q part e => ?_) u3
            show (upd H7 sd _) q = _
            rw [upd_ne (ne_of (show H7 q = _ from e) u4 (fun z => nomatch z))]
            exact e
          · rw [upd_ne (ne_of u5 u4 (fun z => nomatch z))]; exact u5
        · rintro σ3 H7 ⟨o5', rfl, u1, u2, u3, u4, u5⟩
          rw [List.length_map, List.take_length] at u4
          refine ⟨_, _, _, rfl, u1, ⟨_, u2, ?_⟩, _, u4, fun u => ?_, putAll_nd hks, fun u hu => ?_⟩
          · rw [hst, hps]; exact u3
          · rw [hst, hps, List.flatten_append, List.mem_append, putAll_mem, hmem u]
            simp
          · rcases putAll_mem.mp hu with a | a
            · exact hkn u a
            · exact ((mem_comp g.gr hzn).mp a).within g.gr hzn
    · rintro σ2 H2 ⟨o3, o4, o5, rfl, s2, ⟨qs, eq, hq⟩, _⟩
      rw [List.length_map, List.take_length] at hq
      refine ⟨.ref pa, rfl, pa, _, rfl, .inl ⟨sql_of eq, fun p np => q p _ ⟨qs, upd_same, paired_mono (fun q part e => (same_upd np) _ _ e) hq⟩ (s2.trans (same_upd np))⟩⟩
end
end Hw

set_option Elab.async false
set_option linter.all false
set_option maxRecDepth 100000
set_option maxHeartbeats 4000000
namespace Hw
open PySem L2 PyProof.Rows
def partD (part : List Str) : PyData := .tuple (part.map PyData.str)
theorem alike_strs : ∀ xs ys : List Str, PySem.W.alikeAll (xs.map PyData.str) (ys.map PyData.str) = true
  | [], _ => by simp [PySem.W.alikeAll]
  | _ :: _, [] => by simp [PySem.W.alikeAll]
  | x :: xs, y :: ys => by simp [PySem.W.alikeAll, PySem.W.alike, alike_strs xs ys]
theorem alike_part (p q : List Str) : PySem.W.alike (partD p) (partD q) = true := by
  unfold partD
  rw [PySem.W.alike]
  exact alike_strs p q
theorem dataLe_part {a b : Str} {r r' : List Str} (h : strLt a b = true) : PySem.W.dataLt (partD (b :: r')) (partD (a :: r)) = false := by
  unfold partD
  rw [PySem.W.dataLt_tuple, List.map_cons, List.map_cons, PySem.W.dataLt_all_no (by simp [PySem.W.alike]) (by
    rw [PyData.eqv]
    exact beq_eq_false_iff_ne.mpr (Ne.symm (strLt_ne h))), PySem.W.dataLt_str]
  exact strLt_as h
theorem dp_strs {K : PySem.W.Frag} {H : Hp} : ∀ zs : List Str, DpAll K H (zs.map V.str) (zs.map PyData.str)
  | [] => .nil
  | z :: zs => .cons (.str z) (dp_strs zs)
theorem depth_part (q : List Str) : (partD q).depth ≤ 1 := by
  have a : ∀ xs : List Str, PyData.depthAll (xs.map PyData.str) = 0 := by
    intro xs
    induction xs with
    | nil => rfl
    | cons x xs ih =>
      show PyData.depthAll (PyData.str x :: xs.map PyData.str) = 0
      rw [PyData.depthAll, ih, PyData.depth]; rfl
  unfold partD
  rw [PyData.depth, a]; exact Nat.le_refl _
def spLParts : Sp := fun vs H Q _ => ∃ (p : Addr) (ns : List Str) (ts : List Tie), vs = [.ref p] ∧ OwnW ns ts ∧ WebAt H p ns ts ∧ ∀ l H', PartsAt H' l (partsL ns ts) → Same H H' → Q (.ref l) H'
theorem rs_par3 {i j l : Nat} {ta : TA} {u : TS} {D : Ends} {σ : L2.St} {H : Hp} (h : ta σ H fun vs H1 => ∃ x y z, vs = [x, y, z] ∧ u D (((σ.set i (some x)).set j (some y)).set l (some z)) H1) : tSeq (tPar3 i j l ta) u D σ H := h
section
variable {P : Program} {w : World} {K : PySem.W.Frag} {mg : Str → Option Value} {base : Heap}
end
end Hw

set_option Elab.async false
set_option linter.all false
set_option maxRecDepth 100000
set_option maxHeartbeats 4000000
namespace Hw
open PySem L2 PyProof.Rows
abbrev sAreTs : Stmt := topS 21
theorem RcOp.lt_strS {A : Around} {s : Shared} (a b : Str) (t u : Tok) : Ob.RcOp .Lt A s (.str a t) (.str b u) (strLt a b) := fun _ _ _ _ h => PySem.P.lt_str h
/-- one tie ahead of another one -/
def rLtT (K : PySem.W.Frag) : R2 := fun x y H Q => ∃ (a b : Addr) (t u : Tie), x = .ref a ∧ y = .ref b ∧ SqT K H a ([t.1, t.2].map V.str) ∧ SqT K H b ([u.1, u.2].map V.str) ∧ Q (.bl (ltP t u)) H
theorem lex_ltP (t u : Tie) : Ob.lexAt (fun j => [t.1, t.2].getD j (Str.ofString "") == [u.1, u.2].getD j (Str.ofString "")) (fun j => strLt ([t.1, t.2].getD j (Str.ofString "")) ([u.1, u.2].getD j (Str.ofString ""))) (decide ([t.1, t.2].length < [u.1, u.2].length)) 0 (min [t.1, t.2].length [u.1, u.2].length) = ltP t u := by
  show (if (t.1 == u.1) = true then (if (t.2 == u.2) = true then decide (2 < 2) else strLt t.2 u.2) else strLt t.1 u.1) = _
  unfold ltP
  by_cases h1 : (t.1 == u.1) = true
  · rw [if_pos h1, if_pos h1]
    by_cases h2 : (t.2 == u.2) = true
    · rw [if_pos h2, beq_iff_eq.mp h2, strLt_irr]; rfl
    · rw [if_neg h2]
  · rw [if_neg h1, if_neg h1]
theorem op_ltT {X : Cx} (hu : X.A.units < cLine) : OpR X (compareOp .Lt) (rLtT X.K) := by
  intro pins s σ H x y v u Q I rx ry h
  obtain ⟨a, b, t, w, rfl, rfl, ha, hb, q⟩ := h
  cases rx
  cases ry
  obtain ⟨its, r1, p1, _⟩ := I.tuple ha
  obtain ⟨its2, r2, p2, _⟩ := I.tuple hb
  have e1 : its.toArray.size = [t.1, t.2].length := by rw [List.size_toArray, ← r1.length, List.length_map]
  have e2 : its2.toArray.size = [w.1, w.2].length := by rw [List.size_toArray, ← r2.length, List.length_map]
  have R := Ob.RcOp.tuples_lt (A := X.A) (s := s) (e := fun j => [t.1, t.2].getD j (Str.ofString "") == [w.1, w.2].getD j (Str.ofString "")) (r := fun j => strLt ([t.1, t.2].getD j (Str.ofString "")) ([w.1, w.2].getD j (Str.ofString ""))) p1 p2 hu (fun j h1 h2 => by
    obtain ⟨t, et⟩ := str_item r1 j h1
    obtain ⟨t', et'⟩ := str_item r2 j h2
    rw [et, et']
    exact SeqAt.EqAt.str_str _ _ _ _) (fun j h1 h2 _ => by
    obtain ⟨t, et⟩ := str_item r1 j h1
    obtain ⟨t', et'⟩ := str_item r2 j h2
    rw [et, et']
    exact RcOp.lt_strS _ _ _ _)
  rw [e1, e2, lex_ltP] at R
  have z : wpAny (model X.prog X.w) X.A (compareOp .Lt (.ref a) (.ref b)) (EP X pins σ Q) X.xe s := R X.prog X.w X.xe (EP X pins σ Q) ⟨.bl _, H, I, rfl, q⟩
  exact z
def spAscT (K : PySem.W.Frag) : Sp := fun vs H Q _ => ∃ (p : Addr) (qs : List Addr) (ts : List Tie), vs = [.ref p] ∧ SqT K H p (qs.map V.ref) ∧ Paired (TieL H) qs ts ∧ AscP ts ∧ ts.length ≤ 100000 ∧ ∀ H', Same H H' → Q (.bl true) H'
def spAreTs : Sp := fun vs H Q _ => ∃ (t p : Addr) (ns : List Str) (ts : List Tie), vs = [.ref t, .ref p] ∧ ReadAt H p t ns ts ∧ GoodW ns ts ∧ ∀ H', Same H H' → Q (.bl true) H'
theorem ascP_at {ts : List Tie} (ha : AscP ts) {i : Nat} {x y : Tie} (h1 : ts[i]? = some x) (h2 : ts[i + 1]? = some y) : ltP x y = true := by
  obtain ⟨p1, rfl⟩ := List.getElem?_eq_some_iff.mp h1
  obtain ⟨p2, rfl⟩ := List.getElem?_eq_some_iff.mp h2
  exact List.pairwise_iff_getElem.mp ha i (i + 1) p1 p2 (by omega)
section
variable {P : Program} {w : World} {K : PySem.W.Frag} {mg : Str → Option Value} {base : Heap}
theorem ok_ascT {f : Addr} {fd : FuncData} {k : Nat} (F : Fun K "ascends" "ascends" sAsc f fd) (B3 : Blt3 mg) : FnOk P w K mg base CX0 (k + 1) f fd ["values"] (spAscT K) := by
  refine F.ok scAsc (fun vs H Q E h => ?_) (fun cdv A outer s H vs Q E hr h => ?_)
  · obtain ⟨p, qs, ts, rfl, _⟩ := h
    rfl
  · obtain ⟨p, qs, ts, rfl, hp, hq, ha, hl, q⟩ := h
    have hu0 := hr.units0
    refine ⟨_, pss_one (ps_ret (pe_callB (cr_all rfl) (by rfl) B3.all PyProof.Rows.boot_all (pa_cons (pe_lc (own := [("one", 1), ("other", 2)]) (g := gTup _ 2 (gCons (gName 1) (gCons (gName 2) gNil))) (tt := tYes) (te := tOp (rLtT K) (tVar 1) (tVar 2)) rfl scAsc.nd
        (RZ.pi_zipA (by rfl) B3.zip (pa_cons (pv 0) (pa_cons (pe_slice sl_tupA (pv 0) (po_some pe_int) po_none) pa_nil))) (blkOk_by (N := ["values", "one", "other"]) (sc := defScope sAsc) (by decide +kernel))
        (fun _ _ _ _ _ => pg_tup rfl (pgs_cons (pg_name (i := 1) scAsc.nd rfl (Or.inl rfl)) (pgs_cons (pg_name (i := 2) scAsc.nd rfl (Or.inl rfl)) pgs_nil))) (fun _ _ _ _ _ => pts_nil) (fun _ _ _ _ _ => pe_cmpR (op_ltT hu0) (pv 1) (pv 2) (nomark _))) pa_nil))), ?_⟩
    have hlq : qs.length = ts.length := Paired.length hq
    refine ⟨.ref p, rfl, .ref p, rfl, 1, rfl, p, qs.map V.ref, rfl, hp, fun hw => ?_, fun hw b nb => ?_⟩
    · obtain ⟨H1, eH1⟩ : ∃ H1, H1 = H := ⟨H, rfl⟩
      have s1 : Same H H1 := by rw [eH1]; exact Same.refl H
      have hb : SqT K H1 p ((qs.map V.ref).drop 1) := by
        have e0 : (qs.map V.ref).length = 0 := by
          have := hw.1
          rw [show HT.sIx (qs.map V.ref).length 0 (some 1) = min 1 (qs.map V.ref).length from HT.sIx_nat _ 0 1] at this
          omega
        rw [List.length_eq_zero_iff.mp e0] at hp ⊢
        rw [eH1]; exact hp
      rw [← eH1]
      refine ⟨p, _, qs.map V.ref, (qs.map V.ref).drop 1, rfl, .inr ⟨sqT_same hp s1, hb, fun D hD => lc_it (walk_zipT rfl) (fun i H' => Same H H' ∧ Same H1 H' ∧ H' D = some (.lst ((List.replicate i true).map V.bl))) ⟨s1.trans (same_upd hD), same_upd hD, upd_same⟩ (fun i H' _ h => ⟨sqT_same hp h.1, sqT_same hb h.2.1⟩) ?_ ?_⟩⟩
      · rintro i x H' H'' hi ⟨sx, sx1, eD⟩ ⟨T, x1, x2, rfl, nT, rfl, g1, g2⟩
        obtain ⟨q1, h1, rfl⟩ := map_get g1
        have g2 : ((qs.map V.ref).drop 1)[i]? = some x2 := g2
        rw [List.getElem?_drop] at g2
        obtain ⟨q2, h2, rfl⟩ := map_get g2
        obtain ⟨t1, k1, f1⟩ := paired_get hq h1
        obtain ⟨t2, k2, f2⟩ := paired_get hq h2
        refine ⟨T, [.ref q1, .ref q2], rfl, sqt_of upd_same, rfl, _, [.ref q2], rfl, _, [], rfl, rfl, rfl, r_yes ?_⟩
        have hlt : ltP t1 t2 = true := ascP_at ha k1 (by rw [Nat.add_comm] at k2; exact k2)
        have hi1 := (List.getElem?_eq_some_iff.mp h1).1
        refine ⟨.ref q1, rfl, .ref q2, rfl, q1, q2, t1, t2, rfl, rfl, sqt_of ((same_upd nT) _ _ (sx _ _ f1)), sqt_of ((same_upd nT) _ _ (sx _ _ f2)), _, (same_upd nT) _ _ eD, smallM (by rw [List.length_map, List.length_replicate]; omega), ?_, ?_, ?_⟩
        · intro b o e
          rw [upd_ne (ne_of_none (s1 _ _ e) hD)]
          exact (same_upd nT) _ _ (sx _ _ e)
        · intro b o e
          rw [upd_ne (ne_of_none e hD)]
          exact (same_upd nT) _ _ (sx1 _ _ e)
        · rw [upd_same, hlt, List.replicate_succ', List.map_append]; rfl
      · rintro H' ⟨sx, sx1, eD⟩
        refine ⟨D, _, rfl, sql_of eD, ?_⟩
        rw [all_rep]
        exact q H' sx
    · have s1 : Same H (upd H b (.tup (cutV (qs.map V.ref) (some 1) none))) := same_upd nb
      have hb : SqT K (upd H b (.tup (cutV (qs.map V.ref) (some 1) none))) b ((qs.map V.ref).drop 1) := by
        rw [cut1]
        exact sqt_of upd_same
      generalize (upd H b (.tup (cutV (qs.map V.ref) (some 1) none))) = H1 at s1 hb ⊢
      refine ⟨p, _, qs.map V.ref, (qs.map V.ref).drop 1, rfl, .inr ⟨sqT_same hp s1, hb, fun D hD => lc_it (walk_zipT rfl) (fun i H' => Same H H' ∧ Same H1 H' ∧ H' D = some (.lst ((List.replicate i true).map V.bl))) ⟨s1.trans (same_upd hD), same_upd hD, upd_same⟩ (fun i H' _ h => ⟨sqT_same hp h.1, sqT_same hb h.2.1⟩) ?_ ?_⟩⟩
      · rintro i x H' H'' hi ⟨sx, sx1, eD⟩ ⟨T, x1, x2, rfl, nT, rfl, g1, g2⟩
        obtain ⟨q1, h1, rfl⟩ := map_get g1
        have g2 : ((qs.map V.ref).drop 1)[i]? = some x2 := g2
        rw [List.getElem?_drop] at g2
        obtain ⟨q2, h2, rfl⟩ := map_get g2
        obtain ⟨t1, k1, f1⟩ := paired_get hq h1
        obtain ⟨t2, k2, f2⟩ := paired_get hq h2
        refine ⟨T, [.ref q1, .ref q2], rfl, sqt_of upd_same, rfl, _, [.ref q2], rfl, _, [], rfl, rfl, rfl, r_yes ?_⟩
        have hlt : ltP t1 t2 = true := ascP_at ha k1 (by rw [Nat.add_comm] at k2; exact k2)
        have hi1 := (List.getElem?_eq_some_iff.mp h1).1
        refine ⟨.ref q1, rfl, .ref q2, rfl, q1, q2, t1, t2, rfl, rfl, sqt_of ((same_upd nT) _ _ (sx _ _ f1)), sqt_of ((same_upd nT) _ _ (sx _ _ f2)), _, (same_upd nT) _ _ eD, smallM (by rw [List.length_map, List.length_replicate]; omega), ?_, ?_, ?_⟩
        · intro b o e
          rw [upd_ne (ne_of_none (s1 _ _ e) hD)]
          exact (same_upd nT) _ _ (sx _ _ e)
        · intro b o e
          rw [upd_ne (ne_of_none e hD)]
          exact (same_upd nT) _ _ (sx1 _ _ e)
        · rw [upd_same, hlt, List.replicate_succ', List.map_append]; rfl
      · rintro H' ⟨sx, sx1, eD⟩
        refine ⟨D, _, rfl, sql_of eD, ?_⟩
        rw [all_rep]
        exact q H' sx
theorem scAreTs : FnScope ["value", "places", "known", "place", "tie"] ["value", "places"] (defScope sAreTs) := ⟨rfl, rfl, rfl, by decide +kernel, rfl, by decide +kernel, by decide +kernel⟩
theorem ok_arets {f fT fA : Addr} {fd fdT fdA : FuncData} {k : Nat} (F : Fun K "are_ties" "are_ties" sAreTs f fd) (B : Blt mg) (B3 : Blt3 mg) (GT : FnOk P w K mg base CX0 k fT fdT ["value", "known"] spIsTie) (gT : mg "is_tie" = some (.ref fT)) (kT : PySem.W.keepIn K (.ref fT) = true) (bT : Binds K fdT ["value", "known"] [])
    (GA : FnOk P w K mg base CX0 k fA fdA ["values"] (spAscT K)) (gA : mg "ascends" = some (.ref fA)) (kA : PySem.W.keepIn K (.ref fA) = true) (bA : Binds K fdA ["values"] []) : FnOk P w K mg base CX0 (k + 1) f fd ["value", "places"] spAreTs := by
  refine F.ok scAreTs (fun vs H Q E h => ?_) (fun cdv A outer s H vs Q E hr h => ?_)
  · obtain ⟨t, p, ns, ts, rfl, _⟩ := h
    rfl
  · obtain ⟨t, p, ns, ts, rfl, ⟨ep, qs, et, hq⟩, g, q⟩ := h
    have hu := hu_of hr
    refine ⟨_, pss_cons (ps_set (i := 2) scAreTs.nd rfl (.inr rfl) (pe_dc (own := [("place", 3)]) (g := gName 3) (tt := tYes) rfl scAreTs.nd (pi_tup (pv 1))
        (blkOk_by (N := ["value", "places", "known", "place", "tie"]) (sc := defScope sAreTs) (by decide +kernel)) (fun _ _ _ _ _ => pg_name (i := 3) scAreTs.nd rfl (Or.inl rfl)) (fun _ _ _ _ _ => pts_nil)
        (fun _ _ _ _ _ => pv 3) (fun _ _ _ _ _ => pe_bl)))
      (pss_one (ps_ret (pe_and (pe_callB call_isi (by rfl) B3.isi PyProof.Rows.boot_isinstance (pa_cons (pv 0) (pa_cons (pe_bltn (v := .ty "tuple") (by rfl) B3.tuple (by decide +kernel) rfl) pa_nil)))
        (pe_and (pe_callB (cr_all rfl) (by rfl) B3.all PyProof.Rows.boot_all (pa_cons (pe_lc (own := [("tie", 4)]) (g := gName 4) (tt := tYes) rfl scAreTs.nd (pi_tup (pv 0)) (blkOk_by (N := ["value", "places", "known", "place", "tie"]) (sc := defScope sAreTs) (by decide +kernel))
          (fun _ _ _ _ _ => pg_name (i := 4) scAreTs.nd rfl (Or.inl rfl)) (fun _ _ _ _ _ => pts_nil) (fun _ _ _ _ _ => pe_call GT hr (by rfl) gT kT bT .nil pass0 (pa_cons (pv 4) (pa_cons (pv 2) pa_nil)))) pa_nil))
        (pe_one (pe_call GA hr (by rfl) gA kA bA .nil pass0 (pa_cons (pv 0) pa_nil))))))), ?_⟩
    have hnd := g.asc.nodup
    have l200 := g.few
    have lts := g.tfew
    refine rs_set ?_
    refine ⟨.ref p, rfl, p, rfl, ⟨_, sqt_of ep⟩, fun D nD => dc_tup (xs := ns.map V.str) (fun i H' => Same H H' ∧ H' D = some (.dK ((ns.take i).map fun z => ((Sum.inr z : Key), V.bl true))))
      ⟨same_upd nD, upd_same⟩ (fun i H' _ ⟨w, _⟩ => sqt_of (w _ _ ep)) ?_ ?_⟩
    · rintro i x H' hx ⟨sx, eD⟩
      obtain ⟨z, hz, rfl⟩ := map_get hx
      have hzt := nodup_take hnd hz
      refine ⟨rfl, r_yes ?_⟩
      refine ⟨.str z, rfl, _, Sum.inr z, rfl, eD, small1000 (by rw [List.length_map, List.length_take]; omega), ?_, ?_⟩
      · intro b o e
        rw [upd_ne (ne_of_none e nD)]
        exact sx _ _ e
      · rw [upd_same, take_snoc hz, putK_new _ (by rw [valV_names (g := fun _ => V.bl true), if_neg hzt]), List.map_append]; rfl
    · rintro H1 ⟨s1, eD⟩
      rw [List.length_map, List.take_length] at eD
      refine ⟨.ref t, rfl, .ref t, .ty "tuple", .type "tuple", .type "tuple", true, rfl, .ty _, .base (.tup (s1 _ _ et)), kit_ty (by decide +kernel), true, rfl, ?_⟩
      refine ⟨.ref t, rfl, t, rfl, ⟨_, sqt_of (s1 _ _ et)⟩, fun L nL => lc_tup (xs := qs.map V.ref) (fun i H' => Same H1 H' ∧ H' L = some (.lst ((List.replicate i true).map V.bl))) ⟨same_upd nL, upd_same⟩ (fun i H' _ h => sqt_of (h.1 _ _ (s1 _ _ et))) ?_ ?_⟩
      · rintro i x H' hx ⟨sx, eL⟩
        obtain ⟨q', hq', rfl⟩ := map_get hx
        obtain ⟨u, hu', eu⟩ := paired_get hq hq'
        obtain ⟨m1, m2, m3⟩ := g.tie u (List.mem_of_getElem? hu')
        have hi := (List.getElem?_eq_some_iff.mp hu').1
        refine ⟨rfl, r_yes ?_⟩
        refine ⟨.ref q', rfl, .ref D, rfl, q', D, ns, u, rfl, sx _ _ (s1 _ _ eu), sx _ _ eD, m1, m2, m3, fun H'' s'' => ⟨_, s'' _ _ eL, smallM (by rw [List.length_map, List.length_replicate]; omega), ?_, ?_⟩⟩
        · intro b o e
          rw [upd_ne (ne_of_none e nL)]
          exact s'' _ _ (sx _ _ e)
        · rw [upd_same, List.replicate_succ', List.map_append]; rfl
      · rintro H' ⟨sx, eL⟩
        refine ⟨L, _, rfl, sql_of eL, true, congrArg V.bl (all_rep _), ?_⟩
        exact ⟨.ref t, rfl, t, qs, ts, rfl, sqt_of (sx _ _ (s1 _ _ et)), paired_mono (fun q t e => sx _ _ (s1 _ _ e)) hq, g.tasc, lts, fun H'' s'' => q H'' ((s1.trans sx).trans s'')⟩
end
end Hw

set_option Elab.async false
set_option linter.all false
set_option maxRecDepth 100000
set_option maxHeartbeats 4000000
namespace Hw
open PySem L2 PyProof.Rows
abbrev sWebOf : Stmt := topS 22
def spWebOf (C : Addr) : Sp := fun vs H Q _ => ∃ (p t : Addr) (ns : List Str) (ts : List Tie), vs = [.ref p, .ref t] ∧ ReadAt H p t ns ts ∧ GoodW ns ts ∧ ∀ x H', WebO C H' x ns ts → Same H H' → Q (.ref x) H'
theorem tieLine_eq (t : Tie) : (((Str.empty ++ Str.ofString "tie ") ++ t.1) ++ Str.ofString " ") ++ t.2 = tieLine t := by
  apply str_ext
  unfold tieLine
  rw [TL.join_eq]
  show _ = ((Str.ofString "tie" ++ sBl) ++ ((t.1 ++ sBl) ++ t.2)).cps.toList
  simp only [app_cps]
  have e1 : (Str.ofString "tie ").cps.toList = (Str.ofString "tie").cps.toList ++ sBl.cps.toList := by decide +kernel
  have e0 : (Str.empty).cps.toList = [] := rfl
  rw [e1, e0]
  show _ = _
  simp only [List.nil_append, List.append_assoc]
  rfl
theorem GoodW.fsum {ns : List Str} {ts : List Tie} (g : GoodW ns ts) : ((Str.ofString "places" :: ns).map (·.length)).sum + (Str.ofString "places" :: ns).length * sBl.length ≤ 2000 := by
  have h := sum_le (ps := ns) (b := 8) fun p hp => (g.nm p hp).2.1
  have h1 := g.few
  have e1 : (Str.ofString "places").length = 6 := by decide +kernel
  have e2 : sBl.length = 1 := by decide +kernel
  rw [List.map_cons, List.sum_cons, List.length_cons, e1, e2]
  omega
theorem GoodW.lsum {ns : List Str} {ts : List Tie} (g : GoodW ns ts) : ((webLines ns ts).map (·.length)).sum + (webLines ns ts).length * sNl.length ≤ 16777216 := by
  have h := sum_le (ps := ts.map tieLine) (b := 22) fun p hp => by
    obtain ⟨t, ht, rfl⟩ := List.mem_map.mp hp
    obtain ⟨m1, m2, _⟩ := g.tie t ht
    exact tieLine_len g.nm m1 m2
  have h0 := g.flen
  have h3 := g.tfew
  have e2 : sNl.length = 1 := by decide +kernel
  rw [show webLines ns ts = placesLine ns :: ts.map tieLine from rfl, List.map_cons, List.sum_cons, List.length_cons, e2, List.length_map]
  rw [List.length_map] at h
  omega
theorem smallB {n : Nat} (h : n ≤ 1000000) : n < sizeLine := by rw [sizeLine_eq]; omega
section
variable {P : Program} {w : World} {K : PySem.W.Frag} {mg : Str → Option Value} {base : Heap}
theorem scWebOf : FnScope ["places", "ties", "lines", "one", "other"] ["places", "ties"] (defScope sWebOf) := ⟨rfl, rfl, rfl, by decide +kernel, rfl, by decide +kernel, by decide +kernel⟩
theorem ok_webof {f fP fA fI C : Addr} {fd fdP fdA fdI : FuncData} {k j : Nat} (hj : j + 1 ≤ k) (F : Fun K "web_of" "web_of" sWebOf f fd) (T : TxtW K mg C) (M : Mk K C fI)
    (GP : FnOk P w K mg base CX0 k fP fdP ["value"] spArePl) (gP : mg "are_places" = some (.ref fP)) (kP : PySem.W.keepIn K (.ref fP) = true) (bP : Binds K fdP ["value"] [])
    (GA : FnOk P w K mg base CX0 k fA fdA ["value", "places"] spAreTs) (gA : mg "are_ties" = some (.ref fA)) (kA : PySem.W.keepIn K (.ref fA) = true) (bA : Binds K fdA ["value", "places"] [])
    (GI : FnOk P w K mg base CX0 j fI fdI ["self", "text"] (spInitW C)) (bI : Binds K fdI ["self", "text"] []) : FnOk P w K mg base CX0 (k + 1) f fd ["places", "ties"] (spWebOf C) := by
  refine F.ok scWebOf (fun vs H Q E h => ?_) (fun cdv A outer s H vs Q E hr h => ?_)
  · obtain ⟨p, t, ns, ts, rfl, _⟩ := h
    rfl
  · obtain ⟨p, t, ns, ts, rfl, ⟨ep, qs, et, hq⟩, g, q⟩ := h
    have hu := hu_of hr
    have hrj := hr.mono hj
    refine ⟨_, pss_cons (ps_if (pt_not (pt_val (pe_call GP hr (by rfl) gP kP bP .nil pass0 (pa_cons (pv 0) pa_nil)))) (pss_one ps_never) pss_nil)
      (pss_cons (ps_if (pt_not (pt_val (pe_call GA hr (by rfl) gA kA bA .nil pass0 (pa_cons (pv 1) (pa_cons (pv 0) pa_nil))))) (pss_one ps_never) pss_nil)
      (pss_cons (ps_set (i := 2) scWebOf.nd rfl (.inl rfl) (pe_lst (pa_cons (pe_join pe_str (pe_lst (pa_cons pe_str (StX.pa_star (pv 0) pa_nil)))) pa_nil)))
      (pss_cons (ps_for PassesOwn.never rfl (pi_tup (pv 1)) (pg_tup rfl (pgs_cons (pg_name (i := 3) scWebOf.nd rfl (Or.inl rfl)) (pgs_cons (pg_name (i := 4) scWebOf.nd rfl (Or.inl rfl)) pgs_nil)))
        (pss_one (ps_expr (pe_bm PySem.F.plainAttrs_list PySem.F.slot_list_append PySem.F.type_list_append mt_append (pv 2) (pa_cons (pe_joined (.cons pe_str (.cons (pe_fmt (pv 3)) (.cons pe_str (.cons (pe_fmt (pv 4)) .nil))))) pa_nil)))))
      (pss_one (ps_ret (pe_make M GI hrj (by rfl) T.mW bI .nil pass0 (pa_cons (pe_join pe_str (pv 2)) pa_nil))))))), ?_⟩
    have l200 := g.few
    have lts := g.tfew
    refine rs_no ?_
    refine ⟨.ref p, rfl, p, ns, rfl, ep, g.asc, g.nm, g.few, fun H1 s1 => ⟨true, rfl, ?_⟩⟩
    refine rs_no ?_
    refine ⟨.ref t, rfl, .ref p, rfl, t, p, ns, ts, rfl, ⟨s1 _ _ ep, qs, s1 _ _ et, paired_mono (fun q t e => s1 _ _ e) hq⟩, g, fun H2 s2 => ⟨true, rfl, ?_⟩⟩
    have s12 := s1.trans s2
    refine rs_set ?_
    refine ⟨⟨_, rfl⟩, .ref p, rfl, p, ns.map V.str, rfl, .inl (sqt_of (s12 _ _ ep)), (by rw [List.length_cons, List.length_append, List.length_map]; exact Nat.le_of_lt (smallM (by show _ + 0 + 1 ≤ _; omega))), fun l1 n1 => ?_⟩
    have s3 := s12.trans (same_upd (o := .lst (V.str (Str.ofString "places") :: (ns.map V.str ++ []))) n1)
    have el1 : (upd H2 l1 (.lst (V.str (Str.ofString "places") :: (ns.map V.str ++ [])))) l1 = some (.lst ((Str.ofString "places" :: ns).map V.str)) := by rw [upd_same, List.append_nil]; rfl
    generalize (upd H2 l1 (.lst (V.str (Str.ofString "places") :: (ns.map V.str ++ [])))) = H3 at s3 el1 ⊢
    refine ⟨Str.ofString " ", l1, Str.ofString "places" :: ns, rfl, rfl, .inl (sql_of el1), Nat.le_trans g.fsum (by decide), by show 1 ≤ sizeLine; decide, fun l2 n2 => ?_⟩
    have s4 := s3.trans (same_upd (o := .lst [.str (Txt.join (Str.ofString " ") (Str.ofString "places" :: ns))]) n2)
    have nl2 : H l2 = none := s3.free n2
    have el2 : (upd H3 l2 (.lst [.str (Txt.join (Str.ofString " ") (Str.ofString "places" :: ns))])) l2 = some (.lst ([placesLine ns].map V.str)) := upd_same
    generalize (upd H3 l2 (.lst [.str (Txt.join (Str.ofString " ") (Str.ofString "places" :: ns))])) = H4 at s4 el2 ⊢
    refine rs_tup t (qs.map V.ref) (fun Q1 q1 => ⟨_, rfl, q1⟩) (fun i σ' H' => ∃ o3 o4, σ' = [some (.ref p), some (.ref t), some (.ref l2), o3, o4] ∧ Same H H' ∧ H' l2 = some (.lst ((placesLine ns :: (ts.take i).map tieLine).map V.str)))
      ⟨_, _, rfl, s4, el2⟩ (fun i σ' H' _ ⟨o3, o4, _, sx, _⟩ => sqt_of (sx _ _ et)) ?_ ?_
    · rintro i x σ2 H5 hx ⟨o3, o4, rfl, sx, el⟩
      obtain ⟨q', hq', rfl⟩ := map_get hx
      obtain ⟨u, hu', eu⟩ := paired_get hq hq'
      obtain ⟨m1, m2, m3⟩ := g.tie u (List.mem_of_getElem? hu')
      have hi := (List.getElem?_eq_some_iff.mp hu').1
      have b1 := (g.nm _ m1).2.1
      have b2 := (g.nm _ m2).2.1
      refine ⟨q', [.str u.1, .str u.2], rfl, sqt_of (sx _ _ eu), rfl, _, [.str u.2], rfl, _, [], rfl, rfl, ?_⟩
      have k1 : (Str.empty ++ Str.ofString "tie ").length = 4 := by decide +kernel
      have k2 : ((Str.empty ++ Str.ofString "tie ") ++ u.1).length ≤ 20 := by rw [app_len, k1]; omega
      have kb : (Str.ofString " ").length = 1 := by decide +kernel
      have k3 : (((Str.empty ++ Str.ofString "tie ") ++ u.1) ++ Str.ofString " ").length ≤ 30 := by rw [app_len, kb]; omega
      have k4 : ((((Str.empty ++ Str.ofString "tie ") ++ u.1) ++ Str.ofString " ") ++ u.2).length ≤ 40 := by rw [app_len]; omega
      refine ⟨.ref l2, rfl, .inl ⟨rfl, _, sql_of el⟩, _, rfl, Nat.le_of_lt (small1000 (by rw [k1]; decide)), .str u.1, rfl, .inl ⟨u.1, rfl, Nat.le_of_lt (small1000 (by omega)), _, rfl, Nat.le_of_lt (small1000 (by omega)), _, rfl, Nat.le_of_lt (small1000 (by omega)), .str u.2, rfl, .inl ⟨u.2, rfl, Nat.le_of_lt (small1000 (by omega)), _, rfl, Nat.le_of_lt (small1000 (by omega)), ?_⟩⟩⟩
      rw [tieLine_eq]
      refine ⟨l2, _, _, rfl, rfl, el, smallB (by rw [List.length_map, List.length_cons, List.length_map, List.length_take]; omega), _, _, rfl, fun b o e => ?_, ?_⟩
      · rw [upd_ne (ne_of_none e nl2)]
        exact sx _ _ e
      · rw [upd_same, take_snoc hu', List.map_append, ← List.cons_append, List.map_append]; rfl
    · rintro σ2 H5 ⟨o3, o4, rfl, sx, el⟩
      rw [List.length_map, Paired.length hq, List.take_length] at el
      refine ⟨⟨_, rfl⟩, .ref l2, rfl, Str.ofString "\n", l2, webLines ns ts, rfl, rfl, .inl (sql_of el), g.lsum, ?_⟩
      intro x dx nx ndx nxd
      refine ⟨x, dx, ns, ts, rfl, g, upd_same, fun H6 wb s6 => ⟨rfl, q x H6 wb (sx.trans fun b o e => ?_)⟩⟩
      have n1 := ne_of_none e nx
      have n2 := ne_of_none e ndx
      refine s6 _ _ n1 ?_
      rw [upd_ne n1, upd_ne n2]; exact e
end
end Hw

set_option Elab.async false
set_option linter.all false
set_option maxRecDepth 100000
set_option maxHeartbeats 4000000
namespace Hw
open PySem L2 PyProof.Rows
theorem filter_snoc {α : Type} {p : α → Bool} {xs : List α} {i : Nat} {x : α} (h : xs[i]? = some x) : (xs.take (i + 1)).filter p = (xs.take i).filter p ++ if p x = true then [x] else [] := by
  rw [take_snoc h, List.filter_append]
  congr 1
  by_cases hp : p x = true
  · rw [if_pos hp, List.filter_cons_of_pos hp, List.filter_nil]
  · rw [if_neg hp, List.filter_cons_of_neg hp, List.filter_nil]
theorem inV_str (z : Str) (zs : List Str) : inV (.str z) (zs.map V.str) = decide (z ∈ zs) := by
  unfold inV
  rw [List.any_map, Bool.eq_iff_iff, List.any_eq_true, decide_eq_true_iff]
  constructor
  · rintro ⟨y, hy, e⟩
    have e : (y == z) = true := e
    exact (beq_iff_eq.mp e) ▸ hy
  · intro h
    exact ⟨z, h, by show (z == z) = true; simp⟩
theorem rs_t {te : TE} {g : TG} {u : TS} {D : Ends} {σ : L2.St} {H : Hp} (h : te σ H fun x H1 => g x σ H1 (u D)) : tSeq (tAsg te g) u D σ H := h
theorem g2_of {K : PySem.W.Frag} {σ : L2.St} {H : Hp} {i j : Nat} {p : Addr} {x y : V} {R : L2.St → Hp → Prop} (e : SqT K H p [x, y]) (h : R ((σ.set i (some x)).set j (some y)) H) : gTup K 2 (gCons (gName i) (gCons (gName j) gNil)) (.ref p) σ H R :=
  ⟨p, [x, y], rfl, e, rfl, _, [y], rfl, _, [], rfl, rfl, h⟩
abbrev rLenS (K : PySem.W.Frag) : List V → Hp → VK → Prop := fun xs H Q => ∃ p ys, xs = [.ref p] ∧ (SqL K H p ys ∨ SqT K H p ys) ∧ Q (.int ys.length) H
theorem rs_no2 {t : TT} {A u : TS} {D : Ends} {σ : L2.St} {H : Hp} (R1 R2 : Hp → Prop) (ht : ∀ Q : Bool → Hp → Prop, (∀ H', R1 H' → Q true H') → (∀ H', R2 H' → Q false H') → t σ H Q) (h1 : ∀ H', R1 H' → A { D with nx := u D } σ H') (h2 : ∀ H', R2 H' → u D σ H') : tSeq (tIfS t A tNext) u D σ H :=
  rs_no (ht _ (fun H' r => by show if true = true then _ else _; rw [if_pos rfl]; exact h1 H' r) (fun H' r => by show if false = true then _ else _; rw [if_neg Bool.false_ne_true]; exact h2 H' r))
theorem rs_unV {K : PySem.W.Frag} {u : TS} {D : Ends} {σ : L2.St} {H : Hp} {k i j : Nat} {p : Addr} {x y : V} (h : σ[k]? = some (some (.ref p))) (e : SqT K H p [x, y]) (hu : u D ((σ.set i (some x)).set j (some y)) H) : tSeq (tAsg (tVar k) (gTup K 2 (gCons (gName i) (gCons (gName j) gNil)))) u D σ H :=
  ⟨.ref p, h, p, [x, y], rfl, e, rfl, _, [y], rfl, _, [], rfl, rfl, hu⟩
theorem r_cb {ta : TA} {r : List V → Hp → VK → Prop} {σ : L2.St} {H : Hp} {Q : VK} (h : ta σ H fun vs H1 => r vs H1 Q) : tCB r ta σ H Q := h
theorem pot_ne_refs {H : Hp} {a l : Addr} {N : Nat} {qs : List Addr} (h : Pot H a N) (e : H l = some (.lst (qs.map V.ref))) : a ≠ l := by
  rintro rfl
  obtain ⟨x, y, z, e', _⟩ := h.ex
  rw [e] at e'
  cases qs with
  | nil => cases e'
  | cons q qs => cases e'
theorem pot_ne_strs {H : Hp} {a l : Addr} {N : Nat} {zs : List Str} (h : Pot H a N) (e : H l = some (.lst (zs.map V.str))) : a ≠ l := by
  rintro rfl
  obtain ⟨x, y, z, e', _⟩ := h.ex
  rw [e] at e'
  cases zs with
  | nil => cases e'
  | cons q qs => cases e'
theorem pot_tup {H : Hp} {a b : Addr} {N : Nat} {k : List V} (h : Pot H a N) (e : H b = some (.tup k)) : b ≠ a := by
  rintro rfl
  obtain ⟨u, v, w, e1, _⟩ := h.ex
  rw [e1] at e; cases e
theorem TieL.sx {H H' : Hp} {a q : Addr} {N : Nat} {t : Tie} (hP : Pot H a N) (s : SameX a H H') (e : TieL H q t) : TieL H' q t := s _ _ (pot_tup hP e) e
theorem paired_ix2 {α β : Type} {F : α → β → Prop} : ∀ {xs : List α} {ys : List β}, xs.length = ys.length → (∀ (j : Nat) x y, xs[j]? = some x → ys[j]? = some y → F x y) → Paired F xs ys
  | [], [], _, _ => .nil
  | x :: xs, y :: ys, hl, h => .cons (h 0 x y rfl rfl) (paired_ix2 (Nat.succ.inj hl) fun j u v hu hv => h (j + 1) u v hu hv)
theorem paired_app {α β : Type} {F : α → β → Prop} : ∀ {xs : List α} {ys : List β} {us : List α} {vs : List β}, Paired F xs ys → Paired F us vs → Paired F (xs ++ us) (ys ++ vs)
  | _, _, _, _, .nil, h => h
  | _, _, _, _, .cons a t, h => .cons a (paired_app t h)
theorem cut_from1 (xs : List V) : cutV xs (some 1) none = xs.drop 1 := by
  unfold cutV
  have e1 : HT.sIx xs.length xs.length none = xs.length := rfl
  rw [e1]
  cases xs with
  | nil => rfl
  | cons x xs =>
    have e2 : HT.sIx (x :: xs).length 0 (some 1) = 1 := by
      unfold HT.sIx
      simp
      try omega
    rw [e2]
    exact List.take_of_length_le (by simp)
end Hw

set_option Elab.async false
set_option linter.all false
set_option maxRecDepth 100000
set_option maxHeartbeats 4000000
namespace Hw
open PySem L2 PyProof.Rows
/-! deeds -/
inductive Deed
  | come (n : Str) (ts : List Str)
  | die (n : Str)
def Deed.name : Deed → Str
  | .come n _ => n
  | .die n => n
def Deed.isCome : Deed → Bool
  | .come _ _ => true
  | .die _ => false
def Deed.ties : Deed → List Str
  | .come _ ts => ts
  | .die _ => []
def sCome : Str := Str.ofString "come"
def sDie : Str := Str.ofString "die"
def Deed.word : Deed → Str
  | .come _ _ => sCome
  | .die _ => sDie
def cameD (ds : List Deed) : List Str := ds.flatMap fun d => if d.isCome = true then [d.name] else []
def livStep (l : List Str) : Deed → List Str
  | .come n _ => l ++ [n]
  | .die n => l.filter fun z => decide (z ≠ n)
def liv (ds : List Deed) : List Str := ds.foldl livStep []
def deadD (ds : List Deed) : List Str := ds.flatMap fun d => if d.isCome = true then [] else [d.name]
/-- deeds that can stand -/
inductive Hist : List Deed → Prop
  | nil : Hist []
  | come {ds : List Deed} {n : Str} {ts : List Str} (h : Hist ds) (nm : Nm n) (new : n ∉ cameD ds) (asc : Asc ts) (sub : ∀ t ∈ ts, t ∈ liv ds) : Hist (ds ++ [.come n ts])
  | die {ds : List Deed} {n : Str} (h : Hist ds) (lv : n ∈ liv ds) : Hist (ds ++ [.die n])
theorem came_snoc (ds : List Deed) (d : Deed) : cameD (ds ++ [d]) = cameD ds ++ if d.isCome = true then [d.name] else [] := by
  unfold cameD
  rw [List.flatMap_append]; simp
theorem dead_snoc (ds : List Deed) (d : Deed) : deadD (ds ++ [d]) = deadD ds ++ if d.isCome = true then [] else [d.name] := by
  unfold deadD
  rw [List.flatMap_append]; simp
theorem liv_snoc (ds : List Deed) (d : Deed) : liv (ds ++ [d]) = livStep (liv ds) d := by
  unfold liv
  rw [List.foldl_append]; rfl
theorem Hist.liv_came {ds : List Deed} (h : Hist ds) : ∀ z ∈ liv ds, z ∈ cameD ds := by
  induction h with
  | nil => intro z hz; cases hz
  | come h nm new asc sub ih =>
    intro z hz
    rw [liv_snoc] at hz
    rw [came_snoc]
    rcases List.mem_append.mp hz with hz | hz
    · exact List.mem_append_left _ (ih z hz)
    · exact List.mem_append_right _ hz
  | die h lv ih =>
    intro z hz
    rw [liv_snoc] at hz
    rw [came_snoc]
    exact List.mem_append_left _ (ih z (List.mem_filter.mp hz).1)
theorem Hist.came_nodup {ds : List Deed} (h : Hist ds) : (cameD ds).Nodup := by
  induction h with
  | nil => exact List.nodup_nil
  | come h nm new asc sub ih =>
    rw [came_snoc, List.nodup_append]
    exact ⟨ih, by simp [Deed.isCome], fun x hx y hy e => new (by
      have e2 : y = _ := List.mem_singleton.mp (show y ∈ [_] from hy)
      rw [e, e2] at hx
      exact hx)⟩
  | die h lv ih =>
    rw [came_snoc]
    show (cameD _ ++ []).Nodup
    rw [List.append_nil]
    exact ih
theorem Hist.liv_nodup {ds : List Deed} (h : Hist ds) : (liv ds).Nodup := by
  induction h with
  | nil => exact List.nodup_nil
  | come h nm new asc sub ih =>
    rw [liv_snoc]
    show (_ ++ [_]).Nodup
    rw [List.nodup_append]
    exact ⟨ih, by simp, fun x hx y hy e => new (h.liv_came _ (by rw [List.mem_singleton.mp hy] at e; exact e ▸ hx))⟩
  | die h lv ih =>
    rw [liv_snoc]
    exact ih.filter _
theorem Hist.nm {ds : List Deed} (h : Hist ds) : ∀ z ∈ cameD ds, Nm z := by
  induction h with
  | nil => intro z hz; cases hz
  | come h nm new asc sub ih =>
    intro z hz
    rw [came_snoc] at hz
    rcases List.mem_append.mp hz with hz | hz
    · exact ih z hz
    · rw [List.mem_singleton.mp (show z ∈ [_] from hz)]; exact nm
  | die h lv ih =>
    intro z hz
    rw [came_snoc] at hz
    rcases List.mem_append.mp hz with hz | hz
    · exact ih z hz
    · cases hz
theorem came_len (ds : List Deed) : (cameD ds).length ≤ ds.length := by
  unfold cameD
  induction ds with
  | nil => exact Nat.le_refl _
  | cons d ds ih =>
    rw [List.flatMap_cons, List.length_append, List.length_cons]
    have : (if d.isCome = true then [d.name] else []).length ≤ 1 := by split <;> simp
    omega
theorem len_subN {xs ys : List Str} (h : ∀ z ∈ xs, z ∈ ys) (hn : xs.Nodup) : xs.length ≤ ys.length := sub_len hn h
theorem Hist.liv_len {ds : List Deed} (h : Hist ds) : (liv ds).length ≤ ds.length := Nat.le_trans (len_subN h.liv_came h.liv_nodup) (came_len ds)
/-- what each deed keeps -/
theorem Hist.each {ds : List Deed} (h : Hist ds) : ∀ d ∈ ds, Nm d.name ∧ d.ties.length ≤ ds.length ∧ (∀ t ∈ d.ties, Nm t) ∧ Asc d.ties := by
  induction h with
  | nil => intro d hd; cases hd
  | @come ds n ts h nm new asc sub ih =>
    intro d hd
    rw [List.length_append]
    rcases List.mem_append.mp hd with hd | hd
    · obtain ⟨a, b, c, e⟩ := ih d hd
      exact ⟨a, Nat.le_trans b (Nat.le_add_right _ _), c, e⟩
    · rw [List.mem_singleton.mp hd]
      exact ⟨nm, Nat.le_trans (Nat.le_trans (len_subN sub asc.nodup) h.liv_len) (Nat.le_add_right _ _), fun t ht => h.nm t (h.liv_came t (sub t ht)), asc⟩
  | @die ds n h lv ih =>
    intro d hd
    rw [List.length_append]
    rcases List.mem_append.mp hd with hd | hd
    · obtain ⟨a, b, c, e⟩ := ih d hd
      exact ⟨a, Nat.le_trans b (Nat.le_add_right _ _), c, e⟩
    · rw [List.mem_singleton.mp hd]
      exact ⟨h.nm n (h.liv_came n lv), Nat.zero_le _, (fun _ z => nomatch z), .nil⟩
theorem Hist.pre {ds : List Deed} {d : Deed} (h : Hist (ds ++ [d])) : Hist ds := by
  generalize e : ds ++ [d] = es at h
  cases h with
  | nil => simp at e
  | come h _ _ _ _ =>
    obtain ⟨e1, _⟩ := List.append_inj' e rfl
    rw [e1]; exact h
  | die h _ =>
    obtain ⟨e1, _⟩ := List.append_inj' e rfl
    rw [e1]; exact h
theorem Hist.take {ds : List Deed} (h : Hist ds) (i : Nat) : Hist (ds.take i) := by
  induction h with
  | nil => rw [List.take_nil]; exact .nil
  | @come ds n ts h nm new asc sub ih =>
    by_cases hi : i ≤ ds.length
    · rw [List.take_append_of_le_length hi]; exact ih
    · rw [List.take_of_length_le (by rw [List.length_append]; show ds.length + 1 ≤ i; omega)]
      exact .come h nm new asc sub
  | @die ds n h lv ih =>
    by_cases hi : i ≤ ds.length
    · rw [List.take_append_of_le_length hi]; exact ih
    · rw [List.take_of_length_le (by rw [List.length_append]; show ds.length + 1 ≤ i; omega)]
      exact .die h lv
/-- a come in its place -/
theorem Hist.come_at {ds : List Deed} (h : Hist ds) {i : Nat} {n : Str} {ts : List Str} (e : ds[i]? = some (.come n ts)) : Nm n ∧ n ∉ cameD (ds.take i) ∧ Asc ts ∧ ∀ t ∈ ts, t ∈ liv (ds.take i) := by
  have h1 := h.take (i + 1)
  rw [take_snoc e] at h1
  generalize e0 : ds.take i = l at h1 ⊢
  generalize e1 : l ++ [Deed.come n ts] = es at h1
  cases h1 with
  | nil => simp at e1
  | come h nm new asc sub =>
    obtain ⟨e2, e3⟩ := List.append_inj' e1 rfl
    cases e3
    subst e2
    exact ⟨nm, new, asc, sub⟩
  | die h lv =>
    obtain ⟨_, e3⟩ := List.append_inj' e1 rfl
    cases e3
theorem Hist.die_at {ds : List Deed} (h : Hist ds) {i : Nat} {n : Str} (e : ds[i]? = some (.die n)) : n ∈ liv (ds.take i) := by
  have h1 := h.take (i + 1)
  rw [take_snoc e] at h1
  generalize e0 : ds.take i = l at h1 ⊢
  generalize e1 : l ++ [Deed.die n] = es at h1
  cases h1 with
  | nil => simp at e1
  | come h nm new asc sub =>
    obtain ⟨_, e3⟩ := List.append_inj' e1 rfl
    cases e3
  | die h lv =>
    obtain ⟨e2, e3⟩ := List.append_inj' e1 rfl
    cases e3
    subst e2
    exact lv
/-- a deed as it lies -/
def DeedAt (H : Hp) (q : Addr) : Deed → Prop
  | .come n ts => ∃ tq, H q = some (.tup [.str sCome, .str n, .ref tq]) ∧ H tq = some (.tup (ts.map V.str))
  | .die n => H q = some (.tup [.str sDie, .str n])
theorem DeedAt.keep {H H' : Hp} {q : Addr} (s : Same H H') : ∀ {d : Deed}, DeedAt H q d → DeedAt H' q d
  | .come _ _, ⟨tq, h1, h2⟩ => ⟨tq, s _ _ h1, s _ _ h2⟩
  | .die _, h => s _ _ h
theorem DeedAt.sx {H H' : Hp} {a q : Addr} {N : Nat} (hP : Pot H a N) (s : SameX a H H') : ∀ {d : Deed}, DeedAt H q d → DeedAt H' q d
  | .come _ _, ⟨tq, h1, h2⟩ => ⟨tq, s _ _ (pot_tup hP h1) h1, s _ _ (pot_tup hP h2) h2⟩
  | .die _, h => s _ _ (pot_tup hP h) h
/-- the list of deeds as it lies -/
def DeedsAt (H : Hp) (l : Addr) (ds : List Deed) : Prop := ∃ qs : List Addr, H l = some (.lst (qs.map V.ref)) ∧ Paired (DeedAt H) qs ds
theorem DeedsAt.keep {H H' : Hp} {l : Addr} {ds : List Deed} (h : DeedsAt H l ds) (s : Same H H') : DeedsAt H' l ds := by
  obtain ⟨qs, h1, h2⟩ := h
  exact ⟨qs, s _ _ h1, paired_mono (fun q d e => e.keep s) h2⟩
theorem DeedsAt.sx {H H' : Hp} {a l : Addr} {N : Nat} {ds : List Deed} (h : DeedsAt H l ds) (hP : Pot H a N) (s : SameX a H H') : DeedsAt H' l ds := by
  obtain ⟨qs, h1, h2⟩ := h
  exact ⟨qs, s _ _ (Ne.symm (pot_ne_refs hP h1)) h1, paired_mono (fun q d e => e.sx hP s) h2⟩
/-- its first word and its name, whatever it is -/
theorem DeedAt.two {K : PySem.W.Frag} {H : Hp} {q : Addr} : ∀ {d : Deed}, DeedAt H q d → ∃ more : List V, H q = some (.tup (.str d.word :: .str d.name :: more))
  | .come _ _, ⟨tq, h1, _⟩ => ⟨[.ref tq], h1⟩
  | .die _, h => ⟨[], h⟩
theorem word_come (d : Deed) : decide (V.str d.word = V.str (Str.ofString "come")) = d.isCome := by
  cases d with
  | come n ts => exact decide_eq_true rfl
  | die n =>
    refine decide_eq_false fun e => ?_
    injection e with e
    exact absurd (show sDie = Str.ofString "come" from e) (by decide +kernel)
end Hw

set_option Elab.async false
set_option linter.all false
set_option maxRecDepth 100000
set_option maxHeartbeats 4000000
namespace Hw
open PySem L2 PyProof.Rows
abbrev sHText : Stmt := topS 50
def deedLine (d : Deed) : Str := Txt.join sBl (d.word :: d.name :: d.ties)
def histText (ds : List Deed) : Str := Txt.join sNl (ds.map deedLine)
def spHText : Sp := fun vs H Q _ => ∃ (l : Addr) (ds : List Deed), vs = [.ref l] ∧ DeedsAt H l ds ∧ Hist ds ∧ ds.length ≤ 100 ∧ ∀ H', Same H H' → Q (.str (histText ds)) H'
theorem deed_sum {ds : List Deed} {d : Deed} (h : Nm d.name ∧ d.ties.length ≤ ds.length ∧ (∀ t ∈ d.ties, Nm t) ∧ Asc d.ties) (hl : ds.length ≤ 100) : ((d.word :: d.name :: d.ties).map (·.length)).sum + (d.word :: d.name :: d.ties).length * sBl.length ≤ 1000 := by
  obtain ⟨h1, h2, h3, _⟩ := h
  have hw : d.word.length ≤ 8 := by
    cases d with
    | come n ts => exact show sCome.length ≤ 8 by decide +kernel
    | die n => exact show sDie.length ≤ 8 by decide +kernel
  have hs := sum_le (ps := d.word :: d.name :: d.ties) (b := 8) fun p hp => by
    rcases List.mem_cons.mp hp with rfl | hp
    · exact hw
    · rcases List.mem_cons.mp hp with rfl | hp
      · exact h1.2.1
      · exact (h3 p hp).2.1
  have e1 : sBl.length = 1 := by decide +kernel
  have el : (d.word :: d.name :: d.ties).length = d.ties.length + 2 := rfl
  rw [el] at hs ⊢
  rw [e1]
  omega
theorem deedLine_len {ds : List Deed} {d : Deed} (h : Nm d.name ∧ d.ties.length ≤ ds.length ∧ (∀ t ∈ d.ties, Nm t) ∧ Asc d.ties) (hl : ds.length ≤ 100) : (deedLine d).length ≤ 1000 := Nat.le_trans (join_len _ _) (deed_sum h hl)
theorem hist_sum {ds : List Deed} (h : Hist ds) (hl : ds.length ≤ 100) : ((ds.map deedLine).map (·.length)).sum + (ds.map deedLine).length * sNl.length ≤ 200000 := by
  have hs := sum_le (ps := ds.map deedLine) (b := 1000) fun p hp => by
    obtain ⟨d, hd, rfl⟩ := List.mem_map.mp hp
    exact deedLine_len (h.each d hd) hl
  have e1 : sNl.length = 1 := by decide +kernel
  rw [List.length_map] at hs ⊢
  rw [e1]
  omega
section
variable {P : Program} {w : World} {K : PySem.W.Frag} {mg : Str → Option Value} {base : Heap}
theorem scHText : FnScope ["deeds", "rows", "deed"] ["deeds"] (defScope sHText) := ⟨rfl, rfl, rfl, by decide +kernel, rfl, by decide +kernel, by decide +kernel⟩
theorem ok_htext {f : Addr} {fd : FuncData} {k : Nat} (F : Fun K "_law_history_text" "_law_history_text" sHText f fd) (B : Blt mg) : FnOk P w K mg base CX0 (k + 1) f fd ["deeds"] spHText := by
  refine F.ok scHText (fun vs H Q E h => ?_) (fun cdv A outer s H vs Q E hr h => ?_)
  · obtain ⟨l, ds, rfl, _⟩ := h
    rfl
  · obtain ⟨l, ds, rfl, ⟨qs, e1, e2⟩, hH, hl, q⟩ := h
    refine ⟨_, pss_cons (ps_set (i := 1) scHText.nd rfl (.inl rfl) (pe_lst pa_nil))
      (pss_cons (ps_for PassesOwn.never rfl (pi_list (pv 0)) (pg_name (i := 2) scHText.nd rfl (.inl rfl))
        (pss_one (ps_expr (pe_bm PySem.F.plainAttrs_list PySem.F.slot_list_append PySem.F.type_list_append mt_append (pv 1) (pa_cons (pe_join pe_str (pe_op op_cat (pe_lst (pa_cons (pe_ix ix_tup (pv 2) pe_int (fun _ _ => rfl)) (pa_cons (pe_ix ix_tup (pv 2) pe_int (fun _ _ => rfl)) pa_nil)))
          (pe_ifExp (pt_cmpR op_eq (pe_ix ix_tup (pv 2) pe_int (fun _ _ => rfl)) pe_str (nomark _)) (pe_callTy call_list_of (by rfl) B.list PyProof.Rows.boot_list (pa_cons (pe_ix ix_tup (pv 2) pe_int (fun _ _ => rfl)) pa_nil)) (pe_lst pa_nil)))) pa_nil)))))
      (pss_one (ps_ret (pe_join pe_str (pv 1))))), ?_⟩
    refine rs_set ?_
    refine ⟨Nat.zero_le _, fun r nr => ?_⟩
    refine rs_list l (qs.map V.ref) (fun Q1 q1 => ⟨_, rfl, q1⟩) (fun i σ' H' => ∃ o2, σ' = [some (.ref l), some (.ref r), o2] ∧ Same H H' ∧ H' r = some (.lst (((ds.take i).map deedLine).map V.str)))
      ⟨_, rfl, same_upd nr, upd_same⟩ (fun i σ' H' _ ⟨_, _, sx, _⟩ => sql_of (sx _ _ e1)) ?_ ?_
    · rintro i x σ' H' hx ⟨o2, rfl, sx, eR⟩
      obtain ⟨qd, hq, rfl⟩ := map_get hx
      obtain ⟨d, hd, ed⟩ := paired_get e2 hq
      have ed := ed.keep sx
      have he := hH.each d (List.mem_of_getElem? hd)
      have hi : i < ds.length := (List.getElem?_eq_some_iff.mp hd).1
      obtain ⟨more, em⟩ := ed.two (K := K)
      refine r_gname ?_
      refine ⟨.ref r, rfl, .inl ⟨rfl, _, sql_of eR⟩, ?_⟩
      refine ⟨⟨_, rfl⟩, .ref qd, rfl, qd, _, 0, .str d.word, rfl, rfl, sqt_of em, atI_nat (j := 0) rfl, .ref qd, rfl, qd, _, 1, .str d.name, rfl, rfl, sqt_of em, atI_nat (j := 1) rfl, by show 2 ≤ sizeLine; decide, fun l1 n1 => ?_⟩
      have s1 := same_upd (o := .lst [.str d.word, .str d.name]) n1
      refine ⟨.ref qd, rfl, qd, _, 0, .str d.word, rfl, rfl, sqt_of (s1 _ _ em), atI_nat (j := 0) rfl, rfl, _, congrArg V.bl (word_come d), ?_⟩
      -- the third part
      have fin : ∀ (l2 : Addr) (H2 : Hp), Same H' H2 → H2 l1 = some (.lst [.str d.word, .str d.name]) → H2 l2 = some (.lst (d.ties.map V.str)) → rCat (.ref l1) (.ref l2) H2 fun x H3 => rJn K (.str (Str.ofString " ")) [x] H3 fun y H4 => rAppend (.ref r) [y] H4 fun _ H5 => ∃ o2, ([some (.ref l), some (.ref r), some (.ref qd)] : L2.St) = [some (.ref l), some (.ref r), o2] ∧ Same H H5 ∧ H5 r = some (.lst (((ds.take (i + 1)).map deedLine).map V.str)) := by
        intro l2 H2 s2 f1 f2
        refine ⟨l1, l2, _, _, rfl, rfl, f1, f2, Nat.le_of_lt (smallM (by rw [List.length_map]; show 2 + _ ≤ _; have := he.2.1; omega)), fun l3 n3 => ?_⟩
        refine ⟨Str.ofString " ", l3, d.word :: d.name :: d.ties, rfl, rfl, .inl (sql_of upd_same), Nat.le_trans (deed_sum he hl) (by decide), ?_⟩
        have s3 := s2.trans (same_upd (o := .lst ([.str d.word, .str d.name] ++ d.ties.map V.str)) n3)
        refine ⟨r, _, _, rfl, rfl, s3 _ _ eR, smallM (by rw [List.length_map, List.length_map, List.length_take]; omega), _, rfl, fun b o e => ?_, ?_⟩
        · rw [upd_ne (ne_of_none e nr)]; exact s3 _ _ (sx _ _ e)
        · rw [upd_same, take_snoc hd, List.map_append, List.map_append]; rfl
      cases d with
      | come n ts =>
        obtain ⟨tq, g1, g2⟩ := ed
        show if true = true then _ else _
        rw [if_pos rfl]
        refine ⟨.ref qd, rfl, qd, _, 2, .ref tq, rfl, rfl, sqt_of (s1 _ _ g1), rfl, tq, _, rfl, .inr (sqt_of (s1 _ _ g2)), fun l2 n2 => ?_⟩
        exact fin l2 _ (s1.trans (same_upd n2)) ((same_upd n2) _ _ upd_same) upd_same
      | die n =>
        show if false = true then _ else _
        rw [if_neg Bool.false_ne_true]
        refine ⟨Nat.zero_le _, fun l2 n2 => ?_⟩
        exact fin l2 _ (s1.trans (same_upd n2)) ((same_upd n2) _ _ upd_same) upd_same
    · rintro σ' H' ⟨o2, rfl, sx, eR⟩
      rw [List.length_map, Paired.length e2, List.take_length] at eR
      exact ⟨⟨_, rfl⟩, .ref r, rfl, Str.ofString "\n", r, ds.map deedLine, rfl, rfl, .inl (sql_of eR), Nat.le_trans (hist_sum hH hl) (by decide), q H' sx⟩
end
end Hw

set_option Elab.async false
set_option linter.all false
set_option maxRecDepth 100000
set_option maxHeartbeats 4000000
namespace Hw
open PySem L2 PyProof.Rows
abbrev sLiving : Stmt := topS 51
/-- a dict of names, True at each -/
def encL (ns : List Str) : List (Key × V) := ns.map fun n => ((Sum.inr n : Key), V.bl true)
theorem encL_val (ns : List Str) (z : Str) : valV (encL ns) (Sum.inr z) = if z ∈ ns then some (V.bl true) else none := valV_names (g := fun _ => V.bl true) z
theorem encL_new {ns : List Str} {z : Str} (h : z ∉ ns) : putK (encL ns) (Sum.inr z) (V.bl true) = encL (ns ++ [z]) := by
  rw [putK_new _ (by rw [encL_val, if_neg h])]
  unfold encL
  rw [List.map_append]; rfl
theorem encL_drop (ns : List Str) (z : Str) : dropK (encL ns) (Sum.inr z : Key) = encL (ns.filter fun y => decide (y ≠ z)) := by
  unfold dropK encL
  rw [List.filter_map]
  congr 1
  refine List.filter_congr fun y _ => ?_
  show decide ((Sum.inr y : Key) ≠ Sum.inr z) = decide (y ≠ z)
  rw [decide_eq_decide]
  exact ⟨fun h e => h (by rw [e]), fun h e => h (Sum.inr.inj e)⟩
theorem encL_keys (ns : List Str) : (encL ns).map (fun kv => kV kv.1) = ns.map V.str := by
  unfold encL
  rw [List.map_map]; rfl
theorem encL_len (ns : List Str) : (encL ns).length = ns.length := by
  unfold encL
  rw [List.length_map]
def spLiving : Sp := fun vs H Q _ => ∃ (l : Addr) (ds : List Deed), vs = [.ref l] ∧ DeedsAt H l ds ∧ Hist ds ∧ ds.length ≤ 100 ∧ ∀ p H', Same H H' → H p = none → H' p = some (.lst ((sortS (liv ds)).map V.str)) → Q (.ref p) H'
theorem Hist.liv_take {ds : List Deed} (h : Hist ds) (i : Nat) : (liv (ds.take i)).length ≤ ds.length := Nat.le_trans (h.take i).liv_len (by rw [List.length_take]; omega)
section
variable {P : Program} {w : World} {K : PySem.W.Frag} {mg : Str → Option Value} {base : Heap}
theorem scLiving : FnScope ["deeds", "found", "deed"] ["deeds"] (defScope sLiving) := ⟨rfl, rfl, rfl, by decide +kernel, rfl, by decide +kernel, by decide +kernel⟩
theorem ok_living {f : Addr} {fd : FuncData} {k : Nat} (F : Fun K "_law_living" "_law_living" sLiving f fd) (B : Blt mg) (bs : mg "sorted" = none) : FnOk P w K mg base CX0 (k + 1) f fd ["deeds"] spLiving := by
  refine F.ok scLiving (fun vs H Q E h => ?_) (fun cdv A outer s H vs Q E hr h => ?_)
  · obtain ⟨l, ds, rfl, _⟩ := h
    rfl
  · obtain ⟨l, ds, rfl, ⟨qs, e1, e2⟩, hH, hl, q⟩ := h
    have hu := hu_of hr
    have hu64 := hr.units
    refine ⟨_, pss_cons (ps_set (i := 1) scLiving.nd rfl (.inl rfl) pe_dnewK)
      (pss_cons (ps_for PassesOwn.never rfl (pi_list (pv 0)) (pg_name (i := 2) scLiving.nd rfl (.inl rfl))
        (pss_one (ps_if (pt_cmpR op_eq (pe_ix ix_tup (pv 2) pe_int (fun _ _ => rfl)) pe_str (nomark _))
          (pss_one (ps_dput hu (pv 1) (pe_ix ix_tup (pv 2) pe_int (fun _ _ => rfl)) pe_bl rfl))
          (pss_one (ps_expr (pe_dpop1 (pv 1) (pe_ix ix_tup (pv 2) pe_int (fun _ _ => rfl)) ⟨rfl, by rfl, by rfl, by rfl⟩))))))
      (pss_one (ps_ret (pe_callB (cr_sortT hu64) (by rfl) bs (by decide +kernel) (pa_cons (pe_callTy (call_list_dK rfl) (by rfl) B.list PyProof.Rows.boot_list (pa_cons (pv 1) pa_nil)) pa_nil))))), ?_⟩
    refine rs_set ?_
    intro fo nfo
    refine rs_list l (qs.map V.ref) (fun Q1 q1 => ⟨_, rfl, q1⟩) (fun i σ' H' => ∃ o2, σ' = [some (.ref l), some (.ref fo), o2] ∧ Same H H' ∧ H' fo = some (.dK (encL (liv (ds.take i)))))
      ⟨_, rfl, same_upd nfo, upd_same⟩ (fun i σ' H' _ ⟨_, _, sx, _⟩ => sql_of (sx _ _ e1)) ?_ ?_
    · rintro i x σ' H' hx ⟨o2, rfl, sx, eF⟩
      obtain ⟨qd, hq, rfl⟩ := map_get hx
      obtain ⟨d, hd, ed⟩ := paired_get e2 hq
      have ed := ed.keep sx
      have hll := hH.liv_take i
      obtain ⟨more, em⟩ := ed.two (K := K)
      refine r_gname ?_
      refine ⟨.ref qd, rfl, qd, _, 0, .str d.word, rfl, rfl, sqt_of em, atI_nat (j := 0) rfl, rfl, _, congrArg V.bl (word_come d), ?_⟩
      have sput : ∀ o : HO, Same H (upd H' fo o) := fun o b u e => by
        rw [upd_ne (ne_of_none e nfo)]; exact sx _ _ e
      have et : liv (ds.take (i + 1)) = livStep (liv (ds.take i)) d := by rw [take_snoc hd, liv_snoc]
      cases d with
      | come n ts =>
        obtain ⟨hn, hnew, _, _⟩ := hH.come_at hd
        show if true = true then _ else _
        rw [if_pos rfl]
        refine ⟨.ref fo, rfl, .ref qd, rfl, qd, _, 1, .str n, rfl, rfl, sqt_of em, atI_nat (j := 1) rfl, fo, _, rfl, DPut.k (k := Sum.inr n) eF (smallM (by rw [encL_len]; omega)), _, rfl, sput _, ?_⟩
        rw [upd_same, encL_new (fun m => hnew ((hH.take i).liv_came n m)), et]; rfl
      | die n =>
        have hlv := hH.die_at hd
        show if false = true then _ else _
        rw [if_neg Bool.false_ne_true]
        refine ⟨.ref fo, rfl, fo, rfl, .inl ⟨_, .inl eF⟩, .ref qd, rfl, qd, _, 1, .str n, rfl, rfl, sqt_of em, atI_nat (j := 1) rfl, _, Sum.inr n, .bl true, eF, rfl, by rw [encL_val, if_pos hlv], _, rfl, sput _, ?_⟩
        rw [upd_same, encL_drop, et]; rfl
    · rintro σ' H' ⟨o2, rfl, sx, eF⟩
      rw [List.length_map, Paired.length e2, List.take_length] at eF
      have hll := hH.liv_len
      refine ⟨.ref fo, rfl, fo, _, rfl, eF, fun p1 n1 => ?_⟩
      rw [encL_keys]
      refine ⟨p1, liv ds, rfl, sql_of upd_same, Nat.le_of_lt (smallM (by omega)), fun p2 n2 => ?_⟩
      have s2 := (sx.trans (same_upd (o := .lst ((liv ds).map V.str)) n1)).trans (same_upd (o := .lst ((sortS (liv ds)).map V.str)) n2)
      exact q p2 _ s2 ((sx.trans (same_upd n1)).free n2) upd_same
end
end Hw

set_option Elab.async false
set_option linter.all false
set_option maxRecDepth 100000
set_option maxHeartbeats 4000000
namespace Hw
open PySem L2 PyProof.Rows
abbrev sElder : Stmt := topS 52
abbrev sCounts : Stmt := topS 53
/-! counts of elder ties -/
def cntStep (c : Str → Nat) : Deed → Str → Nat
  | .come n ts => fun z => (if z = n then ts.length else c z) + if z ∈ ts then 1 else 0
  | .die _ => c
def cntD (ds : List Deed) : Str → Nat := ds.foldl cntStep fun _ => 0
theorem cnt_snoc (ds : List Deed) (d : Deed) : cntD (ds ++ [d]) = cntStep (cntD ds) d := by
  unfold cntD
  rw [List.foldl_append]; rfl
def encF' (ns : List Str) (g : Str → V) : List (Key × V) := ns.map fun n => ((Sum.inr n : Key), g n)
theorem encF_val (ns : List Str) (g : Str → V) (z : Str) : valV (encF' ns g) (Sum.inr z) = if z ∈ ns then some (g z) else none := valV_names (g := g) z
theorem encF_new {ns : List Str} {g : Str → V} {z : Str} {v : V} (h : z ∉ ns) : putK (encF' ns g) (Sum.inr z) v = encF' (ns ++ [z]) fun y => if y = z then v else g y := by
  rw [putK_new _ (by rw [encF_val, if_neg h])]
  unfold encF'
  rw [List.map_append]
  congr 1
  · exact List.map_congr_left fun n hn => by
      show _ = ((Sum.inr n : Key), if n = z then v else g n)
      rw [if_neg (fun e => h (by rw [← e]; exact hn))]
  · simp
theorem encF_old {ns : List Str} {g : Str → V} {z : Str} {v : V} (h : z ∈ ns) : putK (encF' ns g) (Sum.inr z) v = encF' ns fun y => if y = z then v else g y := by
  unfold putK
  rw [valV_any, encF_val, if_pos h]
  show (if true = true then _ else _) = _
  rw [if_pos rfl]
  unfold encF'
  rw [List.map_map]
  refine List.map_congr_left fun n _ => ?_
  show (if (Sum.inr n : Key) = Sum.inr z then ((Sum.inr n : Key), v) else _) = ((Sum.inr n : Key), if n = z then v else g n)
  by_cases e : n = z
  · rw [if_pos (by rw [e]), if_pos e]
  · rw [if_neg (fun q => e (Sum.inr.inj q)), if_neg e]
theorem encF_congr {ns : List Str} {f g : Str → V} (h : ∀ n ∈ ns, f n = g n) : encF' ns f = encF' ns g := List.map_congr_left fun n hn => by rw [h n hn]
theorem encF_len (ns : List Str) (g : Str → V) : (encF' ns g).length = ns.length := List.length_map _
abbrev natV (c : Str → Nat) : Str → V := fun z => V.int (c z : Nat)
theorem Hist.came_take {ds : List Deed} (h : Hist ds) (i : Nat) : (cameD (ds.take i)).length ≤ ds.length := Nat.le_trans (came_len _) (by rw [List.length_take]; omega)
def spCounts : Sp := fun vs H Q _ => ∃ (l : Addr) (ds : List Deed), vs = [.ref l] ∧ DeedsAt H l ds ∧ Hist ds ∧ ds.length ≤ 100 ∧ ∀ d H', Same H H' → H d = none → H' d = some (.dK (encF' (cameD ds) (natV (cntD ds)))) → Q (.ref d) H'
def spDead : Sp := fun vs H Q _ => ∃ (l : Addr) (ds : List Deed), vs = [.ref l] ∧ DeedsAt H l ds ∧ Hist ds ∧ ds.length ≤ 100 ∧ ∀ p H', Same H H' → H p = none → H' p = some (.lst ((sortS (deadD ds)).map V.str)) → Q (.ref p) H'
def elderT (ds : List Deed) : List Tie := ds.flatMap fun d => d.ties.map fun t => tieOf d.name t
theorem elder_snoc (ds : List Deed) (d : Deed) : elderT (ds ++ [d]) = elderT ds ++ d.ties.map fun t => tieOf d.name t := by
  unfold elderT
  rw [List.flatMap_append]; simp
theorem elder_len {ds : List Deed} (h : Hist ds) (hl : ds.length ≤ 100) : ∀ i, (elderT (ds.take i)).length ≤ 100 * i
  | 0 => Nat.zero_le _
  | i + 1 => by
    have ih := elder_len h hl i
    cases e : ds[i]? with
    | none =>
      rw [List.take_of_length_le (Nat.le_succ_of_le (List.getElem?_eq_none_iff.mp e)), ← List.take_of_length_le (i := i) (List.getElem?_eq_none_iff.mp e)]
      omega
    | some d =>
      rw [take_snoc e, elder_snoc, List.length_append, List.length_map]
      have := (h.each d (List.mem_of_getElem? e)).2.1
      omega
theorem dead_len {ds : List Deed} : (deadD ds).length ≤ ds.length := by
  unfold deadD
  induction ds with
  | nil => exact Nat.le_refl _
  | cons d ds ih =>
    rw [List.flatMap_cons, List.length_append, List.length_cons]
    have : (if d.isCome = true then [] else [d.name]).length ≤ 1 := by split <;> simp
    omega
def spElder : Sp := fun vs H Q _ => ∃ (l : Addr) (ds : List Deed), vs = [.ref l] ∧ DeedsAt H l ds ∧ Hist ds ∧ ds.length ≤ 100 ∧ ∀ p H', Same H H' → H p = none → WebAt H' p (sortS (cameD ds)) (sortP (elderT ds)) → Q (.ref p) H'
section
variable {P : Program} {w : World} {K : PySem.W.Frag} {mg : Str → Option Value} {base : Heap}
theorem scCounts : FnScope ["deeds", "found", "deed", "other"] ["deeds"] (defScope sCounts) := ⟨rfl, rfl, rfl, by decide +kernel, rfl, by decide +kernel, by decide +kernel⟩
theorem ok_counts {f : Addr} {fd : FuncData} {k : Nat} (F : Fun K "_law_counts" "_law_counts" sCounts f fd) (B : Blt mg) : FnOk P w K mg base CX0 (k + 1) f fd ["deeds"] spCounts := by
  refine F.ok scCounts (fun vs H Q E h => ?_) (fun cdv A outer s H vs Q E hr h => ?_)
  · obtain ⟨l, ds, rfl, _⟩ := h
    rfl
  · obtain ⟨l, ds, rfl, ⟨qs, e1, e2⟩, hH, hl, q⟩ := h
    have hu := hu_of hr
    refine ⟨_, pss_cons (ps_set (i := 1) scCounts.nd rfl (.inl rfl) pe_dnewK)
      (pss_cons (ps_for PassesOwn.never rfl (pi_list (pv 0)) (pg_name (i := 2) scCounts.nd rfl (.inl rfl))
        (pss_one (ps_if (pt_cmpR op_eq (pe_ix ix_tup (pv 2) pe_int (fun _ _ => rfl)) pe_str (nomark _))
          (pss_cons (ps_dput hu (pv 1) (pe_ix ix_tup (pv 2) pe_int (fun _ _ => rfl)) (pe_callB call_len_seq (by rfl) B.len PySem.boot_len (pa_cons (pe_ix ix_tup (pv 2) pe_int (fun _ _ => rfl)) pa_nil)) rfl)
          (pss_one (ps_for PassesOwn.never rfl (pi_tup (pe_ix ix_tup (pv 2) pe_int (fun _ _ => rfl))) (pg_name (i := 3) scCounts.nd rfl (.inl rfl))
            (pss_one (ps_dput hu (pv 1) (pv 3) (pe_op op_add (pe_dget hu (pv 1) (pv 3) (fun _ _ => rfl)) pe_int) rfl))))) pss_nil)))
      (pss_one (ps_ret (pv 1)))), ?_⟩
    refine rs_set ?_
    intro fo nfo
    refine rs_list l (qs.map V.ref) (fun Q1 q1 => ⟨_, rfl, q1⟩) (fun i σ' H' => ∃ o2 o3, σ' = [some (.ref l), some (.ref fo), o2, o3] ∧ Same H H' ∧ H' fo = some (.dK (encF' (cameD (ds.take i)) (natV (cntD (ds.take i))))))
      ⟨_, _, rfl, same_upd nfo, upd_same⟩ (fun i σ' H' _ ⟨_, _, _, sx, _⟩ => sql_of (sx _ _ e1)) ?_ ?_
    · rintro i x σ' H' hx ⟨o2, o3, rfl, sx, eF⟩
      obtain ⟨qd, hq, rfl⟩ := map_get hx
      obtain ⟨d, hd, ed⟩ := paired_get e2 hq
      have hcl := hH.came_take i
      obtain ⟨more, em⟩ := (ed.keep sx).two (K := K)
      refine r_gname ?_
      refine ⟨.ref qd, rfl, qd, _, 0, .str d.word, rfl, rfl, sqt_of em, atI_nat (j := 0) rfl, rfl, _, congrArg V.bl (word_come d), ?_⟩
      have ec : cameD (ds.take (i + 1)) = cameD (ds.take i) ++ if d.isCome = true then [d.name] else [] := by rw [take_snoc hd, came_snoc]
      have eg : cntD (ds.take (i + 1)) = cntStep (cntD (ds.take i)) d := by rw [take_snoc hd, cnt_snoc]
      cases d with
      | come n ts =>
        obtain ⟨hn, hnew, hasc, hsub⟩ := hH.come_at hd
        obtain ⟨tq, g1, g2⟩ := ed
        have ec : cameD (ds.take (i + 1)) = cameD (ds.take i) ++ [n] := ec
        show if true = true then _ else _
        rw [if_pos rfl]
        refine ⟨.ref qd, rfl, qd, _, 2, .ref tq, rfl, rfl, sqt_of (sx _ _ g1), rfl, tq, _, rfl, .inr (sqt_of (sx _ _ g2)), .ref fo, rfl, .ref qd, rfl, qd, _, 1, .str n, rfl, rfl, sqt_of (sx _ _ g1), rfl, fo, _, rfl, DPut.k (k := Sum.inr n) eF (smallM (by rw [encF_len]; omega)), ?_⟩
        rw [encF_new hnew, ← ec, List.length_map]
        have sput : Same H (upd H' fo (.dK (encF' (cameD (ds.take (i + 1))) fun y => if y = n then V.int ↑ts.length else natV (cntD (ds.take i)) y))) := fun b u e => by
          rw [upd_ne (ne_of_none e nfo)]; exact sx _ _ e
        refine ⟨.ref qd, rfl, qd, _, 2, .ref tq, rfl, rfl, sqt_of (sput _ _ g1), rfl, tq, rfl, ⟨_, sqt_of (sput _ _ g2)⟩, for_tup (xs := ts.map V.str) (fun j σ' H' => ∃ o3, σ' = [some (.ref l), some (.ref fo), some (.ref qd), o3] ∧ Same H H' ∧ H' fo = some (.dK (encF' (cameD (ds.take (i + 1))) (natV fun z => (if z = n then ts.length else cntD (ds.take i) z) + if z ∈ ts.take j then 1 else 0))))
          ⟨_, rfl, sput, ?_⟩ (fun j σ' H' _ ⟨_, _, sx, _⟩ => sqt_of (sx _ _ g2)) ?_ ?_⟩
        · rw [upd_same]
          refine congrArg (fun z => some (HO.dK z)) (encF_congr fun y _ => ?_)
          by_cases hy : y = n
          · simp [hy]
          · simp [hy]
        · rintro j v σ2 H2 hv ⟨o3', rfl, sx2, eF2⟩
          obtain ⟨t, ht, rfl⟩ := map_get hv
          have htm := List.mem_of_getElem? ht
          have hmem : t ∈ cameD (ds.take (i + 1)) := by rw [ec]; exact List.mem_append_left _ ((hH.take i).liv_came t (hsub t htm))
          have hcl2 := hH.came_take (i + 1)
          refine r_gname ?_
          have hnd := hasc.nodup
          have g0 : DGet H2 fo (.str t) (some (natV (fun z => (if z = n then ts.length else cntD (ds.take i) z) + if z ∈ ts.take j then 1 else 0) t)) := by
            have := DGet.k (k := Sum.inr t) eF2
            rw [encF_val, if_pos hmem] at this
            exact this
          refine ⟨.ref fo, rfl, .str t, rfl, fo, _, rfl, g0, _, _, rfl, rfl, .ref fo, rfl, .str t, rfl, fo, _, rfl, DPut.k (k := Sum.inr t) eF2 (smallM (by rw [encF_len]; omega)), _, rfl, fun b u e => ?_, ?_⟩
          · rw [upd_ne (ne_of_none e nfo)]; exact sx2 _ _ e
          · rw [upd_same, encF_old hmem]
            refine congrArg (fun z => some (HO.dK z)) (encF_congr fun y _ => ?_)
            have htk : ts.take (j + 1) = ts.take j ++ [t] := take_snoc ht
            have hnt : t ∉ ts.take j := nodup_take hnd ht
            by_cases hy : y = t
            · subst hy
              simp [htk, hnt]
            · have : (y ∈ ts.take (j + 1)) ↔ (y ∈ ts.take j) := by rw [htk, List.mem_append, List.mem_singleton]; simp [hy]
              simp [hy, this]
        · rintro σ2 H2 ⟨o3', rfl, sx2, eF2⟩
          rw [List.length_map, List.take_length] at eF2
          refine ⟨_, _, rfl, sx2, ?_⟩
          rw [eF2, eg]; rfl
      | die n =>
        show if false = true then _ else _
        rw [if_neg Bool.false_ne_true]
        refine ⟨_, _, rfl, sx, ?_⟩
        rw [eF, ec, eg]
        show _ = some (HO.dK (encF' (_ ++ []) _))
        rw [List.append_nil]; rfl
    · rintro σ' H' ⟨o2, o3, rfl, sx, eF⟩
      rw [List.length_map, Paired.length e2, List.take_length] at eF
      exact ⟨.ref fo, rfl, q fo H' sx nfo eF⟩
end
end Hw

set_option Elab.async false
set_option linter.all false
set_option maxRecDepth 100000
set_option maxHeartbeats 4000000
namespace Hw
open PySem L2 PyProof.Rows
section
variable {P : Program} {w : World} {K : PySem.W.Frag} {mg : Str → Option Value} {base : Heap}
theorem word_die (d : Deed) : decide (V.str d.word = V.str (Str.ofString "die")) = !d.isCome := by
  cases d with
  | come n ts =>
    refine decide_eq_false fun e => ?_
    injection e with e
    exact absurd (show sCome = Str.ofString "die" from e) (by decide +kernel)
  | die n => exact decide_eq_true rfl
theorem scElder : FnScope ["deeds", "places", "ties", "deed", "other"] ["deeds"] (defScope sElder) := ⟨rfl, rfl, rfl, by decide +kernel, rfl, by decide +kernel, by decide +kernel⟩
theorem ok_elder {f fE : Addr} {fd fdE : FuncData} {k : Nat} (F : Fun K "_law_elder" "_law_elder" sElder f fd) (B : Blt mg) (bs : mg "sorted" = none)
    (GE : FnOk P w K mg base CX0 k fE fdE ["one", "other"] spTie) (gE : mg "_law_tie" = some (.ref fE)) (kE : PySem.W.keepIn K (.ref fE) = true) (bE : Binds K fdE ["one", "other"] []) : FnOk P w K mg base CX0 (k + 1) f fd ["deeds"] spElder := by
  refine F.ok scElder (fun vs H Q E h => ?_) (fun cdv A outer s H vs Q E hr h => ?_)
  · obtain ⟨l, ds, rfl, _⟩ := h
    rfl
  · obtain ⟨l, ds, rfl, ⟨qs, e1, e2⟩, hH, hl, q⟩ := h
    have hu := hu_of hr
    have hu64 := hr.units
    refine ⟨_, pss_cons (ps_par (i := 1) (j := 2) rfl scElder.nd rfl rfl (by decide) rfl rfl (pa_cons (pe_lst pa_nil) (pa_cons (pe_lst pa_nil) pa_nil)) rfl)
      (pss_cons (ps_for PassesOwn.never rfl (pi_list (pv 0)) (pg_name (i := 3) scElder.nd rfl (.inr rfl))
        (pss_one (ps_if (pt_cmpR op_eq (pe_ix ix_tup (pv 3) pe_int (fun _ _ => rfl)) pe_str (nomark _))
          (pss_cons (ps_expr (pe_bm PySem.F.plainAttrs_list PySem.F.slot_list_append PySem.F.type_list_append mt_append (pv 1) (pa_cons (pe_ix ix_tup (pv 3) pe_int (fun _ _ => rfl)) pa_nil)))
          (pss_one (ps_expr (pe_bm PySem.F.plainAttrs_list PySem.F.slot_list_extend PySem.F.type_list_extend mt_extend (pv 2) (pa_cons
            (pe_lc (own := [("other", 4)]) (g := gName 4) (tt := tYes) (te := tCall spTie [] E0 (tCons (tOp (rIxT K) (tVar 3) (tC (.int 1))) (tCons (tVar 4) tNil))) rfl scElder.nd (pi_tup (pe_ix ix_tup (pv 3) pe_int (fun _ _ => rfl)))
              (blkOk_by (N := ["deeds", "places", "ties", "deed", "other"]) (sc := defScope sElder) (by decide +kernel)) (fun _ _ _ _ _ => pg_name (i := 4) scElder.nd rfl (Or.inl rfl)) (fun _ _ _ _ _ => pts_nil)
              (fun _ _ _ _ _ => pe_call GE hr (by rfl) gE kE bE .nil pass0 (pa_cons (pe_ix ix_tup (pv 3) pe_int (fun _ _ => rfl)) (pa_cons (pv 4) pa_nil)))) pa_nil))))) pss_nil)))
      (pss_one (ps_ret (pe_tup (pa_cons (pe_callB (cr_sortT hu64) (by rfl) bs (by decide +kernel) (pa_cons (pv 1) pa_nil)) (pa_cons (pe_callB (cr_sortTP hu64) (by rfl) bs (by decide +kernel) (pa_cons (pv 2) pa_nil)) pa_nil)))))), ?_⟩
    refine rs_par ?_
    refine ⟨Nat.zero_le _, fun pl npl => ⟨Nat.zero_le _, fun tl ntl => ⟨_, _, rfl, ?_⟩⟩⟩
    have npt : pl ≠ tl := ne_of_none upd_same ntl
    have ntl0 : H tl = none := (same_upd npl).free ntl
    have s0 := (same_upd (o := .lst []) npl).trans (same_upd (o := .lst []) ntl)
    have e0p : (upd (upd H pl (.lst [])) tl (.lst [])) pl = some (.lst []) := (same_upd ntl) _ _ upd_same
    have e0t : (upd (upd H pl (.lst [])) tl (.lst [])) tl = some (.lst []) := upd_same
    generalize (upd (upd H pl (.lst [])) tl (.lst [])) = H0 at s0 e0p e0t ⊢
    refine rs_list l (qs.map V.ref) (fun Q1 q1 => ⟨_, rfl, q1⟩) (fun i σ' H' => ∃ o3 ts, σ' = [some (.ref l), some (.ref pl), some (.ref tl), o3, none] ∧ Same H H' ∧ H' pl = some (.lst ((cameD (ds.take i)).map V.str)) ∧ H' tl = some (.lst (ts.map V.ref)) ∧ Paired (TieL H') ts (elderT (ds.take i)))
      ⟨_, [], rfl, s0, e0p, e0t, .nil⟩ (fun i σ' H' _ ⟨_, _, _, sx, _⟩ => sql_of (sx _ _ e1)) ?_ ?_
    · rintro i x σ' H' hx ⟨o3, ts0, rfl, sx, ep, et, ht⟩
      obtain ⟨qd, hq, rfl⟩ := map_get hx
      obtain ⟨d, hd, ed⟩ := paired_get e2 hq
      have hi := (List.getElem?_eq_some_iff.mp hd).1
      have hcl := hH.came_take i
      have hel := elder_len hH hl i
      obtain ⟨more, em⟩ := (ed.keep sx).two (K := K)
      refine r_gname ?_
      refine ⟨.ref qd, rfl, qd, _, 0, .str d.word, rfl, rfl, sqt_of em, atI_nat (j := 0) rfl, rfl, _, congrArg V.bl (word_come d), ?_⟩
      have ec : cameD (ds.take (i + 1)) = cameD (ds.take i) ++ if d.isCome = true then [d.name] else [] := by rw [take_snoc hd, came_snoc]
      have ee : elderT (ds.take (i + 1)) = elderT (ds.take i) ++ d.ties.map fun t => tieOf d.name t := by rw [take_snoc hd, elder_snoc]
      have hev := hH.each d (List.mem_of_getElem? hd)
      cases d with
      | come n ts =>
        obtain ⟨tq, g1, g2⟩ := ed
        have ec : cameD (ds.take (i + 1)) = cameD (ds.take i) ++ [n] := ec
        have ee : elderT (ds.take (i + 1)) = elderT (ds.take i) ++ ts.map fun t => tieOf n t := ee
        have hts : ts.length ≤ ds.length := hev.2.1
        show if true = true then _ else _
        rw [if_pos rfl]
        refine rs_bm ?_
        refine ⟨.ref pl, rfl, .inl ⟨rfl, _, sql_of ep⟩, .ref qd, rfl, qd, _, 1, .str n, rfl, rfl, sqt_of (sx _ _ g1), rfl, pl, _, _, rfl, rfl, ep, smallM (by rw [List.length_map]; omega), ?_⟩
        have ep1 : (upd H' pl (.lst ((cameD (ds.take i)).map V.str ++ [.str n]))) pl = some (.lst ((cameD (ds.take (i + 1))).map V.str)) := by rw [upd_same, ec, List.map_append]; rfl
        have k1 : ∀ {b : Addr} {o : HO}, b ≠ pl → H' b = some o → (upd H' pl (.lst ((cameD (ds.take i)).map V.str ++ [.str n]))) b = some o := fun {b o} hb e => by rw [upd_ne hb]; exact e
        have sx1 : Same H (upd H' pl (.lst ((cameD (ds.take i)).map V.str ++ [.str n]))) := fun b o e => k1 (ne_of_none e npl) (sx _ _ e)
        have et1 := k1 (Ne.symm npt) et
        have ht1 : Paired (TieL (upd H' pl (.lst ((cameD (ds.take i)).map V.str ++ [.str n])))) ts0 (elderT (ds.take i)) := paired_mono (fun q t e => k1 (fun z => by
          have e : H' q = _ := e
          rw [z, ep] at e
          cases e) e) ht
        generalize (upd H' pl (.lst ((cameD (ds.take i)).map V.str ++ [.str n]))) = H1 at ep1 sx1 et1 ht1 ⊢
        clear em ep et ht k1
        refine ⟨.ref tl, rfl, .inl ⟨rfl, _, sql_of et1⟩, .ref qd, rfl, qd, _, 2, .ref tq, rfl, rfl, sqt_of (sx1 _ _ g1), rfl, tq, rfl, ⟨_, sqt_of (sx1 _ _ g2)⟩, fun D nD => lc_tup (xs := ts.map V.str) (fun j H' => ∃ us, Same H1 H' ∧ H' D = some (.lst (us.map V.ref)) ∧ Paired (TieL H') us ((ts.take j).map fun t => tieOf n t)) ⟨[], same_upd nD, upd_same, .nil⟩ (fun j H' _ ⟨_, s, _⟩ => sqt_of (s _ _ (sx1 _ _ g2))) ?_ ?_⟩
        · rintro j v H2 hv ⟨us, s2, eD, hu2⟩
          obtain ⟨t, htj, rfl⟩ := map_get hv
          have hul : us.length ≤ 100 := by
            rw [Paired.length hu2, List.length_map, List.length_take]
            omega
          refine ⟨rfl, r_yes ?_⟩
          refine ⟨.ref qd, rfl, qd, _, 1, .str n, rfl, rfl, sqt_of (s2 _ _ (sx1 _ _ g1)), rfl, .str t, rfl, n, t, rfl, fun p np => ?_⟩
          have s3 := same_upd (o := .tup [.str (tieOf n t).1, .str (tieOf n t).2]) np
          have npD : p ≠ D := fun z => by rw [z, eD] at np; cases np
          refine ⟨_, s3 _ _ eD, smallM (by rw [List.length_map]; omega), us ++ [p], fun b o e => ?_, by rw [upd_same, List.map_append]; rfl, ?_⟩
          · rw [upd_ne (ne_of_none e nD)]; exact s3 _ _ (s2 _ _ e)
          · rw [take_snoc htj, List.map_append]
            refine paired_snoc ?_ (paired_mono (fun q t e => ?_) hu2)
            · show (upd _ D _) p = _
              rw [upd_ne npD, upd_same]
            · have e : H2 q = _ := e
              show (upd _ D _) q = _
              rw [upd_ne (fun z => by rw [z, eD] at e; cases e)]
              exact s3 _ _ e
        · rintro H2 ⟨us, s2, eD, hu2⟩
          rw [List.length_map, List.take_length] at hu2
          have hul : us.length ≤ 100 := by
            rw [Paired.length hu2, List.length_map]
            omega
          have htl : ts0.length = (elderT (ds.take i)).length := Paired.length ht1
          have et2 := s2 _ _ et1
          refine ⟨tl, D, _, _, rfl, rfl, et2, eD, Nat.le_of_lt (smallM (by rw [List.length_map, List.length_map]; omega)), _, ts0 ++ us, rfl, fun b o e => ?_, ?_, by rw [upd_same, List.map_append], ?_⟩
          · rw [upd_ne (ne_of_none e ntl0)]; exact s2 _ _ (sx1 _ _ e)
          · rw [upd_ne npt]; exact s2 _ _ ep1
          · have kt : ∀ (q : Addr) (t : Tie), TieL H2 q t → TieL (upd H2 tl (.lst (ts0.map V.ref ++ us.map V.ref))) q t := fun q t e => by
              have e : H2 q = _ := e
              show (upd _ tl _) q = _
              rw [upd_ne (fun z => by rw [z, et2] at e; cases e)]
              exact e
            rw [ee]
            exact paired_app (paired_mono (fun q t e => kt q t (s2 _ _ e)) ht1) (paired_mono kt hu2)
      | die n =>
        show if false = true then _ else _
        rw [if_neg Bool.false_ne_true]
        refine ⟨_, ts0, rfl, sx, ?_, et, ?_⟩
        · rw [ep, ec]
          show _ = some (HO.lst ((_ ++ []).map V.str))
          rw [List.append_nil]
        · rw [ee]
          show Paired _ _ (_ ++ [])
          rw [List.append_nil]
          exact ht
    · rintro σ' H' ⟨o3, ts0, rfl, sx, ep, et, ht⟩
      have el : (qs.map V.ref).length = ds.length := by rw [List.length_map]; exact Paired.length e2
      have hel := elder_len hH hl ds.length
      have hcl := came_len ds
      rw [el] at ep ht
      rw [List.take_length] at ep ht hel
      refine ⟨.ref pl, rfl, pl, cameD ds, rfl, sql_of ep, Nat.le_of_lt (smallM (by omega)), fun p1 n1 => ?_⟩
      have s1 := same_upd (o := .lst ((sortS (cameD ds)).map V.str)) n1
      refine ⟨.ref tl, rfl, tl, ts0, elderT ds, rfl, sql_of (s1 _ _ et), paired_mono (fun q t e => sqt_of (s1 _ _ e)) ht, Nat.le_of_lt (smallM (by omega)), fun p2 qs' n2 hq => ⟨by show 2 ≤ sizeLine; decide, fun p3 n3 => ?_⟩⟩
      have s2 := same_upd (o := .lst (qs'.map V.ref)) n2
      have s3 := same_upd (o := .tup [.ref p1, .ref p2]) n3
      refine q p3 _ (((sx.trans s1).trans s2).trans s3) (((sx.trans s1).trans s2).free n3) ⟨p1, p2, qs', upd_same, s3 _ _ (s2 _ _ upd_same), s3 _ _ upd_same, hq _ (paired_mono (fun q t e => s3 _ _ (s2 _ _ (s1 _ _ e))) ht)⟩
end
end Hw

set_option Elab.async false
set_option linter.all false
set_option maxRecDepth 100000
set_option maxHeartbeats 4000000
namespace Hw
open PySem L2 PyProof.Rows
abbrev sSome : Stmt := topS 46
theorem erase_map {α β : Type} (g : α → β) : ∀ (l : List α) (i : Nat), (l.map g).eraseIdx i = (l.eraseIdx i).map g
  | [], _ => rfl
  | _ :: _, 0 => rfl
  | x :: l, i + 1 => congrArg (g x :: ·) (erase_map g l i)
theorem erase_perm {α : Type} : ∀ (l : List α) (i : Nat) (h : i < l.length), (l[i] :: l.eraseIdx i).Perm l
  | x :: l, 0, _ => .refl _
  | x :: l, i + 1, h => by
    have h' : i < l.length := by rw [List.length_cons] at h; omega
    have e1 : (x :: l)[i + 1] = l[i] := rfl
    have e2 : (x :: l).eraseIdx (i + 1) = x :: l.eraseIdx i := rfl
    rw [e1, e2]
    exact (List.Perm.swap _ _ _).trans ((erase_perm l i h').cons x)
def spSome : Sp := fun vs H Q _ => ∃ (a b : Addr) (ns : List Str) (m N : Nat), vs = [.ref a, .ref b, .int m] ∧ Pot H a N ∧ H b = some (.lst (ns.map V.str)) ∧ N < 900000000 ∧ m ≤ ns.length ∧ ns.length ≤ 1000 ∧
  ∀ p (zs : List Str) H', (∀ z ∈ zs, z ∈ ns) → zs.length = m → (ns.Nodup → zs.Nodup) → H p = none → H' p = some (.lst (zs.map V.str)) → SameX a H H' → Pot H' a (N + m) → Q (.ref p) H'
section
variable {P : Program} {w : World} {K : PySem.W.Frag} {mg : Str → Option Value} {base : Heap}
theorem scSome : FnScope ["pot", "pool", "many", "left", "found", "lap"] ["pot", "pool", "many"] (defScope sSome) := ⟨rfl, rfl, rfl, by decide +kernel, rfl, by decide +kernel, by decide +kernel⟩
theorem ok_some {f fT : Addr} {fd fdT : FuncData} {k : Nat} (F : Fun K "_law_some" "_law_some" sSome f fd) (B : Blt mg) (GT : FnOk P w K mg base CX0 k fT fdT ["pot", "upto"] spTake) (gT : mg "_law_take" = some (.ref fT)) (kT : PySem.W.keepIn K (.ref fT) = true) (bT : Binds K fdT ["pot", "upto"] []) :
    FnOk P w K mg base CX0 (k + 1) f fd ["pot", "pool", "many"] spSome := by
  refine F.ok scSome (fun vs H Q E h => ?_) (fun cdv A outer s H vs Q E hr h => ?_)
  · obtain ⟨a, b, ns, m, N, rfl, _⟩ := h
    rfl
  · obtain ⟨a, b, ns, m, N, rfl, hP, hb, hN, hm, hl, q⟩ := h
    refine ⟨_, pss_cons (ps_par (i := 3) (j := 4) rfl scSome.nd rfl rfl (by decide) rfl rfl (pa_cons (pe_callTy call_list_of (by rfl) B.list PyProof.Rows.boot_list (pa_cons (pv 1) pa_nil)) (pa_cons (pe_lst pa_nil) pa_nil)) rfl)
      (pss_cons (ps_for PassesOwn.never rfl (pi_range1 (by rfl) B.range (pa_cons (pv 2) pa_nil)) (pg_name (i := 5) scSome.nd rfl (.inl rfl))
        (pss_one (ps_expr (pe_bm PySem.F.plainAttrs_list PySem.F.slot_list_append PySem.F.type_list_append mt_append (pv 4)
          (pa_cons (pe_bm PySem.F.plainAttrs_list PySem.F.slot_list_pop PySem.F.type_list_pop mt_popAt (pv 3) (pa_cons (pe_call GT hr (by rfl) gT kT bT .nil pass0 (pa_cons (pv 0) (pa_cons (pe_callB call_len_seq (by rfl) B.len PySem.boot_len (pa_cons (pv 3) pa_nil)) pa_nil))) pa_nil)) pa_nil)))))
      (pss_one (ps_ret (pv 4)))), ?_⟩
    refine rs_par ?_
    refine ⟨.ref b, rfl, b, ns.map V.str, rfl, .inl (sql_of hb), fun l nl => ⟨Nat.zero_le _, fun fo nfo => ⟨_, _, rfl, ?_⟩⟩⟩
    have s1 : Same H (upd (upd H l (.lst (ns.map V.str))) fo (.lst [])) := (same_upd nl).trans (same_upd nfo)
    have el : (upd (upd H l (.lst (ns.map V.str))) fo (.lst [])) l = some (.lst (ns.map V.str)) := (same_upd nfo) _ _ upd_same
    have efo : (upd (upd H l (.lst (ns.map V.str))) fo (.lst [])) fo = some (.lst []) := upd_same
    have nfl : fo ≠ l := fun e => by rw [e, upd_same] at nfo; cases nfo
    have hfo0 : H fo = none := (same_upd nl).free nfo
    have hla : l ≠ a := fun e => hP.some (e ▸ nl)
    have hfa : fo ≠ a := fun e => hP.some (e ▸ hfo0)
    generalize (upd (upd H l (.lst (ns.map V.str))) fo (.lst [])) = H1 at s1 el efo ⊢
    refine rs_rng 0 (m : Int).toNat (fun H2 => H2 = H1) (fun i σ' H' => ∃ (o5 : Option V) (ls zs : List Str), σ' = [some (.ref a), some (.ref b), some (.int m), some (.ref l), some (.ref fo), o5] ∧ SameX a H H' ∧ Pot H' a (N + i) ∧ H' l = some (.lst (ls.map V.str)) ∧ ls.length + i = ns.length ∧ (∀ z ∈ ls, z ∈ ns) ∧ H' fo = some (.lst (zs.map V.str)) ∧ zs.length = i ∧ (∀ z ∈ zs, z ∈ ns) ∧ (ls ++ zs).Perm ns)
      (fun R hR => ⟨.int m, rfl, m, rfl, by omega, by omega, hR H1 rfl⟩) (fun H2 e => by subst e; exact ⟨_, ns, [], rfl, .of s1, hP.same s1, el, rfl, (fun z h => h), efo, rfl, (fun _ h => nomatch h), by rw [List.append_nil]⟩) ?_ ?_
    · rintro i σ' H' hi ⟨o5, ls, zs, rfl, sx, hp, el', hll, hls, ef', hzl, hzs, hpm⟩
      refine r_gname ?_
      refine ⟨.ref fo, rfl, .inl ⟨rfl, _, sql_of ef'⟩, .ref l, rfl, .inl ⟨rfl, _, sql_of el'⟩, .ref a, rfl, .ref l, rfl, l, ls.map V.str, rfl, .inl (sql_of el'), a, ((ls.map V.str).length : Int), N + i, rfl, hp, by omega, by rw [List.length_map]; omega, by rw [List.length_map]; omega, fun r H2 r0 r1 s2 hp2 => ?_⟩
      rw [List.length_map] at r1
      have hj : r.toNat < ls.length := by omega
      have el2 := s2 _ _ hla el'
      have ef2 := s2 _ _ hfa ef'
      refine ⟨l, ls.map V.str, r, r.toNat, .str ls[r.toNat], rfl, rfl, el2, by omega, by omega, ?_, by rw [List.getElem?_map, List.getElem?_eq_getElem hj]; rfl, ?_⟩
      · rw [List.length_map]; exact PySem.StrLaws.seqIndex_nonneg r0 (by omega)
      have hez : (ls.map V.str).eraseIdx r.toNat = (ls.eraseIdx r.toNat).map V.str := erase_map V.str ls r.toNat
      rw [hez]
      refine ⟨fo, _, _, rfl, rfl, by rw [upd_ne nfl]; exact ef2, small1000 (by rw [List.length_map]; omega), ?_⟩
      refine ⟨_, ls.eraseIdx r.toNat, zs ++ [ls[r.toNat]], rfl, fun c o hc e => ?_, ?_, ?_, ?_, fun z hz => hls z (List.mem_of_mem_eraseIdx hz), ?_, ?_, ?_, ?_⟩
      · have n1 : c ≠ fo := ne_of_none e hfo0
        have n2 : c ≠ l := ne_of_none e nl
        rw [upd_ne n1, upd_ne n2]
        exact s2 _ _ hc (sx _ _ hc e)
      · obtain ⟨xx, yy, zz, e, hh⟩ := hp2.ex
        exact ⟨⟨xx, yy, zz, by rw [upd_ne (Ne.symm hfa), upd_ne (Ne.symm hla)]; exact e, hh⟩⟩
      · rw [upd_ne (Ne.symm nfl), upd_same]
      · rw [List.length_eraseIdx_of_lt hj]; omega
      · rw [upd_same, List.map_append]; rfl
      · rw [List.length_append, hzl]; rfl
      · intro z hz
        rcases List.mem_append.mp hz with hz | hz
        · exact hzs z hz
        · rw [List.mem_singleton.mp hz]; exact hls _ (List.getElem_mem _)
      · refine .trans ?_ hpm
        have e1 : (ls[r.toNat] :: ls.eraseIdx r.toNat).Perm ls := erase_perm ls _ hj
        have e2 : (ls.eraseIdx r.toNat ++ (zs ++ [ls[r.toNat]])).Perm ((ls[r.toNat] :: ls.eraseIdx r.toNat) ++ zs) := by
          rw [← List.append_assoc]
          exact List.perm_append_comm.trans (by simp)
        exact e2.trans (e1.append_right zs)
    · rintro σ' H' ⟨o5, ls, zs, rfl, sx, hp, el', hll, hls, ef', hzl, hzs, hpm⟩
      have em : (m : Int).toNat = m := Int.toNat_natCast m
      rw [em] at hp hzl
      exact ⟨.ref fo, rfl, q fo zs H' hzs hzl (fun hn => ((hpm.nodup_iff.mpr hn) |> fun h => (List.nodup_append.mp h).2.1)) hfo0 ef' sx hp⟩
end
end Hw

set_option Elab.async false
set_option linter.all false
set_option maxRecDepth 100000
set_option maxHeartbeats 4000000
namespace Hw
open PySem L2 PyProof.Rows
abbrev sComeT : Stmt := topS 54
def spComeT : Sp := fun vs H Q _ => ∃ (a l : Addr) (ns : List Str) (wd : Bool) (N : Nat), vs = [.ref a, .ref l, .bl wd] ∧ Pot H a N ∧ N < 400000000 ∧ H l = some (.lst (ns.map V.str)) ∧ ns.Nodup ∧ (∀ z ∈ ns, Nm z) ∧ ns.length ≤ 100 ∧
  ∀ tq ts H', (∀ t ∈ ts, t ∈ ns) → Asc ts → (wd = true → ts.length ≤ 1) → H' tq = some (.tup (ts.map V.str)) → SameX a H H' → Pot H' a (N + 10) → Q (.ref tq) H'
theorem eqv_strs_nil (ns : List Str) : PyData.eqv (.list (ns.map PyData.str)) (.list []) = decide (ns = []) := by
  rw [PyData.eqv]
  cases ns with
  | nil => rfl
  | cons x xs => rfl
section
variable {P : Program} {w : World} {K : PySem.W.Frag} {mg : Str → Option Value} {base : Heap}
theorem scComeT : FnScope ["pot", "living", "wood"] ["pot", "living", "wood"] (defScope sComeT) := ⟨rfl, rfl, rfl, by decide +kernel, rfl, by decide +kernel, by decide +kernel⟩
theorem ok_comeT {f fT fO fS : Addr} {fd fdT fdO fdS : FuncData} {k : Nat} (F : Fun K "_law_come_ties" "_law_come_ties" sComeT f fd) (B : Blt mg) (bs : mg "sorted" = none) (bt : mg "tuple" = none)
    (GT : FnOk P w K mg base CX0 k fT fdT ["pot", "upto"] spTake) (gT : mg "_law_take" = some (.ref fT)) (kT : PySem.W.keepIn K (.ref fT) = true) (bT : Binds K fdT ["pot", "upto"] [])
    (GO : FnOk P w K mg base CX0 k fO fdO ["pot", "some"] (spOf2 K)) (gO : mg "_law_of" = some (.ref fO)) (kO : PySem.W.keepIn K (.ref fO) = true) (bO : Binds K fdO ["pot", "some"] [])
    (GS : FnOk P w K mg base CX0 k fS fdS ["pot", "pool", "many"] spSome) (gS : mg "_law_some" = some (.ref fS)) (kS : PySem.W.keepIn K (.ref fS) = true) (bS : Binds K fdS ["pot", "pool", "many"] []) :
    FnOk P w K mg base CX0 (k + 1) f fd ["pot", "living", "wood"] spComeT := by
  refine F.ok scComeT (fun vs H Q E h => ?_) (fun cdv A outer s H vs Q E hr h => ?_)
  · obtain ⟨a, l, ns, wd, N, rfl, _⟩ := h
    rfl
  · obtain ⟨a, l, ns, wd, N, rfl, hP, hN, el, hnd, hnm, hlen, q⟩ := h
    have hu := hu_of hr
    have hu64 := hr.units
    refine ⟨_, pss_cons (ps_if (PW.pt (pw_or (pt_cmpR (op_eqD hu64) (pv 1) (pe_lst pa_nil) (nomark _)) (pw_or1 (pt_cmpR op_eq (pe_call GT hr (by rfl) gT kT bT .nil pass0 (pa_cons (pv 0) (pa_cons pe_int pa_nil))) pe_int (nomark _))))) (pss_one (ps_ret (pe_tup pa_nil))) pss_nil)
      (pss_cons (ps_if (PW.pt (pw_or (pt_val (pv 2)) (pw_or1 (pt_cmpR op_gt (pe_call GT hr (by rfl) gT kT bT .nil pass0 (pa_cons (pv 0) (pa_cons pe_int pa_nil))) pe_int (nomark _))))) (pss_one (ps_ret (pe_tup (pa_cons (pe_call GO hr (by rfl) gO kO bO .nil pass0 (pa_cons (pv 0) (pa_cons (pv 1) pa_nil))) pa_nil)))) pss_nil)
      (pss_one (ps_ret (pe_callTy call_tuple_of (by rfl) bt PyProof.Rows.boot_tuple (pa_cons (pe_callB (cr_sortT hu64) (by rfl) bs (by decide +kernel) (pa_cons (pe_call GS hr (by rfl) gS kS bS .nil pass0 (pa_cons (pv 0) (pa_cons (pv 1) (pa_cons
        (pe_callB (call_min2 rfl) (by rfl) B.min PyProof.Rows.boot_min (pa_cons (pe_callB call_len_seq (by rfl) B.len PySem.boot_len (pa_cons (pv 1) pa_nil)) (pa_cons (pe_op op_add pe_int (pe_call GT hr (by rfl) gT kT bT .nil pass0 (pa_cons (pv 0) (pa_cons pe_int pa_nil)))) pa_nil))) pa_nil)))) pa_nil)) pa_nil))))), ?_⟩
    have nla := pot_ne_strs hP el
    have ret0 : ∀ H', SameX a H H' → Pot H' a (N + 1) → ∀ p, H' p = none → Q (.ref p) (upd H' p (.tup [])) := fun H' sx hp p np =>
      q p [] _ (fun _ z => nomatch z) .nil (fun _ => Nat.zero_le _) upd_same (sx.trans (.of (same_upd np))) ((hp.same (same_upd np)).mono (by omega))
    have l2 : ∀ {b : Addr} {H' : Hp}, SameX a H H' → H' l = some (.lst (ns.map V.str)) := fun {b H'} sx => sx _ _ (Ne.symm nla) el
    refine rs_no2 (fun H' => SameX a H H' ∧ Pot H' a (N + 1)) (fun H' => SameX a H H' ∧ Pot H' a (N + 1) ∧ 0 < ns.length) (fun Q1 qt qf => ?_) (fun H1 ⟨sx, hp⟩ => ?_) (fun H1 ⟨sx, hp, hne⟩ => ?_)
    · refine ⟨.ref l, rfl, Nat.zero_le _, fun l0 n0 => ⟨.list (ns.map PyData.str), .list [], .lst (sql_of ((same_upd n0) _ _ el)) (strs_dp _), .lst (sql_of upd_same) .nil, strs_lay hnm (fun x hx => hx), by decide +kernel, _, rfl, ?_⟩⟩
      rw [eqv_strs_nil]
      have s0 := same_upd (o := .lst []) n0
      have hp0 := hP.same s0
      refine ite2 (fun c0 => qt _ ⟨.of s0, hp0.mono (by omega)⟩) (fun c0 => ?_)
      refine ⟨.ref a, rfl, a, 12, N, rfl, hp0, by omega, by decide, by decide, fun r H2 r0 r1 s2 hp2 => ⟨rfl, _, rfl, ?_⟩⟩
      cases hb : decide (V.int r = V.int 0) with
      | true => exact qt _ ⟨(SameX.of s0).trans s2, hp2⟩
      | false => exact qf _ ⟨(SameX.of s0).trans s2, hp2, List.length_pos_iff.mpr (fun e => c0 (decide_eq_true e))⟩
    · exact ⟨Nat.zero_le _, ret0 H1 sx hp⟩
    have el1 := l2 (b := l) sx
    refine rs_no2 (fun H' => SameX a H H' ∧ Pot H' a (N + 2)) (fun H' => SameX a H H' ∧ Pot H' a (N + 2) ∧ wd = false) (fun Q1 qt qf => ?_) (fun H2 ⟨sx2, hp2⟩ => ?_) (fun H2 ⟨sx2, hp2, hw⟩ => ?_)
    · refine ⟨.bl wd, rfl, wd, rfl, ?_⟩
      cases wd with
      | true => exact qt _ ⟨sx, hp.mono (by omega)⟩
      | false =>
        refine ⟨.ref a, rfl, a, 3, N + 1, rfl, hp, by omega, by decide, by decide, fun r H3 r0 r1 s3 hp3 => ⟨_, _, rfl, rfl, _, rfl, ?_⟩⟩
        cases hb : decide ((0 : Int) < r) with
        | true => exact qt _ ⟨sx.trans s3, hp3⟩
        | false => exact qf _ ⟨sx.trans s3, hp3, rfl⟩
    · have el2 := l2 (b := l) sx2
      refine ⟨.ref a, rfl, .ref l, rfl, .inl ⟨a, l, ns.map V.str, N + 2, rfl, hp2, by omega, sql_of el2, nla, by rw [List.length_map]; exact hne, by rw [List.length_map]; omega, fun ix v H3 hv s3 hp3 => ⟨by show 1 ≤ sizeLine; decide, fun p np => ?_⟩⟩⟩
      obtain ⟨z, hz, rfl⟩ := map_get hv
      have s4 := same_upd (o := .tup [.str z]) np
      exact q p [z] _ (fun t ht => by rw [List.mem_singleton.mp ht]; exact List.mem_of_getElem? hz) (List.pairwise_singleton _ _) (fun _ => Nat.le_refl _) upd_same ((sx2.trans s3).trans (.of s4)) ((hp3.same s4).mono (by omega))
    · have el2 := l2 (b := l) sx2
      refine r_ret ?_
      refine ⟨.ref a, rfl, .ref l, rfl, .ref l, rfl, l, ns.map V.str, rfl, .inl (sql_of el2), .ref a, rfl, a, 3, N + 2, rfl, hp2, by omega, by decide, by decide, fun r H3 r0 r1 s3 hp3 => ?_⟩
      refine ⟨_, _, rfl, rfl, _, _, rfl, ?_⟩
      have el3 := l2 (b := l) (sx2.trans s3)
      rw [List.length_map]
      obtain ⟨m, hm, hml, hm2⟩ : ∃ m : Nat, (if (2 : Int) + r < (ns.length : Nat) then 2 + r else ((ns.length : Nat) : Int)) = (m : Int) ∧ m ≤ ns.length ∧ m ≤ 4 := by
        by_cases h : (2 : Int) + r < (ns.length : Nat)
        · rw [if_pos h]; exact ⟨(2 + r).toNat, by omega, by omega, by omega⟩
        · rw [if_neg h]; exact ⟨ns.length, rfl, Nat.le_refl _, by omega⟩
      rw [hm]
      refine ⟨a, l, ns, m, N + 3, rfl, hp3, el3, by omega, hml, by omega, fun p zs H4 hz hzl hzn np ep s4 hp4 => ?_⟩
      refine ⟨p, zs, rfl, sql_of ep, Nat.le_of_lt (smallM (by omega)), fun p2 n2 => ?_⟩
      have s5 := same_upd (o := .lst ((sortS zs).map V.str)) n2
      refine ⟨p2, (sortS zs).map V.str, rfl, .inl ⟨sql_of upd_same, fun p3 n3 => ?_⟩⟩
      have s6 := same_upd (o := .tup ((sortS zs).map V.str)) n3
      exact q p3 (sortS zs) _ (fun t ht => hz t ((sortS_perm zs).mem_iff.mp ht)) (sortS_asc (hzn hnd)) (fun e => by rw [hw] at e; cases e) upd_same (((sx2.trans s3).trans s4).trans (.of (s5.trans s6))) ((hp4.same (s5.trans s6)).mono (by omega))
end
end Hw

set_option Elab.async false
set_option linter.all false
set_option maxRecDepth 100000
set_option maxHeartbeats 4000000
namespace Hw
open PySem L2 PyProof.Rows
abbrev sShape : Stmt := topS 55
def spShape : Sp := fun vs H Q _ => ∃ (a l : Addr) (ns : List Str) (sh wi : Nat) (wd : Bool) (N : Nat), vs = [.ref a, .ref l, .int sh, .int wi, .bl wd] ∧ Pot H a N ∧ N < 400000000 ∧ H l = some (.lst (ns.map V.str)) ∧ ns.Nodup ∧ (∀ z ∈ ns, Nm z) ∧ ns.length ≤ 100 ∧ 2 ≤ wi ∧ wi ≤ 100 ∧
  ∀ tq ts H', (∀ t ∈ ts, t ∈ ns) → Asc ts → (wd = true → ts.length ≤ 1) → H' tq = some (.tup (ts.map V.str)) → SameX a H H' → Pot H' a (N + 10) → Q (.ref tq) H'
section
variable {P : Program} {w : World} {K : PySem.W.Frag} {mg : Str → Option Value} {base : Heap}
theorem scShape : FnScope ["pot", "here", "shape", "wide", "wood", "at"] ["pot", "here", "shape", "wide", "wood"] (defScope sShape) := ⟨rfl, rfl, rfl, by decide +kernel, rfl, by decide +kernel, by decide +kernel⟩
theorem ok_shape {f fC : Addr} {fd fdC : FuncData} {k : Nat} (F : Fun K "_law_shape_ties" "_law_shape_ties" sShape f fd) (B : Blt mg) (bs : mg "sorted" = none) (bt : mg "tuple" = none)
    (GC : FnOk P w K mg base CX0 k fC fdC ["pot", "living", "wood"] spComeT) (gC : mg "_law_come_ties" = some (.ref fC)) (kC : PySem.W.keepIn K (.ref fC) = true) (bC : Binds K fdC ["pot", "living", "wood"] []) :
    FnOk P w K mg base CX0 (k + 1) f fd ["pot", "here", "shape", "wide", "wood"] spShape := by
  refine F.ok scShape (fun vs H Q E h => ?_) (fun cdv A outer s H vs Q E hr h => ?_)
  · obtain ⟨a, l, ns, sh, wi, wd, N, rfl, _⟩ := h
    rfl
  · obtain ⟨a, l, ns, sh, wi, wd, N, rfl, hP, hN, el, hnd, hnm, hlen, hw1, hw2, q⟩ := h
    have hu := hu_of hr
    have hu64 := hr.units
    refine ⟨_, pss_cons (ps_set (i := 5) scShape.nd rfl (.inl rfl) (pe_callB call_len_seq (by rfl) B.len PySem.boot_len (pa_cons (pv 1) pa_nil)))
      (pss_cons (ps_if (PW.pt (pw_or (pt_cmpR op_eq (pv 5) pe_int (nomark _)) (pw_or1 (pt_cmpR op_eq (pv 2) pe_int (nomark _))))) (pss_one (ps_ret (pe_call GC hr (by rfl) gC kC bC .nil pass0 (pa_cons (pv 0) (pa_cons (pv 1) (pa_cons (pv 4) pa_nil)))))) pss_nil)
      (pss_cons (ps_if (pt_cmpR op_eq (pv 2) pe_int (nomark _)) (pss_one (ps_ret (pe_tup (pa_cons (pe_ix ix_list (pv 1) pe_int (fun _ _ => rfl)) pa_nil)))) pss_nil)
      (pss_cons (ps_if (pt_cmpR op_eq (pv 2) pe_int (nomark _)) (pss_one (ps_ret (pe_tup (pa_cons (pe_ifExp (PW.pt (pw_or (pt_cmpR op_eq (pe_op op_mod (pv 5) (pv 3)) pe_int (nomark _)) (pw_or1 (pt_cmpR op_lt (pv 5) (pv 3) (nomark _)))))
          (pe_ix ix_list (pv 1) pe_int (fun _ _ => rfl)) (pe_ix ix_list (pv 1) (pe_op op_add (pe_op op_sub (pe_op op_mul (pe_op op_fdiv (pv 5) (pv 3)) (pv 3)) (pv 3)) pe_int) (fun _ _ => rfl))) pa_nil)))) pss_nil)
      (pss_cons (ps_if (pt_cmpR op_eq (pv 2) pe_int (nomark _)) (pss_one (ps_ret (pe_tup (pa_cons (pe_ifExp (pt_cmpR op_eq (pe_op op_mod (pv 5) pe_int) pe_int (nomark _))
          (pe_ix ix_list (pv 1) (pe_op op_sub (pv 5) pe_int) (fun _ _ => rfl)) (pe_ix ix_list (pv 1) (pe_op op_sub (pv 5) pe_int) (fun _ _ => rfl))) pa_nil)))) pss_nil)
      (pss_cons (ps_if (PW.pt (pw_and (pt_cmpR op_eq (pv 2) pe_int (nomark _)) (pw_and (pt_not (pt_val (pv 4))) (pw_and (pt_cmpR op_eq (pe_op op_mod (pv 5) (pv 3)) (pe_op op_sub (pv 3) pe_int) (nomark _)) (pw_and1 (pt_cmpR op_gt (pv 3) pe_int (nomark _)))))))
          (pss_one (ps_ret (pe_callTy call_tuple_of (by rfl) bt PyProof.Rows.boot_tuple (pa_cons (pe_callB (cr_sortT hu64) (by rfl) bs (by decide +kernel) (pa_cons (pe_lst (pa_cons (pe_ix ix_list (pv 1) (pe_op op_sub (pv 5) pe_int) (fun _ _ => rfl)) (pa_cons (pe_ix ix_list (pv 1) (pe_op op_sub (pe_op op_add (pv 5) pe_int) (pv 3)) (fun _ _ => rfl)) pa_nil))) pa_nil)) pa_nil)))) pss_nil)
      (pss_cons (ps_if (PW.pt (pw_and (pt_cmpR op_eq (pv 2) pe_int (nomark _)) (pw_and (pt_not (pt_val (pv 4))) (pw_and1 (pt_cmpR op_ge (pv 5) (pv 3) (nomark _))))))
          (pss_one (ps_ret (pe_callTy call_tuple_of (by rfl) bt PyProof.Rows.boot_tuple (pa_cons (pe_callB (cr_sortT hu64) (by rfl) bs (by decide +kernel) (pa_cons (pe_op op_cat (pe_lst (pa_cons (pe_ix ix_list (pv 1) (pe_op op_sub (pv 5) (pv 3)) (fun _ _ => rfl)) pa_nil))
            (pe_ifExp (pt_cmpR op_gt (pe_op op_mod (pv 5) (pv 3)) pe_int (nomark _)) (pe_lst (pa_cons (pe_ix ix_list (pv 1) (pe_op op_sub (pv 5) pe_int) (fun _ _ => rfl)) pa_nil)) (pe_lst pa_nil))) pa_nil)) pa_nil)))) pss_nil)
      (pss_one (ps_ret (pe_tup (pa_cons (pe_ix ix_list (pv 1) (pe_op op_sub (pv 5) pe_int) (fun _ _ => rfl)) pa_nil)))))))))), ?_⟩
    have ret1 : ∀ (j : Nat) (hj : j < ns.length) (H' : Hp), Same H H' → ∀ p, H' p = none → Q (.ref p) (upd H' p (.tup [.str ns[j]])) := fun j hj H' s p np =>
      q p [ns[j]] _ (fun t ht => by rw [List.mem_singleton.mp ht]; exact List.getElem_mem hj) (List.pairwise_singleton _ _) (fun _ => Nat.le_refl _) upd_same ((SameX.of s).trans (.of (same_upd np))) (((hP.same s).same (same_upd np)).mono (by omega))
    have retS : ∀ (zs : List Str), wd = false → (∀ z ∈ zs, z ∈ ns) → zs.Nodup → ∀ (H' : Hp), Same H H' → ∀ p, H' p = none → Q (.ref p) (upd H' p (.tup ((sortS zs).map V.str))) := fun zs hwd hz hn H' s p np =>
      q p (sortS zs) _ (fun t ht => hz t ((sortS_perm zs).mem_iff.mp ht)) (sortS_asc hn) (fun e => by rw [hwd] at e; cases e) upd_same ((SameX.of s).trans (.of (same_upd np))) (((hP.same s).same (same_upd np)).mono (by omega))
    have nodup2 : ∀ {i j : Nat} (hi : i < ns.length) (hj : j < ns.length), i < j → ([ns[j], ns[i]] : List Str).Nodup := fun hi hj hij => by
      have := nodup_ne hnd hi hj hij
      simp [Ne.symm this]
    have nodup2' : ∀ {i j : Nat} (hi : i < ns.length) (hj : j < ns.length), i < j → ([ns[i], ns[j]] : List Str).Nodup := fun hi hj hij => by
      have := nodup_ne hnd hi hj hij
      simp [this]
    have sql := sql_of (K := K) el
    refine rs_set ?_
    refine ⟨.ref l, rfl, l, ns.map V.str, rfl, .inl sql, ?_⟩
    rw [List.length_map]
    refine rs_no2 (fun H' => H' = H) (fun H' => H' = H ∧ 0 < ns.length) (fun Q1 qt qf => ?_) (fun H1 e => ?_) (fun H1 ⟨e, hpos⟩ => ?_)
    · refine ⟨_, rfl, rfl, _, rfl, ite2 (fun c0 => qt _ rfl) (fun c0 => ?_)⟩
      refine ⟨_, rfl, rfl, _, rfl, ?_⟩
      cases hb : decide (V.int (sh : Nat) = V.int 6) with
      | true => exact qt _ rfl
      | false => exact qf _ ⟨rfl, Nat.pos_of_ne_zero fun z => c0 (decide_eq_true (by rw [z]; rfl))⟩
    · subst e
      exact ⟨.ref a, rfl, .ref l, rfl, .bl wd, rfl, a, l, ns, wd, N, rfl, hP, hN, el, hnd, hnm, hlen, q⟩
    subst e
    refine rs_no2 (fun H' => H' = H1) (fun H' => H' = H1) (fun Q1 qt qf => ?_) (fun H2 e => ?_) (fun H2 e => ?_)
    · refine ⟨_, rfl, rfl, _, rfl, ?_⟩
      cases hb : decide (V.int (sh : Nat) = V.int 1) with
      | true => exact qt _ rfl
      | false => exact qf _ rfl
    · subst e
      exact ⟨.ref l, rfl, l, ns.map V.str, 0, _, rfl, rfl, sql, at_ns (j := 0) rfl hpos, by show 1 ≤ sizeLine; decide, fun p np => ret1 0 hpos _ (Same.refl _) p np⟩
    subst e
    have hq1 : 1 ≤ ns.length := hpos
    -- shape 2
    refine rs_no2 (fun H' => H' = H2) (fun H' => H' = H2) (fun Q1 qt qf => ?_) (fun H3 e => ?_) (fun H3 e => ?_)
    · refine ⟨_, rfl, rfl, _, rfl, ?_⟩
      cases hb : decide (V.int (sh : Nat) = V.int 2) with
      | true => exact qt _ rfl
      | false => exact qf _ rfl
    · subst e
      refine ⟨_, rfl, _, rfl, _, _, rfl, rfl, (by show (0 : Int) < _; omega), rfl, _, rfl, ite2 (fun c0 => ?_) (fun c0 => ?_)⟩
      · exact ⟨.ref l, rfl, l, ns.map V.str, 0, _, rfl, rfl, sql, at_ns (j := 0) rfl hpos, by show 1 ≤ sizeLine; decide, fun p np => ret1 0 hpos _ (Same.refl _) p np⟩
      · refine ⟨_, rfl, _, rfl, _, _, rfl, rfl, _, rfl, ite2 (fun c1 => ?_) (fun c1 => ?_)⟩
        · exact ⟨.ref l, rfl, l, ns.map V.str, 0, _, rfl, rfl, sql, at_ns (j := 0) rfl hpos, by show 1 ≤ sizeLine; decide, fun p np => ret1 0 hpos _ (Same.refl _) p np⟩
        · have hge : wi ≤ ns.length := by
            have : ¬ ((ns.length : Nat) : Int) < (wi : Nat) := fun z => c1 (decide_eq_true z)
            omega
          have d1 : ns.length / wi * wi ≤ ns.length := Nat.div_mul_le_self _ _
          have d2 : 1 ≤ ns.length / wi := (Nat.one_le_div_iff (by omega)).mpr hge
          have d3 : 1 * wi ≤ ns.length / wi * wi := Nat.mul_le_mul_right _ d2
          have hj : ns.length / wi * wi - wi + 1 < ns.length := by omega
          refine ⟨.ref l, rfl, _, rfl, _, rfl, _, _, rfl, rfl, (⟨by omega, by omega⟩ : CDiv _ _), _, rfl, _, _, rfl, rfl, .inr ⟨by omega, by omega⟩, _, rfl, _, _, rfl, rfl, _, _, rfl, rfl, l, ns.map V.str, _, _, rfl, rfl, sql, at_ns (j := ns.length / wi * wi - wi + 1) ?_ hj, by show 1 ≤ sizeLine; decide, fun p np => ret1 _ hj _ (Same.refl _) p np⟩
          have e1 : ((ns.length : Nat) : Int) / (wi : Nat) * (wi : Nat) = ((ns.length / wi * wi : Nat) : Int) := by rw [Int.natCast_mul]; rfl
          rw [e1]
          omega
    subst e
    -- shape 3
    refine rs_no2 (fun H' => H' = H3) (fun H' => H' = H3) (fun Q1 qt qf => ?_) (fun H4 e => ?_) (fun H4 e => ?_)
    · refine ⟨_, rfl, rfl, _, rfl, ?_⟩
      cases hb : decide (V.int (sh : Nat) = V.int 3) with
      | true => exact qt _ rfl
      | false => exact qf _ rfl
    · subst e
      refine ⟨_, rfl, _, _, rfl, rfl, (by show (0 : Int) < 2; decide), rfl, _, rfl, ite2 (fun c0 => ?_) (fun c0 => ?_)⟩
      · have h2 : 2 ≤ ns.length := by
          have := of_decide_eq_true c0
          injection this with this
          omega
        have hj : ns.length - 2 < ns.length := by omega
        exact ⟨.ref l, rfl, _, rfl, _, _, rfl, rfl, l, ns.map V.str, _, _, rfl, rfl, sql, at_ns (j := ns.length - 2) (by omega) hj, by show 1 ≤ sizeLine; decide, fun p np => ret1 _ hj _ (Same.refl _) p np⟩
      · have hj : ns.length - 1 < ns.length := by omega
        exact ⟨.ref l, rfl, _, rfl, _, _, rfl, rfl, l, ns.map V.str, _, _, rfl, rfl, sql, at_ns (j := ns.length - 1) (by omega) hj, by show 1 ≤ sizeLine; decide, fun p np => ret1 _ hj _ (Same.refl _) p np⟩
    subst e
    have md : ((ns.length : Nat) : Int) % (wi : Nat) = ((ns.length % wi : Nat) : Int) := rfl
    -- shape 4
    refine rs_no2 (fun H' => H' = H4 ∧ wd = false ∧ ns.length % wi = wi - 1 ∧ 2 < wi) (fun H' => H' = H4) (fun Q1 qt qf => ?_) (fun H5 ⟨e, c1, c2, c3⟩ => ?_) (fun H5 e => ?_)
    · refine ⟨_, rfl, rfl, _, rfl, ite2 (fun c0 => ?_) (fun c0 => qf _ rfl)⟩
      refine ⟨.bl wd, rfl, wd, rfl, ite2 (fun c1 => ?_) (fun c1 => qf _ rfl)⟩
      refine ⟨_, rfl, _, rfl, _, _, rfl, rfl, (by show (0 : Int) < _; omega), _, rfl, _, _, rfl, rfl, rfl, _, rfl, ite2 (fun c2 => ?_) (fun c2 => qf _ rfl)⟩
      refine ⟨_, rfl, _, _, rfl, rfl, _, rfl, ?_⟩
      cases hb : decide ((2 : Int) < (wi : Nat)) with
      | false => exact qf _ rfl
      | true =>
        refine qt _ ⟨rfl, by cases wd with | true => exact absurd c1 (by decide) | false => rfl, ?_, ?_⟩
        · have := of_decide_eq_true c2
          injection this with this
          rw [md] at this
          omega
        · have := of_decide_eq_true hb
          omega
    · subst e
      have hml := Nat.mod_le ns.length wi
      have hj1 : ns.length - 1 < ns.length := by omega
      have hj2 : ns.length + 1 - wi < ns.length := by omega
      refine r_ret ?_
      refine ⟨.ref l, rfl, _, rfl, _, _, rfl, rfl, l, ns.map V.str, _, _, rfl, rfl, sql, at_ns (j := ns.length - 1) (by omega) hj1, .ref l, rfl, _, rfl, _, _, rfl, rfl, _, rfl, _, _, rfl, rfl, l, ns.map V.str, _, _, rfl, rfl, sql, at_ns (j := ns.length + 1 - wi) (by omega) hj2, by show 2 ≤ sizeLine; decide, fun p np => ?_⟩
      refine ⟨p, [ns[ns.length - 1], ns[ns.length + 1 - wi]], rfl, sql_of upd_same, Nat.le_of_lt (smallM (by show 2 ≤ _; decide)), fun p2 n2 => ⟨p2, _, rfl, .inl ⟨sql_of upd_same, fun p3 n3 => ?_⟩⟩⟩
      refine retS _ c1 (fun z hz => ?_) (nodup2 hj2 hj1 (by omega)) _ ((same_upd np).trans (same_upd n2)) p3 n3
      simp only [List.mem_cons, List.not_mem_nil, or_false] at hz
      rcases hz with rfl | rfl <;> exact List.getElem_mem _
    subst e
    -- shape 5
    refine rs_no2 (fun H' => H' = H5 ∧ wd = false ∧ wi ≤ ns.length) (fun H' => H' = H5) (fun Q1 qt qf => ?_) (fun H6 ⟨e, c1, c2⟩ => ?_) (fun H6 e => ?_)
    · refine ⟨_, rfl, rfl, _, rfl, ite2 (fun c0 => ?_) (fun c0 => qf _ rfl)⟩
      refine ⟨.bl wd, rfl, wd, rfl, ite2 (fun c1 => ?_) (fun c1 => qf _ rfl)⟩
      refine ⟨_, rfl, _, rfl, _, _, rfl, rfl, _, rfl, ?_⟩
      cases hb : decide (((wi : Nat) : Int) ≤ (ns.length : Nat)) with
      | false => exact qf _ rfl
      | true =>
        refine qt _ ⟨rfl, by cases wd with | true => exact absurd c1 (by decide) | false => rfl, ?_⟩
        have := of_decide_eq_true hb
        omega
    · subst e
      have hj1 : ns.length - 1 < ns.length := by omega
      have hj2 : ns.length - wi < ns.length := by omega
      refine r_ret ?_
      refine ⟨.ref l, rfl, _, rfl, _, rfl, _, _, rfl, rfl, l, ns.map V.str, _, _, rfl, rfl, sql, at_ns (j := ns.length - wi) (by omega) hj2, by show 1 ≤ sizeLine; decide, fun p np => ?_⟩
      have s1 := same_upd (o := .lst [.str ns[ns.length - wi]]) np
      have fin : ∀ (zs : List Str) (l2 : Addr) (H2 : Hp), Same H6 H2 → H2 p = some (.lst [.str ns[ns.length - wi]]) → H2 l2 = some (.lst (zs.map V.str)) → (∀ z ∈ zs, z = ns[ns.length - 1]) → zs.length ≤ 1 → rCat (.ref p) (.ref l2) H2 fun x H3 => rSortT K [x] H3 fun y H4 => ∃ p ys, [y] = [V.ref p] ∧ ((SqL K H4 p ys ∧ ∀ l, H4 l = none → Q (V.ref l) (upd H4 l (HO.tup ys))) ∨ (SqT K H4 p ys ∧ Q (V.ref p) H4)) := by
        intro zs l2 H2 s2 f1 f2 hz hl
        refine ⟨p, l2, _, _, rfl, rfl, f1, f2, Nat.le_of_lt (smallM (by rw [List.length_map]; show 1 + _ ≤ _; omega)), fun l3 n3 => ?_⟩
        refine ⟨l3, ns[ns.length - wi] :: zs, rfl, sql_of upd_same, Nat.le_of_lt (smallM (by rw [List.length_cons]; omega)), fun p2 n2 => ⟨p2, _, rfl, .inl ⟨sql_of upd_same, fun p3 n3' => ?_⟩⟩⟩
        refine retS _ c1 (fun z hz2 => ?_) ?_ _ ((s2.trans (same_upd n3)).trans (same_upd n2)) p3 n3'
        · rcases List.mem_cons.mp hz2 with rfl | hz2
          · exact List.getElem_mem _
          · rw [hz z hz2]; exact List.getElem_mem _
        · cases zs with
          | nil => simp
          | cons z zs' =>
            have ez := hz z List.mem_cons_self
            have : zs' = [] := List.length_eq_zero_iff.mp (by rw [List.length_cons] at hl; omega)
            subst this ez
            exact nodup2' hj2 hj1 (by omega)
      refine ⟨_, rfl, _, rfl, _, _, rfl, rfl, (by show (0 : Int) < _; omega), _, _, rfl, rfl, _, rfl, ite2 (fun c0 => ?_) (fun c0 => ?_)⟩
      · refine ⟨.ref l, rfl, _, rfl, _, _, rfl, rfl, l, ns.map V.str, _, _, rfl, rfl, sql_of (s1 _ _ el), at_ns (j := ns.length - 1) (by omega) hj1, by show 1 ≤ sizeLine; decide, fun l2 n2 => ?_⟩
        exact fin [ns[ns.length - 1]] l2 _ (s1.trans (same_upd n2)) ((same_upd n2) _ _ upd_same) upd_same (fun z hz => List.mem_singleton.mp hz) (Nat.le_refl _)
      · exact ⟨Nat.zero_le _, fun l2 n2 => fin [] l2 _ (s1.trans (same_upd n2)) ((same_upd n2) _ _ upd_same) upd_same (fun _ z => nomatch z) (Nat.zero_le _)⟩
    subst e
    have hj : ns.length - 1 < ns.length := by omega
    exact ⟨.ref l, rfl, _, rfl, _, _, rfl, rfl, l, ns.map V.str, _, _, rfl, rfl, sql, at_ns (j := ns.length - 1) (by omega) hj, by show 1 ≤ sizeLine; decide, fun p np => ret1 _ hj _ (Same.refl _) p np⟩
end
end Hw

set_option Elab.async false
set_option linter.all false
set_option maxRecDepth 100000
set_option maxHeartbeats 4000000
namespace Hw
open PySem L2 PyProof.Rows
abbrev sGrown : Stmt := topS 56
theorem g4_of {K : PySem.W.Frag} {σ : L2.St} {H : Hp} {i j k m : Nat} {p : Addr} {x y z u : V} {R : L2.St → Hp → Prop} (e : SqT K H p [x, y, z, u]) (h : R ((((σ.set i (some x)).set j (some y)).set k (some z)).set m (some u)) H) : gTup K 4 (gCons (gName i) (gCons (gName j) (gCons (gName k) (gCons (gName m) gNil)))) (.ref p) σ H R :=
  ⟨p, [x, y, z, u], rfl, e, rfl, _, [y, z, u], rfl, _, [z, u], rfl, _, [u], rfl, _, [], rfl, rfl, h⟩
def WoodD (wd : Bool) (ds : List Deed) : Prop := wd = true → ∀ d ∈ ds, d.ties.length ≤ 1
def spGrown : Sp := fun vs H Q _ => ∃ (a l : Addr) (ns : List Str) (wd : Bool) (N : Nat), vs = [.ref a, .ref l, .bl wd] ∧ Pot H a N ∧ N < 300000000 ∧ H l = some (.lst (ns.map V.str)) ∧ ns.Nodup ∧ (∀ z ∈ ns, Nm z) ∧ ns.length ≤ 60 ∧
  ∀ p ds H', Hist ds → ds.length = ns.length → cameD ds = ns → liv ds = ns → WoodD wd ds → DeedsAt H' p ds → H p = none → p ≠ a → SameX a H H' → Pot H' a (N + 10 * ns.length + 5) → Q (.ref p) H'
/-- comings as they are made -/
structure GrowI (a dl hl : Addr) (ns : List Str) (wd : Bool) (H : Hp) (M i : Nat) (ds : List Deed) (qs : List Addr) (H' : Hp) : Prop where
  sx : SameX a H H'
  pot : Pot H' a M
  ed : H' dl = some (.lst (qs.map V.ref))
  dd : Paired (DeedAt H') qs ds
  eh : H' hl = some (.lst ((ns.take i).map V.str))
  hist : Hist ds
  came : cameD ds = ns.take i
  liv : liv ds = ns.take i
  len : ds.length = i
  wood : WoodD wd ds
theorem GrowI.step {a dl hl : Addr} {ns : List Str} {wd : Bool} {H H' H'' : Hp} {M M' i : Nat} {ds : List Deed} {qs : List Addr} (w : GrowI a dl hl ns wd H M i ds qs H') (s : SameX a H' H'') (hp : Pot H'' a M') : GrowI a dl hl ns wd H M' i ds qs H'' :=
  ⟨w.sx.trans s, hp, s _ _ (Ne.symm (pot_ne_refs w.pot w.ed)) w.ed, paired_mono (fun q d e => e.sx w.pot s) w.dd, s _ _ (Ne.symm (pot_ne_strs w.pot w.eh)) w.eh, w.hist, w.came, w.liv, w.len, w.wood⟩
section
variable {P : Program} {w : World} {K : PySem.W.Frag} {mg : Str → Option Value} {base : Heap}
theorem scGrown : FnScope ["pot", "names", "wood", "deeds", "here", "shape", "wide", "name"] ["pot", "names", "wood"] (defScope sGrown) := ⟨rfl, rfl, rfl, by decide +kernel, rfl, by decide +kernel, by decide +kernel⟩
theorem ok_grown {f fT fS : Addr} {fd fdT fdS : FuncData} {k : Nat} (F : Fun K "_law_grown" "_law_grown" sGrown f fd)
    (GT : FnOk P w K mg base CX0 k fT fdT ["pot", "upto"] spTake) (gT : mg "_law_take" = some (.ref fT)) (kT : PySem.W.keepIn K (.ref fT) = true) (bT : Binds K fdT ["pot", "upto"] [])
    (GS : FnOk P w K mg base CX0 k fS fdS ["pot", "here", "shape", "wide", "wood"] spShape) (gS : mg "_law_shape_ties" = some (.ref fS)) (kS : PySem.W.keepIn K (.ref fS) = true) (bS : Binds K fdS ["pot", "here", "shape", "wide", "wood"] []) :
    FnOk P w K mg base CX0 (k + 1) f fd ["pot", "names", "wood"] spGrown := by
  refine F.ok scGrown (fun vs H Q E h => ?_) (fun cdv A outer s H vs Q E hr h => ?_)
  · obtain ⟨a, l, ns, wd, N, rfl, _⟩ := h
    rfl
  · obtain ⟨a, l, ns, wd, N, rfl, hP, hN, el, hnd, hnm, hlen, q⟩ := h
    have hu := hu_of hr
    refine ⟨_, pss_cons (ps_asg (pe_tup (pa_cons (pe_lst pa_nil) (pa_cons (pe_lst pa_nil) (pa_cons (pe_call GT hr (by rfl) gT kT bT .nil pass0 (pa_cons (pv 0) (pa_cons pe_int pa_nil))) (pa_cons (pe_op op_add pe_int (pe_call GT hr (by rfl) gT kT bT .nil pass0 (pa_cons (pv 0) (pa_cons pe_int pa_nil)))) pa_nil)))))
        (pg_tup rfl (pgs_cons (pg_name (i := 3) scGrown.nd rfl (.inl rfl)) (pgs_cons (pg_name (i := 4) scGrown.nd rfl (.inl rfl)) (pgs_cons (pg_name (i := 5) scGrown.nd rfl (.inl rfl)) (pgs_cons (pg_name (i := 6) scGrown.nd rfl (.inl rfl)) pgs_nil))))))
      (pss_cons (ps_for PassesOwn.never rfl (pi_list (pv 1)) (pg_name (i := 7) scGrown.nd rfl (.inl rfl))
        (pss_cons (ps_expr (pe_bm PySem.F.plainAttrs_list PySem.F.slot_list_append PySem.F.type_list_append mt_append (pv 3) (pa_cons (pe_tup (pa_cons pe_str (pa_cons (pv 7) (pa_cons (pe_call GS hr (by rfl) gS kS bS .nil pass0 (pa_cons (pv 0) (pa_cons (pv 4) (pa_cons (pv 5) (pa_cons (pv 6) (pa_cons (pv 2) pa_nil)))))) pa_nil)))) pa_nil)))
        (pss_one (ps_expr (pe_bm PySem.F.plainAttrs_list PySem.F.slot_list_append PySem.F.type_list_append mt_append (pv 4) (pa_cons (pv 7) pa_nil))))))
      (pss_one (ps_ret (pv 3)))), ?_⟩
    refine rs_t ?_
    refine ⟨Nat.zero_le _, fun dl ndl => ⟨Nat.zero_le _, fun hl nhl => ?_⟩⟩
    have s1 := (same_upd (o := .lst []) ndl).trans (same_upd (o := .lst []) nhl)
    have e1d : (upd (upd H dl (.lst [])) hl (.lst [])) dl = some (.lst []) := (same_upd nhl) _ _ upd_same
    have e1h : (upd (upd H dl (.lst [])) hl (.lst [])) hl = some (.lst []) := upd_same
    have ndh : dl ≠ hl := ne_of_none upd_same nhl
    have nhl0 : H hl = none := (same_upd ndl).free nhl
    have hp1 := hP.same s1
    generalize (upd (upd H dl (.lst [])) hl (.lst [])) = H1 at s1 e1d e1h hp1 ⊢
    refine ⟨.ref a, rfl, a, 7, N, rfl, hp1, by omega, by decide, by decide, fun sh H2 sh0 sh1 s2 hp2 => ?_⟩
    refine ⟨.ref a, rfl, a, 6, _, rfl, hp2, by omega, by decide, by decide, fun wi H3 wi0 wi1 s3 hp3 => ?_⟩
    obtain ⟨sh, rfl⟩ : ∃ n : Nat, sh = (n : Int) := ⟨sh.toNat, by omega⟩
    obtain ⟨wi, rfl⟩ : ∃ n : Nat, wi = (n : Int) := ⟨wi.toNat, by omega⟩
    refine ⟨_, _, rfl, rfl, by show 4 ≤ sizeLine; decide, fun p4 n4 => g4_of (sqt_of upd_same) ?_⟩
    have ew : (fun i j : Int => V.int (i + j)) 2 (wi : Nat) = V.int ((2 + wi : Nat) : Int) := congrArg V.int (by show (2 : Int) + (wi : Nat) = ((2 + wi : Nat) : Int); omega)
    rw [ew]
    have wdl : dl ≠ a := fun z => hP.some (z ▸ ndl)
    have whl : hl ≠ a := fun z => hP.some (z ▸ nhl0)
    have s4 := same_upd (o := .tup [.ref dl, .ref hl, .int (sh : Nat), .int ((2 + wi : Nat) : Int)]) n4
    have w0 : GrowI a dl hl ns wd H (N + 2) 0 [] [] (upd H3 p4 (.tup [.ref dl, .ref hl, .int (sh : Nat), .int ((2 + wi : Nat) : Int)])) :=
      ⟨(SameX.of s1).trans (s2.trans (s3.trans (.of s4))), (hp3.same s4).mono (by omega), s4 _ _ (s3 _ _ wdl (s2 _ _ wdl e1d)), .nil, s4 _ _ (s3 _ _ whl (s2 _ _ whl e1h)), .nil, rfl, rfl, rfl, fun _ _ z => nomatch z⟩
    generalize (upd H3 p4 (.tup [.ref dl, .ref hl, .int (sh : Nat), .int ((2 + wi : Nat) : Int)])) = H4 at w0 ⊢
    clear s1 e1d e1h hp1 s2 hp2 s3 hp3 n4 s4 ew
    have nla := pot_ne_strs hP el
    refine rs_list l (ns.map V.str) (fun Q1 q1 => ⟨_, rfl, q1⟩) (fun i σ' H' => ∃ o7 ds qs, σ' = [some (.ref a), some (.ref l), some (.bl wd), some (.ref dl), some (.ref hl), some (.int (sh : Nat)), some (.int ((2 + wi : Nat) : Int)), o7] ∧ GrowI a dl hl ns wd H (N + 2 + 10 * i) i ds qs H')
      ⟨_, _, _, rfl, w0⟩ (fun i σ' H' _ ⟨_, _, _, _, w⟩ => sql_of (w.sx _ _ (Ne.symm nla) el)) ?_ ?_
    · rintro i x σ' H' hx ⟨o7, ds, qs, rfl, w⟩
      obtain ⟨z, hz, rfl⟩ := map_get hx
      have hi := (List.getElem?_eq_some_iff.mp hz).1
      have hzn := List.mem_of_getElem? hz
      have htl : (ns.take i).length ≤ 60 := by rw [List.length_take]; omega
      refine r_gname ?_
      refine rs_bm ?_
      refine ⟨.ref dl, rfl, .inl ⟨rfl, _, sql_of w.ed⟩, .str z, rfl, .ref a, rfl, .ref hl, rfl, _, rfl, _, rfl, .bl wd, rfl, ?_⟩
      refine ⟨a, hl, ns.take i, sh, 2 + wi, wd, _, rfl, w.pot, by omega, w.eh, hnd.sublist (List.take_sublist ..), fun y hy => hnm y (List.mem_of_mem_take hy), by omega, by omega, by omega, fun tq ts H5 hts hta htw etq s5 hp5 => ⟨by show 3 ≤ sizeLine; decide, fun p np => ?_⟩⟩
      have s6 := same_upd (o := .tup [.str (Str.ofString "come"), .str z, .ref tq]) np
      have w6 := w.step (s5.trans (.of s6)) (hp5.same s6)
      have etq6 := s6 _ _ etq
      have ep6 : (upd H5 p (.tup [.str (Str.ofString "come"), .str z, .ref tq])) p = some (.tup [.str sCome, .str z, .ref tq]) := upd_same
      generalize (upd H5 p (.tup [.str (Str.ofString "come"), .str z, .ref tq])) = H6 at w6 etq6 ep6 ⊢
      have hql : qs.length = i := by rw [Paired.length w6.dd, w6.len]
      refine ⟨dl, _, _, rfl, rfl, w6.ed, smallM (by rw [List.length_map]; omega), ?_⟩
      have k7 : ∀ {b : Addr} {o : HO}, b ≠ dl → H6 b = some o → (upd H6 dl (.lst (qs.map V.ref ++ [.ref p]))) b = some o := fun {b o} hb e => by rw [upd_ne hb]; exact e
      have eh7 := k7 (Ne.symm ndh) w6.eh
      refine ⟨.ref hl, rfl, .inl ⟨rfl, _, sql_of eh7⟩, .str z, rfl, hl, _, _, rfl, rfl, eh7, smallM (by rw [List.length_map]; omega), _, ds ++ [.come z ts], qs ++ [p], rfl, ?_⟩
      have k8 : ∀ {b : Addr} {o : HO}, b ≠ dl → b ≠ hl → H6 b = some o → (upd (upd H6 dl (.lst (qs.map V.ref ++ [.ref p]))) hl (.lst ((ns.take i).map V.str ++ [.str z]))) b = some o := fun {b o} hb hc e => by rw [upd_ne hc, upd_ne hb]; exact e
      have kd : ∀ (q : Addr) (d : Deed), DeedAt H6 q d → DeedAt (upd (upd H6 dl (.lst (qs.map V.ref ++ [.ref p]))) hl (.lst ((ns.take i).map V.str ++ [.str z]))) q d := fun q d e => by
        have kt : ∀ {b : Addr} {vs : List V}, H6 b = some (.tup vs) → (upd (upd H6 dl (.lst (qs.map V.ref ++ [.ref p]))) hl (.lst ((ns.take i).map V.str ++ [.str z]))) b = some (.tup vs) := fun {b vs} e => k8 (fun y => by rw [y, w6.ed] at e; cases e) (fun y => by rw [y, w6.eh] at e; cases e) e
        cases d with
        | come n ts =>
          obtain ⟨tq, h1, h2⟩ := e
          exact ⟨tq, kt h1, kt h2⟩
        | die n => exact kt e
      have hnew : z ∉ cameD ds := by rw [w.came]; exact nodup_take hnd hz
      refine ⟨fun b o hb e => k8 (ne_of_none e ndl) (ne_of_none e nhl0) (w6.sx b o hb e), ?_, ?_, ?_, ?_, .come w.hist (hnm z hzn) hnew hta (fun t ht => by rw [w.liv]; exact hts t ht), ?_, ?_, ?_, ?_⟩
      · obtain ⟨xx, yy, zz, e, hh⟩ := w6.pot.ex
        exact ⟨xx, yy, zz, k8 (Ne.symm wdl) (Ne.symm whl) e, by omega⟩
      · rw [upd_ne ndh, upd_same, List.map_append]; rfl
      · exact paired_snoc (kd p (.come z ts) ⟨tq, ep6, etq6⟩) (paired_mono kd w6.dd)
      · rw [upd_same, take_snoc hz, List.map_append]; rfl
      · rw [came_snoc, w.came, take_snoc hz]; rfl
      · rw [liv_snoc, w.liv, take_snoc hz]; rfl
      · rw [List.length_append, w.len]; rfl
      · intro hw d hd
        rcases List.mem_append.mp hd with hd | hd
        · exact w.wood hw d hd
        · rw [List.mem_singleton.mp hd]; exact htw hw
    · rintro σ' H' ⟨o7, ds, qs, rfl, w⟩
      rw [List.length_map] at w
      have hc := w.came
      have hv := w.liv
      rw [List.take_length] at hc hv
      exact ⟨.ref dl, rfl, q dl ds H' w.hist w.len hc hv w.wood ⟨qs, w.ed, w.dd⟩ ndl wdl w.sx (w.pot.mono (by omega))⟩
end
end Hw

set_option Elab.async false
set_option linter.all false
set_option maxRecDepth 100000
set_option maxHeartbeats 4000000
namespace Hw
open PySem L2 PyProof.Rows
abbrev sNextD : Stmt := topS 57
/-! sorted of pairs of a number and a text, whatever comes first -/
def npD (p : Nat × Str) : PyData := .tuple [.int (p.1 : Nat), .str p.2]
abbrev NpAt (H : Hp) (q : Addr) (p : Nat × Str) : Prop := H q = some (.tup [.int (p.1 : Nat), .str p.2])
def rSortNP (K : PySem.W.Frag) : List V → Hp → VK → Prop := fun vs H Q => ∃ (a : Addr) (qs : List Addr) (ps : List (Nat × Str)), vs = [V.ref a] ∧ SqL K H a (qs.map V.ref) ∧ Paired (NpAt H) qs ps ∧ ps.length ≤ sizeLine ∧
  ∀ (p : Addr) (qs' : List Addr), H p = none → (∀ q ∈ qs', q ∈ qs) → qs'.length = qs.length → Q (.ref p) (upd H p (.lst (qs'.map V.ref)))
section
variable {X : Cx}
theorem cr_sortNP (hu : X.A.units + 64 < cLine) : CallR X (.builtin "sorted") (rSortNP X.K) := by
  intro pins s σ H vs us Q I r h
  obtain ⟨a, qs, ps, rfl, hs, hp, hz, q⟩ := h
  obtain ⟨l, rfl, rfl, hl⟩ := zip_of hp
  have e1 : (l.map fun x => (V.ref x.1, npD x.2)).map (·.1) = (l.map (·.1)).map V.ref := by rw [List.map_map, List.map_map]; rfl
  have e2 : (l.map fun x => (V.ref x.1, npD x.2)).map (·.2) = (l.map (·.2)).map npD := by rw [List.map_map, List.map_map]; rfl
  rw [List.length_map] at hz
  refine cr_sortB hu pins s σ H _ us Q I r ⟨a, l.map fun x => (V.ref x.1, npD x.2), rfl, by rw [e1]; exact hs, fun b hb => ?_, ?_, ?_, by rw [List.length_map]; exact hz, fun p hp => ?_⟩
  · obtain ⟨z, hz, rfl⟩ := List.mem_map.mp hb
    refine ⟨.tup (sqt_of (hl z hz)) (.cons (Dp_flat rfl) (.cons (Dp_flat rfl) .nil)), ?_⟩
    show PyData.depth (npD z.2) ≤ 50
    unfold npD
    simp [PyData.depth, PyData.depthAll]
  · rw [e2]; exact PySem.W.AllAlike.of fun _ _ => by simp [PySem.W.alike, PySem.W.alikeAll, npD]
  · rw [e2]; exact PySem.W.Sortable.tuples (enc := npD) fun z => ⟨_, _, rfl⟩
  · have e : (l.map fun x => (V.ref x.1, npD x.2)).mergeSort (PySem.W.dataLe false (·.2)) = (l.mergeSort fun x y => PySem.W.dataLe false id (npD x.2) (npD y.2)).map fun x => (V.ref x.1, npD x.2) := by
      refine (List.map_mergeSort fun a _ b _ => ?_).symm
      rfl
    rw [e, List.map_map]
    have := q p ((l.mergeSort fun x y => PySem.W.dataLe false id (npD x.2) (npD y.2)).map (·.1)) hp (fun y hy => by
      obtain ⟨x, hx, rfl⟩ := List.mem_map.mp hy
      exact List.mem_map.mpr ⟨x, List.mem_mergeSort.mp hx, rfl⟩) (by rw [List.length_map, List.length_mergeSort, List.length_map])
    rw [List.map_map] at this
    exact this
def rNeNil : R2 := fun x y H Q => ∃ a b ks, x = .ref a ∧ y = .ref b ∧ H a = some (.dK ks) ∧ H b = some (.dK []) ∧ Q (.bl (decide (ks ≠ []))) H
theorem op_neNil (hu : X.A.units < cLine) : OpR X (compareOp .NotEq) rNeNil := by
  intro pins s σ H x y v u Q I rx ry h
  obtain ⟨a, b, ks, rfl, rfl, ea, eb, q⟩ := h
  obtain rfl : v = Value.ref a := rx
  obtain rfl : u = Value.ref b := ry
  obtain ⟨_, ya, va, ra, da⟩ := (show ObjOk X.prog X.w H s.heap a (.dK ks) from I.hok a _ ea)
  obtain ⟨_, yb, vb, rb, db⟩ := (show ObjOk X.prog X.w H s.heap b (.dK []) from I.hok b _ eb)
  have hla : ks.length = va.length := ra.length
  have hlb : 0 = vb.length := rb.length
  by_cases h0 : ks = []
  · subst h0
    exact PySem.W.keq_ne (knd := mixKind X.prog X.w) (r := true) ya yb da db hu (fun _ => hits_all rb ra (fun p hp => nomatch hp)) (fin_bl I q (by
      have : va.length = vb.length := by rw [← hla, ← hlb]; rfl
      simp [this]))
  · have hne : va.length ≠ vb.length := by
      have := List.length_pos_iff.mpr h0
      omega
    exact PySem.W.keq_ne (knd := mixKind X.prog X.w) (r := true) ya yb da db hu (fun e => absurd e hne) (fin_bl I q (by simp [h0, hne]))
end
end Hw

set_option Elab.async false
set_option linter.all false
set_option maxRecDepth 100000
set_option maxHeartbeats 4000000
namespace Hw
open PySem L2 PyProof.Rows
theorem at_lastV {xs : List V} (h : xs ≠ []) : atI xs (-1) = some (xs.getLast h) := by
  have e1 : xs = xs.dropLast ++ [xs.getLast h] := (List.dropLast_concat_getLast h).symm
  have := atI_last xs.dropLast (xs.getLast h)
  rw [← e1] at this
  exact this
theorem encL_put (ns : List Str) (z : Str) : putK (encL ns) (Sum.inr z) (V.bl true) = encL (if z ∈ ns then ns else ns ++ [z]) := by
  by_cases h : z ∈ ns
  · rw [if_pos h]
    unfold putK
    rw [valV_any, encL_val, if_pos h]
    show (if true = true then _ else _) = _
    rw [if_pos rfl]
    unfold encL
    rw [List.map_map]
    refine List.map_congr_left fun n _ => ?_
    show (if (Sum.inr n : Key) = Sum.inr z then ((Sum.inr n : Key), V.bl true) else _) = _
    split <;> rfl
  · rw [if_neg h, encL_new h]
theorem strs_flat (zs : List Str) : (zs.map V.str).all flatV = true := by
  rw [List.all_eq_true]
  intro y hy
  obtain ⟨z, _, rfl⟩ := List.mem_map.mp hy
  rfl
theorem rs_listR {K : PySem.W.Frag} {te : TE} {g : TG} {tb u : TS} {D : Ends} {σ : L2.St} {H : Hp} (P0 : Addr → List V → Hp → Prop) (Pv : Addr → List V → Hp → Nat → L2.St → Hp → Prop) (hw : ∀ Q : VK, (∀ l xs H1, P0 l xs H1 → Q (.ref l) H1) → te σ H Q) (h0 : ∀ l xs H1, P0 l xs H1 → Pv l xs H1 0 σ H1)
    (hl : ∀ l xs H1 i σ H, Pv l xs H1 i σ H → SqL K H l xs) (hs : ∀ l xs H1 i x σ H, P0 l xs H1 → xs[i]? = some x → Pv l xs H1 i σ H → g x σ H fun σ2 H2 => tb { D with nx := Pv l xs H1 (i + 1), ct := Pv l xs H1 (i + 1), bk := u D } σ2 H2)
    (hd : ∀ l xs H1 σ H, P0 l xs H1 → Pv l xs H1 xs.length σ H → u D σ H) : tSeq (tFor (iList K te) g tb) u D σ H :=
  hw _ fun l xs H1 p => ⟨l, rfl, ⟨_, hl _ _ _ _ _ _ (h0 l xs H1 p)⟩, for_list (D := { D with nx := u D }) (xs := xs) (Pv l xs H1) (h0 l xs H1 p) (fun i σ H _ q => hl _ _ _ _ _ _ q) (fun i x σ H hx q => hs l xs H1 i x σ H p hx q) (fun σ H q => hd l xs H1 σ H p q)⟩
/-- pairs of a number and a living name -/
def SomeAt (H : Hp) (l : Addr) (lv : List Str) : Prop := ∃ qs : List Addr, H l = some (.lst (qs.map V.ref)) ∧ qs.length = lv.length ∧ ∀ q ∈ qs, ∃ (c : Nat) (z : Str), z ∈ lv ∧ H q = some (.tup [.int (c : Nat), .str z])
theorem SomeAt.keep {H H' : Hp} {l : Addr} {lv : List Str} (h : SomeAt H l lv) (s : Same H H') : SomeAt H' l lv := by
  obtain ⟨qs, h1, h2, h3⟩ := h
  refine ⟨qs, s _ _ h1, h2, fun q hq => ?_⟩
  obtain ⟨c, z, m, e⟩ := h3 q hq
  exact ⟨c, z, m, s _ _ e⟩
def spNextD : Sp := fun vs H Q _ => ∃ (a l lv : Addr) (ds : List Deed) (wy : Nat) (N : Nat), vs = [.ref a, .ref l, .ref lv, .int wy] ∧ Pot H a N ∧ N < 400000000 ∧ DeedsAt H l ds ∧ Hist ds ∧ ds.length ≤ 100 ∧ H lv = some (.lst ((sortS (liv ds)).map V.str)) ∧ 0 < (liv ds).length ∧ wy < 7 ∧
  ∀ z H', z ∈ liv ds → SameX a H H' → Pot H' a (N + 2) → Q (.str z) H'
section
variable {P : Program} {w : World} {K : PySem.W.Frag} {mg : Str → Option Value} {base : Heap}
theorem scNextD : FnScope ["pot", "deeds", "living", "way", "counts", "some", "came", "beside", "here", "one", "other", "name", "deed"] ["pot", "deeds", "living", "way"] (defScope sNextD) := ⟨rfl, rfl, rfl, by decide +kernel, rfl, by decide +kernel, by decide +kernel⟩
theorem ok_nextd {f fO fC fE : Addr} {fd fdO fdC fdE : FuncData} {k : Nat} (F : Fun K "_law_next_dead" "_law_next_dead" sNextD f fd) (B : Blt mg) (bs : mg "sorted" = none) (bd : mg "dict" = none)
    (GO : FnOk P w K mg base CX0 k fO fdO ["pot", "some"] (spOf2 K)) (gO : mg "_law_of" = some (.ref fO)) (kO : PySem.W.keepIn K (.ref fO) = true) (bO : Binds K fdO ["pot", "some"] [])
    (GC : FnOk P w K mg base CX0 k fC fdC ["deeds"] spCounts) (gC : mg "_law_counts" = some (.ref fC)) (kC : PySem.W.keepIn K (.ref fC) = true) (bC : Binds K fdC ["deeds"] [])
    (GE : FnOk P w K mg base CX0 k fE fdE ["deeds"] spElder) (gE : mg "_law_elder" = some (.ref fE)) (kE : PySem.W.keepIn K (.ref fE) = true) (bE : Binds K fdE ["deeds"] []) :
    FnOk P w K mg base CX0 (k + 1) f fd ["pot", "deeds", "living", "way"] spNextD := by
  refine F.ok scNextD (fun vs H Q E h => ?_) (fun cdv A outer s H vs Q E hr h => ?_)
  · obtain ⟨a, l, lv, ds, wy, N, rfl, _⟩ := h
    rfl
  · obtain ⟨a, l, lv, ds, wy, N, rfl, hP, hN, hD, hH, hl, elv, hpos, hwy, q⟩ := h
    have hu := hu_of hr
    have hu64 := hr.units
    refine ⟨_, pss_cons (ps_set (i := 4) scNextD.nd rfl (.inr rfl) (pe_call GC hr (by rfl) gC kC bC .nil pass0 (pa_cons (pv 1) pa_nil)))
      (pss_cons (ps_set (i := 5) scNextD.nd rfl (.inl rfl) (pe_callB (cr_sortNP hu64) (by rfl) bs (by decide +kernel) (pa_cons (pe_lc (own := [("name", 11)]) (g := gName 11) (tt := tYes) rfl scNextD.nd (pi_list (pv 2))
          (blkOk_by (N := ["pot", "deeds", "living", "way", "counts", "some", "came", "beside", "here", "one", "other", "name", "deed"]) (sc := defScope sNextD) (by decide +kernel)) (fun _ _ _ _ _ => pg_name (i := 11) scNextD.nd rfl (Or.inl rfl)) (fun _ _ _ _ _ => pts_nil)
          (fun _ _ _ _ _ => pe_tup (pa_cons (pe_dget hu (pv 4) (pv 11) (fun _ _ => rfl)) (pa_cons (pv 11) pa_nil)))) pa_nil)))
      (pss_cons (ps_setLc (i := 6) (own := [("deed", 12)]) (g := gName 12) (tt := tAnd (tTest (tOp rEq (tOp (rIxT K) (tVar 12) (tC (.int 0))) (tC (.str (Str.ofString "come"))))) (tTest (tOp (rIn K false) (tOp (rIxT K) (tVar 12) (tC (.int 1))) (tVar 2)))) (te := tOp (rIxT K) (tVar 12) (tC (.int 1))) rfl scNextD.nd rfl rfl (sw_true rfl rfl rfl (by decide +kernel)) (pi_list (pv 1))
          (blkOk_by (N := ["pot", "deeds", "living", "way", "counts", "some", "came", "beside", "here", "one", "other", "name", "deed"]) (sc := defScope sNextD) (by decide +kernel)) (fun _ _ _ _ _ => pg_name (i := 12) scNextD.nd rfl (Or.inl rfl))
          (fun _ _ _ _ _ => pts_one (PW.pt (pw_and (pt_cmpR op_eq (pe_ix ix_tup (pv 12) pe_int (fun _ _ => rfl)) pe_str (nomark _)) (pw_and1 (pt_cmpR op_in_seq (pe_ix ix_tup (pv 12) pe_int (fun _ _ => rfl)) (pv 2) (by rfl)))))) (fun _ _ _ _ _ => pe_ix ix_tup (pv 12) pe_int (fun _ _ => rfl)))
      (pss_cons (ps_if (pt_cmpR op_lt (pv 3) pe_int (nomark _)) (pss_one (ps_ret (pe_ix ix_tup (pe_ix ix_list (pv 5) (pe_un un_neg pe_int) (fun _ _ => rfl)) pe_int (fun _ _ => rfl)))) pss_nil)
      (pss_cons (ps_if (pt_cmpR op_lt (pv 3) pe_int (nomark _)) (pss_one (ps_ret (pe_ix ix_list (pe_lst (pa_cons (pe_ix ix_tup (pe_ix ix_list (pv 5) pe_int (fun _ _ => rfl)) pe_int (fun _ _ => rfl)) (pa_cons (pe_ix ix_list (pv 6) pe_int (fun _ _ => rfl)) (pa_cons (pe_ix ix_list (pv 6) (pe_un un_neg pe_int) (fun _ _ => rfl)) pa_nil)))) (pe_op op_sub (pv 3) pe_int) (fun _ _ => rfl)))) pss_nil)
      (pss_cons (ps_if (pt_cmpR op_eq (pv 3) pe_int (nomark _))
        (pss_cons (ps_par (i := 7) (j := 8) rfl scNextD.nd rfl rfl (by decide) rfl rfl (pa_cons pe_dnewK (pa_cons (pe_callTy (call_dictP rfl) (by rfl) bd PyProof.Rows.boot_dict (pa_cons (pe_lc (own := [("name", 11)]) (g := gName 11) (tt := tYes) rfl scNextD.nd (pi_list (pv 2))
            (blkOk_by (N := ["pot", "deeds", "living", "way", "counts", "some", "came", "beside", "here", "one", "other", "name", "deed"]) (sc := defScope sNextD) (by decide +kernel)) (fun _ _ _ _ _ => pg_name (i := 11) scNextD.nd rfl (Or.inl rfl)) (fun _ _ _ _ _ => pts_nil)
            (fun _ _ _ _ _ => pe_tup (pa_cons (pv 11) (pa_cons pe_bl pa_nil)))) pa_nil)) pa_nil)) rfl)
        (pss_cons (ps_for PassesOwn.never rfl (pi_list (pe_ix ix_tup (pe_call GE hr (by rfl) gE kE bE .nil pass0 (pa_cons (pv 1) pa_nil)) pe_int (fun _ _ => rfl))) (pg_tup rfl (pgs_cons (pg_name (i := 9) scNextD.nd rfl (Or.inl rfl)) (pgs_cons (pg_name (i := 10) scNextD.nd rfl (Or.inl rfl)) pgs_nil)))
          (pss_one (ps_if (pt_cmpR op_ne (pe_cmp (pc_din hu (pv 9) (pv 8))) (pe_cmp (pc_din hu (pv 10) (pv 8))) (nomark _))
            (pss_one (ps_dput hu (pv 7) (pe_ifExp (pt_cmp (pc_din hu (pv 9) (pv 8))) (pv 9) (pv 10)) pe_bl rfl)) pss_nil)))
        (pss_one (ps_ret (pe_ifExp (pt_cmpR (op_neNil (Nat.lt_of_succ_lt hu)) (pv 7) pe_dnewK (nomark _)) (pe_call GO hr (by rfl) gO kO bO .nil pass0 (pa_cons (pv 0) (pa_cons (pe_callB (cr_sortT hu64) (by rfl) bs (by decide +kernel) (pa_cons (pe_callTy (call_list_dK rfl) (by rfl) B.list PyProof.Rows.boot_list (pa_cons (pv 7) pa_nil)) pa_nil)) pa_nil)))
          (pe_ix ix_tup (pe_ix ix_list (pv 5) (pe_un un_neg pe_int) (fun _ _ => rfl)) pe_int (fun _ _ => rfl))))))) pss_nil)
      (pss_one (ps_ret (pe_call GO hr (by rfl) gO kO bO .nil pass0 (pa_cons (pv 0) (pa_cons (pv 2) pa_nil)))))))))), ?_⟩
    obtain ⟨dq, eD0, pD0⟩ := id hD
    have hll := hH.liv_len
    have lvL : (sortS (liv ds)).length = (liv ds).length := (sortS_perm _).length_eq
    have lvM : ∀ {z : Str}, z ∈ sortS (liv ds) ↔ z ∈ liv ds := (sortS_perm _).mem_iff
    have nlv := pot_ne_strs hP elv
    refine rs_set ?_
    refine ⟨.ref l, rfl, l, ds, rfl, hD, hH, hl, fun d H1 s1 nd ed => ?_⟩
    refine rs_set ?_
    refine ⟨.ref lv, rfl, lv, rfl, ⟨_, sql_of (s1 _ _ elv)⟩, fun D nD => lc_list (xs := (sortS (liv ds)).map V.str) (fun i H' => ∃ qs : List Addr, Same H1 H' ∧ H' D = some (.lst (qs.map V.ref)) ∧ Paired (NpAt H') qs (((sortS (liv ds)).take i).map fun z => (cntD ds z, z))) ⟨[], same_upd nD, upd_same, .nil⟩ (fun i H' _ ⟨_, w, _⟩ => sql_of (w _ _ (s1 _ _ elv))) ?_ ?_⟩
    · rintro i x H' hx ⟨qs, sx, eD, hq⟩
      obtain ⟨z, hz, rfl⟩ := map_get hx
      have hzl := lvM.mp (List.mem_of_getElem? hz)
      have hql : qs.length ≤ 100 := by rw [Paired.length hq, List.length_map, List.length_take]; omega
      have g0 : DGet H' d (.str z) (some (natV (cntD ds) z)) := by
        have := DGet.k (k := Sum.inr z) (sx _ _ ed)
        rw [encF_val, if_pos (hH.liv_came z hzl)] at this
        exact this
      refine ⟨rfl, r_yes ?_⟩
      refine ⟨.ref d, rfl, .str z, rfl, d, _, rfl, g0, .str z, rfl, by show 2 ≤ sizeLine; decide, fun p np => ?_⟩
      have s2 := same_upd (o := .tup [.int (cntD ds z : Nat), .str z]) np
      have npD : p ≠ D := fun y => by rw [y, eD] at np; cases np
      refine ⟨_, s2 _ _ eD, smallM (by rw [List.length_map]; omega), qs ++ [p], fun b o e => ?_, by rw [upd_same, List.map_append]; rfl, ?_⟩
      · rw [upd_ne (ne_of_none e nD)]; exact s2 _ _ (sx _ _ e)
      · rw [take_snoc hz, List.map_append]
        refine paired_snoc ?_ (paired_mono (fun q t e => ?_) hq)
        · show (upd _ D _) p = _
          rw [upd_ne npD, upd_same]
        · have e : H' q = _ := e
          show (upd _ D _) q = _
          rw [upd_ne (fun y => by rw [y, eD] at e; cases e)]
          exact s2 _ _ e
    rintro H' ⟨qs, sx, eD, hq⟩
    rw [List.length_map, List.take_length] at hq
    have hql := Paired.length hq
    rw [List.length_map, lvL] at hql
    refine ⟨D, qs, _, rfl, sql_of eD, hq, Nat.le_of_lt (smallM (by rw [List.length_map]; omega)), fun p2 qs' n2 hsub hqs' => ?_⟩
    have s2 := same_upd (o := .lst (qs'.map V.ref)) n2
    have hS : SomeAt (upd H' p2 (.lst (qs'.map V.ref))) p2 (liv ds) := by
      refine ⟨qs', upd_same, by rw [hqs', hql], fun q hq2 => ?_⟩
      obtain ⟨j, hj⟩ := List.mem_iff_getElem?.mp (hsub q hq2)
      obtain ⟨t, ht, et⟩ := paired_get hq hj
      obtain ⟨z, hz, e⟩ := List.mem_map.mp (List.mem_of_getElem? ht)
      exact ⟨t.1, t.2, lvM.mp (by rw [← e]; exact hz), s2 _ _ et⟩
    have sH2 := (s1.trans sx).trans s2
    generalize (upd H' p2 (.lst (qs'.map V.ref))) = H2 at hS sH2 ⊢
    clear hsub hqs' n2 s2 hq hql eD sx nD D qs qs' ed nd s1
    -- came
    have eD2 := sH2 _ _ eD0
    have pD2 : Paired (DeedAt H2) dq ds := paired_mono (fun q d e => e.keep sH2) pD0
    have elv2 := sH2 _ _ elv
    refine rs_set ?_
    refine ⟨.ref l, rfl, l, rfl, ⟨_, sql_of eD2⟩, fun D nD => lc_list (xs := dq.map V.ref) (fun i H' => Same H2 H' ∧ H' D = some (.lst (((cameD (ds.take i)).filter fun z => decide (z ∈ liv ds)).map V.str))) ⟨same_upd nD, upd_same⟩ (fun i H' _ w => sql_of (w.1 _ _ eD2)) ?_ ?_⟩
    · rintro i x H' hx ⟨sx, eD⟩
      obtain ⟨qd, hq, rfl⟩ := map_get hx
      obtain ⟨e, he, ed⟩ := paired_get pD2 hq
      have ec : cameD (ds.take (i + 1)) = cameD (ds.take i) ++ if e.isCome = true then [e.name] else [] := by rw [take_snoc he, came_snoc]
      have hcl : ((cameD (ds.take i)).filter fun z => decide (z ∈ liv ds)).length ≤ 100 := Nat.le_trans (List.length_filter_le _ _) (Nat.le_trans (hH.came_take i) hl)
      obtain ⟨more, em⟩ := (ed.keep sx).two (K := K)
      refine ⟨rfl, .ref qd, rfl, qd, _, 0, .str e.word, rfl, rfl, sqt_of em, atI_nat (j := 0) rfl, rfl, _, congrArg V.bl (word_come e), ?_⟩
      cases hc : e.isCome with
      | false =>
        show if false = true then _ else _
        rw [if_neg Bool.false_ne_true]
        show if false = true then _ else _
        rw [if_neg Bool.false_ne_true]
        refine ⟨sx, ?_⟩
        rw [eD, ec, hc, if_neg Bool.false_ne_true, List.append_nil]
      | true =>
        show if true = true then _ else _
        rw [if_pos rfl]
        refine ⟨.ref qd, rfl, qd, _, 1, .str e.name, rfl, rfl, sqt_of em, atI_nat (j := 1) rfl, .ref lv, rfl, lv, _, rfl, .inl (sql_of (sx _ _ elv2)), rfl, strs_flat _, _, rfl, ?_⟩
        show if inV (.str e.name) ((sortS (liv ds)).map V.str) = true then _ else _
        rw [inV_str]
        have em2 : decide (e.name ∈ sortS (liv ds)) = decide (e.name ∈ liv ds) := by rw [decide_eq_decide]; exact lvM
        rw [em2]
        by_cases hm : e.name ∈ liv ds
        · rw [decide_eq_true hm, if_pos rfl]
          refine ⟨.ref qd, rfl, qd, _, 1, .str e.name, rfl, rfl, sqt_of em, atI_nat (j := 1) rfl, _, eD, smallM (by rw [List.length_map]; omega), fun b o eb => ?_, ?_⟩
          · rw [upd_ne (ne_of_none eb nD)]; exact sx _ _ eb
          · rw [upd_same, ec, hc, if_pos rfl, List.filter_append, List.map_append, List.filter_cons_of_pos (by exact decide_eq_true hm)]; rfl
        · rw [decide_eq_false hm, if_neg Bool.false_ne_true]
          refine ⟨sx, ?_⟩
          rw [eD, ec, hc, if_pos rfl, List.filter_append, List.filter_cons_of_neg (by rw [decide_eq_false hm]; exact Bool.false_ne_true), List.filter_nil, List.append_nil]
    rintro H' ⟨sx, eD⟩
    rw [List.length_map, Paired.length pD2, List.take_length] at eD
    have s3 := sH2.trans sx
    have hS3 := hS.keep sx
    have elv3 := sx _ _ elv2
    have hcm : ∀ z ∈ (cameD ds).filter (fun z => decide (z ∈ liv ds)), z ∈ liv ds := fun z hz => of_decide_eq_true (List.mem_filter.mp hz).2
    have hcp : 0 < ((cameD ds).filter fun z => decide (z ∈ liv ds)).length := by
      obtain ⟨z, hz⟩ := List.exists_mem_of_length_pos hpos
      exact List.length_pos_of_mem (List.mem_filter.mpr ⟨hH.liv_came z hz, decide_eq_true hz⟩)
    generalize ((cameD ds).filter fun z => decide (z ∈ liv ds)) = cm at eD hcm hcp
    have hP3 := hP.same s3
    clear hS sH2 eD2 pD2 elv2 sx nD
    obtain ⟨qs, eS, hqs, hSm⟩ := id hS3
    have qpos : 0 < qs.length := by rw [hqs]; exact hpos
    have qne : qs.map V.ref ≠ [] := by
      intro e
      have := congrArg List.length e
      rw [List.length_map] at this
      rw [this] at qpos
      cases qpos
    obtain ⟨ql, ez, cz, zz, hzl, eqz⟩ : ∃ (ql : Addr) (_ : atI (qs.map V.ref) (-1) = some (.ref ql)) (c : Nat) (z : Str), z ∈ liv ds ∧ H' ql = some (.tup [.int (c : Nat), .str z]) := by
      have hm := List.getLast_mem qne
      obtain ⟨q, hq, e⟩ := List.mem_map.mp hm
      obtain ⟨c, z, h1, h2⟩ := hSm q hq
      exact ⟨q, by rw [at_lastV qne, ← e], c, z, h1, h2⟩
    have retL : ∀ (σ' : L2.St) (H4 : Hp) (Q' : VK), σ'[5]? = some (some (.ref p2)) → Same H' H4 → Q' (.str zz) H4 → tOp (rIxT K) (tOp (rIxL K) (tVar 5) (tUn (rU fun i => V.int (-i)) (tC (.int 1)))) (tC (.int 1)) σ' H4 Q' := fun σ' H4 Q' hσ s4 q' =>
      ⟨.ref p2, hσ, 1, rfl, p2, qs.map V.ref, _, _, rfl, rfl, sql_of (s4 _ _ eS), ez, ql, _, 1, .str zz, rfl, rfl, sqt_of (s4 _ _ eqz), rfl, q'⟩
    have Qz : ∀ z H4, z ∈ liv ds → Same H' H4 → Q (.str z) H4 := fun z H4 hz s4 => q z H4 hz (SameX.of (s3.trans s4)) ((hP3.same s4).mono (by omega))
    refine rs_no2 (fun H4 => H4 = H') (fun H4 => H4 = H' ∧ 2 ≤ wy) (fun Q1 qt qf => ?_) (fun H4 e => ?_) (fun H4 ⟨e, wy2⟩ => ?_)
    · refine ⟨_, rfl, _, _, rfl, rfl, _, rfl, ?_⟩
      cases hb : decide (((wy : Nat) : Int) < 2) with
      | true => exact qt _ rfl
      | false => exact qf _ ⟨rfl, by have := of_decide_eq_false hb; omega⟩
    · subst e
      exact retL _ H4 Q rfl (Same.refl _) (Qz zz H4 hzl (Same.refl _))
    subst e
    refine rs_no2 (fun H5 => H5 = H4 ∧ wy < 5) (fun H5 => H5 = H4) (fun Q1 qt qf => ?_) (fun H5 ⟨e, w5⟩ => ?_) (fun H5 e => ?_)
    · refine ⟨_, rfl, _, _, rfl, rfl, _, rfl, ?_⟩
      cases hb : decide (((wy : Nat) : Int) < 5) with
      | true => exact qt _ ⟨rfl, by have := of_decide_eq_true hb; omega⟩
      | false => exact qf _ rfl
    · subst e
      refine r_ret ?_
      obtain ⟨q0, hq0⟩ : ∃ q0, qs[0]? = some q0 := ⟨qs[0], List.getElem?_eq_getElem qpos⟩
      obtain ⟨c0, z0, hz0, eq0⟩ := hSm q0 (List.mem_of_getElem? hq0)
      refine ⟨.ref p2, rfl, p2, qs.map V.ref, 0, .ref q0, rfl, rfl, sql_of eS, atI_nat (j := 0) (by rw [List.getElem?_map, hq0]; rfl), q0, _, 1, .str z0, rfl, rfl, sqt_of eq0, rfl,
        .ref D, rfl, D, cm.map V.str, 0, _, rfl, rfl, sql_of eD, at_ns (j := 0) rfl hcp, .ref D, rfl, 1, rfl, D, cm.map V.str, _, _, rfl, rfl, sql_of eD, at_last hcp, by show 3 ≤ sizeLine; decide, fun p np => ?_⟩
      have sn := same_upd (o := .lst [.str z0, .str cm[0], .str (cm[cm.length - 1]'(by omega))]) np
      have hw : wy = 2 ∨ wy = 3 ∨ wy = 4 := by omega
      rcases hw with rfl | rfl | rfl
      · exact ⟨_, rfl, _, _, rfl, rfl, p, _, _, .str z0, rfl, rfl, sql_of upd_same, rfl, Qz _ _ hz0 sn⟩
      · exact ⟨_, rfl, _, _, rfl, rfl, p, _, _, .str cm[0], rfl, rfl, sql_of upd_same, rfl, Qz _ _ (hcm _ (List.getElem_mem _)) sn⟩
      · exact ⟨_, rfl, _, _, rfl, rfl, p, _, _, .str (cm[cm.length - 1]'(by omega)), rfl, rfl, sql_of upd_same, rfl, Qz _ _ (hcm _ (List.getElem_mem _)) sn⟩
    subst e
    have fin : ∀ (σ' : L2.St), σ'[0]? = some (some (.ref a)) → σ'[2]? = some (some (.ref lv)) → tCall (spOf2 K) [] E0 (tCons (tVar 0) (tCons (tVar 2) tNil)) σ' H5 Q := fun σ' h0 h2 =>
      ⟨.ref a, h0, .ref lv, h2, .inl ⟨a, lv, (sortS (liv ds)).map V.str, N, rfl, hP3, by omega, sql_of elv3, nlv, by rw [List.length_map, lvL]; exact hpos, by rw [List.length_map, lvL]; omega, fun ix v H6 hv s6 hp6 => by
        obtain ⟨z, hz, rfl⟩ := map_get hv
        exact q z H6 (lvM.mp (List.mem_of_getElem? hz)) ((SameX.of s3).trans s6) (hp6.mono (by omega))⟩⟩
    refine rs_no2 (fun H6 => H6 = H5) (fun H6 => H6 = H5) (fun Q1 qt qf => ?_) (fun H6 e => ?_) (fun H6 e => ?_)
    · refine ⟨_, rfl, rfl, _, rfl, ?_⟩
      cases hb : decide (V.int (wy : Nat) = V.int 5) with
      | true => exact qt _ rfl
      | false => exact qf _ rfl
    · subst e
      refine rs_par ?_
      intro be nbe
      have sb := same_upd (o := .dK []) nbe
      have ebe : (upd H6 be (.dK [])) be = some (.dK (encL [])) := upd_same
      have elvb := sb _ _ elv3
      generalize (upd H6 be (.dK [])) = Hb at sb ebe elvb ⊢
      refine ⟨.ref lv, rfl, lv, rfl, ⟨_, sql_of elvb⟩, fun D1 nD1 => lc_list (xs := (sortS (liv ds)).map V.str) (fun i H' => ∃ tp : List Addr, Same Hb H' ∧ H' D1 = some (.lst (tp.map V.ref)) ∧ Paired (fun q n => H' q = some (.tup [.str n, .bl true])) tp ((sortS (liv ds)).take i)) ⟨[], same_upd nD1, upd_same, .nil⟩ (fun i H' _ ⟨_, w, _⟩ => sql_of (w _ _ elvb)) ?_ ?_⟩
      · rintro i x H' hx ⟨tp, sx, eD1, hp⟩
        obtain ⟨z, hz, rfl⟩ := map_get hx
        have htp : tp.length ≤ 100 := by rw [Paired.length hp, List.length_take]; omega
        refine ⟨rfl, r_yes ?_⟩
        refine ⟨.str z, rfl, by show 2 ≤ sizeLine; decide, fun p np => ?_⟩
        have s2 := same_upd (o := .tup [.str z, .bl true]) np
        have npD : p ≠ D1 := fun y => by rw [y, eD1] at np; cases np
        refine ⟨_, s2 _ _ eD1, smallM (by rw [List.length_map]; omega), tp ++ [p], fun b o e => ?_, by rw [upd_same, List.map_append]; rfl, ?_⟩
        · rw [upd_ne (ne_of_none e nD1)]; exact s2 _ _ (sx _ _ e)
        · rw [take_snoc hz]
          refine paired_snoc ?_ (paired_mono (fun q n e => ?_) hp)
          · rw [upd_ne npD, upd_same]
          · rw [upd_ne (fun y => by rw [y, eD1] at e; cases e)]
            exact s2 _ _ e
      rintro H' ⟨tp, sx, eD1, hp⟩
      rw [List.length_map, List.take_length] at hp
      refine ⟨D1, tp, encL (sortS (liv ds)), rfl, sql_of eD1, paired_map (paired_mono (fun q n e => sqt_of e) hp), fun he nhe => ?_⟩
      have hnL : (sortS (liv ds)).Nodup := (sortS_perm _).nodup_iff.mpr hH.liv_nodup
      rw [mergeK_new (by unfold encL; rw [List.nil_append, List.map_map]; exact List.Pairwise.map _ (fun a b h e => h (Sum.inr.inj e)) hnL), List.nil_append]
      have s7 := same_upd (o := .dK (encL (sortS (liv ds)))) nhe
      have ehe : (upd H' he (.dK (encL (sortS (liv ds))))) he = some (.dK (encL (sortS (liv ds)))) := upd_same
      have ebe7 := s7 _ _ (sx _ _ ebe)
      have s67 : Same H6 (upd H' he (.dK (encL (sortS (liv ds))))) := (sb.trans sx).trans s7
      have nhb : he ≠ be := fun y => by rw [y, sx _ _ ebe] at nhe; cases nhe
      generalize (upd H' he (.dK (encL (sortS (liv ds))))) = H7 at ehe ebe7 s67 ⊢
      clear nD1 eD1 hp sx s7 sb elvb ebe
      refine ⟨_, _, rfl, ?_⟩
      refine rs_listR (fun l' xs H1 => ∃ us : List Addr, xs = us.map V.ref ∧ Same H7 H1 ∧ H1 l' = some (.lst xs) ∧ Paired (TieL H1) us (sortP (elderT ds)))
        (fun l' xs H1 i σ' H' => ∃ (o9 o10 : Option V) (us : List Addr) (bs : List Str), σ' = [some (.ref a), some (.ref l), some (.ref lv), some (.int wy), some (.ref d), some (.ref p2), some (.ref D), some (.ref be), some (.ref he), o9, o10, none, none] ∧ Same H6 H' ∧ H' he = some (.dK (encL (sortS (liv ds)))) ∧ H' be = some (.dK (encL bs)) ∧ (∀ z ∈ bs, z ∈ liv ds) ∧ bs.Nodup ∧ xs = us.map V.ref ∧ H' l' = some (.lst xs) ∧ Paired (TieL H') us (sortP (elderT ds)))
        (fun Q1 q1 => ?_) (fun l' xs H1 ⟨us, w1, w2, w3, w4⟩ => ⟨_, _, us, [], rfl, s67.trans w2, w2 _ _ ehe, w2 _ _ ebe7, (fun _ z => nomatch z), List.nodup_nil, w1, w3, w4⟩) (fun l' xs H1 i σ' H' ⟨_, _, _, _, _, _, _, _, _, _, _, w, _⟩ => sql_of w) ?_ ?_
      · exact ⟨.ref l, rfl, l, ds, rfl, (hD.keep s3).keep s67, hH, hl, fun p H8 s8 np ⟨pl, tl, us, w1, w2, w3, w4⟩ => ⟨p, [.ref pl, .ref tl], 1, .ref tl, rfl, rfl, sqt_of w1, rfl, q1 tl (us.map V.ref) H8 ⟨us, rfl, s8, w3, w4⟩⟩⟩
      · rintro l' xs H1 i x σ' H' _ hx ⟨o9, o10, us, bs, rfl, sx, eh, eb, hb1, hb2, rfl, el', hu'⟩
        obtain ⟨q', hq', rfl⟩ := map_get hx
        obtain ⟨t, ht, et⟩ := paired_get hu' hq'
        have bl : bs.length ≤ 100 := Nat.le_trans (len_subN hb1 hb2) (by omega)
        refine ⟨q', [.str t.1, .str t.2], rfl, sqt_of et, rfl, _, [.str t.2], rfl, _, [], rfl, rfl, ?_⟩
        have g1 : DGet H' he (.str t.1) (valV (encL (sortS (liv ds))) (Sum.inr t.1)) := DGet.k (k := Sum.inr t.1) eh
        have g2 : DGet H' he (.str t.2) (valV (encL (sortS (liv ds))) (Sum.inr t.2)) := DGet.k (k := Sum.inr t.2) eh
        have v1 : ∀ z, (valV (encL (sortS (liv ds))) (Sum.inr z)).isSome = decide (z ∈ liv ds) := fun z => by
          rw [encL_val]
          by_cases m : z ∈ liv ds
          · rw [if_pos (lvM.mpr m), decide_eq_true m]; rfl
          · rw [if_neg (fun h => m (lvM.mp h)), decide_eq_false m]; rfl
        have nx : ∀ z, z ∈ liv ds → ∃ (o9 o10 : Option V) (us' : List Addr) (bs' : List Str), ([some (.ref a), some (.ref l), some (.ref lv), some (.int wy), some (.ref d), some (.ref p2), some (.ref D), some (.ref be), some (.ref he), some (.str t.1), some (.str t.2), none, none] : L2.St) = [some (.ref a), some (.ref l), some (.ref lv), some (.int wy), some (.ref d), some (.ref p2), some (.ref D), some (.ref be), some (.ref he), o9, o10, none, none] ∧ Same H6 (upd H' be (.dK (putK (encL bs) (Sum.inr z) (.bl true)))) ∧ (upd H' be (.dK (putK (encL bs) (Sum.inr z) (.bl true)))) he = some (.dK (encL (sortS (liv ds)))) ∧ (upd H' be (.dK (putK (encL bs) (Sum.inr z) (.bl true)))) be = some (.dK (encL bs')) ∧ (∀ z ∈ bs', z ∈ liv ds) ∧ bs'.Nodup ∧ us.map V.ref = us'.map V.ref ∧ (upd H' be (.dK (putK (encL bs) (Sum.inr z) (.bl true)))) l' = some (.lst (us.map V.ref)) ∧ Paired (TieL (upd H' be (.dK (putK (encL bs) (Sum.inr z) (.bl true))))) us' (sortP (elderT ds)) := by
          intro z hz
          refine ⟨_, _, us, if z ∈ bs then bs else bs ++ [z], rfl, fun b o e => ?_, ?_, ?_, ?_, ?_, rfl, ?_, ?_⟩
          · rw [upd_ne (ne_of_none e nbe)]; exact sx _ _ e
          · rw [upd_ne nhb]; exact eh
          · rw [upd_same, encL_put]
          · intro y hy
            by_cases m : z ∈ bs
            · rw [if_pos m] at hy; exact hb1 y hy
            · rw [if_neg m] at hy
              rcases List.mem_append.mp hy with hy | hy
              · exact hb1 y hy
              · rw [List.mem_singleton.mp hy]; exact hz
          · by_cases m : z ∈ bs
            · rw [if_pos m]; exact hb2
            · rw [if_neg m, List.nodup_append]
              exact ⟨hb2, by simp, fun x hx y hy e => m (by rw [List.mem_singleton.mp hy] at e; exact e ▸ hx)⟩
          · rw [upd_ne (fun y => by rw [y, eb] at el'; cases el')]; exact el'
          · exact paired_mono (fun q u e => by
              have e : H' q = _ := e
              show (upd _ be _) q = _
              rw [upd_ne (fun y => by rw [y, eb] at e; cases e)]
              exact e) hu'
        have dpk : ∀ z, DPut H' be (.str z) (.bl true) (upd H' be (.dK (putK (encL bs) (Sum.inr z) (.bl true)))) := fun z => DPut.k (k := Sum.inr z) eb (smallM (by rw [encL_len]; omega))
        refine ⟨.str t.1, rfl, .ref he, rfl, he, _, rfl, g1, .str t.2, rfl, .ref he, rfl, he, _, rfl, g2, rfl, _, rfl, ite2 (fun c => ?_) (fun c => ?_)⟩
        · rw [v1, v1] at c
          refine ⟨.ref be, rfl, .str t.1, rfl, .ref he, rfl, he, _, rfl, g1, _, rfl, ite2 (fun m => ?_) (fun m => ?_)⟩
          · rw [v1] at m
            exact ⟨.str t.1, rfl, be, _, rfl, dpk t.1, nx t.1 (of_decide_eq_true m)⟩
          · rw [v1] at m
            refine ⟨.str t.2, rfl, be, _, rfl, dpk t.2, nx t.2 ?_⟩
            by_cases m2 : t.2 ∈ liv ds
            · exact m2
            · exfalso
              have m1 : t.1 ∉ liv ds := fun h => m (decide_eq_true h)
              rw [decide_eq_false m1, decide_eq_false m2] at c
              exact absurd c (by decide)
        · exact ⟨_, _, us, bs, rfl, sx, eh, eb, hb1, hb2, rfl, el', hu'⟩
      · rintro l' xs H1 σ' H' _ ⟨o9, o10, us, bs, rfl, sx, eh, eb, hb1, hb2, _, _, _⟩
        have bl : bs.length ≤ 100 := Nat.le_trans (len_subN hb1 hb2) (by omega)
        refine r_ret ?_
        refine ⟨.ref be, rfl, fun nl nnl => ⟨be, nl, encL bs, rfl, rfl, (same_upd nnl) _ _ eb, upd_same, _, rfl, ite2 (fun c => ?_) (fun c => ?_)⟩⟩
        · have sA := sx.trans (same_upd (o := .dK []) nnl)
          have bpos : 0 < bs.length := by
            cases bs with
            | nil => exact absurd c (by decide)
            | cons x l => exact Nat.succ_pos _
          refine ⟨.ref a, rfl, .ref be, rfl, be, _, rfl, (same_upd nnl) _ _ eb, fun p1 n1 => ?_⟩
          rw [encL_keys]
          refine ⟨p1, bs, rfl, sql_of upd_same, Nat.le_of_lt (smallM (by omega)), fun p3 n3 => ?_⟩
          have sB := (sA.trans (same_upd (o := .lst (bs.map V.str)) n1)).trans (same_upd (o := .lst ((sortS bs).map V.str)) n3)
          have hpB := hP3.same sB
          have ep3 : (upd (upd (upd H' nl (.dK [])) p1 (.lst (bs.map V.str))) p3 (.lst ((sortS bs).map V.str))) p3 = some (.lst ((sortS bs).map V.str)) := upd_same
          have sl : (sortS bs).length = bs.length := (sortS_perm _).length_eq
          refine .inl ⟨a, p3, (sortS bs).map V.str, N, rfl, hpB, by omega, sql_of ep3, pot_ne_strs hpB ep3, by rw [List.length_map, sl]; exact bpos, by rw [List.length_map, sl]; omega, fun ix v H8 hv s8 hp8 => ?_⟩
          obtain ⟨z, hz, rfl⟩ := map_get hv
          exact q z H8 (hb1 z ((sortS_perm _).mem_iff.mp (List.mem_of_getElem? hz))) ((SameX.of (s3.trans sB)).trans s8) (hp8.mono (by omega))
        · have sA := sx.trans (same_upd (o := .dK []) nnl)
          exact retL _ _ Q rfl sA (Qz zz _ hzl sA)
    subst e
    exact fin _ rfl rfl
end
end Hw

set_option Elab.async false
set_option linter.all false
set_option maxRecDepth 100000
set_option maxHeartbeats 4000000
namespace Hw
open PySem L2 PyProof.Rows
abbrev sHist : Stmt := topS 58
theorem cut_to (xs : List V) (k : Nat) : cutV xs none (some (k : Int)) = xs.take k := by
  unfold cutV
  rw [HT.sIx_none, HT.sIx_nat, Nat.sub_zero, List.drop_zero]
  by_cases h : k ≤ xs.length
  · rw [Nat.min_eq_left h]
  · rw [Nat.min_eq_right (by omega), List.take_length, List.take_of_length_le (by omega)]
theorem cut_from (xs : List V) (k : Nat) : cutV xs (some (k : Int)) none = xs.drop k := by
  unfold cutV
  rw [HT.sIx_none, HT.sIx_nat]
  by_cases h : k ≤ xs.length
  · rw [Nat.min_eq_left h, List.take_of_length_le (by rw [List.length_drop]; omega)]
  · rw [Nat.min_eq_right (by omega), List.drop_length, List.take_nil, List.drop_of_length_le (by omega)]
theorem if_two {t : TT} {A B : TS} {D : Ends} {σ : L2.St} {H : Hp} (R1 R2 : Hp → Prop) (ht : ∀ Q : Bool → Hp → Prop, (∀ H', R1 H' → Q true H') → (∀ H', R2 H' → Q false H') → t σ H Q) (h1 : ∀ H', R1 H' → A D σ H') (h2 : ∀ H', R2 H' → B D σ H') : tIfS t A B D σ H :=
  ht _ (fun H' r => by show if true = true then _ else _; rw [if_pos rfl]; exact h1 H' r) (fun H' r => by show if false = true then _ else _; rw [if_neg Bool.false_ne_true]; exact h2 H' r)
theorem rs_rngE {wi : TI} {g : TG} {tb u : TS} {D : Ends} {σ : L2.St} {H : Hp} (lo : Int) (P0 : Nat → Hp → Prop) (Pv : Nat → Nat → L2.St → Hp → Prop) (hw : ∀ R : It → Hp → Prop, (∀ n H1, P0 n H1 → R (Itr lo n) H1) → wi σ H R) (h0 : ∀ n H1, P0 n H1 → Pv n 0 σ H1)
    (hs : ∀ n i σ H, i < n → Pv n i σ H → g (.int (lo + i)) σ H fun σ2 H2 => tb { D with nx := Pv n (i + 1), ct := Pv n (i + 1), bk := u D } σ2 H2) (hd : ∀ n σ H, Pv n n σ H → u D σ H) : tSeq (tFor wi g tb) u D σ H :=
  hw _ fun n H1 p => for_range (D := { D with nx := u D }) (Pv n) (h0 n H1 p) (hs n) (hd n)
theorem rs_setP {te : TE} {i : Nat} {u : TS} {D : Ends} {σ : L2.St} {H : Hp} (P0 : V → Hp → Prop) (hw : ∀ Q : VK, (∀ v H1, P0 v H1 → Q v H1) → te σ H Q) (h : ∀ v H1, P0 v H1 → u D (σ.set i (some v)) H1) : tSeq (tAsg te (gName i)) u D σ H := rs_set (hw _ h)
/-- a history as it is drawn -/
structure HistI (a dl sp : Addr) (wd : Bool) (H : Hp) (M pl mo i : Nat) (ds : List Deed) (qs : List Addr) (ss : List Str) (H' : Hp) : Prop where
  sx : SameX a H H'
  pot : Pot H' a M
  ed : H' dl = some (.lst (qs.map V.ref))
  dd : Paired (DeedAt H') qs ds
  es : H' sp = some (.lst (ss.map V.str))
  hist : Hist ds
  wood : WoodD wd ds
  nod : (cameD ds ++ ss).Nodup
  nm : ∀ z ∈ ss, Nm z
  len : ds.length ≤ pl + i
  few : mo ≤ ss.length + i
  sl : ss.length ≤ mo
theorem HistI.step {a dl sp : Addr} {wd : Bool} {H H' H'' : Hp} {M M' pl mo i : Nat} {ds : List Deed} {qs : List Addr} {ss : List Str} (w : HistI a dl sp wd H M pl mo i ds qs ss H') (s : SameX a H' H'') (hp : Pot H'' a M') : HistI a dl sp wd H M' pl mo i ds qs ss H'' :=
  ⟨w.sx.trans s, hp, s _ _ (Ne.symm (pot_ne_refs w.pot w.ed)) w.ed, paired_mono (fun q d e => e.sx w.pot s) w.dd, s _ _ (Ne.symm (pot_ne_strs w.pot w.es)) w.es, w.hist, w.wood, w.nod, w.nm, w.len, w.few, w.sl⟩
/-- what is put to the deeds' list keeps all that is no list of names or of deeds -/
theorem HistI.kd {a dl sp : Addr} {wd : Bool} {H H' H2 : Hp} {M pl mo i : Nat} {ds : List Deed} {qs : List Addr} {ss : List Str} (w : HistI a dl sp wd H M pl mo i ds qs ss H') (k : ∀ b o, b ≠ dl → b ≠ sp → H' b = some o → H2 b = some o) : ∀ (q : Addr) (d : Deed), DeedAt H' q d → DeedAt H2 q d := fun q d e => by
  have kt : ∀ {b : Addr} {vs : List V}, H' b = some (.tup vs) → H2 b = some (.tup vs) := fun {b vs} e => k b _ (fun y => by rw [y, w.ed] at e; cases e) (fun y => by rw [y, w.es] at e; cases e) e
  cases d with
  | come n ts =>
    obtain ⟨tq, h1, h2⟩ := e
    exact ⟨tq, kt h1, kt h2⟩
  | die n => exact kt e
def spHist : Sp := fun vs H Q _ => ∃ (a : Addr) (pl mo : Nat) (wd : Bool) (N : Nat), vs = [.ref a, .int pl, .int mo, .bl wd] ∧ Pot H a N ∧ N < 200000000 ∧ 2 ≤ pl ∧ pl ≤ 30 ∧ mo ≤ 30 ∧
  ∀ p ds H', Hist ds → ds.length ≤ pl + mo → WoodD wd ds → DeedsAt H' p ds → SameX a H H' → Pot H' a (N + 3000) → Q (.ref p) H'
section
variable {P : Program} {w : World} {K : PySem.W.Frag} {mg : Str → Option Value} {base : Heap}
theorem scHist : FnScope ["pot", "places", "more", "wood", "many", "names", "deeds", "spare", "way", "quiet", "lap", "living"] ["pot", "places", "more", "wood"] (defScope sHist) := ⟨rfl, rfl, rfl, by decide +kernel, rfl, by decide +kernel, by decide +kernel⟩
theorem ok_hist {f fT fO fN fG fL fC fX : Addr} {fd fdT fdO fdN fdG fdL fdC fdX : FuncData} {k : Nat} (F : Fun K "_law_history" "_law_history" sHist f fd) (B : Blt mg)
    (GT : FnOk P w K mg base CX0 k fT fdT ["pot", "upto"] spTake) (gT : mg "_law_take" = some (.ref fT)) (kT : PySem.W.keepIn K (.ref fT) = true) (bT : Binds K fdT ["pot", "upto"] [])
    (GO : FnOk P w K mg base CX0 k fO fdO ["pot", "some"] (spOf2 K)) (gO : mg "_law_of" = some (.ref fO)) (kO : PySem.W.keepIn K (.ref fO) = true) (bO : Binds K fdO ["pot", "some"] [])
    (GN : FnOk P w K mg base CX0 k fN fdN ["pot", "many"] spNames) (gN : mg "_law_names" = some (.ref fN)) (kN : PySem.W.keepIn K (.ref fN) = true) (bN : Binds K fdN ["pot", "many"] [])
    (GG : FnOk P w K mg base CX0 k fG fdG ["pot", "names", "wood"] spGrown) (gG : mg "_law_grown" = some (.ref fG)) (kG : PySem.W.keepIn K (.ref fG) = true) (bG : Binds K fdG ["pot", "names", "wood"] [])
    (GL : FnOk P w K mg base CX0 k fL fdL ["deeds"] spLiving) (gL : mg "_law_living" = some (.ref fL)) (kL : PySem.W.keepIn K (.ref fL) = true) (bL : Binds K fdL ["deeds"] [])
    (GC : FnOk P w K mg base CX0 k fC fdC ["pot", "living", "wood"] spComeT) (gC : mg "_law_come_ties" = some (.ref fC)) (kC : PySem.W.keepIn K (.ref fC) = true) (bC : Binds K fdC ["pot", "living", "wood"] [])
    (GX : FnOk P w K mg base CX0 k fX fdX ["pot", "deeds", "living", "way"] spNextD) (gX : mg "_law_next_dead" = some (.ref fX)) (kX : PySem.W.keepIn K (.ref fX) = true) (bX : Binds K fdX ["pot", "deeds", "living", "way"] []) :
    FnOk P w K mg base CX0 (k + 1) f fd ["pot", "places", "more", "wood"] spHist := by
  refine F.ok scHist (fun vs H Q E h => ?_) (fun cdv A outer s H vs Q E hr h => ?_)
  · obtain ⟨a, pl, mo, wd, N, rfl, _⟩ := h
    rfl
  · obtain ⟨a, pl, mo, wd, N, rfl, hP, hN, hp2, hpl, hmo, q⟩ := h
    have hu := hu_of hr
    have hu64 := hr.units
    refine ⟨_, pss_cons (ps_set (i := 4) scHist.nd rfl (.inl rfl) (pe_op op_add pe_int (pe_call GT hr (by rfl) gT kT bT .nil pass0 (pa_cons (pv 0) (pa_cons (pe_op op_sub (pv 1) pe_int) pa_nil)))))
      (pss_cons (ps_set (i := 5) scHist.nd rfl (.inl rfl) (pe_call GN hr (by rfl) gN kN bN .nil pass0 (pa_cons (pv 0) (pa_cons (pe_op op_add (pv 4) (pv 2)) pa_nil))))
      (pss_cons (ps_par3 (i := 6) (j := 7) (l := 8) rfl scHist.nd rfl rfl rfl (by decide) (by decide) (by decide) rfl rfl rfl (pa_cons (pe_call GG hr (by rfl) gG kG bG .nil pass0 (pa_cons (pv 0) (pa_cons (pe_slice sl_list (pv 5) po_none (po_some (pv 4))) (pa_cons (pv 3) pa_nil))))
          (pa_cons (pe_slice sl_list (pv 5) (po_some (pv 4)) po_none) (pa_cons (pe_call GT hr (by rfl) gT kT bT .nil pass0 (pa_cons (pv 0) (pa_cons pe_int pa_nil))) pa_nil))) rfl)
      (pss_cons (ps_set (i := 9) scHist.nd rfl (.inl rfl) (pe_call GO hr (by rfl) gO kO bO .nil pass0 (pa_cons (pv 0) (pa_cons (pe_lst (pa_cons pe_int (pa_cons pe_int (pa_cons pe_int pa_nil)))) pa_nil))))
      (pss_cons (ps_for PassesOwn.never rfl (pi_range1 (by rfl) B.range (pa_cons (pe_call GT hr (by rfl) gT kT bT .nil pass0 (pa_cons (pv 0) (pa_cons (pe_op op_add (pv 2) pe_int) pa_nil))) pa_nil)) (pg_name (i := 10) scHist.nd rfl (.inl rfl))
        (pss_cons (ps_set (i := 11) scHist.nd rfl (.inl rfl) (pe_call GL hr (by rfl) gL kL bL .nil pass0 (pa_cons (pv 6) pa_nil)))
        (pss_one (ps_if (PW.pt (pw_or (pt_cmpR (op_eqD hu64) (pv 11) (pe_lst pa_nil) (nomark _)) (pw_or1 (pt_cmpR op_eq (pe_call GT hr (by rfl) gT kT bT .nil pass0 (pa_cons (pv 0) (pa_cons (pv 9) pa_nil))) pe_int (nomark _)))))
          (pss_one (ps_expr (pe_bm PySem.F.plainAttrs_list PySem.F.slot_list_append PySem.F.type_list_append mt_append (pv 6) (pa_cons (pe_tup (pa_cons pe_str (pa_cons (pe_bm0 PySem.F.plainAttrs_list PySem.F.slot_list_pop PySem.F.type_list_pop mt_pop (pv 7)) (pa_cons (pe_call GC hr (by rfl) gC kC bC .nil pass0 (pa_cons (pv 0) (pa_cons (pv 11) (pa_cons (pv 3) pa_nil)))) pa_nil)))) pa_nil))))
          (pss_cons (ps_set (i := 8) scHist.nd rfl (.inl rfl) (pe_ifExp (pt_cmpR op_eq (pe_call GT hr (by rfl) gT kT bT .nil pass0 (pa_cons (pv 0) (pa_cons pe_int pa_nil))) pe_int (nomark _)) (pe_call GT hr (by rfl) gT kT bT .nil pass0 (pa_cons (pv 0) (pa_cons pe_int pa_nil))) (pv 8)))
          (pss_one (ps_expr (pe_bm PySem.F.plainAttrs_list PySem.F.slot_list_append PySem.F.type_list_append mt_append (pv 6) (pa_cons (pe_tup (pa_cons pe_str (pa_cons (pe_call GX hr (by rfl) gX kX bX .nil pass0 (pa_cons (pv 0) (pa_cons (pv 6) (pa_cons (pv 11) (pa_cons (pv 8) pa_nil))))) pa_nil))) pa_nil)))))))))
      (pss_one (ps_ret (pv 6))))))), ?_⟩
    refine rs_set ?_
    refine ⟨.ref a, rfl, _, rfl, _, _, rfl, rfl, a, _, N, rfl, hP, by omega, by omega, by omega, fun r H1 r0 r1 s1 hp1 => ⟨_, _, rfl, rfl, ?_⟩⟩
    obtain ⟨r, rfl⟩ : ∃ n : Nat, r = (n : Int) := ⟨r.toNat, by omega⟩
    have hr1 : r + 2 ≤ pl := by omega
    have ew : (fun i j : Int => V.int (i + j)) 2 (r : Nat) = V.int ((2 + r : Nat) : Int) := congrArg V.int (by show (2 : Int) + (r : Nat) = ((2 + r : Nat) : Int); omega)
    rw [ew]
    refine rs_set ?_
    refine ⟨.ref a, rfl, _, rfl, _, rfl, _, _, rfl, rfl, a, 2 + r + mo, N + 1, ?_, hp1, by omega, by omega, fun nl names H2 hnl hnn hnN s2 npn en hp2' => ?_⟩
    · exact congrArg (fun z => [V.ref a, V.int z]) (show ((2 + r : Nat) : Int) + (mo : Nat) = ((2 + r + mo : Nat) : Int) by omega)
    have nnl := pot_ne_strs hp2' en
    refine rs_par3 ?_
    refine ⟨.ref a, rfl, .ref nl, rfl, _, rfl, _, rfl, nl, _, rfl, sql_of en, fun l1 n1 => ?_⟩
    rw [cut_to, ← List.map_take]
    have t1 := same_upd (o := .lst ((names.take (2 + r)).map V.str)) n1
    have hp3 := hp2'.same t1
    refine ⟨.bl wd, rfl, a, l1, names.take (2 + r), wd, _, rfl, hp3, by omega, upd_same, hnn.sublist (List.take_sublist ..), fun z hz => hnN z (List.mem_of_mem_take hz), by rw [List.length_take]; omega, fun dl ds H3 hist hdl hcame hliv hwood hdeeds ndl dla s3 hp4 => ?_⟩
    have en3 := s3 _ _ (Ne.symm nnl) (t1 _ _ en)
    refine ⟨.ref nl, rfl, _, rfl, _, rfl, nl, _, rfl, sql_of en3, fun sp nsp => ?_⟩
    rw [cut_from, ← List.map_drop]
    have t3 := same_upd (o := .lst ((names.drop (2 + r)).map V.str)) nsp
    have hp5 := hp4.same t3
    obtain ⟨qs, ed, dd⟩ := hdeeds
    have hnt : (names.take (2 + r)).length = 2 + r := by rw [List.length_take]; omega
    rw [hnt] at hp5 hdl
    have sxA : SameX a H (upd H2 l1 (.lst ((names.take (2 + r)).map V.str))) := (s1.trans s2).trans (.of t1)
    have sxB := sxA.trans s3
    have hdl0 : ∀ b o, b ≠ a → H b = some o → b ≠ dl := fun b o hb e z => by
      have := sxA _ _ hb e
      rw [z, ndl] at this
      cases this
    have hsp0 : ∀ b o, b ≠ a → H b = some o → b ≠ sp := fun b o hb e z => by
      have := sxB _ _ hb e
      rw [z, nsp] at this
      cases this
    have spa : sp ≠ a := fun z => hp4.some (z ▸ nsp)
    have dlsp : dl ≠ sp := ne_of_none ed nsp
    have w0 : HistI a dl sp wd H (N + 1400) pl mo 0 ds qs (names.drop (2 + r)) (upd H3 sp (.lst ((names.drop (2 + r)).map V.str))) :=
      ⟨sxB.trans (.of t3), hp5.mono (by omega), t3 _ _ ed, paired_mono (fun q d e => e.keep t3) dd, upd_same, hist, hwood, by rw [hcame, List.take_append_drop]; exact hnn, fun z hz => hnN z (List.mem_of_mem_drop hz), by omega, by rw [List.length_drop]; omega, by rw [List.length_drop]; omega⟩
    refine ⟨.ref a, rfl, a, 7, _, rfl, hp5, by omega, by decide, by decide, fun wy H5 wy0 wy1 s5 hp6 => ⟨_, _, _, rfl, ?_⟩⟩
    obtain ⟨wy, rfl⟩ : ∃ n : Nat, wy = (n : Int) := ⟨wy.toNat, by omega⟩
    have w5 := w0.step (M' := N + 1400) s5 (hp6.mono (by omega))
    clear hp6 hp5 hp4 hp3 hp2' hp1 w0 s5 s3 s2 s1 t1 t3 ed dd en en3 npn n1 sxA sxB hnt hwood hist hcame hliv hdl ndl nsp
    refine rs_set ?_
    refine ⟨.ref a, rfl, by show 3 ≤ sizeLine; decide, fun lq nlq => .inl ⟨a, lq, [.int 3, .int 6, .int 100], N + 1400, rfl, w5.pot.same (same_upd nlq), by omega, sql_of upd_same, fun e => w5.pot.some (e ▸ nlq), by decide, by decide, fun ix v H6 hv s6 hp6 => ?_⟩⟩
    obtain ⟨qt, rfl, hq1, hq2⟩ : ∃ m : Nat, v = .int m ∧ 0 < m ∧ m ≤ 100 := by
      have := List.mem_of_getElem? hv
      simp only [List.mem_cons, List.not_mem_nil, or_false] at this
      rcases this with rfl | rfl | rfl
      · exact ⟨3, rfl, by decide, by decide⟩
      · exact ⟨6, rfl, by decide, by decide⟩
      · exact ⟨100, rfl, by decide, by decide⟩
    have w6 := w5.step ((SameX.of (same_upd (o := .lst [.int 3, .int 6, .int 100]) nlq)).trans s6) hp6
    clear w5 nlq s6 hp6
    refine rs_rngE 0 (fun n H' => n ≤ mo ∧ HistI a dl sp wd H (N + 1402) pl mo 0 ds qs (names.drop (2 + r)) H') (fun n i σ' H' => n ≤ mo ∧ ∃ (wy : Nat) (o10 o11 : Option V) (ds : List Deed) (qs : List Addr) (ss : List Str), wy < 7 ∧ σ' = [some (.ref a), some (.int (pl : Nat)), some (.int (mo : Nat)), some (.bl wd), some (.int ((2 + r : Nat) : Int)), some (.ref nl), some (.ref dl), some (.ref sp), some (.int (wy : Nat)), some (.int (qt : Nat)), o10, o11] ∧ HistI a dl sp wd H (N + 1402 + 20 * i) pl mo i ds qs ss H')
      (fun R hR => ?_) (fun n H' ⟨h1, h2⟩ => ⟨h1, wy, _, _, ds, qs, _, by omega, rfl, h2⟩) ?_ ?_
    · exact ⟨.ref a, rfl, _, rfl, _, _, rfl, rfl, a, _, _, rfl, w6.pot, by omega, by omega, by omega, fun n H7 n0 n1 s7 hp7 => ⟨_, rfl, by omega, by omega, hR _ H7 ⟨by omega, w6.step s7 hp7⟩⟩⟩
    · rintro n i σ' H' hi ⟨hn, wy, o10, o11, ds, qs, ss, hwy, rfl, w⟩
      have hdl : ds.length ≤ 60 := by have := w.len; omega
      have hll := w.hist.liv_len
      have lvL : (sortS (liv ds)).length = (liv ds).length := (sortS_perm _).length_eq
      have lvM : ∀ {z : Str}, z ∈ sortS (liv ds) ↔ z ∈ liv ds := (sortS_perm _).mem_iff
      have lvN : ∀ z ∈ sortS (liv ds), Nm z := fun z hz => w.hist.nm z (w.hist.liv_came z (lvM.mp hz))
      have hql : qs.length ≤ 60 := by rw [Paired.length w.dd]; exact hdl
      refine r_gname ?_
      refine rs_set ?_
      refine ⟨.ref dl, rfl, dl, ds, rfl, ⟨qs, w.ed, w.dd⟩, w.hist, by omega, fun lv H2 s2 nlv elv => ?_⟩
      have lsp : lv ≠ sp := fun z => by rw [z, w.es] at nlv; cases nlv
      have ldl : lv ≠ dl := fun z => by rw [z, w.ed] at nlv; cases nlv
      have w2 := w.step (.of s2) (w.pot.same s2)
      have nla := pot_ne_strs w2.pot elv
      refine if_two (fun H3 => SameX a H2 H3 ∧ Pot H3 a (N + 1402 + 20 * i + 1)) (fun H3 => SameX a H2 H3 ∧ Pot H3 a (N + 1402 + 20 * i + 1) ∧ 0 < (liv ds).length) (fun Q1 qt' qf => ?_) (fun H3 ⟨s3, hp3⟩ => ?_) (fun H3 ⟨s3, hp3, hpos⟩ => ?_)
      · refine ⟨.ref lv, rfl, Nat.zero_le _, fun l0 n0 => ⟨.list ((sortS (liv ds)).map PyData.str), .list [], .lst (sql_of ((same_upd n0) _ _ elv)) (strs_dp _), .lst (sql_of upd_same) .nil, strs_lay lvN (fun x hx => hx), by decide +kernel, _, rfl, ?_⟩⟩
        rw [eqv_strs_nil]
        have s0 := same_upd (o := .lst []) n0
        have hp0 := w2.pot.same s0
        refine ite2 (fun c0 => qt' _ ⟨.of s0, hp0.mono (by omega)⟩) (fun c0 => ?_)
        refine ⟨.ref a, rfl, _, rfl, a, qt, _, rfl, hp0, by omega, by omega, by omega, fun rr H4 r0 r1 s4 hp4 => ⟨rfl, _, rfl, ?_⟩⟩
        cases hb : decide (V.int rr = V.int 0) with
        | true => exact qt' _ ⟨(SameX.of s0).trans s4, hp4⟩
        | false => exact qf _ ⟨(SameX.of s0).trans s4, hp4, by rw [← lvL]; exact List.length_pos_iff.mpr (fun e => c0 (decide_eq_true e))⟩
      · have w3 := w2.step s3 hp3
        have elv3 := s3 _ _ (Ne.symm nla) elv
        have hfew := w3.few
        obtain ⟨ss', z, rfl⟩ : ∃ ss' z, ss = ss' ++ [z] := by
          rcases List.eq_nil_or_concat ss with e | ⟨l, x, e⟩
          · rw [e] at hfew
            exact absurd hfew (by show ¬ (mo ≤ 0 + i); omega)
          · exact ⟨l, x, by rw [e, List.concat_eq_append]⟩
        have hnod := w3.nod
        have hsl := w3.sl
        rw [List.length_append] at hfew hsl
        have h1' : ([z] : List Str).length = 1 := rfl
        rw [h1'] at hfew hsl
        have hzN : Nm z := w3.nm z (List.mem_append_right _ List.mem_cons_self)
        have hz1 : z ∉ cameD ds := fun m => (List.nodup_append.mp hnod).2.2 z m z (List.mem_append_right _ List.mem_cons_self) rfl
        have hz2 : z ∉ ss' := fun m => (List.nodup_append.mp (List.nodup_append.mp hnod).2.1).2.2 z m z List.mem_cons_self rfl
        have hnod2 : (cameD ds ++ ss').Nodup := by
          rw [← List.append_assoc] at hnod
          exact (List.nodup_append.mp hnod).1
        have epop : ((ss' ++ [z]).map V.str).dropLast = ss'.map V.str := by rw [List.map_append]; exact List.dropLast_concat
        refine ⟨.ref dl, rfl, .inl ⟨rfl, _, sql_of w3.ed⟩, .ref sp, rfl, .inl ⟨rfl, _, sql_of w3.es⟩, sp, (ss' ++ [z]).map V.str, .str z, rfl, rfl, w3.es, by simp, ?_⟩
        rw [epop]
        have k4 : ∀ b o, b ≠ dl → b ≠ sp → H3 b = some o → (upd H3 sp (.lst (ss'.map V.str))) b = some o := fun b o _ hb e => by rw [upd_ne hb]; exact e
        have w4 : HistI a dl sp wd H (N + 1402 + 20 * i + 1) pl mo (i + 1) ds qs ss' (upd H3 sp (.lst (ss'.map V.str))) := by
          refine ⟨fun b o hb e => by rw [upd_ne (hsp0 b o hb e)]; exact w3.sx b o hb e, ?_, by rw [upd_ne dlsp]; exact w3.ed, paired_mono (w3.kd k4) w3.dd, upd_same, w3.hist, w3.wood, hnod2, fun y hy => w3.nm y (List.mem_append_left _ hy), by have := w3.len; omega, by omega, by omega⟩
          obtain ⟨xx, yy, zz, e, hh⟩ := w3.pot.ex
          exact ⟨xx, yy, zz, by rw [upd_ne (Ne.symm spa)]; exact e, hh⟩
        have elv4 : (upd H3 sp (.lst (ss'.map V.str))) lv = some (.lst ((sortS (liv ds)).map V.str)) := by rw [upd_ne lsp]; exact elv3
        generalize (upd H3 sp (.lst (ss'.map V.str))) = H4 at w4 elv4 ⊢
        refine ⟨.ref a, rfl, .ref lv, rfl, .bl wd, rfl, a, lv, sortS (liv ds), wd, _, rfl, w4.pot, by omega, elv4, (sortS_perm _).nodup_iff.mpr w.hist.liv_nodup, lvN, by omega, fun tq ts H5 hts hta htw etq s5 hp5 => ⟨by show 3 ≤ sizeLine; decide, fun p np => ?_⟩⟩
        have s6 := same_upd (o := .tup [.str (Str.ofString "come"), .str z, .ref tq]) np
        have w6 := w4.step (s5.trans (.of s6)) (hp5.same s6)
        have etq6 := s6 _ _ etq
        have ep6 : (upd H5 p (.tup [.str (Str.ofString "come"), .str z, .ref tq])) p = some (.tup [.str sCome, .str z, .ref tq]) := upd_same
        generalize (upd H5 p (.tup [.str (Str.ofString "come"), .str z, .ref tq])) = H6 at w6 etq6 ep6 ⊢
        have k7 : ∀ b o, b ≠ dl → b ≠ sp → H6 b = some o → (upd H6 dl (.lst (qs.map V.ref ++ [.ref p]))) b = some o := fun b o hb _ e => by rw [upd_ne hb]; exact e
        refine ⟨dl, _, _, rfl, rfl, w6.ed, smallM (by rw [List.length_map]; omega), hn, wy, _, _, ds ++ [.come z ts], qs ++ [p], ss', hwy, rfl, ?_⟩
        refine ⟨fun b o hb e => by rw [upd_ne (hdl0 b o hb e)]; exact w6.sx b o hb e, ?_, by rw [upd_same, List.map_append]; rfl, paired_snoc (w6.kd k7 p (.come z ts) ⟨tq, ep6, etq6⟩) (paired_mono (w6.kd k7) w6.dd), by rw [upd_ne (Ne.symm dlsp)]; exact w6.es, .come w6.hist hzN hz1 hta (fun t ht => lvM.mp (hts t ht)), ?_, ?_, w6.nm, by rw [List.length_append]; have := w.len; show ds.length + 1 ≤ _; omega, w6.few, w6.sl⟩
        · obtain ⟨xx, yy, zz, e, hh⟩ := w6.pot.ex
          exact ⟨xx, yy, zz, by rw [upd_ne (Ne.symm dla)]; exact e, by omega⟩
        · intro hw d hd
          rcases List.mem_append.mp hd with hd | hd
          · exact w6.wood hw d hd
          · rw [List.mem_singleton.mp hd]; exact htw hw
        · rw [came_snoc]
          show ((cameD ds ++ [z]) ++ ss').Nodup
          rw [List.append_assoc, List.nodup_append]
          refine ⟨(List.nodup_append.mp hnod2).1, List.nodup_cons.mpr ⟨hz2, (List.nodup_append.mp hnod2).2.1⟩, fun x hx y hy e => ?_⟩
          rcases List.mem_cons.mp hy with hy | hy
          · exact hz1 (by rw [← hy, ← e]; exact hx)
          · exact (List.nodup_append.mp hnod2).2.2 x hx y hy e
      · have w3 := w2.step s3 hp3
        have elv3 := s3 _ _ (Ne.symm nla) elv
        refine rs_setP (fun v H4 => ∃ wy' : Nat, v = .int (wy' : Nat) ∧ wy' < 7 ∧ SameX a H3 H4 ∧ Pot H4 a (N + 1402 + 20 * i + 3)) (fun Q1 q1 => ?_) (fun v H4 ⟨wy', ev, hwy', s4, hp4⟩ => ?_)
        · refine ⟨.ref a, rfl, a, 10, _, rfl, w3.pot, by omega, by decide, by decide, fun rr H4 r0 r1 s4 hp4 => ⟨rfl, _, rfl, ite2 (fun c => ?_) (fun c => ?_)⟩⟩
          · refine ⟨.ref a, rfl, a, 7, _, rfl, hp4, by omega, by decide, by decide, fun wy2 H5 y0 y1 s5 hp5 => q1 _ _ ⟨wy2.toNat, congrArg V.int (by omega), by omega, s4.trans s5, hp5⟩⟩
          · exact ⟨_, rfl, q1 _ _ ⟨wy, rfl, hwy, s4, hp4.mono (by omega)⟩⟩
        subst ev
        have w4 := w3.step s4 hp4
        have elv4 := s4 _ _ (Ne.symm nla) elv3
        refine ⟨.ref dl, rfl, .inl ⟨rfl, _, sql_of w4.ed⟩, .ref a, rfl, .ref dl, rfl, .ref lv, rfl, _, rfl, a, dl, lv, ds, wy', _, rfl, w4.pot, by omega, ⟨qs, w4.ed, w4.dd⟩, w4.hist, by omega, elv4, hpos, hwy', fun z H5 hz s5 hp5 => ⟨by show 2 ≤ sizeLine; decide, fun p np => ?_⟩⟩
        have s6 := same_upd (o := .tup [.str (Str.ofString "die"), .str z]) np
        have w6 := w4.step (s5.trans (.of s6)) (hp5.same s6)
        have ep6 : (upd H5 p (.tup [.str (Str.ofString "die"), .str z])) p = some (.tup [.str sDie, .str z]) := upd_same
        generalize (upd H5 p (.tup [.str (Str.ofString "die"), .str z])) = H6 at w6 ep6 ⊢
        have k7 : ∀ b o, b ≠ dl → b ≠ sp → H6 b = some o → (upd H6 dl (.lst (qs.map V.ref ++ [.ref p]))) b = some o := fun b o hb _ e => by rw [upd_ne hb]; exact e
        refine ⟨dl, _, _, rfl, rfl, w6.ed, smallM (by rw [List.length_map]; omega), hn, wy', _, _, ds ++ [.die z], qs ++ [p], ss, hwy', rfl, ?_⟩
        refine ⟨fun b o hb e => by rw [upd_ne (hdl0 b o hb e)]; exact w6.sx b o hb e, ?_, by rw [upd_same, List.map_append]; rfl, paired_snoc (w6.kd k7 p (.die z) ep6) (paired_mono (w6.kd k7) w6.dd), by rw [upd_ne (Ne.symm dlsp)]; exact w6.es, .die w6.hist hz, ?_, ?_, w6.nm, by rw [List.length_append]; have := w.len; show ds.length + 1 ≤ _; omega, Nat.le_trans w6.few (by omega), w6.sl⟩
        · obtain ⟨xx, yy, zz, e, hh⟩ := w6.pot.ex
          exact ⟨xx, yy, zz, by rw [upd_ne (Ne.symm dla)]; exact e, by omega⟩
        · intro hw d hd
          rcases List.mem_append.mp hd with hd | hd
          · exact w6.wood hw d hd
          · rw [List.mem_singleton.mp hd]; exact Nat.zero_le _
        · rw [came_snoc]
          show ((cameD ds ++ []) ++ ss).Nodup
          rw [List.append_nil]
          exact w6.nod
    · rintro n σ' H' ⟨hn, wy, o10, o11, ds, qs, ss, hwy, rfl, w⟩
      exact ⟨.ref dl, rfl, q dl ds H' w.hist (Nat.le_trans w.len (by omega)) w.wood ⟨qs, w.ed, w.dd⟩ w.sx (w.pot.mono (by omega))⟩
end
end Hw

set_option Elab.async false
set_option linter.all false
set_option maxRecDepth 100000
set_option maxHeartbeats 4000000
namespace Hw
open PySem L2 PyProof.Rows
section
variable {P : Program} {w : World} {K : PySem.W.Frag} {mg : Str → Option Value} {base : Heap}
end
end Hw

set_option Elab.async false
set_option linter.all false
set_option maxRecDepth 100000
set_option maxHeartbeats 4000000
namespace Hw
open PySem L2 PyProof.Rows
abbrev sIsLiv : Stmt := topS 34
abbrev sAreLiv : Stmt := topS 33
abbrev sCanCome : Stmt := topS 32
abbrev sCanStand : Stmt := topS 31
/-- for each place that ever came whether it lives, as it lies -/
def LivesAt (H : Hp) (d : Addr) (ds : List Deed) : Prop := H d = some (.dK (encF' (cameD ds) fun z => V.bl (decide (z ∈ liv ds))))
theorem LivesAt.get {H : Hp} {d : Addr} {ds : List Deed} (h : LivesAt H d ds) (z : Str) : DGet H d (.str z) (if z ∈ cameD ds then some (V.bl (decide (z ∈ liv ds))) else none) := by
  have := DGet.k (k := Sum.inr z) h
  rw [encF_val] at this
  exact this
def spIsLiv : Sp := fun vs H Q _ => ∃ (z : Str) (d : Addr) (ds : List Deed), vs = [.str z, .ref d] ∧ LivesAt H d ds ∧ Hist ds ∧ Q (.bl (decide (z ∈ liv ds))) H
def spAreLiv : Sp := fun vs H Q _ => ∃ (p d : Addr) (ts : List Str) (ds : List Deed), vs = [.ref p, .ref d] ∧ H p = some (.tup (ts.map V.str)) ∧ LivesAt H d ds ∧ Hist ds ∧ (∀ t ∈ ts, t ∈ liv ds) ∧ Asc ts ∧ ts.length ≤ 1000 ∧ ∀ H', Same H H' → Q (.bl true) H'
section
variable {P : Program} {w : World} {K : PySem.W.Frag} {mg : Str → Option Value} {base : Heap}
theorem scIsLiv : FnScope ["value", "lives"] ["value", "lives"] (defScope sIsLiv) := ⟨rfl, rfl, rfl, by decide +kernel, rfl, by decide +kernel, by decide +kernel⟩
theorem ok_isliv {f : Addr} {fd : FuncData} {k : Nat} (F : Fun K "is_living" "is_living" sIsLiv f fd) (B3 : Blt3 mg) : FnOk P w K mg base CX0 (k + 1) f fd ["value", "lives"] spIsLiv := by
  refine F.ok scIsLiv (fun vs H Q E h => ?_) (fun cdv A outer s H vs Q E hr h => ?_)
  · obtain ⟨z, d, ds, rfl, _⟩ := h
    rfl
  · obtain ⟨z, d, ds, rfl, hd, hH, q⟩ := h
    have hu := hu_of hr
    refine ⟨_, pss_one (ps_ret (pe_and (pe_callB call_isi (by rfl) B3.isi PyProof.Rows.boot_isinstance (pa_cons (pv 0) (pa_cons (pe_bltn (v := .ty "str") (by rfl) B3.str (by decide +kernel) rfl) pa_nil)))
      (pe_one (pe_dget2 hu (pv 1) (pv 0) pe_bl ⟨rfl, by rfl, by rfl, by rfl⟩)))), ?_⟩
    refine ⟨.str z, rfl, .str z, .ty "str", .type "str", .type "str", true, rfl, .ty _, .base (.str z), kit_ty (by decide +kernel), true, rfl, ?_⟩
    refine ⟨.ref d, rfl, d, rfl, .inl ⟨_, .inl hd⟩, .str z, rfl, _, hd.get z, ?_⟩
    by_cases h : z ∈ cameD ds
    · rw [if_pos h]; exact q
    · rw [if_neg h]
      rw [decide_eq_false (fun m => h (hH.liv_came z m))] at q
      exact q
theorem scAreLiv : FnScope ["value", "lives", "name"] ["value", "lives"] (defScope sAreLiv) := ⟨rfl, rfl, rfl, by decide +kernel, rfl, by decide +kernel, by decide +kernel⟩
theorem ok_areliv {f fI fA : Addr} {fd fdI fdA : FuncData} {k : Nat} (F : Fun K "are_living" "are_living" sAreLiv f fd) (B3 : Blt3 mg)
    (GI : FnOk P w K mg base CX0 k fI fdI ["value", "lives"] spIsLiv) (gI : mg "is_living" = some (.ref fI)) (kI : PySem.W.keepIn K (.ref fI) = true) (bI : Binds K fdI ["value", "lives"] [])
    (GA : FnOk P w K mg base CX0 k fA fdA ["values"] (spAsc K)) (gA : mg "ascends" = some (.ref fA)) (kA : PySem.W.keepIn K (.ref fA) = true) (bA : Binds K fdA ["values"] []) :
    FnOk P w K mg base CX0 (k + 1) f fd ["value", "lives"] spAreLiv := by
  refine F.ok scAreLiv (fun vs H Q E h => ?_) (fun cdv A outer s H vs Q E hr h => ?_)
  · obtain ⟨p, d, ts, ds, rfl, _⟩ := h
    rfl
  · obtain ⟨p, d, ts, ds, rfl, ep, hd, hH, hts, hta, hl, q⟩ := h
    have hu := hu_of hr
    refine ⟨_, pss_one (ps_ret (pe_and (pe_callB call_isi (by rfl) B3.isi PyProof.Rows.boot_isinstance (pa_cons (pv 0) (pa_cons (pe_bltn (v := .ty "tuple") (by rfl) B3.tuple (by decide +kernel) rfl) pa_nil)))
      (pe_and (pe_callB (cr_all rfl) (by rfl) B3.all PyProof.Rows.boot_all (pa_cons (pe_lc (own := [("name", 2)]) (g := gName 2) (tt := tYes) (te := tCall spIsLiv [] E0 (tCons (tVar 2) (tCons (tVar 1) tNil))) rfl scAreLiv.nd (pi_tup (pv 0))
          (blkOk_by (N := ["value", "lives", "name"]) (sc := defScope sAreLiv) (by decide +kernel)) (fun _ _ _ _ _ => pg_name (i := 2) scAreLiv.nd rfl (Or.inl rfl)) (fun _ _ _ _ _ => pts_nil)
          (fun _ _ _ _ _ => pe_call GI hr (by rfl) gI kI bI .nil pass0 (pa_cons (pv 2) (pa_cons (pv 1) pa_nil)))) pa_nil))
      (pe_one (pe_call GA hr (by rfl) gA kA bA .nil pass0 (pa_cons (pv 0) pa_nil)))))), ?_⟩
    refine ⟨.ref p, rfl, .ref p, .ty "tuple", .type "tuple", .type "tuple", true, rfl, .ty _, .base (.tup ep), kit_ty (by decide +kernel), true, rfl, ?_⟩
    refine ⟨.ref p, rfl, p, rfl, ⟨_, sqt_of ep⟩, fun D nD => lc_tup (xs := ts.map V.str) (fun i H' => Same H H' ∧ H' D = some (.lst ((List.replicate i true).map V.bl))) ⟨same_upd nD, upd_same⟩ (fun i H' _ h => sqt_of (h.1 _ _ ep)) ?_ ?_⟩
    · rintro i x H' hx ⟨sx, eD⟩
      obtain ⟨z, hz, rfl⟩ := map_get hx
      have hi := (List.getElem?_eq_some_iff.mp hz).1
      refine ⟨rfl, r_yes ?_⟩
      refine ⟨.str z, rfl, .ref d, rfl, z, d, ds, rfl, sx _ _ hd, hH, ?_⟩
      rw [decide_eq_true (hts z (List.mem_of_getElem? hz))]
      refine ⟨_, eD, smallM (by rw [List.length_map, List.length_replicate]; omega), fun b o e => ?_, ?_⟩
      · rw [upd_ne (ne_of_none e nD)]; exact sx _ _ e
      · rw [upd_same, List.replicate_succ', List.map_append]; rfl
    · rintro H' ⟨sx, eD⟩
      refine ⟨D, _, rfl, sql_of eD, ?_⟩
      rw [all_rep]
      refine ⟨true, rfl, ?_⟩
      exact ⟨.ref p, rfl, p, ts, rfl, sqt_of (sx _ _ ep), hta, hl, fun H2 s2 => q H2 (sx.trans s2)⟩
end
end Hw

set_option Elab.async false
set_option linter.all false
set_option maxRecDepth 100000
set_option maxHeartbeats 4000000
namespace Hw
open PySem L2 PyProof.Rows
theorem snoc_get {α : Type} (l : List α) (x : α) : (l ++ [x])[l.length]? = some x := by simp
theorem take_len {α : Type} (l : List α) (x : α) : (l ++ [x]).take l.length = l := by simp
theorem Hist.last_come {ds : List Deed} {n : Str} {ts : List Str} (h : Hist (ds ++ [.come n ts])) : Nm n ∧ n ∉ cameD ds ∧ Asc ts ∧ ∀ t ∈ ts, t ∈ liv ds := by
  have := h.come_at (snoc_get ds (.come n ts))
  rw [take_len] at this
  exact this
theorem Hist.last_die {ds : List Deed} {n : Str} (h : Hist (ds ++ [.die n])) : n ∈ liv ds := by
  have := h.die_at (snoc_get ds (.die n))
  rw [take_len] at this
  exact this
def spCanCome : Sp := fun vs H Q _ => ∃ (n : Str) (tq d : Addr) (ts : List Str) (ds : List Deed), vs = [.str n, .ref tq, .ref d] ∧ H tq = some (.tup (ts.map V.str)) ∧ LivesAt H d ds ∧ Hist (ds ++ [.come n ts]) ∧ ds.length < 200 ∧ ∀ H', Same H H' → Q (.bl true) H'
def spCanStand : Sp := fun vs H Q _ => ∃ (q d : Addr) (e : Deed) (ds : List Deed) (m : Nat), vs = [.ref q, .ref d, .int m] ∧ DeedAt H q e ∧ LivesAt H d ds ∧ Hist (ds ++ [e]) ∧ ds.length < 200 ∧ m < 400 ∧ ∀ H', Same H H' → Q (.bl true) H'
section
variable {P : Program} {w : World} {K : PySem.W.Frag} {mg : Str → Option Value} {base : Heap}
theorem scCanCome : FnScope ["name", "ties", "lives"] ["name", "ties", "lives"] (defScope sCanCome) := ⟨rfl, rfl, rfl, by decide +kernel, rfl, by decide +kernel, by decide +kernel⟩
theorem ok_cancome {f fN fA : Addr} {fd fdN fdA : FuncData} {k : Nat} (F : Fun K "can_come" "can_come" sCanCome f fd) (B : Blt mg) (B3 : Blt3 mg)
    (GN : FnOk P w K mg base CX0 k fN fdN ["value"] spIsName) (gN : mg "is_name" = some (.ref fN)) (kN : PySem.W.keepIn K (.ref fN) = true) (bN : Binds K fdN ["value"] [])
    (GA : FnOk P w K mg base CX0 k fA fdA ["value", "lives"] spAreLiv) (gA : mg "are_living" = some (.ref fA)) (kA : PySem.W.keepIn K (.ref fA) = true) (bA : Binds K fdA ["value", "lives"] []) :
    FnOk P w K mg base CX0 (k + 1) f fd ["name", "ties", "lives"] spCanCome := by
  refine F.ok scCanCome (fun vs H Q E h => ?_) (fun cdv A outer s H vs Q E hr h => ?_)
  · obtain ⟨n, tq, d, ts, ds, rfl, _⟩ := h
    rfl
  · obtain ⟨n, tq, d, ts, ds, rfl, et, hd, hH, hl, q⟩ := h
    have hu := hu_of hr
    obtain ⟨t, gL⟩ := B3.mst
    refine ⟨_, pss_cons (ps_if (PW.pt (pw_or (pt_not (pt_val (pe_call GN hr (by rfl) gN kN bN .nil pass0 (pa_cons (pv 0) pa_nil)))) (pw_or (pt_cmp (pc_din hu (pv 0) (pv 2))) (pw_or1 (pt_cmpR op_ge (pe_callB call_lenD (by rfl) B.len PySem.boot_len (pa_cons (pv 2) pa_nil)) (pe_glob (v := .int 200) (by rfl) gL ⟨_, rfl⟩) (nomark _)))))) (pss_one (ps_ret pe_bl)) pss_nil)
      (pss_one (ps_ret (pe_call GA hr (by rfl) gA kA bA .nil pass0 (pa_cons (pv 1) (pa_cons (pv 2) pa_nil))))), ?_⟩
    obtain ⟨h1, h2, h3, h4⟩ := hH.last_come
    have h0 := hH.pre
    have hcl := came_len ds
    have hev := (hH.each _ (List.mem_append_right _ List.mem_cons_self)).2.1
    have htl : ts.length ≤ (ds ++ [Deed.come n ts]).length := hev
    rw [List.length_append] at htl
    have h1l : ([Deed.come n ts] : List Deed).length = 1 := rfl
    refine rs_no ?_
    refine ⟨.str n, rfl, n, rfl, h1, true, rfl, ?_⟩
    refine ⟨.str n, rfl, .ref d, rfl, d, _, rfl, hd.get n, false, ?_, ?_⟩
    · rw [if_neg h2]; rfl
    refine ⟨.ref d, rfl, d, _, rfl, hd, _, _, rfl, rfl, false, congrArg V.bl (decide_eq_false (by rw [encF_len]; omega)), ?_⟩
    exact ⟨.ref tq, rfl, .ref d, rfl, tq, d, ts, ds, rfl, et, hd, h0, h4, h3, by omega, q⟩
theorem scCanStand : FnScope ["value", "lives", "many"] ["value", "lives", "many"] (defScope sCanStand) := ⟨rfl, rfl, rfl, by decide +kernel, rfl, by decide +kernel, by decide +kernel⟩
theorem ok_canstand {f fC fI : Addr} {fd fdC fdI : FuncData} {k : Nat} (F : Fun K "can_stand" "can_stand" sCanStand f fd) (B : Blt mg) (B3 : Blt3 mg) (hM : ∃ t, mg "MOST_DEEDS" = some (.int 400 t))
    (GC : FnOk P w K mg base CX0 k fC fdC ["name", "ties", "lives"] spCanCome) (gC : mg "can_come" = some (.ref fC)) (kC : PySem.W.keepIn K (.ref fC) = true) (bC : Binds K fdC ["name", "ties", "lives"] [])
    (GI : FnOk P w K mg base CX0 k fI fdI ["value", "lives"] spIsLiv) (gI : mg "is_living" = some (.ref fI)) (kI : PySem.W.keepIn K (.ref fI) = true) (bI : Binds K fdI ["value", "lives"] []) :
    FnOk P w K mg base CX0 (k + 1) f fd ["value", "lives", "many"] spCanStand := by
  refine F.ok scCanStand (fun vs H Q E h => ?_) (fun cdv A outer s H vs Q E hr h => ?_)
  · obtain ⟨q, d, e, ds, m, rfl, _⟩ := h
    rfl
  · obtain ⟨qd, d, e, ds, m, rfl, ed, hd, hH, hl, hm, q⟩ := h
    have hu := hu_of hr
    obtain ⟨t, gL⟩ := hM
    refine ⟨_, pss_cons (ps_if (PW.pt (pw_or (pt_cmpR op_ge (pv 2) (pe_glob (v := .int 400) (by rfl) gL ⟨_, rfl⟩) (nomark _)) (pw_or1 (pt_not (pt_val (pe_callB call_isi (by rfl) B3.isi PyProof.Rows.boot_isinstance (pa_cons (pv 0) (pa_cons (pe_bltn (v := .ty "tuple") (by rfl) B3.tuple (by decide +kernel) rfl) pa_nil)))))))) (pss_one (ps_ret pe_bl)) pss_nil)
      (pss_cons (ps_if (PW.pt (pw_and (pt_cmpR op_eq (pe_callB call_len_seq (by rfl) B.len PySem.boot_len (pa_cons (pv 0) pa_nil)) pe_int (nomark _)) (pw_and1 (pt_cmpR op_eq (pe_ix ix_tup (pv 0) pe_int (fun _ _ => rfl)) pe_str (nomark _))))) (pss_one (ps_ret (pe_call GC hr (by rfl) gC kC bC .nil pass0 (pa_cons (pe_ix ix_tup (pv 0) pe_int (fun _ _ => rfl)) (pa_cons (pe_ix ix_tup (pv 0) pe_int (fun _ _ => rfl)) (pa_cons (pv 1) pa_nil)))))) pss_nil)
      (pss_cons (ps_if (PW.pt (pw_and (pt_cmpR op_eq (pe_callB call_len_seq (by rfl) B.len PySem.boot_len (pa_cons (pv 0) pa_nil)) pe_int (nomark _)) (pw_and1 (pt_cmpR op_eq (pe_ix ix_tup (pv 0) pe_int (fun _ _ => rfl)) pe_str (nomark _))))) (pss_one (ps_ret (pe_call GI hr (by rfl) gI kI bI .nil pass0 (pa_cons (pe_ix ix_tup (pv 0) pe_int (fun _ _ => rfl)) (pa_cons (pv 1) pa_nil))))) pss_nil)
      (pss_one (ps_ret pe_bl)))), ?_⟩
    have h0 := hH.pre
    cases e with
    | come n ts =>
      obtain ⟨tq, e1, e2⟩ := ed
      refine rs_no ?_
      refine ⟨_, rfl, _, _, rfl, rfl, false, congrArg V.bl (decide_eq_false (by omega)), ?_⟩
      refine ⟨.ref qd, rfl, .ref qd, .ty "tuple", .type "tuple", .type "tuple", true, rfl, .ty _, .base (.tup e1), kit_ty (by decide +kernel), true, rfl, ?_⟩
      refine rs_no ?_
      refine ⟨.ref qd, rfl, qd, _, rfl, .inr (sqt_of e1), rfl, true, congrArg V.bl (decide_eq_true rfl), ?_⟩
      refine ⟨.ref qd, rfl, qd, _, 0, _, rfl, rfl, sqt_of e1, rfl, rfl, true, congrArg V.bl (word_come (.come n ts)), ?_⟩
      exact ⟨.ref qd, rfl, qd, _, 1, _, rfl, rfl, sqt_of e1, rfl, .ref qd, rfl, qd, _, 2, _, rfl, rfl, sqt_of e1, rfl, .ref d, rfl, n, tq, d, ts, ds, rfl, e2, hd, hH, hl, q⟩
    | die n =>
      have e1 : H qd = some (.tup [.str sDie, .str n]) := ed
      refine rs_no ?_
      refine ⟨_, rfl, _, _, rfl, rfl, false, congrArg V.bl (decide_eq_false (by omega)), ?_⟩
      refine ⟨.ref qd, rfl, .ref qd, .ty "tuple", .type "tuple", .type "tuple", true, rfl, .ty _, .base (.tup e1), kit_ty (by decide +kernel), true, rfl, ?_⟩
      refine rs_no2 (fun _ => False) (fun H' => H' = H) (fun Q1 qt qf => ⟨.ref qd, rfl, qd, _, rfl, .inr (sqt_of e1), rfl, false, congrArg V.bl (decide_eq_false (fun z => absurd (show (2 : Int) = 3 by injection z) (by decide))), qf _ rfl⟩) (fun _ h => h.elim) (fun H' e => ?_)
      subst e
      refine rs_no ?_
      refine ⟨.ref qd, rfl, qd, _, rfl, .inr (sqt_of e1), rfl, true, congrArg V.bl (decide_eq_true rfl), ?_⟩
      refine ⟨.ref qd, rfl, qd, _, 0, _, rfl, rfl, sqt_of e1, rfl, rfl, true, congrArg V.bl (word_die (.die n)), ?_⟩
      refine ⟨.ref qd, rfl, qd, _, 1, _, rfl, rfl, sqt_of e1, rfl, .ref d, rfl, n, d, ds, rfl, hd, h0, ?_⟩
      rw [decide_eq_true hH.last_die]
      exact q _ (Same.refl _)
end
end Hw

set_option Elab.async false
set_option linter.all false
set_option maxRecDepth 100000
set_option maxHeartbeats 4000000
namespace Hw
open PySem L2 PyProof.Rows
abbrev sReadD1 : Stmt := topS 28
/-- what a line of a deed keeps -/
structure FineD (e : Deed) : Prop where
  nm : Nm e.name
  ts : ∀ t ∈ e.ties, Nm t
  few : e.ties.length ≤ 100
theorem FineD.of {ds : List Deed} (h : Hist ds) (hl : ds.length ≤ 100) {e : Deed} (he : e ∈ ds) : FineD e := by
  obtain ⟨a, b, c, _⟩ := h.each e he
  exact ⟨a, c, by omega⟩
theorem word_no (e : Deed) {c : Nat} (hc : c < 97) : c ∉ e.word.cps.toList := by
  have h : ∀ z : Str, (z.cps.toList.all fun x => decide (97 ≤ x)) = true → c ∉ z.cps.toList := fun z h m => by
    have := of_decide_eq_true (List.all_eq_true.mp h c m)
    omega
  cases e with
  | come n ts => exact h sCome (by decide +kernel)
  | die n => exact h sDie (by decide +kernel)
theorem FineD.no {e : Deed} (f : FineD e) {c : Nat} (hc : c < 97) : ∀ p ∈ e.word :: e.name :: e.ties, c ∉ p.cps.toList := fun p hp => by
  rcases List.mem_cons.mp hp with rfl | hp
  · exact word_no e hc
  · rcases List.mem_cons.mp hp with rfl | hp
    · exact nm_no f.nm hc
    · exact nm_no (f.ts p hp) hc
theorem FineD.split {e : Deed} (f : FineD e) : Txt.split (deedLine e) sBl = e.word :: e.name :: e.ties := split_bl (by simp) (f.no (by decide))
theorem FineD.len {e : Deed} (f : FineD e) : (deedLine e).length ≤ 1000 := by
  refine Nat.le_trans (join_len _ _) ?_
  have hw : e.word.length ≤ 8 := by
    cases e with
    | come n ts => exact show sCome.length ≤ 8 by decide +kernel
    | die n => exact show sDie.length ≤ 8 by decide +kernel
  have hs := sum_le (ps := e.word :: e.name :: e.ties) (b := 8) fun p hp => by
    rcases List.mem_cons.mp hp with rfl | hp
    · exact hw
    · rcases List.mem_cons.mp hp with rfl | hp
      · exact f.nm.2.1
      · exact (f.ts p hp).2.1
  have e1 : sBl.length = 1 := by decide +kernel
  have el : (e.word :: e.name :: e.ties).length = e.ties.length + 2 := rfl
  have := f.few
  rw [el] at hs ⊢
  rw [e1]
  omega
def spReadD1 : Sp := fun vs H Q _ => ∃ e : Deed, vs = [.str (deedLine e)] ∧ FineD e ∧ ∀ q H', Same H H' → H q = none → DeedAt H' q e → Q (.ref q) H'
section
variable {P : Program} {w : World} {K : PySem.W.Frag} {mg : Str → Option Value} {base : Heap}
theorem scReadD1 : FnScope ["line", "words"] ["line"] (defScope sReadD1) := ⟨rfl, rfl, rfl, by decide +kernel, rfl, by decide +kernel, by decide +kernel⟩
theorem ok_readd1 {f : Addr} {fd : FuncData} {k : Nat} (F : Fun K "read_deed" "read_deed" sReadD1 f fd) (B : Blt mg) (B3 : Blt3 mg) : FnOk P w K mg base CX0 (k + 1) f fd ["line"] spReadD1 := by
  refine F.ok scReadD1 (fun vs H Q E h => ?_) (fun cdv A outer s H vs Q E hr h => ?_)
  · obtain ⟨e, rfl, _⟩ := h
    rfl
  · obtain ⟨e, rfl, fe, q⟩ := h
    refine ⟨_, pss_cons (ps_set (i := 1) scReadD1.nd rfl (.inl rfl) (pe_split (pv 0) pe_str))
      (pss_cons (ps_if (PW.pt (pw_and (pt_cmpR op_eq (pe_ix ix_list (pv 1) pe_int (fun _ _ => rfl)) pe_str (nomark _)) (pw_and1 (pt_cmpR op_gt (pe_callB call_len_seq (by rfl) B.len PySem.boot_len (pa_cons (pv 1) pa_nil)) pe_int (nomark _)))))
        (pss_one (ps_ret (pe_tup (pa_cons pe_str (pa_cons (pe_ix ix_list (pv 1) pe_int (fun _ _ => rfl)) (pa_cons (pe_callTy call_tuple_of (by rfl) B3.tuple PyProof.Rows.boot_tuple (pa_cons (pe_slice sl_list (pv 1) (po_some pe_int) po_none) pa_nil)) pa_nil)))))) pss_nil)
      (pss_one (ps_ret (pe_callTy call_tuple_of (by rfl) B3.tuple PyProof.Rows.boot_tuple (pa_cons (pv 1) pa_nil))))), ?_⟩
    have hln := fe.len
    refine rs_set ?_
    refine ⟨.str (deedLine e), rfl, ⟨_, rfl⟩, deedLine e, sBl, rfl, rfl, by decide +kernel, Nat.le_of_lt (smallM (by omega)), fun wl nwl => ?_⟩
    rw [fe.split]
    have s1 := same_upd (o := .lst ((e.word :: e.name :: e.ties).map V.str)) nwl
    have ew : (upd H wl (.lst ((e.word :: e.name :: e.ties).map V.str))) wl = some (.lst (.str e.word :: .str e.name :: e.ties.map V.str)) := upd_same
    generalize (upd H wl (.lst ((e.word :: e.name :: e.ties).map V.str))) = H1 at s1 ew ⊢
    cases e with
    | come n ts =>
      have ew : H1 wl = some (.lst (.str sCome :: .str n :: ts.map V.str)) := ew
      refine rs_no ?_
      refine ⟨.ref wl, rfl, wl, _, 0, .str sCome, rfl, rfl, sql_of ew, atI_nat (j := 0) rfl, rfl, true, congrArg V.bl (word_come (.come n ts)), ?_⟩
      refine ⟨.ref wl, rfl, wl, _, rfl, .inl (sql_of ew), _, _, rfl, rfl, true, congrArg V.bl (decide_eq_true (by rw [List.length_cons, List.length_cons]; omega)), ?_⟩
      refine ⟨.ref wl, rfl, wl, _, 1, .str n, rfl, rfl, sql_of ew, atI_nat (j := 1) rfl, .ref wl, rfl, 2, rfl, wl, _, rfl, sql_of ew, fun c nc => ⟨c, _, rfl, .inl ⟨sql_of upd_same, fun tp ntp => ⟨by show 3 ≤ sizeLine; decide, fun p np => ?_⟩⟩⟩⟩
      rw [show cutV (V.str sCome :: V.str n :: ts.map V.str) (some 2) none = ts.map V.str from cut_from _ 2] at ntp np ⊢
      have s2 := ((same_upd (o := .lst (ts.map V.str)) nc).trans (same_upd (o := .tup (ts.map V.str)) ntp)).trans (same_upd (o := .tup [.str (Str.ofString "come"), .str n, .ref tp]) np)
      have hp0 : H p = none := ((s1.trans (same_upd (o := .lst (ts.map V.str)) nc)).trans (same_upd (o := .tup (ts.map V.str)) ntp)).free np
      exact q p _ (s1.trans s2) hp0 ⟨tp, upd_same, (same_upd np) _ _ upd_same⟩
    | die n =>
      have ew : H1 wl = some (.lst [.str sDie, .str n]) := ew
      refine rs_no2 (fun _ => False) (fun H' => H' = H1) (fun Q1 qt qf => ⟨.ref wl, rfl, wl, _, 0, .str sDie, rfl, rfl, sql_of ew, rfl, rfl, false, congrArg V.bl (word_come (.die n)), qf _ rfl⟩) (fun _ h => h.elim) (fun H' e => ?_)
      subst e
      refine r_ret ?_
      refine ⟨.ref wl, rfl, wl, _, rfl, .inl ⟨sql_of ew, fun p np => ?_⟩⟩
      exact q p _ (s1.trans (same_upd np)) (s1.free np) (show DeedAt _ p (.die n) from upd_same)
end
end Hw

set_option Elab.async false
set_option linter.all false
set_option maxRecDepth 100000
set_option maxHeartbeats 4000000
namespace Hw
open PySem L2 PyProof.Rows
abbrev sLivesB : Stmt := topS 29
abbrev sNamesT : Stmt := topS 30
/-! who ever came lives or is dead -/
theorem Hist.dead_came {ds : List Deed} (h : Hist ds) : ∀ z ∈ deadD ds, z ∈ cameD ds := by
  induction h with
  | nil => intro z hz; cases hz
  | come h nm new asc sub ih =>
    intro z hz
    rw [dead_snoc] at hz
    rw [came_snoc]
    rcases List.mem_append.mp hz with hz | hz
    · exact List.mem_append_left _ (ih z hz)
    · cases hz
  | die h lv ih =>
    intro z hz
    rw [dead_snoc] at hz
    rw [came_snoc]
    rcases List.mem_append.mp hz with hz | hz
    · exact List.mem_append_left _ (ih z hz)
    · rw [List.mem_singleton.mp (show z ∈ [_] from hz)]
      exact List.mem_append_left _ (h.liv_came _ lv)
theorem Hist.dead_no {ds : List Deed} (h : Hist ds) : ∀ z ∈ deadD ds, z ∉ liv ds := by
  induction h with
  | nil => intro z hz; cases hz
  | come h nm new asc sub ih =>
    intro z hz m
    rw [dead_snoc] at hz
    rw [liv_snoc] at m
    rcases List.mem_append.mp hz with hz | hz
    · rcases List.mem_append.mp m with m | m
      · exact ih z hz m
      · rw [List.mem_singleton.mp m] at hz
        exact new (h.dead_came _ hz)
    · cases hz
  | @die ds n h lv ih =>
    intro z hz m
    rw [dead_snoc] at hz
    rw [liv_snoc] at m
    obtain ⟨m1, m2⟩ := List.mem_filter.mp (show z ∈ (liv ds).filter fun y => decide (y ≠ n) from m)
    rcases List.mem_append.mp hz with hz | hz
    · exact ih z hz m1
    · exact of_decide_eq_true m2 (List.mem_singleton.mp (show z ∈ [n] from hz))
theorem Hist.came_or {ds : List Deed} (h : Hist ds) : ∀ z ∈ cameD ds, z ∈ liv ds ∨ z ∈ deadD ds := by
  induction h with
  | nil => intro z hz; cases hz
  | come h nm new asc sub ih =>
    intro z hz
    rw [came_snoc] at hz
    rw [liv_snoc, dead_snoc]
    rcases List.mem_append.mp hz with hz | hz
    · rcases ih z hz with m | m
      · exact .inl (List.mem_append_left _ m)
      · exact .inr (List.mem_append_left _ m)
    · exact .inl (List.mem_append_right _ hz)
  | @die ds n h lv ih =>
    intro z hz
    rw [came_snoc] at hz
    rw [liv_snoc, dead_snoc]
    rcases List.mem_append.mp hz with hz | hz
    · by_cases e : z = n
      · exact .inr (List.mem_append_right _ (by rw [e]; exact List.mem_cons_self))
      · rcases ih z hz with m | m
        · exact .inl (List.mem_filter.mpr ⟨m, decide_eq_true e⟩)
        · exact .inr (List.mem_append_left _ m)
    · cases hz
theorem Hist.dead_nodup {ds : List Deed} (h : Hist ds) : (deadD ds).Nodup := by
  induction h with
  | nil => exact List.nodup_nil
  | come h nm new asc sub ih =>
    rw [dead_snoc]
    show (_ ++ []).Nodup
    rw [List.append_nil]; exact ih
  | @die ds n h lv ih =>
    rw [dead_snoc]
    show (deadD ds ++ [n]).Nodup
    rw [List.nodup_append]
    exact ⟨ih, by simp, fun x hx y hy e => h.dead_no x hx (by rw [e, List.mem_singleton.mp hy]; exact lv)⟩
/-- those of all that ever came that live, or that do not -/
theorem Hist.sorted_part {ds : List Deed} (h : Hist ds) (b : Bool) : sortS ((cameD ds).filter fun z => decide (decide (z ∈ liv ds) = b)) = sortS (if b = true then liv ds else deadD ds) := by
  refine sortS_of_perm ((List.perm_ext_iff_of_nodup (h.came_nodup.filter _) ?_).mpr fun z => ?_)
  · cases b
    · exact h.dead_nodup
    · exact h.liv_nodup
  · rw [List.mem_filter, decide_eq_true_iff]
    cases b with
    | true =>
      rw [if_pos rfl, decide_eq_true_iff]
      exact ⟨fun m => m.2, fun m => ⟨h.liv_came z m, m⟩⟩
    | false =>
      rw [if_neg Bool.false_ne_true, decide_eq_false_iff_not]
      exact ⟨fun m => (h.came_or z m.1).resolve_left m.2, fun m => ⟨h.dead_came z m, h.dead_no z m⟩⟩
theorem lives_step {ds : List Deed} {e : Deed} (h : Hist (ds ++ [e])) : putK (encF' (cameD ds) fun z => V.bl (decide (z ∈ liv ds))) (Sum.inr e.name : Key) (.bl e.isCome) = encF' (cameD (ds ++ [e])) fun z => V.bl (decide (z ∈ liv (ds ++ [e]))) := by
  cases e with
  | come n ts =>
    obtain ⟨_, hn, _, _⟩ := h.last_come
    show putK _ (Sum.inr n : Key) (.bl true) = _
    rw [encF_new hn, came_snoc, liv_snoc]
    refine encF_congr fun y _ => ?_
    show (if y = n then V.bl true else V.bl (decide (y ∈ liv ds))) = V.bl (decide (y ∈ liv ds ++ [n]))
    by_cases e : y = n
    · subst e
      rw [if_pos rfl, decide_eq_true (List.mem_append_right _ List.mem_cons_self)]
    · rw [if_neg e]
      congr 1
      rw [decide_eq_decide, List.mem_append, List.mem_singleton]
      simp [e]
  | die n =>
    have hl := h.last_die
    show putK _ (Sum.inr n : Key) (.bl false) = _
    rw [encF_old (h.pre.liv_came n hl), came_snoc, liv_snoc]
    show encF' (cameD ds) _ = encF' (cameD ds ++ []) _
    rw [List.append_nil]
    refine encF_congr fun y _ => ?_
    show (if y = n then V.bl false else V.bl (decide (y ∈ liv ds))) = V.bl (decide (y ∈ (liv ds).filter fun z => decide (z ≠ n)))
    by_cases e : y = n
    · have hno : n ∉ (liv ds).filter fun z => decide (z ≠ n) := fun m => of_decide_eq_true (p := n ≠ n) (List.mem_filter.mp m).2 rfl
      rw [e, if_pos rfl, decide_eq_false hno]
    · rw [if_neg e]
      congr 1
      rw [decide_eq_decide, List.mem_filter, decide_eq_true_iff]
      exact ⟨fun m => ⟨m, e⟩, fun m => m.1⟩
/-- the tuple of deeds as it lies -/
def DeedsT (H : Hp) (p : Addr) (ds : List Deed) : Prop := ∃ qs : List Addr, H p = some (.tup (qs.map V.ref)) ∧ Paired (DeedAt H) qs ds
theorem DeedsT.keep {H H' : Hp} {p : Addr} {ds : List Deed} (h : DeedsT H p ds) (s : Same H H') : DeedsT H' p ds := by
  obtain ⟨qs, h1, h2⟩ := h
  exact ⟨qs, s _ _ h1, paired_mono (fun q d e => e.keep s) h2⟩
theorem LivesAt.keep {H H' : Hp} {d : Addr} {ds : List Deed} (h : LivesAt H d ds) (s : Same H H') : LivesAt H' d ds := s _ _ h
def spLivesB : Sp := fun vs H Q _ => ∃ (p : Addr) (ds : List Deed), vs = [.ref p] ∧ DeedsT H p ds ∧ Hist ds ∧ ds.length ≤ 1000 ∧ ∀ d H', Same H H' → H d = none → LivesAt H' d ds → Q (.ref d) H'
section
variable {P : Program} {w : World} {K : PySem.W.Frag} {mg : Str → Option Value} {base : Heap}
theorem scLivesB : FnScope ["deeds", "lives", "deed"] ["deeds"] (defScope sLivesB) := ⟨rfl, rfl, rfl, by decide +kernel, rfl, by decide +kernel, by decide +kernel⟩
theorem ok_livesb {f : Addr} {fd : FuncData} {k : Nat} (F : Fun K "lives_behind" "lives_behind" sLivesB f fd) : FnOk P w K mg base CX0 (k + 1) f fd ["deeds"] spLivesB := by
  refine F.ok scLivesB (fun vs H Q E h => ?_) (fun cdv A outer s H vs Q E hr h => ?_)
  · obtain ⟨p, ds, rfl, _⟩ := h
    rfl
  · obtain ⟨p, ds, rfl, ⟨qs, e1, e2⟩, hH, hl, q⟩ := h
    have hu := hu_of hr
    refine ⟨_, pss_cons (ps_set (i := 1) scLivesB.nd rfl (.inl rfl) pe_dnewK)
      (pss_cons (ps_for PassesOwn.never rfl (pi_tup (pv 0)) (pg_name (i := 2) scLivesB.nd rfl (.inl rfl))
        (pss_one (ps_dput hu (pv 1) (pe_ix ix_tup (pv 2) pe_int (fun _ _ => rfl)) (pe_cmpR op_eq (pe_ix ix_tup (pv 2) pe_int (fun _ _ => rfl)) pe_str (nomark _)) rfl)))
      (pss_one (ps_ret (pv 1)))), ?_⟩
    refine rs_set ?_
    intro d nd
    refine rs_tup p (qs.map V.ref) (fun Q1 q1 => ⟨_, rfl, q1⟩) (fun i σ' H' => ∃ o2, σ' = [some (.ref p), some (.ref d), o2] ∧ Same H H' ∧ LivesAt H' d (ds.take i)) ⟨_, rfl, same_upd nd, upd_same⟩ (fun i σ' H' _ ⟨_, _, sx, _⟩ => sqt_of (sx _ _ e1)) ?_ ?_
    · rintro i x σ' H' hx ⟨o2, rfl, sx, eD⟩
      obtain ⟨qd, hq, rfl⟩ := map_get hx
      obtain ⟨e, he, ed⟩ := paired_get e2 hq
      obtain ⟨more, em⟩ := (ed.keep sx).two (K := K)
      have hcl := hH.came_take i
      have et : ds.take (i + 1) = ds.take i ++ [e] := take_snoc he
      have hH1 : Hist (ds.take i ++ [e]) := by rw [← et]; exact hH.take (i + 1)
      refine r_gname ?_
      refine ⟨.ref qd, rfl, qd, _, 0, .str e.word, rfl, rfl, sqt_of em, atI_nat (j := 0) rfl, rfl, .ref d, rfl, .ref qd, rfl, qd, _, 1, .str e.name, rfl, rfl, sqt_of em, atI_nat (j := 1) rfl, d, _, rfl, DPut.k (k := Sum.inr e.name) eD (smallM (by rw [encF_len]; omega)), _, rfl, fun b o eb => ?_, ?_⟩
      · rw [upd_ne (ne_of_none eb nd)]; exact sx _ _ eb
      · show (upd _ d _) d = _
        rw [upd_same, et, word_come e, lives_step hH1]
    · rintro σ' H' ⟨o2, rfl, sx, eD⟩
      rw [List.length_map, Paired.length e2, List.take_length] at eD
      exact ⟨.ref d, rfl, q d H' sx nd eD⟩
end
end Hw

set_option Elab.async false
set_option linter.all false
set_option maxRecDepth 100000
set_option maxHeartbeats 4000000
namespace Hw
open PySem L2 PyProof.Rows
def spNamesT : Sp := fun vs H Q _ => ∃ (b : Bool) (d : Addr) (ds : List Deed), vs = [.bl b, .ref d] ∧ LivesAt H d ds ∧ Hist ds ∧ ds.length ≤ 1000 ∧ ∀ p H', Same H H' → H' p = some (.tup ((sortS (if b = true then liv ds else deadD ds)).map V.str)) → Q (.ref p) H'
section
variable {P : Program} {w : World} {K : PySem.W.Frag} {mg : Str → Option Value} {base : Heap}
theorem scNamesT : FnScope ["live", "lives", "name"] ["live", "lives"] (defScope sNamesT) := ⟨rfl, rfl, rfl, by decide +kernel, rfl, by decide +kernel, by decide +kernel⟩
theorem ok_namest {f : Addr} {fd : FuncData} {k : Nat} (F : Fun K "names_that" "names_that" sNamesT f fd) (bs : mg "sorted" = none) (bt : mg "tuple" = none) : FnOk P w K mg base CX0 (k + 1) f fd ["live", "lives"] spNamesT := by
  refine F.ok scNamesT (fun vs H Q E h => ?_) (fun cdv A outer s H vs Q E hr h => ?_)
  · obtain ⟨b, d, ds, rfl, _⟩ := h
    rfl
  · obtain ⟨b, d, ds, rfl, hd, hH, hl, q⟩ := h
    have hu := hu_of hr
    have hu64 := hr.units
    refine ⟨_, pss_one (ps_ret (pe_callTy call_tuple_of (by rfl) bt PyProof.Rows.boot_tuple (pa_cons (pe_callB (cr_sortT hu64) (by rfl) bs (by decide +kernel) (pa_cons (pe_lock (pe_lc (own := [("name", 2)]) (g := gName 2) (tt := tTest (tOp rEq (tDGet (tVar 1) (tVar 2)) (tVar 0))) rfl scNamesT.nd (pi_keys (pv 1))
        (blkOk_by (N := ["live", "lives", "name"]) (sc := defScope sNamesT) (by decide +kernel)) (fun _ _ _ _ _ => pg_name (i := 2) scNamesT.nd rfl (Or.inl rfl))
        (fun _ _ _ _ _ => pts_one (pt_cmpR op_eq (pe_dget hu (pv 1) (pv 2) (fun _ _ => rfl)) (pv 0) (nomark _))) (fun _ _ _ _ _ => pv 2))) pa_nil)) pa_nil))), ?_⟩
    have hcl := came_len ds
    have hne : ∀ b' o, H b' = some o → b' ≠ d → True := fun _ _ _ _ => trivial
    refine ⟨d, .dK (encF' (cameD ds) fun z => V.bl (decide (z ∈ liv ds))), hd, trivial, fun od => ?_⟩
    refine ⟨.ref d, rfl, d, od, rfl, .inl ⟨_, upd_same, fun D nD => ?_⟩⟩
    have hDd : D ≠ d := fun e => by rw [e, upd_same] at nD; cases nD
    have nD0 : H D = none := by rw [upd_ne hDd] at nD; exact nD
    refine lc_it walk_keys (fun i H' => (∀ b' o, b' ≠ d → H b' = some o → H' b' = some o) ∧ H' d = some (.frz od (.dK (encF' (cameD ds) fun z => V.bl (decide (z ∈ liv ds))))) ∧ H' D = some (.lst ((((cameD ds).take i).filter fun z => decide (decide (z ∈ liv ds) = b)).map V.str)))
      ⟨fun b' o hb e => by rw [upd_ne (ne_of_none e nD0), upd_ne hb]; exact e, by rw [upd_ne (Ne.symm hDd), upd_same], upd_same⟩ (fun i H' _ h => h.2.1) ?_ ?_
    · rintro i x H' H'' hi ⟨sx, ed, eD⟩ ⟨rfl, ky, v, hk, rfl⟩
      obtain ⟨z, hz, ez⟩ : ∃ z, (cameD ds)[i]? = some z ∧ (ky, v) = ((Sum.inr z : Key), V.bl (decide (z ∈ liv ds))) := by
        unfold encF' at hk
        rw [List.getElem?_map] at hk
        cases e : (cameD ds)[i]? with
        | none => rw [e] at hk; cases hk
        | some z => rw [e] at hk; exact ⟨z, rfl, (Option.some.inj hk).symm⟩
      cases ez
      have hi2 := (List.getElem?_eq_some_iff.mp hz).1
      have hzm := List.mem_of_getElem? hz
      have g0 : DGet H'' d (.str z) (some (V.bl (decide (z ∈ liv ds)))) := by
        have : DGet H'' d (.str z) (valV (encF' (cameD ds) fun z => V.bl (decide (z ∈ liv ds))) (Sum.inr z)) := .inl ⟨_, Sum.inr z, .inr ⟨_, ed⟩, rfl, rfl⟩
        rw [encF_val, if_pos hzm] at this
        exact this
      have hfl : (((cameD ds).take i).filter fun z => decide (decide (z ∈ liv ds) = b)).length ≤ 1000 := Nat.le_trans (List.length_filter_le _ _) (by rw [List.length_take]; omega)
      refine ⟨rfl, .ref d, rfl, .str z, rfl, d, _, rfl, g0, .bl b, rfl, rfl, _, rfl, ?_⟩
      have eb : decide (V.bl (decide (z ∈ liv ds)) = V.bl b) = decide (decide (z ∈ liv ds) = b) := by
        rw [decide_eq_decide]
        exact ⟨fun e => by injection e, fun e => by rw [e]⟩
      rw [eb]
      have ft : ((cameD ds).take (i + 1)).filter (fun z => decide (decide (z ∈ liv ds) = b)) = ((cameD ds).take i).filter (fun z => decide (decide (z ∈ liv ds) = b)) ++ if decide (decide (z ∈ liv ds) = b) = true then [z] else [] := filter_snoc hz
      by_cases hb : decide (z ∈ liv ds) = b
      · rw [decide_eq_true hb]
        show if true = true then _ else _
        rw [if_pos rfl]
        refine ⟨.str z, rfl, _, eD, smallM (by rw [List.length_map]; omega), fun b' o hb' e => ?_, ?_, ?_⟩
        · rw [upd_ne (ne_of_none e nD0)]; exact sx _ _ hb' e
        · rw [upd_ne (Ne.symm hDd)]; exact ed
        · rw [upd_same, ft, decide_eq_true hb, if_pos rfl, List.map_append]; rfl
      · rw [decide_eq_false hb]
        show if false = true then _ else _
        rw [if_neg Bool.false_ne_true]
        refine ⟨sx, ed, ?_⟩
        rw [eD, ft, decide_eq_false hb, if_neg Bool.false_ne_true, List.append_nil]
    · rintro H' ⟨sx, ed, eD⟩
      have en : (encF' (cameD ds) fun z => V.bl (decide (z ∈ liv ds))).length = (cameD ds).length := encF_len _ _
      rw [en, List.take_length] at eD
      have hfl : ((cameD ds).filter fun z => decide (decide (z ∈ liv ds) = b)).length ≤ 1000 := Nat.le_trans (List.length_filter_le _ _) (by omega)
      have s1 : Same H (upd H' d (.dK (encF' (cameD ds) fun z => V.bl (decide (z ∈ liv ds))))) := fun b' o e => by
        by_cases hb : b' = d
        · subst hb
          rw [hd] at e
          rw [upd_same]; exact e
        · rw [upd_ne hb]; exact sx _ _ hb e
      refine ⟨ed, D, (cameD ds).filter fun z => decide (decide (z ∈ liv ds) = b), rfl, sql_of (by rw [upd_ne hDd]; exact eD), Nat.le_of_lt (smallM (by omega)), fun p2 n2 => ⟨p2, _, rfl, .inl ⟨sql_of upd_same, fun p3 n3 => ?_⟩⟩⟩
      have s2 := (s1.trans (same_upd (o := .lst ((sortS ((cameD ds).filter fun z => decide (decide (z ∈ liv ds) = b))).map V.str)) n2)).trans (same_upd (o := .tup ((sortS ((cameD ds).filter fun z => decide (decide (z ∈ liv ds) = b))).map V.str)) n3)
      refine q p3 _ s2 ?_
      rw [upd_same, hH.sorted_part b]
end
end Hw

set_option Elab.async false
set_option linter.all false
set_option maxRecDepth 100000
set_option maxHeartbeats 4000000
namespace Hw
open PySem L2 PyProof.Rows
abbrev sReadDs : Stmt := topS 27
theorem FineD.nonl {e : Deed} (f : FineD e) : 10 ∉ (deedLine e).cps.toList := fun h => by
  rcases join_mem h with h | ⟨p, hp, h⟩
  · exact absurd h (by decide +kernel)
  · exact f.no (by decide) p hp h
theorem hist_split {ds : List Deed} (h : Hist ds) (hl : ds.length ≤ 100) (hne : ds ≠ []) : Txt.split (histText ds) sNl = ds.map deedLine := by
  refine split_nl (by simpa using hne) fun p hp => ?_
  obtain ⟨e, he, rfl⟩ := List.mem_map.mp hp
  exact (FineD.of h hl he).nonl
theorem hist_ne {ds : List Deed} (h : Hist ds) (hl : ds.length ≤ 100) (hne : ds ≠ []) : (histText ds).length ≠ 0 := by
  intro e0
  have e1 : histText ds = Str.ofString "" := by
    have : (histText ds).cps = #[] := Array.eq_empty_of_size_eq_zero e0
    generalize histText ds = z at this ⊢
    cases z with
    | mk c => cases this; rfl
  have hs := hist_split h hl hne
  rw [e1, show Txt.split (Str.ofString "") sNl = [Str.ofString ""] by decide +kernel] at hs
  cases ds with
  | nil => exact hne rfl
  | cons d ds' =>
    have e2 : deedLine d = Str.ofString "" := (List.cons.inj hs).1.symm
    have := (FineD.of h hl List.mem_cons_self).split
    rw [e2, show Txt.split (Str.ofString "") sBl = [Str.ofString ""] by decide +kernel] at this
    have := congrArg List.length this
    simp at this
def spReadDs : Sp := fun vs H Q _ => ∃ ds : List Deed, vs = [.str (histText ds)] ∧ Hist ds ∧ ds.length ≤ 100 ∧ ∀ p H', Same H H' → H p = none → DeedsT H' p ds → Q (.ref p) H'
section
variable {P : Program} {w : World} {K : PySem.W.Frag} {mg : Str → Option Value} {base : Heap}
theorem scReadDs : FnScope ["text", "lines", "deeds", "lives", "number", "line", "deed"] ["text"] (defScope sReadDs) := ⟨rfl, rfl, rfl, by decide +kernel, rfl, by decide +kernel, by decide +kernel⟩
theorem ok_readds {f fR fC : Addr} {fd fdR fdC : FuncData} {k : Nat} (F : Fun K "read_deeds" "read_deeds" sReadDs f fd) (B : Blt mg) (B3 : Blt3 mg)
    (GR : FnOk P w K mg base CX0 k fR fdR ["line"] spReadD1) (gR : mg "read_deed" = some (.ref fR)) (kR : PySem.W.keepIn K (.ref fR) = true) (bR : Binds K fdR ["line"] [])
    (GC : FnOk P w K mg base CX0 k fC fdC ["value", "lives", "many"] spCanStand) (gC : mg "can_stand" = some (.ref fC)) (kC : PySem.W.keepIn K (.ref fC) = true) (bC : Binds K fdC ["value", "lives", "many"] []) :
    FnOk P w K mg base CX0 (k + 1) f fd ["text"] spReadDs := by
  refine F.ok scReadDs (fun vs H Q E h => ?_) (fun cdv A outer s H vs Q E hr h => ?_)
  · obtain ⟨ds, rfl, _⟩ := h
    rfl
  · obtain ⟨ds, rfl, hH, hl, q⟩ := h
    have hu := hu_of hr
    refine ⟨_, pss_cons (ps_if (pt_not (pt_val (pe_callB call_isi (by rfl) B3.isi PyProof.Rows.boot_isinstance (pa_cons (pv 0) (pa_cons (pe_bltn (v := .ty "str") (by rfl) B3.str (by decide +kernel) rfl) pa_nil))))) (pss_one ps_never) pss_nil)
      (pss_cons (ps_set (i := 1) scReadDs.nd rfl (.inl rfl) (pe_ifExp (pt_truth (pv 0) (by intro _; rfl)) (pe_split (pv 0) pe_str) (pe_lst pa_nil)))
      (pss_cons (ps_set (i := 2) scReadDs.nd rfl (.inl rfl) (pe_lst pa_nil))
      (pss_cons (ps_set (i := 3) scReadDs.nd rfl (.inl rfl) pe_dnewK)
      (pss_cons (ps_for PassesOwn.never rfl (pi_enumK (by rfl) B3.enum (pa_cons (pv 1) pa_nil) (pk_cons pe_int pk_nil)) (pg_tup rfl (pgs_cons (pg_name (i := 4) scReadDs.nd rfl (Or.inl rfl)) (pgs_cons (pg_name (i := 5) scReadDs.nd rfl (Or.inl rfl)) pgs_nil)))
        (pss_cons (ps_set (i := 6) scReadDs.nd rfl (.inl rfl) (pe_call GR hr (by rfl) gR kR bR .nil pass0 (pa_cons (pv 5) pa_nil)))
        (pss_cons (ps_if (pt_not (pt_val (pe_call GC hr (by rfl) gC kC bC .nil pass0 (pa_cons (pv 6) (pa_cons (pv 3) (pa_cons (pe_callB call_len_seq (by rfl) B.len PySem.boot_len (pa_cons (pv 2) pa_nil)) pa_nil)))))) (pss_one ps_never) pss_nil)
        (pss_cons (ps_expr (pe_bm PySem.F.plainAttrs_list PySem.F.slot_list_append PySem.F.type_list_append mt_append (pv 2) (pa_cons (pv 6) pa_nil)))
        (pss_one (ps_dput hu (pv 3) (pe_ix ix_tup (pv 6) pe_int (fun _ _ => rfl)) (pe_cmpR op_eq (pe_ix ix_tup (pv 6) pe_int (fun _ _ => rfl)) pe_str (nomark _)) rfl))))))
      (pss_one (ps_ret (pe_callTy call_tuple_of (by rfl) B3.tuple PyProof.Rows.boot_tuple (pa_cons (pv 2) pa_nil)))))))), ?_⟩
    refine rs_no ?_
    refine ⟨.str (histText ds), rfl, .str (histText ds), .ty "str", .type "str", .type "str", true, rfl, .ty _, .base (.str _), kit_ty (by decide +kernel), true, rfl, ?_⟩
    have htl : (histText ds).length ≤ 200000 := Nat.le_trans (join_len _ _) (hist_sum hH hl)
    refine rs_setP (fun v H1 => ∃ ll : Addr, v = .ref ll ∧ Same H H1 ∧ H ll = none ∧ H1 ll = some (.lst ((ds.map deedLine).map V.str))) (fun Q1 q1 => ?_) (fun v H1 ⟨ll, ev, s1, nll, ell⟩ => ?_)
    · by_cases h0 : ds = []
      · subst h0
        refine ⟨.str (histText []), rfl, false, ⟨by rw [sizeLine_eq]; omega, by decide +kernel⟩, ?_⟩
        show if false = true then _ else _
        rw [if_neg Bool.false_ne_true]
        exact ⟨Nat.zero_le _, fun ll nll => q1 _ _ ⟨ll, rfl, same_upd nll, nll, upd_same⟩⟩
      · have hne := hist_ne hH hl h0
        refine ⟨.str (histText ds), rfl, true, ⟨by rw [sizeLine_eq]; omega, by
          symm
          rw [bne_iff_ne]
          omega⟩, ?_⟩
        show if true = true then _ else _
        rw [if_pos rfl]
        refine ⟨.str (histText ds), rfl, ⟨_, rfl⟩, histText ds, sNl, rfl, rfl, by decide +kernel, by rw [sizeLine_eq]; omega, fun ll nll => ?_⟩
        rw [hist_split hH hl h0]
        exact q1 _ _ ⟨ll, rfl, same_upd nll, nll, upd_same⟩
    subst ev
    refine rs_set ?_
    refine ⟨Nat.zero_le _, fun dl ndl => ?_⟩
    refine rs_set ?_
    intro d nd
    have s2 := (s1.trans (same_upd (o := .lst []) ndl)).trans (same_upd (o := .dK []) nd)
    have ndl0 : H dl = none := s1.free ndl
    have nd0 : H d = none := (s1.trans (same_upd (o := .lst []) ndl)).free nd
    have ell2 := (same_upd (o := .dK []) nd) _ _ ((same_upd (o := .lst []) ndl) _ _ ell)
    have edl2 : (upd (upd H1 dl (.lst [])) d (.dK [])) dl = some (.lst []) := (same_upd nd) _ _ upd_same
    have ed2 : LivesAt (upd (upd H1 dl (.lst [])) d (.dK [])) d [] := upd_same
    have dld : dl ≠ d := ne_of_none upd_same nd
    have lldl : ll ≠ dl := fun z => by rw [z, ndl] at ell; cases ell
    have lld : ll ≠ d := ne_of_none ((same_upd ndl) _ _ ell) nd
    generalize (upd (upd H1 dl (.lst [])) d (.dK [])) = H2 at s2 ell2 edl2 ed2 ⊢
    refine rs_enumK 1 ((ds.map deedLine).map V.str) (fun a H3 => a = ll ∧ H3 = H2)
      (fun a j σ' H' => ∃ (o4 o5 o6 : Option V) (qs : List Addr), σ' = [some (.str (histText ds)), some (.ref ll), some (.ref dl), some (.ref d), o4, o5, o6] ∧ Same H H' ∧ a = ll ∧ H' ll = some (.lst ((ds.map deedLine).map V.str)) ∧ H' dl = some (.lst (qs.map V.ref)) ∧ Paired (DeedAt H') qs (ds.take j) ∧ LivesAt H' d (ds.take j))
      (fun R hR => ⟨.ref ll, rfl, ll, (ds.map deedLine).map V.str, 1, rfl, rfl, by decide, by decide, sql_of ell2, hR ll _ ⟨rfl, rfl⟩⟩)
      (fun a H3 ⟨e, e3⟩ => by subst e e3; exact ⟨_, _, _, [], rfl, s2, rfl, ell2, edl2, .nil, ed2⟩)
      (fun a j σ' H' _ ⟨_, _, _, _, _, _, e, w, _⟩ => by rw [e]; exact sql_of w) ?_ ?_
    · rintro a j x σ' H' T hj ⟨o4, o5, o6, qs, rfl, sx, rfl, el', em, hp, ed⟩ nT hx
      obtain ⟨ln, hln, rfl⟩ := map_get hx
      rw [List.getElem?_map] at hln
      obtain ⟨e, he, rfl⟩ : ∃ e, ds[j]? = some e ∧ ln = deedLine e := by
        cases hh : ds[j]? with
        | none => rw [hh] at hln; cases hln
        | some t => rw [hh] at hln; exact ⟨t, rfl, (Option.some.inj hln).symm⟩
      have hjl := (List.getElem?_eq_some_iff.mp he).1
      have hql : qs.length ≤ 100 := by rw [Paired.length hp, List.length_take]; omega
      have et : ds.take (j + 1) = ds.take j ++ [e] := take_snoc he
      have hH1 : Hist (ds.take j ++ [e]) := by rw [← et]; exact hH.take (j + 1)
      have hcl := hH.came_take j
      refine ⟨T, [.int (1 + (j : Nat)), .str (deedLine e)], rfl, sqt_of upd_same, rfl, _, [.str (deedLine e)], rfl, _, [], rfl, rfl, ?_⟩
      have sT : Same H' (upd H' T (.tup [.int (1 + (j : Nat)), .str (deedLine e)])) := same_upd nT
      generalize (upd H' T (.tup [.int (1 + (j : Nat)), .str (deedLine e)])) = H3 at sT ⊢
      refine rs_set ?_
      refine ⟨.str (deedLine e), rfl, e, rfl, FineD.of hH hl (List.mem_of_getElem? he), fun qd H4 s4 nq edd => ?_⟩
      have s5 := sT.trans s4
      refine rs_no ?_
      refine ⟨.ref qd, rfl, .ref d, rfl, .ref dl, rfl, dl, _, rfl, .inl (sql_of (s5 _ _ em)), qd, d, e, ds.take j, (qs.map V.ref).length, rfl, edd, ed.keep s5, hH1, by rw [List.length_take]; omega, by rw [List.length_map]; omega, fun H5 s6 => ⟨true, rfl, ?_⟩⟩
      have s7 := s5.trans s6
      have em5 := s7 _ _ em
      have ed5 := ed.keep s7
      have edd5 := edd.keep s6
      obtain ⟨more, ew⟩ := edd5.two (K := K)
      refine rs_bm ?_
      refine ⟨.ref dl, rfl, .inl ⟨rfl, _, sql_of em5⟩, .ref qd, rfl, dl, _, _, rfl, rfl, em5, smallM (by rw [List.length_map]; omega), ?_⟩
      have kd : ∀ (q' : Addr) (e' : Deed), DeedAt H5 q' e' → ∀ (o : HO), DeedAt (upd (upd H5 dl (.lst (qs.map V.ref ++ [.ref qd]))) d o) q' e' := fun q' e' h o => by
        have kt : ∀ {b : Addr} {vs : List V}, H5 b = some (.tup vs) → (upd (upd H5 dl (.lst (qs.map V.ref ++ [.ref qd]))) d o) b = some (.tup vs) := fun {b vs} hb => by
          have ed5' : H5 d = some (.dK _) := ed5
          rw [upd_ne (fun y => by rw [y, ed5'] at hb; cases hb), upd_ne (fun y => by rw [y, em5] at hb; cases hb)]
          exact hb
        cases e' with
        | come n ts =>
          obtain ⟨tq, h1, h2⟩ := h
          exact ⟨tq, kt h1, kt h2⟩
        | die n => exact kt h
      have ew2 : (upd H5 dl (.lst (qs.map V.ref ++ [.ref qd]))) qd = some (.tup (.str e.word :: .str e.name :: more)) := by
        rw [upd_ne (fun y => by rw [y, em5] at ew; cases ew)]; exact ew
      have ed6 : LivesAt (upd H5 dl (.lst (qs.map V.ref ++ [.ref qd]))) d (ds.take j) := by
        show (upd _ dl _) d = _
        rw [upd_ne (Ne.symm dld)]; exact ed5
      refine ⟨.ref qd, rfl, qd, _, 0, .str e.word, rfl, rfl, sqt_of ew2, atI_nat (j := 0) rfl, rfl, .ref d, rfl, .ref qd, rfl, qd, _, 1, .str e.name, rfl, rfl, sqt_of ew2, atI_nat (j := 1) rfl, d, _, rfl, DPut.k (k := Sum.inr e.name) ed6 (smallM (by rw [encF_len]; omega)), _, _, _, qs ++ [qd], rfl, fun b o eb => ?_, rfl, ?_, ?_, ?_, ?_⟩
      · rw [upd_ne (ne_of_none eb nd0), upd_ne (ne_of_none eb ndl0)]; exact s7 _ _ (sx _ _ eb)
      · rw [upd_ne lld, upd_ne lldl]; exact s7 _ _ el'
      · rw [upd_ne dld, upd_same, List.map_append]; rfl
      · rw [et]
        exact paired_snoc (kd qd e edd5 _) (paired_mono (fun q' e' h => kd q' e' (h.keep s7) _) hp)
      · show (upd _ d _) d = _
        rw [upd_same, et, word_come e, lives_step hH1]
    · rintro a σ' H' ⟨o4, o5, o6, qs, rfl, sx, rfl, el', em, hp, ed⟩
      rw [List.length_map, List.length_map, List.take_length] at hp
      exact ⟨.ref dl, rfl, dl, _, rfl, .inl ⟨sql_of em, fun p np => q p _ (sx.trans (same_upd np)) (sx.free np) ⟨qs, upd_same, paired_mono (fun q' e' h => h.keep (same_upd np)) hp⟩⟩⟩
end
end Hw

set_option Elab.async false
set_option linter.all false
set_option maxRecDepth 100000
set_option maxHeartbeats 4000000
namespace Hw
open PySem L2 PyProof.Rows
abbrev sInitH : Stmt := inClass (topS 26) 0
abbrev sLenH : Stmt := inClass (topS 26) 1
theorem SameX.tup {H H' : Hp} {x b C dx : Addr} {fs : List (Str × V)} {vs : List V} (s : SameX x H H') (hx : H x = some (.ins C dx fs)) (e : H b = some (.tup vs)) : H' b = some (.tup vs) := s _ _ (fun z => by rw [z, hx] at e; cases e) e
theorem DeedAt.put {H H' : Hp} {x q C dx : Addr} {fs : List (Str × V)} (s : SameX x H H') (hx : H x = some (.ins C dx fs)) : ∀ {d : Deed}, DeedAt H q d → DeedAt H' q d
  | .come _ _, ⟨tq, h1, h2⟩ => ⟨tq, s.tup hx h1, s.tup hx h2⟩
  | .die _, h => s.tup hx h
theorem DeedsT.put {H H' : Hp} {x p C dx : Addr} {fs : List (Str × V)} {ds : List Deed} (h : DeedsT H p ds) (s : SameX x H H') (hx : H x = some (.ins C dx fs)) : DeedsT H' p ds := by
  obtain ⟨qs, h1, h2⟩ := h
  exact ⟨qs, s.tup hx h1, paired_mono (fun q d e => e.put s hx) h2⟩
theorem LivesAt.put {H H' : Hp} {x d C dx : Addr} {fs : List (Str × V)} {ds : List Deed} (h : LivesAt H d ds) (s : SameX x H H') (hx : H x = some (.ins C dx fs)) : LivesAt H' d ds := s _ _ (fun z => by
  have h : H d = _ := h
  rw [z, hx] at h; cases h) h
theorem sameX_upd {H : Hp} {x : Addr} {o : HO} : SameX x H (upd H x o) := fun b u hb e => by rw [upd_ne hb]; exact e
/-- a History at x -/
structure HistO (C : Addr) (H : Hp) (x : Addr) (ds : List Deed) : Prop where
  ex : ∃ (dx dp lp ep : Addr) (fs : List (Str × V)), H x = some (.ins C dx fs) ∧ fs.length ≤ 4 ∧ fs.lookup ("text" : Str) = some (.str (histText ds)) ∧ fs.lookup ("deeds" : Str) = some (.ref dp) ∧ fs.lookup ("living" : Str) = some (.ref lp) ∧ fs.lookup ("dead" : Str) = some (.ref ep) ∧
    DeedsT H dp ds ∧ H lp = some (.tup ((sortS (liv ds)).map V.str)) ∧ H ep = some (.tup ((sortS (deadD ds)).map V.str))
  hist : Hist ds
  few : ds.length ≤ 100
theorem HistO.keep {C : Addr} {H H' : Hp} {x : Addr} {ds : List Deed} (w : HistO C H x ds) (s : Same H H') : HistO C H' x ds := by
  obtain ⟨⟨dx, dp, lp, ep, fs, h1, h2, h3, h4, h5, h6, h7, h8, h9⟩, a, b⟩ := w
  exact ⟨⟨dx, dp, lp, ep, fs, s _ _ h1, h2, h3, h4, h5, h6, h7.keep s, s _ _ h8, s _ _ h9⟩, a, b⟩
structure TxtH (K : PySem.W.Frag) (mg : Str → Option Value) (C : Addr) : Prop where
  cl : Cls K C
  nT : NoAttr K C "text"
  nD : NoAttr K C "deeds"
  nL : NoAttr K C "living"
  nE : NoAttr K C "dead"
  mH : mg "History" = some (.ref C)
def spInitH (C : Addr) : Sp := fun vs H Q _ => ∃ (x dx : Addr) (ds : List Deed), vs = [.ref x, .str (histText ds)] ∧ Hist ds ∧ ds.length ≤ 100 ∧ H x = some (.ins C dx []) ∧ ∀ H', HistO C H' x ds → SameX x H H' → Q .non H'
def spLenH (C : Addr) : Sp := fun vs H Q _ => ∃ (x : Addr) (ds : List Deed), vs = [.ref x] ∧ HistO C H x ds ∧ Q (.int (ds.length : Nat)) H
section
variable {P : Program} {w : World} {K : PySem.W.Frag} {mg : Str → Option Value} {base : Heap}
theorem scInitH : FnScope ["self", "text", "deeds", "lives"] ["self", "text"] (defScope sInitH) := ⟨rfl, rfl, rfl, by decide +kernel, rfl, by decide +kernel, by decide +kernel⟩
theorem ok_initH {f fR fL fN C : Addr} {fd fdR fdL fdN : FuncData} {k : Nat} (F : Fun K "__init__" "History.__init__" sInitH f fd) (T : TxtH K mg C)
    (GR : FnOk P w K mg base CX0 k fR fdR ["text"] spReadDs) (gR : mg "read_deeds" = some (.ref fR)) (kR : PySem.W.keepIn K (.ref fR) = true) (bR : Binds K fdR ["text"] [])
    (GL : FnOk P w K mg base CX0 k fL fdL ["deeds"] spLivesB) (gL : mg "lives_behind" = some (.ref fL)) (kL : PySem.W.keepIn K (.ref fL) = true) (bL : Binds K fdL ["deeds"] [])
    (GN : FnOk P w K mg base CX0 k fN fdN ["live", "lives"] spNamesT) (gN : mg "names_that" = some (.ref fN)) (kN : PySem.W.keepIn K (.ref fN) = true) (bN : Binds K fdN ["live", "lives"] []) :
    FnOk P w K mg base CX0 (k + 1) f fd ["self", "text"] (spInitH C) := by
  refine F.ok scInitH (fun vs H Q E h => ?_) (fun cdv A outer s H vs Q E hr h => ?_)
  · obtain ⟨x, dx, ds, rfl, _⟩ := h
    rfl
  · obtain ⟨x, dx, ds, rfl, hH, hl, hx, q⟩ := h
    refine ⟨_, pss_cons (ps_set (i := 2) scInitH.nd rfl (.inl rfl) (pe_call GR hr (by rfl) gR kR bR .nil pass0 (pa_cons (pv 1) pa_nil)))
      (pss_cons (ps_set (i := 3) scInitH.nd rfl (.inl rfl) (pe_call GL hr (by rfl) gL kL bL .nil pass0 (pa_cons (pv 2) pa_nil)))
      (pss_cons (ps_fld (pv 0) (pv 1) rfl) (pss_cons (ps_fld (pv 0) (pv 2) rfl)
      (pss_cons (ps_fld (pv 0) (pe_call GN hr (by rfl) gN kN bN .nil pass0 (pa_cons pe_bl (pa_cons (pv 3) pa_nil))) rfl)
      (pss_one (ps_fld (pv 0) (pe_call GN hr (by rfl) gN kN bN .nil pass0 (pa_cons pe_bl (pa_cons (pv 3) pa_nil))) rfl)))))), ?_⟩
    refine rs_set ?_
    refine ⟨.str (histText ds), rfl, ds, rfl, hH, hl, fun dp H1 s1 ndp hdp => ?_⟩
    refine rs_set ?_
    refine ⟨.ref dp, rfl, dp, ds, rfl, hdp, hH, by omega, fun d H2 s2 nd hd => ?_⟩
    have e0 := s2 _ _ (s1 _ _ hx)
    have hdp2 := hdp.keep s2
    have l1 := length_putF "text" (V.str (histText ds)) []
    have l2 := length_putF "deeds" (V.ref dp) (putF "text" (V.str (histText ds)) [])
    have l0 : ([] : List (Str × V)).length = 0 := rfl
    have hA1 := hdp2.put (sameX_upd (o := .ins C dx (putF "text" (.str (histText ds)) []))) e0
    have hA2 := hA1.put (sameX_upd (o := .ins C dx (putF "deeds" (.ref dp) (putF "text" (.str (histText ds)) [])))) upd_same
    have hB1 := hd.put (sameX_upd (o := .ins C dx (putF "text" (.str (histText ds)) []))) e0
    have hB2 := hB1.put (sameX_upd (o := .ins C dx (putF "deeds" (.ref dp) (putF "text" (.str (histText ds)) [])))) upd_same
    refine ⟨.str (histText ds), rfl, .ref x, rfl, x, C, dx, [], rfl, e0, T.cl, T.nT, by omega, .ref dp, rfl, .ref x, rfl, x, C, dx, _, rfl, upd_same, T.cl, T.nD, by omega, ?_⟩
    have ex2 : (upd (upd H2 x (.ins C dx (putF "text" (.str (histText ds)) []))) x (.ins C dx (putF "deeds" (.ref dp) (putF "text" (.str (histText ds)) [])))) x = some (.ins C dx (putF "deeds" (.ref dp) (putF "text" (.str (histText ds)) []))) := upd_same
    have sxA : SameX x H (upd (upd H2 x (.ins C dx (putF "text" (.str (histText ds)) []))) x (.ins C dx (putF "deeds" (.ref dp) (putF "text" (.str (histText ds)) [])))) := ((SameX.of (s1.trans s2)).trans sameX_upd).trans sameX_upd
    generalize (upd (upd H2 x (.ins C dx (putF "text" (.str (histText ds)) []))) x (.ins C dx (putF "deeds" (.ref dp) (putF "text" (.str (histText ds)) [])))) = H3 at hA2 hB2 ex2 sxA ⊢
    refine ⟨.ref d, rfl, true, d, ds, rfl, hB2, hH, by omega, fun lp H4 s4 elp => ?_⟩
    have ex4 := s4 _ _ ex2
    have l3 := length_putF "living" (V.ref lp) (putF "deeds" (V.ref dp) (putF "text" (V.str (histText ds)) []))
    refine ⟨.ref x, rfl, x, C, dx, _, rfl, ex4, T.cl, T.nL, by omega, ?_⟩
    have hA4 := (hA2.keep s4).put (sameX_upd (o := .ins C dx (putF "living" (.ref lp) (putF "deeds" (.ref dp) (putF "text" (.str (histText ds)) []))))) ex4
    have hB4 := (hB2.keep s4).put (sameX_upd (o := .ins C dx (putF "living" (.ref lp) (putF "deeds" (.ref dp) (putF "text" (.str (histText ds)) []))))) ex4
    have elp4 := (sameX_upd (o := .ins C dx (putF "living" (.ref lp) (putF "deeds" (.ref dp) (putF "text" (.str (histText ds)) []))))).tup ex4 elp
    have ex5 : (upd H4 x (.ins C dx (putF "living" (.ref lp) (putF "deeds" (.ref dp) (putF "text" (.str (histText ds)) []))))) x = some (.ins C dx (putF "living" (.ref lp) (putF "deeds" (.ref dp) (putF "text" (.str (histText ds)) [])))) := upd_same
    have sxB : SameX x H (upd H4 x (.ins C dx (putF "living" (.ref lp) (putF "deeds" (.ref dp) (putF "text" (.str (histText ds)) []))))) := (sxA.trans (.of s4)).trans sameX_upd
    generalize (upd H4 x (.ins C dx (putF "living" (.ref lp) (putF "deeds" (.ref dp) (putF "text" (.str (histText ds)) []))))) = H5 at hA4 hB4 elp4 ex5 sxB ⊢
    refine ⟨.ref d, rfl, false, d, ds, rfl, hB4, hH, by omega, fun ep H6 s6 eep => ?_⟩
    have ex6 := s6 _ _ ex5
    have l4 := length_putF "dead" (V.ref ep) (putF "living" (V.ref lp) (putF "deeds" (V.ref dp) (putF "text" (V.str (histText ds)) [])))
    refine ⟨.ref x, rfl, x, C, dx, _, rfl, ex6, T.cl, T.nE, by omega, q _ ⟨⟨dx, dp, lp, ep, _, upd_same, by omega, ?_, ?_, ?_, ?_, (hA4.keep s6).put sameX_upd ex6, sameX_upd.tup ex6 (s6 _ _ elp4), sameX_upd.tup ex6 eep⟩, hH, hl⟩ ((sxB.trans (.of s6)).trans sameX_upd)⟩
    · rw [lookup_putF, if_neg (by decide), lookup_putF, if_neg (by decide), lookup_putF, if_neg (by decide), lookup_putF, if_pos rfl]
    · rw [lookup_putF, if_neg (by decide), lookup_putF, if_neg (by decide), lookup_putF, if_pos rfl]
    · rw [lookup_putF, if_neg (by decide), lookup_putF, if_pos rfl]
    · rw [lookup_putF, if_pos rfl]
theorem scLenH : FnScope ["self"] ["self"] (defScope sLenH) := ⟨rfl, rfl, rfl, by decide +kernel, rfl, by decide +kernel, by decide +kernel⟩
theorem ok_lenH {f C : Addr} {fd : FuncData} {k : Nat} (F : Fun K "__len__" "History.__len__" sLenH f fd) (T : TxtH K mg C) (B : Blt mg) : FnOk P w K mg base CX0 (k + 1) f fd ["self"] (spLenH C) := by
  refine F.ok scLenH (fun vs H Q E h => ?_) (fun cdv A outer s H vs Q E hr h => ?_)
  · obtain ⟨x, ds, rfl, _⟩ := h
    rfl
  · obtain ⟨x, ds, rfl, wb, q⟩ := h
    obtain ⟨⟨dx, dp, lp, ep, fs, h1, h2, h3, h4, h5, h6, ⟨qs, h7, h7'⟩, h8, h9⟩, hH, hl⟩ := wb
    refine ⟨_, pss_one (ps_ret (pe_callB call_len_seq (by rfl) B.len PySem.boot_len (pa_cons (pe_fld (pv 0) rfl) pa_nil))), ?_⟩
    refine ⟨.ref x, rfl, x, C, dx, _, _, rfl, h1, T.cl, T.nD, h4, dp, qs.map V.ref, rfl, .inr (sqt_of h7), ?_⟩
    rw [List.length_map, Paired.length h7']
    exact q
end
end Hw

set_option Elab.async false
set_option linter.all false
set_option maxRecDepth 100000
set_option maxHeartbeats 4000000
namespace Hw
open PySem L2 PyProof.Rows
abbrev sEqH : Stmt := inClass (topS 26) 2
structure ClsQ (K : PySem.W.Frag) (mg : Str → Option Value) (C : Addr) : Prop where
  ha : PySem.W.findIn K (.ref C) "__class__" = some (some (.builtin "object.__class__"))
  hn : PySem.W.specialIn K (.builtin "object.__class__") "__get__" = some (some (.builtin "getset_descriptor.__get__"))
  htk : PySem.W.takesIn K (.builtin "object.__class__") = some true
  hm : PySem.W.mroIn K C (.type "object") = some true
  kS : PySem.W.kitOne K (.type "str") (.ref C) = some false
  kN : PySem.W.kitOne K (.type "NoneType") (.ref C) = some false
  kT : PySem.W.kitOne K (.type "tuple") (.ref C) = some false
  kI : PySem.W.kitOne K (.type "int") (.ref C) = some false
  fS : PySem.W.notFirst K C (.type "str") = true
  fN : PySem.W.notFirst K C (.type "NoneType") = true
  fT : PySem.W.notFirst K C (.type "tuple") = true
  fI : PySem.W.notFirst K C (.type "int") = true
theorem kit_same {K : PySem.W.Frag} {C : Addr} : PySem.W.kitOne K (.ref C) (.ref C) = some true := by
  unfold PySem.W.kitOne
  rw [if_pos (by simp)]
theorem deedLine_die (n : Str) : Str.empty ++ Str.ofString "die " ++ n = deedLine (.die n) := by
  unfold deedLine
  rw [TL.join_eq]
  show _ = sDie ++ sBl ++ n
  congr 1
def spLineOf : Sp := fun vs H Q _ => ∃ (q : Addr) (e : Deed), vs = [.ref q] ∧ DeedAt H q e ∧ FineD e ∧ ∀ H', Same H H' → Q (.str (deedLine e)) H'
def spEqH (K : PySem.W.Frag) (C : Addr) : Sp := fun vs H Q _ => ∃ (x : Addr) (y : V) (ds : List Deed), vs = [.ref x, y] ∧ HistO C H x ds ∧ ((∃ x2 ds2, y = .ref x2 ∧ HistO C H x2 ds2 ∧ Q (.bl (decide (histText ds = histText ds2))) H) ∨ ∃ t, TyX K H y t ∧ PySem.W.kitOne K t (.ref C) = some false ∧ Q (.bl false) H)
section
variable {P : Program} {w : World} {K : PySem.W.Frag} {mg : Str → Option Value} {base : Heap}
theorem scEqH : FnScope ["self", "other"] ["self", "other"] (defScope sEqH) := ⟨rfl, rfl, rfl, by decide +kernel, rfl, by decide +kernel, by decide +kernel⟩
theorem ok_eqH {f C : Addr} {fd : FuncData} {k : Nat} (F : Fun K "__eq__" "History.__eq__" sEqH f fd) (T : TxtH K mg C) (B3 : Blt3 mg) (Cq : ClsQ K mg C) : FnOk P w K mg base CX0 (k + 1) f fd ["self", "other"] (spEqH K C) := by
  refine F.ok scEqH (fun vs H Q E h => ?_) (fun cdv A outer s H vs Q E hr h => ?_)
  · obtain ⟨x, y, ds, rfl, _⟩ := h
    rfl
  · obtain ⟨x, y, ds, rfl, wb, hy⟩ := h
    obtain ⟨⟨dx, dp, lp, ep, fs, h1, h2, h3, h4, h5, h6, h7, h8, h9⟩, hH, hl⟩ := wb
    refine ⟨_, pss_one (ps_ret (pe_and (pe_callB call_isi (by rfl) B3.isi PyProof.Rows.boot_isinstance (pa_cons (pv 1) (pa_cons (pe_glob (v := .ref C) (by rfl) T.mH rfl) pa_nil)))
      (pe_one (pe_cmpR op_eq (pe_fld (pv 0) rfl) (pe_fld (pv 1) rfl) (nomark _))))), ?_⟩
    rcases hy with ⟨x2, ds2, rfl, ⟨⟨dx2, dp2, lp2, ep2, fs2, k1, k2, k3, k4, k5, k6, k7, k8, k9⟩, hH2, hl2⟩, q⟩ | ⟨t', ty, kt, q⟩
    · refine ⟨.ref x2, rfl, .ref x2, .ref C, .ref C, .ref C, true, rfl, .own _, .base (.ins k1 T.cl Cq.ha Cq.hn Cq.htk Cq.hm), kit_same, true, rfl, ?_⟩
      refine ⟨.ref x, rfl, x, C, dx, _, _, rfl, h1, T.cl, T.nT, h3, .ref x2, rfl, x2, C, dx2, _, _, rfl, k1, T.cl, T.nT, k3, rfl, ?_⟩
      have e : decide (V.str (histText ds) = V.str (histText ds2)) = decide (histText ds = histText ds2) := by
        rw [decide_eq_decide]
        exact ⟨fun e => by injection e, fun e => by rw [e]⟩
      rw [e]
      exact q
    · exact ⟨y, rfl, y, .ref C, t', .ref C, false, rfl, .own _, ty, kt, false, rfl, q⟩
end
end Hw

set_option Elab.async false
set_option linter.all false
set_option maxRecDepth 100000
set_option maxHeartbeats 4000000
namespace Hw
open PySem L2 PyProof.Rows
theorem len_putF_old {f : Str} {v w : V} : ∀ {fs : List (Str × V)}, fs.lookup f = some w → (putF f v fs).length = fs.length
  | [], h => by cases h
  | (k, x) :: r, h => by
    rw [show putF f v ((k, x) :: r) = (if k = f then (k, v) :: r else (k, x) :: putF f v r) from rfl]
    by_cases e : k = f
    · rw [if_pos e]; rfl
    · rw [if_neg e, List.length_cons, List.length_cons]
      have h2 : r.lookup f = some w := by
        rw [List.lookup_cons] at h
        have : (f == k) = false := by simpa using Ne.symm e
        rw [this] at h
        exact h
      rw [len_putF_old h2]
theorem str_app_assoc (a b c : Str) : a ++ b ++ c = a ++ (b ++ c) := by
  apply str_ext
  rw [app_cps, app_cps, app_cps, app_cps, List.append_assoc]
theorem sjoin_snoc (y x : Str) : ∀ {ps : List Str}, ps ≠ [] → Str.join y (ps ++ [x]) = Str.join y ps ++ y ++ x
  | [], h => absurd rfl h
  | [p], _ => rfl
  | p :: q :: r, _ => by
    have ih := sjoin_snoc y x (ps := q :: r) (by simp)
    show p ++ y ++ Str.join y ((q :: r) ++ [x]) = p ++ y ++ Str.join y (q :: r) ++ y ++ x
    rw [ih]
    simp only [str_app_assoc]
theorem hist_snoc {ds : List Deed} (h : ds ≠ []) (e : Deed) : Txt.join sNl [histText ds, deedLine e] = histText (ds ++ [e]) := by
  unfold histText
  rw [TL.join_eq, TL.join_eq, TL.join_eq, List.map_append]
  have := sjoin_snoc sNl (deedLine e) (ps := ds.map deedLine) (by simpa using h)
  exact this.symm
theorem hist_one (e : Deed) : deedLine e = histText ([] ++ [e]) := by
  unfold histText
  rw [TL.join_eq]; rfl
theorem rs_fldP {K : PySem.W.Frag} {ta tv : TE} {f : Str} {u : TS} {D : Ends} {σ : L2.St} {H : Hp} (P0 : V → Hp → Prop) (hw : ∀ Q : VK, (∀ v H1, P0 v H1 → Q v H1) → tv σ H Q)
    (h : ∀ v H1, P0 v H1 → ta σ H1 fun x H2 => ∃ a C dx fs, x = .ref a ∧ H2 a = some (.ins C dx fs) ∧ Cls K C ∧ NoAttr K C f ∧ fs.length < 1000 ∧ u D σ (upd H2 a (.ins C dx (putF f v fs)))) : tSeq (sFld K ta tv f) u D σ H := hw _ h
def spLedOn (C : Addr) : Sp := fun vs H Q _ => ∃ (x q : Addr) (ds : List Deed) (e : Deed), vs = [.ref x, .ref q] ∧ HistO C H x ds ∧ DeedAt H q e ∧ Hist (ds ++ [e]) ∧ ds.length < 100 ∧ ∀ y H', HistO C H' y (ds ++ [e]) → Same H H' → H y = none → Q (.ref y) H'
section
variable {P : Program} {w : World} {K : PySem.W.Frag} {mg : Str → Option Value} {base : Heap}
end
end Hw

set_option Elab.async false
set_option linter.all false
set_option maxRecDepth 100000
set_option maxHeartbeats 4000000
namespace Hw
open PySem L2 PyProof.Rows
theorem depthAll_le {m : Nat} : ∀ {ds : List PyData}, (∀ d ∈ ds, d.depth ≤ m) → PyData.depthAll ds ≤ m
  | [], _ => by rw [PyData.depthAll]; exact Nat.zero_le _
  | d :: ds, h => by
    rw [PyData.depthAll]
    have h1 := h d List.mem_cons_self
    have h2 := depthAll_le fun x hx => h x (List.mem_cons_of_mem _ hx)
    omega
def gRev : List Value → List Value → List Value := fun us ws => match us with
  | [] => ws.reverse
  | _ :: _ => []
def gVRev : List V → List V → List V := fun us ws => match us with
  | [] => ws.reverse
  | _ :: _ => []
theorem vals_rev : ∀ {vs : List V} {us : List Value}, Vals vs us → Vals vs.reverse us.reverse
  | _, _, .nil => .nil
  | _, _, .cons r t => by
    rw [List.reverse_cons, List.reverse_cons]
    exact (vals_rev t).append (.cons r .nil)
theorem rev_rel {vs : List V} {us : List Value} {zs : List V} {ws : List Value} (r : Vals vs us) (h : Vals zs ws) : Vals (gVRev vs zs) (gRev us ws) := by
  cases r with
  | nil => exact vals_rev h
  | cons _ _ => exact .nil
theorem tame_txt {z : Str} {w : Nat} (h : PyData.strOk z = true) (hl : z.length ≤ w) : Tame w (.str z) := ⟨by rw [PyData.canLay0]; exact h, by rw [PyData.showable], by rw [PyData.intsShort], by rw [PyData.depth]; decide, by rw [PyData.weight]; exact hl⟩
theorem SameX.keepP {H H' : Hp} {a b : Addr} {N : Nat} {o : HO} (hP : Pot H a N) (s : SameX a H H') (e : H b = some o) (hn : ∀ x y z : Int, o ≠ .lst [.int x, .int y, .int z]) : H' b = some o := s _ _ (fun z => by
  obtain ⟨xx, yy, zz, e', _⟩ := hP.ex
  rw [z, e'] at e
  exact hn _ _ _ (Option.some.inj e).symm) e
theorem kb2 {K : PySem.W.Frag} {fd : FuncData} {ps ks : List Str} (hp : ps.length = 2) (h : ∀ (s : Shared) (a b : Value), BindsTo s fd ⟨[], ks.zip [a, b]⟩ (ps.zip [b, a])) : KBinds K fd ps ks gRev gVRev := by
  refine ⟨fun s us ws _ hl => ?_, rev_rel⟩
  rw [hp] at hl
  cases us with
  | cons u us => cases hl
  | nil =>
    have hl : ws.reverse.length = 2 := hl
    rw [List.length_reverse] at hl
    match ws, hl with
    | [a, b], _ => exact h s a b
def deedD : Deed → PyData
  | .come n ts => .tuple [.str sCome, .str n, .tuple (ts.map PyData.str)]
  | .die n => .tuple [.str sDie, .str n]
def toldD (ds : List Deed) : PyData := .tuple [.str (histText ds), .tuple (ds.map deedD), .tuple ((sortS (liv ds)).map PyData.str), .tuple ((sortS (deadD ds)).map PyData.str), .int (ds.length : Nat)]
theorem depth_strs (zs : List Str) : (PyData.tuple (zs.map PyData.str)).depth ≤ 1 := by
  rw [PyData.depth]
  have := depthAll_le (m := 0) (ds := zs.map PyData.str) fun d hd => by
    obtain ⟨t, _, rfl⟩ := List.mem_map.mp hd
    rw [PyData.depth]; exact Nat.le_refl _
  omega
theorem tame_names {zs : List Str} (nm : ∀ z ∈ zs, Nm z) : Tame (zs.length * 9) (.tuple (zs.map PyData.str)) := by
  have t := (tame_tup (w := 8) (ds := zs.map PyData.str) fun d hd => by
    obtain ⟨z, hz, rfl⟩ := List.mem_map.mp hd
    exact ⟨tame_str (nm z hz), by rw [PyData.depth]; decide⟩).1
  rw [List.length_map] at t
  exact t
theorem tame_word {z : Str} (h : z = sCome ∨ z = sDie) : Tame 8 (.str z) := by
  have hz : PyData.strOk z = true ∧ z.length ≤ 8 := by rcases h with rfl | rfl <;> exact ⟨by decide +kernel, by decide +kernel⟩
  exact tame_txt hz.1 hz.2
theorem depth_deed (e : Deed) : (deedD e).depth ≤ 2 := by
  cases e with
  | come n ts =>
    show (PyData.tuple [.str sCome, .str n, .tuple (ts.map PyData.str)]).depth ≤ 2
    rw [PyData.depth]
    have := depthAll_le (m := 1) (ds := [.str sCome, .str n, .tuple (ts.map PyData.str)]) fun d hd => by
      simp only [List.mem_cons, List.not_mem_nil, or_false] at hd
      rcases hd with rfl | rfl | rfl
      · rw [PyData.depth]; decide
      · rw [PyData.depth]; decide
      · exact depth_strs ts
    omega
  | die n =>
    show (PyData.tuple [.str sDie, .str n]).depth ≤ 2
    rw [PyData.depth]
    have := depthAll_le (m := 0) (ds := [.str sDie, .str n]) fun d hd => by
      simp only [List.mem_cons, List.not_mem_nil, or_false] at hd
      rcases hd with rfl | rfl <;> (rw [PyData.depth]; exact Nat.le_refl _)
    omega
theorem tame_deed {e : Deed} (f : FineD e) (hl : e.ties.length ≤ 40) : Tame 1100 (deedD e) := by
  cases e with
  | come n ts =>
    have hl : ts.length ≤ 40 := hl
    refine ((tame_tup (w := 360) (ds := [.str sCome, .str n, .tuple (ts.map PyData.str)]) fun d hd => ?_).1).mono (by show 3 * 361 ≤ _; decide)
    simp only [List.mem_cons, List.not_mem_nil, or_false] at hd
    rcases hd with rfl | rfl | rfl
    · exact ⟨(tame_word (.inl rfl)).mono (by decide), by rw [PyData.depth]; decide⟩
    · exact ⟨(tame_str f.nm).mono (by decide), by rw [PyData.depth]; decide⟩
    · exact ⟨(tame_names f.ts).mono (by show ts.length * 9 ≤ 360; omega), Nat.le_trans (depth_strs ts) (by decide)⟩
  | die n =>
    refine ((tame_tup (w := 360) (ds := [.str sDie, .str n]) fun d hd => ?_).1).mono (by show 2 * 361 ≤ _; decide)
    simp only [List.mem_cons, List.not_mem_nil, or_false] at hd
    rcases hd with rfl | rfl
    · exact ⟨(tame_word (.inr rfl)).mono (by decide), by rw [PyData.depth]; decide⟩
    · exact ⟨(tame_str f.nm).mono (by decide), by rw [PyData.depth]; decide⟩
theorem small_txt (z : Str) (h : (z.cps.toList.all fun c => decide (c < 0x110000)) = true) : ∀ c ∈ z.cps.toList, c < 0x110000 := fun c hc => of_decide_eq_true (List.all_eq_true.mp h c hc)
theorem FineD.small {e : Deed} (f : FineD e) {c : Nat} (hc : c ∈ (deedLine e).cps.toList) : c < 0x110000 := by
  rcases join_mem hc with h | ⟨p, hp, h⟩
  · exact small_txt sBl (by decide +kernel) c h
  · rcases List.mem_cons.mp hp with rfl | hp
    · cases e with
      | come n ts => exact small_txt sCome (by decide +kernel) c h
      | die n => exact small_txt sDie (by decide +kernel) c h
    · rcases List.mem_cons.mp hp with rfl | hp
      · have := (f.nm.2.2 c h).2; omega
      · have := ((f.ts p hp).2.2 c h).2; omega
theorem hist_strOk {ds : List Deed} (h : Hist ds) (hl : ds.length ≤ 100) : PyData.strOk (histText ds) = true := by
  unfold PyData.strOk
  refine Array.all_eq_true_iff_forall_mem.mpr fun c hc => decide_eq_true ?_
  rcases join_mem (cps_mem hc) with h' | ⟨p, hp, h'⟩
  · exact small_txt sNl (by decide +kernel) c h'
  · obtain ⟨e, he, rfl⟩ := List.mem_map.mp hp
    exact (FineD.of h hl he).small h'
theorem hist_len {ds : List Deed} (h : Hist ds) (hl : ds.length ≤ 40) : (histText ds).length ≤ 50000 := by
  refine Nat.le_trans (join_len _ _) ?_
  have hs := sum_le (ps := ds.map deedLine) (b := 1000) fun p hp => by
    obtain ⟨d, hd, rfl⟩ := List.mem_map.mp hp
    exact (FineD.of h (by omega) hd).len
  have e1 : sNl.length = 1 := by decide +kernel
  rw [List.length_map] at hs ⊢
  rw [e1]
  omega
theorem tame_told {ds : List Deed} (h : Hist ds) (hl : ds.length ≤ 40) : Tame 300000 (toldD ds) := by
  have hll := h.liv_len
  have hdl := dead_len (ds := ds)
  have lvL : (sortS (liv ds)).length = (liv ds).length := (sortS_perm _).length_eq
  have ddL : (sortS (deadD ds)).length = (deadD ds).length := (sortS_perm _).length_eq
  refine ((tame_tup (w := 50000) (ds := [.str (histText ds), .tuple (ds.map deedD), .tuple ((sortS (liv ds)).map PyData.str), .tuple ((sortS (deadD ds)).map PyData.str), .int (ds.length : Nat)]) fun d hd => ?_).1).mono (by show 5 * 50001 ≤ _; decide)
  simp only [List.mem_cons, List.not_mem_nil, or_false] at hd
  rcases hd with rfl | rfl | rfl | rfl | rfl
  · exact ⟨tame_txt (hist_strOk h (by omega)) (hist_len h hl), by rw [PyData.depth]; decide⟩
  · have t := (tame_tup (w := 1100) (ds := ds.map deedD) fun d hd => by
      obtain ⟨e, he, rfl⟩ := List.mem_map.mp hd
      exact ⟨tame_deed (FineD.of h (by omega) he) (by have := (h.each e he).2.1; omega), Nat.le_trans (depth_deed e) (by decide)⟩).1
    rw [List.length_map] at t
    refine ⟨t.mono (by omega), ?_⟩
    rw [PyData.depth]
    have := depthAll_le (m := 2) (ds := ds.map deedD) fun d hd => by
      obtain ⟨e, _, rfl⟩ := List.mem_map.mp hd
      exact depth_deed e
    omega
  · exact ⟨(tame_names fun z hz => h.nm z (h.liv_came z ((sortS_perm _).mem_iff.mp hz))).mono (by omega), Nat.le_trans (depth_strs _) (by decide)⟩
  · exact ⟨(tame_names fun z hz => h.nm z (h.dead_came z ((sortS_perm _).mem_iff.mp hz))).mono (by omega), Nat.le_trans (depth_strs _) (by decide)⟩
  · exact ⟨(tame_int (by omega)).mono (by decide), by rw [PyData.depth]; decide⟩
theorem dp_deed {K : PySem.W.Frag} {H : Hp} {q : Addr} : ∀ {e : Deed}, DeedAt H q e → Dp K H (.ref q) (deedD e)
  | .come n ts, ⟨tq, h1, h2⟩ => .tup (sqt_of h1) (.cons (.str _) (.cons (.str _) (.cons (.tup (sqt_of h2) (strs_dp _)) .nil)))
  | .die n, h => .tup (sqt_of (show H q = some (.tup [.str sDie, .str n]) from h)) (.cons (.str _) (.cons (.str _) .nil))
theorem dp_deeds {K : PySem.W.Frag} {H : Hp} : ∀ {qs : List Addr} {ds : List Deed}, Paired (DeedAt H) qs ds → DpAll K H (qs.map V.ref) (ds.map deedD)
  | _, _, .nil => .nil
  | _, _, .cons a t => .cons (dp_deed a) (dp_deeds t)
theorem dp_told {K : PySem.W.Frag} {H : Hp} {t dp lp ep : Addr} {ds : List Deed} (e : H t = some (.tup [.str (histText ds), .ref dp, .ref lp, .ref ep, .int (ds.length : Nat)])) (h1 : DeedsT H dp ds) (h2 : H lp = some (.tup ((sortS (liv ds)).map V.str))) (h3 : H ep = some (.tup ((sortS (deadD ds)).map V.str))) : Dp K H (.ref t) (toldD ds) := by
  obtain ⟨qs, e1, e2⟩ := h1
  exact .tup (sqt_of e) (.cons (.str _) (.cons (.tup (sqt_of e1) (dp_deeds e2)) (.cons (.tup (sqt_of h2) (strs_dp _)) (.cons (.tup (sqt_of h3) (strs_dp _)) (.cons (.int _) .nil)))))
def spIsTold (C : Addr) : Sp := fun vs H Q _ => ∃ (x l : Addr) (ds : List Deed), vs = [.ref x, .ref l] ∧ HistO C H x ds ∧ DeedsAt H l ds ∧ ds.length ≤ 40 ∧ ∀ H', Same H H' → Q (.bl true) H'
section
variable {P : Program} {w : World} {K : PySem.W.Frag} {mg : Str → Option Value} {base : Heap}
end
end Hw

set_option Elab.async false
set_option linter.all false
set_option maxRecDepth 100000
set_option maxHeartbeats 4000000
namespace Hw
open PySem L2 PyProof.Rows
abbrev sPair : Stmt := topS 6
def spWithin : Sp := fun vs H Q _ => ∃ v a b : Int, vs = [.int v, .int a, .int b] ∧ Q (.bl (decide (a ≤ v ∧ v ≤ b))) H
section
variable {P : Program} {w : World} {K : PySem.W.Frag} {mg : Str → Option Value} {base : Heap}
theorem scPair : FnScope ["one", "other"] ["one", "other"] (defScope sPair) := ⟨rfl, rfl, rfl, by decide +kernel, rfl, by decide +kernel, by decide +kernel⟩
theorem ok_pair {f : Addr} {fd : FuncData} {k : Nat} (F : Fun K "pair_of" "pair_of" sPair f fd) : FnOk P w K mg base CX0 (k + 1) f fd ["one", "other"] spTie := by
  refine F.ok scPair (fun vs H Q E h => ?_) (fun cdv A outer s H vs Q E hr h => ?_)
  · obtain ⟨a, b, rfl, _⟩ := h
    rfl
  · obtain ⟨a, b, rfl, q⟩ := h
    refine ⟨_, pss_one (ps_ret (pe_ifExp (pt_cmpR op_lt_str (pv 0) (pv 1) (nomark _)) (pe_tup (pa_cons (pv 0) (pa_cons (pv 1) pa_nil))) (pe_tup (pa_cons (pv 1) (pa_cons (pv 0) pa_nil))))), ?_⟩
    refine ⟨.str a, rfl, .str b, rfl, a, b, rfl, rfl, strLt a b, rfl, ?_⟩
    cases e : strLt a b with
    | true =>
      show if true = true then _ else _
      rw [if_pos rfl]
      refine ⟨.str a, rfl, .str b, rfl, by show 2 ≤ sizeLine; decide, fun p hp => ?_⟩
      have := q p hp
      unfold tieOf at this
      rw [strLt_as e, e] at this
      exact this
    | false =>
      show if false = true then _ else _
      rw [if_neg Bool.false_ne_true]
      refine ⟨.str b, rfl, .str a, rfl, by show 2 ≤ sizeLine; decide, fun p hp => ?_⟩
      have := q p hp
      unfold tieOf at this
      cases e2 : strLt b a with
      | true =>
        rw [e2, e] at this
        exact this
      | false =>
        obtain rfl := strLt_tri e e2
        rw [e2] at this
        exact this
end
end Hw

set_option Elab.async false
set_option linter.all false
set_option maxRecDepth 100000
set_option maxHeartbeats 4000000
namespace Hw
open PySem L2 PyProof.Rows
abbrev sAllPl : Stmt := topS 35
abbrev sAllEl : Stmt := topS 36
theorem Hist.part_perm {ds : List Deed} (h : Hist ds) : (liv ds ++ deadD ds).Perm (cameD ds) := by
  refine (List.perm_ext_iff_of_nodup ?_ h.came_nodup).mpr fun z => ?_
  · rw [List.nodup_append]
    exact ⟨h.liv_nodup, h.dead_nodup, fun x hx y hy e => h.dead_no y hy (e ▸ hx)⟩
  · rw [List.mem_append]
    exact ⟨fun q => q.elim (h.liv_came z) (h.dead_came z), h.came_or z⟩
theorem Hist.sort_parts {ds : List Deed} (h : Hist ds) : sortS (sortS (liv ds) ++ sortS (deadD ds)) = sortS (cameD ds) :=
  sortS_of_perm ((List.Perm.append (sortS_perm _) (sortS_perm _)).trans h.part_perm)
def spAllPl (C : Addr) : Sp := fun vs H Q _ => ∃ (x : Addr) (ds : List Deed), vs = [.ref x] ∧ HistO C H x ds ∧ ∀ p H', Same H H' → H p = none → H' p = some (.tup ((sortS (cameD ds)).map V.str)) → Q (.ref p) H'
def spAllEl (C : Addr) : Sp := fun vs H Q _ => ∃ (x : Addr) (ds : List Deed), vs = [.ref x] ∧ HistO C H x ds ∧ ∀ (p : Addr) (qs : List Addr) H', Same H H' → H p = none → H' p = some (.lst (qs.map V.ref)) → Paired (TieL H') qs (sortP (elderT ds)) → Q (.ref p) H'
theorem liv_le {ds : List Deed} (h : Hist ds) : (sortS (liv ds)).length ≤ ds.length := by rw [(sortS_perm _).length_eq]; exact h.liv_len
theorem dead_le (ds : List Deed) : (sortS (deadD ds)).length ≤ ds.length := by rw [(sortS_perm _).length_eq]; exact dead_len
section
variable {P : Program} {w : World} {K : PySem.W.Frag} {mg : Str → Option Value} {base : Heap}
theorem scAllPl : FnScope ["history"] ["history"] (defScope sAllPl) := ⟨rfl, rfl, rfl, by decide +kernel, rfl, by decide +kernel, by decide +kernel⟩
theorem ok_allpl {f C : Addr} {fd : FuncData} {k : Nat} (F : Fun K "all_places" "all_places" sAllPl f fd) (T : TxtH K mg C) (bs : mg "sorted" = none) (bt : mg "tuple" = none) : FnOk P w K mg base CX0 (k + 1) f fd ["history"] (spAllPl C) := by
  refine F.ok scAllPl (fun vs H Q E h => ?_) (fun cdv A outer s H vs Q E hr h => ?_)
  · obtain ⟨x, ds, rfl, _⟩ := h
    rfl
  · obtain ⟨x, ds, rfl, ⟨⟨dx, dp, lp, ep, fs, h1, h2, h3, h4, h5, h6, h7, h8, h9⟩, hH, hl⟩, q⟩ := h
    have hu64 := hr.units
    refine ⟨_, pss_one (ps_ret (pe_callTy call_tuple_of (by rfl) bt PyProof.Rows.boot_tuple (pa_cons (pe_callB (cr_sortT hu64) (by rfl) bs (by decide +kernel) (pa_cons (pe_lst (StX.pa_star (pe_fld (pv 0) rfl) (StX.pa_star (pe_fld (pv 0) rfl) pa_nil))) pa_nil)) pa_nil))), ?_⟩
    have l1 := liv_le hH
    have l2 := dead_le ds
    have hcl := came_len ds
    refine ⟨.ref x, rfl, x, C, dx, _, _, rfl, h1, T.cl, T.nL, h5, lp, _, rfl, .inl (sqt_of h8), .ref x, rfl, x, C, dx, _, _, rfl, h1, T.cl, T.nE, h6, ep, _, rfl, .inl (sqt_of h9), ?_, fun l nl => ?_⟩
    · rw [List.append_nil, List.length_append, List.length_map, List.length_map]
      exact Nat.le_of_lt (smallM (by omega))
    refine ⟨l, sortS (liv ds) ++ sortS (deadD ds), rfl, sql_of (by rw [upd_same, List.append_nil, List.map_append]), Nat.le_of_lt (smallM (by rw [List.length_append]; omega)), fun p2 n2 => ⟨p2, _, rfl, .inl ⟨sql_of upd_same, fun p3 n3 => ?_⟩⟩⟩
    have s2 := (same_upd (o := .lst ((sortS (liv ds)).map V.str ++ ((sortS (deadD ds)).map V.str ++ []))) nl).trans (same_upd (o := .lst ((sortS (sortS (liv ds) ++ sortS (deadD ds))).map V.str)) n2)
    have s3 := s2.trans (same_upd (o := .tup ((sortS (sortS (liv ds) ++ sortS (deadD ds))).map V.str)) n3)
    refine q p3 _ s3 (s2.free n3) ?_
    rw [upd_same, hH.sort_parts]
theorem scAllEl : FnScope ["history", "pairs", "deed", "tie"] ["history"] (defScope sAllEl) := ⟨rfl, rfl, rfl, by decide +kernel, rfl, by decide +kernel, by decide +kernel⟩
theorem ok_allel {f fP C : Addr} {fd fdP : FuncData} {k : Nat} (F : Fun K "all_elder_ties" "all_elder_ties" sAllEl f fd) (T : TxtH K mg C) (bs : mg "sorted" = none)
    (GP : FnOk P w K mg base CX0 k fP fdP ["one", "other"] spTie) (gP : mg "pair_of" = some (.ref fP)) (kP : PySem.W.keepIn K (.ref fP) = true) (bP : Binds K fdP ["one", "other"] []) : FnOk P w K mg base CX0 (k + 1) f fd ["history"] (spAllEl C) := by
  refine F.ok scAllEl (fun vs H Q E h => ?_) (fun cdv A outer s H vs Q E hr h => ?_)
  · obtain ⟨x, ds, rfl, _⟩ := h
    rfl
  · obtain ⟨x, ds, rfl, ⟨⟨dx, dp, lp, ep, fs, h1, h2, h3, h4, h5, h6, ⟨qs, e1, e2⟩, h8, h9⟩, hH, hl⟩, q⟩ := h
    have hu64 := hr.units
    refine ⟨_, pss_cons (ps_set (i := 1) scAllEl.nd rfl (.inl rfl) (pe_lst pa_nil))
      (pss_cons (ps_for PassesOwn.never rfl (pi_tup (pe_fld (pv 0) rfl)) (pg_name (i := 2) scAllEl.nd rfl (.inl rfl))
        (pss_one (ps_if (pt_cmpR op_eq (pe_ix ix_tup (pv 2) pe_int (fun _ _ => rfl)) pe_str (nomark _))
          (pss_one (ps_for PassesOwn.never rfl (pi_tup (pe_ix ix_tup (pv 2) pe_int (fun _ _ => rfl))) (pg_name (i := 3) scAllEl.nd rfl (.inl rfl))
            (pss_one (ps_expr (pe_bm PySem.F.plainAttrs_list PySem.F.slot_list_append PySem.F.type_list_append mt_append (pv 1) (pa_cons (pe_call GP hr (by rfl) gP kP bP .nil pass0 (pa_cons (pe_ix ix_tup (pv 2) pe_int (fun _ _ => rfl)) (pa_cons (pv 3) pa_nil))) pa_nil)))))) pss_nil)))
      (pss_one (ps_ret (pe_callB (cr_sortTP hu64) (by rfl) bs (by decide +kernel) (pa_cons (pv 1) pa_nil))))), ?_⟩
    refine rs_set ?_
    refine ⟨Nat.zero_le _, fun l nl => ?_⟩
    refine rs_tup dp (qs.map V.ref) (fun Q1 q1 => ⟨.ref x, rfl, x, C, dx, _, _, rfl, (same_upd nl) _ _ h1, T.cl, T.nD, h4, q1⟩) (fun i σ' H' => ∃ o2 o3 ts, σ' = [some (.ref x), some (.ref l), o2, o3] ∧ Same H H' ∧ H' l = some (.lst (ts.map V.ref)) ∧ Paired (TieL H') ts (elderT (ds.take i)))
      ⟨_, _, [], rfl, same_upd nl, upd_same, .nil⟩ (fun i σ' H' _ ⟨_, _, _, _, sx, _⟩ => sqt_of (sx _ _ e1)) ?_ ?_
    · rintro i v σ' H' hx ⟨o2, o3, ts0, rfl, sx, eL, ht⟩
      obtain ⟨qd, hq, rfl⟩ := map_get hx
      obtain ⟨d, hd, ed⟩ := paired_get e2 hq
      have hel := elder_len hH hl i
      have hi := (List.getElem?_eq_some_iff.mp hd).1
      obtain ⟨more, em⟩ := (ed.keep sx).two (K := K)
      have ee : elderT (ds.take (i + 1)) = elderT (ds.take i) ++ d.ties.map fun t => tieOf d.name t := by rw [take_snoc hd, elder_snoc]
      have hev := hH.each d (List.mem_of_getElem? hd)
      refine r_gname ?_
      refine ⟨.ref qd, rfl, qd, _, 0, .str d.word, rfl, rfl, sqt_of em, atI_nat (j := 0) rfl, rfl, _, congrArg V.bl (word_come d), ?_⟩
      cases d with
      | come n ts =>
        obtain ⟨tq, g1, g2⟩ := ed
        have ee : elderT (ds.take (i + 1)) = elderT (ds.take i) ++ ts.map fun t => tieOf n t := ee
        have hts : ts.length ≤ ds.length := hev.2.1
        show if true = true then _ else _
        rw [if_pos rfl]
        refine ⟨.ref qd, rfl, qd, _, 2, .ref tq, rfl, rfl, sqt_of (sx _ _ g1), rfl, tq, rfl, ⟨_, sqt_of (sx _ _ g2)⟩, for_tup (xs := ts.map V.str) (fun j σ' H' => ∃ o3 us, σ' = [some (.ref x), some (.ref l), some (.ref qd), o3] ∧ Same H H' ∧ H' l = some (.lst (us.map V.ref)) ∧ Paired (TieL H') us (elderT (ds.take i) ++ (ts.take j).map fun t => tieOf n t))
          ⟨_, ts0, rfl, sx, eL, by rw [List.take_zero, List.map_nil, List.append_nil]; exact ht⟩ (fun j σ' H' _ ⟨_, _, _, sx, _⟩ => sqt_of (sx _ _ g2)) ?_ ?_⟩
        · rintro j v σ2 H2 hv ⟨o3', us, rfl, s2, eL2, hu2⟩
          obtain ⟨t, htj, rfl⟩ := map_get hv
          have hul : us.length ≤ 20000 := by
            rw [Paired.length hu2, List.length_append, List.length_map, List.length_take]
            omega
          refine r_gname ?_
          refine ⟨.ref l, rfl, .inl ⟨rfl, _, sql_of eL2⟩, .ref qd, rfl, qd, _, 1, .str n, rfl, rfl, sqt_of (s2 _ _ g1), rfl, .str t, rfl, n, t, rfl, fun p np => ?_⟩
          have s3 := same_upd (o := .tup [.str (tieOf n t).1, .str (tieOf n t).2]) np
          have npl : p ≠ l := fun z => by rw [z, eL2] at np; cases np
          refine ⟨l, _, _, rfl, rfl, s3 _ _ eL2, smallM (by rw [List.length_map]; omega), _, us ++ [p], rfl, fun b o e => ?_, by rw [upd_same, List.map_append]; rfl, ?_⟩
          · rw [upd_ne (ne_of_none e nl)]; exact s3 _ _ (s2 _ _ e)
          · rw [take_snoc htj, List.map_append, ← List.append_assoc]
            refine paired_snoc ?_ (paired_mono (fun q t e => ?_) hu2)
            · show (upd _ l _) p = _
              rw [upd_ne npl, upd_same]
            · have e : H2 q = _ := e
              show (upd _ l _) q = _
              rw [upd_ne (fun z => by rw [z, eL2] at e; cases e)]
              exact s3 _ _ e
        · rintro σ2 H2 ⟨o3', us, rfl, s2, eL2, hu2⟩
          rw [List.length_map, List.take_length, ← ee] at hu2
          exact ⟨_, _, us, rfl, s2, eL2, hu2⟩
      | die n =>
        show if false = true then _ else _
        rw [if_neg Bool.false_ne_true]
        refine ⟨_, _, ts0, rfl, sx, eL, ?_⟩
        rw [ee]
        show Paired _ _ (_ ++ [])
        rw [List.append_nil]
        exact ht
    · rintro σ' H' ⟨o2, o3, ts0, rfl, sx, eL, ht⟩
      have el : (qs.map V.ref).length = ds.length := by rw [List.length_map]; exact Paired.length e2
      have hel := elder_len hH hl ds.length
      rw [el, List.take_length] at ht
      rw [List.take_length] at hel
      refine ⟨.ref l, rfl, l, ts0, elderT ds, rfl, sql_of eL, paired_mono (fun q t e => sqt_of e) ht, Nat.le_of_lt (smallM (by omega)), fun p2 qs' n2 hq => ?_⟩
      have s2 := same_upd (o := .lst (qs'.map V.ref)) n2
      exact q p2 qs' _ (sx.trans s2) (sx.free n2) upd_same (hq _ (paired_mono (fun q t e => s2 _ _ e) ht))
end
end Hw

set_option Elab.async false
set_option linter.all false
set_option maxRecDepth 100000
set_option maxHeartbeats 4000000
namespace Hw
open PySem L2 PyProof.Rows
theorem tieOf_mem (n t z : Str) : (z = (tieOf n t).1 ∨ z = (tieOf n t).2) ↔ (z = n ∨ z = t) := by
  unfold tieOf
  cases e : strLt t n with
  | true =>
    rw [strLt_as e]
    simp [or_comm]
  | false =>
    cases e2 : strLt n t with
    | true => simp
    | false =>
      obtain rfl := strLt_tri e2 e
      simp
theorem Hist.elder_came {ds : List Deed} (h : Hist ds) : ∀ t ∈ elderT ds, t.1 ∈ cameD ds ∧ t.2 ∈ cameD ds := by
  induction h with
  | nil => intro t ht; cases ht
  | @come ds n ts h nm new asc sub ih =>
    intro t ht
    rw [elder_snoc] at ht
    rw [came_snoc]
    have sl : ∀ z, z ∈ cameD ds → z ∈ cameD ds ++ (if (Deed.come n ts).isCome = true then [(Deed.come n ts).name] else []) := fun z hz => List.mem_append_left _ hz
    rcases List.mem_append.mp ht with ht | ht
    · exact ⟨sl _ (ih t ht).1, sl _ (ih t ht).2⟩
    · obtain ⟨u, hu, rfl⟩ := List.mem_map.mp ht
      have hu' : u ∈ cameD ds := h.liv_came u (sub u hu)
      have key : ∀ z, z = n ∨ z = u → z ∈ cameD ds ++ (if (Deed.come n ts).isCome = true then [(Deed.come n ts).name] else []) := fun z hz => by
        rcases hz with rfl | rfl
        · exact List.mem_append_right _ List.mem_cons_self
        · exact sl _ hu'
      exact ⟨key _ ((tieOf_mem n u _).mp (.inl rfl)), key _ ((tieOf_mem n u _).mp (.inr rfl))⟩
  | @die ds n h lv ih =>
    intro t ht
    rw [elder_snoc] at ht
    rw [came_snoc]
    rcases List.mem_append.mp ht with ht | ht
    · exact ⟨List.mem_append_left _ (ih t ht).1, List.mem_append_left _ (ih t ht).2⟩
    · cases ht
def hasN (z : Str) (t : Tie) : Bool := decide (z = t.1 ∨ z = t.2)
theorem count_one {z : Str} : ∀ {ts : List Str}, ts.Nodup → (ts.filter fun t => decide (z = t)).length = if z ∈ ts then 1 else 0
  | [], _ => rfl
  | t :: ts, h => by
    obtain ⟨h1, h2⟩ := List.nodup_cons.mp h
    have ih := count_one (z := z) h2
    by_cases e : z = t
    · subst e
      rw [List.filter_cons_of_pos (by simp), List.length_cons, ih, if_neg h1, if_pos List.mem_cons_self]
    · rw [List.filter_cons_of_neg (by simpa using e), ih]
      simp [e]
theorem Hist.cnt_elder {ds : List Deed} (h : Hist ds) (z : Str) : ((elderT ds).filter (hasN z)).length = if z ∈ cameD ds then cntD ds z else 0 := by
  induction h with
  | nil => rfl
  | @come ds n ts h nm new asc sub ih =>
    rw [elder_snoc, List.filter_append, List.length_append, ih, cnt_snoc, came_snoc]
    show _ = if z ∈ cameD ds ++ [n] then (if z = n then ts.length else cntD ds z) + (if z ∈ ts then 1 else 0) else 0
    have e1 : (((Deed.come n ts).ties.map fun t => tieOf (Deed.come n ts).name t).filter (hasN z)).length = (ts.filter fun t => decide (z = n ∨ z = t)).length := by
      show ((ts.map fun t => tieOf n t).filter (hasN z)).length = _
      rw [List.filter_map, List.length_map]
      refine congrArg List.length (List.filter_congr fun t _ => ?_)
      show decide _ = _
      rw [decide_eq_decide]
      exact tieOf_mem n t z
    rw [e1]
    by_cases hz : z = n
    · subst hz
      have hn : z ∉ ts := fun m => new (h.liv_came _ (sub _ m))
      rw [if_neg new, if_pos (List.mem_append_right _ List.mem_cons_self), if_pos rfl, if_neg hn]
      simp
    · have e2 : (ts.filter fun t => decide (z = n ∨ z = t)) = ts.filter fun t => decide (z = t) := List.filter_congr fun t _ => by simp [hz]
      rw [e2, count_one asc.nodup]
      by_cases hc : z ∈ cameD ds
      · rw [if_pos hc, if_pos (List.mem_append_left _ hc), if_neg hz]
      · have hn : z ∉ ts := fun m => hc (h.liv_came _ (sub _ m))
        have hc2 : z ∉ cameD ds ++ [n] := fun m => by
          rcases List.mem_append.mp m with m | m
          · exact hc m
          · exact hz (List.mem_singleton.mp m)
        rw [if_neg hc, if_neg hn, if_neg hc2]
  | @die ds n h lv ih =>
    have ec : cameD (ds ++ [Deed.die n]) = cameD ds := by rw [came_snoc]; exact List.append_nil _
    rw [elder_snoc, List.filter_append, List.length_append, ih, cnt_snoc, ec]; rfl
theorem cnt_sorted {ds : List Deed} (h : Hist ds) {z : Str} (hz : z ∈ cameD ds) : ((sortP (elderT ds)).filter (hasN z)).length = cntD ds z := by
  rw [((sortP_perm (elderT ds)).filter (hasN z)).length_eq, h.cnt_elder, if_pos hz]
theorem slA_use {K : PySem.W.Frag} {H : Hp} {a : Addr} {xs : List V} {m : Nat} {Q : VK} (e : SqT K H a xs) (q : ∀ p H', Same H H' → SqT K H' p (xs.take m) → Q (.ref p) H') : rSlA K (.ref a) none (some (m : Int)) H Q := by
  refine ⟨a, xs, rfl, e, fun hw => ?_, fun _ p np => ?_⟩
  · have h2 := hw.2
    rw [HT.sIx_nat] at h2
    refine q a H (Same.refl H) ?_
    rw [List.take_of_length_le (by omega)]
    exact e
  · refine q p _ (same_upd np) ?_
    rw [cut_to]
    exact sqt_of upd_same
def spElTies (C : Addr) : Sp := fun vs H Q _ => ∃ (x : Addr) (z : Str) (ds : List Deed), vs = [.ref x, .str z] ∧ HistO C H x ds ∧ z ∈ cameD ds ∧ ∀ H', Same H H' → Q (.int (cntD ds z : Nat)) H'
def spFirst (C : Addr) : Sp := fun vs H Q _ => ∃ (x : Addr) (m : Nat) (ds : List Deed), vs = [.ref x, .int m] ∧ HistO C H x ds ∧ m ≤ ds.length ∧ ∀ y H', HistO C H' y (ds.take m) → Same H H' → H y = none → Q (.ref y) H'
def isWoodD (ds : List Deed) : Bool := (ds.map fun d => decide (d.ties.length ≤ 1)).all id
def spIsWoodH (C : Addr) : Sp := fun vs H Q _ => ∃ (x : Addr) (ds : List Deed), vs = [.ref x] ∧ HistO C H x ds ∧ ∀ H', Same H H' → Q (.bl (isWoodD ds)) H'
def spFig : Sp := fun vs H Q _ => ∃ n : Nat, vs = [.int n] ∧ n ≤ 1000000 ∧ Q (.int (Builtin.Int.intBits (n : Int) : Nat)) H
section
variable {P : Program} {w : World} {K : PySem.W.Frag} {mg : Str → Option Value} {base : Heap}
theorem bits_half {n : Nat} (h : 0 < n) : Builtin.Int.intBits (n : Int) = Builtin.Int.intBits ((n / 2 : Nat) : Int) + 1 := by
  unfold Builtin.Int.intBits
  have e1 : ((n : Int) == 0) = false := by simp; omega
  rw [e1, if_neg Bool.false_ne_true, Int.natAbs_natCast, Int.natAbs_natCast]
  by_cases h2 : n / 2 = 0
  · have : n = 1 := by omega
    subst this
    decide
  · have e2 : (((n / 2 : Nat) : Int) == 0) = false := by simp; omega
    rw [e2, if_neg Bool.false_ne_true]
    have : n.log2 = (n / 2).log2 + 1 := by
      rw [Nat.log2_def, if_pos (by omega)]
    omega
end
end Hw

set_option Elab.async false
set_option linter.all false
set_option maxRecDepth 100000
set_option maxHeartbeats 4000000
namespace Hw
open PySem L2 PyProof.Rows
theorem nf_same {K : PySem.W.Frag} {C : Addr} : PySem.W.notFirst K C (.ref C) = true := by
  unfold PySem.W.notFirst
  simp
/-- for k in d, d's items standing still -/
theorem rs_lockKeys {te : TE} {tb u : TS} {j : Nat} {D : Ends} {σ : L2.St} {H : Hp} (d : Addr) (kvs : List (Key × V)) (hd : H d = some (.dK kvs)) (ha : ∀ H' (Q : VK), Q (.ref d) H' → te σ H' Q)
    (Pv : Nat → L2.St → Hp → Prop) (h0 : ∀ H1, SameX d H H1 → Pv 0 σ H1)
    (hs : ∀ od i k v σ' H', kvs[i]? = some (k, v) → H' d = some (.frz od (.dK kvs)) → Pv i σ' H' → ∀ D' : Ends, (∀ σ3 H3, H3 d = some (.frz od (.dK kvs)) → Pv (i + 1) σ3 H3 → D'.nx σ3 H3) → tb D' (σ'.set j (some (kV k))) H')
    (done : ∀ σ' H' od, H' d = some (.frz od (.dK kvs)) → Pv kvs.length σ' H' → u D σ' (upd H' d (.dK kvs))) : tSeq (tLock (tFor (iKeys te) (gName j) tb)) u D σ H :=
  ⟨d, .dK kvs, hd, trivial, fun od => ha _ _ ⟨d, od, rfl, .inl ⟨kvs, upd_same, for_it walk_keys (fun i σ' H' => H' d = some (.frz od (.dK kvs)) ∧ Pv i σ' H') ⟨upd_same, h0 _ fun b o hb e => by rw [upd_ne hb]; exact e⟩ (fun i σ H _ h => h.1)
    (fun i x σ H H' hi ⟨e, p⟩ y => by
      obtain ⟨e1, k, v, hk, e2⟩ := y
      subst e1 e2
      exact hs od i k v σ _ hk e p _ fun σ3 H3 e3 p3 => ⟨e3, p3⟩)
    (fun σ H h => ⟨h.1, done _ _ _ h.1 h.2⟩)⟩⟩⟩
theorem rs_tupR {K : PySem.W.Frag} {te : TE} {g : TG} {tb u : TS} {D : Ends} {σ : L2.St} {H : Hp} (P0 : Addr → List V → Hp → Prop) (Pv : Addr → List V → Hp → Nat → L2.St → Hp → Prop) (hw : ∀ Q : VK, (∀ l xs H1, P0 l xs H1 → Q (.ref l) H1) → te σ H Q) (h0 : ∀ l xs H1, P0 l xs H1 → Pv l xs H1 0 σ H1)
    (hl : ∀ l xs H1 i σ H, Pv l xs H1 i σ H → SqT K H l xs) (hs : ∀ l xs H1 i x σ H, P0 l xs H1 → xs[i]? = some x → Pv l xs H1 i σ H → g x σ H fun σ2 H2 => tb { D with nx := Pv l xs H1 (i + 1), ct := Pv l xs H1 (i + 1), bk := u D } σ2 H2)
    (hd : ∀ l xs H1 σ H, P0 l xs H1 → Pv l xs H1 xs.length σ H → u D σ H) : tSeq (tFor (iTup K te) g tb) u D σ H :=
  hw _ fun l xs H1 p => ⟨l, rfl, ⟨_, hl _ _ _ _ _ _ (h0 l xs H1 p)⟩, for_tup (D := { D with nx := u D }) (xs := xs) (Pv l xs H1) (h0 l xs H1 p) (fun i σ H _ q => hl _ _ _ _ _ _ q) (fun i x σ H hx q => hs l xs H1 i x σ H p hx q) (fun σ H q => hd l xs H1 σ H p q)⟩
/-- what is kept where only a dict is changed -/
theorem DeedAt.keepN {H H' : Hp} {d q : Addr} {kvs : List (Key × V)} (hd : H d = some (.dK kvs)) (s : SameX d H H') : ∀ {e : Deed}, DeedAt H q e → DeedAt H' q e
  | .come _ _, ⟨tq, h1, h2⟩ => ⟨tq, s _ _ (fun z => by rw [z, hd] at h1; cases h1) h1, s _ _ (fun z => by rw [z, hd] at h2; cases h2) h2⟩
  | .die _, h => s _ _ (fun z => by
      have h : H q = some (.tup _) := h
      rw [z, hd] at h; cases h) h
theorem DeedsAt.keepN {H H' : Hp} {d l : Addr} {kvs : List (Key × V)} {ds : List Deed} (h : DeedsAt H l ds) (hd : H d = some (.dK kvs)) (s : SameX d H H') : DeedsAt H' l ds := by
  obtain ⟨qs, h1, h2⟩ := h
  exact ⟨qs, s _ _ (fun z => by rw [z, hd] at h1; cases h1) h1, paired_mono (fun q e h => h.keepN hd s) h2⟩
theorem HistO.keepN {C : Addr} {H H' : Hp} {d x : Addr} {kvs : List (Key × V)} {ds : List Deed} (w : HistO C H x ds) (hd : H d = some (.dK kvs)) (s : SameX d H H') : HistO C H' x ds := by
  obtain ⟨⟨dx, dp, lp, ep, fs, h1, h2, h3, h4, h5, h6, ⟨qs, h7, h7'⟩, h8, h9⟩, a', b⟩ := w
  have k : ∀ {b : Addr} {o : HO}, H b = some o → (∀ kvs : List (Key × V), o ≠ HO.dK kvs) → H' b = some o := fun {b o} e n => s _ _ (fun z => by rw [z, hd] at e; exact n kvs (Option.some.inj e).symm) e
  exact ⟨⟨dx, dp, lp, ep, fs, k h1 (fun _ z => nomatch z), h2, h3, h4, h5, h6, ⟨qs, k h7 (fun _ z => nomatch z), paired_mono (fun q d e => e.keepN hd s) h7'⟩, k h8 (fun _ z => nomatch z), k h9 (fun _ z => nomatch z)⟩, a', b⟩
theorem Pot.keepN {H H' : Hp} {a d : Addr} {N : Nat} {kvs : List (Key × V)} (h : Pot H a N) (hd : H d = Option.some (.dK kvs)) (s : SameX d H H') : Pot H' a N := by
  obtain ⟨u, v, z, e, hh⟩ := h.ex
  exact ⟨u, v, z, s _ _ (fun z => by rw [z, hd] at e; cases e) e, hh⟩
theorem HistO.keepX {C : Addr} {H H' : Hp} {a x : Addr} {N : Nat} {ds : List Deed} (w : HistO C H x ds) (hP : Pot H a N) (s : SameX a H H') : HistO C H' x ds := by
  obtain ⟨⟨dx, dp, lp, ep, fs, h1, h2, h3, h4, h5, h6, ⟨qs, h7, h7'⟩, h8, h9⟩, a', b⟩ := w
  exact ⟨⟨dx, dp, lp, ep, fs, s.keepP hP h1 (fun _ _ _ z => nomatch z), h2, h3, h4, h5, h6, ⟨qs, s _ _ (pot_tup hP h7) h7, paired_mono (fun q d e => e.sx hP s) h7'⟩, s _ _ (pot_tup hP h8) h8, s _ _ (pot_tup hP h9) h9⟩, a', b⟩
/-- keywords in the sequence of the parameters -/
def gSame : List Value → List Value → List Value := fun us ws => match us with
  | [] => ws
  | _ :: _ => []
def gVSame : List V → List V → List V := fun us ws => match us with
  | [] => ws
  | _ :: _ => []
theorem same_rel {vs : List V} {us : List Value} {zs : List V} {ws : List Value} (r : Vals vs us) (h : Vals zs ws) : Vals (gVSame vs zs) (gSame us ws) := by
  cases r with
  | nil => exact h
  | cons _ _ => exact .nil
theorem kbS1 {K : PySem.W.Frag} {fd : FuncData} {p : Str} (h : ∀ (s : Shared) (a : Value), BindsTo s fd ⟨[], [(p, a)]⟩ [(p, a)]) : KBinds K fd [p] [p] gSame gVSame := by
  refine ⟨fun s us ws _ hl => ?_, same_rel⟩
  cases us with
  | cons u us => cases hl
  | nil =>
    have hl : ws.length = 1 := hl
    match ws, hl with
    | [a], _ => exact h s a
theorem kbS2 {K : PySem.W.Frag} {fd : FuncData} {p q : Str} (h : ∀ (s : Shared) (a b : Value), BindsTo s fd ⟨[], [(p, a), (q, b)]⟩ [(p, a), (q, b)]) : KBinds K fd [p, q] [p, q] gSame gVSame := by
  refine ⟨fun s us ws _ hl => ?_, same_rel⟩
  cases us with
  | cons u us => cases hl
  | nil =>
    have hl : ws.length = 2 := hl
    match ws, hl with
    | [a, b], _ => exact h s a b
theorem tame_bool (b : Bool) : Tame 8 (.bool b) := ⟨by rw [PyData.canLay0], by rw [PyData.showable], by rw [PyData.intsShort], by rw [PyData.depth]; decide, by rw [PyData.weight]; decide⟩
theorem repr_int {K : PySem.W.Frag} {n : Nat} {H : Hp} {Q : VK} (h : n ≤ 200) (q : Q (.str (PyData.int (n : Int)).shown) H) : rRepr K [.int (n : Nat)] H Q := ⟨_, .int (n : Int), rfl, .inl (.int _), (tame_int h).sh, Nat.le_trans (tame_int h).dp (by decide), (tame_int h).len (by decide), q⟩
theorem repr_bool {K : PySem.W.Frag} {b : Bool} {H : Hp} {Q : VK} (q : Q (.str (PyData.bool b).shown) H) : rRepr K [.bl b] H Q := ⟨_, .bool b, rfl, .inl (.bl _), (tame_bool b).sh, Nat.le_trans (tame_bool b).dp (by decide), (tame_bool b).len (by decide), q⟩
theorem Hist.cnt_le {ds : List Deed} (h : Hist ds) (z : Str) : cntD ds z ≤ ds.length := by
  induction h with
  | nil => exact Nat.le_refl _
  | @come ds n ts h nm new asc sub ih =>
    rw [cnt_snoc, List.length_append]
    show (if z = n then ts.length else cntD ds z) + (if z ∈ ts then 1 else 0) ≤ ds.length + 1
    have hts : ts.length ≤ ds.length := Nat.le_trans (len_subN sub asc.nodup) h.liv_len
    split <;> split <;> omega
  | @die ds n h lv ih =>
    rw [cnt_snoc, List.length_append]
    show cntD ds z ≤ ds.length + 1
    omega
/-- the first deeds, a list of its own -/
theorem deeds_take {H : Hp} {l c : Addr} {ds : List Deed} {qs : List Addr} (e : H l = some (.lst (qs.map V.ref))) (h : Paired (DeedAt H) qs ds) (m : Nat) (nc : H c = none) : DeedsAt (upd H c (.lst ((qs.map V.ref).take m))) c (ds.take m) := by
  rw [← List.map_take]
  have hql := Paired.length h
  have tc := same_upd (o := .lst ((qs.take m).map V.ref)) nc
  refine ⟨qs.take m, upd_same, ?_⟩
  refine paired_ix2 (by rw [List.length_take, List.length_take, hql]) fun j' q' e' hq' he' => ?_
  rw [List.getElem?_take] at hq' he'
  split at hq'
  · rename_i hlt
    rw [if_pos hlt] at he'
    obtain ⟨e2, he2, ee⟩ := paired_get h hq'
    rw [he'] at he2
    cases he2
    exact ee.keep tc
  · cases hq'
end Hw

set_option Elab.async false
set_option linter.all false
set_option maxRecDepth 100000
set_option maxHeartbeats 4000000
namespace Hw
open PySem L2 PyProof.Rows
abbrev sElWeb : Stmt := topS 37
abbrev sSlots : Stmt := topS 38
theorem tieOf_inj {n t u : Str} (h1 : n ≠ t) (h2 : n ≠ u) (e : tieOf n t = tieOf n u) : t = u := by
  have a := (tieOf_mem n u t).mp (by rw [← e]; exact (tieOf_mem n t t).mpr (.inr rfl))
  rcases a with a | a
  · exact absurd a.symm h1
  · exact a
theorem Hist.elder_lt {ds : List Deed} (h : Hist ds) : ∀ t ∈ elderT ds, strLt t.1 t.2 = true := by
  induction h with
  | nil => intro t ht; cases ht
  | @come ds n ts h nm new asc sub ih =>
    intro t ht
    rw [elder_snoc] at ht
    rcases List.mem_append.mp ht with ht | ht
    · exact ih t ht
    · obtain ⟨u, hu, rfl⟩ := List.mem_map.mp ht
      exact (tieOf_lt (show n ≠ u from fun e => new (by rw [e]; exact h.liv_came u (sub u hu)))).1
  | @die ds n h lv ih =>
    intro t ht
    rw [elder_snoc] at ht
    rcases List.mem_append.mp ht with ht | ht
    · exact ih t ht
    · cases ht
theorem Hist.elder_nodup {ds : List Deed} (h : Hist ds) : (elderT ds).Nodup := by
  induction h with
  | nil => exact List.nodup_nil
  | @come ds n ts h nm new asc sub ih =>
    rw [elder_snoc, List.nodup_append]
    have ne : ∀ u ∈ ts, n ≠ u := fun u hu e => new (by rw [e]; exact h.liv_came u (sub u hu))
    refine ⟨ih, ?_, fun x hx y hy e => ?_⟩
    · show (ts.map fun t => tieOf n t).Nodup
      refine List.pairwise_map.mpr ?_
      refine List.Pairwise.imp_of_mem ?_ asc.nodup
      intro a b ha hb hab e
      exact hab (tieOf_inj (ne a ha) (ne b hb) e)
    · obtain ⟨u, hu, rfl⟩ := List.mem_map.mp hy
      subst e
      have hc := h.elder_came _ hx
      have := (tieOf_mem n u n).mpr (.inl rfl)
      rcases this with e | e
      · exact new (by rw [e]; exact hc.1)
      · exact new (by rw [e]; exact hc.2)
  | @die ds n h lv ih =>
    rw [elder_snoc]
    show (elderT ds ++ []).Nodup
    rw [List.append_nil]; exact ih
theorem Hist.elder_few {ds : List Deed} (h : Hist ds) : 2 * (elderT ds).length ≤ ds.length * ds.length := by
  induction h with
  | nil => exact Nat.zero_le _
  | @come ds n ts h nm new asc sub ih =>
    rw [elder_snoc, List.length_append, List.length_append]
    have e : ((Deed.come n ts).ties.map fun t => tieOf (Deed.come n ts).name t).length = ts.length := List.length_map _
    have hts : ts.length ≤ ds.length := Nat.le_trans (len_subN sub asc.nodup) h.liv_len
    rw [e]
    show 2 * ((elderT ds).length + ts.length) ≤ (ds.length + 1) * (ds.length + 1)
    have : (ds.length + 1) * (ds.length + 1) = ds.length * ds.length + 2 * ds.length + 1 := by rw [Nat.add_mul, Nat.mul_add]; omega
    omega
  | @die ds n h lv ih =>
    rw [elder_snoc, List.length_append]
    have e : ((Deed.die n).ties.map fun t => tieOf (Deed.die n).name t).length = 0 := rfl
    rw [e, List.length_append]
    show 2 * ((elderT ds).length + 0) ≤ (ds.length + 1) * (ds.length + 1)
    have : (ds.length + 1) * (ds.length + 1) = ds.length * ds.length + 2 * ds.length + 1 := by rw [Nat.add_mul, Nat.mul_add]; omega
    omega
theorem Hist.few1000 {ds : List Deed} (h : Hist ds) (hl : ds.length ≤ 40) : (elderT ds).length ≤ 800 := by
  have := h.elder_few
  have : ds.length * ds.length ≤ 40 * 40 := Nat.mul_le_mul hl hl
  omega
theorem Hist.own {ds : List Deed} (h : Hist ds) (hl : ds.length ≤ 40) : OwnW (sortS (cameD ds)) (sortP (elderT ds)) := by
  have hcl := came_len ds
  refine ⟨sortS_asc h.came_nodup, fun z hz => h.nm z ((sortS_perm _).mem_iff.mp hz), by rw [(sortS_perm _).length_eq]; omega, sortP_asc h.elder_nodup, fun t ht => ?_, by rw [(sortP_perm _).length_eq]; have := h.few1000 hl; omega⟩
  have ht := (sortP_perm _).mem_iff.mp ht
  have hc := h.elder_came t ht
  exact ⟨(sortS_perm _).mem_iff.mpr hc.1, (sortS_perm _).mem_iff.mpr hc.2, h.elder_lt t ht⟩
def spElWeb (C CW : Addr) : Sp := fun vs H Q _ => ∃ (x : Addr) (ds : List Deed), vs = [.ref x] ∧ HistO C H x ds ∧ ds.length ≤ 40 ∧ ∀ y H', WebO CW H' y (sortS (cameD ds)) (sortP (elderT ds)) → Same H H' → Q (.ref y) H'
/-- the slots that a tie tells -/
def slotT (ds : List Deed) (t : Tie) : List Tie := (if t.1 ∈ liv ds ∧ t.2 ∉ liv ds then [t] else []) ++ (if t.2 ∈ liv ds ∧ t.1 ∉ liv ds then [(t.2, t.1)] else [])
def slotsD (ds : List Deed) : List Tie := (sortP (elderT ds)).flatMap (slotT ds)
theorem slotT_len (ds : List Deed) (t : Tie) : (slotT ds t).length ≤ 1 := by
  unfold slotT
  by_cases a : t.1 ∈ liv ds <;> by_cases b : t.2 ∈ liv ds <;> simp [a, b]
theorem flat_len {α β : Type} {f : α → List β} (h : ∀ x, (f x).length ≤ 1) : ∀ l : List α, (l.flatMap f).length ≤ l.length
  | [] => Nat.le_refl _
  | x :: l => by
    rw [List.flatMap_cons, List.length_append, List.length_cons]
    have := h x
    have := flat_len h l
    omega
theorem flat_snoc {α β : Type} {f : α → List β} {xs : List α} {i : Nat} {x : α} (h : xs[i]? = some x) : (xs.take (i + 1)).flatMap f = (xs.take i).flatMap f ++ f x := by
  rw [take_snoc h, List.flatMap_append]; simp
def spSlots (C : Addr) : Sp := fun vs H Q _ => ∃ (x : Addr) (ds : List Deed), vs = [.ref x] ∧ HistO C H x ds ∧ ds.length ≤ 40 ∧ ∀ (p : Addr) (qs : List Addr) H', Same H H' → H p = none → H' p = some (.tup (qs.map V.ref)) → Paired (TieL H') qs (sortP (slotsD ds)) → Q (.ref p) H'
/-- a list of ties that grows -/
structure TiesI (H0 : Hp) (pl : Addr) (acc : List Tie) (H : Hp) : Prop where
  sx : Same H0 H
  at_ : ∃ us : List Addr, H pl = some (.lst (us.map V.ref)) ∧ Paired (TieL H) us acc
theorem TiesI.keep {H0 H H' : Hp} {pl : Addr} {acc : List Tie} (w : TiesI H0 pl acc H) (s : Same H H') : TiesI H0 pl acc H' := by
  obtain ⟨us, a, b⟩ := w.at_
  exact ⟨w.sx.trans s, us, s _ _ a, paired_mono (fun q t e => s _ _ e) b⟩
theorem TiesI.grow {H0 H : Hp} {pl p : Addr} {acc : List Tie} {us : List Addr} {a b : Str} (sx : Same H0 H) (n0 : H0 pl = none) (e : H pl = some (.lst (us.map V.ref))) (hp : Paired (TieL H) us acc) (np : H p = none) :
    TiesI H0 pl (acc ++ [(a, b)]) (upd (upd H p (.tup [.str a, .str b])) pl (.lst (us.map V.ref ++ [.ref p]))) := by
  have s1 := same_upd (o := .tup [.str a, .str b]) np
  have npl : p ≠ pl := fun z => by rw [z, e] at np; cases np
  refine ⟨fun c o q => by rw [upd_ne (ne_of_none q n0)]; exact s1 _ _ (sx _ _ q), us ++ [p], by rw [upd_same, List.map_append]; rfl, paired_snoc ?_ (paired_mono (fun q t h => ?_) hp)⟩
  · show (upd _ pl _) p = _
    rw [upd_ne npl, upd_same]
  · have h : H q = _ := h
    show (upd _ pl _) q = _
    rw [upd_ne (fun z => by rw [z, e] at h; cases h)]
    exact s1 _ _ h
section
variable {P : Program} {w : World} {K : PySem.W.Frag} {mg : Str → Option Value} {base : Heap}
theorem scElWeb : FnScope ["history"] ["history"] (defScope sElWeb) := ⟨rfl, rfl, rfl, by decide +kernel, rfl, by decide +kernel, by decide +kernel⟩
theorem ok_elweb {f fW fA fE C CW : Addr} {fd fdW fdA fdE : FuncData} {k : Nat} (F : Fun K "elder_web" "elder_web" sElWeb f fd) (bt : mg "tuple" = none)
    (GW : FnOk P w K mg base CX0 k fW fdW ["places", "ties"] (spWebOf CW)) (gW : mg "web_of" = some (.ref fW)) (kW : PySem.W.keepIn K (.ref fW) = true) (bW : Binds K fdW ["places", "ties"] [])
    (GA : FnOk P w K mg base CX0 k fA fdA ["history"] (spAllPl C)) (gA : mg "all_places" = some (.ref fA)) (kA : PySem.W.keepIn K (.ref fA) = true) (bA : Binds K fdA ["history"] [])
    (GE : FnOk P w K mg base CX0 k fE fdE ["history"] (spAllEl C)) (gE : mg "all_elder_ties" = some (.ref fE)) (kE : PySem.W.keepIn K (.ref fE) = true) (bE : Binds K fdE ["history"] []) :
    FnOk P w K mg base CX0 (k + 1) f fd ["history"] (spElWeb C CW) := by
  refine F.ok scElWeb (fun vs H Q E h => ?_) (fun cdv A outer s H vs Q E hr h => ?_)
  · obtain ⟨x, ds, rfl, _⟩ := h
    rfl
  · obtain ⟨x, ds, rfl, wb, hl, q⟩ := h
    refine ⟨_, pss_one (ps_ret (pe_call GW hr (by rfl) gW kW bW .nil pass0 (pa_cons (pe_call GA hr (by rfl) gA kA bA .nil pass0 (pa_cons (pv 0) pa_nil)) (pa_cons (pe_callTy call_tuple_of (by rfl) bt PyProof.Rows.boot_tuple (pa_cons (pe_call GE hr (by rfl) gE kE bE .nil pass0 (pa_cons (pv 0) pa_nil)) pa_nil)) pa_nil)))), ?_⟩
    have hH := wb.hist
    refine ⟨.ref x, rfl, x, ds, rfl, wb, fun p H1 s1 np ep => ⟨.ref x, rfl, x, ds, rfl, wb.keep s1, fun l qs H2 s2 nl el hp => ⟨l, _, rfl, .inl ⟨sql_of el, fun t nt => ?_⟩⟩⟩⟩
    have s3 := same_upd (o := .tup (qs.map V.ref)) nt
    exact ⟨p, t, sortS (cameD ds), sortP (elderT ds), rfl, ⟨s3 _ _ (s2 _ _ ep), qs, upd_same, paired_mono (fun q t e => s3 _ _ e) hp⟩, (hH.own hl).good, fun y H4 wy s4 => q y H4 wy (((s1.trans s2).trans s3).trans s4)⟩
theorem scSlots : FnScope ["history", "living", "pairs", "one", "other", "name"] ["history"] (defScope sSlots) := ⟨rfl, rfl, rfl, by decide +kernel, rfl, by decide +kernel, by decide +kernel⟩
theorem ok_slots {f fE C : Addr} {fd fdE : FuncData} {k : Nat} (F : Fun K "slots" "slots" sSlots f fd) (T : TxtH K mg C) (bs : mg "sorted" = none) (bt : mg "tuple" = none)
    (GE : FnOk P w K mg base CX0 k fE fdE ["history"] (spAllEl C)) (gE : mg "all_elder_ties" = some (.ref fE)) (kE : PySem.W.keepIn K (.ref fE) = true) (bE : Binds K fdE ["history"] []) :
    FnOk P w K mg base CX0 (k + 1) f fd ["history"] (spSlots C) := by
  refine F.ok scSlots (fun vs H Q E h => ?_) (fun cdv A outer s H vs Q E hr h => ?_)
  · obtain ⟨x, ds, rfl, _⟩ := h
    rfl
  · obtain ⟨x, ds, rfl, wb, hl, q⟩ := h
    have hu := hu_of hr
    have hu64 := hr.units
    refine ⟨_, pss_cons (ps_setDc (i := 1) (own := [("name", 5)]) (g := gName 5) (tt := tYes) rfl scSlots.nd rfl rfl (sw_dc rfl rfl rfl (by decide +kernel)) (pi_tup (pe_fld (pv 0) rfl))
        (blkOk_by (N := ["history", "living", "pairs", "one", "other", "name"]) (sc := defScope sSlots) (by decide +kernel)) (fun _ _ _ _ _ => pg_name (i := 5) scSlots.nd rfl (Or.inl rfl)) (fun _ _ _ _ _ => pts_nil)
        (fun _ _ _ _ _ => pv 5) (fun _ _ _ _ _ => pe_bl))
      (pss_cons (ps_set (i := 2) scSlots.nd rfl (.inl rfl) (pe_lst pa_nil))
      (pss_cons (ps_for PassesOwn.never rfl (pi_list (pe_call GE hr (by rfl) gE kE bE .nil pass0 (pa_cons (pv 0) pa_nil))) (pg_tup rfl (pgs_cons (pg_name (i := 3) scSlots.nd rfl (Or.inl rfl)) (pgs_cons (pg_name (i := 4) scSlots.nd rfl (Or.inl rfl)) pgs_nil)))
        (pss_cons (ps_if (PW.pt (pw_and (pt_cmp (pc_din hu (pv 3) (pv 1))) (pw_and1 (pt_cmp (pc_dnotin hu (pv 4) (pv 1)))))) (pss_one (ps_expr (pe_bm PySem.F.plainAttrs_list PySem.F.slot_list_append PySem.F.type_list_append mt_append (pv 2) (pa_cons (pe_tup (pa_cons (pv 3) (pa_cons (pv 4) pa_nil))) pa_nil)))) pss_nil)
        (pss_one (ps_if (PW.pt (pw_and (pt_cmp (pc_din hu (pv 4) (pv 1))) (pw_and1 (pt_cmp (pc_dnotin hu (pv 3) (pv 1)))))) (pss_one (ps_expr (pe_bm PySem.F.plainAttrs_list PySem.F.slot_list_append PySem.F.type_list_append mt_append (pv 2) (pa_cons (pe_tup (pa_cons (pv 4) (pa_cons (pv 3) pa_nil))) pa_nil)))) pss_nil))))
      (pss_one (ps_ret (pe_callTy call_tuple_of (by rfl) bt PyProof.Rows.boot_tuple (pa_cons (pe_callB (cr_sortTP hu64) (by rfl) bs (by decide +kernel) (pa_cons (pv 2) pa_nil)) pa_nil)))))), ?_⟩
    obtain ⟨⟨dx, dp, lp, ep, fs, h1, h2, h3, h4, h5, h6, h7, h8, h9⟩, hH, hl0⟩ := id wb
    have l1 := liv_le hH
    have hnd : (sortS (liv ds)).Nodup := (sortS_perm _).nodup_iff.mpr hH.liv_nodup
    have he8 := hH.few1000 hl
    refine rs_set ?_
    refine ⟨.ref x, rfl, x, C, dx, _, _, rfl, h1, T.cl, T.nL, h5, lp, rfl, ⟨_, sqt_of h8⟩, fun D nD => dc_tup (xs := (sortS (liv ds)).map V.str) (fun i H' => Same H H' ∧ H' D = some (.dK (((sortS (liv ds)).take i).map fun z => ((Sum.inr z : Key), V.bl true))))
      ⟨same_upd nD, upd_same⟩ (fun i H' _ ⟨w, _⟩ => sqt_of (w _ _ h8)) ?_ ?_⟩
    · rintro i v H' hx ⟨sx, eD⟩
      obtain ⟨z, hz, rfl⟩ := map_get hx
      have hzt := nodup_take hnd hz
      refine ⟨rfl, r_yes ?_⟩
      refine ⟨.str z, rfl, _, Sum.inr z, rfl, eD, small1000 (by rw [List.length_map, List.length_take]; omega), ?_, ?_⟩
      · intro b o e
        rw [upd_ne (ne_of_none e nD)]
        exact sx _ _ e
      · rw [upd_same, take_snoc hz, putK_new _ (by rw [valV_names (g := fun _ => V.bl true), if_neg hzt]), List.map_append]; rfl
    rintro H1 ⟨s1, eD⟩
    rw [List.length_map, List.take_length] at eD
    refine rs_set ?_
    refine ⟨Nat.zero_le _, fun pl npl => ?_⟩
    have wb1 := wb.keep s1
    have npl0 := s1.free npl
    refine rs_listR (fun l xs H2 => ∃ qs : List Addr, xs = qs.map V.ref ∧ l ≠ pl ∧ Same (upd H1 pl (.lst [])) H2 ∧ H2 l = some (.lst xs) ∧ Paired (TieL H2) qs (sortP (elderT ds)))
      (fun l xs H2 i σ' H' => ∃ (qs : List Addr) (o3 o4 : Option V), xs = qs.map V.ref ∧ l ≠ pl ∧ σ' = [some (.ref x), some (.ref D), some (.ref pl), o3, o4, none] ∧ Same H1 H' ∧ H' l = some (.lst xs) ∧ Paired (TieL H') qs (sortP (elderT ds)) ∧ TiesI H1 pl (((sortP (elderT ds)).take i).flatMap (slotT ds)) H')
      (fun Q1 q1 => ?_) ?_ (fun l xs H2 i σ' H' ⟨_, _, _, _, _, _, _, e, _⟩ => sql_of e) ?_ ?_
    · exact ⟨.ref x, rfl, x, ds, rfl, wb1.keep (same_upd npl), fun l qs H2 s2 nl el hp => q1 l _ H2 ⟨qs, rfl, (fun z => by rw [z, upd_same] at nl; cases nl), s2, el, hp⟩⟩
    · rintro l xs H2 ⟨qs, rfl, hlp, s2, el, hp⟩
      exact ⟨qs, _, _, rfl, hlp, rfl, (same_upd npl).trans s2, el, hp, ⟨(same_upd npl).trans s2, [], s2 _ _ upd_same, .nil⟩⟩
    · rintro l xs H2 i v σ' H' _ hx ⟨qs, o3, o4, rfl, hlp, rfl, sx, el, hp, wi⟩
      obtain ⟨qd, hq, rfl⟩ := map_get hx
      obtain ⟨t, ht, et⟩ := paired_get hp hq
      have hi := (List.getElem?_eq_some_iff.mp ht).1
      rw [(sortP_perm _).length_eq] at hi
      have ef := flat_snoc (f := slotT ds) ht
      have hac : (((sortP (elderT ds)).take i).flatMap (slotT ds)).length ≤ 800 := by
        refine Nat.le_trans (flat_len (slotT_len ds) _) ?_
        rw [List.length_take]; omega
      have dg : ∀ {H'' : Hp} (z : Str), H'' D = some (.dK ((sortS (liv ds)).map fun z => ((Sum.inr z : Key), V.bl true))) → DGet H'' D (.str z) (if z ∈ liv ds then some (V.bl true) else none) := fun {H''} z e => by
        have := DGet.k (k := Sum.inr z) e
        rw [valV_names (g := fun _ => V.bl true)] at this
        have e2 : (if z ∈ sortS (liv ds) then some (V.bl true) else none) = if z ∈ liv ds then some (V.bl true) else none := by
          by_cases hz : z ∈ liv ds
          · rw [if_pos hz, if_pos ((sortS_perm _).mem_iff.mpr hz)]
          · rw [if_neg hz, if_neg (fun m => hz ((sortS_perm _).mem_iff.mp m))]
        rw [e2] at this
        exact this
      refine g2_of (sqt_of et) ?_
      have eD' := sx _ _ eD
      have d1 := dg t.1 eD'
      have d2 := dg t.2 eD'
      by_cases c1 : t.1 ∈ liv ds
      · rw [if_pos c1] at d1
        by_cases c2 : t.2 ∈ liv ds
        · rw [if_pos c2] at d2
          have es : slotT ds t = [] := by unfold slotT; simp [c1, c2]
          refine rs_no ?_
          refine ⟨.str t.1, rfl, .ref D, rfl, D, _, rfl, d1, true, rfl, .str t.2, rfl, .ref D, rfl, D, _, rfl, d2, false, rfl, ?_⟩
          refine ⟨.str t.2, rfl, .ref D, rfl, D, _, rfl, d2, true, rfl, .str t.1, rfl, .ref D, rfl, D, _, rfl, d1, false, rfl, ?_⟩
          exact ⟨qs, _, _, rfl, hlp, rfl, sx, el, hp, by rw [ef, es, List.append_nil]; exact wi⟩
        · rw [if_neg c2] at d2
          have es : slotT ds t = [t] := by unfold slotT; simp [c1, c2]
          obtain ⟨us, eu, hu2⟩ := wi.at_
          refine rs_no ?_
          refine ⟨.str t.1, rfl, .ref D, rfl, D, _, rfl, d1, true, rfl, .str t.2, rfl, .ref D, rfl, D, _, rfl, d2, true, rfl, ?_⟩
          refine ⟨.ref pl, rfl, .inl ⟨rfl, _, sql_of eu⟩, .str t.1, rfl, .str t.2, rfl, by show 2 ≤ sizeLine; decide, fun p np => ?_⟩
          have s3 := same_upd (o := .tup [.str t.1, .str t.2]) np
          refine ⟨pl, _, _, rfl, rfl, s3 _ _ eu, smallM (by rw [List.length_map, Paired.length hu2]; omega), ?_⟩
          have wn := TiesI.grow (a := t.1) (b := t.2) wi.sx npl eu hu2 np
          have npl2 : ∀ {b : Addr} {o : HO}, H' b = some o → b ≠ pl → (upd (upd H' p (.tup [.str t.1, .str t.2])) pl (.lst (us.map V.ref ++ [.ref p]))) b = some o := fun {b o} e hb => by rw [upd_ne hb]; exact s3 _ _ e
          have eDn : (upd (upd H' p (.tup [.str t.1, .str t.2])) pl (.lst (us.map V.ref ++ [.ref p]))) D = some (.dK ((sortS (liv ds)).map fun z => ((Sum.inr z : Key), V.bl true))) := wn.sx _ _ eD
          have d1' := dg t.1 eDn
          have d2' := dg t.2 eDn
          rw [if_neg c2] at d2'
          refine ⟨.str t.2, rfl, .ref D, rfl, D, _, rfl, d2', false, rfl, ?_⟩
          refine ⟨qs, _, _, rfl, hlp, rfl, wn.sx, npl2 el hlp, ?_, by rw [ef, es]; exact wn⟩
          exact paired_mono (fun q t e => npl2 (show H' q = _ from e) (fun z => by have e : H' q = _ := e; rw [z, eu] at e; cases e)) hp
      · rw [if_neg c1] at d1
        by_cases c2 : t.2 ∈ liv ds
        · rw [if_pos c2] at d2
          have es : slotT ds t = [(t.2, t.1)] := by unfold slotT; simp [c1, c2]
          obtain ⟨us, eu, hu2⟩ := wi.at_
          refine rs_no ?_
          refine ⟨.str t.1, rfl, .ref D, rfl, D, _, rfl, d1, false, rfl, ?_⟩
          refine ⟨.str t.2, rfl, .ref D, rfl, D, _, rfl, d2, true, rfl, .str t.1, rfl, .ref D, rfl, D, _, rfl, d1, true, rfl, ?_⟩
          refine ⟨.ref pl, rfl, .inl ⟨rfl, _, sql_of eu⟩, .str t.2, rfl, .str t.1, rfl, by show 2 ≤ sizeLine; decide, fun p np => ?_⟩
          have s3 := same_upd (o := .tup [.str t.2, .str t.1]) np
          refine ⟨pl, _, _, rfl, rfl, s3 _ _ eu, smallM (by rw [List.length_map, Paired.length hu2]; omega), ?_⟩
          have wn := TiesI.grow (a := t.2) (b := t.1) wi.sx npl eu hu2 np
          have npl2 : ∀ {b : Addr} {o : HO}, H' b = some o → b ≠ pl → (upd (upd H' p (.tup [.str t.2, .str t.1])) pl (.lst (us.map V.ref ++ [.ref p]))) b = some o := fun {b o} e hb => by rw [upd_ne hb]; exact s3 _ _ e
          refine ⟨qs, _, _, rfl, hlp, rfl, wn.sx, npl2 el hlp, ?_, by rw [ef, es]; exact wn⟩
          exact paired_mono (fun q t e => npl2 (show H' q = _ from e) (fun z => by have e : H' q = _ := e; rw [z, eu] at e; cases e)) hp
        · rw [if_neg c2] at d2
          have es : slotT ds t = [] := by unfold slotT; simp [c1, c2]
          refine rs_no ?_
          refine ⟨.str t.1, rfl, .ref D, rfl, D, _, rfl, d1, false, rfl, ?_⟩
          refine ⟨.str t.2, rfl, .ref D, rfl, D, _, rfl, d2, false, rfl, ?_⟩
          exact ⟨qs, _, _, rfl, hlp, rfl, sx, el, hp, by rw [ef, es, List.append_nil]; exact wi⟩
    · rintro l xs H2 σ' H3 _ ⟨qs, o3, o4, rfl, hlp, rfl, sx, el, hp, wi⟩
      have e0 : (qs.map V.ref).length = (sortP (elderT ds)).length := by rw [List.length_map]; exact Paired.length hp
      rw [e0, List.take_length] at wi
      obtain ⟨us, eu, hu2⟩ := wi.at_
      have hsl : (slotsD ds).length ≤ 800 := by
        refine Nat.le_trans (flat_len (slotT_len ds) _) ?_
        rw [(sortP_perm _).length_eq]; exact he8
      refine ⟨.ref pl, rfl, pl, us, slotsD ds, rfl, sql_of eu, paired_mono (fun q t e => sqt_of e) hu2, Nat.le_of_lt (smallM (by omega)), fun p2 qs' n2 hq => ⟨p2, _, rfl, .inl ⟨sql_of upd_same, fun p3 n3 => ?_⟩⟩⟩
      have s2 := same_upd (o := .lst (qs'.map V.ref)) n2
      have s3 := same_upd (o := .tup (qs'.map V.ref)) n3
      have sAll := ((s1.trans wi.sx).trans s2).trans s3
      exact q p3 qs' _ sAll (((s1.trans wi.sx).trans s2).free n3) upd_same (hq _ (paired_mono (fun q t e => s3 _ _ (s2 _ _ e)) hu2))
end
end Hw

set_option Elab.async false
set_option linter.all false
set_option maxRecDepth 100000
set_option maxHeartbeats 4000000
namespace Hw
open PySem L2 PyProof.Rows
abbrev sDeadP : Stmt := topS 39
abbrev sRims : Stmt := topS 40
abbrev sRimOf : Stmt := topS 41
def isDeadT (ds : List Deed) (t : Tie) : Bool := decide (t.1 ∈ deadD ds) && decide (t.2 ∈ deadD ds)
def deadT (ds : List Deed) : List Tie := (sortP (elderT ds)).filter (isDeadT ds)
theorem Hist.ownDead {ds : List Deed} (h : Hist ds) (hl : ds.length ≤ 40) : OwnW (sortS (deadD ds)) (deadT ds) := by
  have o := h.own hl
  have hd := dead_le ds
  refine ⟨sortS_asc h.dead_nodup, fun z hz => h.nm z (h.dead_came z ((sortS_perm _).mem_iff.mp hz)), by omega, List.Pairwise.filter _ o.tasc, fun t ht => ?_, Nat.le_trans (List.length_filter_le _ _) o.tfew⟩
  obtain ⟨h1, h2⟩ := List.mem_filter.mp ht
  unfold isDeadT at h2
  rw [Bool.and_eq_true] at h2
  exact ⟨(sortS_perm _).mem_iff.mpr (of_decide_eq_true h2.1), (sortS_perm _).mem_iff.mpr (of_decide_eq_true h2.2), (o.tie t h1).2.2⟩
noncomputable def partsD (ds : List Deed) : List (List Str) := partsL (sortS (deadD ds)) (deadT ds)
noncomputable def spDeadP (C : Addr) : Sp := fun vs H Q _ => ∃ (x : Addr) (ds : List Deed), vs = [.ref x] ∧ HistO C H x ds ∧ ds.length ≤ 40 ∧ ∀ p H', PartsAt H' p (partsD ds) → Same H H' → Q (.ref p) H'
/-- the living ones of the slots to a part -/
def rimL (part : List Str) (ss : List Tie) : List Str := sortS (putAll [] ((ss.filter fun t => decide (t.2 ∈ part)).map (·.1)))
noncomputable def rimsD (ds : List Deed) : List (List Str) := (partsD ds).map fun part => rimL part (sortP (slotsD ds))
def TiesT (H : Hp) (p : Addr) (ts : List Tie) : Prop := ∃ qs : List Addr, H p = some (.tup (qs.map V.ref)) ∧ Paired (TieL H) qs ts
def spRimOf : Sp := fun vs H Q _ => ∃ (a b : Addr) (part : List Str) (ss : List Tie), vs = [.ref a, .ref b] ∧ PartT H a part ∧ TiesT H b ss ∧ ss.length ≤ 1000 ∧ ∀ p H', Same H H' → H p = none → H' p = some (.tup ((rimL part ss).map V.str)) → Q (.ref p) H'
noncomputable def spRims (C : Addr) : Sp := fun vs H Q _ => ∃ (x : Addr) (ds : List Deed), vs = [.ref x] ∧ HistO C H x ds ∧ ds.length ≤ 40 ∧ ∀ p H', PartsAt H' p (rimsD ds) → Same H H' → Q (.ref p) H'
theorem putAll_len {l : List Str} : ∀ {ks : List Str}, (putAll ks l).length ≤ ks.length + l.length := by
  induction l with
  | nil => intro ks; exact Nat.le_refl _
  | cons z l ih =>
    intro ks
    show (putAll (if z ∈ ks then ks else ks ++ [z]) l).length ≤ _
    by_cases h : z ∈ ks
    · rw [if_pos h, List.length_cons]
      have := ih (ks := ks)
      omega
    · rw [if_neg h, List.length_cons]
      have := ih (ks := ks ++ [z])
      rw [List.length_append] at this
      have e : ([z] : List Str).length = 1 := rfl
      omega
theorem putAll_last (ks l : List Str) (y : Str) : putAll ks (l ++ [y]) = if y ∈ putAll ks l then putAll ks l else putAll ks l ++ [y] := by
  unfold putAll
  rw [List.foldl_append]; rfl
theorem slots_few {ds : List Deed} (h : Hist ds) (hl : ds.length ≤ 40) : (sortP (slotsD ds)).length ≤ 800 := by
  rw [(sortP_perm _).length_eq]
  refine Nat.le_trans (flat_len (slotT_len ds) _) ?_
  rw [(sortP_perm _).length_eq]
  exact h.few1000 hl
theorem partsD_few {ds : List Deed} (h : Hist ds) (hl : ds.length ≤ 40) : (partsD ds).length ≤ 40 := by
  have g := (h.ownDead hl).good
  have := (parts_in g.gr g.asc).len
  rw [List.take_length] at this
  show (partsL _ _).length ≤ 40
  rw [this]
  exact Nat.le_trans (List.length_filter_le _ _) (Nat.le_trans (dead_le ds) hl)
section
variable {P : Program} {w : World} {K : PySem.W.Frag} {mg : Str → Option Value} {base : Heap}
abbrev nDeadP : List Str := ["history", "dead", "ties", "one", "other", "name"]
theorem scDeadP : FnScope nDeadP ["history"] (defScope sDeadP) := ⟨rfl, rfl, rfl, by decide +kernel, rfl, by decide +kernel, by decide +kernel⟩
theorem ok_deadp {f fE fW fP C CW : Addr} {fd fdE fdW fdP : FuncData} {k : Nat} (F : Fun K "dead_parts" "dead_parts" sDeadP f fd) (T : TxtH K mg C) (bt : mg "tuple" = none)
    (GE : FnOk P w K mg base CX0 k fE fdE ["history"] (spAllEl C)) (gE : mg "all_elder_ties" = some (.ref fE)) (kE : PySem.W.keepIn K (.ref fE) = true) (bE : Binds K fdE ["history"] [])
    (GW : FnOk P w K mg base CX0 k fW fdW ["places", "ties"] (spWebOf CW)) (gW : mg "web_of" = some (.ref fW)) (kW : PySem.W.keepIn K (.ref fW) = true) (bW : Binds K fdW ["places", "ties"] [])
    (GP : FnOk P w K mg base CX0 k fP fdP ["web"] (spPartsOf CW)) (gP : mg "parts_of" = some (.ref fP)) (kP : PySem.W.keepIn K (.ref fP) = true) (bP : Binds K fdP ["web"] []) :
    FnOk P w K mg base CX0 (k + 1) f fd ["history"] (spDeadP C) := by
  refine F.ok scDeadP (fun vs H Q E h => ?_) (fun cdv A outer s H vs Q E hr h => ?_)
  · obtain ⟨x, ds, rfl, _⟩ := h
    rfl
  · obtain ⟨x, ds, rfl, wb, hl, q⟩ := h
    have hu := hu_of hr
    refine ⟨_, pss_cons (ps_set (i := 1) scDeadP.nd rfl (.inr rfl) (pe_dc (own := [("name", 5)]) (g := gName 5) (tt := tYes) rfl scDeadP.nd (pi_tup (pe_fld (pv 0) rfl))
        (blkOk_by (N := nDeadP) (sc := defScope sDeadP) (by decide +kernel)) (fun _ _ _ _ _ => pg_name (i := 5) scDeadP.nd rfl (Or.inl rfl)) (fun _ _ _ _ _ => pts_nil)
        (fun _ _ _ _ _ => pv 5) (fun _ _ _ _ _ => pe_bl)))
      (pss_cons (ps_setLc (i := 2) (own := [("one", 3), ("other", 4)]) (g := gTup K 2 (gCons (gName 3) (gCons (gName 4) gNil))) rfl scDeadP.nd rfl rfl (sw_true rfl rfl rfl (by decide +kernel)) (pi_list (pe_call GE hr (by rfl) gE kE bE .nil pass0 (pa_cons (pv 0) pa_nil)))
        (blkOk_by (N := nDeadP) (sc := defScope sDeadP) (by decide +kernel)) (fun _ _ _ _ _ => pg_tup rfl (pgs_cons (pg_name (i := 3) scDeadP.nd rfl (Or.inl rfl)) (pgs_cons (pg_name (i := 4) scDeadP.nd rfl (Or.inl rfl)) pgs_nil)))
        (fun _ _ _ _ _ => pts_one (PW.pt (pw_and (pt_cmp (pc_din hu (pv 3) (pv 1))) (pw_and1 (pt_cmp (pc_din hu (pv 4) (pv 1))))))) (fun _ _ _ _ _ => pe_tup (pa_cons (pv 3) (pa_cons (pv 4) pa_nil))))
      (pss_one (ps_ret (pe_call GP hr (by rfl) gP kP bP .nil pass0 (pa_cons (pe_call GW hr (by rfl) gW kW bW .nil pass0 (pa_cons (pe_fld (pv 0) rfl) (pa_cons (pe_callTy call_tuple_of (by rfl) bt PyProof.Rows.boot_tuple (pa_cons (pv 2) pa_nil)) pa_nil))) pa_nil))))), ?_⟩
    obtain ⟨⟨dx, dp, lp, ep, fs, h1, h2, h3, h4, h5, h6, h7, h8, h9⟩, hH, hl0⟩ := id wb
    have l1 := dead_le ds
    have hnd : (sortS (deadD ds)).Nodup := (sortS_perm _).nodup_iff.mpr hH.dead_nodup
    have he8 := hH.few1000 hl
    refine rs_set ?_
    refine ⟨.ref x, rfl, x, C, dx, _, _, rfl, h1, T.cl, T.nE, h6, ep, rfl, ⟨_, sqt_of h9⟩, fun D nD => dc_tup (xs := (sortS (deadD ds)).map V.str) (fun i H' => Same H H' ∧ H' D = some (.dK (((sortS (deadD ds)).take i).map fun z => ((Sum.inr z : Key), V.bl true))))
      ⟨same_upd nD, upd_same⟩ (fun i H' _ ⟨w, _⟩ => sqt_of (w _ _ h9)) ?_ ?_⟩
    · rintro i v H' hx ⟨sx, eD⟩
      obtain ⟨z, hz, rfl⟩ := map_get hx
      have hzt := nodup_take hnd hz
      refine ⟨rfl, r_yes ?_⟩
      refine ⟨.str z, rfl, _, Sum.inr z, rfl, eD, small1000 (by rw [List.length_map, List.length_take]; omega), ?_, ?_⟩
      · intro b o e
        rw [upd_ne (ne_of_none e nD)]
        exact sx _ _ e
      · rw [upd_same, take_snoc hz, putK_new _ (by rw [valV_names (g := fun _ => V.bl true), if_neg hzt]), List.map_append]; rfl
    rintro H1 ⟨s1, eD⟩
    rw [List.length_map, List.take_length] at eD
    have wb1 := wb.keep s1
    refine rs_set ?_
    refine ⟨.ref x, rfl, x, ds, rfl, wb1, fun l qs H2 s2 nl el hp => ⟨l, rfl, ⟨_, sql_of el⟩, fun L nL => ?_⟩⟩
    refine lc_list (xs := qs.map V.ref) (fun i H' => TiesI H2 L (((sortP (elderT ds)).take i).filter (isDeadT ds)) H') ⟨same_upd nL, [], upd_same, .nil⟩ (fun i H' _ h => sql_of (h.sx _ _ el)) ?_ ?_
    · rintro i v H' hx wi
      obtain ⟨qd, hq, rfl⟩ := map_get hx
      obtain ⟨t, ht, et⟩ := paired_get hp hq
      have et' : H' qd = some (.tup [.str t.1, .str t.2]) := wi.sx _ _ et
      have ef : ((sortP (elderT ds)).take (i + 1)).filter (isDeadT ds) = ((sortP (elderT ds)).take i).filter (isDeadT ds) ++ if isDeadT ds t = true then [t] else [] := filter_snoc ht
      have hi := (List.getElem?_eq_some_iff.mp ht).1
      rw [(sortP_perm _).length_eq] at hi
      have hac : (((sortP (elderT ds)).take i).filter (isDeadT ds)).length ≤ 800 := by
        refine Nat.le_trans (List.length_filter_le _ _) ?_
        rw [List.length_take]; omega
      have dg : ∀ {H'' : Hp} (z : Str), H'' D = some (.dK ((sortS (deadD ds)).map fun z => ((Sum.inr z : Key), V.bl true))) → DGet H'' D (.str z) (if z ∈ deadD ds then some (V.bl true) else none) := fun {H''} z e => by
        have := DGet.k (k := Sum.inr z) e
        rw [valV_names (g := fun _ => V.bl true)] at this
        have e2 : (if z ∈ sortS (deadD ds) then some (V.bl true) else none) = if z ∈ deadD ds then some (V.bl true) else none := by
          by_cases hz : z ∈ deadD ds
          · rw [if_pos hz, if_pos ((sortS_perm _).mem_iff.mpr hz)]
          · rw [if_neg hz, if_neg (fun m => hz ((sortS_perm _).mem_iff.mp m))]
        rw [e2] at this
        exact this
      have eD' := wi.sx _ _ (s2 _ _ eD)
      have d1 := dg t.1 eD'
      have d2 := dg t.2 eD'
      refine ⟨qd, [.str t.1, .str t.2], rfl, sqt_of et', rfl, _, [.str t.2], rfl, _, [], rfl, rfl, rfl, ?_⟩
      by_cases c1 : t.1 ∈ deadD ds
      · rw [if_pos c1] at d1
        by_cases c2 : t.2 ∈ deadD ds
        · rw [if_pos c2] at d2
          have eb : isDeadT ds t = true := by unfold isDeadT; simp [c1, c2]
          obtain ⟨us, eu, hu2⟩ := wi.at_
          refine ⟨.str t.1, rfl, .ref D, rfl, D, _, rfl, d1, true, rfl, .str t.2, rfl, .ref D, rfl, D, _, rfl, d2, true, rfl, ?_⟩
          refine ⟨.str t.1, rfl, .str t.2, rfl, by show 2 ≤ sizeLine; decide, fun p np => ?_⟩
          have s3 := same_upd (o := .tup [.str t.1, .str t.2]) np
          refine ⟨_, s3 _ _ eu, smallM (by rw [List.length_map, Paired.length hu2]; omega), ?_⟩
          rw [ef, eb, if_pos rfl]
          exact TiesI.grow (a := t.1) (b := t.2) wi.sx nL eu hu2 np
        · rw [if_neg c2] at d2
          have eb : isDeadT ds t = false := by unfold isDeadT; simp [c1, c2]
          refine ⟨.str t.1, rfl, .ref D, rfl, D, _, rfl, d1, true, rfl, .str t.2, rfl, .ref D, rfl, D, _, rfl, d2, false, rfl, ?_⟩
          show TiesI _ _ _ _
          rw [ef, eb, if_neg Bool.false_ne_true, List.append_nil]
          exact wi
      · rw [if_neg c1] at d1
        have eb : isDeadT ds t = false := by unfold isDeadT; simp [c1]
        refine ⟨.str t.1, rfl, .ref D, rfl, D, _, rfl, d1, false, rfl, ?_⟩
        show TiesI _ _ _ _
        rw [ef, eb, if_neg Bool.false_ne_true, List.append_nil]
        exact wi
    · rintro H3 wi
      have e0 : (qs.map V.ref).length = (sortP (elderT ds)).length := by rw [List.length_map]; exact Paired.length hp
      rw [e0, List.take_length] at wi
      obtain ⟨us, eu, hu2⟩ := wi.at_
      have s3 := s2.trans wi.sx
      have s13 := s1.trans s3
      refine ⟨.ref x, rfl, x, C, dx, _, _, rfl, s13 _ _ h1, T.cl, T.nE, h6, .ref L, rfl, L, _, rfl, .inl ⟨sql_of eu, fun t nt => ?_⟩⟩
      have s4 := same_upd (o := .tup (us.map V.ref)) nt
      have own := hH.ownDead hl
      refine ⟨ep, t, sortS (deadD ds), deadT ds, rfl, ⟨s4 _ _ (s13 _ _ h9), us, upd_same, paired_mono (fun q t e => s4 _ _ e) hu2⟩, own.good, fun y H5 wy s5 => ?_⟩
      exact ⟨y, sortS (deadD ds), deadT ds, rfl, wy, by omega, fun p H6 hp6 s6 => q p H6 hp6 (((s13.trans s4).trans s5).trans s6)⟩
theorem scRimOf : FnScope ["part", "pairs", "living", "dead"] ["part", "pairs"] (defScope sRimOf) := ⟨rfl, rfl, rfl, by decide +kernel, rfl, by decide +kernel, by decide +kernel⟩
theorem ok_rimof {f : Addr} {fd : FuncData} {k : Nat} (F : Fun K "rim_of" "rim_of" sRimOf f fd) (bs : mg "sorted" = none) (bt : mg "tuple" = none) : FnOk P w K mg base CX0 (k + 1) f fd ["part", "pairs"] spRimOf := by
  refine F.ok scRimOf (fun vs H Q E h => ?_) (fun cdv A outer s H vs Q E hr h => ?_)
  · obtain ⟨a, b, part, ss, rfl, _⟩ := h
    rfl
  · obtain ⟨a, b, part, ss, rfl, ha, ⟨qs, eb, hq⟩, hl, q⟩ := h
    have hu64 := hr.units
    refine ⟨_, pss_one (ps_ret (pe_callTy call_tuple_of (by rfl) bt PyProof.Rows.boot_tuple (pa_cons (pe_callB (cr_sortX rfl hu64) (by rfl) bs (by decide +kernel) (pa_cons (pe_scT (own := [("living", 2), ("dead", 3)]) (g := gTup K 2 (gCons (gName 2) (gCons (gName 3) gNil))) (tt := tTest (tOp (rIn K false) (tVar 3) (tVar 0))) rfl scRimOf.nd (pi_tup (pv 1))
        (blkOk_by (N := ["part", "pairs", "living", "dead"]) (sc := defScope sRimOf) (by decide +kernel)) (fun _ _ _ _ _ => pg_tup rfl (pgs_cons (pg_name (i := 2) scRimOf.nd rfl (Or.inl rfl)) (pgs_cons (pg_name (i := 3) scRimOf.nd rfl (Or.inl rfl)) pgs_nil)))
        (fun _ _ _ _ _ => pts_one (pt_cmpR op_in_seq (pv 3) (pv 0) (by rfl))) (fun _ _ _ _ _ => pv 2)) pa_nil)) pa_nil))), ?_⟩
    refine ⟨.ref b, rfl, b, rfl, ⟨_, sqt_of eb⟩, fun D nD => sct_it (walk_tup (xs := qs.map V.ref)) (fun i H' => Same H H' ∧ ∃ L : List Str, H' D = some (TxO w D L) ∧ L.Perm (putAll [] (((ss.take i).filter fun t => decide (t.2 ∈ part)).map (·.1)))) ⟨same_upd nD, [], upd_same, .refl _⟩ (fun i H' _ h => sqt_of (h.1 _ _ eb)) ?_ ?_⟩
    · rintro i v H' H'' hi ⟨sx, L, eD, pL⟩ ⟨rfl, hx⟩
      obtain ⟨qd, hqd, rfl⟩ := map_get hx
      obtain ⟨t, ht, et⟩ := paired_get hq hqd
      have et' : H'' qd = some (.tup [.str t.1, .str t.2]) := sx _ _ et
      have ef : (ss.take (i + 1)).filter (fun t => decide (t.2 ∈ part)) = (ss.take i).filter (fun t => decide (t.2 ∈ part)) ++ if decide (t.2 ∈ part) = true then [t] else [] := filter_snoc ht
      have hLl : L.length ≤ 1000 := by
        rw [pL.length_eq]
        refine Nat.le_trans putAll_len ?_
        rw [List.length_nil, List.length_map, Nat.zero_add]
        refine Nat.le_trans (List.length_filter_le _ _) ?_
        rw [List.length_take]; omega
      refine ⟨qd, [.str t.1, .str t.2], rfl, sqt_of et', rfl, _, [.str t.2], rfl, _, [], rfl, rfl, rfl, ?_⟩
      have hin : inV (.str t.2) (part.map V.str) = decide (t.2 ∈ part) := inV_str _ _
      refine ⟨.str t.2, rfl, .ref a, rfl, a, _, rfl, .inr (sqt_of (sx _ _ ha)), rfl, List.all_eq_true.mpr fun v hv => (by obtain ⟨y, _, rfl⟩ := List.mem_map.mp hv; rfl), decide (t.2 ∈ part), congrArg V.bl hin, ?_⟩
      cases hb : decide (t.2 ∈ part) with
      | true =>
        show if true = true then _ else _
        rw [if_pos rfl]
        refine ⟨.str t.1, rfl, t.1, L, rfl, eD, by show _ < 4096; omega, fun L' pm => ⟨fun c o e => ?_, L', upd_same, ?_⟩⟩
        · rw [upd_ne (ne_of_none e nD)]; exact sx _ _ e
        · rw [ef, hb, if_pos rfl, List.map_append]
          refine pm.trans ?_
          show List.Perm _ (putAll [] (_ ++ [t.1]))
          rw [putAll_last]
          by_cases hm : t.1 ∈ L
          · rw [if_pos hm, if_pos (pL.mem_iff.mp hm)]; exact pL
          · rw [if_neg hm, if_neg (fun m => hm (pL.mem_iff.mpr m))]
            exact (pL.cons _).trans (List.perm_append_singleton _ _).symm
      | false =>
        show if false = true then _ else _
        rw [if_neg Bool.false_ne_true]
        refine ⟨sx, L, eD, ?_⟩
        rw [ef, hb, if_neg Bool.false_ne_true, List.append_nil]; exact pL
    · rintro H1 ⟨sx, L, eD, pL⟩
      rw [List.length_map, Paired.length hq, List.take_length] at pL
      refine ⟨D, L, rfl, eD, fun p1 n1 => ?_⟩
      have e0 : sortS L = rimL part ss := sortS_of_perm pL
      rw [e0]
      refine ⟨p1, _, rfl, .inl ⟨sql_of upd_same, fun p2 n2 => ?_⟩⟩
      have s1 := sx.trans (same_upd (o := .lst ((rimL part ss).map V.str)) n1)
      exact q p2 _ (s1.trans (same_upd n2)) (s1.free n2) upd_same
theorem scRims : FnScope ["history", "pairs", "part"] ["history"] (defScope sRims) := ⟨rfl, rfl, rfl, by decide +kernel, rfl, by decide +kernel, by decide +kernel⟩
theorem ok_rims {f fS fD fR C : Addr} {fd fdS fdD fdR : FuncData} {k : Nat} (F : Fun K "rims" "rims" sRims f fd) (bt : mg "tuple" = none)
    (GS : FnOk P w K mg base CX0 k fS fdS ["history"] (spSlots C)) (gS : mg "slots" = some (.ref fS)) (kS : PySem.W.keepIn K (.ref fS) = true) (bS : Binds K fdS ["history"] [])
    (GD : FnOk P w K mg base CX0 k fD fdD ["history"] (spDeadP C)) (gD : mg "dead_parts" = some (.ref fD)) (kD : PySem.W.keepIn K (.ref fD) = true) (bD : Binds K fdD ["history"] [])
    (GR : FnOk P w K mg base CX0 k fR fdR ["part", "pairs"] spRimOf) (gR : mg "rim_of" = some (.ref fR)) (kR : PySem.W.keepIn K (.ref fR) = true) (bR : Binds K fdR ["part", "pairs"] []) :
    FnOk P w K mg base CX0 (k + 1) f fd ["history"] (spRims C) := by
  refine F.ok scRims (fun vs H Q E h => ?_) (fun cdv A outer s H vs Q E hr h => ?_)
  · obtain ⟨x, ds, rfl, _⟩ := h
    rfl
  · obtain ⟨x, ds, rfl, wb, hl, q⟩ := h
    refine ⟨_, pss_cons (ps_set (i := 1) scRims.nd rfl (.inr rfl) (pe_call GS hr (by rfl) gS kS bS .nil pass0 (pa_cons (pv 0) pa_nil)))
      (pss_one (ps_ret (pe_callTy call_tuple_of (by rfl) bt PyProof.Rows.boot_tuple (pa_cons (pe_lc (own := [("part", 2)]) (g := gName 2) (tt := tYes) (te := tCall spRimOf [] E0 (tCons (tVar 2) (tCons (tVar 1) tNil))) rfl scRims.nd (pi_tup (pe_call GD hr (by rfl) gD kD bD .nil pass0 (pa_cons (pv 0) pa_nil)))
        (blkOk_by (N := ["history", "pairs", "part"]) (sc := defScope sRims) (by decide +kernel)) (fun _ _ _ _ _ => pg_name (i := 2) scRims.nd rfl (Or.inl rfl)) (fun _ _ _ _ _ => pts_nil)
        (fun _ _ _ _ _ => pe_call GR hr (by rfl) gR kR bR .nil pass0 (pa_cons (pv 2) (pa_cons (pv 1) pa_nil)))) pa_nil)))), ?_⟩
    have hH := wb.hist
    have hsf := slots_few hH hl
    have hpf := partsD_few hH hl
    refine rs_set ?_
    refine ⟨.ref x, rfl, x, ds, rfl, wb, hl, fun sp sq H1 s1 nsp esp hsq => ?_⟩
    refine ⟨.ref x, rfl, x, ds, rfl, wb.keep s1, hl, fun dpp H2 ⟨dq, ed, hdq⟩ s2 => ⟨dpp, rfl, ⟨_, sqt_of ed⟩, fun D nD => ?_⟩⟩
    refine lc_tup (xs := dq.map V.ref) (fun i H' => Same H2 H' ∧ ∃ us : List Addr, H' D = some (.lst (us.map V.ref)) ∧ Paired (PartT H') us (((partsD ds).take i).map fun part => rimL part (sortP (slotsD ds)))) ⟨same_upd nD, [], upd_same, .nil⟩ (fun i H' _ h => sqt_of (h.1 _ _ ed)) ?_ ?_
    · rintro i v H' hx ⟨sx, us, eD, hus⟩
      obtain ⟨qd, hqd, rfl⟩ := map_get hx
      obtain ⟨part, hp, epart⟩ := paired_get hdq hqd
      have hul : us.length ≤ 40 := by
        rw [Paired.length hus, List.length_map, List.length_take]; omega
      refine ⟨rfl, r_yes ?_⟩
      refine ⟨.ref qd, rfl, .ref sp, rfl, qd, sp, part, sortP (slotsD ds), rfl, sx _ _ epart, ⟨sq, sx _ _ (s2 _ _ esp), paired_mono (fun q t e => sx _ _ (s2 _ _ e)) hsq⟩, by omega, fun p H3 s3 np ep => ?_⟩
      have eD3 := s3 _ _ eD
      have npD : p ≠ D := fun z => by rw [z, eD] at np; cases np
      refine ⟨_, eD3, smallM (by rw [List.length_map]; omega), fun c o e => ?_, us ++ [p], by rw [upd_same, List.map_append]; rfl, ?_⟩
      · rw [upd_ne (ne_of_none e nD)]; exact s3 _ _ (sx _ _ e)
      · rw [take_snoc hp, List.map_append]
        refine paired_snoc ?_ (paired_mono (fun q part e => ?_) hus)
        · show (upd _ D _) p = _
          rw [upd_ne npD]; exact ep
        · have e : H' q = _ := e
          show (upd _ D _) q = _
          rw [upd_ne (fun z => by rw [z, eD] at e; cases e)]
          exact s3 _ _ e
    · rintro H3 ⟨sx, us, eD, hus⟩
      rw [List.length_map, Paired.length hdq, List.take_length] at hus
      refine ⟨D, _, rfl, .inl ⟨sql_of eD, fun p np => ?_⟩⟩
      have s4 := same_upd (o := .tup (us.map V.ref)) np
      exact q p _ ⟨us, upd_same, paired_mono (fun q part e => s4 _ _ e) hus⟩ (((s1.trans s2).trans sx).trans s4)
end
end Hw

set_option Elab.async false
set_option linter.all false
set_option maxRecDepth 100000
set_option maxHeartbeats 4000000
namespace Hw
open PySem L2 PyProof.Rows
abbrev sLSlots : Stmt := topS 61
abbrev sLDead : Stmt := topS 62
abbrev sLRims : Stmt := topS 63
def spLSlots : Sp := fun vs H Q _ => ∃ (l : Addr) (ds : List Deed), vs = [.ref l] ∧ DeedsAt H l ds ∧ Hist ds ∧ ds.length ≤ 40 ∧ ∀ (p : Addr) (qs : List Addr) H', Same H H' → H p = none → H' p = some (.lst (qs.map V.ref)) → Paired (TieL H') qs (sortP (slotsD ds)) → Q (.ref p) H'
noncomputable def spLDead : Sp := fun vs H Q _ => ∃ (l : Addr) (ds : List Deed), vs = [.ref l] ∧ DeedsAt H l ds ∧ Hist ds ∧ ds.length ≤ 40 ∧ ∀ (p : Addr) (qs : List Addr) H', Same H H' → H p = none → H' p = some (.lst (qs.map V.ref)) → Paired (PartT H') qs (partsD ds) → Q (.ref p) H'
noncomputable def spLRims : Sp := fun vs H Q _ => ∃ (l : Addr) (ds : List Deed), vs = [.ref l] ∧ DeedsAt H l ds ∧ Hist ds ∧ ds.length ≤ 40 ∧ ∀ (p : Addr) (qs : List Addr) H', Same H H' → H p = none → H' p = some (.lst (qs.map V.ref)) → Paired (PartT H') qs (rimsD ds) → Q (.ref p) H'
theorem slotT_if (ds : List Deed) (t : Tie) : slotT ds t = if decide (t.1 ∈ liv ds) ≠ decide (t.2 ∈ liv ds) then [if t.1 ∈ liv ds then t else (t.2, t.1)] else [] := by
  unfold slotT
  by_cases a : t.1 ∈ liv ds <;> by_cases b : t.2 ∈ liv ds <;> simp [a, b]
theorem elder_at {H : Hp} {p : Addr} {ns : List Str} {ts : List Tie} (h : WebAt H p ns ts) : ∃ (pl tl : Addr) (qs : List Addr), H p = some (.tup [.ref pl, .ref tl]) ∧ H pl = some (.lst (ns.map V.str)) ∧ H tl = some (.lst (qs.map V.ref)) ∧ Paired (TieL H) qs ts := h
theorem merge_put : ∀ {l ks : List Str}, mergeK (encS ks) (l.map fun z => ((Sum.inr z : Key), V.bl true)) = encS (putAll ks l)
  | [], ks => rfl
  | z :: l, ks => by
    show mergeK (putK (encS ks) (Sum.inr z) (V.bl true)) (l.map fun z => ((Sum.inr z : Key), V.bl true)) = encS (putAll (if z ∈ ks then ks else ks ++ [z]) l)
    rw [putS]
    exact merge_put
section
variable {P : Program} {w : World} {K : PySem.W.Frag} {mg : Str → Option Value} {base : Heap}
abbrev nLSlots : List Str := ["deeds", "living", "found", "one", "other"]
theorem scLSlots : FnScope nLSlots ["deeds"] (defScope sLSlots) := ⟨rfl, rfl, rfl, by decide +kernel, rfl, by decide +kernel, by decide +kernel⟩
theorem ok_lslots {f fL fE : Addr} {fd fdL fdE : FuncData} {k : Nat} (F : Fun K "_law_slots_of" "_law_slots_of" sLSlots f fd) (bs : mg "sorted" = none)
    (GL : FnOk P w K mg base CX0 k fL fdL ["deeds"] spLiving) (gL : mg "_law_living" = some (.ref fL)) (kL : PySem.W.keepIn K (.ref fL) = true) (bL : Binds K fdL ["deeds"] [])
    (GE : FnOk P w K mg base CX0 k fE fdE ["deeds"] spElder) (gE : mg "_law_elder" = some (.ref fE)) (kE : PySem.W.keepIn K (.ref fE) = true) (bE : Binds K fdE ["deeds"] []) :
    FnOk P w K mg base CX0 (k + 1) f fd ["deeds"] spLSlots := by
  refine F.ok scLSlots (fun vs H Q E h => ?_) (fun cdv A outer s H vs Q E hr h => ?_)
  · obtain ⟨l, ds, rfl, _⟩ := h
    rfl
  · obtain ⟨l, ds, rfl, hd, hH, hl, q⟩ := h
    have hu64 := hr.units
    refine ⟨_, pss_cons (ps_par (i := 1) (j := 2) rfl scLSlots.nd rfl rfl (by decide) rfl rfl (pa_cons (pe_call GL hr (by rfl) gL kL bL .nil pass0 (pa_cons (pv 0) pa_nil)) (pa_cons (pe_lst pa_nil) pa_nil)) rfl)
      (pss_cons (ps_for PassesOwn.never rfl (pi_list (pe_ix ix_tup (pe_call GE hr (by rfl) gE kE bE .nil pass0 (pa_cons (pv 0) pa_nil)) pe_int (fun _ _ => rfl))) (pg_tup rfl (pgs_cons (pg_name (i := 3) scLSlots.nd rfl (Or.inl rfl)) (pgs_cons (pg_name (i := 4) scLSlots.nd rfl (Or.inl rfl)) pgs_nil)))
        (pss_one (ps_if (pt_cmpR op_ne (pe_cmpR op_in_seq (pv 3) (pv 1) (by rfl)) (pe_cmpR op_in_seq (pv 4) (pv 1) (by rfl)) (nomark _))
          (pss_one (ps_expr (pe_bm PySem.F.plainAttrs_list PySem.F.slot_list_append PySem.F.type_list_append mt_append (pv 2) (pa_cons (pe_ifExp (pt_cmpR op_in_seq (pv 3) (pv 1) (by rfl)) (pe_tup (pa_cons (pv 3) (pa_cons (pv 4) pa_nil))) (pe_tup (pa_cons (pv 4) (pa_cons (pv 3) pa_nil)))) pa_nil)))) pss_nil)))
      (pss_one (ps_ret (pe_callB (cr_sortTP hu64) (by rfl) bs (by decide +kernel) (pa_cons (pv 2) pa_nil))))), ?_⟩
    have he8 := hH.few1000 hl
    refine rs_par ?_
    refine ⟨.ref l, rfl, l, ds, rfl, hd, hH, by omega, fun lv H1 s1 nlv elv => ⟨Nat.zero_le _, fun pl npl => ⟨_, _, rfl, ?_⟩⟩⟩
    have npl0 := s1.free npl
    refine rs_listR (fun l2 xs H2 => ∃ qs : List Addr, xs = qs.map V.ref ∧ (qs ≠ [] → l2 ≠ pl) ∧ Same (upd H1 pl (.lst [])) H2 ∧ H2 l2 = some (.lst xs) ∧ Paired (TieL H2) qs (sortP (elderT ds)))
      (fun l2 xs H2 i σ' H' => ∃ (qs : List Addr) (o3 o4 : Option V), xs = qs.map V.ref ∧ (qs ≠ [] → l2 ≠ pl) ∧ σ' = [some (.ref l), some (.ref lv), some (.ref pl), o3, o4] ∧ Same H1 H' ∧ H' l2 = some (.lst xs) ∧ Paired (TieL H') qs (sortP (elderT ds)) ∧ TiesI H1 pl (((sortP (elderT ds)).take i).flatMap (slotT ds)) H')
      (fun Q1 q1 => ?_) ?_ (fun l2 xs H2 i σ' H' ⟨_, _, _, _, _, _, _, e, _⟩ => sql_of e) ?_ ?_
    · refine ⟨.ref l, rfl, l, ds, rfl, hd.keep (s1.trans (same_upd npl)), hH, by omega, fun p H2 s2 np wb => ?_⟩
      obtain ⟨npp, tl, qs, e1, e2, e3, e4⟩ := elder_at wb
      have e5 : qs ≠ [] → tl ≠ pl := fun hne z => by
        have e6 := s2 _ _ (upd_same : (upd H1 pl (.lst [])) pl = some (.lst []))
        rw [← z, e3] at e6
        have e7 : qs.map V.ref = [] := by injection (Option.some.inj e6)
        exact hne (List.map_eq_nil_iff.mp e7)
      exact ⟨p, _, 1, .ref tl, rfl, rfl, sqt_of e1, rfl, q1 tl _ H2 ⟨qs, rfl, e5, s2, e3, e4⟩⟩
    · rintro l2 xs H2 ⟨qs, rfl, hlp, s2, el, hp⟩
      exact ⟨qs, _, _, rfl, hlp, rfl, (same_upd npl).trans s2, el, hp, ⟨(same_upd npl).trans s2, [], s2 _ _ upd_same, .nil⟩⟩
    · rintro l2 xs H2 i v σ' H' _ hx ⟨qs, o3, o4, rfl, hlp, rfl, sx, el, hp, wi⟩
      obtain ⟨qd, hq, rfl⟩ := map_get hx
      obtain ⟨t, ht, et⟩ := paired_get hp hq
      have hlq := hlp (fun z => by rw [z] at hq; cases hq)
      have hi := (List.getElem?_eq_some_iff.mp ht).1
      rw [(sortP_perm _).length_eq] at hi
      have ef := flat_snoc (f := slotT ds) ht
      have hac : (((sortP (elderT ds)).take i).flatMap (slotT ds)).length ≤ 800 := by
        refine Nat.le_trans (flat_len (slotT_len ds) _) ?_
        rw [List.length_take]; omega
      have hin : ∀ z : Str, inV (.str z) ((sortS (liv ds)).map V.str) = decide (z ∈ liv ds) := fun z => by
        rw [inV_str, decide_eq_decide]
        exact (sortS_perm _).mem_iff
      have elv' := sx _ _ elv
      have flat := strs_flat (sortS (liv ds))
      refine g2_of (sqt_of et) ?_
      refine ⟨.str t.1, rfl, .ref lv, rfl, lv, _, rfl, .inl (sql_of elv'), rfl, flat, .str t.2, rfl, .ref lv, rfl, lv, _, rfl, .inl (sql_of elv'), rfl, flat, rfl, decide (decide (t.1 ∈ liv ds) ≠ decide (t.2 ∈ liv ds)), ?_, ?_⟩
      · refine congrArg V.bl ?_
        show (!decide (V.bl (inV (.str t.1) ((sortS (liv ds)).map V.str)) = V.bl (inV (.str t.2) ((sortS (liv ds)).map V.str)))) = _
        rw [hin, hin]
        cases decide (t.1 ∈ liv ds) <;> cases decide (t.2 ∈ liv ds) <;> decide
      by_cases hc : decide (t.1 ∈ liv ds) ≠ decide (t.2 ∈ liv ds)
      · rw [decide_eq_true hc]
        show if true = true then _ else _
        rw [if_pos rfl]
        obtain ⟨us, eu, hu2⟩ := wi.at_
        refine ⟨.ref pl, rfl, .inl ⟨rfl, _, sql_of eu⟩, .str t.1, rfl, .ref lv, rfl, lv, _, rfl, .inl (sql_of elv'), rfl, flat, decide (t.1 ∈ liv ds), congrArg V.bl (hin t.1), ?_⟩
        have fin : ∀ a b : Str, slotT ds t = [(a, b)] → ∀ p, H' p = none → ∃ (l' : Addr) (xs : List V) (y : V), V.ref pl = .ref l' ∧ [V.ref p] = [y] ∧ (upd H' p (.tup [.str a, .str b])) l' = some (.lst xs) ∧ xs.length < sizeLine ∧
            ∃ (qs' : List Addr) (o3 o4 : Option V), qs.map V.ref = qs'.map V.ref ∧ (qs' ≠ [] → l2 ≠ pl) ∧ [some (V.ref l), some (.ref lv), some (.ref pl), some (.str t.1), some (.str t.2)] = [some (V.ref l), some (.ref lv), some (.ref pl), o3, o4] ∧ Same H1 (upd (upd H' p (.tup [.str a, .str b])) l' (.lst (xs ++ [y]))) ∧ (upd (upd H' p (.tup [.str a, .str b])) l' (.lst (xs ++ [y]))) l2 = some (.lst (qs.map V.ref)) ∧ Paired (TieL (upd (upd H' p (.tup [.str a, .str b])) l' (.lst (xs ++ [y])))) qs' (sortP (elderT ds)) ∧ TiesI H1 pl (((sortP (elderT ds)).take (i + 1)).flatMap (slotT ds)) (upd (upd H' p (.tup [.str a, .str b])) l' (.lst (xs ++ [y]))) := by
          intro a b es p np
          have s3 := same_upd (o := .tup [.str a, .str b]) np
          have wn := TiesI.grow (a := a) (b := b) wi.sx npl eu hu2 np
          have npl2 : ∀ {c : Addr} {o : HO}, H' c = some o → c ≠ pl → (upd (upd H' p (.tup [.str a, .str b])) pl (.lst (us.map V.ref ++ [.ref p]))) c = some o := fun {c o} e hb => by rw [upd_ne hb]; exact s3 _ _ e
          refine ⟨pl, _, _, rfl, rfl, s3 _ _ eu, smallM (by rw [List.length_map, Paired.length hu2]; omega), qs, _, _, rfl, hlp, rfl, wn.sx, npl2 el hlq, ?_, by rw [ef, es]; exact wn⟩
          exact paired_mono (fun q t e => npl2 (show H' q = _ from e) (fun z => by have e : H' q = _ := e; rw [z, eu] at e; cases e)) hp
        by_cases c1 : t.1 ∈ liv ds
        · rw [decide_eq_true c1]
          show if true = true then _ else _
          rw [if_pos rfl]
          exact ⟨.str t.1, rfl, .str t.2, rfl, by show 2 ≤ sizeLine; decide, fun p np => fin t.1 t.2 (by rw [slotT_if, if_pos hc, if_pos c1]) p np⟩
        · rw [decide_eq_false c1]
          show if false = true then _ else _
          rw [if_neg Bool.false_ne_true]
          exact ⟨.str t.2, rfl, .str t.1, rfl, by show 2 ≤ sizeLine; decide, fun p np => fin t.2 t.1 (by rw [slotT_if, if_pos hc, if_neg c1]) p np⟩
      · rw [decide_eq_false hc]
        show if false = true then _ else _
        rw [if_neg Bool.false_ne_true]
        have es : slotT ds t = [] := by rw [slotT_if, if_neg hc]
        exact ⟨qs, _, _, rfl, hlp, rfl, sx, el, hp, by rw [ef, es, List.append_nil]; exact wi⟩
    · rintro l2 xs H2 σ' H3 _ ⟨qs, o3, o4, rfl, hlp, rfl, sx, el, hp, wi⟩
      have e0 : (qs.map V.ref).length = (sortP (elderT ds)).length := by rw [List.length_map]; exact Paired.length hp
      rw [e0, List.take_length] at wi
      obtain ⟨us, eu, hu2⟩ := wi.at_
      have hsl : (slotsD ds).length ≤ 800 := by
        refine Nat.le_trans (flat_len (slotT_len ds) _) ?_
        rw [(sortP_perm _).length_eq]; exact he8
      refine ⟨.ref pl, rfl, pl, us, slotsD ds, rfl, sql_of eu, paired_mono (fun q t e => sqt_of e) hu2, Nat.le_of_lt (smallM (by omega)), fun p2 qs' n2 hq => ?_⟩
      have s2 := same_upd (o := .lst (qs'.map V.ref)) n2
      exact q p2 qs' _ ((s1.trans wi.sx).trans s2) ((s1.trans wi.sx).free n2) upd_same (hq _ (paired_mono (fun q t e => s2 _ _ e) hu2))
abbrev nLDead : List Str := ["deeds", "dead", "near", "found", "seen", "name", "part", "deed", "tie", "one"]
theorem scLDead : FnScope nLDead ["deeds"] (defScope sLDead) := ⟨rfl, rfl, rfl, by decide +kernel, rfl, by decide +kernel, by decide +kernel⟩
theorem ok_ldead {f fE fN fF : Addr} {fd fdE fdN fdF : FuncData} {k : Nat} (F : Fun K "_law_dead_parts" "_law_dead_parts" sLDead f fd) (B : Blt mg) (B3 : Blt3 mg)
    (GE : FnOk P w K mg base CX0 k fE fdE ["deeds"] spElder) (gE : mg "_law_elder" = some (.ref fE)) (kE : PySem.W.keepIn K (.ref fE) = true) (bE : Binds K fdE ["deeds"] [])
    (GN : FnOk P w K mg base CX0 k fN fdN ["places", "ties"] spNear) (gN : mg "_law_near" = some (.ref fN)) (kN : PySem.W.keepIn K (.ref fN) = true) (bN : Binds K fdN ["places", "ties"] [])
    (GF : FnOk P w K mg base CX0 k fF fdF ["near", "name"] spFars) (gF : mg "_law_fars" = some (.ref fF)) (kF : PySem.W.keepIn K (.ref fF) = true) (bF : Binds K fdF ["near", "name"] []) :
    FnOk P w K mg base CX0 (k + 1) f fd ["deeds"] spLDead := by
  refine F.ok scLDead (fun vs H Q E h => ?_) (fun cdv A outer s H vs Q E hr h => ?_)
  · obtain ⟨l, ds, rfl, _⟩ := h
    rfl
  · obtain ⟨l, ds, rfl, ⟨qs0, e1, e2⟩, hH, hl, q⟩ := h
    have hu := hu_of hr
    have hu64 := hr.units
    refine ⟨_, pss_cons (ps_set (i := 1) scLDead.nd rfl (.inr rfl) (pe_callB (cr_sortT hu64) (by rfl) B3.sorted (by decide +kernel) (pa_cons (pe_lc (own := [("deed", 7)]) (g := gName 7) (tt := tTest (tOp rEq (tOp (rIxT K) (tVar 7) (tC (.int 0))) (tC (.str (Str.ofString "die"))))) (te := tOp (rIxT K) (tVar 7) (tC (.int 1))) rfl scLDead.nd (pi_list (pv 0))
          (blkOk_by (N := nLDead) (sc := defScope sLDead) (by decide +kernel)) (fun _ _ _ _ _ => pg_name (i := 7) scLDead.nd rfl (Or.inl rfl))
          (fun _ _ _ _ _ => pts_one (pt_cmpR op_eq (pe_ix ix_tup (pv 7) pe_int (fun _ _ => rfl)) pe_str (nomark _))) (fun _ _ _ _ _ => pe_ix ix_tup (pv 7) pe_int (fun _ _ => rfl))) pa_nil)))
      (pss_cons (ps_set (i := 2) scLDead.nd rfl (.inl rfl) (pe_call GN hr (by rfl) gN kN bN .nil pass0 (pa_cons (pv 1) (pa_cons (pe_lc (own := [("tie", 8)]) (g := gName 8) (tt := tAnd (tTest (tOp (rIn K false) (tOp (rIxT K) (tVar 8) (tC (.int 0))) (tVar 1))) (tTest (tOp (rIn K false) (tOp (rIxT K) (tVar 8) (tC (.int 1))) (tVar 1)))) (te := tVar 8) rfl scLDead.nd (pi_list (pe_ix ix_tup (pe_call GE hr (by rfl) gE kE bE .nil pass0 (pa_cons (pv 0) pa_nil)) pe_int (fun _ _ => rfl)))
          (blkOk_by (N := nLDead) (sc := defScope sLDead) (by decide +kernel)) (fun _ _ _ _ _ => pg_name (i := 8) scLDead.nd rfl (Or.inl rfl))
          (fun _ _ _ _ _ => pts_one (PW.pt (pw_and (pt_cmpR op_in_seq (pe_ix ix_tup (pv 8) pe_int (fun _ _ => rfl)) (pv 1) (by rfl)) (pw_and1 (pt_cmpR op_in_seq (pe_ix ix_tup (pv 8) pe_int (fun _ _ => rfl)) (pv 1) (by rfl)))))) (fun _ _ _ _ _ => pv 8)) pa_nil))))
      (pss_cons (ps_par (i := 3) (j := 4) rfl scLDead.nd rfl rfl (by decide) rfl rfl (pa_cons (pe_lst pa_nil) (pa_cons pe_dnewK pa_nil)) rfl)
      (pss_cons (ps_for PassesOwn.never rfl (pi_list (pv 1)) (pg_name (i := 5) scLDead.nd rfl (.inl rfl))
        (pss_one (ps_if (pt_cmp (pc_dnotin hu (pv 5) (pv 4)))
          (pss_cons (ps_set (i := 6) scLDead.nd rfl (.inl rfl) (pe_callB (cr_sortT hu64) (by rfl) B3.sorted PyProof.Rows.boot_sorted (pa_cons (pe_callTy (call_listD rfl) (by rfl) B.list PyProof.Rows.boot_list (pa_cons (pe_call GF hr (by rfl) gF kF bF .nil pass0 (pa_cons (pv 2) (pa_cons (pv 5) pa_nil))) pa_nil)) pa_nil)))
          (pss_cons (ps_expr (pe_bm PySem.F.plainAttrs_dict PySem.F.slot_dict_update PySem.F.type_dict_update mt_update (pv 4) (pa_cons (pe_callTy (call_dictP rfl) (by rfl) B3.dict PyProof.Rows.boot_dict (pa_cons (pe_lc (own := [("one", 9)]) (g := gName 9) (tt := tYes) rfl scLDead.nd (pi_list (pv 6))
              (blkOk_by (N := nLDead) (sc := defScope sLDead) (by decide +kernel)) (fun _ _ _ _ _ => pg_name (i := 9) scLDead.nd rfl (Or.inl rfl)) (fun _ _ _ _ _ => pts_nil) (fun _ _ _ _ _ => pe_tup (pa_cons (pv 9) (pa_cons pe_bl pa_nil)))) pa_nil)) pa_nil)))
          (pss_one (ps_expr (pe_bm PySem.F.plainAttrs_list PySem.F.slot_list_append PySem.F.type_list_append mt_append (pv 3) (pa_cons (pe_callTy call_tuple_of (by rfl) B3.tuple PyProof.Rows.boot_tuple (pa_cons (pv 6) pa_nil)) pa_nil)))))) pss_nil)))
      (pss_one (ps_ret (pe_callB (cr_sortB hu64) (by rfl) B3.sorted PyProof.Rows.boot_sorted (pa_cons (pv 3) pa_nil))))))), ?_⟩
    have hdl := dead_le ds
    have own := hH.ownDead hl
    have he8 := hH.few1000 hl
    have g := own.good
    have hnd := own.asc.nodup
    have mD : ∀ z : Str, inV (.str z) ((sortS (deadD ds)).map V.str) = decide (z ∈ deadD ds) := fun z => by
      rw [inV_str, decide_eq_decide]
      exact (sortS_perm _).mem_iff
    refine rs_set ?_
    refine ⟨.ref l, rfl, l, rfl, ⟨_, sql_of e1⟩, fun D nD => lc_list (xs := qs0.map V.ref) (fun i H' => Same H H' ∧ H' D = some (.lst ((deadD (ds.take i)).map V.str))) ⟨same_upd nD, upd_same⟩ (fun i H' _ w => sql_of (w.1 _ _ e1)) ?_ ?_⟩
    · rintro i x H' hx ⟨sx, eD⟩
      obtain ⟨qd, hq, rfl⟩ := map_get hx
      obtain ⟨e, he, ed⟩ := paired_get e2 hq
      have ec : deadD (ds.take (i + 1)) = deadD (ds.take i) ++ if e.isCome = true then [] else [e.name] := by rw [take_snoc he, dead_snoc]
      have hcl : (deadD (ds.take i)).length ≤ 40 := Nat.le_trans dead_len (by rw [List.length_take]; omega)
      obtain ⟨more, em⟩ := (ed.keep sx).two (K := K)
      refine ⟨rfl, .ref qd, rfl, qd, _, 0, .str e.word, rfl, rfl, sqt_of em, atI_nat (j := 0) rfl, rfl, _, congrArg V.bl (word_die e), ?_⟩
      cases hc : e.isCome with
      | true =>
        show if false = true then _ else _
        rw [if_neg Bool.false_ne_true]
        refine ⟨sx, ?_⟩
        rw [eD, ec, hc, if_pos rfl, List.append_nil]
      | false =>
        show if true = true then _ else _
        rw [if_pos rfl]
        refine ⟨.ref qd, rfl, qd, _, 1, .str e.name, rfl, rfl, sqt_of em, atI_nat (j := 1) rfl, _, eD, smallM (by rw [List.length_map]; omega), fun b o eb => ?_, ?_⟩
        · rw [upd_ne (ne_of_none eb nD)]; exact sx _ _ eb
        · rw [upd_same, ec, hc, if_neg Bool.false_ne_true, List.map_append]; rfl
    rintro H0 ⟨s0, eD⟩
    rw [List.length_map, Paired.length e2, List.take_length] at eD
    refine ⟨D, deadD ds, rfl, sql_of eD, Nat.le_of_lt (smallM (by have := dead_len (ds := ds); omega)), fun dl ndl => ?_⟩
    have s1 := s0.trans (same_upd (o := .lst ((sortS (deadD ds)).map V.str)) ndl)
    have edl : (upd H0 dl (.lst ((sortS (deadD ds)).map V.str))) dl = some (.lst ((sortS (deadD ds)).map V.str)) := upd_same
    generalize (upd H0 dl (.lst ((sortS (deadD ds)).map V.str))) = H1 at s1 edl ⊢
    clear nD eD s0 ndl
    refine rs_set ?_
    refine ⟨.ref dl, rfl, .ref l, rfl, l, ds, rfl, ⟨qs0, s1 _ _ e1, paired_mono (fun q t e => e.keep s1) e2⟩, hH, by omega, fun p H2 s2 np wb => ?_⟩
    obtain ⟨pl, tl, tq, w1, w2, w3, w4⟩ := elder_at wb
    refine ⟨p, _, 1, .ref tl, rfl, rfl, sqt_of w1, rfl, tl, rfl, ⟨_, sql_of w3⟩, fun D2 nD2 => lc_list (xs := tq.map V.ref) (fun j H' => ∃ qs' : List Addr, Same H2 H' ∧ H' D2 = some (.lst (qs'.map V.ref)) ∧ Paired (TieL H2) qs' (((sortP (elderT ds)).take j).filter (isDeadT ds))) ⟨[], same_upd nD2, upd_same, .nil⟩ (fun j H' _ ⟨_, w, _⟩ => sql_of (w _ _ w3)) ?_ ?_⟩
    · rintro j v H4 hv ⟨qs', s4, eD2, hp⟩
      obtain ⟨q', hq', rfl⟩ := map_get hv
      obtain ⟨t, ht, et⟩ := paired_get w4 hq'
      have hqs' : qs'.length ≤ 800 := by
        rw [Paired.length hp]
        refine Nat.le_trans (List.length_filter_le _ _) ?_
        rw [List.length_take, (sortP_perm _).length_eq]; omega
      have et4 : H4 q' = some (.tup [.str t.1, .str t.2]) := s4 _ _ et
      have ed4 := s4 _ _ (s2 _ _ edl)
      have ef : ((sortP (elderT ds)).take (j + 1)).filter (isDeadT ds) = ((sortP (elderT ds)).take j).filter (isDeadT ds) ++ if isDeadT ds t = true then [t] else [] := filter_snoc ht
      refine ⟨rfl, .ref q', rfl, q', _, 0, .str t.1, rfl, rfl, sqt_of et4, rfl, .ref dl, rfl, dl, _, rfl, .inl (sql_of ed4), rfl, strs_flat _, _, rfl, ?_⟩
      show if inV (.str t.1) ((sortS (deadD ds)).map V.str) = true then _ else _
      rw [mD]
      by_cases m1 : t.1 ∈ deadD ds
      · rw [decide_eq_true m1, if_pos rfl]
        refine ⟨.ref q', rfl, q', _, 1, .str t.2, rfl, rfl, sqt_of et4, rfl, .ref dl, rfl, dl, _, rfl, .inl (sql_of ed4), rfl, strs_flat _, _, rfl, ?_⟩
        show if inV (.str t.2) ((sortS (deadD ds)).map V.str) = true then _ else _
        rw [mD]
        by_cases m2 : t.2 ∈ deadD ds
        · rw [decide_eq_true m2, if_pos rfl]
          have eb : isDeadT ds t = true := by unfold isDeadT; simp [m1, m2]
          refine ⟨.ref q', rfl, _, eD2, smallM (by rw [List.length_map]; omega), qs' ++ [q'], fun b o e => ?_, by rw [upd_same, List.map_append]; rfl, ?_⟩
          · rw [upd_ne (ne_of_none e nD2)]; exact s4 _ _ e
          · rw [ef, eb, if_pos rfl]
            exact paired_snoc et hp
        · rw [decide_eq_false m2, if_neg Bool.false_ne_true]
          have eb : isDeadT ds t = false := by unfold isDeadT; simp [m1, m2]
          refine ⟨qs', s4, eD2, ?_⟩
          rw [ef, eb, if_neg Bool.false_ne_true, List.append_nil]
          exact hp
      · rw [decide_eq_false m1, if_neg Bool.false_ne_true]
        have eb : isDeadT ds t = false := by unfold isDeadT; simp [m1]
        refine ⟨qs', s4, eD2, ?_⟩
        rw [ef, eb, if_neg Bool.false_ne_true, List.append_nil]
        exact hp
    rintro H3 ⟨qs', s3, eD2, hp⟩
    rw [List.length_map, Paired.length w4, List.take_length] at hp
    have s13 := (s1.trans s2).trans s3
    have edl3 := s3 _ _ (s2 _ _ edl)
    refine ⟨dl, D2, sortS (deadD ds), deadT ds, qs', rfl, own, edl3, eD2, paired_mono (fun q t e => s3 _ _ e) hp, fun nd fa H4 s4 nl nd0 nf0 => ?_⟩
    have s14 := s13.trans s4
    have edl4 := s4 _ _ edl3
    clear edl3 eD2 hp w1 w2 w3 w4 wb nD2 s13 s3 s2 np edl s1
    refine rs_par ?_
    refine ⟨Nat.zero_le _, fun pa npa => fun sd nsd => ⟨_, _, rfl, ?_⟩⟩
    have npsd : pa ≠ sd := ne_of_none upd_same nsd
    have nsd0 : H4 sd = none := (same_upd npa).free nsd
    have w0 : PartsI H4 pa sd (sortS (deadD ds)) [] (upd (upd H4 pa (.lst [])) sd (.dK [])) := ⟨(same_upd npa).trans (same_upd nsd), ⟨[], (same_upd nsd) _ _ upd_same, .nil⟩, [], upd_same, (fun z => by simp), List.nodup_nil, (fun _ z => nomatch z)⟩
    generalize (upd (upd H4 pa (.lst [])) sd (.dK [])) = H5 at w0 ⊢
    refine rs_list dl ((sortS (deadD ds)).map V.str) (fun Q1 q1 => ⟨.ref dl, rfl, q1⟩) (fun i σ' H' => ∃ o5 o6, σ' = [some (.ref l), some (.ref dl), some (.ref nd), some (.ref pa), some (.ref sd), o5, o6, none, none, none] ∧ PartsI H4 pa sd (sortS (deadD ds)) (((sortS (deadD ds)).take i).foldl (pstep (deadT ds)) []) H')
      ⟨_, _, rfl, w0⟩ (fun i σ' H' _ ⟨_, _, _, wi⟩ => sql_of (wi.1 _ _ edl4)) ?_ ?_
    · rintro i v σ2 H6 hx ⟨o5, o6, rfl, s2, ⟨qs, eq, hq⟩, ks, es, hmem, hks, hkn⟩
      obtain ⟨z, hz, rfl⟩ := map_get hx
      have hzn := List.mem_of_getElem? hz
      have hkl : ks.length ≤ 40 := Nat.le_trans (sub_len hks hkn) (by omega)
      refine r_gname ?_
      refine ⟨.str z, rfl, .ref sd, rfl, sd, _, rfl, DGet.k (k := Sum.inr z) es, _, rfl, ?_⟩
      rw [valV_seen]
      have hst : ((sortS (deadD ds)).take (i + 1)).foldl (pstep (deadT ds)) [] = pstep (deadT ds) (((sortS (deadD ds)).take i).foldl (pstep (deadT ds)) []) z := foldl_snoc hz
      have hpl : (((sortS (deadD ds)).take i).foldl (pstep (deadT ds)) []).length ≤ (sortS (deadD ds)).length := by
        rw [(pin g.gr g.asc i).len]
        exact Nat.le_trans (List.length_filter_le _ _) (by rw [List.length_take]; omega)
      generalize ((sortS (deadD ds)).take i).foldl (pstep (deadT ds)) [] = ps at hq hmem hst hpl ⊢
      by_cases hin : z ∈ ks
      · rw [if_pos hin]
        refine ⟨_, _, rfl, s2, ?_⟩
        rw [hst]
        unfold pstep
        rw [if_pos ((hmem z).mp hin)]
        exact ⟨⟨qs, eq, hq⟩, ks, es, hmem, hks, hkn⟩
      · rw [if_neg hin]
        have hps : pstep (deadT ds) ps z = ps ++ [compOf (deadT ds) z] := by
          unfold pstep
          rw [if_neg (fun e => hin ((hmem z).mpr e))]
        refine rs_set ?_
        refine ⟨.ref nd, rfl, .str z, rfl, nd, z, fa, sortS (deadD ds), deadT ds, rfl, nl.keep s2, hzn, own.nm, by omega, g.gr.nbs, fun far fd' H7 hb hf s7 e nf => ?_⟩
        obtain ⟨n0, fk⟩ := id hf
        have few : far.length ≤ (sortS (deadD ds)).length := fk.few
        refine ⟨fd', encF far, rfl, .inl e, fun ll nll => ?_⟩
        have ekeys : (encF far).map (fun kv => kV kv.1) = (far.map (·.1)).map V.str := by
          unfold encF
          rw [List.map_map, List.map_map]; rfl
        rw [ekeys]
        refine ⟨ll, far.map (·.1), rfl, sql_of upd_same, Nat.le_of_lt (smallM (by rw [List.length_map]; omega)), fun sl nsl => ?_⟩
        rw [← comp_eq hb]
        have hcn : ∀ u ∈ compOf (deadT ds) z, u ∈ sortS (deadD ds) := fun u hu => ((mem_comp g.gr hzn).mp hu).within g.gr hzn
        have hcl : (compOf (deadT ds) z).length ≤ 40 := by
          rw [comp_eq hb, (sortS_perm _).length_eq, List.length_map]
          omega
        have hcd : (compOf (deadT ds) z).Nodup := by
          rw [comp_eq hb]
          exact (sortS_perm _).nodup_iff.mpr fk.nd
        have s78 := (s7.trans (same_upd (o := .lst ((far.map (·.1)).map V.str)) nll)).trans (same_upd (o := .lst ((compOf (deadT ds) z).map V.str)) nsl)
        have esl : (upd (upd H7 ll (.lst ((far.map (·.1)).map V.str))) sl (.lst ((compOf (deadT ds) z).map V.str))) sl = some (.lst ((compOf (deadT ds) z).map V.str)) := upd_same
        generalize (upd (upd H7 ll (.lst ((far.map (·.1)).map V.str))) sl (.lst ((compOf (deadT ds) z).map V.str))) = H8 at s78 esl ⊢
        clear nsl nll e nf s7 few fk hf
        refine rs_bm ⟨.ref sd, rfl, .inr (.inr (.inl ⟨rfl, .inl ⟨_, s78 _ _ es⟩⟩)), ?_⟩
        refine ⟨.ref sl, rfl, sl, rfl, ⟨_, sql_of esl⟩, fun D1 nD1 => lc_list (xs := (compOf (deadT ds) z).map V.str) (fun i H' => ∃ tp : List Addr, Same H8 H' ∧ H' D1 = some (.lst (tp.map V.ref)) ∧ Paired (fun q n => H' q = some (.tup [.str n, .bl true])) tp ((compOf (deadT ds) z).take i)) ⟨[], same_upd nD1, upd_same, .nil⟩ (fun i H' _ ⟨_, w, _⟩ => sql_of (w _ _ esl)) ?_ ?_⟩
        · rintro i x H' hx ⟨tp, sx, eD1, hp⟩
          obtain ⟨y, hy, rfl⟩ := map_get hx
          have htp : tp.length ≤ 100 := by rw [Paired.length hp, List.length_take]; omega
          refine ⟨rfl, r_yes ?_⟩
          refine ⟨.str y, rfl, by show 2 ≤ sizeLine; decide, fun p np => ?_⟩
          have s2 := same_upd (o := .tup [.str y, .bl true]) np
          have npD : p ≠ D1 := fun y => by rw [y, eD1] at np; cases np
          refine ⟨_, s2 _ _ eD1, smallM (by rw [List.length_map]; omega), tp ++ [p], fun b o e => ?_, by rw [upd_same, List.map_append]; rfl, ?_⟩
          · rw [upd_ne (ne_of_none e nD1)]; exact s2 _ _ (sx _ _ e)
          · rw [take_snoc hy]
            refine paired_snoc ?_ (paired_mono (fun q n e => ?_) hp)
            · rw [upd_ne npD, upd_same]
            · rw [upd_ne (fun y => by rw [y, eD1] at e; cases e)]
              exact s2 _ _ e
        rintro H9 ⟨tp, sx, eD1, hp⟩
        rw [List.length_map, List.take_length] at hp
        refine ⟨D1, tp, encS (compOf (deadT ds) z), rfl, sql_of eD1, paired_map (paired_mono (fun q n e => sqt_of e) hp), fun he nhe => ?_⟩
        rw [mergeK_new (by unfold encS; rw [List.nil_append, List.map_map]; exact List.Pairwise.map _ (fun a b h e => h (Sum.inr.inj e)) hcd), List.nil_append]
        have s89 := s78.trans sx
        have es9 := s89 _ _ es
        have nhs : he ≠ sd := fun y => by rw [y, es9] at nhe; cases nhe
        have s9a := same_upd (o := .dK (encS (compOf (deadT ds) z))) nhe
        refine ⟨sd, he, encS ks, encS (compOf (deadT ds) z), rfl, rfl, s9a _ _ es9, upd_same, Ne.symm nhs, by rw [List.length_map, List.length_map]; exact Nat.le_of_lt (smallM (by omega)), ?_⟩
        rw [merge_put]
        have wA : ∀ H', H' = upd (upd H9 he (.dK (encS (compOf (deadT ds) z)))) sd (.dK (encS (putAll ks (compOf (deadT ds) z)))) → (∀ b o, H4 b = some o → H' b = some o) ∧ H' sd = some (.dK (encS (putAll ks (compOf (deadT ds) z)))) ∧ (∀ b o, b ≠ sd → H6 b = some o → H' b = some o) ∧ H' sl = some (.lst ((compOf (deadT ds) z).map V.str)) := by
          rintro H' rfl
          refine ⟨fun b o e => ?_, upd_same, fun b o hb e => ?_, ?_⟩
          · rw [upd_ne (ne_of_none e nsd0)]
            exact s9a _ _ (s89 _ _ (s2 _ _ e))
          · rw [upd_ne hb]
            exact s9a _ _ (s89 _ _ e)
          · rw [upd_ne (ne_of (sx _ _ esl) es9 (fun z => nomatch z))]
            exact s9a _ _ (sx _ _ esl)
        obtain ⟨wa1, wa2, wa3, wa4⟩ := wA _ rfl
        generalize (upd (upd H9 he (.dK (encS (compOf (deadT ds) z)))) sd (.dK (encS (putAll ks (compOf (deadT ds) z))))) = Ha at wa1 wa2 wa3 wa4 ⊢
        clear wA s9a nhs es9 s89 hp nhe eD1 sx nD1 esl s78
        have eqa := wa3 _ _ npsd eq
        have hqa : Paired (PartT Ha) qs ps := paired_mono (fun q part e => wa3 _ _ (fun h => by rw [h] at e; have e : H6 sd = _ := e; rw [es] at e; cases e) e) hq
        show tDrop _ _ _ _
        refine ⟨.ref pa, rfl, .inl ⟨rfl, _, sql_of eqa⟩, .ref sl, rfl, sl, _, rfl, .inl ⟨sql_of wa4, fun pt npt => ?_⟩⟩
        have sb := same_upd (o := .tup ((compOf (deadT ds) z).map V.str)) npt
        have ept : (upd Ha pt (.tup ((compOf (deadT ds) z).map V.str))) pt = some (.tup ((compOf (deadT ds) z).map V.str)) := upd_same
        generalize (upd Ha pt (.tup ((compOf (deadT ds) z).map V.str))) = Hb at sb ept ⊢
        have eqb := sb _ _ eqa
        have hql : qs.length ≤ 40 := by rw [Paired.length hq]; omega
        refine ⟨pa, _, _, rfl, rfl, eqb, smallM (by rw [List.length_map]; omega), ?_⟩
        have nptpa : pt ≠ pa := ne_of ept eqb (fun z => nomatch z)
        refine ⟨_, _, rfl, fun b o e => ?_, ⟨qs ++ [pt], by rw [upd_same, List.map_append]; rfl, ?_⟩, putAll ks (compOf (deadT ds) z), ?_, fun u => ?_, putAll_nd hks, fun u hu => ?_⟩
        · rw [upd_ne (ne_of_none e npa)]
          exact sb _ _ (wa1 _ _ e)
        · rw [hst, hps]
          refine paired_snoc (F := PartT _) (by show (upd Hb pa _) pt = _; rw [upd_ne nptpa]; exact ept) (paired_mono (fun q part e => ?_) hqa)
          have e5 := sb _ _ (show Ha q = _ from e)
          show (upd Hb pa _) q = _
          rw [upd_ne (ne_of e5 eqb (fun z => nomatch z))]
          exact e5
        · rw [upd_ne (Ne.symm npsd)]
          exact sb _ _ wa2
        · rw [hst, hps, List.flatten_append, List.mem_append, putAll_mem, hmem u]
          simp
        · rcases putAll_mem.mp hu with a | a
          · exact hkn u a
          · exact hcn u a
    · rintro σ2 H6 ⟨o5, o6, rfl, s2, ⟨qs, eq, hq⟩, _⟩
      rw [List.length_map, List.take_length] at hq
      have hp := parts_in g.gr g.asc
      have hql : qs.length ≤ 40 := by
        rw [Paired.length hq]
        exact partsD_few hH hl
      have hq : Paired (PartT H6) qs (partsD ds) := hq
      obtain ⟨lz, hl1, hl2, hl3⟩ := zip_of hq
      have b1 : (lz.map fun x => (V.ref x.1, partD x.2)).map (·.1) = qs.map V.ref := by rw [List.map_map, ← hl1, List.map_map]; rfl
      have b2 : (lz.map fun x => (V.ref x.1, partD x.2)).map (·.2) = (partsD ds).map partD := by rw [List.map_map, ← hl2, List.map_map]; rfl
      refine ⟨.ref pa, rfl, pa, lz.map fun x => (V.ref x.1, partD x.2), rfl, by rw [b1]; exact sql_of eq, fun b hb => ?_, ?_, ?_, ?_, fun p1 np1 => ?_⟩
      · obtain ⟨x, hx, rfl⟩ := List.mem_map.mp hb
        exact ⟨.tup (sqt_of (hl3 x hx)) (dp_strs _), Nat.le_trans (depth_part _) (by decide)⟩
      · rw [b2]
        intro d hd d' hd'
        obtain ⟨p, _, rfl⟩ := List.mem_map.mp hd
        obtain ⟨p', _, rfl⟩ := List.mem_map.mp hd'
        exact alike_part p p'
      · rw [b2]
        refine .inl fun d hd => ?_
        obtain ⟨p, hp', rfl⟩ := List.mem_map.mp hd
        obtain ⟨u, _, _, r, hr'⟩ := hp.each p hp'
        rw [hr']
        exact ⟨.str u, r.map PyData.str, rfl⟩
      · rw [List.length_map]
        have : lz.length = qs.length := by rw [← hl1, List.length_map]
        rw [this]
        exact Nat.le_of_lt (smallM (by omega))
      · have em : (lz.map fun x => (V.ref x.1, partD x.2)).mergeSort (PySem.W.dataLe false (·.2)) = lz.map fun x => (V.ref x.1, partD x.2) := by
          refine List.mergeSort_of_pairwise ?_
          rw [List.pairwise_map]
          have ho := hp.ord
          have ho2 : (partsD ds).Pairwise _ := ho
          rw [← hl2, List.pairwise_map] at ho2
          refine ho2.imp fun {x y} ⟨a, r, b, r', ea, eb, hab⟩ => ?_
          rw [PySem.W.dataLe_eq]
          show (!PySem.W.dataLt (partD y.2) (partD x.2)) = true
          rw [ea, eb, dataLe_part hab]; rfl
        rw [em, b1]
        have s4' := same_upd (o := .lst (qs.map V.ref)) np1
        exact q p1 qs _ ((s14.trans s2).trans s4') ((s14.trans s2).free np1) upd_same (paired_mono (fun q part e => s4' _ _ e) hq)
end
end Hw

set_option Elab.async false
set_option linter.all false
set_option maxRecDepth 100000
set_option maxHeartbeats 4000000
namespace Hw
open PySem L2 PyProof.Rows
section
variable {P : Program} {w : World} {K : PySem.W.Frag} {mg : Str → Option Value} {base : Heap}
abbrev nLRims : List Str := ["deeds", "found", "part", "one", "dead"]
theorem scLRims : FnScope nLRims ["deeds"] (defScope sLRims) := ⟨rfl, rfl, rfl, by decide +kernel, rfl, by decide +kernel, by decide +kernel⟩
theorem ok_lrims {f fP fS : Addr} {fd fdP fdS : FuncData} {k : Nat} (F : Fun K "_law_rims_of" "_law_rims_of" sLRims f fd) (B : Blt mg) (B3 : Blt3 mg)
    (GP : FnOk P w K mg base CX0 k fP fdP ["deeds"] spLDead) (gP : mg "_law_dead_parts" = some (.ref fP)) (kP : PySem.W.keepIn K (.ref fP) = true) (bP : Binds K fdP ["deeds"] [])
    (GS : FnOk P w K mg base CX0 k fS fdS ["deeds"] spLSlots) (gS : mg "_law_slots_of" = some (.ref fS)) (kS : PySem.W.keepIn K (.ref fS) = true) (bS : Binds K fdS ["deeds"] []) :
    FnOk P w K mg base CX0 (k + 1) f fd ["deeds"] spLRims := by
  refine F.ok scLRims (fun vs H Q E h => ?_) (fun cdv A outer s H vs Q E hr h => ?_)
  · obtain ⟨l, ds, rfl, _⟩ := h
    rfl
  · obtain ⟨l, ds, rfl, hD, hH, hl, q⟩ := h
    have hu := hu_of hr
    have hu64 := hr.units
    refine ⟨_, pss_cons (ps_set (i := 1) scLRims.nd rfl (.inl rfl) (pe_lst pa_nil))
      (pss_cons (ps_for PassesOwn.never rfl (pi_list (pe_call GP hr (by rfl) gP kP bP .nil pass0 (pa_cons (pv 0) pa_nil))) (pg_name (i := 2) scLRims.nd rfl (.inr rfl))
        (pss_one (ps_expr (pe_bm PySem.F.plainAttrs_list PySem.F.slot_list_append PySem.F.type_list_append mt_append (pv 1) (pa_cons (pe_callTy call_tuple_of (by rfl) B3.tuple PyProof.Rows.boot_tuple (pa_cons (pe_callB (cr_sortT hu64) (by rfl) B3.sorted PyProof.Rows.boot_sorted (pa_cons (pe_callTy (call_listD rfl) (by rfl) B.list PyProof.Rows.boot_list (pa_cons (pe_callTy (call_dictP rfl) (by rfl) B3.dict PyProof.Rows.boot_dict (pa_cons
          (pe_lc (own := [("one", 3), ("dead", 4)]) (g := gTup K 2 (gCons (gName 3) (gCons (gName 4) gNil))) (tt := tTest (tOp (rIn K false) (tVar 4) (tVar 2))) rfl scLRims.nd (pi_list (pe_call GS hr (by rfl) gS kS bS .nil pass0 (pa_cons (pv 0) pa_nil)))
            (blkOk_by (N := nLRims) (sc := defScope sLRims) (by decide +kernel)) (fun _ _ _ _ _ => pg_tup rfl (pgs_cons (pg_name (i := 3) scLRims.nd rfl (Or.inl rfl)) (pgs_cons (pg_name (i := 4) scLRims.nd rfl (Or.inl rfl)) pgs_nil)))
            (fun _ _ _ _ _ => pts_one (pt_cmpR op_in_seq (pv 4) (pv 2) (by rfl))) (fun _ _ _ _ _ => pe_tup (pa_cons (pv 3) (pa_cons pe_bl pa_nil)))) pa_nil)) pa_nil)) pa_nil)) pa_nil)) pa_nil)))))
      (pss_one (ps_ret (pv 1)))), ?_⟩
    have hsf := slots_few hH hl
    have hpf := partsD_few hH hl
    refine rs_set ?_
    refine ⟨Nat.zero_le _, fun pa npa => ?_⟩
    have sa := same_upd (o := .lst []) npa
    have ea : (upd H pa (.lst [])) pa = some (.lst []) := upd_same
    generalize (upd H pa (.lst [])) = H0 at sa ea ⊢
    refine rs_listR (fun l2 xs H2 => ∃ qs : List Addr, xs = qs.map V.ref ∧ l2 ≠ pa ∧ Same H0 H2 ∧ H2 l2 = some (.lst xs) ∧ Paired (PartT H2) qs (partsD ds))
      (fun l2 xs H2 i σ' H' => ∃ (qs us : List Addr) (o2 : Option V), xs = qs.map V.ref ∧ l2 ≠ pa ∧ σ' = [some (.ref l), some (.ref pa), o2, none, none] ∧ Same H H' ∧ H' l2 = some (.lst xs) ∧ Paired (PartT H') qs (partsD ds) ∧ H' pa = some (.lst (us.map V.ref)) ∧ Paired (PartT H') us (((partsD ds).take i).map fun part => rimL part (sortP (slotsD ds))))
      (fun Q1 q1 => ?_) ?_ (fun l2 xs H2 i σ' H' ⟨_, _, _, _, _, _, _, e, _⟩ => sql_of e) ?_ ?_
    · exact ⟨.ref l, rfl, l, ds, rfl, hD.keep sa, hH, hl, fun p qs H2 s2 np ep hp => q1 p _ H2 ⟨qs, rfl, (fun z => by rw [z, ea] at np; cases np), s2, ep, hp⟩⟩
    · rintro l2 xs H2 ⟨qs, rfl, hlp, s2, el, hp⟩
      exact ⟨qs, [], _, rfl, hlp, rfl, sa.trans s2, el, hp, s2 _ _ ea, .nil⟩
    · rintro l2 xs H2 i v σ' H' _ hx ⟨qs, us, o2, rfl, hlp, rfl, sx, el, hp, eu, hus⟩
      obtain ⟨qd, hq, rfl⟩ := map_get hx
      obtain ⟨part, hpt, ept⟩ := paired_get hp hq
      have hul : us.length ≤ 40 := by
        rw [Paired.length hus, List.length_map, List.length_take]; omega
      have ept : H' qd = some (.tup (part.map V.str)) := ept
      refine r_gname ?_
      refine ⟨.ref pa, rfl, .inl ⟨rfl, _, sql_of eu⟩, ?_⟩
      refine ⟨.ref l, rfl, l, ds, rfl, hD.keep sx, hH, hl, fun sl sq H3 s3 nsl esl hsq => ⟨sl, rfl, ⟨_, sql_of esl⟩, fun D1 nD1 => lc_list (xs := sq.map V.ref) (fun j H'' => ∃ tp : List Addr, Same H3 H'' ∧ H'' D1 = some (.lst (tp.map V.ref)) ∧ Paired (fun q n => H'' q = some (.tup [.str n, .bl true])) tp ((((sortP (slotsD ds)).take j).filter fun t => decide (t.2 ∈ part)).map (·.1))) ⟨[], same_upd nD1, upd_same, .nil⟩ (fun j H'' _ ⟨_, w, _⟩ => sql_of (w _ _ esl)) ?_ ?_⟩⟩
      · rintro j v H4 hj ⟨tp, s4, eD1, hp4⟩
        obtain ⟨qj, hqj, rfl⟩ := map_get hj
        obtain ⟨t, ht, et⟩ := paired_get hsq hqj
        have et' : H4 qj = some (.tup [.str t.1, .str t.2]) := s4 _ _ et
        have ef : ((sortP (slotsD ds)).take (j + 1)).filter (fun t => decide (t.2 ∈ part)) = ((sortP (slotsD ds)).take j).filter (fun t => decide (t.2 ∈ part)) ++ if decide (t.2 ∈ part) = true then [t] else [] := filter_snoc ht
        have htp : tp.length ≤ 800 := by
          rw [Paired.length hp4, List.length_map]
          refine Nat.le_trans (List.length_filter_le _ _) ?_
          rw [List.length_take]; omega
        have hin : inV (.str t.2) (part.map V.str) = decide (t.2 ∈ part) := inV_str _ _
        refine ⟨qj, [.str t.1, .str t.2], rfl, sqt_of et', rfl, _, [.str t.2], rfl, _, [], rfl, rfl, rfl, ?_⟩
        refine ⟨.str t.2, rfl, .ref qd, rfl, qd, _, rfl, .inr (sqt_of (s4 _ _ (s3 _ _ ept))), rfl, strs_flat _, decide (t.2 ∈ part), congrArg V.bl hin, ?_⟩
        cases hb : decide (t.2 ∈ part) with
        | true =>
          show if true = true then _ else _
          rw [if_pos rfl]
          refine ⟨.str t.1, rfl, by show 2 ≤ sizeLine; decide, fun p np => ?_⟩
          have s2 := same_upd (o := .tup [.str t.1, .bl true]) np
          have npD : p ≠ D1 := fun y => by rw [y, eD1] at np; cases np
          refine ⟨_, s2 _ _ eD1, smallM (by rw [List.length_map]; omega), tp ++ [p], fun b o e => ?_, by rw [upd_same, List.map_append]; rfl, ?_⟩
          · rw [upd_ne (ne_of_none e nD1)]; exact s2 _ _ (s4 _ _ e)
          · rw [ef, hb, if_pos rfl, List.map_append]
            refine paired_snoc ?_ (paired_mono (fun q n e => ?_) hp4)
            · rw [upd_ne npD, upd_same]
            · rw [upd_ne (fun y => by rw [y, eD1] at e; cases e)]
              exact s2 _ _ e
        | false =>
          show if false = true then _ else _
          rw [if_neg Bool.false_ne_true]
          refine ⟨tp, s4, eD1, ?_⟩
          rw [ef, hb, if_neg Bool.false_ne_true, List.append_nil]
          exact hp4
      rintro H4 ⟨tp, s4, eD1, hp4⟩
      rw [List.length_map, Paired.length hsq, List.take_length] at hp4
      have hfl : (((sortP (slotsD ds)).filter fun t => decide (t.2 ∈ part)).map (·.1)).length ≤ 800 := by
        rw [List.length_map]
        exact Nat.le_trans (List.length_filter_le _ _) hsf
      have er : rimL part (sortP (slotsD ds)) = sortS (putAll [] (((sortP (slotsD ds)).filter fun t => decide (t.2 ∈ part)).map (·.1))) := rfl
      generalize ((sortP (slotsD ds)).filter fun t => decide (t.2 ∈ part)).map (·.1) = fl at hp4 hfl er ⊢
      refine ⟨D1, tp, fl.map fun z => ((Sum.inr z : Key), V.bl true), rfl, sql_of eD1, paired_map (paired_mono (fun q n e => sqt_of e) hp4), fun he nhe => ?_⟩
      have em : mergeK [] (fl.map fun z => ((Sum.inr z : Key), V.bl true)) = encS (putAll [] fl) := merge_put (l := fl) (ks := [])
      rw [em]
      have hpu : (putAll [] fl).length ≤ 800 := Nat.le_trans putAll_len (by rw [List.length_nil]; omega)
      generalize putAll [] fl = ks at hpu er ⊢
      have s5 := same_upd (o := .dK (encS ks)) nhe
      refine ⟨he, encS ks, rfl, .inl upd_same, fun ll nll => ?_⟩
      have ekeys : (encS ks).map (fun kv => kV kv.1) = ks.map V.str := by
        unfold encS
        rw [List.map_map]; rfl
      rw [ekeys]
      have s6 := same_upd (o := .lst (ks.map V.str)) nll
      refine ⟨ll, ks, rfl, sql_of upd_same, Nat.le_of_lt (smallM (by omega)), fun so nso => ?_⟩
      rw [← er]
      have s7 := same_upd (o := .lst ((rimL part (sortP (slotsD ds))).map V.str)) nso
      refine ⟨so, _, rfl, .inl ⟨sql_of upd_same, fun pt npt => ?_⟩⟩
      have s8 := ((((s3.trans s4).trans s5).trans s6).trans s7).trans (same_upd (o := .tup ((rimL part (sortP (slotsD ds))).map V.str)) npt)
      have ep8 : (upd (upd (upd (upd H4 he (.dK (encS ks))) ll (.lst (ks.map V.str))) so (.lst ((rimL part (sortP (slotsD ds))).map V.str))) pt (.tup ((rimL part (sortP (slotsD ds))).map V.str))) pt = some (.tup ((rimL part (sortP (slotsD ds))).map V.str)) := upd_same
      generalize (upd (upd (upd (upd H4 he (.dK (encS ks))) ll (.lst (ks.map V.str))) so (.lst ((rimL part (sortP (slotsD ds))).map V.str))) pt (.tup ((rimL part (sortP (slotsD ds))).map V.str))) = H8 at s8 ep8 ⊢
      have eu8 := s8 _ _ eu
      have nptpa : pt ≠ pa := ne_of ep8 eu8 (fun z => nomatch z)
      refine ⟨pa, _, _, rfl, rfl, eu8, smallM (by rw [List.length_map]; omega), ?_⟩
      refine ⟨qs, us ++ [pt], _, rfl, hlp, rfl, fun b o e => ?_, ?_, paired_mono (fun q t e => ?_) hp, by rw [upd_same, List.map_append]; rfl, ?_⟩
      · rw [upd_ne (ne_of_none e npa)]
        exact s8 _ _ (sx _ _ e)
      · rw [upd_ne hlp]; exact s8 _ _ el
      · have e5 := s8 _ _ (show H' q = _ from e)
        show (upd H8 pa _) q = _
        rw [upd_ne (ne_of e5 eu8 (fun z => nomatch z))]
        exact e5
      · rw [take_snoc hpt, List.map_append]
        refine paired_snoc (F := PartT _) (by show (upd H8 pa _) pt = _; rw [upd_ne nptpa]; exact ep8) (paired_mono (fun q t e => ?_) hus)
        have e5 := s8 _ _ (show H' q = _ from e)
        show (upd H8 pa _) q = _
        rw [upd_ne (ne_of e5 eu8 (fun z => nomatch z))]
        exact e5
    · rintro l2 xs H2 σ' H3 _ ⟨qs, us, o2, rfl, hlp, rfl, sx, el, hp, eu, hus⟩
      have e0 : (qs.map V.ref).length = (partsD ds).length := by rw [List.length_map]; exact Paired.length hp
      rw [e0, List.take_length] at hus
      exact ⟨_, rfl, q pa us H3 sx npa eu hus⟩
end
end Hw

set_option Elab.async false
set_option linter.all false
set_option maxRecDepth 100000
set_option maxHeartbeats 4000000
namespace Hw
open PySem L2 PyProof.Rows
abbrev sRight : Stmt := topS 64
abbrev sLaw : Stmt := topS 65
theorem dp_parts {K : PySem.W.Frag} {H : Hp} : ∀ {qs : List Addr} {ps : List (List Str)}, Paired (PartT H) qs ps → DpAll K H (qs.map V.ref) (ps.map partD)
  | _, _, .nil => .nil
  | _, _, .cons a t => .cons (.tup (sqt_of a) (dp_strs _)) (dp_parts t)
theorem dp_ties7 {K : PySem.W.Frag} {H : Hp} : ∀ {qs : List Addr} {ts : List Tie}, Paired (TieL H) qs ts → DpAll K H (qs.map V.ref) (ts.map tieD)
  | _, _, .nil => .nil
  | _, _, .cons a t => .cons (.tup (sqt_of a) (.cons (.str _) (.cons (.str _) .nil))) (dp_ties7 t)
theorem tame_part {part : List Str} (nm : ∀ z ∈ part, Nm z) (hl : part.length ≤ 800) : Tame 7200 (partD part) := by
  have t := (tame_tup (w := 8) (ds := part.map PyData.str) fun d hd => by
    obtain ⟨z, hz, rfl⟩ := List.mem_map.mp hd
    exact ⟨tame_str (nm z hz), by rw [PyData.depth]; decide⟩).1
  rw [List.length_map] at t
  exact t.mono (by omega)
theorem tame_parts {ps : List (List Str)} (hp : ∀ part ∈ ps, part.length ≤ 800 ∧ ∀ z ∈ part, Nm z) (hl : ps.length ≤ 40) : Tame 300000 (.tuple (ps.map partD)) := by
  have t := (tame_tup (w := 7200) (ds := ps.map partD) fun d hd => by
    obtain ⟨part, h, rfl⟩ := List.mem_map.mp hd
    exact ⟨tame_part (hp part h).2 (hp part h).1, Nat.le_trans (depth_part _) (by decide)⟩).1
  rw [List.length_map] at t
  exact t.mono (by omega)
theorem depth_tie7 (t : Tie) : (tieD t).depth ≤ 1 := by
  unfold tieD
  simp [PyData.depth, PyData.depthAll]
theorem tame_tie7 {t : Tie} (h1 : Nm t.1) (h2 : Nm t.2) : Tame 18 (tieD t) :=
  (tame_tup (w := 8) (ds := [.str t.1, .str t.2]) fun d hd => by
    simp only [List.mem_cons, List.not_mem_nil, or_false] at hd
    rcases hd with rfl | rfl
    · exact ⟨tame_str h1, by rw [PyData.depth]; decide⟩
    · exact ⟨tame_str h2, by rw [PyData.depth]; decide⟩).1
theorem tame_ties7 {ts : List Tie} (h : ∀ t ∈ ts, Nm t.1 ∧ Nm t.2) (hl : ts.length ≤ 1000) : Tame 20000 (.tuple (ts.map tieD)) := by
  have t := (tame_tup (w := 18) (ds := ts.map tieD) fun d hd => by
    obtain ⟨t, ht, rfl⟩ := List.mem_map.mp hd
    exact ⟨tame_tie7 (h t ht).1 (h t ht).2, Nat.le_trans (depth_tie7 t) (by decide)⟩).1
  rw [List.length_map] at t
  exact t.mono (by omega)
theorem depth_ties7 (ts : List Tie) : (PyData.tuple (ts.map tieD)).depth ≤ 2 := by
  rw [PyData.depth]
  have := depthAll_le (m := 1) (ds := ts.map tieD) fun d hd => by
    obtain ⟨t, _, rfl⟩ := List.mem_map.mp hd
    exact depth_tie7 t
  omega
def webD (ns : List Str) (ts : List Tie) : PyData := .tuple [partD ns, .tuple (ts.map tieD)]
theorem tame_web {ns : List Str} {ts : List Tie} (h1 : ∀ z ∈ ns, Nm z) (h2 : ∀ t ∈ ts, Nm t.1 ∧ Nm t.2) (l1 : ns.length ≤ 800) (l2 : ts.length ≤ 1000) : Tame 50000 (webD ns ts) := by
  refine ((tame_tup (w := 20000) (ds := [partD ns, .tuple (ts.map tieD)]) fun d hd => ?_).1).mono (by show 2 * 20001 ≤ _; decide)
  simp only [List.mem_cons, List.not_mem_nil, or_false] at hd
  rcases hd with rfl | rfl
  · exact ⟨(tame_part h1 l1).mono (by decide), Nat.le_trans (depth_part _) (by decide)⟩
  · exact ⟨tame_ties7 h2 l2, Nat.le_trans (depth_ties7 ts) (by decide)⟩
theorem dp_web {K : PySem.W.Frag} {H : Hp} {t p q : Addr} {ns : List Str} {ts : List Tie} {us : List Addr} (e : H t = some (.tup [.ref p, .ref q])) (e1 : H p = some (.tup (ns.map V.str))) (e2 : H q = some (.tup (us.map V.ref))) (e3 : Paired (TieL H) us ts) : Dp K H (.ref t) (webD ns ts) :=
  .tup (sqt_of e) (.cons (.tup (sqt_of e1) (dp_strs _)) (.cons (.tup (sqt_of e2) (dp_ties7 e3)) .nil))
theorem sortP_mem7 {ts : List Tie} {t : Tie} : t ∈ sortP ts ↔ t ∈ ts := (sortP_perm _).mem_iff
theorem Hist.elder_nm {ds : List Deed} (h : Hist ds) {t : Tie} (ht : t ∈ elderT ds) : Nm t.1 ∧ Nm t.2 := ⟨h.nm _ (h.elder_came t ht).1, h.nm _ (h.elder_came t ht).2⟩
theorem slotT_in {ds : List Deed} {t u : Tie} (h : u ∈ slotT ds t) : u = t ∨ u = (t.2, t.1) := by
  unfold slotT at h
  rcases List.mem_append.mp h with h | h
  · by_cases c : t.1 ∈ liv ds ∧ t.2 ∉ liv ds
    · rw [if_pos c] at h; exact .inl (List.mem_singleton.mp h)
    · rw [if_neg c] at h; cases h
  · by_cases c : t.2 ∈ liv ds ∧ t.1 ∉ liv ds
    · rw [if_pos c] at h; exact .inr (List.mem_singleton.mp h)
    · rw [if_neg c] at h; cases h
theorem Hist.slots_nm {ds : List Deed} (h : Hist ds) {t : Tie} (ht : t ∈ sortP (slotsD ds)) : Nm t.1 ∧ Nm t.2 := by
  obtain ⟨u, hu, e⟩ := List.mem_flatMap.mp (sortP_mem7.mp ht)
  have hn := h.elder_nm (sortP_mem7.mp hu)
  rcases slotT_in e with rfl | rfl
  · exact hn
  · exact ⟨hn.2, hn.1⟩
theorem parts_mem7 {ts : List Tie} : ∀ {l : List Str} {acc : List (List Str)} {part : List Str}, part ∈ l.foldl (pstep ts) acc → part ∈ acc ∨ ∃ z ∈ l, part = compOf ts z
  | [], _, _, h => .inl h
  | x :: l, acc, part, h => by
    rcases parts_mem7 (l := l) (acc := pstep ts acc x) h with h | ⟨z, hz, e⟩
    · unfold pstep at h
      by_cases c : x ∈ acc.flatten
      · rw [if_pos c] at h
        exact .inl h
      · rw [if_neg c] at h
        rcases List.mem_append.mp h with h | h
        · exact .inl h
        · exact .inr ⟨x, List.mem_cons_self, List.mem_singleton.mp h⟩
    · exact .inr ⟨z, List.mem_cons_of_mem _ hz, e⟩
theorem Hist.parts_ok {ds : List Deed} (h : Hist ds) (hl : ds.length ≤ 40) : ∀ part ∈ partsD ds, part.length ≤ 800 ∧ ∀ z ∈ part, Nm z := by
  intro part hp
  have own := h.ownDead hl
  have g := own.good
  have hdl := dead_le ds
  rcases parts_mem7 hp with hp | ⟨z, hz, rfl⟩
  · cases hp
  · refine ⟨?_, fun y hy => own.nm y (((mem_comp g.gr hz).mp hy).within g.gr hz)⟩
    obtain ⟨far, hb, n0, fk⟩ := bfs_ex g.gr.nbs hz
    rw [comp_eq hb, (sortS_perm _).length_eq, List.length_map]
    have h2 : far.length ≤ (sortS (deadD ds)).length := fk.few
    omega
theorem Hist.rims_ok {ds : List Deed} (h : Hist ds) (hl : ds.length ≤ 40) : ∀ part ∈ rimsD ds, part.length ≤ 800 ∧ ∀ z ∈ part, Nm z := by
  intro r hr
  obtain ⟨part, _, rfl⟩ := List.mem_map.mp hr
  have hsf := slots_few h hl
  refine ⟨?_, fun z hz => ?_⟩
  · show (sortS _).length ≤ 800
    rw [(sortS_perm _).length_eq]
    refine Nat.le_trans putAll_len ?_
    rw [List.length_nil, List.length_map]
    have := List.length_filter_le (fun t => decide (t.2 ∈ part)) (sortP (slotsD ds))
    omega
  · have hz := (sortS_perm _).mem_iff.mp hz
    rcases putAll_mem.mp hz with e | e
    · cases e
    · obtain ⟨t, ht, rfl⟩ := List.mem_map.mp e
      exact (h.slots_nm (List.mem_filter.mp ht).1).1
def spRight : Sp := fun vs H Q _ => ∃ (a : Addr) (N : Nat), vs = [.ref a] ∧ Pot H a N ∧ N < 100000000 ∧ ∀ H', SameX a H H' → Pot H' a (N + 10000) → Q (.bl true) H'
def At7 (a dl : Addr) (ds : List Deed) (M : Nat) (H0 H : Hp) : Prop := SameX a H0 H ∧ Pot H a M ∧ DeedsAt H dl ds
theorem At7.keep {a dl : Addr} {ds : List Deed} {M : Nat} {H0 H H' : Hp} (w : At7 a dl ds M H0 H) (s : Same H H') : At7 a dl ds M H0 H' := ⟨w.1.trans (.of s), w.2.1.same s, w.2.2.keep s⟩
theorem At7.sx {a dl : Addr} {ds : List Deed} {M M' : Nat} {H0 H H' : Hp} (w : At7 a dl ds M H0 H) (s : SameX a H H') (p : Pot H' a M') : At7 a dl ds M' H0 H' := ⟨w.1.trans s, p, w.2.2.sx w.2.1 s⟩
section
variable {P : Program} {w : World} {K : PySem.W.Frag} {mg : Str → Option Value} {base : Heap}
abbrev nRight : List Str := ["pot", "deeds", "many", "part", "history", "elder", "web"]
theorem scRight : FnScope nRight ["pot"] (defScope sRight) := ⟨rfl, rfl, rfl, by decide +kernel, rfl, by decide +kernel, by decide +kernel⟩
theorem ok_right {f fT fO fH fX fE fW fS fD fR fLS fLD fLR fI C CW : Addr} {fd fdT fdO fdH fdX fdE fdW fdS fdD fdR fdLS fdLD fdLR fdI : FuncData} {k j : Nat} (hj : j + 1 ≤ k) (F : Fun K "_law_right" "_law_right" sRight f fd) (B : Blt mg) (B3 : Blt3 mg) (br : mg "repr" = none) (T : TxtH K mg C) (TW : TxtW K mg CW) (M : Mk K C fI) (Cq : ClsQ K mg CW)
    (GT : FnOk P w K mg base CX0 k fT fdT ["pot", "upto"] spTake) (gT : mg "_law_take" = some (.ref fT)) (kT : PySem.W.keepIn K (.ref fT) = true) (bT : Binds K fdT ["pot", "upto"] [])
    (GO : FnOk P w K mg base CX0 k fO fdO ["pot", "some"] (spOf2 K)) (gO : mg "_law_of" = some (.ref fO)) (kO : PySem.W.keepIn K (.ref fO) = true) (bO : Binds K fdO ["pot", "some"] [])
    (GH : FnOk P w K mg base CX0 k fH fdH ["pot", "places", "more", "wood"] spHist) (gH : mg "_law_history" = some (.ref fH)) (kH : PySem.W.keepIn K (.ref fH) = true) (bH : Binds K fdH ["pot", "places", "more", "wood"] [])
    (GX : FnOk P w K mg base CX0 k fX fdX ["deeds"] spHText) (gX : mg "_law_history_text" = some (.ref fX)) (kX : PySem.W.keepIn K (.ref fX) = true) (bX : Binds K fdX ["deeds"] [])
    (GE : FnOk P w K mg base CX0 k fE fdE ["deeds"] spElder) (gE : mg "_law_elder" = some (.ref fE)) (kE : PySem.W.keepIn K (.ref fE) = true) (bE : Binds K fdE ["deeds"] [])
    (GW : FnOk P w K mg base CX0 k fW fdW ["history"] (spElWeb C CW)) (gW : mg "elder_web" = some (.ref fW)) (kW : PySem.W.keepIn K (.ref fW) = true) (bW : KBinds K fdW ["history"] ["history"] gSame gVSame)
    (GS : FnOk P w K mg base CX0 k fS fdS ["history"] (spSlots C)) (gS : mg "slots" = some (.ref fS)) (kS : PySem.W.keepIn K (.ref fS) = true) (bS : KBinds K fdS ["history"] ["history"] gSame gVSame)
    (GD : FnOk P w K mg base CX0 k fD fdD ["history"] (spDeadP C)) (gD : mg "dead_parts" = some (.ref fD)) (kD : PySem.W.keepIn K (.ref fD) = true) (bD : KBinds K fdD ["history"] ["history"] gSame gVSame)
    (GR : FnOk P w K mg base CX0 k fR fdR ["history"] (spRims C)) (gR : mg "rims" = some (.ref fR)) (kR : PySem.W.keepIn K (.ref fR) = true) (bR : KBinds K fdR ["history"] ["history"] gSame gVSame)
    (GLS : FnOk P w K mg base CX0 k fLS fdLS ["deeds"] spLSlots) (gLS : mg "_law_slots_of" = some (.ref fLS)) (kLS : PySem.W.keepIn K (.ref fLS) = true) (bLS : Binds K fdLS ["deeds"] [])
    (GLD : FnOk P w K mg base CX0 k fLD fdLD ["deeds"] spLDead) (gLD : mg "_law_dead_parts" = some (.ref fLD)) (kLD : PySem.W.keepIn K (.ref fLD) = true) (bLD : Binds K fdLD ["deeds"] [])
    (GLR : FnOk P w K mg base CX0 k fLR fdLR ["deeds"] spLRims) (gLR : mg "_law_rims_of" = some (.ref fLR)) (kLR : PySem.W.keepIn K (.ref fLR) = true) (bLR : Binds K fdLR ["deeds"] [])
    (GI : FnOk P w K mg base CX0 j fI fdI ["self", "text"] (spInitH C)) (bI : Binds K fdI ["self", "text"] []) :
    FnG P w K mg base CX0 (k + 1) f fd ["pot"] spRight := by
  refine funG F scRight (fun vs H Q E h => ?_) (fun cdv A outer s H vs Q E hg h => ?_)
  · obtain ⟨a, N, rfl, _⟩ := h
    rfl
  · obtain ⟨a, N, rfl, hP, hN, q⟩ := h
    have hr := hg.r
    have hu := hu_of hr
    have hrj := hr.mono hj
    have hun := hr.un
    have hgg := hg.g
    have h100 : (A.deeper (envOfC "_law_right" (defScope sRight) s.heap.objs.size f cdv)).units + 100 < cLine := by omega
    refine ⟨_, pss_cons (ps_set (i := 1) scRight.nd rfl (.inl rfl) (pe_call GH hr (by rfl) gH kH bH .nil pass0 (pa_cons (pv 0) (pa_cons (pe_call GO hr (by rfl) gO kO bO .nil pass0 (pa_cons (pv 0) (pa_cons (pe_lst (pa_cons pe_int (pa_cons pe_int (pa_cons pe_int pa_nil)))) pa_nil)))
          (pa_cons (pe_call GO hr (by rfl) gO kO bO .nil pass0 (pa_cons (pv 0) (pa_cons (pe_lst (pa_cons pe_int (pa_cons pe_int pa_nil))) pa_nil))) (pa_cons (pe_cmpR op_eq (pe_call GT hr (by rfl) gT kT bT .nil pass0 (pa_cons (pv 0) (pa_cons pe_int pa_nil))) pe_int (nomark _)) pa_nil))))))
      (pss_cons (ps_for PassesOwn.never rfl (pi_tup (pe_tup (pa_cons (pe_callB call_len_seq (by rfl) B.len PySem.boot_len (pa_cons (pv 1) pa_nil)) (pa_cons (pe_call GT hr (by rfl) gT kT bT .nil pass0 (pa_cons (pv 0) (pa_cons (pe_op op_add (pe_callB call_len_seq (by rfl) B.len PySem.boot_len (pa_cons (pv 1) pa_nil)) pe_int) pa_nil))) pa_nil)))) (pg_name (i := 2) scRight.nd rfl (.inl rfl))
        (pss_cons (ps_set (i := 3) scRight.nd rfl (.inl rfl) (pe_slice sl_list (pv 1) po_none (po_some (pv 2))))
        (pss_cons (ps_par (i := 4) (j := 5) rfl scRight.nd rfl rfl (by decide) rfl rfl (pa_cons (pe_make M GI hrj (by rfl) T.mH bI .nil pass0 (pa_cons (pe_call GX hr (by rfl) gX kX bX .nil pass0 (pa_cons (pv 3) pa_nil)) pa_nil)) (pa_cons (pe_call GE hr (by rfl) gE kE bE .nil pass0 (pa_cons (pv 3) pa_nil)) pa_nil)) rfl)
        (pss_cons (ps_set (i := 6) scRight.nd rfl (.inl rfl) (pe_callK0 GW hr (by rfl) gW kW bW pass0 (pk_cons (pv 4) pk_nil)))
        (pss_cons (ps_if (PW.pt (pw_or (pt_not (pt_val (pe_callB call_isi (by rfl) B3.isi PyProof.Rows.boot_isinstance (pa_cons (pv 6) (pa_cons (pe_glob (v := .ref CW) (by rfl) TW.mW rfl) pa_nil)))))
            (pw_or1 (pt_cmpR op_ne (pe_callB (call_repr hgg h100) (by rfl) br PyProof.Rows.boot_repr (pa_cons (pe_tup (pa_cons (pe_fld (pv 6) rfl) (pa_cons (pe_fld (pv 6) rfl) pa_nil))) pa_nil))
              (pe_callB (call_repr hgg h100) (by rfl) br PyProof.Rows.boot_repr (pa_cons (pe_tup (pa_cons (pe_callTy call_tuple_of (by rfl) B3.tuple PyProof.Rows.boot_tuple (pa_cons (pe_ix ix_tup (pv 5) pe_int (fun _ _ => rfl)) pa_nil)) (pa_cons (pe_callTy call_tuple_of (by rfl) B3.tuple PyProof.Rows.boot_tuple (pa_cons (pe_ix ix_tup (pv 5) pe_int (fun _ _ => rfl)) pa_nil)) pa_nil))) pa_nil)) (nomark _))))) (pss_one (ps_ret pe_bl)) pss_nil)
        (pss_cons (ps_if (pt_cmpR op_ne (pe_callB (call_repr hgg h100) (by rfl) br PyProof.Rows.boot_repr (pa_cons (pe_callK0 GS hr (by rfl) gS kS bS pass0 (pk_cons (pv 4) pk_nil)) pa_nil))
            (pe_callB (call_repr hgg h100) (by rfl) br PyProof.Rows.boot_repr (pa_cons (pe_callTy call_tuple_of (by rfl) B3.tuple PyProof.Rows.boot_tuple (pa_cons (pe_call GLS hr (by rfl) gLS kLS bLS .nil pass0 (pa_cons (pv 3) pa_nil)) pa_nil)) pa_nil)) (nomark _)) (pss_one (ps_ret pe_bl)) pss_nil)
        (pss_cons (ps_if (pt_cmpR op_ne (pe_callB (call_repr hgg h100) (by rfl) br PyProof.Rows.boot_repr (pa_cons (pe_callK0 GD hr (by rfl) gD kD bD pass0 (pk_cons (pv 4) pk_nil)) pa_nil))
            (pe_callB (call_repr hgg h100) (by rfl) br PyProof.Rows.boot_repr (pa_cons (pe_callTy call_tuple_of (by rfl) B3.tuple PyProof.Rows.boot_tuple (pa_cons (pe_call GLD hr (by rfl) gLD kLD bLD .nil pass0 (pa_cons (pv 3) pa_nil)) pa_nil)) pa_nil)) (nomark _)) (pss_one (ps_ret pe_bl)) pss_nil)
        (pss_one (ps_if (pt_cmpR op_ne (pe_callB (call_repr hgg h100) (by rfl) br PyProof.Rows.boot_repr (pa_cons (pe_callK0 GR hr (by rfl) gR kR bR pass0 (pk_cons (pv 4) pk_nil)) pa_nil))
            (pe_callB (call_repr hgg h100) (by rfl) br PyProof.Rows.boot_repr (pa_cons (pe_callTy call_tuple_of (by rfl) B3.tuple PyProof.Rows.boot_tuple (pa_cons (pe_call GLR hr (by rfl) gLR kLR bLR .nil pass0 (pa_cons (pv 3) pa_nil)) pa_nil)) pa_nil)) (nomark _)) (pss_one (ps_ret pe_bl)) pss_nil)))))))))
      (pss_one (ps_ret pe_bl))), ?_⟩
    refine rs_set ?_
    refine ⟨.ref a, rfl, .ref a, rfl, by show 3 ≤ sizeLine; decide, fun l1 n1 => .inl ⟨a, l1, [.int 4, .int 10, .int 18], N, rfl, hP.same (same_upd n1), by omega, sql_of upd_same, fun e => hP.some (e ▸ n1), by decide, by decide, fun ix v H2 hv s2 hp2 => ?_⟩⟩
    obtain ⟨pl, rfl, pl1, pl2⟩ : ∃ m : Nat, v = .int m ∧ 2 ≤ m ∧ m ≤ 18 := by
      have := List.mem_of_getElem? hv
      simp only [List.mem_cons, List.not_mem_nil, or_false] at this
      rcases this with rfl | rfl | rfl
      · exact ⟨4, rfl, by decide, by decide⟩
      · exact ⟨10, rfl, by decide, by decide⟩
      · exact ⟨18, rfl, by decide, by decide⟩
    refine ⟨.ref a, rfl, by show 2 ≤ sizeLine; decide, fun l2 n2 => .inl ⟨a, l2, [.int 6, .int 16], N + 1, rfl, hp2.same (same_upd n2), by omega, sql_of upd_same, fun e => hp2.some (e ▸ n2), by decide, by decide, fun ix2 v2 H3 hv2 s3 hp3 => ?_⟩⟩
    obtain ⟨mo, rfl, mo2⟩ : ∃ m : Nat, v2 = .int m ∧ m ≤ 16 := by
      have := List.mem_of_getElem? hv2
      simp only [List.mem_cons, List.not_mem_nil, or_false] at this
      rcases this with rfl | rfl
      · exact ⟨6, rfl, by decide⟩
      · exact ⟨16, rfl, by decide⟩
    refine ⟨.ref a, rfl, a, 3, _, rfl, hp3, by omega, by decide, by decide, fun r H4 r0 r1 s4 hp4 => ⟨rfl, ?_⟩⟩
    generalize decide (V.int r = V.int 0) = wd
    refine ⟨a, pl, mo, wd, _, rfl, hp4, by omega, by omega, by omega, by omega, fun dl ds H5 hist hlen hwood hdeeds s5 hp5 => ?_⟩
    have sx5 : SameX a H H5 := (SameX.of (same_upd n1)).trans (s2.trans ((SameX.of (same_upd n2)).trans (s3.trans (s4.trans s5))))
    have hl40 : ds.length ≤ 40 := by omega
    have w5 : At7 a dl ds (N + 5000) H H5 := ⟨sx5, hp5.mono (by omega), hdeeds⟩
    clear n1 s2 hp2 n2 s3 hp3 s4 hp4 s5 hp5 hv hv2 hwood hdeeds sx5
    refine rs_tupR (fun t xs H' => ∃ m : Nat, m ≤ ds.length ∧ At7 a dl ds (N + 5001) H H' ∧ H' t = some (.tup xs) ∧ xs = [.int (ds.length : Nat), .int (m : Nat)])
      (fun t xs H1 i σ' H' => ∃ o2 o3 o4 o5 o6, σ' = [some (.ref a), some (.ref dl), o2, o3, o4, o5, o6] ∧ At7 a dl ds (N + 5001) H H' ∧ H' t = some (.tup xs))
      (fun Q1 q1 => ?_) (fun t xs H1 ⟨m, _, w1, e1, _⟩ => ⟨_, _, _, _, _, rfl, w1, e1⟩) (fun t xs H1 i σ' H' ⟨_, _, _, _, _, _, _, e1⟩ => sqt_of e1) ?_ ?_
    · obtain ⟨qs, ed, dd⟩ := id w5.2.2
      have hql : (qs.map V.ref).length = ds.length := by rw [List.length_map]; exact Paired.length dd
      refine ⟨.ref dl, rfl, dl, _, rfl, .inl (sql_of ed), .ref a, rfl, .ref dl, rfl, dl, _, rfl, .inl (sql_of ed), _, _, rfl, rfl, a, _, _, rfl, w5.2.1, by omega, by omega, by omega, fun r9 H10 r0 r1 s10 hp10 => ⟨by show 2 ≤ sizeLine; decide, fun t nt => ?_⟩⟩
      obtain ⟨m, rfl⟩ : ∃ m : Nat, r9 = (m : Int) := ⟨r9.toNat, by omega⟩
      have hm : m ≤ ds.length := by rw [hql] at r1; omega
      have w10 := (w5.sx s10 hp10).keep (same_upd (o := .tup [.int (ds.length : Nat), .int (m : Nat)]) nt)
      rw [hql]
      exact q1 t _ _ ⟨m, hm, w10, upd_same, rfl⟩
    · rintro t xs H1 i v σ' H' ⟨m, hm, _, _, exs⟩ hv ⟨o2, o3, o4, o5, o6, rfl, w1, e1⟩
      subst exs
      obtain ⟨n, rfl, hn⟩ : ∃ n : Nat, v = .int (n : Nat) ∧ n ≤ ds.length := by
        have := List.mem_of_getElem? hv
        simp only [List.mem_cons, List.not_mem_nil, or_false] at this
        rcases this with rfl | rfl
        · exact ⟨_, rfl, Nat.le_refl _⟩
        · exact ⟨_, rfl, hm⟩
      refine r_gname ?_
      refine rs_set ?_
      obtain ⟨qs, ed, dd⟩ := id w1.2.2
      refine ⟨.ref dl, rfl, _, rfl, _, rfl, dl, _, rfl, sql_of ed, fun c nc => ?_⟩
      rw [cut_to]
      have tc := same_upd (o := .lst ((qs.map V.ref).take n)) nc
      have dc := deeds_take ed dd n nc
      have w2 := w1.keep tc
      have e2 := tc _ _ e1
      have hP := hist.take n
      have hlP : (ds.take n).length ≤ 40 := by rw [List.length_take]; omega
      generalize (upd H' c (.lst ((qs.map V.ref).take n))) = H2 at dc w2 e2 ⊢
      generalize ds.take n = part at dc hP hlP ⊢
      clear tc nc e1 w1 ed dd
      refine rs_par ?_
      refine ⟨.ref c, rfl, c, part, rfl, dc, hP, by omega, fun H5 s5 => fun x dx nx ndx ndxx => ?_⟩
      refine ⟨x, dx, part, rfl, hP, by omega, upd_same, fun H6 wx s6 => ⟨rfl, ?_⟩⟩
      have s56 : Same H5 H6 := fun b o e => by
        have m1 := ne_of_none e nx
        have m2 := ne_of_none e ndx
        refine s6 _ _ m1 ?_
        rw [upd_ne m1, upd_ne m2]; exact e
      have s26 := s5.trans s56
      have dc6 := dc.keep s26
      clear s5 s6 s56 nx ndx ndxx dc
      refine ⟨.ref c, rfl, c, part, rfl, dc6, hP, by omega, fun ep H7 s7 np wel => ⟨_, _, rfl, ?_⟩⟩
      have s27 := s26.trans s7
      have dc7 := dc6.keep s7
      have wx7 := wx.keep s7
      clear s7 s26 dc6 wx np
      refine rs_set ?_
      refine ⟨.ref x, rfl, x, part, rfl, wx7, hlP, fun y H8 wy s8 => ?_⟩
      have s28 := s27.trans s8
      have dc8 := dc7.keep s8
      have wx8 := wx7.keep s8
      obtain ⟨pl0, tl0, tq0, v1, v2, v3, v4⟩ := elder_at wel
      have v1 := s8 _ _ v1
      have v2 := s8 _ _ v2
      have v3 := s8 _ _ v3
      have v4 : Paired (TieL H8) tq0 (sortP (elderT part)) := paired_mono (fun q t e => s8 _ _ e) v4
      clear wel s27 s8 dc7 wx7
      obtain ⟨⟨dy, yp, yt, yd, yf, y1, ⟨y2, yq, y3, y4⟩, _⟩, _⟩ := id wy
      have hce := hP.few1000 hlP
      have hcm := came_len part
      have tw := tame_web (ns := sortS (cameD part)) (ts := sortP (elderT part)) (fun z hz => hP.nm z ((sortS_perm _).mem_iff.mp hz)) (fun t ht => hP.elder_nm (sortP_mem7.mp ht)) (by rw [(sortS_perm _).length_eq]; omega) (by rw [(sortP_perm _).length_eq]; omega)
      -- the web
      refine rs_no ?_
      refine ⟨.ref y, rfl, .ref y, .ref CW, .ref CW, .ref CW, true, rfl, .own _, .base (.ins y1 TW.cl Cq.ha Cq.hn Cq.htk Cq.hm), kit_same, true, rfl, ?_⟩
      refine ⟨.ref y, rfl, y, CW, dy, _, _, rfl, y1, TW.cl, TW.nP, wfl_places _ _ _ _, .ref y, rfl, y, CW, dy, _, _, rfl, y1, TW.cl, TW.nI, wfl_ties _ _ _ _, by show 2 ≤ sizeLine; decide, fun t5 n5 => ?_⟩
      have s9 := same_upd (o := .tup [.ref yp, .ref yt]) n5
      refine ⟨.ref t5, webD (sortS (cameD part)) (sortP (elderT part)), rfl, .inl (dp_web upd_same (s9 _ _ y2) (s9 _ _ y3) (paired_mono (fun q t e => s9 _ _ e) y4)), tw.sh, Nat.le_trans tw.dp (by decide), tw.len (by decide), ?_⟩
      refine ⟨.ref ep, rfl, ep, [.ref pl0, .ref tl0], 0, .ref pl0, rfl, rfl, sqt_of (s9 _ _ v1), rfl, pl0, _, rfl, .inl ⟨sql_of (s9 _ _ v2), fun t6 n6 => ?_⟩⟩
      have s10 := s9.trans (same_upd (o := .tup ((sortS (cameD part)).map V.str)) n6)
      have e6 : (upd (upd H8 t5 (.tup [.ref yp, .ref yt])) t6 (.tup ((sortS (cameD part)).map V.str))) t6 = some (.tup ((sortS (cameD part)).map V.str)) := upd_same
      generalize (upd (upd H8 t5 (.tup [.ref yp, .ref yt])) t6 (.tup ((sortS (cameD part)).map V.str))) = H10 at s10 e6 ⊢
      refine ⟨.ref ep, rfl, ep, [.ref pl0, .ref tl0], 1, .ref tl0, rfl, rfl, sqt_of (s10 _ _ v1), rfl, tl0, _, rfl, .inl ⟨sql_of (s10 _ _ v3), fun t7 n7 => ⟨by show 2 ≤ sizeLine; decide, fun t8 n8 => ?_⟩⟩⟩
      have s11 := same_upd (o := .tup (tq0.map V.ref)) n7
      have s12 := same_upd (o := .tup [.ref t6, .ref t7]) n8
      have e7 := s12 _ _ (upd_same : (upd H10 t7 (.tup (tq0.map V.ref))) t7 = some (.tup (tq0.map V.ref)))
      have s13 := s11.trans s12
      refine ⟨.ref t8, webD (sortS (cameD part)) (sortP (elderT part)), rfl, .inl (dp_web upd_same (s13 _ _ e6) e7 (paired_mono (fun q t e => s13 _ _ (s10 _ _ e)) v4)), tw.sh, Nat.le_trans tw.dp (by decide), tw.len (by decide), ?_⟩
      refine ⟨rfl, false, congrArg V.bl (by simp), ?_⟩
      have sE := s10.trans s13
      generalize (upd (upd H10 t7 (.tup (tq0.map V.ref))) t8 (.tup [.ref t6, .ref t7])) = HA at sE ⊢
      clear s9 s10 s11 s12 s13 e6 e7 n5 n6 n7 n8 y1 y2 y3 y4 v1 v2 v3 v4 tw wy
      have s2A := s28.trans sE
      have dcA := dc8.keep sE
      have wxA := wx8.keep sE
      clear s28 sE dc8 wx8
      have hsf := slots_few hP hlP
      have hpf := partsD_few hP hlP
      -- the slots
      have ts := tame_ties7 (ts := sortP (slotsD part)) (fun t ht => hP.slots_nm ht) (by omega)
      refine rs_no ?_
      refine ⟨.ref x, rfl, x, part, rfl, wxA, hlP, fun sp sq HB sB nsp esp hsq => ?_⟩
      refine ⟨.ref sp, .tuple ((sortP (slotsD part)).map tieD), rfl, .inl (.tup (sqt_of esp) (dp_ties7 hsq)), ts.sh, Nat.le_trans ts.dp (by decide), ts.len (by decide), ?_⟩
      refine ⟨.ref c, rfl, c, part, rfl, dcA.keep sB, hP, hlP, fun lp lq HC sC nlp elp hlq => ⟨lp, _, rfl, .inl ⟨sql_of elp, fun tt ntt => ?_⟩⟩⟩
      have sD := same_upd (o := .tup (lq.map V.ref)) ntt
      refine ⟨.ref tt, .tuple ((sortP (slotsD part)).map tieD), rfl, .inl (.tup (sqt_of upd_same) (dp_ties7 (paired_mono (fun q t e => sD _ _ e) hlq))), ts.sh, Nat.le_trans ts.dp (by decide), ts.len (by decide), ?_⟩
      refine ⟨rfl, false, congrArg V.bl (by simp), ?_⟩
      have sE := (sB.trans sC).trans sD
      generalize (upd HC tt (.tup (lq.map V.ref))) = HD at sE ⊢
      have s2D := s2A.trans sE
      have dcD := dcA.keep sE
      have wxD := wxA.keep sE
      clear sB nsp esp hsq sC nlp elp hlq ntt sD sE s2A dcA wxA ts
      -- the parts of the dead
      have tp := tame_parts (ps := partsD part) (hP.parts_ok hlP) hpf
      refine rs_no ?_
      refine ⟨.ref x, rfl, x, part, rfl, wxD, hlP, fun dp HE ⟨dq, ed, hdq⟩ sE => ?_⟩
      refine ⟨.ref dp, .tuple ((partsD part).map partD), rfl, .inl (.tup (sqt_of ed) (dp_parts hdq)), tp.sh, Nat.le_trans tp.dp (by decide), tp.len (by decide), ?_⟩
      refine ⟨.ref c, rfl, c, part, rfl, dcD.keep sE, hP, hlP, fun lp lq HF sF nlp elp hlq => ⟨lp, _, rfl, .inl ⟨sql_of elp, fun tt ntt => ?_⟩⟩⟩
      have sG := same_upd (o := .tup (lq.map V.ref)) ntt
      refine ⟨.ref tt, .tuple ((partsD part).map partD), rfl, .inl (.tup (sqt_of upd_same) (dp_parts (paired_mono (fun q t e => sG _ _ e) hlq))), tp.sh, Nat.le_trans tp.dp (by decide), tp.len (by decide), ?_⟩
      refine ⟨rfl, false, congrArg V.bl (by simp), ?_⟩
      have sH := (sE.trans sF).trans sG
      generalize (upd HF tt (.tup (lq.map V.ref))) = HG at sH ⊢
      have s2G := s2D.trans sH
      have dcG := dcD.keep sH
      have wxG := wxD.keep sH
      clear ed hdq sE sF nlp elp hlq ntt sG sH s2D dcD wxD tp
      -- the rims
      have tr := tame_parts (ps := rimsD part) (hP.rims_ok hlP) (by show ((partsD part).map _).length ≤ 40; rw [List.length_map]; exact hpf)
      show (if false = true then _ else _)
      rw [if_neg Bool.false_ne_true]
      show tIfS _ _ _ _ _ _
      refine ⟨.ref x, rfl, x, part, rfl, wxG, hlP, fun dp HI ⟨dq, ed, hdq⟩ sI => ?_⟩
      refine ⟨.ref dp, .tuple ((rimsD part).map partD), rfl, .inl (.tup (sqt_of ed) (dp_parts hdq)), tr.sh, Nat.le_trans tr.dp (by decide), tr.len (by decide), ?_⟩
      refine ⟨.ref c, rfl, c, part, rfl, dcG.keep sI, hP, hlP, fun lp lq HJ sJ nlp elp hlq => ⟨lp, _, rfl, .inl ⟨sql_of elp, fun tt ntt => ?_⟩⟩⟩
      have sK := same_upd (o := .tup (lq.map V.ref)) ntt
      refine ⟨.ref tt, .tuple ((rimsD part).map partD), rfl, .inl (.tup (sqt_of upd_same) (dp_parts (paired_mono (fun q t e => sK _ _ e) hlq))), tr.sh, Nat.le_trans tr.dp (by decide), tr.len (by decide), ?_⟩
      refine ⟨rfl, false, congrArg V.bl (by simp), ?_⟩
      have sL := s2G.trans ((sI.trans sJ).trans sK)
      exact ⟨_, _, _, _, _, rfl, w2.keep sL, sL _ _ e2⟩
    rintro t xs H1 σ' H10 _ ⟨o2, o3, o4, o5, o6, rfl, w10, _⟩
    exact q H10 w10.1 (w10.2.1.mono (by omega))
end
end Hw

set_option Elab.async false
set_option linter.all false
set_option maxRecDepth 100000
set_option maxHeartbeats 4000000
namespace Hw
open PySem L2 PyProof.Rows
theorem Pot.put {H : Hp} {x D : Addr} {N : Nat} {o : HO} (h : Pot H x N) (ne : x ≠ D) : Pot (upd H D o) x N := by
  obtain ⟨u, v, z, e, hh⟩ := h.ex
  exact ⟨u, v, z, by rw [upd_ne ne]; exact e, hh⟩
theorem Pot.sx {H H' : Hp} {x a : Addr} {N : Nat} (h : Pot H x N) (ne : x ≠ a) (s : SameX a H H') : Pot H' x N := by
  obtain ⟨u, v, z, e, hh⟩ := h.ex
  exact ⟨u, v, z, s _ _ ne e, hh⟩
def spLaw (K : PySem.W.Frag) : Sp := fun vs H Q _ => ∃ (a : Addr) (ns : List Int), vs = [.ref a] ∧ SqL K H a (ns.map V.int) ∧ ns.length ≤ 63 ∧ ∀ H', Q (.bl true) H'
section
variable {P : Program} {w : World} {K : PySem.W.Frag} {mg : Str → Option Value} {base : Heap}
theorem scLaw : FnScope ["script", "pots", "place", "lap", "pot"] ["script"] (defScope sLaw) := ⟨rfl, rfl, rfl, by decide +kernel, rfl, by decide +kernel, by decide +kernel⟩
theorem ok_law {f fP fC fR : Addr} {fd fdP fdC fdR : FuncData} {k : Nat} (F : Fun K "law" "law" sLaw f fd) (B : Blt mg) (ba : mg "all" = none)
    (GP : FnOk P w K mg base CX0 k fP fdP ["script", "place"] (spPot K)) (gP : mg "_law_pot" = some (.ref fP)) (kP : PySem.W.keepIn K (.ref fP) = true) (bP : Binds K fdP ["script", "place"] [])
    (GC : FnOk P w K mg base CX0 k fC fdC ["script", "most"] (spCells K)) (gC : mg "_law_cells" = some (.ref fC)) (kC : PySem.W.keepIn K (.ref fC) = true) (bC : Binds K fdC ["script", "most"] [])
    (GR : FnG P w K mg base CX0 k fR fdR ["pot"] spRight) (gR : mg "_law_right" = some (.ref fR)) (kR : PySem.W.keepIn K (.ref fR) = true) (bR : Binds K fdR ["pot"] []) :
    FnG P w K mg base CX0 (k + 1) f fd ["script"] (spLaw K) := by
  refine funG F scLaw (fun vs H Q E h => ?_) (fun cdv A outer s H vs Q E hg h => ?_)
  · obtain ⟨a, ns, rfl, _⟩ := h
    rfl
  · obtain ⟨a, ns, rfl, hS, hl, q⟩ := h
    have hr := hg.r
    have hu64 := hr.units
    refine ⟨_, pss_cons (ps_setLc (i := 1) (own := [("place", 2)]) (g := gName 2) (tt := tYes) rfl scLaw.nd rfl rfl (sw_true rfl rfl rfl (by decide +kernel)) (pi_list (pe_call GC hr (by rfl) gC kC bC .nil pass0 (pa_cons (pv 0) (pa_cons pe_int pa_nil))))
        (blkOk_by (N := ["script", "pots", "place", "lap", "pot"]) (sc := defScope sLaw) (by decide +kernel)) (fun _ _ _ _ _ => pg_name (i := 2) scLaw.nd rfl (Or.inl rfl)) (fun _ _ _ _ _ => pts_nil)
        (fun _ _ _ _ _ => pe_call GP hr (by rfl) gP kP bP .nil pass0 (pa_cons (pv 0) (pa_cons (pv 2) pa_nil))))
      (pss_one (ps_ret (pe_callB (cr_all rfl) (by rfl) ba PyProof.Rows.boot_all (pa_cons (pe_lc (own := [("pot", 4)]) (g := gName 4) (tt := tYes) (te := tCB (rAll K) (tCons (tLc (iRng1 (tCons (tC (.int 2)) tNil)) (gName 3) tYes (tCall spRight [] E0 (tCons (tVar 4) tNil)) [3]) tNil)) rfl scLaw.nd (pi_list (pv 1))
          (blkOk_by (N := ["script", "pots", "place", "lap", "pot"]) (sc := defScope sLaw) (by decide +kernel)) (fun _ _ _ _ _ => pg_name (i := 4) scLaw.nd rfl (Or.inr rfl)) (fun _ _ _ _ _ => pts_nil)
          (fun _ _ _ _ _ => pe_callB (cr_all rfl) (by rfl) ba PyProof.Rows.boot_all (pa_cons (pe_lc (own := [("lap", 3)]) (g := gName 3) (tt := tYes) (te := tCall spRight [] E0 (tCons (tVar 4) tNil)) rfl scLaw.nd (pi_range1 (by rfl) B.range (pa_cons pe_int pa_nil))
            (blkOk_by (N := ["script", "pots", "place", "lap", "pot"]) (sc := { kind := .function, names := [(".0", .local), ("pot", .cell), ("all", .globalImplicit), ("range", .globalImplicit)], isGenerator := false, isCoroutine := false }) (by decide +kernel)) (fun _ _ _ _ _ => pg_name (i := 3) scLaw.nd rfl (Or.inl rfl)) (fun _ _ _ _ _ => pts_nil)
            (fun _ _ _ _ _ => pe_callG GR hg (by rfl) gR kR bR .nil pass0 (pa_cons (pv 4) pa_nil))) pa_nil))) pa_nil)))), ?_⟩
    refine rs_set ?_
    refine ⟨.ref a, rfl, a, ns.map V.int, 3, rfl, hS, by rw [List.length_map]; exact hl, by decide, by decide, fun n p H1 n0 n3 s1 np hp => ?_⟩
    refine ⟨p, rfl, ⟨_, sql_of hp⟩, fun D hD => ?_⟩
    have lenr : ((List.range n).map fun i : Nat => V.int (i : Int)).length = n := by rw [List.length_map, List.length_range]
    refine lc_list (xs := (List.range n).map fun i : Nat => V.int (i : Int)) (fun i H' => ∃ ps : List Addr, ps.length = i ∧ Same H1 H' ∧ H' D = some (.lst (ps.map V.ref)) ∧ ps.Nodup ∧ ∀ x ∈ ps, Pot H' x 0) ⟨[], rfl, same_upd hD, upd_same, .nil, fun _ z => nomatch z⟩ (fun i H' _ ⟨_, _, s, _⟩ => sql_of (s _ _ hp)) ?_ ?_
    · rintro i x H2 hx ⟨ps, pl, s2, eD, hn, hpp⟩
      rw [List.getElem?_map] at hx
      have hi : i < n := by
        cases e : (List.range n)[i]? with
        | none => rw [e] at hx; cases hx
        | some y =>
          have z := (List.getElem?_eq_some_iff.mp e).1
          rwa [List.length_range] at z
      rw [List.getElem?_range hi] at hx
      obtain rfl : V.int (i : Int) = x := Option.some.inj hx
      refine ⟨rfl, r_yes ?_⟩
      refine r_call (r_cons (r_var (v := .ref a) rfl (r_cons (r_var (v := .int (i : Int)) rfl ⟨a, ns, i, rfl, (s1.trans s2).seq hS, hl, by omega, by omega, fun pp H3 s3 np3 hp3 => ?_⟩))))
      have eD3 := s3 _ _ eD
      have ppD : pp ≠ D := fun z => by rw [z, eD] at np3; cases np3
      refine ⟨_, eD3, smallM (by rw [List.length_map]; omega), ps ++ [pp], by rw [List.length_append, pl]; rfl, fun b o e => ?_, by rw [upd_same, List.map_append]; rfl, ?_, fun y hy => ?_⟩
      · rw [upd_ne (ne_of_none e hD)]; exact s3 _ _ (s2 _ _ e)
      · rw [List.nodup_append]
        exact ⟨hn, by simp, fun x hx y hy e => (hpp x hx).some (by rw [e, List.mem_singleton.mp hy]; exact np3)⟩
      · rcases List.mem_append.mp hy with hy | hy
        · exact ((hpp y hy).same s3).put (pot_ne_refs ((hpp y hy).same s3) eD3)
        · rw [List.mem_singleton.mp hy]
          exact hp3.put ppD
    rintro H2 ⟨ps, pl, s2, eD, hn, hpp⟩
    rw [lenr] at pl
    have eD7 := eD
    have hp7 := hpp
    have plen : ps.length ≤ 3 := by omega
    refine ⟨.ref D, rfl, D, rfl, ⟨_, sql_of eD7⟩, fun D2 nD2 => ?_⟩
    have D2D : D2 ≠ D := fun z => by rw [z, eD7] at nD2; cases nD2
    have D2p : ∀ x ∈ ps, x ≠ D2 := fun x hx z => (hp7 x hx).some (z ▸ nD2)
    have Dp : ∀ x ∈ ps, x ≠ D := fun x hx => pot_ne_refs (hp7 x hx) eD7
    refine lc_list (xs := ps.map V.ref) (fun i H' => H' D = some (.lst (ps.map V.ref)) ∧ (∀ (j : Nat) (x : Addr), ps[j]? = some x → i ≤ j → Pot H' x 0) ∧ H' D2 = some (.lst ((List.replicate i true).map V.bl)))
      ⟨by rw [upd_ne (Ne.symm D2D)]; exact eD7, fun j x hx _ => (hp7 x (List.mem_of_getElem? hx)).put (D2p x (List.mem_of_getElem? hx)), upd_same⟩ (fun i H' _ ⟨w, _⟩ => sql_of w) ?_ ?_
    · rintro i v H' hv ⟨eD', hpj, eD2⟩
      obtain ⟨x, hx, rfl⟩ := map_get hv
      have hxm := List.mem_of_getElem? hx
      have hi := (List.getElem?_eq_some_iff.mp hx).1
      refine ⟨rfl, r_yes ?_⟩
      refine ⟨2, rfl, by decide, by decide, fun D3 nD3 => ?_⟩
      have D3D : D3 ≠ D := fun z => by rw [z, eD'] at nD3; cases nD3
      have D3D2 : D3 ≠ D2 := fun z => by rw [z, eD2] at nD3; cases nD3
      have D3p : ∀ (j : Nat) (y : Addr), ps[j]? = some y → i ≤ j → y ≠ D3 := fun j y hy hij z => (hpj j y hy hij).some (z ▸ nD3)
      refine L2.lc_range (lo := 0) (n := (2 : Int).toNat) (fun k H' => H' D = some (.lst (ps.map V.ref)) ∧ (∀ (j : Nat) (y : Addr), ps[j]? = some y → i + 1 ≤ j → Pot H' y 0) ∧ H' D2 = some (.lst ((List.replicate i true).map V.bl)) ∧ Pot H' x (10000 * k) ∧ H' D3 = some (.lst ((List.replicate k true).map V.bl)))
        ⟨by rw [upd_ne (Ne.symm D3D)]; exact eD', fun j y hy hij => (hpj j y hy (by omega)).put (D3p j y hy (by omega)), by rw [upd_ne (Ne.symm D3D2)]; exact eD2, (hpj i x hx (Nat.le_refl _)).put (D3p i x hx (Nat.le_refl _)), upd_same⟩ ?_ ?_
      · rintro k' H'' hk ⟨q1, q2, q3, q4, q5⟩
        have hk2 : k' < 2 := hk
        refine ⟨rfl, r_yes ?_⟩
        refine ⟨.ref x, rfl, x, 10000 * k', rfl, q4, by omega, fun H8 s8 hp8 => ?_⟩
        have xD3 := D3p i x hx (Nat.le_refl _)
        refine ⟨_, s8 _ _ (Ne.symm xD3) q5, smallM (by rw [List.length_map, List.length_replicate]; omega), ?_, fun j y hy hij => ?_, ?_, (hp8.put xD3).mono (by omega), ?_⟩
        · rw [upd_ne (Ne.symm D3D)]; exact s8 _ _ (Ne.symm (Dp x hxm)) q1
        · have yx : y ≠ x := fun z => by
            obtain ⟨b1, b2⟩ := List.getElem?_eq_some_iff.mp hy
            obtain ⟨c1, c2⟩ := List.getElem?_eq_some_iff.mp hx
            exact List.pairwise_iff_getElem.mp hn i j c1 b1 (by omega) (by rw [c2, b2, z])
          exact ((q2 j y hy hij).sx yx s8).put (D3p j y hy (by omega))
        · rw [upd_ne (Ne.symm D3D2)]; exact s8 _ _ (Ne.symm (D2p x hxm)) q3
        · rw [upd_same, List.replicate_succ', List.map_append]; rfl
      · rintro H'' ⟨q1, q2, q3, q4, q5⟩
        refine ⟨D3, _, rfl, sql_of q5, ?_⟩
        rw [show (List.replicate (2 : Int).toNat true).all id = true from rfl]
        refine ⟨_, q3, smallM (by rw [List.length_map, List.length_replicate]; omega), ?_, fun j y hy hij => ?_, ?_⟩
        · rw [upd_ne (Ne.symm D2D)]; exact q1
        · exact (q2 j y hy hij).put (D2p y (List.mem_of_getElem? hy))
        · rw [upd_same, List.replicate_succ', List.map_append]; rfl
    · rintro H' ⟨eD', _, eD2⟩
      refine ⟨D2, _, rfl, sql_of eD2, ?_⟩
      rw [all_rep]
      exact q H'
end
end Hw

set_option Elab.async false
set_option linter.all false
set_option maxRecDepth 100000
set_option maxHeartbeats 4000000
namespace Hw
open PySem L2 PyProof.Rows
theorem sub_bt {K : PySem.W.Frag} {T : String} {C : Addr} {l : List Value} (h : fastBuiltinMro T = some l) (hl : l.contains (.ref C) = false) : PySem.W.subIn K (.type T) (.ref C) = some false := by
  show (fastBuiltinMro T).map (·.contains (.ref C)) = some false
  rw [h]
  show some (l.contains (.ref C)) = some false
  rw [hl]
theorem kit_no {K : PySem.W.Frag} {T : String} {C : Addr} (hd : PySem.W.hasDictIn K C = true) (hy : PySem.W.typeIn K (.ref C) = some (.type "type")) (hs : PySem.W.subIn K (.type T) (.ref C) = some false) : PySem.W.kitOne K (.type T) (.ref C) = some false := by
  have hc : (PySem.W.clsIn K C).isSome = true := by
    obtain ⟨cd, hc, _⟩ := PySem.W.any_some hd
    rw [hc]; rfl
  unfold PySem.W.kitOne
  rw [if_neg (by simp)]
  show (if ((PySem.W.clsIn K C).isSome && PySem.W.typeIn K (.ref C) == some (.type "type")) = true then PySem.W.subIn K (.type T) (.ref C) else none) = some false
  rw [if_pos (by rw [hc, hy]; simp), hs]

theorem all_mk {P : Program} {w : World} {K : PySem.W.Frag} {h : Heap} {mg : Str → Option Value} {fa C CW f0 f1 f2 f3 f4 f5 f6 f7 f8 f9 f10 f11 f12 f13 f14 f15 f16 f17 f18 f19 f20 f21 f22 f23 f24 f25 f26 f27 f28 f29 f30 f31 f32 f33 f34 f35 f36 f37 f38 f39 f40 f41 f42 f43 f44 f45 f46 f47 f48 f49 fCm0 fCWm0 fCWm1 : Addr} (X : K.In h) (G : h.Ns mainGlobals mg) (hfa : mg "law" = some (.ref fa))
    {od0 an0 od1 an1 od2 an2 od3 an3 od4 an4 od5 an5 od6 an6 od7 an7 od8 an8 od9 an9 od10 an10 od11 an11 od12 an12 od13 an13 od14 an14 od15 an15 od16 an16 od17 an17 od18 an18 od19 an19 od20 an20 od21 an21 od22 an22 od23 an23 od24 an24 od25 an25 od26 an26 od27 an27 od28 an28 od29 an29 od30 an30 od31 an31 od32 an32 od33 an33 od34 an34 od35 an35 od36 an36 od37 an37 od38 an38 od39 an39 od40 an40 od41 an41 od42 an42 od43 an43 od44 an44 od45 an45 od46 an46 od47 an47 od48 an48 od49 an49 odCm0 anCm0 odCWm0 anCWm0 odCWm1 anCWm1 : Option Addr} {sl0 sl1 sl2 sl3 sl4 sl5 sl6 sl7 sl8 sl9 sl10 sl11 sl12 sl13 sl14 sl15 sl16 sl17 sl18 sl19 sl20 sl21 sl22 sl23 sl24 sl25 sl26 sl27 sl28 sl29 sl30 sl31 sl32 sl33 sl34 sl35 sl36 sl37 sl38 sl39 sl40 sl41 sl42 sl43 sl44 sl45 sl46 sl47 sl48 sl49 slCm0 slCWm0 slCWm1 : Array (Option Value)} {oc0 kV0 dc0 pm0 cd0 ct0 oc1 kV1 dc1 pm1 cd1 ct1 oc2 kV2 dc2 pm2 cd2 ct2 oc3 kV3 dc3 pm3 cd3 ct3 oc4 kV4 dc4 pm4 cd4 ct4 oc5 kV5 dc5 pm5 cd5 ct5 oc6 kV6 dc6 pm6 cd6 ct6 oc7 kV7 dc7 pm7 cd7 ct7 oc8 kV8 dc8 pm8 cd8 ct8 oc9 kV9 dc9 pm9 cd9 ct9 oc10 kV10 dc10 pm10 cd10 ct10 oc11 kV11 dc11 pm11 cd11 ct11 oc12 kV12 dc12 pm12 cd12 ct12 oc13 kV13 dc13 pm13 cd13 ct13 oc14 kV14 dc14 pm14 cd14 ct14 oc15 kV15 dc15 pm15 cd15 ct15 oc16 kV16 dc16 pm16 cd16 ct16 oc17 kV17 dc17 pm17 cd17 ct17 oc18 kV18 dc18 pm18 cd18 ct18 oc19 kV19 dc19 pm19 cd19 ct19 oc20 kV20 dc20 pm20 cd20 ct20 oc21 kV21 dc21 pm21 cd21 ct21 oc22 kV22 dc22 pm22 cd22 ct22 oc23 kV23 dc23 pm23 cd23 ct23 oc24 kV24 dc24 pm24 cd24 ct24 oc25 kV25 dc25 pm25 cd25 ct25 oc26 kV26 dc26 pm26 cd26 ct26 oc27 kV27 dc27 pm27 cd27 ct27 oc28 kV28 dc28 pm28 cd28 ct28 oc29 kV29 dc29 pm29 cd29 ct29 oc30 kV30 dc30 pm30 cd30 ct30 oc31 kV31 dc31 pm31 cd31 ct31 oc32 kV32 dc32 pm32 cd32 ct32 oc33 kV33 dc33 pm33 cd33 ct33 oc34 kV34 dc34 pm34 cd34 ct34 oc35 kV35 dc35 pm35 cd35 ct35 oc36 kV36 dc36 pm36 cd36 ct36 oc37 kV37 dc37 pm37 cd37 ct37 oc38 kV38 dc38 pm38 cd38 ct38 oc39 kV39 dc39 pm39 cd39 ct39 oc40 kV40 dc40 pm40 cd40 ct40 oc41 kV41 dc41 pm41 cd41 ct41 oc42 kV42 dc42 pm42 cd42 ct42 oc43 kV43 dc43 pm43 cd43 ct43 oc44 kV44 dc44 pm44 cd44 ct44 oc45 kV45 dc45 pm45 cd45 ct45 oc46 kV46 dc46 pm46 cd46 ct46 oc47 kV47 dc47 pm47 cd47 ct47 oc48 kV48 dc48 pm48 cd48 ct48 oc49 kV49 dc49 pm49 cd49 ct49 ocCm0 kVCm0 dcCm0 pmCm0 cdCm0 ctCm0 ocCWm0 kVCWm0 dcCWm0 pmCWm0 cdCWm0 ctCWm0 ocCWm1 kVCWm1 dcCWm1 pmCWm1 cdCWm1 ctCWm1 : Value} {tL tM tD : Tok}
    (a0 : PySem.W.nsIn K mainGlobals "is_name" = some (some (.ref f0)))
    (l0 : K.lookup f0 = some ⟨oc0, od0, .func (PySem.W.fnOf "is_name" "is_name" (defArgs sIsName) (defBody sIsName) (defScope sIsName) .none kV0 dc0 pm0 an0 cd0 ct0), sl0⟩)
    (c0 : PySem.W.codeIn K cd0 "is_name" = true)
    (k0 : PySem.W.keepIn K (.ref f0) = true)
    (a1 : PySem.W.nsIn K mainGlobals "ascends" = some (some (.ref f1)))
    (l1 : K.lookup f1 = some ⟨oc1, od1, .func (PySem.W.fnOf "ascends" "ascends" (defArgs sAsc) (defBody sAsc) (defScope sAsc) .none kV1 dc1 pm1 an1 cd1 ct1), sl1⟩)
    (c1 : PySem.W.codeIn K cd1 "ascends" = true)
    (k1 : PySem.W.keepIn K (.ref f1) = true)
    (a2 : PySem.W.nsIn K mainGlobals "pair_of" = some (some (.ref f2)))
    (l2 : K.lookup f2 = some ⟨oc2, od2, .func (PySem.W.fnOf "pair_of" "pair_of" (defArgs sPair) (defBody sPair) (defScope sPair) .none kV2 dc2 pm2 an2 cd2 ct2), sl2⟩)
    (c2 : PySem.W.codeIn K cd2 "pair_of" = true)
    (k2 : PySem.W.keepIn K (.ref f2) = true)
    (a3 : PySem.W.nsIn K mainGlobals "tied_by" = some (some (.ref f3)))
    (l3 : K.lookup f3 = some ⟨oc3, od3, .func (PySem.W.fnOf "tied_by" "tied_by" (defArgs sTied) (defBody sTied) (defScope sTied) .none kV3 dc3 pm3 an3 cd3 ct3), sl3⟩)
    (c3 : PySem.W.codeIn K cd3 "tied_by" = true)
    (k3 : PySem.W.keepIn K (.ref f3) = true)
    (a4 : PySem.W.nsIn K mainGlobals "far_along" = some (some (.ref f4)))
    (l4 : K.lookup f4 = some ⟨oc4, od4, .func (PySem.W.fnOf "far_along" "far_along" (defArgs sAlong) (defBody sAlong) (defScope sAlong) .none kV4 dc4 pm4 an4 cd4 ct4), sl4⟩)
    (c4 : PySem.W.codeIn K cd4 "far_along" = true)
    (k4 : PySem.W.keepIn K (.ref f4) = true)
    (a5 : PySem.W.nsIn K mainGlobals "read_web" = some (some (.ref f5)))
    (l5 : K.lookup f5 = some ⟨oc5, od5, .func (PySem.W.fnOf "read_web" "read_web" (defArgs sReadW) (defBody sReadW) (defScope sReadW) .none kV5 dc5 pm5 an5 cd5 ct5), sl5⟩)
    (c5 : PySem.W.codeIn K cd5 "read_web" = true)
    (k5 : PySem.W.keepIn K (.ref f5) = true)
    (a6 : PySem.W.nsIn K mainGlobals "read_ties" = some (some (.ref f6)))
    (l6 : K.lookup f6 = some ⟨oc6, od6, .func (PySem.W.fnOf "read_ties" "read_ties" (defArgs sReadT) (defBody sReadT) (defScope sReadT) .none kV6 dc6 pm6 an6 cd6 ct6), sl6⟩)
    (c6 : PySem.W.codeIn K cd6 "read_ties" = true)
    (k6 : PySem.W.keepIn K (.ref f6) = true)
    (a7 : PySem.W.nsIn K mainGlobals "are_places" = some (some (.ref f7)))
    (l7 : K.lookup f7 = some ⟨oc7, od7, .func (PySem.W.fnOf "are_places" "are_places" (defArgs sArePl) (defBody sArePl) (defScope sArePl) .none kV7 dc7 pm7 an7 cd7 ct7), sl7⟩)
    (c7 : PySem.W.codeIn K cd7 "are_places" = true)
    (k7 : PySem.W.keepIn K (.ref f7) = true)
    (a8 : PySem.W.nsIn K mainGlobals "is_tie" = some (some (.ref f8)))
    (l8 : K.lookup f8 = some ⟨oc8, od8, .func (PySem.W.fnOf "is_tie" "is_tie" (defArgs sIsTie) (defBody sIsTie) (defScope sIsTie) .none kV8 dc8 pm8 an8 cd8 ct8), sl8⟩)
    (c8 : PySem.W.codeIn K cd8 "is_tie" = true)
    (k8 : PySem.W.keepIn K (.ref f8) = true)
    (a9 : PySem.W.nsIn K mainGlobals "are_ties" = some (some (.ref f9)))
    (l9 : K.lookup f9 = some ⟨oc9, od9, .func (PySem.W.fnOf "are_ties" "are_ties" (defArgs sAreTs) (defBody sAreTs) (defScope sAreTs) .none kV9 dc9 pm9 an9 cd9 ct9), sl9⟩)
    (c9 : PySem.W.codeIn K cd9 "are_ties" = true)
    (k9 : PySem.W.keepIn K (.ref f9) = true)
    (a10 : PySem.W.nsIn K mainGlobals "web_of" = some (some (.ref f10)))
    (l10 : K.lookup f10 = some ⟨oc10, od10, .func (PySem.W.fnOf "web_of" "web_of" (defArgs sWebOf) (defBody sWebOf) (defScope sWebOf) .none kV10 dc10 pm10 an10 cd10 ct10), sl10⟩)
    (c10 : PySem.W.codeIn K cd10 "web_of" = true)
    (k10 : PySem.W.keepIn K (.ref f10) = true)
    (a11 : PySem.W.nsIn K mainGlobals "parts_of" = some (some (.ref f11)))
    (l11 : K.lookup f11 = some ⟨oc11, od11, .func (PySem.W.fnOf "parts_of" "parts_of" (defArgs sPartsOf) (defBody sPartsOf) (defScope sPartsOf) .none kV11 dc11 pm11 an11 cd11 ct11), sl11⟩)
    (c11 : PySem.W.codeIn K cd11 "parts_of" = true)
    (k11 : PySem.W.keepIn K (.ref f11) = true)
    (a12 : PySem.W.nsIn K mainGlobals "is_living" = some (some (.ref f12)))
    (l12 : K.lookup f12 = some ⟨oc12, od12, .func (PySem.W.fnOf "is_living" "is_living" (defArgs sIsLiv) (defBody sIsLiv) (defScope sIsLiv) .none kV12 dc12 pm12 an12 cd12 ct12), sl12⟩)
    (c12 : PySem.W.codeIn K cd12 "is_living" = true)
    (k12 : PySem.W.keepIn K (.ref f12) = true)
    (a13 : PySem.W.nsIn K mainGlobals "are_living" = some (some (.ref f13)))
    (l13 : K.lookup f13 = some ⟨oc13, od13, .func (PySem.W.fnOf "are_living" "are_living" (defArgs sAreLiv) (defBody sAreLiv) (defScope sAreLiv) .none kV13 dc13 pm13 an13 cd13 ct13), sl13⟩)
    (c13 : PySem.W.codeIn K cd13 "are_living" = true)
    (k13 : PySem.W.keepIn K (.ref f13) = true)
    (a14 : PySem.W.nsIn K mainGlobals "can_come" = some (some (.ref f14)))
    (l14 : K.lookup f14 = some ⟨oc14, od14, .func (PySem.W.fnOf "can_come" "can_come" (defArgs sCanCome) (defBody sCanCome) (defScope sCanCome) .none kV14 dc14 pm14 an14 cd14 ct14), sl14⟩)
    (c14 : PySem.W.codeIn K cd14 "can_come" = true)
    (k14 : PySem.W.keepIn K (.ref f14) = true)
    (a15 : PySem.W.nsIn K mainGlobals "can_stand" = some (some (.ref f15)))
    (l15 : K.lookup f15 = some ⟨oc15, od15, .func (PySem.W.fnOf "can_stand" "can_stand" (defArgs sCanStand) (defBody sCanStand) (defScope sCanStand) .none kV15 dc15 pm15 an15 cd15 ct15), sl15⟩)
    (c15 : PySem.W.codeIn K cd15 "can_stand" = true)
    (k15 : PySem.W.keepIn K (.ref f15) = true)
    (a16 : PySem.W.nsIn K mainGlobals "read_deed" = some (some (.ref f16)))
    (l16 : K.lookup f16 = some ⟨oc16, od16, .func (PySem.W.fnOf "read_deed" "read_deed" (defArgs sReadD1) (defBody sReadD1) (defScope sReadD1) .none kV16 dc16 pm16 an16 cd16 ct16), sl16⟩)
    (c16 : PySem.W.codeIn K cd16 "read_deed" = true)
    (k16 : PySem.W.keepIn K (.ref f16) = true)
    (a17 : PySem.W.nsIn K mainGlobals "read_deeds" = some (some (.ref f17)))
    (l17 : K.lookup f17 = some ⟨oc17, od17, .func (PySem.W.fnOf "read_deeds" "read_deeds" (defArgs sReadDs) (defBody sReadDs) (defScope sReadDs) .none kV17 dc17 pm17 an17 cd17 ct17), sl17⟩)
    (c17 : PySem.W.codeIn K cd17 "read_deeds" = true)
    (k17 : PySem.W.keepIn K (.ref f17) = true)
    (a18 : PySem.W.nsIn K mainGlobals "lives_behind" = some (some (.ref f18)))
    (l18 : K.lookup f18 = some ⟨oc18, od18, .func (PySem.W.fnOf "lives_behind" "lives_behind" (defArgs sLivesB) (defBody sLivesB) (defScope sLivesB) .none kV18 dc18 pm18 an18 cd18 ct18), sl18⟩)
    (c18 : PySem.W.codeIn K cd18 "lives_behind" = true)
    (k18 : PySem.W.keepIn K (.ref f18) = true)
    (a19 : PySem.W.nsIn K mainGlobals "names_that" = some (some (.ref f19)))
    (l19 : K.lookup f19 = some ⟨oc19, od19, .func (PySem.W.fnOf "names_that" "names_that" (defArgs sNamesT) (defBody sNamesT) (defScope sNamesT) .none kV19 dc19 pm19 an19 cd19 ct19), sl19⟩)
    (c19 : PySem.W.codeIn K cd19 "names_that" = true)
    (k19 : PySem.W.keepIn K (.ref f19) = true)
    (a20 : PySem.W.nsIn K mainGlobals "all_places" = some (some (.ref f20)))
    (l20 : K.lookup f20 = some ⟨oc20, od20, .func (PySem.W.fnOf "all_places" "all_places" (defArgs sAllPl) (defBody sAllPl) (defScope sAllPl) .none kV20 dc20 pm20 an20 cd20 ct20), sl20⟩)
    (c20 : PySem.W.codeIn K cd20 "all_places" = true)
    (k20 : PySem.W.keepIn K (.ref f20) = true)
    (a21 : PySem.W.nsIn K mainGlobals "all_elder_ties" = some (some (.ref f21)))
    (l21 : K.lookup f21 = some ⟨oc21, od21, .func (PySem.W.fnOf "all_elder_ties" "all_elder_ties" (defArgs sAllEl) (defBody sAllEl) (defScope sAllEl) .none kV21 dc21 pm21 an21 cd21 ct21), sl21⟩)
    (c21 : PySem.W.codeIn K cd21 "all_elder_ties" = true)
    (k21 : PySem.W.keepIn K (.ref f21) = true)
    (a22 : PySem.W.nsIn K mainGlobals "elder_web" = some (some (.ref f22)))
    (l22 : K.lookup f22 = some ⟨oc22, od22, .func (PySem.W.fnOf "elder_web" "elder_web" (defArgs sElWeb) (defBody sElWeb) (defScope sElWeb) .none kV22 dc22 pm22 an22 cd22 ct22), sl22⟩)
    (c22 : PySem.W.codeIn K cd22 "elder_web" = true)
    (k22 : PySem.W.keepIn K (.ref f22) = true)
    (a23 : PySem.W.nsIn K mainGlobals "slots" = some (some (.ref f23)))
    (l23 : K.lookup f23 = some ⟨oc23, od23, .func (PySem.W.fnOf "slots" "slots" (defArgs sSlots) (defBody sSlots) (defScope sSlots) .none kV23 dc23 pm23 an23 cd23 ct23), sl23⟩)
    (c23 : PySem.W.codeIn K cd23 "slots" = true)
    (k23 : PySem.W.keepIn K (.ref f23) = true)
    (a24 : PySem.W.nsIn K mainGlobals "dead_parts" = some (some (.ref f24)))
    (l24 : K.lookup f24 = some ⟨oc24, od24, .func (PySem.W.fnOf "dead_parts" "dead_parts" (defArgs sDeadP) (defBody sDeadP) (defScope sDeadP) .none kV24 dc24 pm24 an24 cd24 ct24), sl24⟩)
    (c24 : PySem.W.codeIn K cd24 "dead_parts" = true)
    (k24 : PySem.W.keepIn K (.ref f24) = true)
    (a25 : PySem.W.nsIn K mainGlobals "rims" = some (some (.ref f25)))
    (l25 : K.lookup f25 = some ⟨oc25, od25, .func (PySem.W.fnOf "rims" "rims" (defArgs sRims) (defBody sRims) (defScope sRims) .none kV25 dc25 pm25 an25 cd25 ct25), sl25⟩)
    (c25 : PySem.W.codeIn K cd25 "rims" = true)
    (k25 : PySem.W.keepIn K (.ref f25) = true)
    (a26 : PySem.W.nsIn K mainGlobals "rim_of" = some (some (.ref f26)))
    (l26 : K.lookup f26 = some ⟨oc26, od26, .func (PySem.W.fnOf "rim_of" "rim_of" (defArgs sRimOf) (defBody sRimOf) (defScope sRimOf) .none kV26 dc26 pm26 an26 cd26 ct26), sl26⟩)
    (c26 : PySem.W.codeIn K cd26 "rim_of" = true)
    (k26 : PySem.W.keepIn K (.ref f26) = true)
    (a27 : PySem.W.nsIn K mainGlobals "_law_pot" = some (some (.ref f27)))
    (l27 : K.lookup f27 = some ⟨oc27, od27, .func (PySem.W.fnOf "_law_pot" "_law_pot" (defArgs sPot) (defBody sPot) (defScope sPot) .none kV27 dc27 pm27 an27 cd27 ct27), sl27⟩)
    (c27 : PySem.W.codeIn K cd27 "_law_pot" = true)
    (k27 : PySem.W.keepIn K (.ref f27) = true)
    (a28 : PySem.W.nsIn K mainGlobals "_law_take" = some (some (.ref f28)))
    (l28 : K.lookup f28 = some ⟨oc28, od28, .func (PySem.W.fnOf "_law_take" "_law_take" (defArgs sTake) (defBody sTake) (defScope sTake) .none kV28 dc28 pm28 an28 cd28 ct28), sl28⟩)
    (c28 : PySem.W.codeIn K cd28 "_law_take" = true)
    (k28 : PySem.W.keepIn K (.ref f28) = true)
    (a29 : PySem.W.nsIn K mainGlobals "_law_of" = some (some (.ref f29)))
    (l29 : K.lookup f29 = some ⟨oc29, od29, .func (PySem.W.fnOf "_law_of" "_law_of" (defArgs sOf) (defBody sOf) (defScope sOf) .none kV29 dc29 pm29 an29 cd29 ct29), sl29⟩)
    (c29 : PySem.W.codeIn K cd29 "_law_of" = true)
    (k29 : PySem.W.keepIn K (.ref f29) = true)
    (a30 : PySem.W.nsIn K mainGlobals "_law_some" = some (some (.ref f30)))
    (l30 : K.lookup f30 = some ⟨oc30, od30, .func (PySem.W.fnOf "_law_some" "_law_some" (defArgs sSome) (defBody sSome) (defScope sSome) .none kV30 dc30 pm30 an30 cd30 ct30), sl30⟩)
    (c30 : PySem.W.codeIn K cd30 "_law_some" = true)
    (k30 : PySem.W.keepIn K (.ref f30) = true)
    (a31 : PySem.W.nsIn K mainGlobals "_law_cells" = some (some (.ref f31)))
    (l31 : K.lookup f31 = some ⟨oc31, od31, .func (PySem.W.fnOf "_law_cells" "_law_cells" (defArgs sCells) (defBody sCells) (defScope sCells) .none kV31 dc31 pm31 an31 cd31 ct31), sl31⟩)
    (c31 : PySem.W.codeIn K cd31 "_law_cells" = true)
    (k31 : PySem.W.keepIn K (.ref f31) = true)
    (a32 : PySem.W.nsIn K mainGlobals "_law_names" = some (some (.ref f32)))
    (l32 : K.lookup f32 = some ⟨oc32, od32, .func (PySem.W.fnOf "_law_names" "_law_names" (defArgs sNames) (defBody sNames) (defScope sNames) .none kV32 dc32 pm32 an32 cd32 ct32), sl32⟩)
    (c32 : PySem.W.codeIn K cd32 "_law_names" = true)
    (k32 : PySem.W.keepIn K (.ref f32) = true)
    (a33 : PySem.W.nsIn K mainGlobals "_law_tie" = some (some (.ref f33)))
    (l33 : K.lookup f33 = some ⟨oc33, od33, .func (PySem.W.fnOf "_law_tie" "_law_tie" (defArgs sTie) (defBody sTie) (defScope sTie) .none kV33 dc33 pm33 an33 cd33 ct33), sl33⟩)
    (c33 : PySem.W.codeIn K cd33 "_law_tie" = true)
    (k33 : PySem.W.keepIn K (.ref f33) = true)
    (a34 : PySem.W.nsIn K mainGlobals "_law_history_text" = some (some (.ref f34)))
    (l34 : K.lookup f34 = some ⟨oc34, od34, .func (PySem.W.fnOf "_law_history_text" "_law_history_text" (defArgs sHText) (defBody sHText) (defScope sHText) .none kV34 dc34 pm34 an34 cd34 ct34), sl34⟩)
    (c34 : PySem.W.codeIn K cd34 "_law_history_text" = true)
    (k34 : PySem.W.keepIn K (.ref f34) = true)
    (a35 : PySem.W.nsIn K mainGlobals "_law_living" = some (some (.ref f35)))
    (l35 : K.lookup f35 = some ⟨oc35, od35, .func (PySem.W.fnOf "_law_living" "_law_living" (defArgs sLiving) (defBody sLiving) (defScope sLiving) .none kV35 dc35 pm35 an35 cd35 ct35), sl35⟩)
    (c35 : PySem.W.codeIn K cd35 "_law_living" = true)
    (k35 : PySem.W.keepIn K (.ref f35) = true)
    (a36 : PySem.W.nsIn K mainGlobals "_law_elder" = some (some (.ref f36)))
    (l36 : K.lookup f36 = some ⟨oc36, od36, .func (PySem.W.fnOf "_law_elder" "_law_elder" (defArgs sElder) (defBody sElder) (defScope sElder) .none kV36 dc36 pm36 an36 cd36 ct36), sl36⟩)
    (c36 : PySem.W.codeIn K cd36 "_law_elder" = true)
    (k36 : PySem.W.keepIn K (.ref f36) = true)
    (a37 : PySem.W.nsIn K mainGlobals "_law_counts" = some (some (.ref f37)))
    (l37 : K.lookup f37 = some ⟨oc37, od37, .func (PySem.W.fnOf "_law_counts" "_law_counts" (defArgs sCounts) (defBody sCounts) (defScope sCounts) .none kV37 dc37 pm37 an37 cd37 ct37), sl37⟩)
    (c37 : PySem.W.codeIn K cd37 "_law_counts" = true)
    (k37 : PySem.W.keepIn K (.ref f37) = true)
    (a38 : PySem.W.nsIn K mainGlobals "_law_come_ties" = some (some (.ref f38)))
    (l38 : K.lookup f38 = some ⟨oc38, od38, .func (PySem.W.fnOf "_law_come_ties" "_law_come_ties" (defArgs sComeT) (defBody sComeT) (defScope sComeT) .none kV38 dc38 pm38 an38 cd38 ct38), sl38⟩)
    (c38 : PySem.W.codeIn K cd38 "_law_come_ties" = true)
    (k38 : PySem.W.keepIn K (.ref f38) = true)
    (a39 : PySem.W.nsIn K mainGlobals "_law_shape_ties" = some (some (.ref f39)))
    (l39 : K.lookup f39 = some ⟨oc39, od39, .func (PySem.W.fnOf "_law_shape_ties" "_law_shape_ties" (defArgs sShape) (defBody sShape) (defScope sShape) .none kV39 dc39 pm39 an39 cd39 ct39), sl39⟩)
    (c39 : PySem.W.codeIn K cd39 "_law_shape_ties" = true)
    (k39 : PySem.W.keepIn K (.ref f39) = true)
    (a40 : PySem.W.nsIn K mainGlobals "_law_grown" = some (some (.ref f40)))
    (l40 : K.lookup f40 = some ⟨oc40, od40, .func (PySem.W.fnOf "_law_grown" "_law_grown" (defArgs sGrown) (defBody sGrown) (defScope sGrown) .none kV40 dc40 pm40 an40 cd40 ct40), sl40⟩)
    (c40 : PySem.W.codeIn K cd40 "_law_grown" = true)
    (k40 : PySem.W.keepIn K (.ref f40) = true)
    (a41 : PySem.W.nsIn K mainGlobals "_law_next_dead" = some (some (.ref f41)))
    (l41 : K.lookup f41 = some ⟨oc41, od41, .func (PySem.W.fnOf "_law_next_dead" "_law_next_dead" (defArgs sNextD) (defBody sNextD) (defScope sNextD) .none kV41 dc41 pm41 an41 cd41 ct41), sl41⟩)
    (c41 : PySem.W.codeIn K cd41 "_law_next_dead" = true)
    (k41 : PySem.W.keepIn K (.ref f41) = true)
    (a42 : PySem.W.nsIn K mainGlobals "_law_history" = some (some (.ref f42)))
    (l42 : K.lookup f42 = some ⟨oc42, od42, .func (PySem.W.fnOf "_law_history" "_law_history" (defArgs sHist) (defBody sHist) (defScope sHist) .none kV42 dc42 pm42 an42 cd42 ct42), sl42⟩)
    (c42 : PySem.W.codeIn K cd42 "_law_history" = true)
    (k42 : PySem.W.keepIn K (.ref f42) = true)
    (a43 : PySem.W.nsIn K mainGlobals "_law_near" = some (some (.ref f43)))
    (l43 : K.lookup f43 = some ⟨oc43, od43, .func (PySem.W.fnOf "_law_near" "_law_near" (defArgs sNear) (defBody sNear) (defScope sNear) .none kV43 dc43 pm43 an43 cd43 ct43), sl43⟩)
    (c43 : PySem.W.codeIn K cd43 "_law_near" = true)
    (k43 : PySem.W.keepIn K (.ref f43) = true)
    (a44 : PySem.W.nsIn K mainGlobals "_law_fars" = some (some (.ref f44)))
    (l44 : K.lookup f44 = some ⟨oc44, od44, .func (PySem.W.fnOf "_law_fars" "_law_fars" (defArgs sFars) (defBody sFars) (defScope sFars) .none kV44 dc44 pm44 an44 cd44 ct44), sl44⟩)
    (c44 : PySem.W.codeIn K cd44 "_law_fars" = true)
    (k44 : PySem.W.keepIn K (.ref f44) = true)
    (a45 : PySem.W.nsIn K mainGlobals "_law_slots_of" = some (some (.ref f45)))
    (l45 : K.lookup f45 = some ⟨oc45, od45, .func (PySem.W.fnOf "_law_slots_of" "_law_slots_of" (defArgs sLSlots) (defBody sLSlots) (defScope sLSlots) .none kV45 dc45 pm45 an45 cd45 ct45), sl45⟩)
    (c45 : PySem.W.codeIn K cd45 "_law_slots_of" = true)
    (k45 : PySem.W.keepIn K (.ref f45) = true)
    (a46 : PySem.W.nsIn K mainGlobals "_law_dead_parts" = some (some (.ref f46)))
    (l46 : K.lookup f46 = some ⟨oc46, od46, .func (PySem.W.fnOf "_law_dead_parts" "_law_dead_parts" (defArgs sLDead) (defBody sLDead) (defScope sLDead) .none kV46 dc46 pm46 an46 cd46 ct46), sl46⟩)
    (c46 : PySem.W.codeIn K cd46 "_law_dead_parts" = true)
    (k46 : PySem.W.keepIn K (.ref f46) = true)
    (a47 : PySem.W.nsIn K mainGlobals "_law_rims_of" = some (some (.ref f47)))
    (l47 : K.lookup f47 = some ⟨oc47, od47, .func (PySem.W.fnOf "_law_rims_of" "_law_rims_of" (defArgs sLRims) (defBody sLRims) (defScope sLRims) .none kV47 dc47 pm47 an47 cd47 ct47), sl47⟩)
    (c47 : PySem.W.codeIn K cd47 "_law_rims_of" = true)
    (k47 : PySem.W.keepIn K (.ref f47) = true)
    (a48 : PySem.W.nsIn K mainGlobals "_law_right" = some (some (.ref f48)))
    (l48 : K.lookup f48 = some ⟨oc48, od48, .func (PySem.W.fnOf "_law_right" "_law_right" (defArgs sRight) (defBody sRight) (defScope sRight) .none kV48 dc48 pm48 an48 cd48 ct48), sl48⟩)
    (c48 : PySem.W.codeIn K cd48 "_law_right" = true)
    (k48 : PySem.W.keepIn K (.ref f48) = true)
    (a49 : PySem.W.nsIn K mainGlobals "law" = some (some (.ref f49)))
    (l49 : K.lookup f49 = some ⟨oc49, od49, .func (PySem.W.fnOf "law" "law" (defArgs sLaw) (defBody sLaw) (defScope sLaw) .none kV49 dc49 pm49 an49 cd49 ct49), sl49⟩)
    (c49 : PySem.W.codeIn K cd49 "law" = true)
    (k49 : PySem.W.keepIn K (.ref f49) = true)
    (aC : PySem.W.nsIn K mainGlobals "History" = some (some (.ref C)))
    (aCm0 : PySem.W.findIn K (.ref C) "__init__" = some (some (.ref fCm0)))
    (lCm0 : K.lookup fCm0 = some ⟨ocCm0, odCm0, .func (PySem.W.fnOf "__init__" "History.__init__" (defArgs sInitH) (defBody sInitH) (defScope sInitH) .none kVCm0 dcCm0 pmCm0 anCm0 cdCm0 ctCm0), slCm0⟩)
    (cCm0 : PySem.W.codeIn K cdCm0 "History.__init__" = true)
    (kCm0 : PySem.W.keepIn K (.ref fCm0) = true)
    (iCm0 : PySem.W.isFn K (.ref fCm0) = true)
    (pgC : PySem.W.plainGet K C Str.empty = true)
    (hdC : PySem.W.hasDictIn K C = true)
    (poC : PySem.W.plainOver K C = true)
    (saC : PySem.W.findIn K (.ref C) "__setattr__" = some (some (.builtin "object.__setattr__")))
    (mkC : PySem.W.makesIn K C = true)
    (kCC : PySem.W.keepIn K (.ref C) = true)
    (eNC : PySem.W.findIn K (.ref C) "__ne__" = some (some (.builtin "object.__ne__")))
    (eHC : PySem.W.findIn K (.ref C) "__class__" = some (some (.builtin "object.__class__")))
    (eMC : PySem.W.mroIn K C (.type "object") = some true)
    (eYC : PySem.W.typeIn K (.ref C) = some (.type "type"))
    (nC_text : PySem.W.findIn K (.ref C) "text" = some none)
    (nC_deeds : PySem.W.findIn K (.ref C) "deeds" = some none)
    (nC_living : PySem.W.findIn K (.ref C) "living" = some none)
    (nC_dead : PySem.W.findIn K (.ref C) "dead" = some none)
    (fCS_ : PySem.W.notFirst K C (.type "str") = true)
    (fCN_ : PySem.W.notFirst K C (.type "NoneType") = true)
    (fCT_ : PySem.W.notFirst K C (.type "tuple") = true)
    (fCI_ : PySem.W.notFirst K C (.type "int") = true)
    (aCW : PySem.W.nsIn K mainGlobals "Web" = some (some (.ref CW)))
    (aCWm0 : PySem.W.findIn K (.ref CW) "__init__" = some (some (.ref fCWm0)))
    (lCWm0 : K.lookup fCWm0 = some ⟨ocCWm0, odCWm0, .func (PySem.W.fnOf "__init__" "Web.__init__" (defArgs sInitW) (defBody sInitW) (defScope sInitW) .none kVCWm0 dcCWm0 pmCWm0 anCWm0 cdCWm0 ctCWm0), slCWm0⟩)
    (cCWm0 : PySem.W.codeIn K cdCWm0 "Web.__init__" = true)
    (kCWm0 : PySem.W.keepIn K (.ref fCWm0) = true)
    (iCWm0 : PySem.W.isFn K (.ref fCWm0) = true)
    (aCWm1 : PySem.W.findIn K (.ref CW) "far_by_place" = some (some (.ref fCWm1)))
    (lCWm1 : K.lookup fCWm1 = some ⟨ocCWm1, odCWm1, .func (PySem.W.fnOf "far_by_place" "Web.far_by_place" (defArgs sFarBy) (defBody sFarBy) (defScope sFarBy) .none kVCWm1 dcCWm1 pmCWm1 anCWm1 cdCWm1 ctCWm1), slCWm1⟩)
    (cCWm1 : PySem.W.codeIn K cdCWm1 "Web.far_by_place" = true)
    (kCWm1 : PySem.W.keepIn K (.ref fCWm1) = true)
    (iCWm1 : PySem.W.isFn K (.ref fCWm1) = true)
    (pgCW : PySem.W.plainGet K CW Str.empty = true)
    (hdCW : PySem.W.hasDictIn K CW = true)
    (poCW : PySem.W.plainOver K CW = true)
    (saCW : PySem.W.findIn K (.ref CW) "__setattr__" = some (some (.builtin "object.__setattr__")))
    (mkCW : PySem.W.makesIn K CW = true)
    (kCCW : PySem.W.keepIn K (.ref CW) = true)
    (eNCW : PySem.W.findIn K (.ref CW) "__ne__" = some (some (.builtin "object.__ne__")))
    (eHCW : PySem.W.findIn K (.ref CW) "__class__" = some (some (.builtin "object.__class__")))
    (eMCW : PySem.W.mroIn K CW (.type "object") = some true)
    (eYCW : PySem.W.typeIn K (.ref CW) = some (.type "type"))
    (nCW_text : PySem.W.findIn K (.ref CW) "text" = some none)
    (nCW_places : PySem.W.findIn K (.ref CW) "places" = some none)
    (nCW_ties : PySem.W.findIn K (.ref CW) "ties" = some none)
    (nCW__tied : PySem.W.findIn K (.ref CW) "_tied" = some none)
    (fCWS_ : PySem.W.notFirst K CW (.type "str") = true)
    (fCWN_ : PySem.W.notFirst K CW (.type "NoneType") = true)
    (fCWT_ : PySem.W.notFirst K CW (.type "tuple") = true)
    (fCWI_ : PySem.W.notFirst K CW (.type "int") = true)
    (eG : PySem.W.specialIn K (.builtin "object.__class__") "__get__" = some (some (.builtin "getset_descriptor.__get__")))
    (eT : PySem.W.takesIn K (.builtin "object.__class__") = some true)
    (g_LONGEST_NAME : PySem.W.nsIn K mainGlobals "LONGEST_NAME" = some (some (.int 8 tL)))
    (g_MOST_PLACES : PySem.W.nsIn K mainGlobals "MOST_PLACES" = some (some (.int 200 tM)))
    (g_MOST_DEEDS : PySem.W.nsIn K mainGlobals "MOST_DEEDS" = some (some (.int 400 tD)))
    (z0 : PySem.W.nsIn K mainGlobals "len" = some none)
    (z1 : PySem.W.nsIn K mainGlobals "sum" = some none)
    (z2 : PySem.W.nsIn K mainGlobals "int" = some none)
    (z3 : PySem.W.nsIn K mainGlobals "abs" = some none)
    (z4 : PySem.W.nsIn K mainGlobals "list" = some none)
    (z5 : PySem.W.nsIn K mainGlobals "range" = some none)
    (z6 : PySem.W.nsIn K mainGlobals "max" = some none)
    (z7 : PySem.W.nsIn K mainGlobals "min" = some none)
    (z8 : PySem.W.nsIn K mainGlobals "isinstance" = some none)
    (z9 : PySem.W.nsIn K mainGlobals "str" = some none)
    (z10 : PySem.W.nsIn K mainGlobals "tuple" = some none)
    (z11 : PySem.W.nsIn K mainGlobals "all" = some none)
    (z12 : PySem.W.nsIn K mainGlobals "zip" = some none)
    (z13 : PySem.W.nsIn K mainGlobals "enumerate" = some none)
    (z14 : PySem.W.nsIn K mainGlobals "dict" = some none)
    (z15 : PySem.W.nsIn K mainGlobals "sorted" = some none)
    (z16 : PySem.W.nsIn K mainGlobals "repr" = some none)
    : ∃ fd : FuncData, (∀ (s : Shared) (v : Value), BindsTo s fd ⟨[v], []⟩ [("script", v)]) ∧ ∀ base : Heap, K.In base → base.Ns mainGlobals mg → FnG P w K mg base CX0 10 fa fd ["script"] (spLaw K) := by
  have e := hfa.symm.trans (PySem.W.mg_of X G a49)
  cases e
  have B : Blt mg := ⟨PySem.W.mg_none_of X G z0, PySem.W.mg_none_of X G z1, PySem.W.mg_none_of X G z2, PySem.W.mg_none_of X G z3, PySem.W.mg_none_of X G z4, PySem.W.mg_none_of X G z5, PySem.W.mg_none_of X G z6, PySem.W.mg_none_of X G z7⟩
  have B3 : Blt3 mg := ⟨PySem.W.mg_none_of X G z8, PySem.W.mg_none_of X G z9, PySem.W.mg_none_of X G z10, PySem.W.mg_none_of X G z11, PySem.W.mg_none_of X G z12, PySem.W.mg_none_of X G z13, PySem.W.mg_none_of X G z14, PySem.W.mg_none_of X G z15, ⟨_, PySem.W.mg_of X G g_LONGEST_NAME⟩, ⟨_, PySem.W.mg_of X G g_MOST_PLACES⟩⟩
  have T : TxtH K mg C := ⟨⟨pgC, hdC, poC, saC⟩, nC_text, nC_deeds, nC_living, nC_dead, PySem.W.mg_of X G aC⟩
  have TW : TxtW K mg CW := ⟨⟨pgCW, hdCW, poCW, saCW⟩, nCW_text, nCW_places, nCW_ties, nCW__tied, PySem.W.mg_of X G aCW⟩
  have M : Mk K C fCm0 := ⟨mkC, aCm0, iCm0, kCC⟩
  have MW : Mk K CW fCWm0 := ⟨mkCW, aCWm0, iCWm0, kCCW⟩
  have M1 : Meth K CW "far_by_place" fCWm1 := ⟨aCWm1, iCWm1, kCWm1⟩
  have Cq : ClsQ K mg CW := ⟨eHCW, eG, eT, eMCW, kit_no hdCW eYCW (sub_bt (l := [.type "str", .type "object"]) (by decide +kernel) (by simp)), kit_no hdCW eYCW (sub_bt (l := [.type "NoneType", .type "object"]) (by decide +kernel) (by simp)), kit_no hdCW eYCW (sub_bt (l := [.type "tuple", .type "object"]) (by decide +kernel) (by simp)), kit_no hdCW eYCW (sub_bt (l := [.type "int", .type "object"]) (by decide +kernel) (by simp)), fCWS_, fCWN_, fCWT_, fCWI_⟩
  have F0 := fun_mk (st := sIsName) l0 c0 k0
  have b0 := F0.binds (ps := ["value"]) fun _ _ _ _ _ _ us hl => match us, hl with | [_], _ => rfl
  have F1 := fun_mk (st := sAsc) l1 c1 k1
  have b1 := F1.binds (ps := ["values"]) fun _ _ _ _ _ _ us hl => match us, hl with | [_], _ => rfl
  have F2 := fun_mk (st := sPair) l2 c2 k2
  have b2 := F2.binds (ps := ["one", "other"]) fun _ _ _ _ _ _ us hl => match us, hl with | [_, _], _ => rfl
  have F3 := fun_mk (st := sTied) l3 c3 k3
  have b3 := F3.binds (ps := ["places", "ties"]) fun _ _ _ _ _ _ us hl => match us, hl with | [_, _], _ => rfl
  have F4 := fun_mk (st := sAlong) l4 c4 k4
  have b4 := F4.binds (ps := ["tied", "place"]) fun _ _ _ _ _ _ us hl => match us, hl with | [_, _], _ => rfl
  have F5 := fun_mk (st := sReadW) l5 c5 k5
  have b5 := F5.binds (ps := ["text"]) fun _ _ _ _ _ _ us hl => match us, hl with | [_], _ => rfl
  have F6 := fun_mk (st := sReadT) l6 c6 k6
  have b6 := F6.binds (ps := ["lines", "places"]) fun _ _ _ _ _ _ us hl => match us, hl with | [_, _], _ => rfl
  have F7 := fun_mk (st := sArePl) l7 c7 k7
  have b7 := F7.binds (ps := ["value"]) fun _ _ _ _ _ _ us hl => match us, hl with | [_], _ => rfl
  have F8 := fun_mk (st := sIsTie) l8 c8 k8
  have b8 := F8.binds (ps := ["value", "known"]) fun _ _ _ _ _ _ us hl => match us, hl with | [_, _], _ => rfl
  have F9 := fun_mk (st := sAreTs) l9 c9 k9
  have b9 := F9.binds (ps := ["value", "places"]) fun _ _ _ _ _ _ us hl => match us, hl with | [_, _], _ => rfl
  have F10 := fun_mk (st := sWebOf) l10 c10 k10
  have b10 := F10.binds (ps := ["places", "ties"]) fun _ _ _ _ _ _ us hl => match us, hl with | [_, _], _ => rfl
  have F11 := fun_mk (st := sPartsOf) l11 c11 k11
  have b11 := F11.binds (ps := ["web"]) fun _ _ _ _ _ _ us hl => match us, hl with | [_], _ => rfl
  have F12 := fun_mk (st := sIsLiv) l12 c12 k12
  have b12 := F12.binds (ps := ["value", "lives"]) fun _ _ _ _ _ _ us hl => match us, hl with | [_, _], _ => rfl
  have F13 := fun_mk (st := sAreLiv) l13 c13 k13
  have b13 := F13.binds (ps := ["value", "lives"]) fun _ _ _ _ _ _ us hl => match us, hl with | [_, _], _ => rfl
  have F14 := fun_mk (st := sCanCome) l14 c14 k14
  have b14 := F14.binds (ps := ["name", "ties", "lives"]) fun _ _ _ _ _ _ us hl => match us, hl with | [_, _, _], _ => rfl
  have F15 := fun_mk (st := sCanStand) l15 c15 k15
  have b15 := F15.binds (ps := ["value", "lives", "many"]) fun _ _ _ _ _ _ us hl => match us, hl with | [_, _, _], _ => rfl
  have F16 := fun_mk (st := sReadD1) l16 c16 k16
  have b16 := F16.binds (ps := ["line"]) fun _ _ _ _ _ _ us hl => match us, hl with | [_], _ => rfl
  have F17 := fun_mk (st := sReadDs) l17 c17 k17
  have b17 := F17.binds (ps := ["text"]) fun _ _ _ _ _ _ us hl => match us, hl with | [_], _ => rfl
  have F18 := fun_mk (st := sLivesB) l18 c18 k18
  have b18 := F18.binds (ps := ["deeds"]) fun _ _ _ _ _ _ us hl => match us, hl with | [_], _ => rfl
  have F19 := fun_mk (st := sNamesT) l19 c19 k19
  have b19 := F19.binds (ps := ["live", "lives"]) fun _ _ _ _ _ _ us hl => match us, hl with | [_, _], _ => rfl
  have F20 := fun_mk (st := sAllPl) l20 c20 k20
  have b20 := F20.binds (ps := ["history"]) fun _ _ _ _ _ _ us hl => match us, hl with | [_], _ => rfl
  have F21 := fun_mk (st := sAllEl) l21 c21 k21
  have b21 := F21.binds (ps := ["history"]) fun _ _ _ _ _ _ us hl => match us, hl with | [_], _ => rfl
  have F22 := fun_mk (st := sElWeb) l22 c22 k22
  have b22 := F22.binds (ps := ["history"]) fun _ _ _ _ _ _ us hl => match us, hl with | [_], _ => rfl
  have F23 := fun_mk (st := sSlots) l23 c23 k23
  have b23 := F23.binds (ps := ["history"]) fun _ _ _ _ _ _ us hl => match us, hl with | [_], _ => rfl
  have F24 := fun_mk (st := sDeadP) l24 c24 k24
  have b24 := F24.binds (ps := ["history"]) fun _ _ _ _ _ _ us hl => match us, hl with | [_], _ => rfl
  have F25 := fun_mk (st := sRims) l25 c25 k25
  have b25 := F25.binds (ps := ["history"]) fun _ _ _ _ _ _ us hl => match us, hl with | [_], _ => rfl
  have F26 := fun_mk (st := sRimOf) l26 c26 k26
  have b26 := F26.binds (ps := ["part", "pairs"]) fun _ _ _ _ _ _ us hl => match us, hl with | [_, _], _ => rfl
  have F27 := fun_mk (st := sPot) l27 c27 k27
  have b27 := F27.binds (ps := ["script", "place"]) fun _ _ _ _ _ _ us hl => match us, hl with | [_, _], _ => rfl
  have F28 := fun_mk (st := sTake) l28 c28 k28
  have b28 := F28.binds (ps := ["pot", "upto"]) fun _ _ _ _ _ _ us hl => match us, hl with | [_, _], _ => rfl
  have F29 := fun_mk (st := sOf) l29 c29 k29
  have b29 := F29.binds (ps := ["pot", "some"]) fun _ _ _ _ _ _ us hl => match us, hl with | [_, _], _ => rfl
  have F30 := fun_mk (st := sSome) l30 c30 k30
  have b30 := F30.binds (ps := ["pot", "pool", "many"]) fun _ _ _ _ _ _ us hl => match us, hl with | [_, _, _], _ => rfl
  have F31 := fun_mk (st := sCells) l31 c31 k31
  have b31 := F31.binds (ps := ["script", "most"]) fun _ _ _ _ _ _ us hl => match us, hl with | [_, _], _ => rfl
  have F32 := fun_mk (st := sNames) l32 c32 k32
  have b32 := F32.binds (ps := ["pot", "many"]) fun _ _ _ _ _ _ us hl => match us, hl with | [_, _], _ => rfl
  have F33 := fun_mk (st := sTie) l33 c33 k33
  have b33 := F33.binds (ps := ["one", "other"]) fun _ _ _ _ _ _ us hl => match us, hl with | [_, _], _ => rfl
  have F34 := fun_mk (st := sHText) l34 c34 k34
  have b34 := F34.binds (ps := ["deeds"]) fun _ _ _ _ _ _ us hl => match us, hl with | [_], _ => rfl
  have F35 := fun_mk (st := sLiving) l35 c35 k35
  have b35 := F35.binds (ps := ["deeds"]) fun _ _ _ _ _ _ us hl => match us, hl with | [_], _ => rfl
  have F36 := fun_mk (st := sElder) l36 c36 k36
  have b36 := F36.binds (ps := ["deeds"]) fun _ _ _ _ _ _ us hl => match us, hl with | [_], _ => rfl
  have F37 := fun_mk (st := sCounts) l37 c37 k37
  have b37 := F37.binds (ps := ["deeds"]) fun _ _ _ _ _ _ us hl => match us, hl with | [_], _ => rfl
  have F38 := fun_mk (st := sComeT) l38 c38 k38
  have b38 := F38.binds (ps := ["pot", "living", "wood"]) fun _ _ _ _ _ _ us hl => match us, hl with | [_, _, _], _ => rfl
  have F39 := fun_mk (st := sShape) l39 c39 k39
  have b39 := F39.binds (ps := ["pot", "here", "shape", "wide", "wood"]) fun _ _ _ _ _ _ us hl => match us, hl with | [_, _, _, _, _], _ => rfl
  have F40 := fun_mk (st := sGrown) l40 c40 k40
  have b40 := F40.binds (ps := ["pot", "names", "wood"]) fun _ _ _ _ _ _ us hl => match us, hl with | [_, _, _], _ => rfl
  have F41 := fun_mk (st := sNextD) l41 c41 k41
  have b41 := F41.binds (ps := ["pot", "deeds", "living", "way"]) fun _ _ _ _ _ _ us hl => match us, hl with | [_, _, _, _], _ => rfl
  have F42 := fun_mk (st := sHist) l42 c42 k42
  have b42 := F42.binds (ps := ["pot", "places", "more", "wood"]) fun _ _ _ _ _ _ us hl => match us, hl with | [_, _, _, _], _ => rfl
  have F43 := fun_mk (st := sNear) l43 c43 k43
  have b43 := F43.binds (ps := ["places", "ties"]) fun _ _ _ _ _ _ us hl => match us, hl with | [_, _], _ => rfl
  have F44 := fun_mk (st := sFars) l44 c44 k44
  have b44 := F44.binds (ps := ["near", "name"]) fun _ _ _ _ _ _ us hl => match us, hl with | [_, _], _ => rfl
  have F45 := fun_mk (st := sLSlots) l45 c45 k45
  have b45 := F45.binds (ps := ["deeds"]) fun _ _ _ _ _ _ us hl => match us, hl with | [_], _ => rfl
  have F46 := fun_mk (st := sLDead) l46 c46 k46
  have b46 := F46.binds (ps := ["deeds"]) fun _ _ _ _ _ _ us hl => match us, hl with | [_], _ => rfl
  have F47 := fun_mk (st := sLRims) l47 c47 k47
  have b47 := F47.binds (ps := ["deeds"]) fun _ _ _ _ _ _ us hl => match us, hl with | [_], _ => rfl
  have F48 := fun_mk (st := sRight) l48 c48 k48
  have b48 := F48.binds (ps := ["pot"]) fun _ _ _ _ _ _ us hl => match us, hl with | [_], _ => rfl
  have F49 := fun_mk (st := sLaw) l49 c49 k49
  have b49 := F49.binds (ps := ["script"]) fun _ _ _ _ _ _ us hl => match us, hl with | [_], _ => rfl
  have FCm0 := fun_mk (st := sInitH) lCm0 cCm0 kCm0
  have bCm0 := FCm0.binds (ps := ["self", "text"]) fun _ _ _ _ _ _ us hl => match us, hl with | [_, _], _ => rfl
  have FCWm0 := fun_mk (st := sInitW) lCWm0 cCWm0 kCWm0
  have bCWm0 := FCWm0.binds (ps := ["self", "text"]) fun _ _ _ _ _ _ us hl => match us, hl with | [_, _], _ => rfl
  have FCWm1 := fun_mk (st := sFarBy) lCWm1 cCWm1 kCWm1
  have bCWm1 := FCWm1.binds (ps := ["self", "place"]) fun _ _ _ _ _ _ us hl => match us, hl with | [_, _], _ => rfl
  refine ⟨PySem.W.fnOf "law" "law" (defArgs sLaw) (defBody sLaw) (defScope sLaw) .none kV49 dc49 pm49 an49 cd49 ct49, fun s v => .of_eq rfl, fun base _ _ => ?_⟩
  have G0 : FnOk P w K mg base CX0 1 f0 _ ["value"] spIsName := ok_isname F0 B B3
  have G1 : FnOk P w K mg base CX0 1 f1 _ ["values"] (spAsc K) := ok_asc F1 B3
  have GAT : FnOk P w K mg base CX0 1 f1 _ ["values"] (spAscT K) := ok_ascT F1 B3
  have G2 : FnOk P w K mg base CX0 1 f2 _ ["one", "other"] spTie := ok_pair F2
  have G8 : FnOk P w K mg base CX0 1 f8 _ ["value", "known"] spIsTie := ok_istie F8 B B3
  have G3 : FnOk P w K mg base CX0 1 f3 _ ["places", "ties"] spTied := ok_tied F3
  have G7 : FnOk P w K mg base CX0 2 f7 _ ["value"] spArePl := ok_arepl F7 B B3 G0 (PySem.W.mg_of X G a0) k0 b0 G1 (PySem.W.mg_of X G a1) k1 b1
  have G6 : FnOk P w K mg base CX0 2 f6 _ ["lines", "places"] spReadT := ok_readt F6 B B3 G8 (PySem.W.mg_of X G a8) k8 b8
  have G5 : FnOk P w K mg base CX0 3 f5 _ ["text"] spReadW := ok_readw F5 B B3 G7 (PySem.W.mg_of X G a7) k7 b7 G6 (PySem.W.mg_of X G a6) k6 b6
  have GIW : FnOk P w K mg base CX0 4 fCWm0 _ ["self", "text"] (spInitW CW) := ok_initW FCWm0 TW G5 (PySem.W.mg_of X G a5) k5 b5 (G3.mono (show 1 ≤ 3 by decide)) (PySem.W.mg_of X G a3) k3 b3
  have G4 : FnOk P w K mg base CX0 1 f4 _ ["tied", "place"] spFars := ok_along F4 B
  have GB : FnOk P w K mg base CX0 2 fCWm1 _ ["self", "place"] (spFarBy CW) := ok_farby FCWm1 TW G4 (PySem.W.mg_of X G a4) k4 b4
  have G11 : FnOk P w K mg base CX0 3 f11 _ ["web"] (spPartsOf CW) := ok_partsof F11 TW B3 M1 GB bCWm1
  have G9 : FnOk P w K mg base CX0 2 f9 _ ["value", "places"] spAreTs := ok_arets F9 B B3 G8 (PySem.W.mg_of X G a8) k8 b8 GAT (PySem.W.mg_of X G a1) k1 b1
  have G10 : FnOk P w K mg base CX0 6 f10 _ ["places", "ties"] (spWebOf CW) := ok_webof (j := 4) (by decide) F10 TW MW (G7.mono (show 2 ≤ 5 by decide)) (PySem.W.mg_of X G a7) k7 b7 (G9.mono (show 2 ≤ 5 by decide)) (PySem.W.mg_of X G a9) k9 b9 GIW bCWm0
  have hM : ∃ t, mg "MOST_DEEDS" = some (.int 400 t) := ⟨_, PySem.W.mg_of X G g_MOST_DEEDS⟩
  have G12 : FnOk P w K mg base CX0 1 f12 _ ["value", "lives"] spIsLiv := ok_isliv F12 B3
  have G13 : FnOk P w K mg base CX0 2 f13 _ ["value", "lives"] spAreLiv := ok_areliv F13 B3 G12 (PySem.W.mg_of X G a12) k12 b12 G1 (PySem.W.mg_of X G a1) k1 b1
  have G14 : FnOk P w K mg base CX0 3 f14 _ ["name", "ties", "lives"] spCanCome := ok_cancome F14 B B3 (G0.mono (show 1 ≤ 2 by decide)) (PySem.W.mg_of X G a0) k0 b0 G13 (PySem.W.mg_of X G a13) k13 b13
  have G15 : FnOk P w K mg base CX0 4 f15 _ ["value", "lives", "many"] spCanStand := ok_canstand F15 B B3 hM G14 (PySem.W.mg_of X G a14) k14 b14 (G12.mono (show 1 ≤ 3 by decide)) (PySem.W.mg_of X G a12) k12 b12
  have G16 : FnOk P w K mg base CX0 1 f16 _ ["line"] spReadD1 := ok_readd1 F16 B B3
  have G17 : FnOk P w K mg base CX0 5 f17 _ ["text"] spReadDs := ok_readds F17 B B3 (G16.mono (show 1 ≤ 4 by decide)) (PySem.W.mg_of X G a16) k16 b16 G15 (PySem.W.mg_of X G a15) k15 b15
  have G18 : FnOk P w K mg base CX0 1 f18 _ ["deeds"] spLivesB := ok_livesb F18
  have G19 : FnOk P w K mg base CX0 1 f19 _ ["live", "lives"] spNamesT := ok_namest F19 B3.sorted B3.tuple
  have GI : FnOk P w K mg base CX0 6 fCm0 _ ["self", "text"] (spInitH C) := ok_initH FCm0 T G17 (PySem.W.mg_of X G a17) k17 b17 (G18.mono (show 1 ≤ 5 by decide)) (PySem.W.mg_of X G a18) k18 b18 (G19.mono (show 1 ≤ 5 by decide)) (PySem.W.mg_of X G a19) k19 b19
  have G20 : FnOk P w K mg base CX0 1 f20 _ ["history"] (spAllPl C) := ok_allpl F20 T B3.sorted B3.tuple
  have G21 : FnOk P w K mg base CX0 2 f21 _ ["history"] (spAllEl C) := ok_allel F21 T B3.sorted G2 (PySem.W.mg_of X G a2) k2 b2
  have G22 : FnOk P w K mg base CX0 7 f22 _ ["history"] (spElWeb C CW) := ok_elweb F22 B3.tuple G10 (PySem.W.mg_of X G a10) k10 b10 (G20.mono (show 1 ≤ 6 by decide)) (PySem.W.mg_of X G a20) k20 b20 (G21.mono (show 2 ≤ 6 by decide)) (PySem.W.mg_of X G a21) k21 b21
  have G23 : FnOk P w K mg base CX0 3 f23 _ ["history"] (spSlots C) := ok_slots F23 T B3.sorted B3.tuple G21 (PySem.W.mg_of X G a21) k21 b21
  have G24 : FnOk P w K mg base CX0 7 f24 _ ["history"] (spDeadP C) := ok_deadp F24 T B3.tuple (G21.mono (show 2 ≤ 6 by decide)) (PySem.W.mg_of X G a21) k21 b21 G10 (PySem.W.mg_of X G a10) k10 b10 (G11.mono (show 3 ≤ 6 by decide)) (PySem.W.mg_of X G a11) k11 b11
  have G26 : FnOk P w K mg base CX0 1 f26 _ ["part", "pairs"] spRimOf := ok_rimof F26 B3.sorted B3.tuple
  have G25 : FnOk P w K mg base CX0 8 f25 _ ["history"] (spRims C) := ok_rims F25 B3.tuple (G23.mono (show 3 ≤ 7 by decide)) (PySem.W.mg_of X G a23) k23 b23 G24 (PySem.W.mg_of X G a24) k24 b24 (G26.mono (show 1 ≤ 7 by decide)) (PySem.W.mg_of X G a26) k26 b26
  have G27 : FnOk P w K mg base CX0 1 f27 _ ["script", "place"] (spPot K) := ok_pot F27 B
  have G28 : FnOk P w K mg base CX0 1 f28 _ ["pot", "upto"] spTake := ok_take F28 B
  have G29 : FnOk P w K mg base CX0 2 f29 _ ["pot", "some"] (spOf2 K) := ok_of2 F29 B G28 (PySem.W.mg_of X G a28) k28 b28
  have G30 : FnOk P w K mg base CX0 2 f30 _ ["pot", "pool", "many"] spSome := ok_some F30 B G28 (PySem.W.mg_of X G a28) k28 b28
  have G31 : FnOk P w K mg base CX0 1 f31 _ ["script", "most"] (spCells K) := ok_cells F31 B
  have G32 : FnOk P w K mg base CX0 3 f32 _ ["pot", "many"] spNames := ok_names F32 B (G28.mono (show 1 ≤ 2 by decide)) (PySem.W.mg_of X G a28) k28 b28 G29 (PySem.W.mg_of X G a29) k29 b29
  have G33 : FnOk P w K mg base CX0 1 f33 _ ["one", "other"] spTie := ok_tie F33 B
  have G34 : FnOk P w K mg base CX0 1 f34 _ ["deeds"] spHText := ok_htext F34 B
  have G35 : FnOk P w K mg base CX0 1 f35 _ ["deeds"] spLiving := ok_living F35 B B3.sorted
  have G36 : FnOk P w K mg base CX0 2 f36 _ ["deeds"] spElder := ok_elder F36 B B3.sorted G33 (PySem.W.mg_of X G a33) k33 b33
  have G37 : FnOk P w K mg base CX0 1 f37 _ ["deeds"] spCounts := ok_counts F37 B
  have G38 : FnOk P w K mg base CX0 3 f38 _ ["pot", "living", "wood"] spComeT := ok_comeT F38 B B3.sorted B3.tuple (G28.mono (show 1 ≤ 2 by decide)) (PySem.W.mg_of X G a28) k28 b28 G29 (PySem.W.mg_of X G a29) k29 b29 G30 (PySem.W.mg_of X G a30) k30 b30
  have G39 : FnOk P w K mg base CX0 4 f39 _ ["pot", "here", "shape", "wide", "wood"] spShape := ok_shape F39 B B3.sorted B3.tuple G38 (PySem.W.mg_of X G a38) k38 b38
  have G40 : FnOk P w K mg base CX0 5 f40 _ ["pot", "names", "wood"] spGrown := ok_grown F40 (G28.mono (show 1 ≤ 4 by decide)) (PySem.W.mg_of X G a28) k28 b28 G39 (PySem.W.mg_of X G a39) k39 b39
  have G41 : FnOk P w K mg base CX0 3 f41 _ ["pot", "deeds", "living", "way"] spNextD := ok_nextd F41 B B3.sorted B3.dict G29 (PySem.W.mg_of X G a29) k29 b29 (G37.mono (show 1 ≤ 2 by decide)) (PySem.W.mg_of X G a37) k37 b37 G36 (PySem.W.mg_of X G a36) k36 b36
  have G42 : FnOk P w K mg base CX0 6 f42 _ ["pot", "places", "more", "wood"] spHist := ok_hist F42 B (G28.mono (show 1 ≤ 5 by decide)) (PySem.W.mg_of X G a28) k28 b28 (G29.mono (show 2 ≤ 5 by decide)) (PySem.W.mg_of X G a29) k29 b29 (G32.mono (show 3 ≤ 5 by decide)) (PySem.W.mg_of X G a32) k32 b32 G40 (PySem.W.mg_of X G a40) k40 b40 (G35.mono (show 1 ≤ 5 by decide)) (PySem.W.mg_of X G a35) k35 b35 (G38.mono (show 3 ≤ 5 by decide)) (PySem.W.mg_of X G a38) k38 b38 (G41.mono (show 3 ≤ 5 by decide)) (PySem.W.mg_of X G a41) k41 b41
  have G43 : FnOk P w K mg base CX0 1 f43 _ ["places", "ties"] spNear := ok_near F43 B3.dict
  have G44 : FnOk P w K mg base CX0 1 f44 _ ["near", "name"] spFars := ok_fars F44
  have G45 : FnOk P w K mg base CX0 3 f45 _ ["deeds"] spLSlots := ok_lslots F45 B3.sorted (G35.mono (show 1 ≤ 2 by decide)) (PySem.W.mg_of X G a35) k35 b35 G36 (PySem.W.mg_of X G a36) k36 b36
  have G46 : FnOk P w K mg base CX0 3 f46 _ ["deeds"] spLDead := ok_ldead F46 B B3 G36 (PySem.W.mg_of X G a36) k36 b36 (G43.mono (show 1 ≤ 2 by decide)) (PySem.W.mg_of X G a43) k43 b43 (G44.mono (show 1 ≤ 2 by decide)) (PySem.W.mg_of X G a44) k44 b44
  have G47 : FnOk P w K mg base CX0 4 f47 _ ["deeds"] spLRims := ok_lrims F47 B B3 G46 (PySem.W.mg_of X G a46) k46 b46 G45 (PySem.W.mg_of X G a45) k45 b45
  have kb22 : KBinds K (PySem.W.fnOf "elder_web" "elder_web" (defArgs sElWeb) (defBody sElWeb) (defScope sElWeb) .none kV22 dc22 pm22 an22 cd22 ct22) ["history"] ["history"] gSame gVSame := kbS1 fun s a => .of_eq rfl
  have kb23 : KBinds K (PySem.W.fnOf "slots" "slots" (defArgs sSlots) (defBody sSlots) (defScope sSlots) .none kV23 dc23 pm23 an23 cd23 ct23) ["history"] ["history"] gSame gVSame := kbS1 fun s a => .of_eq rfl
  have kb24 : KBinds K (PySem.W.fnOf "dead_parts" "dead_parts" (defArgs sDeadP) (defBody sDeadP) (defScope sDeadP) .none kV24 dc24 pm24 an24 cd24 ct24) ["history"] ["history"] gSame gVSame := kbS1 fun s a => .of_eq rfl
  have kb25 : KBinds K (PySem.W.fnOf "rims" "rims" (defArgs sRims) (defBody sRims) (defScope sRims) .none kV25 dc25 pm25 an25 cd25 ct25) ["history"] ["history"] gSame gVSame := kbS1 fun s a => .of_eq rfl
  have G48 : FnG P w K mg base CX0 9 f48 _ ["pot"] spRight := ok_right (j := 6) (by decide) F48 B B3 (PySem.W.mg_none_of X G z16) T TW M Cq (G28.mono (show 1 ≤ 8 by decide)) (PySem.W.mg_of X G a28) k28 b28 (G29.mono (show 2 ≤ 8 by decide)) (PySem.W.mg_of X G a29) k29 b29 (G42.mono (show 6 ≤ 8 by decide)) (PySem.W.mg_of X G a42) k42 b42 (G34.mono (show 1 ≤ 8 by decide)) (PySem.W.mg_of X G a34) k34 b34 (G36.mono (show 2 ≤ 8 by decide)) (PySem.W.mg_of X G a36) k36 b36 (G22.mono (show 7 ≤ 8 by decide)) (PySem.W.mg_of X G a22) k22 kb22 (G23.mono (show 3 ≤ 8 by decide)) (PySem.W.mg_of X G a23) k23 kb23 (G24.mono (show 7 ≤ 8 by decide)) (PySem.W.mg_of X G a24) k24 kb24 G25 (PySem.W.mg_of X G a25) k25 kb25 (G45.mono (show 3 ≤ 8 by decide)) (PySem.W.mg_of X G a45) k45 b45 (G46.mono (show 3 ≤ 8 by decide)) (PySem.W.mg_of X G a46) k46 b46 (G47.mono (show 4 ≤ 8 by decide)) (PySem.W.mg_of X G a47) k47 b47 GI bCm0
  exact ok_law F49 B B3.all (G27.mono (show 1 ≤ 9 by decide)) (PySem.W.mg_of X G a27) k27 b27 (G31.mono (show 1 ≤ 9 by decide)) (PySem.W.mg_of X G a31) k31 b31 G48 (PySem.W.mg_of X G a48) k48 b48
end Hw

set_option Elab.async false
open PySem PySem.W PyProof.Rows
set_option maxRecDepth 100000 in
set_option maxHeartbeats 0 in
theorem PySem.Challenge.cw_healedwebs_k07_whole_elder_webs_slots_an_holds : PySem.Challenge.rw_healedwebs_k07_whole_elder_webs_slots_an.Holds := by
  w_on; o_law; k_head; (case hw => w_witness2)
  k_fill
  refine Hw.walkG (l := PySem.Challenge.rw_healedwebs_k07_whole_elder_webs_slots_an) (n := 63) (k := 10) (x := "script") (sp := fun w => Hw.spLaw _) rfl (by decide) rfl ⟨rfl, by decide, by decide⟩ (fun w h Y => PySem.W.kIn_of Y) ?F (fun _ _ a ns hl _ hS => ⟨a, ns, rfl, hS, hl, fun _ => rfl⟩)
  case F =>
    intro w mg fa h KX G hmg
    refine' Hw.all_mk KX G hmg ?q_a0 ?q_l0 ?q_c0 ?q_k0 ?q_a1 ?q_l1 ?q_c1 ?q_k1 ?q_a2 ?q_l2 ?q_c2 ?q_k2 ?q_a3 ?q_l3 ?q_c3 ?q_k3 ?q_a4 ?q_l4 ?q_c4 ?q_k4 ?q_a5 ?q_l5 ?q_c5 ?q_k5 ?q_a6 ?q_l6 ?q_c6 ?q_k6 ?q_a7 ?q_l7 ?q_c7 ?q_k7 ?q_a8 ?q_l8 ?q_c8 ?q_k8 ?q_a9 ?q_l9 ?q_c9 ?q_k9 ?q_a10 ?q_l10 ?q_c10 ?q_k10 ?q_a11 ?q_l11 ?q_c11 ?q_k11 ?q_a12 ?q_l12 ?q_c12 ?q_k12 ?q_a13 ?q_l13 ?q_c13 ?q_k13 ?q_a14 ?q_l14 ?q_c14 ?q_k14 ?q_a15 ?q_l15 ?q_c15 ?q_k15 ?q_a16 ?q_l16 ?q_c16 ?q_k16 ?q_a17 ?q_l17 ?q_c17 ?q_k17 ?q_a18 ?q_l18 ?q_c18 ?q_k18 ?q_a19 ?q_l19 ?q_c19 ?q_k19 ?q_a20 ?q_l20 ?q_c20 ?q_k20 ?q_a21 ?q_l21 ?q_c21 ?q_k21 ?q_a22 ?q_l22 ?q_c22 ?q_k22 ?q_a23 ?q_l23 ?q_c23 ?q_k23 ?q_a24 ?q_l24 ?q_c24 ?q_k24 ?q_a25 ?q_l25 ?q_c25 ?q_k25 ?q_a26 ?q_l26 ?q_c26 ?q_k26 ?q_a27 ?q_l27 ?q_c27 ?q_k27 ?q_a28 ?q_l28 ?q_c28 ?q_k28 ?q_a29 ?q_l29 ?q_c29 ?q_k29 ?q_a30 ?q_l30 ?q_c30 ?q_k30 ?q_a31 ?q_l31 ?q_c31 ?q_k31 ?q_a32 ?q_l32 ?q_c32 ?q_k32 ?q_a33 ?q_l33 ?q_c33 ?q_k33 ?q_a34 ?q_l34 ?q_c34 ?q_k34 ?q_a35 ?q_l35 ?q_c35 ?q_k35 ?q_a36 ?q_l36 ?q_c36 ?q_k36 ?q_a37 ?q_l37 ?q_c37 ?q_k37 ?q_a38 ?q_l38 ?q_c38 ?q_k38 ?q_a39 ?q_l39 ?q_c39 ?q_k39 ?q_a40 ?q_l40 ?q_c40 ?q_k40 ?q_a41 ?q_l41 ?q_c41 ?q_k41 ?q_a42 ?q_l42 ?q_c42 ?q_k42 ?q_a43 ?q_l43 ?q_c43 ?q_k43 ?q_a44 ?q_l44 ?q_c44 ?q_k44 ?q_a45 ?q_l45 ?q_c45 ?q_k45 ?q_a46 ?q_l46 ?q_c46 ?q_k46 ?q_a47 ?q_l47 ?q_c47 ?q_k47 ?q_a48 ?q_l48 ?q_c48 ?q_k48 ?q_a49 ?q_l49 ?q_c49 ?q_k49 ?q_aC ?q_aCm0 ?q_lCm0 ?q_cCm0 ?q_kCm0 ?q_iCm0 ?q_pgC ?q_hdC ?q_poC ?q_saC ?q_mkC ?q_kCC ?q_eNC ?q_eHC ?q_eMC ?q_eYC ?q_nC_text ?q_nC_deeds ?q_nC_living ?q_nC_dead ?q_fCS_ ?q_fCN_ ?q_fCT_ ?q_fCI_ ?q_aCW ?q_aCWm0 ?q_lCWm0 ?q_cCWm0 ?q_kCWm0 ?q_iCWm0 ?q_aCWm1 ?q_lCWm1 ?q_cCWm1 ?q_kCWm1 ?q_iCWm1 ?q_pgCW ?q_hdCW ?q_poCW ?q_saCW ?q_mkCW ?q_kCCW ?q_eNCW ?q_eHCW ?q_eMCW ?q_eYCW ?q_nCW_text ?q_nCW_places ?q_nCW_ties ?q_nCW__tied ?q_fCWS_ ?q_fCWN_ ?q_fCWT_ ?q_fCWI_ ?q_eG ?q_eT ?q_g_LONGEST_NAME ?q_g_MOST_PLACES ?q_g_MOST_DEEDS ?q_z0 ?q_z1 ?q_z2 ?q_z3 ?q_z4 ?q_z5 ?q_z6 ?q_z7 ?q_z8 ?q_z9 ?q_z10 ?q_z11 ?q_z12 ?q_z13 ?q_z14 ?q_z15 ?q_z16
    (case q_a0 => k_is)
    (case q_a1 => k_is)
    (case q_a2 => k_is)
    (case q_a3 => k_is)
    (case q_a4 => k_is)
    (case q_a5 => k_is)
    (case q_a6 => k_is)
    (case q_a7 => k_is)
    (case q_a8 => k_is)
    (case q_a9 => k_is)
    (case q_a10 => k_is)
    (case q_a11 => k_is)
    (case q_a12 => k_is)
    (case q_a13 => k_is)
    (case q_a14 => k_is)
    (case q_a15 => k_is)
    (case q_a16 => k_is)
    (case q_a17 => k_is)
    (case q_a18 => k_is)
    (case q_a19 => k_is)
    (case q_a20 => k_is)
    (case q_a21 => k_is)
    (case q_a22 => k_is)
    (case q_a23 => k_is)
    (case q_a24 => k_is)
    (case q_a25 => k_is)
    (case q_a26 => k_is)
    (case q_a27 => k_is)
    (case q_a28 => k_is)
    (case q_a29 => k_is)
    (case q_a30 => k_is)
    (case q_a31 => k_is)
    (case q_a32 => k_is)
    (case q_a33 => k_is)
    (case q_a34 => k_is)
    (case q_a35 => k_is)
    (case q_a36 => k_is)
    (case q_a37 => k_is)
    (case q_a38 => k_is)
    (case q_a39 => k_is)
    (case q_a40 => k_is)
    (case q_a41 => k_is)
    (case q_a42 => k_is)
    (case q_a43 => k_is)
    (case q_a44 => k_is)
    (case q_a45 => k_is)
    (case q_a46 => k_is)
    (case q_a47 => k_is)
    (case q_a48 => k_is)
    (case q_a49 => k_is)
    (case q_aC => k_is)
    (case q_aCW => k_is)
    (case q_aCm0 => k_is)
    (case q_aCWm0 => k_is)
    (case q_aCWm1 => k_is)
    (case q_l0 => k_is)
    (case q_c0 => k_is)
    (case q_k0 => k_is)
    (case q_l1 => k_is)
    (case q_c1 => k_is)
    (case q_k1 => k_is)
    (case q_l2 => k_is)
    (case q_c2 => k_is)
    (case q_k2 => k_is)
    (case q_l3 => k_is)
    (case q_c3 => k_is)
    (case q_k3 => k_is)
    (case q_l4 => k_is)
    (case q_c4 => k_is)
    (case q_k4 => k_is)
    (case q_l5 => k_is)
    (case q_c5 => k_is)
    (case q_k5 => k_is)
    (case q_l6 => k_is)
    (case q_c6 => k_is)
    (case q_k6 => k_is)
    (case q_l7 => k_is)
    (case q_c7 => k_is)
    (case q_k7 => k_is)
    (case q_l8 => k_is)
    (case q_c8 => k_is)
    (case q_k8 => k_is)
    (case q_l9 => k_is)
    (case q_c9 => k_is)
    (case q_k9 => k_is)
    (case q_l10 => k_is)
    (case q_c10 => k_is)
    (case q_k10 => k_is)
    (case q_l11 => k_is)
    (case q_c11 => k_is)
    (case q_k11 => k_is)
    (case q_l12 => k_is)
    (case q_c12 => k_is)
    (case q_k12 => k_is)
    (case q_l13 => k_is)
    (case q_c13 => k_is)
    (case q_k13 => k_is)
    (case q_l14 => k_is)
    (case q_c14 => k_is)
    (case q_k14 => k_is)
    (case q_l15 => k_is)
    (case q_c15 => k_is)
    (case q_k15 => k_is)
    (case q_l16 => k_is)
    (case q_c16 => k_is)
    (case q_k16 => k_is)
    (case q_l17 => k_is)
    (case q_c17 => k_is)
    (case q_k17 => k_is)
    (case q_l18 => k_is)
    (case q_c18 => k_is)
    (case q_k18 => k_is)
    (case q_l19 => k_is)
    (case q_c19 => k_is)
    (case q_k19 => k_is)
    (case q_l20 => k_is)
    (case q_c20 => k_is)
    (case q_k20 => k_is)
    (case q_l21 => k_is)
    (case q_c21 => k_is)
    (case q_k21 => k_is)
    (case q_l22 => k_is)
    (case q_c22 => k_is)
    (case q_k22 => k_is)
    (case q_l23 => k_is)
    (case q_c23 => k_is)
    (case q_k23 => k_is)
    (case q_l24 => k_is)
    (case q_c24 => k_is)
    (case q_k24 => k_is)
    (case q_l25 => k_is)
    (case q_c25 => k_is)
    (case q_k25 => k_is)
    (case q_l26 => k_is)
    (case q_c26 => k_is)
    (case q_k26 => k_is)
    (case q_l27 => k_is)
    (case q_c27 => k_is)
    (case q_k27 => k_is)
    (case q_l28 => k_is)
    (case q_c28 => k_is)
    (case q_k28 => k_is)
    (case q_l29 => k_is)
    (case q_c29 => k_is)
    (case q_k29 => k_is)
    (case q_l30 => k_is)
    (case q_c30 => k_is)
    (case q_k30 => k_is)
    (case q_l31 => k_is)
    (case q_c31 => k_is)
    (case q_k31 => k_is)
    (case q_l32 => k_is)
    (case q_c32 => k_is)
    (case q_k32 => k_is)
    (case q_l33 => k_is)
    (case q_c33 => k_is)
    (case q_k33 => k_is)
    (case q_l34 => k_is)
    (case q_c34 => k_is)
    (case q_k34 => k_is)
    (case q_l35 => k_is)
    (case q_c35 => k_is)
    (case q_k35 => k_is)
    (case q_l36 => k_is)
    (case q_c36 => k_is)
    (case q_k36 => k_is)
    (case q_l37 => k_is)
    (case q_c37 => k_is)
    (case q_k37 => k_is)
    (case q_l38 => k_is)
    (case q_c38 => k_is)
    (case q_k38 => k_is)
    (case q_l39 => k_is)
    (case q_c39 => k_is)
    (case q_k39 => k_is)
    (case q_l40 => k_is)
    (case q_c40 => k_is)
    (case q_k40 => k_is)
    (case q_l41 => k_is)
    (case q_c41 => k_is)
    (case q_k41 => k_is)
    (case q_l42 => k_is)
    (case q_c42 => k_is)
    (case q_k42 => k_is)
    (case q_l43 => k_is)
    (case q_c43 => k_is)
    (case q_k43 => k_is)
    (case q_l44 => k_is)
    (case q_c44 => k_is)
    (case q_k44 => k_is)
    (case q_l45 => k_is)
    (case q_c45 => k_is)
    (case q_k45 => k_is)
    (case q_l46 => k_is)
    (case q_c46 => k_is)
    (case q_k46 => k_is)
    (case q_l47 => k_is)
    (case q_c47 => k_is)
    (case q_k47 => k_is)
    (case q_l48 => k_is)
    (case q_c48 => k_is)
    (case q_k48 => k_is)
    (case q_l49 => k_is)
    (case q_c49 => k_is)
    (case q_k49 => k_is)
    (case q_lCm0 => k_is)
    (case q_cCm0 => k_is)
    (case q_kCm0 => k_is)
    (case q_iCm0 => k_is)
    (case q_pgC => k_is)
    (case q_hdC => k_is)
    (case q_poC => k_is)
    (case q_saC => k_is)
    (case q_mkC => k_is)
    (case q_kCC => k_is)
    (case q_eNC => k_is)
    (case q_eHC => k_is)
    (case q_eMC => k_is)
    (case q_eYC => k_is)
    (case q_nC_text => k_is)
    (case q_nC_deeds => k_is)
    (case q_nC_living => k_is)
    (case q_nC_dead => k_is)
    (case q_fCS_ => k_is)
    (case q_fCN_ => k_is)
    (case q_fCT_ => k_is)
    (case q_fCI_ => k_is)
    (case q_lCWm0 => k_is)
    (case q_cCWm0 => k_is)
    (case q_kCWm0 => k_is)
    (case q_iCWm0 => k_is)
    (case q_lCWm1 => k_is)
    (case q_cCWm1 => k_is)
    (case q_kCWm1 => k_is)
    (case q_iCWm1 => k_is)
    (case q_pgCW => k_is)
    (case q_hdCW => k_is)
    (case q_poCW => k_is)
    (case q_saCW => k_is)
    (case q_mkCW => k_is)
    (case q_kCCW => k_is)
    (case q_eNCW => k_is)
    (case q_eHCW => k_is)
    (case q_eMCW => k_is)
    (case q_eYCW => k_is)
    (case q_nCW_text => k_is)
    (case q_nCW_places => k_is)
    (case q_nCW_ties => k_is)
    (case q_nCW__tied => k_is)
    (case q_fCWS_ => k_is)
    (case q_fCWN_ => k_is)
    (case q_fCWT_ => k_is)
    (case q_fCWI_ => k_is)
    (case q_eG => k_is)
    (case q_eT => k_is)
    (case q_g_LONGEST_NAME => k_is)
    (case q_g_MOST_PLACES => k_is)
    (case q_g_MOST_DEEDS => k_is)
    (case q_z0 => k_is)
    (case q_z1 => k_is)
    (case q_z2 => k_is)
    (case q_z3 => k_is)
    (case q_z4 => k_is)
    (case q_z5 => k_is)
    (case q_z6 => k_is)
    (case q_z7 => k_is)
    (case q_z8 => k_is)
    (case q_z9 => k_is)
    (case q_z10 => k_is)
    (case q_z11 => k_is)
    (case q_z12 => k_is)
    (case q_z13 => k_is)
    (case q_z14 => k_is)
    (case q_z15 => k_is)
    (case q_z16 => k_is)
